import PyProof.Rows.All
import Wide.All
import OpenK.AllK
import Wide.FinOn
import PySem.Challenge.RW_joinload_k02_a_field
set_option Elab.async false
namespace K2
open PySem PySem.W PySem.Calls PyProof.Rows
theorem pow_pos2 (k : Nat) : (0 : Int) < 2 ^ k := Int.pow_pos (by decide)
def pw (m : Int) : Int := 2 ^ m.toNat
theorem pw_pos (m : Int) : 0 < pw m := pow_pos2 _
def onesF (m : Int) : Int := pw m - 1
def movedF (n up : Int) : Int := if up < 0 then n.fdiv (pw (-up)) else n * pw up
theorem moved_down {n up : Int} (h : up < 0) : n.fdiv (2 ^ (-up).toNat) = movedF n up := by
  unfold movedF; rw [if_pos h]; rfl
theorem moved_up {n up : Int} (h : ¬ up < 0) : n * 2 ^ up.toNat = movedF n up := by
  unfold movedF; rw [if_neg h]; rfl
theorem ones_eq {m k : Int} (h : k = m ∨ (m ≤ 0 ∧ k = 0)) : (1 : Int) * 2 ^ k.toNat - 1 = onesF m := by
  have e : k.toNat = m.toNat := by omega
  rw [e, Int.one_mul]; rfl
def fieldF (w l m : Int) : Int := (w.fdiv (pw l)).fmod (pw m)
theorem field_eq {w l m : Int} (h : 0 ≤ l) : Builtin.bitAnd (movedF w (-l)) (onesF m) = fieldF w l m := by
  have e : movedF w (-l) = w.fdiv (pw l) := by
    unfold movedF
    by_cases c : l = 0
    · subst c
      rw [if_neg (by decide)]
      show w * 1 = w.fdiv 1
      rw [Int.fdiv_one, Int.mul_one]
    · rw [if_pos (by omega), Int.neg_neg]
  rw [e]
  show Builtin.bitAnd (w.fdiv (pw l)) (2 ^ m.toNat - 1) = _
  rw [kbt_maskF]
  rfl
structure Left (l0 : Int) (k : Nat) (l : Int) : Prop where
  eq : l = l0.fdiv (2 ^ k)
theorem left_start {l0 : Int} : Left l0 ([] : List Int).length l0 := ⟨(Int.fdiv_one l0).symm⟩
theorem left_turn {l0 l v q : Int} {pre : List Int} (h : Left l0 pre.length l) (d : q = l.fdiv 2) : Left l0 (pre ++ [v]).length q := by
  subst d
  have e : (pre ++ [v]).length = pre.length + 1 := by simp
  constructor
  rw [e, h.eq, Int.fdiv_eq_ediv_of_nonneg _ (Int.le_of_lt (pow_pos2 _)), Int.fdiv_eq_ediv_of_nonneg _ (by decide), Int.fdiv_eq_ediv_of_nonneg _ (Int.le_of_lt (pow_pos2 _)), Int.pow_succ, Int.ediv_ediv_of_nonneg (Int.le_of_lt (pow_pos2 _))]
structure Pow (k : Nat) (p : Int) : Prop where
  eq : p = 2 ^ k
theorem pow_start : Pow ([] : List Int).length 1 ∧ (0 : Int) < 1 := ⟨⟨rfl⟩, by decide⟩
theorem pow_turn {pre : List Int} {p v : Int} (h : Pow pre.length p) (q : 0 < p) : Pow (pre ++ [v]).length (p * 2) ∧ 0 < p * 2 := by
  have l : (pre ++ [v]).length = pre.length + 1 := by simp
  exact ⟨⟨by rw [l, Int.pow_succ, h.eq]⟩, by omega⟩
theorem same {w l m left p r : Int} {a b : Nat} (d : r = left.fmod p) (h1 : Left w (rangeKs 0 a).length left) (h2 : Pow (rangeKs 0 b).length p) (ha : a = l.toNat) (hb : b = m.toNat) : fieldF w l m = r := by
  have e1 := h1.eq
  have e2 := h2.eq
  rw [rangeKs_length] at e1 e2
  rw [d, e1, e2, ha, hb]; rfl
section
variable {prog : Program} {w : World} {A : Around} {E : Value → Shared → Prop} {s : Shared} {x y : Int} {t u : Tok} {Q : Value → Shared → Prop}
theorem item_both {value slice : PySem.Expr} {l : Addr} {vs : List Value} {ns : List Int} {k : Int} (hl : s.heap.IsList l vs.toArray) (hi : IntsAre vs ns) (h1 : -(ns.length : Int) ≤ k) (h2 : k < (ns.length : Int)) (hf : -(2 ^ 63) ≤ k) (hf' : k < 2 ^ 63) (h : ∀ n t, Q (.int n t) s)
    (hs : subscripted slice false (.ref l) (.int k u) = operate [.ref l, .int k u] (getItem (.ref l) (.int k u)) := by with_unfolding_all rfl) :
    wpAny (model prog w) A (subscriptTail value slice (.ref l) (.int k u)) Q E s := by
  by_cases c : k < 0
  · exact item_list_ints_negR hl hi c h1 hf (fun t => h _ t) hs
  · exact item_list_intsR hl hi (by omega) h2 hf' (fun t => h _ t) hs
theorem quot (x y : Int) : x = y * Int.fdiv x y + Int.fmod x y := by
  rw [Int.fmod_def]
  omega
theorem step_div (hy : 0 < y) (hs : y ≤ 100000) (h : ∀ q r, q = x.fdiv y → x = y * q + r → 0 ≤ r → r < y → Q (.int q s.toks) { s with toks := s.toks + 1 }) :
    wpAny (model prog w) A (binaryOp .FloorDiv (.int x t) (.int y u)) Q E s :=
  PyProof.Rows.floordiv_int (by omega) (h _ _ rfl (quot x y) (Int.fmod_nonneg_of_pos x hy) (Int.fmod_lt_of_pos x hy)) (Or.inl (PyProof.noPylong_small (by omega)))
theorem step_mod (hy : 0 < y) (h : ∀ k r, r = x.fmod y → x = y * k + r → 0 ≤ r → r < y → Q (.int r s.toks) { s with toks := s.toks + 1 }) :
    wpAny (model prog w) A (binaryOp .Mod (.int x t) (.int y u)) Q E s :=
  PyProof.Rows.mod_int (by omega) (h _ _ rfl (quot x y) (Int.fmod_nonneg_of_pos x hy) (Int.fmod_lt_of_pos x hy))
theorem step_eq (e : x = y) (h : Q (.bool true) s) : wpAny (model prog w) A (compareOp .Eq (.int x t) (.int y u)) Q E s := by
  refine PyProof.Rows.eq_int ?_
  have d : (x == y) = true := beq_iff_eq.mpr e
  rw [d]
  exact h
end
end K2
open PySem PySem.W PyProof.Rows
local macro_rules | `(tactic| walk_at "exec For Name BinOp cons nil") => `(tactic| (k_here; (rename Fr _ _ _ _ => lF'); (with_unfolding_all refine' For_invVF lF' ?k1 ?k2 ?_; (case k1 => exact rfl); (case k2 => exact rfl); k_whole)))
local macro_rules | `(tactic| walk_at "binaryOp FloorDiv int int") => `(tactic| (k_here; (with_reducible refine' K2.step_div ?k1 ?k2 ?_); (case k1 => k_dflt omega); (case k2 => k_dflt omega); intro q' r' d' e' hr0 hr1))
local macro_rules | `(tactic| walk_at "binaryOp Mod int int") => `(tactic| (k_here; (with_reducible refine' K2.step_mod ?k1 ?_); (case k1 => k_dflt omega); intro k' r' d' e' hr0 hr1))
local macro_rules | `(tactic| walk_at "subscriptTail Name BinOp ref int") => `(tactic| (k_here; (with_reducible show wpAny _ _ (subscriptTail _ _ (Value.ref _) (Value.int _ _)) _ _ _); (with_unfolding_all refine' K2.item_both ?k1 ?k2 ?k3 ?k4 ?k5 ?k6 ?_ ?k8; (case k1 => is_list); (case k2 => l_ints); (case k3 => l_idx); (case k4 => l_idx); (case k5 => l_idx); (case k6 => l_idx); (case k8 => with_unfolding_all rfl); k_whole); intro n9 t9))
local macro_rules | `(tactic| walk_at "compareOp Eq int int") => `(tactic| (k_here; (with_reducible refine' K2.step_eq ?k1 ?_); (case k1 => k_dflt (exact K2.same (by assumption) (by assumption) (by assumption) (by first | rfl | omega) (by first | rfl | omega)))))
set_option maxRecDepth 100000 in
set_option maxHeartbeats 8000000 in
theorem PySem.Challenge.cw_joinload_k02_a_field_holds : PySem.Challenge.rw_joinload_k02_a_field.Holds := by
  k_with "call ref" => k_call_rec "moved" K2.movedF (fun (n up : Int) => 0 ≤ n ∧ n ≤ 4294967296 ∧ up ≤ 100) (fun (_ _ : Int) => 1)
  k_with "call ref" => k_call_rec "ones" K2.onesF (fun (m : Int) => m ≤ 100) (fun (_ : Int) => 1)
  k_with "call ref" => k_call_rec "field" K2.fieldF (fun (w l m : Int) => 0 ≤ w ∧ w ≤ 4294967295 ∧ 0 ≤ l ∧ l ≤ 31 ∧ 1 ≤ m ∧ m ≤ 32) (fun (_ _ _ : Int) => 3)
  k_with "call ref" => k_call_rec "_law_whole" (fun (_ : Int) => true) (fun (_ : Int) => True) (fun (_ : Int) => 1)
  k_with "call ref" => k_call_rec "_law_holds" (fun (_ _ : Int) => true) (fun (_ _ : Int) => True) (fun (_ _ : Int) => 6)
  k_with "tree" => first
    | exact K2.moved_down (by omega)
    | exact K2.moved_up (by omega)
    | exact K2.ones_eq (by omega)
    | exact K2.field_eq (by omega)
  k_with "state" => first
    | exact K2.left_start
    | exact K2.left_turn (by assumption) (by assumption)
    | exact K2.pow_start
    | exact K2.pow_turn (by assumption) (by omega)
  k_with "pyIter ref" => k_search (fun _ => True)
  k_with "pyIter ref" => k_state_given ["_law_left!"] (fun l0 pre l => K2.Left l0 pre.length l) "_law_left"
  k_with "pyIter ref" => k_state (fun pre p => K2.Pow pre.length p ∧ 0 < p) "_law_power"
  open_k
#print axioms PySem.Challenge.cw_joinload_k02_a_field_holds
