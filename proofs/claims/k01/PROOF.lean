import PyProof.Rows.All
import Wide.All
import OpenK.AllK
import Wide.FinOn
import PySem.Challenge.RW_joinload_k01_wrapped_and_signed
set_option Elab.async false
namespace K1
open PySem PySem.W PySem.Calls PyProof.Rows
theorem pow_pos2 (k : Nat) : (0 : Int) < 2 ^ k := Int.pow_pos (by decide)
/-- the power of two -/
def pw (m : Int) : Int := 2 ^ m.toNat
theorem pw_pos (m : Int) : 0 < pw m := pow_pos2 _
theorem pw_half {m : Int} (h : 1 ≤ m) : pw m = 2 * pw (m - 1) := by
  unfold pw
  have e : m.toNat = (m - 1).toNat + 1 := by omega
  rw [e, Int.pow_succ, Int.mul_comm]
def sg (n m : Int) : Int := (n + pw (m - 1)).fmod (pw m) - pw (m - 1)
theorem sg_fact0 (n m : Int) (h : 1 ≤ m) : (n - sg n m).fmod (pw m) = 0 ∧ 0 - (pw m).fdiv 2 ≤ sg n m ∧ sg n m ≤ (pw m).fdiv 2 - 1 := by
  have p := pw_pos m
  have q := pw_half h
  have f : (pw m).fdiv 2 = pw (m - 1) := by
    rw [Int.fdiv_eq_ediv_of_nonneg _ (by decide)]; omega
  have r0 := Int.fmod_nonneg_of_pos (n + pw (m - 1)) p
  have r1 := Int.fmod_lt_of_pos (n + pw (m - 1)) p
  refine ⟨?_, ?_, ?_⟩
  · unfold sg
    have d := Int.mul_fdiv_add_fmod (n + pw (m - 1)) (pw m)
    have e : n - ((n + pw (m - 1)).fmod (pw m) - pw (m - 1)) = pw m * ((n + pw (m - 1)).fdiv (pw m)) := by omega
    rw [e, Int.mul_fmod_right]
  · rw [f]; unfold sg; omega
  · rw [f]; unfold sg; omega
theorem sg_fact (n m : Int) : m < 1 ∨ ((n - sg n m).fmod (pw m) = 0 ∧ 0 - (pw m).fdiv 2 ≤ sg n m ∧ sg n m ≤ (pw m).fdiv 2 - 1) := by
  by_cases h : 1 ≤ m
  · exact Or.inr (sg_fact0 n m h)
  · exact Or.inl (by omega)
/-- ones(many) -/
def onesF (m : Int) : Int := pw m - 1
/-- moved(number, up) -/
def movedF (n up : Int) : Int := if up < 0 then n.fdiv (pw (-up)) else n * pw up
theorem moved_down {n up : Int} (h : up < 0) : n.fdiv (2 ^ (-up).toNat) = movedF n up := by
  unfold movedF; rw [if_pos h]; rfl
theorem moved_up {n up : Int} (h : ¬ up < 0) : n * 2 ^ up.toNat = movedF n up := by
  unfold movedF; rw [if_neg h]; rfl
theorem ones_eq {m k : Int} (h : k = m ∨ (m ≤ 0 ∧ k = 0)) : (1 : Int) * 2 ^ k.toNat - 1 = onesF m := by
  have e : k.toNat = m.toNat := by omega
  rw [e, Int.one_mul]; rfl
theorem signed_eq {n m : Int} (h : 1 ≤ m) : Builtin.bitAnd (n + movedF 1 (m - 1)) (onesF m) - movedF 1 (m - 1) = sg n m := by
  have e : movedF 1 (m - 1) = pw (m - 1) := by
    unfold movedF; rw [if_neg (by omega), Int.one_mul]
  rw [e]
  show Builtin.bitAnd (n + pw (m - 1)) (2 ^ m.toNat - 1) - pw (m - 1) = _
  rw [kbt_maskF]
  rfl
theorem power_start : (1 : Int) = 2 ^ ([] : List Int).length := rfl
theorem power_turn {pre : List Int} {p v : Int} (h : p = 2 ^ pre.length) : p * 2 = 2 ^ (pre ++ [v]).length := by
  have l : (pre ++ [v]).length = pre.length + 1 := by simp
  rw [l, Int.pow_succ, h]
theorem power_out {m : Int} {k : Nat} {p : Int} (h : p = 2 ^ (rangeKs 0 k).length) (e : k = m.toNat) : p = pw m := by
  rw [h, rangeKs_length, e]; rfl
def wrapF (n : Int) : Int := n.fmod 4294967296
theorem wrap_out {n r : Int} (d : r = n.fmod 4294967296) : r = wrapF n := d
theorem wrap_fact (n : Int) : (4294967296 * n.fdiv 4294967296 + wrapF n = n) ∧ 0 ≤ wrapF n ∧ wrapF n < 4294967296 := by
  have h : n = 4294967296 * n.fdiv 4294967296 + n.fmod 4294967296 := by
    rw [Int.fmod_def]
    omega
  exact ⟨h.symm, Int.fmod_nonneg_of_pos n (by decide), Int.fmod_lt_of_pos n (by decide)⟩
def numBy (c : Int) : Int := if c.fmod 3 = 0 then (c.fdiv 3).fmod 2001 - 1000 else if c.fmod 3 = 1 then ((c.fdiv 3).fmod 9 - 4) * 2147483648 + ((c.fdiv 3).fdiv 9).fmod 5 - 2 else (c.fdiv 3 * 982451653).fmod (2 * 1000000000000000000000000000000000000000000000000000000000000 - 1) - (1000000000000000000000000000000000000000000000000000000000000 - 1)
theorem num_a {c q r a : Int} (d1 : r = c.fmod 3) (d2 : q = c.fdiv 3) (d3 : a = q.fmod 2001) (h : r = 0) : a - 1000 = numBy c := by
  subst d1 d2 d3; unfold numBy; rw [if_pos h]
theorem num_b {c q r a b e : Int} (d1 : r = c.fmod 3) (d2 : q = c.fdiv 3) (d3 : a = q.fmod 9) (d4 : b = q.fdiv 9) (d5 : e = b.fmod 5) (h : r = 1) : (a - 4) * 2147483648 + e - 2 = numBy c := by
  subst d1 d2 d3 d4 d5; unfold numBy; rw [if_neg (by omega), if_pos h]
theorem num_c {c q r a : Int} (d1 : r = c.fmod 3) (d2 : q = c.fdiv 3) (d3 : a = (q * 982451653).fmod (2 * 1000000000000000000000000000000000000000000000000000000000000 - 1)) (h0 : ¬ r = 0) (h1 : ¬ r = 1) : a - (1000000000000000000000000000000000000000000000000000000000000 - 1) = numBy c := by
  subst d1 d2 d3; unfold numBy; rw [if_neg h0, if_neg h1]
section
variable {prog : Program} {w : World} {A : Around} {E : Value → Shared → Prop} {s : Shared} {x y : Int} {t u : Tok} {Q : Value → Shared → Prop}
theorem pw60 : (10 : Int) ^ (60 : Int).toNat = 1000000000000000000000000000000000000000000000000000000000000 := by
  show (10 : Int) ^ 60 = _
  rfl
theorem step_pow60 (h : Q (.int 1000000000000000000000000000000000000000000000000000000000000 s.toks) { s with toks := s.toks + 1 }) :
    wpAny (model prog w) A (binaryOp .Pow (.int 10 t) (.int 60 u)) Q E s := by
  refine PyProof.Rows.pow_int_small (by decide) (by decide) (by decide) ?_
  rw [pw60]
  exact h
theorem quot (x y : Int) : x = y * Int.fdiv x y + Int.fmod x y := by
  rw [Int.fmod_def]
  omega
theorem step_div (hy : 0 < y) (hs : y ≤ 100000) (h : ∀ q r, q = x.fdiv y → x = y * q + r → 0 ≤ r → r < y → Q (.int q s.toks) { s with toks := s.toks + 1 }) :
    wpAny (model prog w) A (binaryOp .FloorDiv (.int x t) (.int y u)) Q E s :=
  PyProof.Rows.floordiv_int (by omega) (h _ _ rfl (quot x y) (Int.fmod_nonneg_of_pos x hy) (Int.fmod_lt_of_pos x hy)) (Or.inl (PyProof.noPylong_small (by omega)))
theorem step_mod (hy : 0 < y) (h : ∀ k r, r = x.fmod y → x = y * k + r → 0 ≤ r → r < y → Q (.int r s.toks) { s with toks := s.toks + 1 }) :
    wpAny (model prog w) A (binaryOp .Mod (.int x t) (.int y u)) Q E s :=
  PyProof.Rows.mod_int (by omega) (h _ _ rfl (quot x y) (Int.fmod_nonneg_of_pos x hy) (Int.fmod_lt_of_pos x hy))
end
end K1
open PySem PySem.W PyProof.Rows
local macro_rules | `(tactic| walk_at "binaryOp Pow int int") => `(tactic| (k_here; (with_reducible show wpAny _ _ (binaryOp Operator.Pow (Value.int 10 _) (Value.int 60 _)) _ _ _); k_dflt (refine K1.step_pow60 ?_)))
local macro_rules | `(tactic| walk_at "eval Call") => `(tactic| (k_here; (with_unfolding_all refine Call_ ?_)))
local macro_rules | `(tactic| walk_at "exec For Name BinOp cons nil") => `(tactic| (k_here; (rename Fr _ _ _ _ => lF'); (with_unfolding_all refine' For_invVF lF' ?k1 ?k2 ?_; (case k1 => exact rfl); (case k2 => exact rfl); k_whole)))
local macro_rules | `(tactic| walk_at "binaryOp FloorDiv int int") => `(tactic| (k_here; (with_reducible refine' K1.step_div ?k1 ?k2 ?_); (case k1 => k_dflt omega); (case k2 => k_dflt omega); intro q' r' d' e' hr0 hr1))
local macro_rules | `(tactic| walk_at "binaryOp Mod int int") => `(tactic| (k_here; (with_reducible refine' K1.step_mod ?k1 ?_); (case k1 => k_dflt omega); intro k' r' d' e' hr0 hr1))
set_option maxRecDepth 100000 in
set_option maxHeartbeats 8000000 in
theorem PySem.Challenge.cw_joinload_k01_wrapped_and_signed_holds : PySem.Challenge.rw_joinload_k01_wrapped_and_signed.Holds := by
  k_with "call ref" => k_call_rec "moved" K1.movedF (fun (n up : Int) => 0 ≤ n ∧ n ≤ 4294967296 ∧ up ≤ 100) (fun (_ _ : Int) => 1)
  k_with "call ref" => k_call_rec "ones" K1.onesF (fun (m : Int) => m ≤ 100) (fun (_ : Int) => 1)
  k_with "call ref" => k_call_rec "signed" K1.sg (fun (_ m : Int) => 1 ≤ m ∧ m ≤ 32) (fun (_ _ : Int) => 3)
  k_with "call ref" => k_call_rec "wrapped" K1.wrapF (fun (_ : Int) => True) (fun (_ : Int) => 1)
  k_with "call ref" => k_call_rec "_law_number_by" K1.numBy (fun (_ : Int) => True) (fun (_ : Int) => 1)
  k_with "call ref" => k_call_rec "_law_power" K1.pw (fun (m : Int) => 0 ≤ m ∧ m ≤ 100) (fun (_ : Int) => 1)
  k_with "call ref" => k_call_rec "_law_whole" (fun (_ : Int) => true) (fun (_ : Int) => True) (fun (_ : Int) => 1)
  k_with "call ref" => k_call_rec "_law_holds" (fun (_ : Int) => true) (fun (_ : Int) => True) (fun (_ : Int) => 6)
  k_with "fact wrapped" => exact K1.wrap_fact
  k_with "fact signed" => exact K1.sg_fact
  k_with "fact _law_power" => exact K1.pw_pos
  k_with "tree" => first
    | exact K1.wrap_out (by assumption)
    | exact K1.num_a (by assumption) (by assumption) (by assumption) (by omega)
    | exact K1.num_b (by assumption) (by assumption) (by assumption) (by assumption) (by assumption) (by omega)
    | exact K1.num_c (by assumption) (by assumption) (by assumption) (by omega) (by omega)
    | exact K1.moved_down (by omega)
    | exact K1.moved_up (by omega)
    | exact K1.ones_eq (by omega)
    | exact K1.signed_eq (by omega)
    | exact K1.power_out (by assumption) (by omega)
    | (exfalso; omega)
  k_with "state" => first
    | exact K1.power_start
    | exact K1.power_turn (by assumption)
  k_with "pyIter ref" => k_search (fun _ => True)
  k_with "pyIter ref" => k_state (fun pre p => p = 2 ^ pre.length) "_law_power_here"
  open_k
#print axioms PySem.Challenge.cw_joinload_k01_wrapped_and_signed_holds
