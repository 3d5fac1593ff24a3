import PyProof.Rows.All
import Wide.All
import OpenK.AllK
import Wide.FinOn
import Lean
import PyProof.EqAt
import PyProof.EqKinds
import PyProof.TupleCall
import PyProof.StationsW
import PyProof.ExcAttrAll.ValueError
import KE.KIsAll
import PyProof.RulesAs
import PyProof.NsDelKeeps
import PyProof.FString
import PyProof.FString4
import PyProof.Rows.FStr
import PyProof.Rows.FStrParts
import PyProof.StrCalls2
import PyProof.StrLawsRepr
import PyProof.StrLawsJoin
import PyProof.StrLaws
import PyProof.Rows.ReprOcc
import PyProof.ExcInit
import PyProof.InstStoreFacts
import KE.KDictOf
import PyProof.AttrMissHeap
import PyProof.AttrMissSeq
import PyProof.WalksS
import PyProof.Walks
import PyProof.Seq
import PyProof.DictList
import PyProof.DictUpdate
import PyProof.MakeMany
import PyProof.Rows.SetFrom
import PyProof.ZipIter
import PyProof.Rows.TupDisplay
import PyProof.EnumFor
import PyProof.EnumMake
import PyProof.EnumStmt
import PyProof.SeqI3
import PyProof.Rows.SumAny
import KE.KDictIter
import PyProof.DictWalks
import PyProof.StrLawsChain
import PyProof.StrLawsTight
import KE.KIntText
import PyProof.CallType
import PyProof.Rows.CallKwBuiltin
import PyProof.Draws
import PyProof.DefCall
import PySem.Challenge.RW_joinload_k41_whole_texts_both_ways
set_option Elab.async false
set_option linter.all false
set_option maxRecDepth 100000
set_option genSizeOfSpec false
/-! THE HAND LAYER, for ints, bools, texts, own classes, LISTS and tuples (index, slices, in, append, pop ..), calls, loops. Paste it whole ahead of your own text; what your proof does not reach may be deleted. -/
namespace L2
open PySem PySem.Spec PyProof.Rows

noncomputable abbrev Key := Sum Int Str
noncomputable def keyIs : Key → Value → Bool
  | .inl k, v => Value.isInt k v
  | .inr x, v => Value.isStrOf x v
noncomputable def keyH (w : World) : Key → Int
  | .inl k => hashInt k
  | .inr x => hashStr w x
theorem keyIs_shape : ∀ {k : Key} {v : Value}, keyIs k v = true → (∃ i t, k = Sum.inl i ∧ v = Value.int i t) ∨ (∃ x t, k = Sum.inr x ∧ v = Value.str x t)
  | .inl i, v, h => by
    obtain ⟨t, e⟩ := Value.isInt_shape (k := i) (v := v) h
    exact .inl ⟨i, t, rfl, e⟩
  | .inr x, v, h => by
    obtain ⟨t, e⟩ := Value.isStrOf_shape (x := x) (v := v) h
    exact .inr ⟨x, t, rfl, e⟩
theorem keyIs_int (i : Int) (t : Tok) : keyIs (.inl i) (.int i t) = true := by simp [keyIs, Value.isInt]
theorem keyIs_str (x : Str) (t : Tok) : keyIs (.inr x) (.str x t) = true := by simp [keyIs, Value.isStrOf]
theorem key_ll (a b : Int) : decide ((Sum.inl a : Key) = Sum.inl b) = (a == b) := by
  by_cases e : a = b
  · subst e; simp
  · have h : ¬ (Sum.inl a : Key) = Sum.inl b := fun q => e (Sum.inl.inj q)
    rw [decide_eq_false h]
    exact (beq_eq_false_iff_ne.mpr e).symm
theorem key_rr (a b : Str) : decide ((Sum.inr a : Key) = Sum.inr b) = decide (a = b) := by
  by_cases e : a = b
  · subst e; simp
  · have h : ¬ (Sum.inr a : Key) = Sum.inr b := fun q => e (Sum.inr.inj q)
    rw [decide_eq_false h, decide_eq_false e]
theorem key_lr (a : Int) (b : Str) : decide ((Sum.inl a : Key) = Sum.inr b) = false := decide_eq_false (fun q => nomatch q)
theorem key_rl (a : Str) (b : Int) : decide ((Sum.inr a : Key) = Sum.inl b) = false := decide_eq_false (fun q => nomatch q)

noncomputable def mixKind (prog : Program) (w : World) : PySem.KeyKind prog w Key where
  is := keyIs
  hash := keyH w
  inj := fun v a b ha hb => by
    rcases keyIs_shape ha with ⟨i, t, rfl, rfl⟩ | ⟨x, t, rfl, rfl⟩
    · rcases keyIs_shape hb with ⟨j, u, rfl, e⟩ | ⟨y, u, rfl, e⟩
      · injection e with e1 _; rw [e1]
      · exact nomatch e
    · rcases keyIs_shape hb with ⟨j, u, rfl, e⟩ | ⟨y, u, rfl, e⟩
      · exact nomatch e
      · injection e with e1 _; rw [e1]
  byValue := fun k v h => by
    rcases keyIs_shape h with ⟨i, t, rfl, rfl⟩ | ⟨x, t, rfl, rfl⟩ <;> rfl
  pyHash := fun hv h => by
    rcases keyIs_shape hv with ⟨i, t, rfl, rfl⟩ | ⟨x, t, rfl, rfl⟩
    · exact wpAny_pyHash_int h
    · exact wpAny_pyHash_str h
  eqBool := fun hu hv h => by
    rcases keyIs_shape hu with ⟨i, t, rfl, rfl⟩ | ⟨x, t, rfl, rfl⟩
    · rcases keyIs_shape hv with ⟨j, u, rfl, rfl⟩ | ⟨y, u, rfl, rfl⟩
      · rw [key_ll] at h; exact wpAny_eqBool_int h
      · rw [key_lr] at h; exact SeqAt.EqAt.int_str i t y u _ _ _ _ h
    · rcases keyIs_shape hv with ⟨j, u, rfl, rfl⟩ | ⟨y, u, rfl, rfl⟩
      · rw [key_rl] at h; exact SeqAt.EqAt.str_int x t j u _ _ _ _ h
      · rw [key_rr] at h; exact wpAny_eqBool_str h
  «strs» := fun k x t v h => by
    rcases keyIs_shape h with ⟨i, u, rfl, e⟩ | ⟨y, u, rfl, e⟩
    · exact nomatch e
    · injection e with e1 _
      subst e1
      cases v <;> rfl

theorem mixKind_int (prog : Program) (w : World) (i : Int) (t : Tok) : (mixKind prog w).is (.inl i) (.int i t) = true := keyIs_int i t
theorem mixKind_str (prog : Program) (w : World) (x : Str) (t : Tok) : (mixKind prog w).is (.inr x) (.str x t) = true := keyIs_str x t
end L2

namespace L2
open PySem PySem.Spec PyProof.Rows

inductive V where
  | non | bl (b : Bool) | int (i : Int) | str (x : Str) | byt (b : Array UInt8) | flt (b : UInt64) | ref (a : Addr) | ty (n : String)
  deriving DecidableEq

noncomputable def RelV : V → Value → Prop
  | .non, u => u = Value.none
  | .bl b, u => u = Value.bool b
  | .int i, u => ∃ t, u = Value.int i t
  | .str x, u => ∃ t, u = Value.str x t
  | .byt b, u => ∃ t, u = Value.bytes b t
  | .flt b, u => ∃ t, u = Value.float b t
  | .ref a, u => u = Value.ref a
  | .ty n, u => u = Value.type n

noncomputable abbrev Vals : List V → List Value → Prop := Paired RelV
theorem Vals.length {xs : List V} {us : List Value} (r : Vals xs us) : xs.length = us.length := Paired.length r
theorem Vals.get : ∀ {xs : List V} {us : List Value} {i : Nat} {x : V}, Vals xs us → xs[i]? = some x → ∃ u, us[i]? = some u ∧ RelV x u
  | _, _, _, _, .nil, e => by simp at e
  | _, _, 0, _, .cons r _, e => by simp at e; subst e; exact ⟨_, rfl, r⟩
  | _, _, i + 1, x, .cons _ t, e => by
    obtain ⟨u, h1, h2⟩ := Vals.get (i := i) (x := x) t (by simpa using e)
    exact ⟨u, by simpa using h1, h2⟩
theorem Vals.set {x : V} {u : Value} (r : RelV x u) : ∀ {xs : List V} {us : List Value} (i : Nat), Vals xs us → Vals (xs.set i x) (us.set i u)
  | _, _, _, .nil => .nil
  | _, _, 0, .cons _ t => .cons r t
  | _, _, i + 1, .cons q t => .cons q (Vals.set r i t)
theorem Vals.append : ∀ {xs ys : List V} {us ws : List Value}, Vals xs us → Vals ys ws → Vals (xs ++ ys) (us ++ ws)
  | _, _, _, _, .nil, s => s
  | _, _, _, _, .cons r t, s => .cons r (Vals.append t s)
theorem Vals.take : ∀ {xs : List V} {us : List Value} (n : Nat), Vals xs us → Vals (xs.take n) (us.take n)
  | _, _, 0, _ => .nil
  | _, _, _ + 1, .nil => .nil
  | _, _, n + 1, .cons r t => .cons r (Vals.take n t)
theorem Vals.drop : ∀ {xs : List V} {us : List Value} (n : Nat), Vals xs us → Vals (xs.drop n) (us.drop n)
  | _, _, 0, r => r
  | _, _, _ + 1, .nil => .nil
  | _, _, n + 1, .cons _ t => Vals.drop n t

noncomputable def RelO : Option V → Option Value → Prop
  | some v, some u => RelV v u
  | none, none => True
  | _, _ => False
noncomputable def KV {κ : Type} : List (κ × V) → List (κ × Value) → Prop := Paired fun (p : κ × V) (q : κ × Value) => p.1 = q.1 ∧ RelV p.2 q.2

noncomputable def kV : Key → V
  | .inl i => .int i
  | .inr x => .str x

inductive HO where
    | lst (xs : List V)
    | tup (xs : List V)
    | dK (kvs : List (Key × V)) | dT (kvs : List (List Key × V))
    | set (S : Int → Bool) (n : Nat)
    | ins (C dx : Addr) (fs : List (Str × V))
    | own (x : Addr)
    | xd (fs : List (Str × V))
    | met (f x : Addr)
    | rng (lo hi : Int)
    | frz (o : Obj) (u : HO)
    | tbl (ps : Array Value)
    | ext (φ : Heap → Prop)

noncomputable abbrev Hp := Addr → Option HO
noncomputable def upd (H : Hp) (a : Addr) (o : HO) : Hp := fun b => if b = a then some o else H b
theorem upd_same {H : Hp} {a : Addr} {o : HO} : upd H a o a = some o := by unfold upd; rw [if_pos rfl]
theorem upd_ne {H : Hp} {a b : Addr} {o : HO} (h : b ≠ a) : upd H a o b = H b := by unfold upd; rw [if_neg h]
theorem upd_upd {H : Hp} {a : Addr} {o u : HO} : upd (upd H a o) a u = upd H a u := by
  funext b; unfold upd; split <;> rfl
theorem ne_of {H : Hp} {a b : Addr} {o u : HO} (h : H a = some o) (h' : H b = some u) (d : o ≠ u) : a ≠ b := by
  intro e; subst e; rw [h] at h'; exact d (Option.some.inj h')
theorem ne_of_none {H : Hp} {a b : Addr} {o : HO} (h : H a = some o) (h' : H b = none) : a ≠ b := by
  intro e; subst e; rw [h] at h'; cases h'

section
variable (P : Program) (w : World)
noncomputable def ObjOk (H : Hp) (h : Heap) (a : Addr) : HO → Prop
  | .lst xs => xs.length ≤ sizeLine ∧ ∃ (its : List Value) (n : Nat), Vals xs its ∧ h.get? a = some { cls := .type "list", data := .seq its.toArray n }
  | .tup xs => xs.length ≤ sizeLine ∧ ∃ its : List Value, Vals xs its ∧ IsTup h a its.toArray
  | .dK kvs => kvs.length ≤ sizeLine ∧ (a == sysModules) = false ∧ ∃ vs, KV kvs vs ∧ h.DictOf (mixKind P w) a vs
  | .dT kvs => kvs.length ≤ sizeLine ∧ (a == sysModules) = false ∧ ∃ xs : List (List Key × Addr × Value),
      Paired (fun (p : List Key × V) (q : List Key × Addr × Value) => p.1 = q.1 ∧ H q.2.1 = some (.tup (p.1.map kV)) ∧ RelV p.2 q.2.2) kvs xs ∧
      ∃ o es ep, h.get? a = some o ∧ o.ExactDict ∧ o.data = .dict es ep ∧ es.toList = xs.map (entryOfKey (tupleKind (mixKind P w))) ∧ (xs.map (·.1)).Nodup
  | .set S n => h.SetOf (intKind P w) a S n
  | .ins C dx fs => H dx = some (.own a) ∧ fs.length ≤ 1000 ∧ dx ≠ a ∧ h.get? a = some (PySem.W.instObj C dx) ∧
      ∃ mA, h.Ns1 dx mA ∧ (∀ f, RelO (fs.lookup f) (mA f)) ∧ PySem.Within mA (fs.map (·.1))
  | .own _ => ∃ o, h.get? a = some o
  | .xd fs => ∃ mA, h.Ns1 a mA ∧ ∀ f, RelO (fs.lookup f) (mA f)
  | .rng lo hi => ∃ t u v, h.get? a = some { cls := .type "range", data := .fields #[.int lo t, .int hi u, .int 1 v] }
  | .frz o u => h.get? a = some o ∧ ObjOk H h a u
  | .tbl ps => h.get? a = some { cls := .none, data := .fields ps }
  | .met f x => h.get? a = some (PySem.W.methodObj (.ref f) (.ref x))
  | .ext φ => φ h ∧ (∃ o, h.get? a = some o) ∧ ∀ h1 h2 : Heap, φ h1 → (∀ o, h1.get? a = some o → h2.get? a = some o) → φ h2
noncomputable def HOk (H : Hp) (h : Heap) : Prop := ∀ a o, H a = some o → ObjOk P w H h a o
end

section
variable {P : Program} {w : World} {H H' : Hp} {h h' : Heap} {a : Addr} {o : HO}
theorem ObjOk.lt (x : ObjOk P w H h a o) : a < h.objs.size := by
  cases o with
  | lst xs => obtain ⟨_, _, _, _, e⟩ := x; exact Heap.lt_size e
  | tup xs => obtain ⟨_, _, _, p⟩ := x; exact p.lt
  | dK kvs => obtain ⟨_, _, _, _, o, _, _, e, _⟩ := x; exact Heap.lt_size e
  | dT kvs => obtain ⟨_, _, _, _, o, _, _, e, _⟩ := x; exact Heap.lt_size e
  | set S n => obtain ⟨o, _, _, _, e, _⟩ := x; exact Heap.lt_size e
  | ins C dx fs => obtain ⟨_, _, _, e, _⟩ := x; exact Heap.lt_size e
  | own y => obtain ⟨_, e⟩ := x; exact Heap.lt_size e
  | xd fs => obtain ⟨_, ⟨_, _, _, e, _⟩, _⟩ := x; exact Heap.lt_size e
  | rng lo hi => obtain ⟨_, _, _, e⟩ := x; exact Heap.lt_size e
  | frz ob u => obtain ⟨e, _⟩ := x; exact Heap.lt_size e
  | tbl ps => exact Heap.lt_size (show h.get? a = some _ from x)
  | met f y => exact Heap.lt_size (show h.get? a = some _ from x)
  | ext φ => obtain ⟨_, ⟨_, e⟩, _⟩ := x; exact Heap.lt_size e
theorem Paired.mapP {α β : Type} {F G : α → β → Prop} : ∀ {l₁ : List α} {l₂ : List β}, Paired F l₁ l₂ → (∀ a b, F a b → G a b) → Paired G l₁ l₂
  | _, _, .nil, _ => .nil
  | _, _, .cons r t, f => .cons (f _ _ r) (Paired.mapP t f)
theorem ObjOk.stay (x : ObjOk P w H h a o) (k : ∀ b u, (b = a ∨ H b = some (.own a)) → h.get? b = some u → h'.get? b = some u)
    (ho : ∀ b, H b = some (.own a) → H' b = some (.own a)) (ht : ∀ b xs, H b = some (.tup xs) → H' b = some (.tup xs)) : ObjOk P w H' h' a o := by
  induction o with
  | lst xs => obtain ⟨z, its, n, r, e⟩ := x; exact ⟨z, its, n, r, k _ _ (.inl rfl) e⟩
  | tup xs => obtain ⟨z, its, r, ob, e, c⟩ := x; exact ⟨z, its, r, ob, k _ _ (.inl rfl) e, c⟩
  | dK kvs => obtain ⟨z, y, vs, r, ob, es, ep, e, c⟩ := x; exact ⟨z, y, vs, r, ob, es, ep, k _ _ (.inl rfl) e, c⟩
  | dT kvs =>
    obtain ⟨z, y, xs, r, ob, es, ep, e, c⟩ := x
    exact ⟨z, y, xs, Paired.mapP r fun p q z => ⟨z.1, ht _ _ z.2.1, z.2.2⟩, ob, es, ep, k _ _ (.inl rfl) e, c⟩
  | set S n => obtain ⟨ob, es, ep, t, e, c⟩ := x; exact ⟨ob, es, ep, t, k _ _ (.inl rfl) e, c⟩
  | ins C dx fs =>
    obtain ⟨d, z, ne, e, mA, ⟨od, es, ep, e2, c⟩, r⟩ := x
    exact ⟨ho _ d, z, ne, k _ _ (.inl rfl) e, mA, ⟨od, es, ep, k _ _ (.inr d) e2, c⟩, r⟩
  | own y => obtain ⟨ob, e⟩ := x; exact ⟨ob, k _ _ (.inl rfl) e⟩
  | xd fs => obtain ⟨mA, ⟨od, es, ep, e, c⟩, r⟩ := x; exact ⟨mA, ⟨od, es, ep, k _ _ (.inl rfl) e, c⟩, r⟩
  | rng lo hi => obtain ⟨t, u, v, e⟩ := x; exact ⟨t, u, v, k _ _ (.inl rfl) e⟩
  | frz ob u ih => obtain ⟨e, q⟩ := x; exact ⟨k _ _ (.inl rfl) e, ih q⟩
  | tbl ps =>
    have e : h.get? a = some { cls := .none, data := .fields ps } := x
    show h'.get? a = some { cls := .none, data := .fields ps }
    exact k a _ (.inl rfl) e
  | met f y =>
    have e : h.get? a = some (PySem.W.methodObj (.ref f) (.ref y)) := x
    show h'.get? a = some (PySem.W.methodObj (.ref f) (.ref y))
    exact k a _ (.inl rfl) e
  | ext φ => obtain ⟨p, ⟨o, e⟩, st⟩ := x; exact ⟨st _ _ p fun o q => k _ _ (.inl rfl) q, ⟨o, k _ _ (.inl rfl) e⟩, st⟩
theorem HOk.lt (x : HOk P w H h) (e : H a = some o) : a < h.objs.size := (x a o e).lt
theorem HOk.fresh (x : HOk P w H h) (e : h.objs.size ≤ a) : H a = none := by
  cases q : H a with
  | none => rfl
  | some u => exact absurd (Nat.lt_of_lt_of_le (x.lt q) e) (Nat.lt_irrefl _)
theorem HOk.kept (x : HOk P w H h) (k : ∀ b u, h.get? b = some u → h'.get? b = some u) : HOk P w H h' := fun a o e =>
  (x a o e).stay (fun b u _ q => k b u q) (fun _ q => q) fun _ _ q => q
theorem HOk.laid (x : HOk P w H h) (k : ∀ b u, h.get? b = some u → h'.get? b = some u) (hp : h.objs.size ≤ a) (new : ObjOk P w (upd H a o) h' a o) : HOk P w (upd H a o) h' := fun b u e => by
  have hn := x.fresh hp
  by_cases hb : b = a
  · subst hb; rw [upd_same] at e; cases e; exact new
  · rw [upd_ne hb] at e
    exact (x b u e).stay (fun c v _ q => k c v q) (fun c q => by rw [upd_ne (ne_of_none q hn)]; exact q) fun c xs q => by rw [upd_ne (ne_of_none q hn)]; exact q
end

noncomputable def Rd (H : Hp) (a : Addr) (u : HO) : Prop := H a = some u ∨ ∃ o, H a = some (.frz o u)
theorem Rd.ok {P : Program} {w : World} {H : Hp} {h : Heap} {a : Addr} {u : HO} (r : Rd H a u) (x : HOk P w H h) : ObjOk P w H h a u := by
  rcases r with r | ⟨o, r⟩
  · exact x a u r
  · obtain ⟨_, q⟩ := x a _ r
    exact q
noncomputable def Mut : Option HO → Prop
  | some (.lst _) => True
  | some (.dK _) => True
  | some (.dT _) => True
  | some (.set _ _) => True
  | some (.ins _ _ _) => True
  | some (.ext _) => True
  | _ => False
section
variable {P : Program} {w : World} {H : Hp} {h h' : Heap} {x e : Addr} {o' : HO}
theorem HOk.write (ok : HOk P w H h) (mu : Mut (H x)) (he : e = x ∨ H e = some (.own x)) (k : ∀ b u, b ≠ e → h.get? b = some u → h'.get? b = some u) (heo : ∃ u, h'.get? e = some u)
    (new : ObjOk P w (upd H x o') h' x o') : HOk P w (upd H x o') h' := fun b u q => by
  have nown : ∀ c y, H c = some (.own y) → c ≠ x := fun c y r z => by subst z; rw [r] at mu; exact mu
  have ntup : ∀ c xs, H c = some (.tup xs) → c ≠ x := fun c xs r z => by subst z; rw [r] at mu; exact mu
  by_cases hb : b = x
  · subst hb; rw [upd_same] at q; cases q; exact new
  · rw [upd_ne hb] at q
    by_cases hbe : b = e
    · have q' : H b = some (.own x) := by
        rcases he with z | z
        · exact absurd (hbe.trans z) hb
        · rw [hbe]; exact z
      rw [q] at q'; cases q'
      obtain ⟨v, hv⟩ := heo
      exact ⟨v, by rw [hbe]; exact hv⟩
    · refine (ok b u q).stay (fun c v hc r => k c v ?_ r) (fun c r => by rw [upd_ne (nown c b r)]; exact r) fun c xs r => by rw [upd_ne (ntup c xs r)]; exact r
      rcases hc with rfl | hc
      · exact hbe
      · rintro rfl
        rcases he with z | z
        · exact nown c b hc z
        · rw [hc] at z; cases z; exact hb rfl
end

/-! ### kept unless tracked; of the frames at fs (the callers') the slots may change (an exception that passes writes there); of the records at ex (iterators) nothing is said -/
set_option genInjectivity false in
structure Un (fs ex : List Addr) (H H' : Hp) (h h' : Heap) : Prop where
  keep : ∀ b o, h.get? b = some o → H b = none → b ∉ fs → b ∉ ex → h'.get? b = some o
  slot : ∀ b o, h.get? b = some o → H b = none → b ∈ fs → b ∉ ex → ∃ sl, h'.get? b = some { o with slots := sl }
  free : ∀ b o, h.get? b = some o → H b = none → b ∉ ex → H' b = none
  there : ∀ b o, h.get? b = some o → b ∉ ex → ∃ o', h'.get? b = some o'
  tups : ∀ b xs, H b = some (.tup xs) → H' b = some (.tup xs)
  frzs : ∀ b o u, H b = some (.frz o u) → H' b = some (.frz o u)
  tbls : ∀ b ps, H b = some (.tbl ps) → ∃ more, H' b = some (.tbl (ps ++ more))
section
variable {fs fs' ex ex' : List Addr} {H H1 H2 : Hp} {h h1 h2 h' : Heap} {a x e : Addr} {o : HO}
theorem Un.any (u : Un fs ex H H1 h h1) {b : Addr} {ob : Obj} (q : h.get? b = some ob) (n : H b = none) (hx : b ∉ ex) : ∃ sl, h1.get? b = some { ob with slots := sl } := by
  by_cases hb : b ∈ fs
  · exact u.slot b ob q n hb hx
  · exact ⟨ob.slots, u.keep b ob q n hb hx⟩
theorem Un.kept (k : ∀ b u, h.get? b = some u → h'.get? b = some u) : Un fs ex H H h h' :=
  ⟨fun b ob q _ _ _ => k b ob q, fun b ob q _ _ _ => ⟨ob.slots, k b ob q⟩, fun _ _ _ n _ => n, fun b ob q _ => ⟨ob, k b ob q⟩, fun _ _ q => q, fun _ _ _ q => q, fun _ ps q => ⟨#[], by rw [q]; simp⟩⟩
theorem Un.refl : Un fs ex H H h h := Un.kept fun _ _ q => q
theorem Un.laid (k : ∀ b u, h.get? b = some u → h'.get? b = some u) (hp : h.objs.size ≤ a) (hn : H a = none) : Un fs ex H (upd H a o) h h' where
  keep := fun b u q _ _ _ => k b u q
  slot := fun b u q _ _ _ => ⟨u.slots, k b u q⟩
  free := fun b u q n _ => by rw [upd_ne (Nat.ne_of_lt (Nat.lt_of_lt_of_le (Heap.lt_size q) hp))]; exact n
  there := fun b u q _ => ⟨u, k b u q⟩
  tups := fun b xs q => by rw [upd_ne (ne_of_none q hn)]; exact q
  frzs := fun b u xs q => by rw [upd_ne (ne_of_none q hn)]; exact q
  tbls := fun b ps q => ⟨#[], by rw [upd_ne (ne_of_none q hn), q]; simp⟩
theorem Un.write (mu : Mut (H x)) (he : e = x ∨ H e = some (.own x)) (k : ∀ b u, b ≠ e → h.get? b = some u → h'.get? b = some u) (heo : ∃ u, h'.get? e = some u) : Un fs ex H (upd H x o) h h' := by
  have hx : ∀ b, H b = none → b ≠ x := fun b n z => by subst z; rw [n] at mu; exact mu
  have hb : ∀ b, H b = none → b ≠ e := fun b n z => by
    subst z
    rcases he with r | r
    · exact hx b n r
    · rw [n] at r; cases r
  have hm : ∀ b u, H b = some u → ¬ Mut (some u) → b ≠ x := fun b u q nm z => by subst z; rw [q] at mu; exact nm mu
  refine ⟨fun b u q n _ _ => k b u (hb b n) q, fun b u q n _ _ => ⟨u.slots, k b u (hb b n) q⟩, fun b u q n _ => by rw [upd_ne (hx b n)]; exact n, fun b u q _ => ?_,
    fun b xs q => by rw [upd_ne (hm b _ q fun z => z)]; exact q, fun b u xs q => by rw [upd_ne (hm b _ q fun z => z)]; exact q, fun b ps q => ⟨#[], by rw [upd_ne (hm b _ q fun z => z), q]; simp⟩⟩
  by_cases hbe : b = e
  · subst hbe; exact heo
  · exact ⟨u, k b u hbe q⟩
end

/-! ### the heap without what is tracked -/
noncomputable def trk (h : Heap) (H : Hp) : List Addr := (List.range h.objs.size).filter fun a => (H a).isSome
noncomputable def hidT (h : Heap) (H : Hp) : Heap := PySem.W.hideAll h (trk h H)
theorem hidT_size (h : Heap) (H : Hp) : (hidT h H).objs.size = h.objs.size := PySem.W.hideAll_size _ _
theorem hidT_get {h : Heap} {H : Hp} {b : Addr} {o : Obj} (e : h.get? b = some o) (n : H b = none) : (hidT h H).get? b = some o :=
  PySem.W.hideAll_get _ e fun hm => by
    have q : (H b).isSome = true := (List.mem_filter.mp hm).2
    rw [n] at q; simp at q
theorem of_hidT {h : Heap} {H : Hp} {b : Addr} {o : Obj} (e : (hidT h H).get? b = some o) : h.get? b = some o ∧ H b = none := by
  have e' : h.get? b = some o := PySem.W.of_hideAll (trk h H) e
  refine ⟨e', ?_⟩
  cases q : H b with
  | none => rfl
  | some x =>
    have hm : b ∈ trk h H := List.mem_filter.mpr ⟨List.mem_range.mpr (Heap.lt_size e'), by simp [q]⟩
    have z : (hidT h H).get? b = none := PySem.W.hideAll_none (trk h H) hm
    rw [z] at e; cases e

/-! ### OpenK's ledger, filled with every new object but one -/
noncomputable def allNews (g h : Heap) (L : Addr) : List (Addr × Obj) := (List.range h.objs.size).filterMap fun a => if a = L ∨ (g.get? a).isSome = true then none else (h.get? a).map fun o => (a, o)
noncomputable def rest (g h : Heap) (L d : Addr) : List (Addr × Obj) := (allNews g h L).filter fun p => decide (p.1 ≠ d)
end L2

namespace L2
open PySem PySem.Spec PyProof.Rows

set_option genInjectivity false in
structure Mod (K : PySem.W.Frag) (mg : Str → Option Value) (base : Heap) : Prop where
  kin : K.In base
  glob : base.Ns mainGlobals mg
  blt : ∃ mb, base.Ns builtinsNs mb ∧ ∀ x : Str, x ≠ "__name__" → mb x = bootBuiltins x
  nolimit : base.NoLimit

set_option genInjectivity false in
structure Cx where
  prog : Program
  w : World
  K : PySem.W.Frag
  mg : Str → Option Value
  base : Heap
  A : Around
  N : List Str
  s₀ : Shared
  H₀ : Hp
  env : Env
  outer : List Env
  stack : List Env
  ex : List Addr
  fn : Str → Bool
  calm : Bool
  pn : List (Addr × Obj)
  xe : Value → Shared → Prop
noncomputable def frs (l : List Env) : List Addr := l.filterMap (·.frame)
noncomputable abbrev Cx.fs (X : Cx) : List Addr := frs X.outer

noncomputable def Vis (sc : Scope) (x : Str) : Prop := sc.names.lookup x = some .local ∨ sc.names.lookup x = some .cell ∨ sc.names.lookup x = some .free
noncomputable def Loc (sc : Scope) (x : Str) : Prop := sc.names.lookup x = some .local ∨ sc.names.lookup x = some .cell
noncomputable def Look (env : Env) (h : Heap) (m : Str → Option Value) (x : Str) (u : Value) : Prop :=
  (env.kindOf x = some .local ∧ m x = some u) ∨ ((env.kindOf x = some .cell ∨ env.kindOf x = some .free) ∧ ∃ c, env.cells.lookup x = some c ∧ h.IsCell c (some u))

set_option genInjectivity false in
structure Cx.Ok (X : Cx) : Prop where
  mod : Mod X.K X.mg X.base
  kind : X.env.scope.kind = .function
  glob : X.env.globals = mainGlobals
  blt : X.env.builtins = builtinsNs
  above : X.s₀.heap.objs.size ≤ X.env.locals
  inj : ∀ x y c, X.env.cells.lookup x = some c → X.env.cells.lookup y = some c → x = y
  has : ∀ x, (X.env.kindOf x = some .cell ∨ X.env.kindOf x = some .free) → ∃ c, X.env.cells.lookup x = some c
  cab : ∀ x c, X.fn x = true → X.env.cells.lookup x = some c → X.s₀.heap.objs.size ≤ c
  hd : X.calm = true → X.A.handled = none
  frames : X.A.frames = some X.stack
  stk : X.stack = X.outer ∨ (X.stack = X.env :: X.outer ∧ X.env.frame = some X.env.locals)
  exf : ∀ b ∈ X.ex, b ≠ X.env.locals ∧ ∀ x c, X.env.cells.lookup x = some c → c ≠ b
  bs : ∀ b o, X.base.get? b = some o → X.s₀.heap.get? b = some o ∧ X.H₀ b = none
  bsz : X.base.objs.size ≤ X.s₀.heap.objs.size
  noex : ∀ b o, X.base.get? b = some o → b ∉ X.ex
  exfs : ∀ b ∈ X.ex, b ∉ X.fs
  funs : X.s₀.heap.FunFrames X.base X.outer
  frf : ∀ b ∈ X.fs, X.H₀ b = none

set_option genInjectivity false in
structure Inv (X : Cx) (pins : List (Addr × Obj)) (σ : List (Option V)) (H : Hp) (s : Shared) : Prop where
  ok : X.Ok
  os : s.os = X.s₀.os
  bare : AllBare s.gens
  base : Un X.fs X.ex X.H₀ H X.s₀.heap s.heap
  loc : ∃ m, s.heap.Ns X.env.locals m ∧ ∀ (i : Nat) (x : Str) (v : V), X.N[i]? = some x → σ[i]? = some (some v) → Vis X.env.scope x → ∃ u, RelV v u ∧ Look X.env s.heap m x u
  cell : ∀ x c, X.env.cells.lookup x = some c → ∃ v, s.heap.IsCell c v
  free : H X.env.locals = none
  freeC : ∀ x c, X.env.cells.lookup x = some c → H c = none
  pin : ∀ p ∈ X.pn ++ pins, s.heap.get? p.1 = some p.2 ∧ H p.1 = none ∧ p.1 ≠ X.env.locals ∧ p.1 ∉ X.fs ∧ ∀ v, p.2.data ≠ .cell v
  hok : HOk X.prog X.w H s.heap
  len : σ.length = X.N.length

section
variable {X : Cx} {pins : List (Addr × Obj)} {σ : List (Option V)} {H H' : Hp} {s : Shared} {h' : Heap}

theorem Cx.Ok.nofr (ok : X.Ok) {b : Addr} {o : Obj} (e : X.base.get? b = some o) : b ∉ X.fs := fun hb => by
  have := (ok.funs.mem hb).1
  rw [e] at this; cases this
theorem Inv.bs (I : Inv X pins σ H s) : ∀ b o, X.base.get? b = some o → s.heap.get? b = some o ∧ H b = none := fun b o e =>
  ⟨I.base.keep b o (I.ok.bs b o e).1 (I.ok.bs b o e).2 (I.ok.nofr e) (I.ok.noex b o e), I.base.free b o (I.ok.bs b o e).1 (I.ok.bs b o e).2 (I.ok.noex b o e)⟩
theorem Inv.bk (I : Inv X pins σ H s) : ∀ b o, X.base.get? b = some o → s.heap.get? b = some o := fun b o e => (I.bs b o e).1
theorem Inv.mod (I : Inv X pins σ H s) : Mod X.K X.mg X.base := I.ok.mod
theorem Inv.kIn (I : Inv X pins σ H s) : X.K.In s.heap := I.ok.mod.kin.keeps I.bk
theorem Inv.fr (I : Inv X pins σ H s) : ∃ m, Fr X.base X.env.locals s.heap m :=
  let ⟨m, hn, _⟩ := I.loc
  ⟨m, hn, I.bk, Nat.le_trans I.ok.bsz I.ok.above⟩
theorem Inv.lt (I : Inv X pins σ H s) : X.env.locals < s.heap.objs.size := let ⟨_, hn, _⟩ := I.loc; hn.lt
theorem Inv.sz (I : Inv X pins σ H s) : X.s₀.heap.objs.size ≤ s.heap.objs.size := Nat.le_trans I.ok.above (Nat.le_of_lt I.lt)
theorem Inv.nofs (I : Inv X pins σ H s) {a : Addr} (h : s.heap.objs.size ≤ a) : a ∉ X.fs := fun hb => by
  obtain ⟨_, o, ho, _⟩ := I.ok.funs.mem hb
  exact absurd (Nat.lt_of_lt_of_le (Heap.lt_size ho) (Nat.le_trans I.sz h)) (Nat.lt_irrefl _)
theorem Inv.cne (I : Inv X pins σ H s) : ∀ x c, X.env.cells.lookup x = some c → c ≠ X.env.locals := fun x c e z => by
  obtain ⟨v, o, ho, hd⟩ := I.cell x c e
  obtain ⟨m, ⟨o', es, ep, ho', hd', _⟩, _⟩ := I.loc
  rw [z, ho'] at ho; cases ho; rw [hd'] at hd; cases hd
theorem Inv.funs (I : Inv X pins σ H s) : s.heap.FunFrames X.base X.outer := by
  have all : ∀ (l : List Env), (∀ b ∈ frs l, b ∈ X.fs) → X.s₀.heap.FunFrames X.base l → s.heap.FunFrames X.base l := by
    intro l
    induction l with
    | nil => intro _ _; trivial
    | cons env r ih =>
      intro hs hl
      obtain ⟨hk, ⟨L, o, hf, hn, ho, hd⟩, hr⟩ := hl
      have hL : L ∈ X.fs := hs L (by unfold frs; rw [List.filterMap_cons, hf]; exact List.mem_cons_self)
      obtain ⟨sl, e⟩ := I.base.slot L o ho (I.ok.frf L hL) hL fun z => I.ok.exfs L z hL
      exact ⟨hk, ⟨L, _, hf, hn, e, hd⟩, ih (fun b hb => hs b (by unfold frs; rw [List.filterMap_cons, hf]; exact List.mem_cons_of_mem _ hb)) hr⟩
  exact all X.outer (fun _ hb => hb) I.ok.funs

theorem Inv.stack (I : Inv X pins σ H s) : s.heap.FunFrames X.base X.stack := by
  rcases I.ok.stk with e | ⟨e, hf⟩
  · rw [e]; exact I.funs
  · rw [e]
    obtain ⟨m, hn, _⟩ := I.loc
    refine .cons (by rw [I.ok.kind]; decide) hf hn ?_ I.funs
    exact Heap.get?_none_of_le (Nat.le_trans I.ok.bsz I.ok.above)
theorem Inv.stkSub (I : Inv X pins σ H s) : ∀ b ∈ frs X.stack, b ∈ X.env.locals :: X.fs := fun b hb => by
  rcases I.ok.stk with e | ⟨e, hf⟩
  · rw [e] at hb; exact List.mem_cons_of_mem _ hb
  · rw [e] at hb
    unfold frs at hb
    rw [List.filterMap_cons, hf] at hb
    exact hb
theorem Inv.stkFree (I : Inv X pins σ H s) : ∀ b ∈ frs X.stack, H b = none := fun b hb => by
  rcases List.mem_cons.mp (I.stkSub b hb) with e | hb
  · rw [e]; exact I.free
  · obtain ⟨_, o, ho, _⟩ := I.ok.funs.mem hb
    exact I.base.free b o ho (I.ok.frf b hb) fun z => I.ok.exfs b z hb

theorem Inv.step {g' : Array GenState} {t' : Nat} {d' : Drawn} {ch : List Addr} (I : Inv X pins σ H s)
    (hch : ∀ b ∈ ch, (b ∈ X.ex ∨ X.s₀.heap.objs.size ≤ b) ∧ b ≠ X.env.locals ∧ (∀ x c, X.env.cells.lookup x = some c → c ≠ b) ∧ ∀ p ∈ X.pn ++ pins, p.1 ≠ b)
    (keep : ∀ b o, b ≠ X.env.locals → b ∉ X.fs → b ∉ ch → s.heap.get? b = some o → H b = none → h'.get? b = some o)
    (slot : ∀ b o, b ≠ X.env.locals → b ∈ X.fs → b ∉ ch → s.heap.get? b = some o → H b = none → ∃ sl, h'.get? b = some { o with slots := sl }) (free : ∀ b o, b ∉ ch → s.heap.get? b = some o → H b = none → H' b = none)
    (there : ∀ b o, b ∉ ch → s.heap.get? b = some o → ∃ o', h'.get? b = some o')
    (tups : ∀ b xs, H b = some (.tup xs) → H' b = some (.tup xs)) (frzs : ∀ b o u, H b = some (.frz o u) → H' b = some (.frz o u)) (tbls : ∀ b ps, H b = some (.tbl ps) → ∃ more, H' b = some (.tbl (ps ++ more)))
    (ns : ∀ m, s.heap.Ns X.env.locals m → h'.Ns X.env.locals m) (hok : HOk X.prog X.w H' h') (hg : AllBare g') :
    Inv X pins σ H' { s with heap := h', gens := g', drawn := d', toks := t' } := by
  have neL : ∀ b o, X.s₀.heap.get? b = some o → b ≠ X.env.locals := fun b o e => Nat.ne_of_lt (Nat.lt_of_lt_of_le (Heap.lt_size e) I.ok.above)
  have neC : ∀ b o, X.s₀.heap.get? b = some o → b ∉ X.ex → b ∉ ch := fun b o e hx hb => by
    rcases (hch b hb).1 with z | z
    · exact hx z
    · exact absurd (Nat.lt_of_lt_of_le (Heap.lt_size e) z) (Nat.lt_irrefl _)
  have cellK : ∀ x c, X.env.cells.lookup x = some c → ∀ v, s.heap.IsCell c v → h'.IsCell c v := fun x c e v ⟨o, ho, hd⟩ => by
    have nch : c ∉ ch := fun z => (hch c z).2.2.1 x c e rfl
    by_cases hc : c ∈ X.fs
    · obtain ⟨sl, q⟩ := slot c o (I.cne x c e) hc nch ho (I.freeC x c e)
      exact ⟨_, q, hd⟩
    · exact ⟨o, keep c o (I.cne x c e) hc nch ho (I.freeC x c e), hd⟩
  refine ⟨I.ok, I.os, hg, ⟨fun b o e n hb hx => ?_, fun b o e n hb hx => ?_, fun b o e n hx => ?_, fun b o e hx => ?_, fun b xs e => tups b xs (I.base.tups b xs e), fun b o xs e => frzs b o xs (I.base.frzs b o xs e), fun b ps e => ?_⟩, ?_, fun x c e => ?_, ?_, fun x c e => ?_, fun p hp => ?_, hok, I.len⟩
  · exact keep b o (neL b o e) hb (neC b o e hx) (I.base.keep b o e n hb hx) (I.base.free b o e n hx)
  · obtain ⟨sl, e1⟩ := I.base.slot b o e n hb hx
    obtain ⟨sl', e2⟩ := slot b _ (neL b o e) hb (neC b o e hx) e1 (I.base.free b o e n hx)
    exact ⟨sl', e2⟩
  · obtain ⟨o', e1⟩ := I.base.there b o e hx
    exact free b o' (neC b o e hx) e1 (I.base.free b o e n hx)
  · obtain ⟨o', e1⟩ := I.base.there b o e hx
    exact there b o' (neC b o e hx) e1
  · obtain ⟨m1, e1⟩ := I.base.tbls b ps e
    obtain ⟨m2, e2⟩ := tbls b _ e1
    exact ⟨m1 ++ m2, by rw [e2, Array.append_assoc]⟩
  · obtain ⟨m, hn, hl⟩ := I.loc
    refine ⟨m, ns m hn, fun i x v e1 e2 e3 => ?_⟩
    obtain ⟨u, r, l⟩ := hl i x v e1 e2 e3
    refine ⟨u, r, ?_⟩
    rcases l with l | ⟨k, c, e, z⟩
    · exact .inl l
    · exact .inr ⟨k, c, e, cellK x c e _ z⟩
  · obtain ⟨v, z⟩ := I.cell x c e
    exact ⟨v, cellK x c e v z⟩
  · obtain ⟨m, ⟨o, _, _, ho, _⟩, _⟩ := I.loc
    exact free _ o (fun z => (hch _ z).2.1 rfl) ho I.free
  · obtain ⟨v, o, ho, hd⟩ := I.cell x c e
    exact free c o (fun z => (hch c z).2.2.1 x c e rfl) ho (I.freeC x c e)
  · obtain ⟨e, n, ne, nf, d⟩ := I.pin p hp
    have nch : p.1 ∉ ch := fun z => (hch p.1 z).2.2.2 p hp rfl
    exact ⟨keep p.1 p.2 ne nf nch e n, free p.1 p.2 nch e n, ne, nf, d⟩
theorem Inv.un {t' : Nat} (I : Inv X pins σ H s) (u : Un X.fs [] H H' s.heap h') (hok : HOk X.prog X.w H' h') : Inv X pins σ H' { s with heap := h', toks := t' } := by
  obtain ⟨m, ⟨o, es, ep, ho, r⟩, _⟩ := id I.loc
  obtain ⟨sl, hL⟩ := u.any ho I.free (by simp)
  exact I.step (g' := s.gens) (d' := s.drawn) (ch := []) (fun _ z => nomatch z) (fun b o _ hb _ e n => u.keep b o e n hb (by simp)) (fun b o _ hb _ e n => u.slot b o e n hb (by simp)) (fun b o _ e n => u.free b o e n (by simp)) (fun b o _ e => u.there b o e (by simp)) u.tups u.frzs u.tbls (fun m' hm => by
    obtain ⟨o', es', ep', ho', r'⟩ := hm
    rw [ho] at ho'; cases ho'
    exact ⟨_, es', ep', hL, r'⟩) hok I.bare
theorem Inv.call {g' : Array GenState} {t' : Nat} {d' : Drawn} {ch : List Addr} (I : Inv X pins σ H s) (u : Un (frs X.stack) ch H H' s.heap h') (hok : HOk X.prog X.w H' h') (hg : AllBare g')
    (hch : ∀ b ∈ ch, (b ∈ X.ex ∨ X.s₀.heap.objs.size ≤ b) ∧ b ≠ X.env.locals ∧ (∀ x c, X.env.cells.lookup x = some c → c ≠ b) ∧ ∀ p ∈ X.pn ++ pins, p.1 ≠ b) :
    Inv X pins σ H' { s with heap := h', gens := g', drawn := d', toks := t' } := by
  obtain ⟨m, ⟨o, es, ep, ho, r⟩, _⟩ := id I.loc
  obtain ⟨sl, hL⟩ := u.any ho I.free fun z => (hch _ z).2.1 rfl
  exact I.step (ch := ch) hch (fun b o hL hb hc e n => u.keep b o e n (fun z => (List.mem_cons.mp (I.stkSub b z)).elim hL hb) hc) (fun b o _ _ hc e n => u.any e n hc) (fun b o hc e n => u.free b o e n hc) (fun b o hc e => u.there b o e hc) u.tups u.frzs u.tbls (fun m' hm => by
    obtain ⟨o', es', ep', ho', r'⟩ := hm
    rw [ho] at ho'; cases ho'
    exact ⟨_, es', ep', hL, r'⟩) hok hg
theorem Inv.turned {t' : Nat} {it : Addr} (I : Inv X pins σ H s) (k : ∀ b o, b ≠ it → s.heap.get? b = some o → h'.get? b = some o) (hn : H it = none) (hL : it ≠ X.env.locals)
    (h1 : it ∈ X.ex ∨ X.s₀.heap.objs.size ≤ it) (h2 : ∀ x c, X.env.cells.lookup x = some c → c ≠ it) (h3 : ∀ p ∈ X.pn ++ pins, p.1 ≠ it) : Inv X pins σ H { s with heap := h', toks := t' } := by
  have nit : ∀ b u, H b = some u → b ≠ it := fun b u e z => by rw [z, hn] at e; cases e
  refine I.step (g' := s.gens) (d' := s.drawn) (ch := [it]) (fun b hb => ?_) (fun b o _ _ hc e _ => k b o (fun z => hc (by simp [z])) e) (fun b o _ _ hc e _ => ⟨o.slots, k b o (fun z => hc (by simp [z])) e⟩) (fun _ _ _ _ n => n)
    (fun b o hc e => ⟨o, k b o (fun z => hc (by simp [z])) e⟩) (fun _ _ e => e) (fun _ _ _ e => e) (fun b ps e => ⟨#[], by rw [e]; simp⟩) (fun m hm => ?_) (fun b u e => ?_) I.bare
  · have e : b = it := by simpa using hb
    subst e
    exact ⟨h1, hL, h2, h3⟩
  · obtain ⟨o, es, ep, ho, r⟩ := hm
    exact ⟨o, es, ep, k _ o (Ne.symm hL) ho, r⟩
  · refine (I.hok b u e).stay (fun c v hc q => k c v ?_ q) (fun _ q => q) fun _ _ q => q
    rcases hc with z | z
    · rw [z]; exact nit b u e
    · exact nit c _ z
theorem Inv.tok (I : Inv X pins σ H s) (t : Nat) : Inv X pins σ H { s with toks := t } := I.un (h' := s.heap) (t' := t) Un.refl I.hok
theorem Inv.kept {t' : Nat} (I : Inv X pins σ H s) (k : ∀ b u, s.heap.get? b = some u → h'.get? b = some u) : Inv X pins σ H { s with heap := h', toks := t' } := I.un (Un.kept k) (I.hok.kept k)
theorem Inv.laid {a : Addr} {o : HO} {t' : Nat} (I : Inv X pins σ H s) (k : ∀ b u, s.heap.get? b = some u → h'.get? b = some u) (hp : s.heap.objs.size ≤ a) (new : ObjOk X.prog X.w (upd H a o) h' a o) :
    Inv X pins σ (upd H a o) { s with heap := h', toks := t' } := I.un (Un.laid k hp (I.hok.fresh hp)) (I.hok.laid k hp new)
theorem Inv.write {x e : Addr} {o : HO} {t' : Nat} (I : Inv X pins σ H s) (mu : Mut (H x)) (he : e = x ∨ H e = some (.own x)) (k : ∀ b u, b ≠ e → s.heap.get? b = some u → h'.get? b = some u) (heo : ∃ u, h'.get? e = some u)
    (new : ObjOk X.prog X.w (upd H x o) h' x o) : Inv X pins σ (upd H x o) { s with heap := h', toks := t' } := I.un (Un.write mu he k heo) (I.hok.write mu he k heo new)
theorem Inv.weak {σ' : List (Option V)} (I : Inv X pins σ H s) (hl : σ'.length = σ.length) (w : ∀ (i : Nat) v, σ'[i]? = some (some v) → σ[i]? = some (some v)) : Inv X pins σ' H s :=
  ⟨I.ok, I.os, I.bare, I.base, let ⟨m, hn, hl'⟩ := I.loc; ⟨m, hn, fun i x v e1 e2 e3 => hl' i x v e1 (w i v e2) e3⟩, I.cell, I.free, I.freeC, I.pin, I.hok, hl.trans I.len⟩
theorem Inv.pins_of {pins' : List (Addr × Obj)} (I : Inv X pins σ H s) (h : ∀ p ∈ pins', s.heap.get? p.1 = some p.2 ∧ H p.1 = none ∧ p.1 ≠ X.env.locals ∧ p.1 ∉ X.fs ∧ ∀ v, p.2.data ≠ .cell v) : Inv X pins' σ H s :=
  ⟨I.ok, I.os, I.bare, I.base, I.loc, I.cell, I.free, I.freeC, fun p hp => (List.mem_append.mp hp).elim (fun z => I.pin p (List.mem_append_left _ z)) (h p), I.hok, I.len⟩

theorem nodup_ix {N : List Str} (hN : N.Nodup) {i j : Nat} {x : Str} (a : N[i]? = some x) (b : N[j]? = some x) : i = j := by
  obtain ⟨h1, e1⟩ := List.getElem?_eq_some_iff.mp a
  obtain ⟨h2, e2⟩ := List.getElem?_eq_some_iff.mp b
  exact (List.getElem_inj hN).mp (e1.trans e2.symm)

theorem store_ok2 {M : Model} {A : Around} {E : Value → Shared → Prop} {i : Nat} {x : Str} {v : V} {u : Value} {Q : Unit → Shared → Prop} (I : Inv X pins σ H s) (hN : X.N.Nodup) (hi : X.N[i]? = some x) (hx : Loc X.env.scope x) (r : RelV v u)
    (h : ∀ s', Inv X pins (σ.set i (some v)) H s' → (∃ a, Heap.SameBut a s.heap s'.heap ∧ (a = X.env.locals ∨ X.env.cells.lookup x = some a)) → Q () s') (hf : X.fn x = true ∨ X.env.scope.names.lookup x = some .local := by first | exact .inl rfl | exact .inr rfl | assumption) : wpAny M A (storeName X.env x u) Q E s := by
  obtain ⟨m, hn, hl⟩ := id I.loc
  have hcls : (X.env.scope.kind == .class || (X.env.scope.kind == .module && X.env.locals != X.env.globals)) = false := by rw [I.ok.kind]; rfl
  have hiσ : i < σ.length := by rw [I.len]; exact (List.getElem?_eq_some_iff.mp hi).1
  have cne := I.cne
  have tracked : ∀ {a : Addr} {h' : Heap}, (∃ o, s.heap.get? a = some o ∧ H a = none) → Heap.SameBut a s.heap h' → HOk X.prog X.w H h' := fun {a h'} ha hs b ob e => by
    obtain ⟨_, _, hfree⟩ := ha
    refine (I.hok b ob e).stay (fun c w' hc q => (hs.2 c ?_).trans q) (fun _ q => q) fun _ _ q => q
    rintro rfl
    rcases hc with rfl | hc
    · rw [hfree] at e; cases e
    · rw [hfree] at hc; cases hc
  rcases hx with hk | hk
  · refine wpAny_storeName_local hk hn (fun h' hn' hs => ?_) hcls
    obtain ⟨oL, _, _, hoL, _⟩ := id hn
    refine h _ ⟨I.ok, I.os, I.bare, ⟨fun b o e n hb hx => ?_, fun b o e n hb hx => ?_, I.base.free, fun b o e hx => ?_, I.base.tups, I.base.frzs, I.base.tbls⟩, ⟨_, hn', fun j y v' e1 e2 e3 => ?_⟩, fun y c e => ?_, I.free, I.freeC, fun p hp => ?_, tracked ⟨oL, hoL, I.free⟩ hs, by simpa using I.len⟩ ⟨_, hs, .inl rfl⟩
    · exact (hs.2 b (Nat.ne_of_lt (Nat.lt_of_lt_of_le (Heap.lt_size e) I.ok.above))).trans (I.base.keep b o e n hb hx)
    · obtain ⟨sl, e1⟩ := I.base.slot b o e n hb hx
      exact ⟨sl, (hs.2 b (Nat.ne_of_lt (Nat.lt_of_lt_of_le (Heap.lt_size e) I.ok.above))).trans e1⟩
    · obtain ⟨o', e1⟩ := I.base.there b o e hx
      exact ⟨o', (hs.2 b (Nat.ne_of_lt (Nat.lt_of_lt_of_le (Heap.lt_size e) I.ok.above))).trans e1⟩
    · by_cases hj : j = i
      · subst hj
        rw [hi] at e1; cases e1
        rw [List.getElem?_set_self hiσ] at e2
        cases e2
        exact ⟨u, r, .inl ⟨hk, by simp⟩⟩
      · rw [List.getElem?_set_ne (Ne.symm hj)] at e2
        obtain ⟨u', r', q⟩ := hl j y v' e1 e2 e3
        refine ⟨u', r', ?_⟩
        rcases q with ⟨k, e⟩ | ⟨k, c, e, z⟩
        · refine .inl ⟨k, ?_⟩
          have : y ≠ x := fun e => hj (nodup_ix hN e1 (e ▸ hi))
          simp [this, e]
        · exact .inr ⟨k, c, e, z.sameBut hs (cne y c e)⟩
    · obtain ⟨w', z⟩ := I.cell y c e
      exact ⟨w', z.sameBut hs (cne y c e)⟩
    · obtain ⟨e, n, ne, nf, d⟩ := I.pin p hp
      exact ⟨(hs.2 p.1 ne).trans e, n, ne, nf, d⟩
  · have hfn : X.fn x = true := by
      rcases hf with z | z
      · exact z
      · rw [z] at hk; cases hk
    obtain ⟨c, hc⟩ := I.ok.has x (.inl hk)
    obtain ⟨w', z⟩ := I.cell x c hc
    refine wpAny_storeName_cell I.ok.kind hk hc z (fun h' hc' hs => ?_)
    obtain ⟨oc, hoc, hocd⟩ := id z
    refine h { s with heap := h' } ⟨I.ok, I.os, I.bare, ⟨fun b o e n hb hx => ?_, fun b o e n hb hx => ?_, I.base.free, fun b o e hx => ?_, I.base.tups, I.base.frzs, I.base.tbls⟩, ⟨m, hn.sameBut hs (Ne.symm (cne x c hc)), fun j y v' e1 e2 e3 => ?_⟩, fun y c' e => ?_, I.free, I.freeC, fun p hp => ?_, tracked ⟨oc, hoc, I.freeC x c hc⟩ hs, by simpa using I.len⟩ ⟨c, hs, .inr hc⟩
    · exact (hs.2 b (Nat.ne_of_lt (Nat.lt_of_lt_of_le (Heap.lt_size e) (I.ok.cab x c hfn hc)))).trans (I.base.keep b o e n hb hx)
    · obtain ⟨sl, e1⟩ := I.base.slot b o e n hb hx
      exact ⟨sl, (hs.2 b (Nat.ne_of_lt (Nat.lt_of_lt_of_le (Heap.lt_size e) (I.ok.cab x c hfn hc)))).trans e1⟩
    · obtain ⟨o', e1⟩ := I.base.there b o e hx
      exact ⟨o', (hs.2 b (Nat.ne_of_lt (Nat.lt_of_lt_of_le (Heap.lt_size e) (I.ok.cab x c hfn hc)))).trans e1⟩
    · by_cases hj : j = i
      · subst hj
        rw [hi] at e1; cases e1
        rw [List.getElem?_set_self hiσ] at e2
        cases e2
        exact ⟨u, r, .inr ⟨.inl hk, c, hc, hc'⟩⟩
      · rw [List.getElem?_set_ne (Ne.symm hj)] at e2
        obtain ⟨u', r', q⟩ := hl j y v' e1 e2 e3
        refine ⟨u', r', ?_⟩
        rcases q with q | ⟨k, c', e, z'⟩
        · exact .inl q
        · refine .inr ⟨k, c', e, z'.sameBut hs ?_⟩
          rintro rfl
          exact hj (nodup_ix hN e1 (I.ok.inj _ _ _ e hc ▸ hi))
    · by_cases hcc : c' = c
      · subst hcc; exact ⟨_, hc'⟩
      · obtain ⟨w2, z2⟩ := I.cell y c' e
        exact ⟨w2, z2.sameBut hs hcc⟩
    · obtain ⟨e, n, ne, nf, d⟩ := I.pin p hp
      refine ⟨(hs.2 p.1 ?_).trans e, n, ne, nf, d⟩
      intro q
      rw [q, hoc] at e
      have q' : oc = p.2 := Option.some.inj e
      exact d w' (by rw [← q']; exact hocd)
theorem store_ok {M : Model} {A : Around} {E : Value → Shared → Prop} {i : Nat} {x : Str} {v : V} {u : Value} {Q : Unit → Shared → Prop} (I : Inv X pins σ H s) (hN : X.N.Nodup) (hi : X.N[i]? = some x) (hx : Loc X.env.scope x) (r : RelV v u)
    (h : ∀ s', Inv X pins (σ.set i (some v)) H s' → Q () s') (hf : X.fn x = true ∨ X.env.scope.names.lookup x = some .local := by first | exact .inl rfl | exact .inr rfl | assumption) : wpAny M A (storeName X.env x u) Q E s :=
  store_ok2 I hN hi hx r (fun s' I' _ => h s' I') hf
theorem Inv.call' {s' : Shared} {ch : List Addr} (I : Inv X pins σ H s) (ho : s'.os = s.os) (u : Un (frs X.stack) ch H H' s.heap s'.heap) (hok : HOk X.prog X.w H' s'.heap) (hg : AllBare s'.gens)
    (hch : ∀ b ∈ ch, (b ∈ X.ex ∨ X.s₀.heap.objs.size ≤ b) ∧ b ≠ X.env.locals ∧ (∀ x c, X.env.cells.lookup x = some c → c ≠ b) ∧ ∀ p ∈ X.pn ++ pins, p.1 ≠ b) : Inv X pins σ H' s' := by
  obtain ⟨h', g', d', t', o'⟩ := s'
  have e : o' = s.os := ho
  subst e
  exact I.call (g' := g') (t' := t') (d' := d') u hok hg hch
end

/-! ### the judgements -/
noncomputable abbrev XK := Value → Option Addr → Hp → Prop
noncomputable abbrev St := List (Option V)
noncomputable abbrev VK := V → Hp → Prop
noncomputable abbrev TE := St → Hp → VK → Prop
noncomputable abbrev TT := St → Hp → (Bool → Hp → Prop) → Prop
noncomputable abbrev TA := St → Hp → (List V → Hp → Prop) → Prop
set_option genInjectivity false in
structure Ends where
  nx : St → Hp → Prop
  rt : VK
  bk : St → Hp → Prop := fun _ _ => False
  ct : St → Hp → Prop := fun _ _ => False
noncomputable abbrev TS := Ends → St → Hp → Prop

noncomputable def EP (X : Cx) (pins : List (Addr × Obj)) (σ : St) (Q : VK) (u : Value) (s' : Shared) : Prop := ∃ v H', Inv X pins σ H' s' ∧ RelV v u ∧ Q v H'
noncomputable def TP (X : Cx) (pins : List (Addr × Obj)) (σ : St) (Q : Bool → Hp → Prop) (b : Bool) (s' : Shared) : Prop := ∃ H', Inv X pins σ H' s' ∧ Q b H'
noncomputable def AP (X : Cx) (pins : List (Addr × Obj)) (σ : St) (Q : List V → Hp → Prop) (us : List Value) (s' : Shared) : Prop := ∃ vs H', Inv X pins σ H' s' ∧ Vals vs us ∧ Q vs H'
noncomputable def SP (X : Cx) (pins : List (Addr × Obj)) (D : Ends) (f : Flow) (s' : Shared) : Prop :=
  match f with
  | .next => ∃ σ' H', Inv X pins σ' H' s' ∧ D.nx σ' H'
  | .brk => ∃ σ' H', Inv X pins σ' H' s' ∧ D.bk σ' H'
  | .cont => ∃ σ' H', Inv X pins σ' H' s' ∧ D.ct σ' H'
  | .ret u => ∃ v σ' H', Inv X pins σ' H' s' ∧ RelV v u ∧ D.rt v H'

noncomputable def PE (X : Cx) (e : Expr) (t : TE) : Prop :=
  ∀ (pins : List (Addr × Obj)) (s : Shared) (σ : St) (H : Hp) (Q : VK), Inv X pins σ H s → t σ H Q → wpAny (model X.prog X.w) X.A (eval e X.env) (EP X pins σ Q) X.xe s
noncomputable def PT (X : Cx) (e : Expr) (t : TT) : Prop :=
  ∀ (pins : List (Addr × Obj)) (s : Shared) (σ : St) (H : Hp) (Q : Bool → Hp → Prop), Inv X pins σ H s → t σ H Q → wpAny (model X.prog X.w) X.A (isTrue e X.env (eval e X.env)) (TP X pins σ Q) X.xe s
noncomputable def PW (X : Cx) (e : Expr) (t : TT) : Prop :=
  ∀ (whole : Sem Value) (pins : List (Addr × Obj)) (s : Shared) (σ : St) (H : Hp) (Q : Bool → Hp → Prop), Inv X pins σ H s → t σ H Q → wpAny (model X.prog X.w) X.A (isTrue e X.env whole) (TP X pins σ Q) X.xe s
theorem PW.pt {X : Cx} {e : Expr} {t : TT} (h : PW X e t) : PT X e t := h _
noncomputable def PA (X : Cx) (es : List Expr) (t : TA) : Prop :=
  ∀ (pos : Pos) (pins : List (Addr × Obj)) (s : Shared) (σ : St) (H : Hp) (Q : List V → Hp → Prop), Inv X pins σ H s → t σ H Q → wpAny (model X.prog X.w) X.A (spliced (backTo pos (starEach es X.env))) (AP X pins σ Q) X.xe s
noncomputable def PS (X : Cx) (st : Stmt) (t : TS) : Prop :=
  ∀ (pins : List (Addr × Obj)) (s : Shared) (σ : St) (H : Hp) (D : Ends), Inv X pins σ H s → t D σ H → wpAny (model X.prog X.w) X.A (exec st X.env) (SP X pins D) X.xe s
noncomputable def PSs (X : Cx) (st : List Stmt) (t : TS) : Prop :=
  ∀ (pins : List (Addr × Obj)) (s : Shared) (σ : St) (H : Hp) (D : Ends), Inv X pins σ H s → t D σ H → wpAny (model X.prog X.w) X.A (execs st X.env) (SP X pins D) X.xe s
theorem thn {α : Type} {t : Sem α} {Q Q' : α → Shared → Prop} {M : Model} {A : Around} {E : Value → Shared → Prop} {s : Shared} (h : wpAny M A t Q E s) (hQ : ∀ a s, Q a s → Q' a s) : wpAny M A t Q' E s := wpAny_mono h hQ fun _ _ x => x
end L2

namespace L2
open PySem PySem.Spec PyProof.Rows
section
variable {X : Cx}

theorem bin {a b : Expr} {ta tb : TE} (ha : PE X a ta) (hb : PE X b tb) {pins : List (Addr × Obj)} {s : Shared} {σ : St} {H : Hp} {R : V → V → Hp → Prop} (I : Inv X pins σ H s) (h : ta σ H fun x H1 => tb σ H1 fun y H2 => R x y H2)
    {α : Type} {Q : α → Shared → Prop} {f : Value → Value → Sem α}
    (hf : ∀ v u s2 x y H2, Inv X pins σ H2 s2 → RelV x v → RelV y u → R x y H2 → wpAny (model X.prog X.w) X.A (f v u) Q X.xe s2) :
    wpAny (model X.prog X.w) X.A (eval a X.env) (fun v s₁ => wpAny (model X.prog X.w) X.A (eval b X.env) (fun u s₂ => wpAny (model X.prog X.w) X.A (f v u) Q X.xe s₂) X.xe s₁) X.xe s := by
  refine thn (ha pins s σ H _ I h) fun v s1 ⟨x, H1, I1, r1, q1⟩ => ?_
  refine thn (hb pins s1 σ H1 _ I1 q1) fun u s2 ⟨y, H2, I2, r2, q2⟩ => ?_
  exact hf v u s2 x y H2 I2 r1 r2 q2

/-! ### names and constants -/
noncomputable def tVar (i : Nat) : TE := fun σ H Q => ∃ v, σ[i]? = some (some v) ∧ Q v H
noncomputable def tC (v : V) : TE := fun _ H Q => Q v H
theorem pe_var {i : Nat} {x : Str} {pos : Pos} (hN : X.N[i]? = some x) (hv : Vis X.env.scope x) (hd : (x == ("__debug__" : Str)) = false := by decide) (hcd : (x == ("__classdict__" : Str)) = false := by decide) : PE X (.Name x pos) (tVar i) := by
  intro pins s σ H Q I h
  obtain ⟨v, e, h⟩ := h
  obtain ⟨m, hn, hl⟩ := I.loc
  obtain ⟨u, r, l⟩ := hl i x v hN e hv
  have fin : EP X pins σ Q u s := ⟨v, H, I, r, h⟩
  rcases l with ⟨hk, hm⟩ | ⟨hk, c, hc, hcell⟩
  · exact wpAny_Name (wpAny_loadName_local I.ok.kind hk hn hm fin) hd
  · rcases hk with hk | hk
    · exact wpAny_Name (wpAny_loadName_cell I.ok.kind hk hc hcell fin) hd
    · exact wpAny_Name (wpAny_loadName_free I.ok.kind hk hc hcell fin hcd) hd
theorem pe_int {i j pos} : PE X (.Constant (.int i) j pos) (tC (.int i)) := fun _ _ _ H _ I h => wpAny_Constant_int ⟨.int i, H, I.tok _, ⟨_, rfl⟩, h⟩
theorem pe_bl {b j pos} : PE X (.Constant (.bool b) j pos) (tC (.bl b)) := fun _ _ _ H _ I h => Constant_bool ⟨.bl b, H, I, rfl, h⟩
theorem pe_non {j pos} : PE X (.Constant .none j pos) (tC .non) := fun _ _ _ H _ I h => Constant_none ⟨.non, H, I, rfl, h⟩
theorem pe_str {x j pos} : PE X (.Constant (.str x) j pos) (tC (.str x)) := fun _ _ _ H _ I h => Calls.Constant_str ⟨.str x, H, I.tok _, ⟨_, rfl⟩, h⟩

noncomputable def Gl (X : Cx) (x : Str) : Prop := X.env.kindOf x = some .globalImplicit
theorem ld_glob {E : Value → Shared → Prop} {pins : List (Addr × Obj)} {s : Shared} {σ : St} {H : Hp} {x : Str} {u : Value} {pos : Pos} {Q : Value → Shared → Prop} (I : Inv X pins σ H s) (hg : Gl X x) (hm : X.mg x = some u) (h : Q u s)
    (hd : (x == ("__debug__" : Str)) = false := by decide) : wpAny (model X.prog X.w) X.A (eval (.Name x pos) X.env) Q E s :=
  Calls.Name_function_global I.ok.kind hg (Calls.loadGlobal_global (by rw [I.ok.glob]; exact I.mod.glob.keeps I.bk) hm h) hd
theorem ld_blt {E : Value → Shared → Prop} {pins : List (Addr × Obj)} {s : Shared} {σ : St} {H : Hp} {x : Str} {u : Value} {pos : Pos} {Q : Value → Shared → Prop} (I : Inv X pins σ H s) (hg : Gl X x) (hm : X.mg x = none) (hv : bootBuiltins x = some u) (h : Q u s)
    (hn : x ≠ "__name__" := by decide) (hd : (x == ("__debug__" : Str)) = false := by decide) : wpAny (model X.prog X.w) X.A (eval (.Name x pos) X.env) Q E s := by
  obtain ⟨mb, h1, h2⟩ := I.mod.blt
  exact Calls.Name_function_global I.ok.kind hg (Calls.loadGlobal_builtin (by rw [I.ok.glob]; exact I.mod.glob.keeps I.bk) hm (by rw [I.ok.blt]; exact h1.keeps I.bk) ((h2 x hn).trans hv) h) hd
theorem pe_glob {x : Str} {v : V} {u : Value} {pos : Pos} (hg : Gl X x) (hm : X.mg x = some u) (r : RelV v u) (hd : (x == ("__debug__" : Str)) = false := by decide) : PE X (.Name x pos) (tC v) :=
  fun _ _ _ H _ I h => ld_glob I hg hm ⟨v, H, I, r, h⟩ hd
theorem pe_bltn {x : Str} {v : V} {u : Value} {pos : Pos} (hg : Gl X x) (hm : X.mg x = none) (hv : bootBuiltins x = some u) (r : RelV v u) (hn : x ≠ "__name__" := by decide) (hd : (x == ("__debug__" : Str)) = false := by decide) : PE X (.Name x pos) (tC v) :=
  fun _ _ _ H _ I h => ld_blt I hg hm hv ⟨v, H, I, r, h⟩ hn hd

/-! ### arithmetic -/
variable {a b : Expr} {ta tb : TE} {pos : Pos}

/-! ### comparisons -/
noncomputable def PC (X : Cx) (op : CmpOp) (a b : Expr) (t : TE) : Prop :=
  ∀ (pins : List (Addr × Obj)) (s : Shared) (σ : St) (H : Hp) (Q : VK), Inv X pins σ H s → t σ H Q →
    wpAny (model X.prog X.w) X.A (eval a X.env) (fun v s₁ => wpAny (model X.prog X.w) X.A (eval b X.env) (fun u s₂ => wpAny (model X.prog X.w) X.A (compareOp op v u) (EP X pins σ Q) X.xe s₂) X.xe s₁) X.xe s
theorem nobehind (b : Expr) {op : CmpOp} (h : op ≠ .In) (h2 : op ≠ .NotIn) : behindInMarks op b = false := by
  have e1 : (op == CmpOp.In) = false := by cases op <;> first | rfl | exact absurd rfl h
  have e2 : (op == CmpOp.NotIn) = false := by cases op <;> first | rfl | exact absurd rfl h2
  cases b <;> simp [behindInMarks, e1, e2]
noncomputable def tB (t : TE) : TT := fun σ H Q => t σ H fun x H1 => ∃ c, x = .bl c ∧ Q c H1
theorem pt_cmp {op : CmpOp} {t : TE} (h : PC X op a b t) (h1 : behindInMarks op b = false := by first | exact nobehind _ (by decide) (by decide) | rfl) : PT X (.Compare a [op] [b] pos) (tB t) := by
  intro pins s σ H Q I hw
  refine wpAny_isTrue_Compare1 (thn (h pins s σ H _ I hw) fun v s1 h1 => thn h1 fun u s2 h2 => thn h2 fun c s3 ⟨x, H1, I1, r1, q1⟩ => ?_) h1
  obtain ⟨d, rfl, q⟩ := q1
  cases r1
  exact wpAny_truthy_bool ⟨H1, I1, q⟩
theorem pt_val {e : Expr} {t : TE} (h : PE X e t) (he : ∀ whole, isTrue e X.env whole = (do let v ← whole; standAt e.pos; holding [v] (truthy v)) := by intro _; rfl) : PT X e (tB t) := by
  intro pins s σ H Q I hw
  refine isTrue_plain (thn (h pins s σ H _ I hw) fun v s1 ⟨x, H1, I1, r1, q1⟩ => ?_) (he _)
  obtain ⟨d, rfl, q⟩ := q1
  cases r1
  exact wpAny_truthy_bool ⟨H1, I1, q⟩

/-! ### and, or, not -/
variable {tA tB' : TT} {rest : List Expr}
noncomputable def tAnd (t u : TT) : TT := fun σ H Q => t σ H fun c H1 => if c = true then u σ H1 Q else Q false H1
noncomputable def tOr (t u : TT) : TT := fun σ H Q => t σ H fun c H1 => if c = true then Q true H1 else u σ H1 Q
noncomputable def tNot (t : TT) : TT := fun σ H Q => t σ H fun c H1 => Q (!c) H1
theorem pw_and1 (ha : PT X a tA) : PW X (.BoolOp .And [a] pos) tA := by
  intro wh pins s σ H Q I h
  refine isTrue_and (thn (ha pins s σ H Q I h) fun c s1 e => ?_)
  cases c with
  | true => exact isTrue_and_nil e
  | false => exact e
theorem pw_or1 (ha : PT X a tA) : PW X (.BoolOp .Or [a] pos) tA := by
  intro wh pins s σ H Q I h
  refine isTrue_or (thn (ha pins s σ H Q I h) fun c s1 e => ?_)
  cases c with
  | false => exact isTrue_or_nil e
  | true => exact e
theorem pw_and (ha : PT X a tA) (hb : PW X (.BoolOp .And (b :: rest) pos) tB') : PW X (.BoolOp .And (a :: b :: rest) pos) (tAnd tA tB') := by
  intro wh pins s σ H Q I h
  refine isTrue_and (thn (ha pins s σ H _ I h) fun c s1 ⟨H1, I1, q1⟩ => ?_)
  cases c with
  | true => exact hb wh pins s1 σ H1 Q I1 q1
  | false => exact ⟨H1, I1, q1⟩
theorem pw_or (ha : PT X a tA) (hb : PW X (.BoolOp .Or (b :: rest) pos) tB') : PW X (.BoolOp .Or (a :: b :: rest) pos) (tOr tA tB') := by
  intro wh pins s σ H Q I h
  refine isTrue_or (thn (ha pins s σ H _ I h) fun c s1 ⟨H1, I1, q1⟩ => ?_)
  cases c with
  | true => exact ⟨H1, I1, q1⟩
  | false => exact hb wh pins s1 σ H1 Q I1 q1
theorem pt_not (ha : PT X a tA) : PT X (.UnaryOp .Not a pos) (tNot tA) := by
  intro pins s σ H Q I h
  exact isTrue_not (ha pins s σ H (fun c H1 => Q (!c) H1) I h)
noncomputable def tAndV (ta tb : TE) : TE := fun σ H Q => ta σ H fun x H1 => ∃ c, x = .bl c ∧ if c = true then tb σ H1 Q else Q (.bl false) H1
noncomputable def tOrV (ta tb : TE) : TE := fun σ H Q => ta σ H fun x H1 => ∃ c, x = .bl c ∧ if c = true then Q (.bl true) H1 else tb σ H1 Q
noncomputable def tNotV (ta : TE) : TE := fun σ H Q => ta σ H fun x H1 => ∃ c, x = .bl c ∧ Q (.bl (!c)) H1
theorem pe_one {op} {t : TE} (h : PE X a t) : PE X (.BoolOp op [a] pos) t := fun pins s σ H Q I hw => BoolOp_one (h pins s σ H Q I hw)
theorem pe_and (ha : PE X a ta) (hb : PE X (.BoolOp .And (b :: rest) pos) tb) : PE X (.BoolOp .And (a :: b :: rest) pos) (tAndV ta tb) := by
  intro pins s σ H Q I h
  refine BoolOp_and (thn (ha pins s σ H _ I h) fun v s1 ⟨x, H1, I1, r1, q1⟩ => ?_)
  obtain ⟨c, rfl, q1⟩ := q1
  cases r1
  refine wpAny_truthy_bool ?_
  cases c with
  | true => exact hb pins s1 σ H1 Q I1 q1
  | false => exact ⟨.bl false, H1, I1, rfl, q1⟩
noncomputable def tIf (t : TT) (ta tb : TE) : TE := fun σ H Q => t σ H fun c H1 => if c = true then ta σ H1 Q else tb σ H1 Q
theorem pe_ifExp {c : Expr} (hc : PT X c tA) (ha : PE X a ta) (hb : PE X b tb) : PE X (.IfExp c a b pos) (tIf tA ta tb) := by
  intro pins s σ H Q I h
  refine wpAny_IfExp (thn (hc pins s σ H _ I h) fun d s1 ⟨H1, I1, q1⟩ => ?_)
  cases d with
  | true => exact ha pins s1 σ H1 Q I1 q1
  | false => exact hb pins s1 σ H1 Q I1 q1
end
end L2

namespace L2
open PySem PySem.Spec PyProof.Rows

/-! ### a list, a tuple that is read: tracked, frozen, or an object of the module -/
noncomputable def SqL (K : PySem.W.Frag) (H : Hp) (a : Addr) (xs : List V) : Prop :=
  Rd H a (.lst xs) ∨
    ∃ (o : Obj) (its : Array Value) (n : Nat), K.lookup a = some o ∧ o.cls = .type "list" ∧ o.dict = none ∧ o.data = .seq its n ∧ its.size ≤ sizeLine ∧ Vals xs its.toList
noncomputable def SqT (K : PySem.W.Frag) (H : Hp) (a : Addr) (xs : List V) : Prop :=
  Rd H a (.tup xs) ∨
    ∃ (o : Obj) (its : Array Value) (n : Nat), K.lookup a = some o ∧ o.cls = .type "tuple" ∧ o.data = .seq its n ∧ its.size ≤ sizeLine ∧ Vals xs its.toList
noncomputable def absV : Value → Option V
  | .none => some .non
  | .bool b => some (.bl b)
  | .int i _ => some (.int i)
  | .str x _ => some (.str x)
  | .bytes b _ => some (.byt b)
  | .float b _ => some (.flt b)
  | .ref a => some (.ref a)
  | .type n => some (.ty n)
  | _ => none
theorem RelV.abs {x : V} {u : Value} (r : RelV x u) : absV u = some x := by
  cases x with
  | non => cases r; rfl
  | bl _ => cases r; rfl
  | int _ => obtain ⟨t, rfl⟩ := r; rfl
  | str _ => obtain ⟨t, rfl⟩ := r; rfl
  | byt _ => obtain ⟨t, rfl⟩ := r; rfl
  | flt _ => obtain ⟨t, rfl⟩ := r; rfl
  | ref _ => cases r; rfl
  | ty _ => cases r; rfl
theorem RelV.inj {x y : V} {u : Value} (r : RelV x u) (q : RelV y u) : x = y := Option.some.inj (r.abs.symm.trans q.abs)
theorem Vals.inj : ∀ {xs ys : List V} {us : List Value}, Vals xs us → Vals ys us → xs = ys
  | _, _, _, .nil, .nil => rfl
  | _, _, _, .cons r t, .cons r' t' => by rw [r.inj r', Vals.inj t t']
section
variable {X : Cx} {pins : List (Addr × Obj)} {σ : St} {H : Hp} {s : Shared} {a : Addr} {xs ys : List V}
theorem SqL.of {K : PySem.W.Frag} (h : H a = some (.lst xs)) : SqL K H a xs := .inl (.inl h)
theorem SqT.of {K : PySem.W.Frag} (h : H a = some (.tup xs)) : SqT K H a xs := .inl (.inl h)
theorem Inv.list (I : Inv X pins σ H s) (h : SqL X.K H a xs) : ∃ its : List Value, Vals xs its ∧ PlainL s.heap a its.toArray ∧ xs.length ≤ sizeLine := by
  rcases h with h | ⟨o, its, n, hk, hc, hd, hs, hz, r⟩
  · obtain ⟨z, its, n, r, e⟩ := h.ok I.hok
    exact ⟨its, r, ⟨_, n, e, rfl, rfl, rfl⟩, z⟩
  · refine ⟨its.toList, r, ⟨o, n, I.kIn a o hk, hc, hd, by simpa using hs⟩, ?_⟩
    have e := r.length
    simp only [Array.length_toList] at e
    omega
theorem Inv.tuple (I : Inv X pins σ H s) (h : SqT X.K H a xs) : ∃ its : List Value, Vals xs its ∧ IsTup s.heap a its.toArray ∧ xs.length ≤ sizeLine := by
  rcases h with h | ⟨o, its, n, hk, hc, hs, hz, r⟩
  · obtain ⟨z, its, r, p⟩ := h.ok I.hok
    exact ⟨its, r, p, z⟩
  · refine ⟨its.toList, r, ⟨o, I.kIn a o hk, hc, n, by simpa using hs⟩, ?_⟩
    have e := r.length
    simp only [Array.length_toList] at e
    omega
theorem Inv.list_inj (I : Inv X pins σ H s) (h : SqL X.K H a xs) (h' : SqL X.K H a ys) : xs = ys := by
  obtain ⟨its, r, ⟨o, n, e, _, _, d⟩, _⟩ := I.list h
  obtain ⟨its', r', ⟨o', n', e', _, _, d'⟩, _⟩ := I.list h'
  rw [e] at e'; cases e'
  rw [d] at d'
  injection d' with d1 _
  have : its = its' := by simpa using congrArg Array.toList d1
  subst this
  exact r.inj r'
theorem Inv.tuple_inj (I : Inv X pins σ H s) (h : SqT X.K H a xs) (h' : SqT X.K H a ys) : xs = ys := by
  obtain ⟨its, r, ⟨o, e, _, n, d⟩, _⟩ := I.tuple h
  obtain ⟨its', r', ⟨o', e', _, n', d'⟩, _⟩ := I.tuple h'
  rw [e] at e'; cases e'
  rw [d] at d'
  injection d' with d1 _
  have : its = its' := by simpa using congrArg Array.toList d1
  subst this
  exact r.inj r'
end

/-! ### another wish about exceptions -/
noncomputable abbrev Cx.wish (X : Cx) (E : Value → Shared → Prop) : Cx := { X with xe := E }
noncomputable abbrev Cx.nox (X : Cx) : Cx := X.wish fun _ _ => False
theorem Cx.Ok.wish {X : Cx} (ok : X.Ok) (E : Value → Shared → Prop) : (X.wish E).Ok :=
  ⟨ok.mod, ok.kind, ok.glob, ok.blt, ok.above, ok.inj, ok.has, ok.cab, ok.hd, ok.frames, ok.stk, ok.exf, ok.bs, ok.bsz, ok.noex, ok.exfs, ok.funs, ok.frf⟩
theorem Cx.Ok.unwish {X : Cx} {E : Value → Shared → Prop} (ok : (X.wish E).Ok) : X.Ok :=
  ⟨ok.mod, ok.kind, ok.glob, ok.blt, ok.above, ok.inj, ok.has, ok.cab, ok.hd, ok.frames, ok.stk, ok.exf, ok.bs, ok.bsz, ok.noex, ok.exfs, ok.funs, ok.frf⟩
section
variable {X : Cx} {pins : List (Addr × Obj)} {σ : St} {H : Hp} {s : Shared} {E : Value → Shared → Prop}
theorem Inv.wish (I : Inv X pins σ H s) (E : Value → Shared → Prop) : Inv (X.wish E) pins σ H s := ⟨I.ok.wish E, I.os, I.bare, I.base, I.loc, I.cell, I.free, I.freeC, I.pin, I.hok, I.len⟩
theorem Inv.unwish (I : Inv (X.wish E) pins σ H s) : Inv X pins σ H s := ⟨I.ok.unwish, I.os, I.bare, I.base, I.loc, I.cell, I.free, I.freeC, I.pin, I.hok, I.len⟩
theorem SP.unwish {D : Ends} {f : Flow} {s' : Shared} (h : SP (X.wish E) pins D f s') : SP X pins D f s' := by
  cases f with
  | next => obtain ⟨σ', H', I, q⟩ := h; exact ⟨σ', H', I.unwish, q⟩
  | brk => obtain ⟨σ', H', I, q⟩ := h; exact ⟨σ', H', I.unwish, q⟩
  | cont => obtain ⟨σ', H', I, q⟩ := h; exact ⟨σ', H', I.unwish, q⟩
  | ret u => obtain ⟨v, σ', H', I, r, q⟩ := h; exact ⟨v, σ', H', I.unwish, r, q⟩
theorem PSs.nox {st : List Stmt} {t : TS} (h : PSs X.nox st t) : PSs X st t := fun pins s σ H D I hw =>
  wpAny_mono (h pins s σ H D (I.wish _) hw) (fun _ _ q => q.unwish) fun _ _ z => False.elim z
end

/-! ### blocks and small statements -/
section
variable {X : Cx} {st : Stmt} {rest : List Stmt} {t u : TS} {e : Expr} {te : TE} {pos : Pos}
noncomputable def tNext : TS := fun D σ H => D.nx σ H
noncomputable def tSeq (t u : TS) : TS := fun D σ H => t { D with nx := u D } σ H
theorem pss_nil : PSs X [] tNext := fun _ _ σ H _ I h => wpAny_execs_nil ⟨σ, H, I, h⟩
theorem pss_cons (h1 : PS X st t) (h2 : PSs X rest u) : PSs X (st :: rest) (tSeq t u) := by
  intro pins s σ H D I h
  refine wpAny_execs_cons (thn (h1 pins s σ H { D with nx := u D } I h) fun f s1 q => ?_)
  cases f with
  | next =>
    obtain ⟨σ', H', I', q⟩ := q
    exact h2 pins s1 σ' H' D I' q
  | ret v => exact q
  | brk => exact q
  | cont => exact q
theorem pss_one (h1 : PS X st t) : PSs X [st] t := by
  intro pins s σ H D I h
  refine wpAny_execs_cons (thn (h1 pins s σ H D I h) fun f s1 q => ?_)
  cases f with
  | next => exact wpAny_execs_nil q
  | ret v => exact q
  | brk => exact q
  | cont => exact q
theorem Inv.quiet {pins : List (Addr × Obj)} {σ : St} {H : Hp} {s : Shared} (I : Inv X pins σ H s) : interactive X.env = false := by simp [interactive, I.ok.kind]
noncomputable def tDrop (te : TE) : TS := fun D σ H => te σ H fun _ H1 => D.nx σ H1
theorem ps_expr (he : PE X e te) (hs : swapsWith e none pos.line X.env = pure false := by rfl) : PS X (.Expr e pos) (tDrop te) := by
  intro pins s σ H D I h
  exact wpAny_Expr_any (thn (he pins s σ H _ I h) fun v s1 ⟨x, H1, I1, r1, q1⟩ => ⟨σ, H1, I1, q1⟩) I.quiet hs
noncomputable def tRet (te : TE) : TS := fun D σ H => te σ H D.rt
theorem ps_ret (he : PE X e te) : PS X (.Return (some e) pos) (tRet te) := by
  intro pins s σ H D I h
  exact wpAny_Return_some (thn (he pins s σ H _ I h) fun v s1 ⟨x, H1, I1, r1, q1⟩ => ⟨x, σ, H1, I1, r1, q1⟩)
noncomputable def tRetN : TS := fun D _ H => D.rt .non H
noncomputable def tIfS (c : TT) (t u : TS) : TS := fun D σ H => c σ H fun b H1 => if b = true then t D σ H1 else u D σ H1
theorem ps_if {c : Expr} {a b : List Stmt} {tc : TT} (hc : PT X c tc) (ha : PSs X a t) (hb : PSs X b u) : PS X (.If c a b pos) (tIfS tc t u) := by
  intro pins s σ H D I h
  refine wpAny_If (thn (hc pins s σ H _ I h) fun d s1 ⟨H1, I1, q1⟩ => ?_)
  cases d with
  | true => exact ha pins s1 σ H1 D I1 q1
  | false => exact hb pins s1 σ H1 D I1 q1
noncomputable def tNever : TS := fun _ _ _ => False
theorem ps_never : PS X st tNever := fun _ _ _ _ _ _ h => h.elim
end

/-! ### targets -/
noncomputable abbrev TG := V → St → Hp → (St → Hp → Prop) → Prop
noncomputable abbrev TGs := List V → St → Hp → (St → Hp → Prop) → Prop
noncomputable def PG (X : Cx) (target : Expr) (t : TG) : Prop :=
  ∀ (pins : List (Addr × Obj)) (s : Shared) (σ : St) (H : Hp) (v : V) (u : Value) (Q : St → Hp → Prop), Inv X pins σ H s → RelV v u → t v σ H Q →
    wpAny (model X.prog X.w) X.A (assign target X.env u) (fun _ s' => ∃ σ' H', Inv X pins σ' H' s' ∧ Q σ' H') X.xe s
noncomputable def PGs (X : Cx) (ts : List Expr) (t : TGs) : Prop :=
  ∀ (pins : List (Addr × Obj)) (s : Shared) (σ : St) (H : Hp) (vs : List V) (us : List Value) (Q : St → Hp → Prop), Inv X pins σ H s → Vals vs us → t vs σ H Q →
    wpAny (model X.prog X.w) X.A (assignInOrder ((assignEach ts X.env).map (·.2)) us) (fun _ s' => ∃ σ' H', Inv X pins σ' H' s' ∧ Q σ' H') X.xe s
noncomputable abbrev TSet := V → V → V → Hp → (Hp → Prop) → Prop
noncomputable def PSet (X : Cx) (t : TSet) : Prop :=
  ∀ (pins : List (Addr × Obj)) (s : Shared) (σ : St) (H : Hp) (o i v : V) (ov iv u : Value) (Q : Hp → Prop), Inv X pins σ H s → RelV o ov → RelV i iv → RelV v u → t o i v H Q →
    wpAny (model X.prog X.w) X.A (setItem ov iv u) (fun _ s' => ∃ H', Inv X pins σ H' s' ∧ Q H') X.xe s
section
variable {X : Cx} {pos : Pos}
noncomputable def gName (i : Nat) : TG := fun v σ H Q => Q (σ.set i (some v)) H
theorem pg_name {i : Nat} {x : Str} (hN : X.N.Nodup) (hi : X.N[i]? = some x) (hx : Loc X.env.scope x) (hf : X.fn x = true ∨ X.env.scope.names.lookup x = some .local := by first | exact .inl rfl | exact .inr rfl | assumption) : PG X (.Name x pos) (gName i) := by
  intro pins s σ H v u Q I r h
  exact wpAny_assign_Name (store_ok I hN hi hx r (fun s' I' => ⟨_, H, I', h⟩) hf)
noncomputable def gNil : TGs := fun vs σ H Q => vs = [] ∧ Q σ H
noncomputable def gCons (t : TG) (u : TGs) : TGs := fun vs σ H Q => ∃ v r, vs = v :: r ∧ t v σ H fun σ' H' => u r σ' H' Q
theorem pgs_nil : PGs X [] gNil := by
  intro pins s σ H vs us Q I r h
  obtain ⟨e, h⟩ := h
  subst e
  cases r
  exact assignInOrder_nil ⟨σ, H, I, h⟩
theorem pgs_cons {e : Expr} {es : List Expr} {t : TG} {u : TGs} (h1 : PG X e t) (h2 : PGs X es u)
    (hs : (assignEach (e :: es) X.env).map (·.2) = assign e X.env :: (assignEach es X.env).map (·.2) := by rfl) : PGs X (e :: es) (gCons t u) := by
  intro pins s σ H vs us Q I r h
  obtain ⟨v, vr, e1, h⟩ := h
  subst e1
  cases r with
  | cons r rr =>
    rw [hs]
    refine assignInOrder_cons (thn (h1 pins s σ H _ _ _ I r h) fun _ s1 ⟨σ1, H1, I1, q1⟩ => ?_)
    exact h2 pins s1 σ1 H1 _ _ Q I1 rr q1
noncomputable def gTup (K : PySem.W.Frag) (n : Nat) (t : TGs) : TG := fun v σ H Q => ∃ a xs, v = .ref a ∧ SqT K H a xs ∧ xs.length = n ∧ t xs σ H Q
theorem pg_tup {es : List Expr} {k : Nat} {t : TGs} {n : Nat} (hc : X.calm = true) (h : PGs X es t)
    (hn : (assignEach es X.env).length = n := by rfl) (hst : (assignEach es X.env).findIdx? (·.1) = none := by rfl) : PG X (.Tuple es k pos) (gTup X.K n t) := by
  intro pins s σ H v u Q I r hw
  obtain ⟨a, xs, e1, hq, hl, hw⟩ := hw
  subst e1
  cases r
  obtain ⟨its, rv, ht, hz⟩ := I.tuple hq
  refine assign_Tuple_tuple (I.ok.hd hc) ht (by simp [hn, ← hl, rv.length]) hst fun h' hx => ?_
  have I1 : Inv X pins σ H { s with heap := h' } := I.kept (t' := s.toks) fun b o e => hx b o (Nat.ne_of_lt (Heap.lt_size e)) e
  exact h pins _ σ H xs _ Q I1 (by simpa using rv) hw
noncomputable def gSub (to ti : TE) (t : TSet) : TG := fun v σ H Q => to σ H fun o H1 => ti σ H1 fun i H2 => t o i v H2 fun H3 => Q σ H3
theorem pg_sub {o i : Expr} {to ti : TE} {t : TSet} (ho : PE X o to) (hi : PE X i ti) (hs : PSet X t)
    (ha : ∀ v, assign (.Subscript o i pos) X.env v = (do
      let ov ← holding [v] (eval o X.env)
      let iv ← holding [v, ov] (eval i X.env)
      standAt pos
      holding [v, ov, iv] (setItem ov iv v)
      release [v, ov, iv] []) := by intro _; rfl) : PG X (.Subscript o i pos) (gSub to ti t) := by
  intro pins s σ H v u Q I r h
  rw [ha]
  refine wpAny_bind (wpAny_holding (thn (ho pins s σ H _ I h) fun ov s1 ⟨x, H1, I1, r1, q1⟩ => ?_))
  refine wpAny_bind (wpAny_holding (thn (hi pins s1 σ H1 _ I1 q1) fun iv s2 ⟨y, H2, I2, r2, q2⟩ => ?_))
  refine wpAny_bind (wpAny_standAt (wpAny_bind (wpAny_holding (thn (hs pins s2 σ H2 x y v ov iv u _ I2 r1 r2 r q2) fun _ s3 ⟨H3, I3, q3⟩ => ?_))))
  exact wpAny_release ⟨σ, H3, I3, q3⟩
noncomputable def tAsg (te : TE) (g : TG) : TS := fun D σ H => te σ H fun x H1 => g x σ H1 D.nx
theorem ps_asg {tg e : Expr} {te : TE} {g : TG} (he : PE X e te) (hg : PG X tg g) (hs : swapsWithSole [tg] e pos.line X.env = pure false := by rfl) (hw : swappedStores [tg] e X.env = pure none := by rfl)
    (h1 : (assignEach [tg] X.env).map (·.2) = [assign tg X.env] := by rfl) : PS X (.Assign [tg] e pos) (tAsg te g) := by
  intro pins s σ H D I h
  refine wpAny_Assign_stores (thn (he pins s σ H _ I h) fun v s1 ⟨x, H1, I1, r1, q1⟩ => ?_) hs hw
  rw [h1]
  exact thn (hg pins s1 σ H1 x v _ I1 r1 q1) fun _ s2 q => q
theorem ps_set {i : Nat} {x : Str} {e : Expr} {te : TE} {pos' : Pos} (hN : X.N.Nodup) (hi : X.N[i]? = some x) (hx : Loc X.env.scope x) (he : PE X e te) (hs : swapsWith e (some (.Name x pos')) pos.line X.env = pure false := by rfl) (hf : X.fn x = true ∨ X.env.scope.names.lookup x = some .local := by first | exact .inl rfl | exact .inr rfl | assumption) :
    PS X (.Assign [.Name x pos'] e pos) (tAsg te (gName i)) := by
  intro pins s σ H D I h
  refine wpAny_Assign_Name (thn (he pins s σ H _ I h) fun v s1 ⟨y, H1, I1, r1, q1⟩ => ?_) hs
  exact store_ok I1 hN hi hx r1 (fun s2 I2 => ⟨_, H1, I2, q1⟩) hf
end

/-! ### while -/
section
variable {X : Cx} {pos : Pos}
end

/-! ### what a loop or a comprehension walks -/
set_option genInjectivity false in
structure It where
  go : Nat → Hp → Prop
  yld : Nat → Hp → V → Hp → Prop
  stop : Nat → Hp → Prop
noncomputable def FpOk (X : Cx) (pins : List (Addr × Obj)) (H : Hp) (b : Addr) : Prop :=
  H b = none ∧ b ≠ X.env.locals ∧ b ∉ X.fs ∧ (b ∈ X.ex ∨ X.s₀.heap.objs.size ≤ b) ∧ (∀ x c, X.env.cells.lookup x = some c → c ≠ b) ∧ ∀ p ∈ X.pn ++ pins, p.1 ≠ b
theorem Inv.fpOk {X : Cx} {pins : List (Addr × Obj)} {σ : St} {H H' : Hp} {s : Shared} {b : Addr} (I : Inv X pins σ H s) (hb : s.heap.objs.size ≤ b) (hn : H' b = none) : FpOk X pins H' b := by
  refine ⟨hn, Nat.ne_of_gt (Nat.lt_of_lt_of_le I.lt hb), I.nofs hb, .inr (Nat.le_trans I.sz hb), fun x c e z => ?_, fun p hp z => ?_⟩
  · obtain ⟨v, q⟩ := I.cell x c e
    exact absurd (Nat.lt_of_lt_of_le q.lt (by rw [z]; exact hb)) (Nat.lt_irrefl _)
  · exact absurd (Nat.lt_of_lt_of_le (Heap.lt_size (I.pin p hp).1) (by rw [z]; exact hb)) (Nat.lt_irrefl _)
set_option genInjectivity false in
structure Turn (P : Program) (w : World) (K : PySem.W.Frag) (tg : Expr) (J : It) (fp : List Addr) (it : Addr) (tn : Nat → Heap → Prop) : Prop where
  mem : it ∈ fp
  obj : ∀ i h, tn i h → ∀ b ∈ fp, ∃ o, h.get? b = some o ∧ ∀ v, o.data ≠ .cell v
  keep : ∀ i h h', tn i h → (∀ b ∈ fp, ∀ o, h.get? b = some o → h'.get? b = some o) → tn i h'
  item : ∀ (X : Cx), X.prog = P → X.w = w → X.K = K → X.calm = true → ∀ (i : Nat) (pins : List (Addr × Obj)) (s : Shared) (σ : St) (H : Hp) (E : Value → Shared → Prop), Inv X pins σ H s → (∀ b ∈ fp, FpOk X pins H b) → tn i s.heap → J.go i H →
    wpAny (model P w) X.A (pyNext (.ref it)) (fun r s1 => ∃ u, r = some u ∧
      wpAny (model P w) X.A (letOwnedTupleGo tg (.ref it) u) (fun _ s2 => ∃ x H', Inv X pins σ H' s2 ∧ RelV x u ∧ J.yld i H x H' ∧ tn (i + 1) s2.heap ∧ ∀ b ∈ fp, H' b = none) E s1) E s
  done : ∀ (X : Cx), X.prog = P → X.w = w → X.K = K → X.calm = true → ∀ (i : Nat) (pins : List (Addr × Obj)) (s : Shared) (σ : St) (H : Hp) (E : Value → Shared → Prop), Inv X pins σ H s → (∀ b ∈ fp, FpOk X pins H b) → tn i s.heap → J.stop i H →
    wpAny (model P w) X.A (pyNext (.ref it)) (fun r s1 => r = none ∧ Inv X pins σ H s1) E s
  self : ∀ (A : Around) (i : Nat) (s : Shared) (Q : Value → Shared → Prop) (E : Value → Shared → Prop), tn i s.heap → Q (.ref it) s → wpAny (model P w) A (pyIter (.ref it)) Q E s
noncomputable abbrev TI := St → Hp → (It → Hp → Prop) → Prop
noncomputable def PIE (X : Cx) (pins : List (Addr × Obj)) (σ : St) (tg : Expr) (R : It → Hp → Prop) (itv : Value) (s2 : Shared) : Prop :=
  ∃ (it : Addr) (fp : List Addr) (tn : Nat → Heap → Prop) (J : It) (H' : Hp), itv = .ref it ∧ Inv X pins σ H' s2 ∧ Turn X.prog X.w X.K tg J fp it tn ∧ tn 0 s2.heap ∧ (∀ b ∈ fp, FpOk X pins H' b) ∧ R J H'
noncomputable def PI (X : Cx) (tg iter : Expr) (wi : TI) : Prop :=
  ∀ (pins : List (Addr × Obj)) (s : Shared) (σ : St) (H : Hp) (R : It → Hp → Prop), Inv X pins σ H s → wi σ H R →
    wpAny (model X.prog X.w) X.A (eval iter X.env) (fun v s1 => wpAny (model X.prog X.w) X.A (pyIter v) (PIE X pins σ tg R) X.xe s1) X.xe s

theorem go_of {M : Model} {A : Around} {E : Value → Shared → Prop} {s : Shared} {tg : Expr} {it : Addr} {u : Value} {o : Obj} {n : String} {vs : Array Value} {Q : Unit → Shared → Prop} (ho : s.heap.get? it = some o) (hc : o.cls = .type n) (hd : o.data = .fields vs)
    (hn : ["enumerate", "zip", "dict_itemiterator", "dict_reverseitemiterator", "odict_iterator", "itertools.zip_longest", "itertools.pairwise"].contains n = false) (hQ : Q () s) : wpAny M A (letOwnedTupleGo tg (.ref it) u) Q E s := by
  unfold letOwnedTupleGo
  cases tg <;> first
    | exact wpAny_pure hQ
    | (cases u <;> first
        | exact wpAny_pure hQ
        | (refine wpAny_bind (wpAny_load ho ?_)
           rw [hc, hd]
           show wpAny M A (if (["enumerate", "zip", "dict_itemiterator", "dict_reverseitemiterator", "odict_iterator", "itertools.zip_longest", "itertools.pairwise"].contains n && vs[0]? == some (rawInt _)) = true then _ else _) Q E s
           rw [if_neg (by intro h; rw [hn, Bool.false_and] at h; cases h)]
           exact wpAny_pure hQ))

noncomputable def Itl (K : PySem.W.Frag) (a : Addr) : It :=
  ⟨fun i H => ∃ xs x, SqL K H a xs ∧ xs[i]? = some x, fun i H x H' => H' = H ∧ ∀ xs, SqL K H a xs → xs[i]? = some x, fun i H => ∃ xs, SqL K H a xs ∧ xs.length ≤ i⟩
noncomputable def Itt (K : PySem.W.Frag) (a : Addr) : It :=
  ⟨fun i H => ∃ xs x, SqT K H a xs ∧ xs[i]? = some x, fun i H x H' => H' = H ∧ ∀ xs, SqT K H a xs → xs[i]? = some x, fun i H => ∃ xs, SqT K H a xs ∧ xs.length ≤ i⟩
noncomputable def Itr (lo : Int) (n : Nat) : It := ⟨fun i _ => i < n, fun i H x H' => H' = H ∧ x = .int (lo + i), fun i _ => n ≤ i⟩
theorem turn_list {P : Program} {w : World} {K : PySem.W.Frag} {tg : Expr} (a it : Addr) : Turn P w K tg (Itl K a) [it] it (fun i h => h.IsListIter it a i) where
  mem := by simp
  obj := fun i h st b hb => by
    have e : b = it := by simpa using hb
    subst e
    obtain ⟨o, e, c, d⟩ := st
    exact ⟨o, e, fun v z => by rw [d] at z; cases z⟩
  keep := fun i h h' st k => st.at fun o e => k it (by simp) o e
  item := by
    intro X hP hw hK hc i pins s σ H E I hf st hg
    subst hP hw hK
    obtain ⟨xs, x, hq, hx⟩ := hg
    obtain ⟨its, rv, p, hz⟩ := I.list hq
    obtain ⟨u, hu, ru⟩ := rv.get hx
    obtain ⟨f0, f1, f2, f3, f4, f5⟩ := hf it (by simp)
    refine wpAny_pyNext_list_item st p.isList (x := u) (by simpa using hu) fun h' st' sb => ?_
    have I1 : Inv X pins σ H { s with heap := h' } := I.turned (t' := s.toks) (fun b o hb e => (sb.2 b hb).trans e) f0 f1 f3 f4 f5
    obtain ⟨o, e, c, d⟩ := id st'
    exact ⟨u, rfl, go_of (s := { s with heap := h' }) e c d (by decide) ⟨x, H, I1, ru, ⟨rfl, fun ys hy => by rw [I.list_inj hy hq]; exact hx⟩, st', fun b hb => (hf b hb).1⟩⟩
  done := by
    intro X hP hw hK hc i pins s σ H E I hf st hg
    subst hP hw hK
    obtain ⟨xs, hq, hx⟩ := hg
    obtain ⟨its, rv, p, hz⟩ := I.list hq
    obtain ⟨f0, f1, f2, f3, f4, f5⟩ := hf it (by simp)
    have hl := rv.length
    exact wpAny_pyNext_list_end (I.ok.hd hc) st p.isList (by simp; omega) fun h' eb => ⟨rfl, I.turned (t' := s.toks) (fun b o hb e => eb b o hb e) f0 f1 f3 f4 f5⟩
  self := fun _ _ _ _ _ st h => wpAny_pyIter_listiter st h
end L2

namespace L2
open PySem PySem.Spec PyProof.Rows
section
variable {X : Cx} {tg : Expr}
noncomputable def iList (K : PySem.W.Frag) (tl : TE) : TI := fun σ H R => tl σ H fun x H1 => ∃ a, x = .ref a ∧ (∃ xs, SqL K H1 a xs) ∧ R (Itl K a) H1
noncomputable def iTup (K : PySem.W.Frag) (tl : TE) : TI := fun σ H R => tl σ H fun x H1 => ∃ a, x = .ref a ∧ (∃ xs, SqT K H1 a xs) ∧ R (Itt K a) H1
theorem pi_list {l : Expr} {tl : TE} (hl : PE X l tl) : PI X tg l (iList X.K tl) := by
  intro pins s σ H R I h
  refine thn (hl pins s σ H _ I h) fun v s1 ⟨x, H1, I1, r1, q1⟩ => ?_
  obtain ⟨a, e, ⟨xs, hq⟩, q⟩ := q1
  subst e
  cases r1
  obtain ⟨its, rv, p, hz⟩ := I1.list hq
  refine wpAny_pyIter_list p.isList ?_
  refine ⟨s1.heap.objs.size, [s1.heap.objs.size], _, _, H1, rfl, I1.kept (t' := s1.toks) fun b o e => Heap.get?_push_of_some _ e, turn_list a _, ⟨_, Heap.get?_push_size _ rfl, rfl, rfl⟩, fun b hb => ?_, q⟩
  have e : b = s1.heap.objs.size := by simpa using hb
  subst e
  exact I1.fpOk (Nat.le_refl _) (I1.hok.fresh (Nat.le_refl _))
noncomputable def iRng1 (ta : TA) : TI := fun σ H R => ta σ H fun vs H1 => ∃ j : Int, vs = [.int j] ∧ -(2 ^ 62) ≤ j ∧ j < 2 ^ 62 ∧ R (Itr 0 j.toNat) H1
noncomputable def iRng2 (ta : TA) : TI := fun σ H R => ta σ H fun vs H1 => ∃ i j : Int, vs = [.int i, .int j] ∧ (-(2 ^ 62) ≤ i ∧ i < 2 ^ 62 ∧ -(2 ^ 62) ≤ j ∧ j < 2 ^ 62) ∧ R (Itr i (j - i).toNat) H1

/-! ### for -/
noncomputable def tFor (wi : TI) (g : TG) (tb : TS) : TS := fun D σ H => wi σ H fun J H1 => ∃ W : Nat → Nat → St → Hp → Prop, (∃ m, W 0 m σ H1) ∧ ∀ i m σ H, W i m σ H →
  (J.stop i H ∧ D.nx σ H) ∨ (J.go i H ∧ ∃ N : St → Hp → Prop, (∀ σ' H', N σ' H' → ∃ m', m' < m ∧ W (i + 1) m' σ' H') ∧ ∀ x H', J.yld i H x H' → g x σ H' fun σ2 H2 => tb { D with nx := N, ct := N, bk := D.nx } σ2 H2)
noncomputable def pinsAt (fp : List Addr) (h : Heap) : List (Addr × Obj) := fp.filterMap fun b => (h.get? b).map fun o => (b, o)
theorem mem_pinsAt {fp : List Addr} {h : Heap} {b : Addr} {o : Obj} (hb : b ∈ fp) (e : h.get? b = some o) : (b, o) ∈ pinsAt fp h := List.mem_filterMap.mpr ⟨b, hb, by rw [e]; rfl⟩
theorem of_pinsAt {fp : List Addr} {h : Heap} {p : Addr × Obj} (hp : p ∈ pinsAt fp h) : p.1 ∈ fp ∧ h.get? p.1 = some p.2 := by
  obtain ⟨b, hb, e⟩ := List.mem_filterMap.mp hp
  cases q : h.get? b with
  | none => rw [q] at e; cases e
  | some o =>
    rw [q] at e
    have e' : (b, o) = p := Option.some.inj e
    subst e'
    exact ⟨hb, q⟩
theorem Inv.pinned {pins : List (Addr × Obj)} {σ : St} {H : Hp} {s : Shared} {fp : List Addr} (I : Inv X pins σ H s) (hf : ∀ b ∈ fp, FpOk X pins H b) (ho : ∀ b ∈ fp, ∃ o, s.heap.get? b = some o ∧ ∀ v, o.data ≠ .cell v) : Inv X (pins ++ pinsAt fp s.heap) σ H s :=
  I.pins_of fun p hp => (List.mem_append.mp hp).elim (fun z => I.pin p (List.mem_append_right _ z)) fun z => by
    obtain ⟨hb, e⟩ := of_pinsAt z
    obtain ⟨f0, f1, f2, _⟩ := hf p.1 hb
    obtain ⟨o, e', d⟩ := ho p.1 hb
    rw [e] at e'; cases e'
    exact ⟨e, f0, f1, f2, d⟩
theorem Inv.unpinned {pins pl : List (Addr × Obj)} {σ : St} {H : Hp} {s : Shared} (I : Inv X (pins ++ pl) σ H s) : Inv X pins σ H s := I.pins_of fun p hp => I.pin p (List.mem_append_right _ (List.mem_append_left _ hp))
theorem ps_for {iter : Expr} {body : List Stmt} {wi : TI} {g : TG} {tb : TS} {pos : Pos} (hp : PassesOwn (model X.prog X.w) X.A X.env X.xe) (hc : X.calm = true) (hi : PI X tg iter wi) (hg : PG X tg g) (hb : PSs X body tb)
    (hs : ∀ x, foldedSetIterable iter X.env x = pure x := by intro _; rfl) : PS X (.For tg iter body [] pos) (tFor wi g tb) := by
  intro pins s σ H D I h
  refine wpAny_For (thn (hi pins s σ H _ I h) fun v s1 h1 => thn h1 fun itv s2 h2 => ?_) hs
  obtain ⟨it, fp, tn, J, H2, e, I2, T, st2, f2, W, ⟨m0, w0⟩, turn⟩ := h2
  subst e
  -- what stays true of the iterator's objects through the loop
  have stat : ∀ {H' : Hp}, (∀ b ∈ fp, H' b = none) → ∀ b ∈ fp, FpOk X pins H' b := fun hn b hb => ⟨hn b hb, (f2 b hb).2⟩
  refine codeAny_forLoop_any (fun n s' => ∃ i σ' H', Inv X pins σ' H' s' ∧ tn i s'.heap ∧ (∀ b ∈ fp, H' b = none) ∧ W i n σ' H') ?_ m0 ⟨0, σ, H2, I2, st2, fun b hb => (f2 b hb).1, w0⟩
  rintro n s3 ⟨i, σ3, H3, I3, st3, fr3, w3⟩
  rcases turn i n σ3 H3 w3 with ⟨stop, qn⟩ | ⟨go, N, hN, step⟩
  · refine wpAny_passesOwn hp (thn (T.done X rfl rfl rfl hc i pins s3 σ3 H3 X.xe I3 (stat fr3) st3 stop) fun r s4 ⟨hr, I4⟩ => ?_)
    subst hr
    exact wpAny_execs_nil ⟨σ3, H3, I4, qn⟩
  · refine wpAny_passesOwn hp (thn (T.item X rfl rfl rfl hc i pins s3 σ3 H3 X.xe I3 (stat fr3) st3 go) fun r s4 ⟨u, hr, h4⟩ => ?_)
    subst hr
    refine wpAny_passesOwn hp (thn h4 fun _ s5 ⟨x, H5, I5, r5, y5, st5, fr5⟩ => ?_)
    have I5' := I5.pinned (stat fr5) (T.obj _ _ st5)
    refine wpAny_passesOwn hp (thn (hg _ s5 σ3 H5 x u _ I5' r5 (step x H5 y5)) fun _ s6 ⟨σ6, H6, I6, q6⟩ => ?_)
    refine wpAny_passesOwn hp (thn (hb _ s6 σ6 H6 _ I6 q6) fun f s7 q7 => ?_)
    have again : ∀ {σ7 : St} {H7 : Hp}, Inv X (pins ++ pinsAt fp s5.heap) σ7 H7 s7 → N σ7 H7 → ∃ m, m < n ∧ ∃ i σ' H', Inv X pins σ' H' s7 ∧ tn i s7.heap ∧ (∀ b ∈ fp, H' b = none) ∧ W i m σ' H' := fun {σ7 H7} I7 n7 => by
      obtain ⟨m', hm, w7⟩ := hN σ7 H7 n7
      refine ⟨m', hm, i + 1, σ7, H7, I7.unpinned, T.keep _ _ _ st5 fun b hb o e => (I7.pin (b, o) (List.mem_append_right _ (List.mem_append_right _ (mem_pinsAt hb e)))).1, fun b hb => ?_, w7⟩
      obtain ⟨o, e, d⟩ := T.obj _ _ st5 b hb
      exact (I7.pin (b, o) (List.mem_append_right _ (List.mem_append_right _ (mem_pinsAt hb e)))).2.1
    cases f with
    | next => obtain ⟨σ7, H7, I7, n7⟩ := q7; exact again I7 n7
    | cont => obtain ⟨σ7, H7, I7, n7⟩ := q7; exact again I7 n7
    | brk => obtain ⟨σ7, H7, I7, q7⟩ := q7; exact ⟨σ7, H7, I7.unpinned, q7⟩
    | ret v => obtain ⟨x7, σ7, H7, I7, r7, q7⟩ := q7; exact ⟨x7, σ7, H7, I7.unpinned, r7, q7⟩
end

/-! ### the forms one uses -/
theorem for_list {K : PySem.W.Frag} {a : Addr} {xs : List V} {g : TG} {tb : TS} {D : Ends} {σ : St} {H : Hp} (Pv : Nat → St → Hp → Prop) (h0 : Pv 0 σ H) (hl : ∀ i σ H, i ≤ xs.length → Pv i σ H → SqL K H a xs)
    (hs : ∀ i x σ H, xs[i]? = some x → Pv i σ H → g x σ H fun σ2 H2 => tb { D with nx := Pv (i + 1), ct := Pv (i + 1), bk := D.nx } σ2 H2) (hd : ∀ σ H, Pv xs.length σ H → D.nx σ H) :
    ∃ W : Nat → Nat → St → Hp → Prop, (∃ m, W 0 m σ H) ∧ ∀ i m σ H, W i m σ H →
      ((Itl K a).stop i H ∧ D.nx σ H) ∨ ((Itl K a).go i H ∧ ∃ N : St → Hp → Prop, (∀ σ' H', N σ' H' → ∃ m', m' < m ∧ W (i + 1) m' σ' H') ∧ ∀ x H', (Itl K a).yld i H x H' → g x σ H' fun σ2 H2 => tb { D with nx := N, ct := N, bk := D.nx } σ2 H2) := by
  refine ⟨fun i m σ H => m = xs.length - i ∧ i ≤ xs.length ∧ Pv i σ H, ⟨xs.length, by simp, Nat.zero_le _, h0⟩, ?_⟩
  rintro i m σ H ⟨rfl, hi, p⟩
  have q := hl i σ H hi p
  by_cases hlt : i < xs.length
  · refine .inr ⟨⟨xs, xs[i], q, by simp [hlt]⟩, Pv (i + 1), fun σ' H' p' => ⟨xs.length - (i + 1), by omega, rfl, hlt, p'⟩, fun x H' y => ?_⟩
    obtain ⟨e, y⟩ := y
    subst e
    exact hs i x σ _ (y xs q) p
  · have e : i = xs.length := by omega
    subst e
    exact .inl ⟨⟨xs, q, Nat.le_refl _⟩, hd σ H p⟩
end L2

namespace L2
open PySem PySem.Spec PyProof.Rows

noncomputable abbrev R2 := V → V → Hp → VK → Prop
noncomputable def OpR (X : Cx) (f : Value → Value → Sem Value) (r : R2) : Prop :=
  ∀ (pins : List (Addr × Obj)) (s : Shared) (σ : St) (H : Hp) (x y : V) (v u : Value) (Q : VK), Inv X pins σ H s → RelV x v → RelV y u → r x y H Q →
    wpAny (model X.prog X.w) X.A (f v u) (EP X pins σ Q) X.xe s
noncomputable def UnR (X : Cx) (f : Value → Sem Value) (r : V → Hp → VK → Prop) : Prop :=
  ∀ (pins : List (Addr × Obj)) (s : Shared) (σ : St) (H : Hp) (x : V) (v : Value) (Q : VK), Inv X pins σ H s → RelV x v → r x H Q →
    wpAny (model X.prog X.w) X.A (f v) (EP X pins σ Q) X.xe s
noncomputable def CallR (X : Cx) (f : Value) (r : List V → Hp → VK → Prop) : Prop :=
  ∀ (pins : List (Addr × Obj)) (s : Shared) (σ : St) (H : Hp) (xs : List V) (us : List Value) (Q : VK), Inv X pins σ H s → Vals xs us → r xs H Q →
    wpAny (model X.prog X.w) X.A (call f us) (EP X pins σ Q) X.xe s
noncomputable def TruR (X : Cx) (r : V → Hp → (Bool → Hp → Prop) → Prop) : Prop :=
  ∀ (pins : List (Addr × Obj)) (s : Shared) (σ : St) (H : Hp) (x : V) (v : Value) (Q : Bool → Hp → Prop), Inv X pins σ H s → RelV x v → r x H Q →
    wpAny (model X.prog X.w) X.A (truthy v) (TP X pins σ Q) X.xe s

noncomputable def tOp (r : R2) (ta tb : TE) : TE := fun σ H Q => ta σ H fun x H1 => tb σ H1 fun y H2 => r x y H2 Q
noncomputable def tUn (r : V → Hp → VK → Prop) (ta : TE) : TE := fun σ H Q => ta σ H fun x H1 => r x H1 Q
noncomputable def rI (C : Int → Int → Prop) (g : Int → Int → V) : R2 := fun x y H Q => ∃ i j, x = .int i ∧ y = .int j ∧ C i j ∧ Q (g i j) H
noncomputable def rI0 (g : Int → Int → V) : R2 := fun x y H Q => ∃ i j, x = .int i ∧ y = .int j ∧ Q (g i j) H
noncomputable def rU (g : Int → V) : V → Hp → VK → Prop := fun x H Q => ∃ i, x = .int i ∧ Q (g i) H

section
variable {X : Cx} {a b c : Expr} {ta tb tc : TE} {pos : Pos}

theorem binT (ha : PE X a ta) (hb : PE X b tb) {pins : List (Addr × Obj)} {s : Shared} {σ : St} {H : Hp} {R : V → V → Hp → Prop} (I : Inv X pins σ H s)
    (h : ta σ H fun x H1 => tb σ H1 fun y H2 => R x y H2) {Q : Value → Shared → Prop} {f : Value → Value → Sem Value}
    (hf : ∀ v u s2 x y H2, Inv X pins σ H2 s2 → RelV x v → RelV y u → R x y H2 → wpAny (model X.prog X.w) X.A (f v u) Q X.xe s2) :
    wpAny (model X.prog X.w) X.A (eval a X.env) (fun v s₁ => wpAny (model X.prog X.w) X.A (eval b X.env) (fun u s₂ => wpAny (model X.prog X.w) X.A (f v u) Q X.xe s₂) X.xe s₁) X.xe s := by
  refine thn (ha pins s σ H _ I h) fun v s1 ⟨x, H1, I1, r1, q1⟩ => ?_
  refine thn (hb pins s1 σ H1 _ I1 q1) fun u s2 ⟨y, H2, I2, r2, q2⟩ => ?_
  exact hf v u s2 x y H2 I2 r1 r2 q2

theorem pe_op {op : Operator} {r : R2} (ho : OpR X (binaryOp op) r) (ha : PE X a ta) (hb : PE X b tb) : PE X (.BinOp a op b pos) (tOp r ta tb) := by
  intro pins s σ H Q I h
  exact wpAny_BinOp (binT ha hb I h fun v u s2 x y H2 I2 rx ry q => ho pins s2 σ H2 x y v u Q I2 rx ry q)
theorem pe_un {op : UnaryOp} {r : V → Hp → VK → Prop} (ho : UnR X (unaryOp op) r) (ha : PE X a ta) : PE X (.UnaryOp op a pos) (tUn r ta) := by
  intro pins s σ H Q I h
  exact UnaryOp_ (thn (ha pins s σ H _ I h) fun v s1 ⟨x, H1, I1, r1, q1⟩ => ho pins s1 σ H1 x v Q I1 r1 q1)

/-! ### ints -/
theorem opI {f : Value → Value → Sem Value} {C : Int → Int → Prop} {g : Int → Int → Int}
    (rule : ∀ (i j : Int) (t u : Tok) (s : Shared) (Q : Value → Shared → Prop) (E : Value → Shared → Prop), C i j → Q (.int (g i j) s.toks) { s with toks := s.toks + 1 } → wpAny (model X.prog X.w) X.A (f (.int i t) (.int j u)) Q E s) :
    OpR X f (rI C fun i j => .int (g i j)) := by
  intro pins s σ H x y v u Q I rx ry h
  obtain ⟨i, j, rfl, rfl, hc, q⟩ := h
  obtain ⟨t, rfl⟩ := rx
  obtain ⟨t', rfl⟩ := ry
  exact rule i j t t' s _ _ hc ⟨.int (g i j), H, I.tok _, ⟨_, rfl⟩, q⟩
theorem opI0 {f : Value → Value → Sem Value} {g : Int → Int → Int}
    (rule : ∀ (i j : Int) (t u : Tok) (s : Shared) (Q : Value → Shared → Prop) (E : Value → Shared → Prop), Q (.int (g i j) s.toks) { s with toks := s.toks + 1 } → wpAny (model X.prog X.w) X.A (f (.int i t) (.int j u)) Q E s) :
    OpR X f (rI0 fun i j => .int (g i j)) := by
  intro pins s σ H x y v u Q I rx ry h
  obtain ⟨i, j, rfl, rfl, q⟩ := h
  obtain ⟨t, rfl⟩ := rx
  obtain ⟨t', rfl⟩ := ry
  exact rule i j t t' s _ _ ⟨.int (g i j), H, I.tok _, ⟨_, rfl⟩, q⟩
theorem opB0 {f : Value → Value → Sem Value} {g : Int → Int → Bool}
    (rule : ∀ (i j : Int) (t u : Tok) (s : Shared) (Q : Value → Shared → Prop) (E : Value → Shared → Prop), Q (.bool (g i j)) s → wpAny (model X.prog X.w) X.A (f (.int i t) (.int j u)) Q E s) :
    OpR X f (rI0 fun i j => .bl (g i j)) := by
  intro pins s σ H x y v u Q I rx ry h
  obtain ⟨i, j, rfl, rfl, q⟩ := h
  obtain ⟨t, rfl⟩ := rx
  obtain ⟨t', rfl⟩ := ry
  exact rule i j t t' s _ _ ⟨.bl (g i j), H, I, rfl, q⟩

noncomputable def CDiv (i j : Int) : Prop := 0 < j ∧ j < 1073741824
noncomputable def CPow (i j : Int) : Prop := 0 ≤ j ∧ j ≤ 1000000 ∧ i.natAbs < 2 ^ 64
noncomputable def CMul (i j : Int) : Prop := (-(2 ^ 64) < i ∧ i < 2 ^ 64) ∨ (-(2 ^ 64) < j ∧ j < 2 ^ 64)
theorem CMul.ok {i j : Int} (h : CMul i j) : IntMulOk i j := by
  rcases h with ⟨h1, h2⟩ | ⟨h1, h2⟩
  · exact .of_left (intBits_le_64 h1 h2)
  · exact .of_right (intBits_le_64 h1 h2)

theorem op_add : OpR X (binaryOp .Add) (rI0 fun i j => .int (i + j)) := opI0 fun _ _ _ _ _ _ _ q => add_int q
theorem op_sub : OpR X (binaryOp .Sub) (rI0 fun i j => .int (i - j)) := opI0 fun _ _ _ _ _ _ _ q => sub_int q
theorem op_mul : OpR X (binaryOp .Mult) (rI CMul fun i j => .int (i * j)) := opI fun _ _ _ _ _ _ _ hc q => mul_int q hc.ok
theorem op_fdiv : OpR X (binaryOp .FloorDiv) (rI CDiv fun i j => .int (i / j)) := opI fun i j _ _ _ _ _ hc q => by
  have h1 : (0 : Int) < j := hc.1
  have h2 : j < 1073741824 := hc.2
  exact floordiv_int (by omega) (by rw [Int.fdiv_eq_ediv_of_nonneg i (by omega)]; exact q) (.inl (PyProof.noPylong_small (by omega)))
theorem op_mod : OpR X (binaryOp .Mod) (rI (fun _ j => 0 < j) fun i j => .int (i % j)) := opI fun i j _ _ _ _ _ hc q => by
  have h1 : (0 : Int) < j := hc
  exact mod_int' (by omega) (by rw [Int.fmod_eq_emod_of_nonneg i (by omega)]; exact q)
theorem op_shl : OpR X (binaryOp .LShift) (rI CPow fun i j => .int (i * 2 ^ j.toNat)) := opI fun _ _ _ _ _ _ _ hc q => lshift_int_small hc.1 hc.2.1 hc.2.2 q
theorem op_and : OpR X (binaryOp .BitAnd) (rI0 fun i j => .int (Builtin.bitAnd i j)) := opI0 fun _ _ _ _ _ _ _ q => and_int q


theorem unI {f : Value → Sem Value} {g : Int → Int}
    (rule : ∀ (i : Int) (t : Tok) (s : Shared) (Q : Value → Shared → Prop) (E : Value → Shared → Prop), Q (.int (g i) s.toks) { s with toks := s.toks + 1 } → wpAny (model X.prog X.w) X.A (f (.int i t)) Q E s) :
    UnR X f (rU fun i => .int (g i)) := by
  intro pins s σ H x v Q I rx h
  obtain ⟨i, rfl, q⟩ := h
  obtain ⟨t, rfl⟩ := rx
  exact rule i t s _ _ ⟨.int (g i), H, I.tok _, ⟨_, rfl⟩, q⟩
theorem un_neg : UnR X (unaryOp .USub) (rU fun i => .int (-i)) := unI fun _ _ _ _ _ q => neg_int q

/-! ### bools among ints: n += (a < b) -/
end

/-! ### comparisons -/
noncomputable def scal : V → V → Bool
  | .non, .non => true | .non, .int _ => true | .int _, .non => true | .non, .bl _ => true | .bl _, .non => true | .non, .str _ => true | .str _, .non => true
  | .int _, .int _ => true | .bl _, .bl _ => true | .str _, .str _ => true | .byt _, .byt _ => true
  | .int _, .str _ => true | .str _, .int _ => true | .bl _, .str _ => true | .str _, .bl _ => true
  | _, _ => false
theorem sc0 : scal .non .non = true := rfl
theorem sc1 {i : Int} : scal .non (.int i) = true := rfl
theorem sc2 {i : Int} : scal (.int i) .non = true := rfl
theorem sc3 {i : Bool} : scal .non (.bl i) = true := rfl
theorem sc4 {i : Bool} : scal (.bl i) .non = true := rfl
theorem sc5 {i : Str} : scal .non (.str i) = true := rfl
theorem sc6 {i : Str} : scal (.str i) .non = true := rfl
theorem sc7 {i : Int} {j : Int} : scal (.int i) (.int j) = true := rfl
theorem sc8 {i : Bool} {j : Bool} : scal (.bl i) (.bl j) = true := rfl
theorem sc9 {i : Str} {j : Str} : scal (.str i) (.str j) = true := rfl
theorem sc10 {i : Int} {j : Str} : scal (.int i) (.str j) = true := rfl
theorem sc11 {i : Str} {j : Int} : scal (.str i) (.int j) = true := rfl
theorem sc12 {i : Bool} {j : Str} : scal (.bl i) (.str j) = true := rfl
theorem sc13 {i : Str} {j : Bool} : scal (.str i) (.bl j) = true := rfl
noncomputable def rEq : R2 := fun x y H Q => scal x y = true ∧ Q (.bl (decide (x = y))) H
noncomputable def rNe : R2 := fun x y H Q => scal x y = true ∧ Q (.bl (!decide (x = y))) H

theorem dec_int {i j : Int} : decide (V.int i = V.int j) = (i == j) := by
  rw [Bool.eq_iff_iff]
  simp
theorem dec_bl {i j : Bool} : decide (V.bl i = V.bl j) = (i == j) := by
  rw [Bool.eq_iff_iff]
  simp
theorem dec_str {i j : Str} : decide (V.str i = V.str j) = (i == j) := by
  rw [Bool.eq_iff_iff]
  simp
theorem dec_byt {i j : Array UInt8} : decide (V.byt i = V.byt j) = (i.toList == j.toList) := by
  rw [Bool.eq_iff_iff]
  cases i
  cases j
  simp

section
variable {X : Cx} {a b c : Expr} {ta tb tc : TE} {pos : Pos}
theorem fin_bl {pins : List (Addr × Obj)} {σ : St} {H : Hp} {s : Shared} {Q : VK} {k k' : Bool} (I : Inv X pins σ H s) (q : Q (.bl k) H) (e : k = k') : EP X pins σ Q (.bool k') s := by
  subst e
  exact ⟨.bl k, H, I, rfl, q⟩
theorem op_eq : OpR X (compareOp .Eq) rEq := by
  intro pins s σ H x y v u Q I rx ry h
  obtain ⟨hs, q⟩ := h
  cases x with
  | non =>
    cases rx
    cases y with
    | non => cases ry; exact PySem.EqNone.eq_none_none (fin_bl I q (by simp))
    | bl j => cases ry; exact PySem.EqNone.eq_none_bool (fin_bl I q (by simp))
    | int j => obtain ⟨t', rfl⟩ := ry; exact PySem.EqNone.eq_none_int (fin_bl I q (by simp))
    | str j => obtain ⟨t', rfl⟩ := ry; exact PySem.EqNone.eq_none_str (fin_bl I q (by simp))
    | _ => exact absurd (show false = true from hs) Bool.false_ne_true
  | bl i =>
    cases rx
    cases y with
    | non => cases ry; exact PySem.EqNone.eq_bool_none (fin_bl I q (by simp))
    | bl j => cases ry; exact eq_bool (fin_bl I q dec_bl)
    | str j => obtain ⟨t', rfl⟩ := ry; exact PySem.EqMixed.eq_bool_str (fin_bl I q (by simp))
    | _ => exact absurd (show false = true from hs) Bool.false_ne_true
  | int i =>
    obtain ⟨t, rfl⟩ := rx
    cases y with
    | non => cases ry; exact PySem.EqNone.eq_int_none (fin_bl I q (by simp))
    | int j => obtain ⟨t', rfl⟩ := ry; exact eq_int (fin_bl I q dec_int)
    | str j => obtain ⟨t', rfl⟩ := ry; exact PySem.EqMixed.eq_int_str (fin_bl I q (by simp))
    | _ => exact absurd (show false = true from hs) Bool.false_ne_true
  | str i =>
    obtain ⟨t, rfl⟩ := rx
    cases y with
    | non => cases ry; exact PySem.EqNone.eq_str_none (fin_bl I q (by simp))
    | bl j => cases ry; exact PySem.EqMixed.eq_str_bool (fin_bl I q (by simp))
    | int j => obtain ⟨t', rfl⟩ := ry; exact PySem.EqMixed.eq_str_int (fin_bl I q (by simp))
    | str j => obtain ⟨t', rfl⟩ := ry; exact eq_str (fin_bl I q dec_str)
    | _ => exact absurd (show false = true from hs) Bool.false_ne_true
  | byt i =>
    obtain ⟨t, rfl⟩ := rx
    cases y with
    | byt j => obtain ⟨t', rfl⟩ := ry; exact PySem.W.eq_bytes (fin_bl I q dec_byt)
    | _ => exact absurd (show false = true from hs) Bool.false_ne_true
  | _ => cases y <;> exact absurd (show false = true from hs) Bool.false_ne_true
theorem op_ne : OpR X (compareOp .NotEq) rNe := by
  intro pins s σ H x y v u Q I rx ry h
  obtain ⟨hs, q⟩ := h
  cases x with
  | non =>
    cases rx
    cases y with
    | non => cases ry; exact PySem.EqNone.ne_none_none (fin_bl I q (by simp))
    | bl j => cases ry; exact PySem.EqNone.ne_none_bool (fin_bl I q (by simp))
    | int j => obtain ⟨t', rfl⟩ := ry; exact PySem.EqNone.ne_none_int (fin_bl I q (by simp))
    | str j => obtain ⟨t', rfl⟩ := ry; exact PySem.EqNone.ne_none_str (fin_bl I q (by simp))
    | _ => exact absurd (show false = true from hs) Bool.false_ne_true
  | bl i =>
    cases rx
    cases y with
    | non => cases ry; exact PySem.EqNone.ne_bool_none (fin_bl I q (by simp))
    | bl j => cases ry; exact ne_bool (fin_bl I q (congrArg not dec_bl))
    | str j => obtain ⟨t', rfl⟩ := ry; exact PySem.EqMixed.ne_bool_str (fin_bl I q (by simp))
    | _ => exact absurd (show false = true from hs) Bool.false_ne_true
  | int i =>
    obtain ⟨t, rfl⟩ := rx
    cases y with
    | non => cases ry; exact PySem.EqNone.ne_int_none (fin_bl I q (by simp))
    | int j => obtain ⟨t', rfl⟩ := ry; exact ne_int (fin_bl I q (congrArg not dec_int))
    | str j => obtain ⟨t', rfl⟩ := ry; exact PySem.EqMixed.ne_int_str (fin_bl I q (by simp))
    | _ => exact absurd (show false = true from hs) Bool.false_ne_true
  | str i =>
    obtain ⟨t, rfl⟩ := rx
    cases y with
    | non => cases ry; exact PySem.EqNone.ne_str_none (fin_bl I q (by simp))
    | bl j => cases ry; exact PySem.EqMixed.ne_str_bool (fin_bl I q (by simp))
    | int j => obtain ⟨t', rfl⟩ := ry; exact PySem.EqMixed.ne_str_int (fin_bl I q (by simp))
    | str j => obtain ⟨t', rfl⟩ := ry; exact ne_str (fin_bl I q (congrArg not dec_str))
    | _ => exact absurd (show false = true from hs) Bool.false_ne_true
  | byt i =>
    obtain ⟨t, rfl⟩ := rx
    cases y with
    | byt j => obtain ⟨t', rfl⟩ := ry; exact PySem.W.ne_bytes (fin_bl I q (congrArg not dec_byt))
    | _ => exact absurd (show false = true from hs) Bool.false_ne_true
  | _ => cases y <;> exact absurd (show false = true from hs) Bool.false_ne_true

theorem op_lt : OpR X (compareOp .Lt) (rI0 fun i j => .bl (decide (i < j))) := opB0 fun _ _ _ _ _ _ _ q => lt_int q
theorem op_le : OpR X (compareOp .LtE) (rI0 fun i j => .bl (decide (i ≤ j))) := opB0 fun _ _ _ _ _ _ _ q => le_int q
theorem op_gt : OpR X (compareOp .Gt) (rI0 fun i j => .bl (decide (j < i))) := opB0 fun _ _ _ _ _ _ _ q => gt_int q
theorem op_ge : OpR X (compareOp .GtE) (rI0 fun i j => .bl (decide (j ≤ i))) := opB0 fun _ _ _ _ _ _ _ q => ge_int q
theorem op_in_str : OpR X (compareOp .In) (fun x y H Q => ∃ i j, x = .str i ∧ y = .str j ∧ Q (.bl (!(Builtin.Str.occurrences j i 0 j.length 1).isEmpty)) H) := by
  intro pins s σ H x y v u Q I rx ry h
  obtain ⟨i, j, rfl, rfl, q⟩ := h
  obtain ⟨t, rfl⟩ := rx
  obtain ⟨t', rfl⟩ := ry
  exact in_str (fin_bl I q rfl)

theorem op_isN : OpR X (compareOp .Is) (fun x y H Q => y = .non ∧ Q (.bl (decide (x = .non))) H) := by
  intro pins s σ H x y v u Q I rx ry h
  obtain ⟨rfl, q⟩ := h
  cases ry
  refine is_none_gen (fin_bl I q ?_)
  cases x <;> first
    | (cases rx; rfl)
    | (obtain ⟨t, rfl⟩ := rx; rfl)
theorem op_notN : OpR X (compareOp .IsNot) (fun x y H Q => y = .non ∧ Q (.bl (!decide (x = .non))) H) := by
  intro pins s σ H x y v u Q I rx ry h
  obtain ⟨rfl, q⟩ := h
  cases ry
  refine isnot_none_gen (fin_bl I q ?_)
  cases x <;> first
    | (cases rx; rfl)
    | (obtain ⟨t, rfl⟩ := rx; rfl)

theorem op_notin_str : OpR X (compareOp .NotIn) (fun x y H Q => ∃ i j, x = .str i ∧ y = .str j ∧ Q (.bl (!(!(Builtin.Str.occurrences j i 0 j.length 1).isEmpty))) H) := by
  intro pins s σ H x y v u Q I rx ry h
  obtain ⟨i, j, rfl, rfl, q⟩ := h
  obtain ⟨t, rfl⟩ := rx
  obtain ⟨t', rfl⟩ := ry
  exact notIn_str (fin_bl I q rfl)

theorem OpR.or {f : Value → Value → Sem Value} {r r' : R2} (h : OpR X f r) (h' : OpR X f r') : OpR X f (fun x y H Q => r x y H Q ∨ r' x y H Q) := by
  intro pins s σ H x y v u Q I rx ry q
  rcases q with q | q
  · exact h pins s σ H x y v u Q I rx ry q
  · exact h' pins s σ H x y v u Q I rx ry q

theorem nomark (b : Expr) {op : CmpOp} (h : op ≠ .In := by decide) (h2 : op ≠ .NotIn := by decide) : behindInMarks op b = false := by
  have e1 : (op == CmpOp.In) = false := by cases op <;> first | rfl | exact absurd rfl h
  have e2 : (op == CmpOp.NotIn) = false := by cases op <;> first | rfl | exact absurd rfl h2
  cases b <;> simp [behindInMarks, e1, e2]
theorem pe_cmpR {op : CmpOp} {r : R2} (ho : OpR X (compareOp op) r) (ha : PE X a ta) (hb : PE X b tb) (hm : behindInMarks op b = false) : PE X (.Compare a [op] [b] pos) (tOp r ta tb) := by
  intro pins s σ H Q I h
  exact wpAny_Compare1 (binT ha hb I h fun v u s2 x y H2 I2 rx ry q => ho pins s2 σ H2 x y v u Q I2 rx ry q) hm
noncomputable def tTest (t : TE) : TT := fun σ H Q => t σ H fun x H' => ∃ k, x = .bl k ∧ Q k H'
theorem pt_cmpR {op : CmpOp} {r : R2} (ho : OpR X (compareOp op) r) (ha : PE X a ta) (hb : PE X b tb) (hm : behindInMarks op b = false) : PT X (.Compare a [op] [b] pos) (tTest (tOp r ta tb)) := by
  intro pins s σ H Q I h
  refine wpAny_isTrue_Compare1 (thn (ha pins s σ H _ I h) fun v s1 ⟨x, H1, I1, r1, q1⟩ => thn (hb pins s1 σ H1 _ I1 q1) fun u s2 ⟨y, H2, I2, r2, q2⟩ =>
    thn (ho pins s2 σ H2 x y v u _ I2 r1 r2 q2) fun c s3 ⟨z, H3, I3, r3, k, e, q3⟩ => ?_) hm
  subst e
  cases r3
  exact wpAny_truthy_bool ⟨H3, I3, q3⟩
noncomputable def tChain (r r' : R2) (ta tb tc : TE) : TE := fun σ H Q => ta σ H fun x H1 => tb σ H1 fun y H2 => r x y H2 fun z H3 => ∃ k, z = .bl k ∧
  (if k = true then tc σ H3 fun w' H4 => r' y w' H4 Q else Q (.bl false) H3)
theorem pt_chain {op op' : CmpOp} {r r' : R2} (ho : OpR X (compareOp op) r) (ho' : OpR X (compareOp op') r') (ha : PE X a ta) (hb : PE X b tb) (hc : PE X c tc)
    (hm : lastMarks [op, op'] [b, c] = false := by with_unfolding_all rfl) : PT X (.Compare a [op, op'] [b, c] pos) (tTest (tChain r r' ta tb tc)) := by
  intro pins s σ H Q I h
  refine isTrue_chain (thn (ha pins s σ H _ I h) fun v s1 ⟨x, H1, I1, r1, q1⟩ => test_link (thn (hb pins s1 σ H1 _ I1 q1) fun u s2 ⟨y, H2, I2, r2, q2⟩ =>
    thn (ho pins s2 σ H2 x y v u _ I2 r1 r2 q2) fun d s3 ⟨z, H3, I3, r3, k, e, q3⟩ => ?_)) hm
  subst e
  cases r3
  refine wpAny_truthy_bool ?_
  cases k with
  | false =>
    obtain ⟨k', e', q'⟩ := q3
    cases e'
    exact ite_ff ⟨H3, I3, q'⟩
  | true =>
    refine ite_tt (test_last (thn (hc pins s3 σ H3 _ I3 q3) fun w' s4 ⟨z', H4, I4, r4, q4⟩ => thn (ho' pins s4 σ H4 y z' u w' _ I4 r2 r4 q4) fun d' s5 ⟨z2, H5, I5, r5, k2, e2, q5⟩ => ?_))
    subst e2
    cases r5
    exact wpAny_truthy_bool ⟨H5, I5, q5⟩

/-! ### truth -/
noncomputable def TruV (K : PySem.W.Frag) (x : V) (H : Hp) (k : Bool) : Prop :=
  match x with
  | .non => k = false
  | .bl b => k = b
  | .int i => k = (i != 0)
  | .str y => y.length ≤ sizeLine ∧ k = ((y.length : Int) != 0)
  | .byt y => y.size ≤ sizeLine ∧ k = ((y.size : Int) != 0)
  | .ref p => (∃ xs, SqL K H p xs ∧ k = !xs.isEmpty) ∨ (∃ xs, SqT K H p xs ∧ k = !xs.isEmpty) ∨ ∃ kvs, H p = some (.dK kvs) ∧ k = !kvs.isEmpty
  | _ => False
theorem isEmpty_kv {κ : Type} {kvs : List (κ × V)} {vs : List (κ × Value)} (r : KV kvs vs) : (!vs.isEmpty) = !kvs.isEmpty := by
  cases r <;> rfl
theorem isEmpty_of {xs : List V} {its : List Value} (r : Vals xs its) : (!its.toArray.isEmpty) = !xs.isEmpty := by
  cases r <;> simp
theorem line63 : (sizeLine : Nat) < 2 ^ 63 := by rw [sizeLine_eq]; decide
theorem tru_ok : TruR X (fun x H Q => ∃ k, TruV X.K x H k ∧ Q k H) := by
  intro pins s σ H x v Q I rx h
  obtain ⟨k, e, q⟩ := h
  have hl := line63
  have hs : sizeLine = 16777216 := sizeLine_eq
  cases x with
  | non =>
    cases rx
    have e' : k = false := e
    subst e'
    exact truthy_none ⟨H, I, q⟩
  | bl b =>
    cases rx
    have e' : k = b := e
    subst e'
    exact wpAny_truthy_bool ⟨H, I, q⟩
  | int i =>
    obtain ⟨t, rfl⟩ := rx
    have e' : k = (i != 0) := e
    subst e'
    exact PySem.P.truthy_int ⟨H, I, q⟩
  | str y =>
    obtain ⟨t, rfl⟩ := rx
    obtain ⟨hy, e'⟩ : y.length ≤ sizeLine ∧ k = ((y.length : Int) != 0) := e
    subst e'
    exact PySem.P.truthy_str (by omega) ⟨H, I.tok _, q⟩
  | byt y =>
    obtain ⟨t, rfl⟩ := rx
    obtain ⟨hy, e'⟩ : y.size ≤ sizeLine ∧ k = ((y.size : Int) != 0) := e
    subst e'
    exact PySem.W.truthy_bytes (by omega) ⟨H, I.tok _, q⟩
  | ref p =>
    cases rx
    have e' : (∃ xs, SqL X.K H p xs ∧ k = !xs.isEmpty) ∨ (∃ xs, SqT X.K H p xs ∧ k = !xs.isEmpty) ∨ ∃ kvs, H p = some (.dK kvs) ∧ k = !kvs.isEmpty := e
    rcases e' with ⟨xs, hx, e'⟩ | ⟨xs, hx, e'⟩ | ⟨kvs, hx, e'⟩
    · subst e'
      obtain ⟨its, r, pl, hz⟩ := I.list hx
      have hlen := r.length
      exact wpAny_truthy_list pl.isList (by simp only [List.size_toArray]; omega) ⟨H, I.tok _, by rw [isEmpty_of r]; exact q⟩
    · subst e'
      obtain ⟨its, r, pl, hz⟩ := I.tuple hx
      have hlen := r.length
      exact truthy_tuple pl (by simp only [List.size_toArray]; omega) ⟨H, I.tok _, by rw [isEmpty_of r]; exact q⟩
    · subst e'
      obtain ⟨hz, hS, vs, r, m⟩ : kvs.length ≤ sizeLine ∧ (p == sysModules) = false ∧ ∃ vs, KV kvs vs ∧ s.heap.DictOf (mixKind X.prog X.w) p vs := I.hok p _ hx
      have hlen : kvs.length = vs.length := Paired.length r
      exact wpAny_truthy_dict hS m (by omega) ⟨H, I.tok _, by rw [isEmpty_kv r]; exact q⟩
  | _ => exact (show False from e).elim

/-! ### strs and bytes -/
theorem op_add_str : OpR X (binaryOp .Add) (fun x y H Q => ∃ i j, x = .str i ∧ y = .str j ∧ i.length + j.length ≤ sizeLine ∧ Q (.str (i ++ j)) H) := by
  intro pins s σ H x y v u Q I rx ry h
  obtain ⟨i, j, rfl, rfl, hz, q⟩ := h
  obtain ⟨t, rfl⟩ := rx
  obtain ⟨t', rfl⟩ := ry
  exact add_str (fun t' tk => ⟨.str (i ++ j), H, I.tok _, ⟨_, rfl⟩, q⟩) hz


/-! ### scalar builtins, by CallR -/
theorem vals1 {x : V} {us : List Value} (r : Vals [x] us) : ∃ u, us = [u] ∧ RelV x u := by
  cases r with
  | cons r1 r2 => cases r2; exact ⟨_, rfl, r1⟩
theorem vals2 {x y : V} {us : List Value} (r : Vals [x, y] us) : ∃ u w', us = [u, w'] ∧ RelV x u ∧ RelV y w' := by
  cases r with
  | cons r1 r2 =>
    cases r2 with
    | cons r3 r4 => cases r4; exact ⟨_, _, rfl, r1, r3⟩
theorem call_str_int : CallR X (.type "str") (fun xs H Q => ∃ i, xs = [.int i] ∧ i.natAbs.log2 < 1920 ∧ Q (.str (toString i)) H) := by
  intro pins s σ H xs us Q I r h
  obtain ⟨i, rfl, hz, q⟩ := h
  obtain ⟨u, rfl, t, rfl⟩ := vals1 r
  exact PySem.P.str_of_int hz ⟨.str _, H, I.tok _, ⟨_, rfl⟩, q⟩
noncomputable def LenV (K : PySem.W.Frag) (x : V) (H : Hp) (n : Nat) : Prop :=
  match x with
  | .str y => y.length ≤ sizeLine ∧ n = y.length
  | .byt y => y.size ≤ sizeLine ∧ n = y.size
  | .ref p => (∃ xs, SqL K H p xs ∧ n = xs.length) ∨ ∃ xs, SqT K H p xs ∧ n = xs.length
  | _ => False
theorem call_len : CallR X (.builtin "len") (fun xs H Q => ∃ x n, xs = [x] ∧ LenV X.K x H n ∧ Q (.int n) H) := by
  intro pins s σ H xs us Q I r h
  obtain ⟨x, n, rfl, e, q⟩ := h
  obtain ⟨u, rfl, rx⟩ := vals1 r
  have hl := line63
  have hs : sizeLine = 16777216 := sizeLine_eq
  cases x with
  | str y =>
    obtain ⟨t, rfl⟩ := rx
    obtain ⟨hy, e'⟩ : y.length ≤ sizeLine ∧ n = y.length := e
    subst e'
    exact len_str (by omega) ⟨.int _, H, I.tok _, ⟨_, rfl⟩, q⟩
  | byt y =>
    obtain ⟨t, rfl⟩ := rx
    obtain ⟨hy, e'⟩ : y.size ≤ sizeLine ∧ n = y.size := e
    subst e'
    exact PySem.W.len_bytes (by omega) ⟨.int _, H, I.tok _, ⟨_, rfl⟩, q⟩
  | ref p =>
    cases rx
    have e' : (∃ xs, SqL X.K H p xs ∧ n = xs.length) ∨ ∃ xs, SqT X.K H p xs ∧ n = xs.length := e
    rcases e' with ⟨xs, hx, e'⟩ | ⟨xs, hx, e'⟩
    · subst e'
      obtain ⟨its, r', pl, hz⟩ := I.list hx
      have hlen := r'.length
      exact Calls.call_len_list pl.isList (by simp only [List.size_toArray]; omega) ⟨.int xs.length, H, I.tok _, ⟨_, by simp only [List.size_toArray]; rw [hlen]⟩, q⟩
    · subst e'
      obtain ⟨its, r', pl, hz⟩ := I.tuple hx
      have hlen := r'.length
      exact len_tuple pl (by simp only [List.size_toArray]; omega) ⟨.int xs.length, H, I.tok _, ⟨_, by simp only [List.size_toArray]; rw [hlen]⟩, q⟩
  | _ => exact (show False from e).elim
end
end L2

namespace L2
open PySem PySem.Spec PyProof.Rows

/-! ### an instance, its attributes a map -/
set_option genInjectivity false in
structure ObjM (h : Heap) (x dx C : Addr) (mA : Str → Option Value) : Prop where
  obj : h.get? x = some (PySem.W.instObj C dx)
  ns : h.Ns1 dx mA
  ne : dx ≠ x

theorem lookIn_ns {h : Heap} {dx : Addr} {mA : Str → Option Value} (n : h.Ns1 dx mA) : ∃ od, h.get? dx = some od ∧ ∀ name, PySem.W.lookIn name od = some (mA name) := by
  obtain ⟨o, es, ep, ho, hd, hk, _, hm⟩ := n
  refine ⟨o, ho, fun name => ?_⟩
  have e := hm name
  unfold nsFind findBy at e
  rw [← Array.find?_toList] at e
  unfold PySem.W.lookIn
  rw [hd]
  dsimp only
  split
  · rename_i y q
    rw [q] at e
    exact congrArg some e
  · rename_i q
    rw [q] at e
    have a : es.toList.any (·.refKey) = false := by
      rw [List.any_eq_false]
      intro y hy
      obtain ⟨z, t, hkey⟩ := hk y (Array.mem_toList_iff.mp hy)
      simp [DictEntry.refKey, hkey]
    have a' : ¬ es.toList.any (·.refKey) = true := by rw [a]; exact Bool.false_ne_true
    rw [if_neg a']
    exact congrArg some e

theorem ObjM.look {h : Heap} {x dx C : Addr} {mA : Str → Option Value} (I : ObjM h x dx C mA) : ∃ od, PySem.W.InstAt h x (PySem.W.instObj C dx) C (some od) ∧ ∀ name, PySem.W.lookIn name od = some (mA name) :=
  let ⟨od, ho, hl⟩ := lookIn_ns I.ns
  ⟨od, ⟨I.obj, rfl, rfl, ho⟩, hl⟩

section
variable {prog : Program} {w : World} {A : Around} {E : Value → Shared → Prop} {s : Shared} {K : PySem.W.Frag} {x dx C f : Addr} {mA : Str → Option Value} {name : Str} {v : Value}

theorem get_map {expr : Bool} {Q : Value → Shared → Prop} (X : K.In s.heap) (I : ObjM s.heap x dx C mA) (hg : PySem.W.plainGet K C name = true) (hh : PySem.W.hasDictIn K C = true)
    (ha : PySem.W.findIn K (.ref C) name = some none) (hv : mA name = some v) (hv' : PySem.W.handedIn v = true) (h : Q v { s with toks := s.toks + 1 }) :
    wpAny (model prog w) A (getAttr (.ref x) name expr) Q E s := by
  obtain ⟨od, J, hl⟩ := I.look
  exact PySem.W.get_value X J (PySem.W.plainGet_of hg).1 (PySem.W.findObj_own hh ha rfl (by rw [hl, hv])) hv' h


theorem get_meth {pl : Sem Bool} {Q : Value × List Value → Shared → Prop} (X : K.In s.heap) (I : ObjM s.heap x dx C mA) (hg : PySem.W.plainGet K C name = true)
    (hf : PySem.W.findIn K (.ref C) name = some (some (.ref f))) (ht : PySem.W.isFn K (.ref f) = true) (hv : mA name = none) (h : Q (.ref f, [.ref x]) s) :
    wpAny (model prog w) A (getMethod (.ref x) name pl) Q E s := by
  obtain ⟨od, J, hl⟩ := I.look
  exact PySem.W.method_fn X J (PySem.W.plainGet_of hg).1 (PySem.W.plainGet_of hg).2 hf (beq_iff_eq.mp ht) (by show (PySem.W.lookIn name od).map (·.isSome) = some false; rw [hl, hv]; rfl) h

theorem set_map {ns : List Str} {Q : Unit → Shared → Prop} (X : K.In s.heap) (I : ObjM s.heap x dx C mA)
    (hs : PySem.W.findIn K (.ref C) "__setattr__" = some (some (.builtin "object.__setattr__"))) (hp : PySem.W.plainOver K C = true) (ht : PySem.W.takerIn K C name = some none) (hh : PySem.W.hasDictIn K C = true)
    (hw : PySem.Within mA ns) (hsz : ns.length ≤ sizeLine)
    (h : ∀ h', ObjM h' x dx C (fun y => if y = name then some v else mA y) → Heap.SameBut dx s.heap h' → Q () { s with heap := h', toks := s.toks + 2 }) :
    wpAny (model prog w) A (setAttr (.ref x) name v) Q E s := by
  obtain ⟨od, J, hl⟩ := I.look
  refine PySem.W.set_plain X J hs (PySem.W.osa_open (s := { s with toks := s.toks + 1 }) (r := none) X J hp ht fun b => ?_)
  obtain ⟨cd, hc, hd'⟩ := PySem.W.any_some hh
  have hx : s.heap.get? x = some ⟨.ref C, some dx, .plain, #[]⟩ := I.obj
  refine wpAny_bind (wpAny_pure (wpAny_bind (wpAny_bind (wpAny_loadPart hx (wpAny_bind (PySem.W.Looks.here (s := { s with toks := s.toks + 1 }) (PySem.W.looks_clsIn X hc) ?_))))))
  rw [hd']
  refine wpAny_pure (a := some dx) (wpAny_bind (wpAny_pure (wpAny_bind ?_)))
  refine wpAny_nsSet1 (s := { s with toks := s.toks + 1 }) I.ns fun h' hn2 hs2 => ?_
  obtain ⟨oD, esD, epD, hoD, hdD, hcD⟩ := hn2.count (PySem.Within.cons name v hw)
  refine wpAny_bind (wpAny_lookBehind hoD (by rw [hdD]; exact pastItsLine_dict (Nat.le_trans hcD (by rw [List.length_cons]; omega))) ?_)
  exact wpAny_pure (h _ ⟨(hs2.2 _ (Ne.symm I.ne)).trans I.obj, hn2, I.ne⟩ hs2)

theorem make_map {R : Result → Shared → Prop} {vs : List Value} {kw : List (Str × Value)} (X : K.In s.heap) (hm : PySem.W.makesIn K C = true)
    (hi : PySem.W.findIn K (.ref C) "__init__" = some (some (.ref f))) (hf : PySem.W.typeIn K (.ref f) = some (.type "function"))
    (h : codeAny (model prog w) (A.under (.builtin "type.__call__" ⟨.ref C :: vs, kw⟩)) (.call (.ref f) ⟨.ref (s.heap.objs.size + 1) :: vs, kw⟩) (PySem.W.InitBack (s.heap.objs.size + 1) R)
      { s with heap := (s.heap.push PySem.W.emptyDict).push (PySem.W.instObj C s.heap.objs.size) }) :
    codeAny (model prog w) A (.call (.ref C) ⟨vs, kw⟩) R s := by
  obtain ⟨hh, g, d, t, os⟩ := s
  exact PySem.W.make_core (PySem.W.makes_of X hm) (PySem.W.looks_findIn X hi) (fun self => PySem.W.bind_fn X self hf) (.inl rfl) h
end

/-! ### the attributes as a list of pairs -/
noncomputable def putF (f : Str) (v : V) : List (Str × V) → List (Str × V)
  | [] => [(f, v)]
  | (g, x) :: r => if g = f then (g, v) :: r else (g, x) :: putF f v r
theorem lookup_putF (f g : Str) (v : V) : ∀ fs : List (Str × V), (putF f v fs).lookup g = if g = f then some v else fs.lookup g
  | [] => by
    show List.lookup g [(f, v)] = _
    by_cases h : g = f
    · have hb : (g == f) = true := beq_iff_eq.mpr h
      simp only [List.lookup, hb, if_pos h]
    · have hb : (g == f) = false := beq_eq_false_iff_ne.mpr h
      simp only [List.lookup, hb, if_neg h]
  | (k, x) :: r => by
    have ih := lookup_putF f g v r
    rw [show putF f v ((k, x) :: r) = (if k = f then (k, v) :: r else (k, x) :: putF f v r) from rfl]
    by_cases hk : k = f
    · rw [if_pos hk]
      by_cases h : g = k
      · have hb : (g == k) = true := beq_iff_eq.mpr h
        simp only [List.lookup, hb, if_pos (h.trans hk)]
      · have hb : (g == k) = false := beq_eq_false_iff_ne.mpr h
        simp only [List.lookup, hb, if_neg (fun e : g = f => h (e.trans hk.symm))]
    · rw [if_neg hk]
      by_cases h : g = k
      · have hb : (g == k) = true := beq_iff_eq.mpr h
        simp only [List.lookup, hb, if_neg (fun e : g = f => hk (h.symm.trans e))]
      · have hb : (g == k) = false := beq_eq_false_iff_ne.mpr h
        simp only [List.lookup, hb]
        exact ih
theorem keys_putF (f : Str) (v : V) : ∀ fs : List (Str × V), f ∈ (putF f v fs).map (·.1) ∧ ∀ g, g ∈ fs.map (·.1) → g ∈ (putF f v fs).map (·.1)
  | [] => ⟨by simp [putF], fun g h => by simp at h⟩
  | (k, x) :: r => by
    obtain ⟨i1, i2⟩ := keys_putF f v r
    rw [show putF f v ((k, x) :: r) = (if k = f then (k, v) :: r else (k, x) :: putF f v r) from rfl]
    by_cases hk : k = f
    · rw [if_pos hk]
      subst hk
      exact ⟨by simp, fun g h => by simpa using h⟩
    · rw [if_neg hk]
      refine ⟨?_, fun g h => ?_⟩
      · rw [List.map_cons]
        exact List.mem_cons_of_mem _ i1
      · rw [List.map_cons] at h ⊢
        rcases List.mem_cons.mp h with e | e
        · exact List.mem_cons.mpr (.inl e)
        · exact List.mem_cons_of_mem _ (i2 g e)
theorem length_putF (f : Str) (v : V) : ∀ fs : List (Str × V), (putF f v fs).length ≤ fs.length + 1
  | [] => by simp [putF]
  | (k, x) :: r => by
    have ih := length_putF f v r
    rw [show putF f v ((k, x) :: r) = (if k = f then (k, v) :: r else (k, x) :: putF f v r) from rfl]
    by_cases hk : k = f
    · rw [if_pos hk, List.length_cons, List.length_cons]; omega
    · rw [if_neg hk, List.length_cons, List.length_cons]; omega

theorem RelO.some_of {v : V} {o : Option Value} (r : RelO (some v) o) : ∃ u, o = some u ∧ RelV v u := by
  cases o with
  | none => exact (show False from r).elim
  | some u => exact ⟨u, rfl, r⟩
theorem RelO.none_of {o : Option Value} (r : RelO none o) : o = none := by
  cases o with
  | none => rfl
  | some u => exact (show False from r).elim
theorem handed_of {v : V} {u : Value} (r : RelV v u) : PySem.W.handedIn u = true := by
  cases v with
  | non => cases (show u = Value.none from r); rfl
  | bl b => cases (show u = Value.bool b from r); rfl
  | int i => obtain ⟨t, e⟩ := (show ∃ t, u = Value.int i t from r); cases e; rfl
  | str x => obtain ⟨t, e⟩ := (show ∃ t, u = Value.str x t from r); cases e; rfl
  | byt b => obtain ⟨t, e⟩ := (show ∃ t, u = Value.bytes b t from r); cases e; rfl
  | flt b => obtain ⟨t, e⟩ := (show ∃ t, u = Value.float b t from r); cases e; rfl
  | ref a => cases (show u = Value.ref a from r); rfl
  | ty n => cases (show u = Value.type n from r); rfl

section
variable {P : Program} {w : World} {H H' : Hp} {h h' : Heap} {a C dx : Addr} {fs fs' : List (Str × V)}
theorem ins_get (hok : HOk P w H h) (e : H a = some (.ins C dx fs)) : ∃ mA, ObjM h a dx C mA ∧ (∀ f, RelO (fs.lookup f) (mA f)) ∧ PySem.Within mA (fs.map (·.1)) ∧ fs.length ≤ 1000 ∧ H dx = some (.own a) := by
  obtain ⟨d, z, ne, ob, mA, n, r, q⟩ := (show ObjOk P w H h a (.ins C dx fs) from hok a _ e)
  exact ⟨mA, ⟨ob, n, ne⟩, r, q, z, d⟩
end

/-! ### what of the text a class must have -/
set_option genInjectivity false in
structure Cls (K : PySem.W.Frag) (C : Addr) : Prop where
  pg : PySem.W.plainGet K C Str.empty = true
  hd : PySem.W.hasDictIn K C = true
  po : PySem.W.plainOver K C = true
  sa : PySem.W.findIn K (.ref C) "__setattr__" = some (some (.builtin "object.__setattr__"))
theorem Cls.get {K : PySem.W.Frag} {C : Addr} (c : Cls K C) (f : Str) : PySem.W.plainGet K C f = true := c.pg
noncomputable def NoAttr (K : PySem.W.Frag) (C : Addr) (f : Str) : Prop := PySem.W.findIn K (.ref C) f = some none
theorem NoAttr.taker {K : PySem.W.Frag} {C : Addr} {f : Str} (n : NoAttr K C f) : PySem.W.takerIn K C f = some none := by
  unfold PySem.W.takerIn
  rw [show PySem.W.findIn K (.ref C) f = some none from n]
  rfl
set_option genInjectivity false in
structure Meth (K : PySem.W.Frag) (C : Addr) (m : Str) (f : Addr) : Prop where
  at_ : PySem.W.findIn K (.ref C) m = some (some (.ref f))
  fn : PySem.W.isFn K (.ref f) = true
  kp : PySem.W.keepIn K (.ref f) = true

section
variable {X : Cx} {pins : List (Addr × Obj)} {σ : St} {H : Hp} {s : Shared} {a C dx : Addr} {fs : List (Str × V)} {f : Str} {v : V} {A : Around} {E : Value → Shared → Prop}

theorem getattr_ok {b : Bool} {Q : Value → Shared → Prop} (I : Inv X pins σ H s) (e : H a = some (.ins C dx fs)) (c : Cls X.K C) (n : NoAttr X.K C f) (l : fs.lookup f = some v)
    (h : ∀ u s', Inv X pins σ H s' → RelV v u → Q u s') : wpAny (model X.prog X.w) A (getAttr (.ref a) f b) Q E s := by
  obtain ⟨mA, O, r, _, _, _⟩ := ins_get I.hok e
  obtain ⟨u, hu, ru⟩ := RelO.some_of (v := v) (o := mA f) (by rw [← l]; exact r f)
  exact get_map I.kIn O (c.get f) c.hd n hu (handed_of ru) (h u _ (I.tok _) ru)


theorem getmeth_ok {m : Str} {g : Addr} {pl : Sem Bool} {Q : Value × List Value → Shared → Prop} (I : Inv X pins σ H s) (e : H a = some (.ins C dx fs)) (c : Cls X.K C) (k : Meth X.K C m g) (l : fs.lookup m = none)
    (h : Q (.ref g, [.ref a]) s) : wpAny (model X.prog X.w) A (getMethod (.ref a) m pl) Q E s := by
  obtain ⟨mA, O, r, _, _, _⟩ := ins_get I.hok e
  have hn : mA m = none := RelO.none_of (by rw [← l]; exact r m)
  exact get_meth I.kIn O (c.get m) k.at_ k.fn hn h

theorem setattr_ok {y : V} {u : Value} {Q : Unit → Shared → Prop} (I : Inv X pins σ H s) (e : H a = some (.ins C dx fs)) (c : Cls X.K C) (n : NoAttr X.K C f) (hl : fs.length < 1000) (ry : RelV y u)
    (h : ∀ s', Inv X pins σ (upd H a (.ins C dx (putF f y fs))) s' → Q () s') : wpAny (model X.prog X.w) A (setAttr (.ref a) f u) Q E s := by
  obtain ⟨mA, O, r, wi, _, ho⟩ := ins_get I.hok e
  have hz : (fs.map (·.1)).length ≤ sizeLine := by rw [List.length_map, sizeLine_eq]; omega
  refine set_map I.kIn O c.sa c.po n.taker c.hd wi hz fun h' O' sb => h _ ?_
  have hd : ∃ o, h'.get? dx = some o := let ⟨o, _, _, e', _⟩ := O'.ns; ⟨o, e'⟩
  refine I.write (x := a) (e := dx) (by rw [e]; exact True.intro) (.inr ho) (fun b q hb z => (sb.2 b hb).trans z) hd ?_
  refine ⟨by rw [upd_ne O.ne]; exact ho, ?_, O.ne, O'.obj, _, O'.ns, fun g => ?_, fun g hg => ?_⟩
  · have := length_putF f y fs; omega
  · show RelO ((putF f y fs).lookup g) (if g = f then some u else mA g)
    rw [lookup_putF]
    by_cases q : g = f
    · rw [if_pos q, if_pos q]; exact ry
    · rw [if_neg q, if_neg q]; exact r g
  · by_cases q : g = f
    · rw [q]; exact (keys_putF f y fs).1
    · refine (keys_putF f y fs).2 g (wi g fun z => hg ?_)
      show (if g = f then some u else mA g) = none
      rw [if_neg q]; exact z

theorem Inv.made (I : Inv X pins σ H s) : Inv X pins σ (upd (upd H s.heap.objs.size (.own (s.heap.objs.size + 1))) (s.heap.objs.size + 1) (.ins C s.heap.objs.size []))
    { s with heap := (s.heap.push PySem.W.emptyDict).push (PySem.W.instObj C s.heap.objs.size) } := by
  have e1 : (s.heap.push PySem.W.emptyDict).get? s.heap.objs.size = some PySem.W.emptyDict := Heap.get?_push_size s.heap rfl
  have e2 : ((s.heap.push PySem.W.emptyDict).push (PySem.W.instObj C s.heap.objs.size)).get? (s.heap.objs.size + 1) = some (PySem.W.instObj C s.heap.objs.size) := by
    have := Heap.get?_push_size (s.heap.push PySem.W.emptyDict) (o := PySem.W.instObj C s.heap.objs.size) rfl
    rwa [Heap.size_push] at this
  have e3 : (s.heap.push PySem.W.emptyDict).Ns s.heap.objs.size (fun _ => none) := ⟨PySem.W.emptyDict, #[], _, e1, rfl, (fun e he => absurd he (by simp)), fun _ => rfl⟩
  have I1 := I.laid (a := s.heap.objs.size) (o := .own (s.heap.objs.size + 1)) (h' := s.heap.push PySem.W.emptyDict) (t' := s.toks) (fun b u q => Heap.get?_push_of_some _ q) (Nat.le_refl _) ⟨_, e1⟩
  refine I1.laid (a := s.heap.objs.size + 1) (o := .ins C s.heap.objs.size []) (t' := s.toks) (fun b u q => Heap.get?_push_of_some _ q) (Nat.le_of_eq (Heap.size_push _ _)) ?_
  have ne : s.heap.objs.size ≠ s.heap.objs.size + 1 := Nat.ne_of_lt (Nat.lt_succ_self _)
  refine ⟨by rw [upd_ne ne, upd_same], Nat.zero_le _, ne, e2, fun _ => none, (Heap.Ns1.of_empty e3).at fun o q => Heap.get?_push_of_some _ q, fun _ => True.intro, fun y hy => absurd rfl hy⟩

theorem attr_of {prog : Program} {w : World} {env : Env} {e : Expr} {f : Str} {pos : Pos} {s : Shared} {Q : Value → Shared → Prop} (hb : attributeBase e f env (eval e env) = eval e env)
    (h : wpAny (model prog w) A (eval e env) (fun o s₁ => wpAny (model prog w) A (getAttr o f true) Q E s₁) E s) : wpAny (model prog w) A (eval (.Attribute e f pos) env) Q E s :=
  Attribute_any_ h (by rw [arm_eval_Attribute, hb])
end

/-! ### readings and rules -/
noncomputable def tFld (K : PySem.W.Frag) (ta : TE) (f : Str) : TE := fun σ H Q => ta σ H fun x H1 => ∃ a C dx fs v, x = .ref a ∧ H1 a = some (.ins C dx fs) ∧ Cls K C ∧ NoAttr K C f ∧ fs.lookup f = some v ∧ Q v H1
noncomputable def sFld (K : PySem.W.Frag) (ta tv : TE) (f : Str) : TS := fun D σ H => tv σ H fun y H1 => ta σ H1 fun x H2 => ∃ a C dx fs, x = .ref a ∧ H2 a = some (.ins C dx fs) ∧ Cls K C ∧ NoAttr K C f ∧ fs.length < 1000 ∧
  D.nx σ (upd H2 a (.ins C dx (putF f y fs)))
noncomputable def InOp (X : Cx) (op : Operator) (rd : V → V → Hp → VK → Prop) : Prop :=
  ∀ (pins : List (Addr × Obj)) (s : Shared) (σ : St) (H : Hp) (x y : V) (u v : Value) (Q : VK), Inv X pins σ H s → RelV x u → RelV y v → rd x y H Q → wpAny (model X.prog X.w) X.A (inplaceOp op u v) (EP X pins σ Q) X.xe s
noncomputable def sFldAug (K : PySem.W.Frag) (ta tv : TE) (rd : V → V → Hp → VK → Prop) (f : Str) : TS := fun D σ H => ta σ H fun x H1 => ∃ a C dx fs v, x = .ref a ∧ H1 a = some (.ins C dx fs) ∧ Cls K C ∧ NoAttr K C f ∧ fs.lookup f = some v ∧
  tv σ H1 fun y H2 => rd v y H2 fun z H3 => ∃ dx' fs', H3 a = some (.ins C dx' fs') ∧ fs'.length < 1000 ∧ D.nx σ (upd H3 a (.ins C dx' (putF f z fs')))

section
variable {X : Cx} {o e value : Expr} {f : Str} {pos pos' tpos : Pos} {ta tv : TE}
theorem pe_fld (he : PE X e ta) (hb : attributeBase e f X.env (eval e X.env) = eval e X.env) : PE X (.Attribute e f pos) (tFld X.K ta f) := by
  intro pins s σ H Q I h
  refine attr_of hb (thn (he pins s σ H _ I h) fun u s1 ⟨x, H1, I1, rx, a, C, dx, fs, v, ex, ea, c, n, l, q⟩ => ?_)
  subst ex
  obtain rfl : u = Value.ref a := rx
  exact getattr_ok I1 ea c n l fun u' s2 I2 ru => ⟨v, H1, I2, ru, q⟩
theorem ps_fld (ha : PE X o ta) (hv : PE X value tv) (hs : swapsWith value (some (.Attribute o f pos')) pos.line X.env = pure false) : PS X (.Assign [.Attribute o f pos'] value pos) (sFld X.K ta tv f) := by
  intro pins s σ H D I h
  refine plainObj_wpAny_Assign_Attribute (thn (hv pins s σ H _ I h) fun u s1 ⟨y, H1, I1, ry, q⟩ => thn (ha pins s1 σ H1 _ I1 q) fun ov s2 ⟨x, H2, I2, rx, a, C, dx, fs, ex, ea, c, n, l, q2⟩ => ?_) hs
  subst ex
  obtain rfl : ov = Value.ref a := rx
  exact setattr_ok I2 ea c n l ry fun s3 I3 => ⟨σ, _, I3, q2⟩
theorem ps_fldaug {op : Operator} {rd : V → V → Hp → VK → Prop} (ha : PE X o ta) (hv : PE X value tv) (hop : InOp X op rd) : PS X (.AugAssign (.Attribute o f tpos) op value pos) (sFldAug X.K ta tv rd f) := by
  intro pins s σ H D I h
  refine wpAny_AugAssign_AttributeAny (thn (ha pins s σ H _ I h) fun ov s1 ⟨x, H1, I1, rx, a, C, dx, fs, v, ex, ea, c, n, l, q⟩ => ?_)
  subst ex
  obtain rfl : ov = Value.ref a := rx
  refine getattr_ok I1 ea c n l fun u s2 I2 ru => thn (hv pins s2 σ H1 _ I2 q) fun w3 s3 ⟨y, H2, I3, ry, q3⟩ => thn (hop pins s3 σ H2 v y u w3 _ I3 ru ry q3) fun w4 s4 ⟨z, H3, I4, rz, dx', fs', ea', l', q4⟩ => ?_
  exact setattr_ok I4 ea' c n l' rz fun s5 I5 => ⟨σ, _, I5, q4⟩
noncomputable def rAdd : V → V → Hp → VK → Prop := fun x y H Q => ∃ i j, x = .int i ∧ y = .int j ∧ Q (.int (i + j)) H
theorem in_add : InOp X .Add rAdd := by
  rintro pins s σ H x y u v Q I rx ry ⟨i, j, rfl, rfl, q⟩
  obtain ⟨t, rfl⟩ := (show ∃ t, u = Value.int i t from rx)
  obtain ⟨t', rfl⟩ := (show ∃ t', v = Value.int j t' from ry)
  exact PyProof.Rows.iadd_int ⟨.int (i + j), H, I.tok _, ⟨_, rfl⟩, q⟩

theorem methcall_of {pl : Sem Bool} {m : Str} {apos : Pos} {args : List Expr} {pins : List (Addr × Obj)} {s : Shared} {σ : St} {H : Hp} {Q : Value → Shared → Prop} {te : TE} (he : PE X e te) (I : Inv X pins σ H s)
    (h : te σ H fun x H1 => ∃ a C dx fs g, x = .ref a ∧ H1 a = some (.ins C dx fs) ∧ Cls X.K C ∧ Meth X.K C m g ∧ fs.lookup m = none ∧
      ∀ s1, Inv X pins σ H1 s1 → wpAny (model X.prog X.w) X.A (callWith pos (.ref g) [.ref a] (backTo pos (starEach args X.env)) (backToKw pos (keywordEach [] X.env))) Q X.xe s1)
    (ht : eval (.Call (.Attribute e m apos) args [] pos) X.env = (do
      let ov ← eval e X.env
      standAt apos.atName
      let (f, first) ← holding [ov] (getMethod ov m pl)
      callWith pos f first (backTo pos (starEach args X.env)) (backToKw pos (keywordEach [] X.env)))) :
    wpAny (model X.prog X.w) X.A (eval (.Call (.Attribute e m apos) args [] pos) X.env) Q X.xe s := by
  refine PySem.W.methodCall_KW (pl := pl) (thn (he pins s σ H _ I h) fun u s1 ⟨x, H1, I1, rx, a, C, dx, fs, g, ex, ea, c, k, l, q⟩ => ?_) ht
  subst ex
  obtain rfl : u = Value.ref a := rx
  exact getmeth_ok I1 ea c k l (q s1 I1)
end

/-! ### isinstance -/
section
variable {X : Cx} {pins : List (Addr × Obj)} {σ : St} {H : Hp} {s : Shared} {A : Around} {E : Value → Shared → Prop} {Q : Value → Shared → Prop} {c : Value} {b : Bool}
inductive TyOf (K : PySem.W.Frag) (H : Hp) : V → Value → Prop where
  | non : TyOf K H .non (.type "NoneType")
  | bl (x : Bool) : TyOf K H (.bl x) (.type "bool")
  | int (i : Int) : TyOf K H (.int i) (.type "int")
  | str (x : Str) : TyOf K H (.str x) (.type "str")
  | flt (x : UInt64) : TyOf K H (.flt x) (.type "float")
  | lst {a : Addr} {xs : List V} (e : H a = some (.lst xs)) : TyOf K H (.ref a) (.type "list")
  | frz {a : Addr} {o : Obj} {xs : List V} (e : H a = some (.frz o (.lst xs))) : TyOf K H (.ref a) (.type "list")
  | tup {a : Addr} {xs : List V} (e : H a = some (.tup xs)) : TyOf K H (.ref a) (.type "tuple")
  | dK {a : Addr} {kvs : List (Key × V)} (e : H a = some (.dK kvs)) : TyOf K H (.ref a) (.type "dict")
  | dT {a : Addr} {kvs : List (List Key × V)} (e : H a = some (.dT kvs)) : TyOf K H (.ref a) (.type "dict")
  | ins {a C dx : Addr} {fs : List (Str × V)} (e : H a = some (.ins C dx fs)) (cl : Cls K C) (ha : PySem.W.findIn K (.ref C) "__class__" = some (some (.builtin "object.__class__")))
      (hn : PySem.W.specialIn K (.builtin "object.__class__") "__get__" = some (some (.builtin "getset_descriptor.__get__"))) (htk : PySem.W.takesIn K (.builtin "object.__class__") = some true)
      (hm : PySem.W.mroIn K C (.type "object") = some true) : TyOf K H (.ref a) (.ref C)
theorem isinst_ok {x : V} {u t : Value} (I : Inv X pins σ H s) (rx : RelV x u) (ty : TyOf X.K H x t) (e : PySem.W.kitOne X.K t c = some b) (h : ∀ tk, Q (.bool b) { s with toks := tk }) :
    wpAny (model X.prog X.w) A (call (.builtin "isinstance") [u, c]) Q E s := by
  cases ty with
  | non => cases (show u = Value.none from rx); exact PySem.W.kia_one PySem.W.kitx_none I.kIn True.intro e (fun z => nomatch z) h
  | bl y => cases (show u = Value.bool y from rx); exact PySem.W.kia_one PySem.W.kitx_bool I.kIn True.intro e (fun z => nomatch z) h
  | int i => obtain ⟨t, q⟩ := (show ∃ t, u = Value.int i t from rx); cases q; exact PySem.W.kia_one PySem.W.kitx_int I.kIn True.intro e (fun z => nomatch z) h
  | str y => obtain ⟨t, q⟩ := (show ∃ t, u = Value.str y t from rx); cases q; exact PySem.W.kia_one PySem.W.kitx_str I.kIn True.intro e (fun z => nomatch z) h
  | flt y => obtain ⟨t, q⟩ := (show ∃ t, u = Value.float y t from rx); cases q; exact PySem.W.kia_one PySem.W.kitx_float I.kIn True.intro e (fun z => nomatch z) h
  | @lst a xs ea =>
    cases (show u = Value.ref a from rx)
    obtain ⟨_, _, n, _, h1⟩ := (show ObjOk X.prog X.w H s.heap a (.lst xs) from I.hok a _ ea)
    exact PySem.W.kia_one PySem.W.kitx_list I.kIn ⟨_, h1, rfl⟩ e (fun z => nomatch z) h
  | @frz a ob xs ea =>
    cases (show u = Value.ref a from rx)
    obtain ⟨_, _, _, n, _, h1⟩ := (show ObjOk X.prog X.w H s.heap a (.frz ob (.lst xs)) from I.hok a _ ea)
    exact PySem.W.kia_one PySem.W.kitx_list I.kIn ⟨_, h1, rfl⟩ e (fun z => nomatch z) h
  | @tup a xs ea =>
    cases (show u = Value.ref a from rx)
    obtain ⟨_, _, _, p⟩ := (show ObjOk X.prog X.w H s.heap a (.tup xs) from I.hok a _ ea)
    obtain ⟨o, h1, h2, _⟩ := p
    exact PySem.W.kia_one PySem.W.kitx_tuple I.kIn ⟨o, h1, h2⟩ e (fun z => nomatch z) h
  | @dK a kvs ea =>
    cases (show u = Value.ref a from rx)
    obtain ⟨_, _, vs, _, p⟩ := (show ObjOk X.prog X.w H s.heap a (.dK kvs) from I.hok a _ ea)
    obtain ⟨o, es, ep, h1, h2, _⟩ := p
    exact PySem.W.kia_one PySem.W.kitx_dict I.kIn ⟨o, h1, h2.1⟩ e (fun z => nomatch z) h
  | @dT a kvs ea =>
    cases (show u = Value.ref a from rx)
    obtain ⟨_, _, xs, _, o, es, ep, h1, h2, _⟩ := (show ObjOk X.prog X.w H s.heap a (.dT kvs) from I.hok a _ ea)
    exact PySem.W.kia_one PySem.W.kitx_dict I.kIn ⟨o, h1, h2.1⟩ e (fun z => nomatch z) h
  | @ins a C dx fs ea cl ha hn htk hm =>
    cases (show u = Value.ref a from rx)
    obtain ⟨mA, O, _⟩ := ins_get I.hok ea
    obtain ⟨od, J, _⟩ := O.look
    exact PySem.W.kia_one (PySem.W.kitx_own (cl.get _) cl.hd ha hn htk hm) I.kIn J e (fun z => nomatch z) h
end
end L2

namespace L2
open PySem PySem.Spec PyProof.Rows

/-! ### room -/
set_option genInjectivity false in
structure Room (k : Nat) (A : Around) : Prop where
  hd : A.handled = none
  dp : A.depth + 3 * k + 5 < recursionLimit
  un : A.units + 16 * k + 200 < cLine
theorem Room.mono {j k : Nat} {A : Around} (r : Room k A) (h : j ≤ k) : Room j A := ⟨r.hd, by have := r.dp; omega, by have := r.un; omega⟩
theorem Room.deeper {k : Nat} {A : Around} (r : Room (k + 1) A) (env : Env) : Room k (A.deeper env) :=
  ⟨r.hd, by have := r.dp; show A.depth + 1 + 3 * k + 5 < _; omega, by have := r.un; show A.units + 3 + 16 * k + 200 < _; omega⟩
theorem make_depth {A : Around} {C : Addr} {us : List Value} {kw : List (Str × Value)} : (A.under (.builtin "type.__call__" ⟨.ref C :: us, kw⟩)).depth = A.depth + 1 := by
  first | rfl | simp [Around.under, Code.weight, Code.isCreation, Code.isGuard, Code.isCaller, Code.frames, Code.isFrame, guardIds]
theorem make_units {A : Around} {C : Addr} {us : List Value} {kw : List (Str × Value)} : (A.under (.builtin "type.__call__" ⟨.ref C :: us, kw⟩)).units = A.units + 1 := by
  first | rfl | simp [Around.under, Code.cUnits, Code.frames, Code.isFrame]
theorem Room.make {k : Nat} {A : Around} (r : Room (k + 1) A) (C : Addr) (us : List Value) (kw : List (Str × Value)) : Room k (A.under (.builtin "type.__call__" ⟨.ref C :: us, kw⟩)) :=
  ⟨r.hd, by have := r.dp; rw [make_depth]; omega, by have := r.un; rw [make_units]; omega⟩
theorem Room.depth {k : Nat} {A : Around} (r : Room k A) : A.depth < recursionLimit := by have := r.dp; omega
theorem Room.units {k : Nat} {A : Around} (r : Room k A) : A.units + 64 < cLine := by have := r.un; omega

/-! ### argument lists and displays -/
noncomputable def tNil : TA := fun _ H Q => Q [] H
noncomputable def tCons (ta : TE) (tr : TA) : TA := fun σ H Q => ta σ H fun x H1 => tr σ H1 fun xs H2 => Q (x :: xs) H2
section
variable {X : Cx} {e : Expr} {es : List Expr} {te : TE} {t : TA} {pos : Pos}
theorem pa_nil : PA X [] tNil := fun _ _ _ _ H Q I h => Calls.spliced_nil ⟨[], H, I, .nil, h⟩
theorem pa_cons (ha : PE X e te) (hr : PA X es t) (hs : starEach (e :: es) X.env = (false, eval e X.env) :: starEach es X.env := by rfl) : PA X (e :: es) (tCons te t) := by
  intro pos pins s σ H Q I h
  rw [hs]
  show wpAny _ _ (spliced ((false, eval e X.env) :: backTo pos (starEach es X.env))) _ _ s
  refine Calls.spliced_cons (thn (ha pins s σ H _ I h) fun u s1 ⟨x, H1, I1, r1, q1⟩ => ?_)
  exact thn (hr pos pins s1 σ H1 _ I1 q1) fun us s2 ⟨xs, H2, I2, r2, q2⟩ => ⟨x :: xs, H2, I2, .cons r1 r2, q2⟩

noncomputable def tTup (t : TA) : TE := fun σ H Q => t σ H fun xs H1 => xs.length ≤ sizeLine ∧ ∀ p, H1 p = none → Q (.ref p) (upd H1 p (.tup xs))
noncomputable def tLst (t : TA) : TE := fun σ H Q => t σ H fun xs H1 => xs.length ≤ sizeLine ∧ ∀ p, H1 p = none → Q (.ref p) (upd H1 p (.lst xs))
theorem pe_tup {x1} (h : PA X es t) : PE X (.Tuple es x1 pos) (tTup t) := by
  intro pins s σ H Q I hq
  refine wpAny_Tuple_spliced (thn (h pos pins s σ H _ I hq) fun us s1 ⟨xs, H1, I1, r, z, q⟩ => ⟨by rw [← r.length]; exact z, ?_⟩)
  have hf : H1 s1.heap.objs.size = none := I1.hok.fresh (Nat.le_refl _)
  refine ⟨.ref s1.heap.objs.size, upd H1 s1.heap.objs.size (.tup xs), I1.laid (t' := s1.toks) (fun b u e => Heap.get?_push_of_some _ e) (Nat.le_refl _) ?_, rfl, q _ hf⟩
  exact ⟨z, us, r, ⟨_, Heap.get?_push_size _ rfl, rfl, _, rfl⟩⟩
theorem pe_lst (h : PA X es t) : PE X (.List es pos) (tLst t) := by
  intro pins s σ H Q I hq
  refine wpAny_List_spliced (thn (h pos pins s σ H _ I hq) fun us s1 ⟨xs, H1, I1, r, z, q⟩ => ⟨by rw [← r.length]; exact z, ?_⟩)
  have hf : H1 s1.heap.objs.size = none := I1.hok.fresh (Nat.le_refl _)
  refine ⟨.ref s1.heap.objs.size, upd H1 s1.heap.objs.size (.lst xs), I1.laid (t' := s1.toks) (fun b u e => Heap.get?_push_of_some _ e) (Nat.le_refl _) ?_, rfl, q _ hf⟩
  exact ⟨z, us, 0, r, Heap.get?_push_size _ rfl⟩
end

/-! ### what a def promises -/
noncomputable abbrev Sp := List V → Hp → VK → XK → Prop
noncomputable abbrev CXT := List Env → Hp → Shared → XK → Value → Shared → Prop

set_option genInjectivity false in
structure Env0 (P : Program) (w : World) (K : PySem.W.Frag) (mg : Str → Option Value) (base : Heap) (A : Around) (outer : List Env) (s : Shared) (H : Hp) : Prop where
  frames : A.frames = some outer
  mod : Mod K mg base
  bs : ∀ b o, base.get? b = some o → s.heap.get? b = some o ∧ H b = none
  bsz : base.objs.size ≤ s.heap.objs.size
  funs : s.heap.FunFrames base outer
  frf : ∀ b ∈ frs outer, H b = none
  hok : HOk P w H s.heap
  bare : AllBare s.gens
noncomputable def CE (outer : List Env) (P : Program) (w : World) (H : Hp) (s : Shared) (Q : VK) (u : Value) (s' : Shared) : Prop :=
  ∃ v H', s'.os = s.os ∧ AllBare s'.gens ∧ Un (frs outer) [] H H' s.heap s'.heap ∧ HOk P w H' s'.heap ∧ RelV v u ∧ Q v H'
noncomputable def CR (CX : CXT) (outer : List Env) (P : Program) (w : World) (H : Hp) (s : Shared) (Q : VK) (E : XK) (r : Result) (s' : Shared) : Prop :=
  match r with
  | .ok (.ret u) => CE outer P w H s Q u s'
  | .ok _ => False
  | .error e => CX outer H s E e s'
set_option genInjectivity false in
structure FnOk (P : Program) (w : World) (K : PySem.W.Frag) (mg : Str → Option Value) (base : Heap) (CX : CXT) (k : Nat) (f : Addr) (fd : FuncData) (ps : List Str) (sp : Sp) : Prop where
  len : ∀ vs H Q E, sp vs H Q E → vs.length = ps.length
  run : ∀ (A : Around) (outer : List Env) (s : Shared) (H : Hp) (args : Args) (us : List Value) (vs : List V) (Q : VK) (E : XK), Room k A → Env0 P w K mg base A outer s H → BindsTo s fd args (ps.zip us) → Vals vs us → sp vs H Q E →
    codeAny (model P w) A (.call (.ref f) args) (CR CX outer P w H s Q E) s

theorem Env0.make {P : Program} {w : World} {K : PySem.W.Frag} {mg : Str → Option Value} {base : Heap} {A : Around} {outer : List Env} {s : Shared} {H : Hp} (e : Env0 P w K mg base A outer s H) (C : Addr) (us : List Value) (kw : List (Str × Value)) :
    Env0 P w K mg base (A.under (.builtin "type.__call__" ⟨.ref C :: us, kw⟩)) outer s H := ⟨by first | exact e.frames | (simpa [Around.under, Code.envs, Code.isFrame, pushEnvs] using e.frames), e.mod, e.bs, e.bsz, e.funs, e.frf, e.hok, e.bare⟩

section
variable {X : Cx} {pins : List (Addr × Obj)} {σ : St} {H : Hp} {s s' : Shared}
theorem Inv.env0 (I : Inv X pins σ H s) : Env0 X.prog X.w X.K X.mg X.base X.A X.stack s H :=
  ⟨I.ok.frames, I.ok.mod, I.bs, Nat.le_trans I.ok.bsz I.sz, I.stack, I.stkFree, I.hok, I.bare⟩
theorem Inv.after {Q : VK} {u : Value} (I : Inv X pins σ H s) (h : CE X.stack X.prog X.w H s Q u s') : EP X pins σ Q u s' := by
  obtain ⟨v, H', os, bare, un, hok, r, q⟩ := h
  obtain ⟨hh, g, d, t, os'⟩ := s'
  obtain rfl : os' = s.os := os
  exact ⟨v, H', I.call (h' := hh) (g' := g) (d' := d) (t' := t) (ch := []) un hok bare (fun b z => absurd z (by simp)), r, q⟩
end

/-! ### calls -/
noncomputable def tCall (sp : Sp) (dvs : List V) (E : XK) (t : TA) : TE := fun σ H Q => t σ H fun vs H1 => sp (vs ++ dvs) H1 Q E
noncomputable def tMeth (C : Addr) (m : Str) (sp : Sp) (dvs : List V) (E : XK) (ta : TE) (t : TA) : TE := fun σ H Q => ta σ H fun x H1 => ∃ a dx fs, x = .ref a ∧ H1 a = some (.ins C dx fs) ∧ fs.lookup m = none ∧
  t σ H1 fun vs H2 => sp (x :: (vs ++ dvs)) H2 Q E
noncomputable def tMake (C : Addr) (sp : Sp) (dvs : List V) (E : XK) (t : TA) : TE := fun σ H Q => t σ H fun vs H1 => ∀ x dx, H1 x = none → H1 dx = none → dx ≠ x →
  sp (.ref x :: (vs ++ dvs)) (upd (upd H1 dx (.own x)) x (.ins C dx [])) (fun v H2 => v = .non ∧ Q (.ref x) H2) E

noncomputable def Binds (K : PySem.W.Frag) (fd : FuncData) (ps : List Str) (ds : List Value) : Prop :=
  ∀ (s : Shared) (us : List Value), K.In s.heap → (us ++ ds).length = ps.length → BindsTo s fd ⟨us, []⟩ (ps.zip (us ++ ds))
theorem Binds.all {K : PySem.W.Frag} {fd : FuncData} {ps : List Str} (h : ∀ us : List Value, us.length = ps.length → bindArgs fd ⟨us, []⟩ = pure (ps.zip us)) : Binds K fd ps [] := fun s us _ hl => by
  rw [List.append_nil] at hl ⊢
  exact .of_eq (h us hl)

noncomputable def Passes (CX : CXT) (X : Cx) (E : XK) : Prop := ∀ (pins : List (Addr × Obj)) (σ : St) (H : Hp) (s : Shared) (e : Value) (s' : Shared), Inv X pins σ H s → CX X.stack H s E e s' → X.xe e s'

section
variable {X : Cx} {CX : CXT} {k : Nat} {f C : Addr} {fd : FuncData} {ps : List Str} {sp : Sp} {dvs : List V} {ds : List Value} {E : XK} {x m : Str} {p pos apos : Pos} {e o : Expr} {es : List Expr} {ta : TE} {t : TA}

theorem run_fn {pins : List (Addr × Obj)} {σ : St} {H : Hp} {s : Shared} {Q : VK} {us : List Value} {vs : List V} (F : FnOk X.prog X.w X.K X.mg X.base CX k f fd ps sp) (hr : Room k X.A) (hb : Binds X.K fd ps ds) (hd : Vals dvs ds) (hx : Passes CX X E)
    (I : Inv X pins σ H s) (r : Vals vs us) (h : sp (vs ++ dvs) H Q E) : wpAny (model X.prog X.w) X.A (call (.ref f) us) (EP X pins σ Q) X.xe s := by
  have r2 : Vals (vs ++ dvs) (us ++ ds) := r.append hd
  have hl : (us ++ ds).length = ps.length := by rw [← r2.length]; exact F.len _ _ _ _ h
  refine wpAny_call (codeAny_mono (F.run X.A X.stack s H ⟨us, []⟩ (us ++ ds) (vs ++ dvs) Q E hr I.env0 (hb s us I.kIn hl) r2 h) fun r s' hq => ?_)
  cases r with
  | error e => exact hx pins σ H s e s' I hq
  | ok fl =>
    cases fl with
    | ret u => exact I.after hq
    | next => exact False.elim hq
    | brk => exact False.elim hq
    | cont => exact False.elim hq

theorem pe_call (F : FnOk X.prog X.w X.K X.mg X.base CX k f fd ps sp) (hr : Room k X.A) (hg : Gl X x) (hm : X.mg x = some (.ref f)) (hk : PySem.W.keepIn X.K (.ref f) = true) (hb : Binds X.K fd ps ds) (hd : Vals dvs ds) (hx : Passes CX X E)
    (ha : PA X (e :: es) t) (hdb : (x == ("__debug__" : Str)) = false := by decide) (he : starEach (e :: es) X.env = (false, eval e X.env) :: starEach es X.env := by rfl) (hpl : (backTo pos (starEach es X.env)).any (·.1) = false := by rfl) :
    PE X (.Call (.Name x p) (e :: es) [] pos) (tCall sp dvs E t) := by
  intro pins s σ H Q I h
  refine wpAny_Call_Name_kw (ld_glob I hg hm ?_ hdb)
  refine PySem.W.callWith_K (h₀ := X.base) I.ok.mod.kin hk (thn (ha pos pins s σ H _ I h) fun us s1 ⟨vs, H1, I1, r, q⟩ => ⟨I1.kIn, ?_⟩) he hpl
  exact run_fn F hr hb hd hx I1 r q

theorem pe_meth {pl : Sem Bool} (he : PE X o ta) (c : Cls X.K C) (hm : Meth X.K C m f) (F : FnOk X.prog X.w X.K X.mg X.base CX k f fd ps sp) (hr : Room k X.A) (hb : Binds X.K fd ps ds) (hd : Vals dvs ds) (hx : Passes CX X E) (ha : PA X (e :: es) t)
    (hst : starEach (e :: es) X.env = (false, eval e X.env) :: starEach es X.env := by rfl) (hpl : (backTo pos (starEach es X.env)).any (·.1) = false := by rfl)
    (ht : eval (.Call (.Attribute o m apos) (e :: es) [] pos) X.env = (do
      let ov ← eval o X.env
      standAt apos.atName
      let (f, first) ← holding [ov] (getMethod ov m pl)
      callWith pos f first (backTo pos (starEach (e :: es) X.env)) (backToKw pos (keywordEach [] X.env))) := by rfl) :
    PE X (.Call (.Attribute o m apos) (e :: es) [] pos) (tMeth C m sp dvs E ta t) := by
  intro pins s σ H Q I h
  refine PySem.W.methodCall_KW (pl := pl) (thn (he pins s σ H _ I h) fun u s1 ⟨x, H1, I1, rx, a, dx, fs, ex, ea, l, q⟩ => ?_) ht
  subst ex
  obtain rfl : u = Value.ref a := rx
  refine getmeth_ok I1 ea c hm l ?_
  refine PySem.W.callWith_K (first := [.ref a]) (h₀ := X.base) I.ok.mod.kin hm.kp (thn (ha pos pins s1 σ H1 _ I1 q) fun us s2 ⟨vs, H2, I2, r, q2⟩ => ⟨I2.kIn, ?_⟩) hst hpl
  exact run_fn (us := .ref a :: us) (vs := .ref a :: vs) F hr hb hd hx I2 (.cons rfl r) q2

set_option genInjectivity false in
structure Mk (K : PySem.W.Frag) (C f : Addr) : Prop where
  makes : PySem.W.makesIn K C = true
  init : PySem.W.findIn K (.ref C) "__init__" = some (some (.ref f))
  fn : PySem.W.isFn K (.ref f) = true
  kp : PySem.W.keepIn K (.ref C) = true

theorem run_make {pins : List (Addr × Obj)} {σ : St} {H : Hp} {s : Shared} {Q : VK} {us : List Value} {vs : List V} (M : Mk X.K C f) (F : FnOk X.prog X.w X.K X.mg X.base CX k f fd ps sp) (hr : Room (k + 1) X.A) (hb : Binds X.K fd ps ds) (hd : Vals dvs ds)
    (hx : Passes CX X E) (I : Inv X pins σ H s) (r : Vals vs us)
    (h : ∀ x dx, H x = none → H dx = none → dx ≠ x → sp (.ref x :: (vs ++ dvs)) (upd (upd H dx (.own x)) x (.ins C dx [])) (fun v H2 => v = .non ∧ Q (.ref x) H2) E) :
    wpAny (model X.prog X.w) X.A (call (.ref C) us) (EP X pins σ Q) X.xe s := by
  have hq := h (s.heap.objs.size + 1) s.heap.objs.size (I.hok.fresh (Nat.le_succ _)) (I.hok.fresh (Nat.le_refl _)) (Nat.ne_of_lt (Nat.lt_succ_self _))
  have I2 := Inv.made (C := C) I
  have r2 : Vals (V.ref (s.heap.objs.size + 1) :: (vs ++ dvs)) (Value.ref (s.heap.objs.size + 1) :: (us ++ ds)) := .cons rfl (r.append hd)
  have hl : (Value.ref (s.heap.objs.size + 1) :: us ++ ds).length = ps.length := by
    have e := r2.length
    rw [F.len _ _ _ _ hq] at e
    exact e.symm
  refine wpAny_call (make_map (f := f) I.kIn M.makes M.init (beq_iff_eq.mp M.fn) (codeAny_mono (F.run _ X.stack _ _ ⟨Value.ref (s.heap.objs.size + 1) :: us, []⟩ (Value.ref (s.heap.objs.size + 1) :: (us ++ ds)) _ _ E (hr.make C us [])
    (I2.env0.make C us []) (hb _ (Value.ref (s.heap.objs.size + 1) :: us) I2.kIn hl) r2 hq) fun r s' hq' => ?_))
  cases r with
  | error e => exact hx pins σ _ _ e s' I2 hq'
  | ok fl =>
    cases fl with
    | ret u =>
      obtain ⟨v, H', I3, rv, ev, q3⟩ := I2.after hq'
      subst ev
      exact ⟨rv, ⟨V.ref (s.heap.objs.size + 1), H', I3, rfl, q3⟩⟩
    | next => exact False.elim hq'
    | brk => exact False.elim hq'
    | cont => exact False.elim hq'
theorem pe_make0 (M : Mk X.K C f) (F : FnOk X.prog X.w X.K X.mg X.base CX k f fd ps sp) (hr : Room (k + 1) X.A) (hg : Gl X x) (hm : X.mg x = some (.ref C)) (hb : Binds X.K fd ps ds) (hd : Vals dvs ds) (hx : Passes CX X E)
    (hdb : (x == ("__debug__" : Str)) = false := by decide) : PE X (.Call (.Name x p) [] [] pos) (tMake C sp dvs E tNil) := by
  intro pins s σ H Q I h
  refine wpAny_Call_Name_kw (ld_glob I hg hm ?_ hdb)
  exact PySem.W.callWith_K0 I.kIn M.kp (run_make (us := []) M F hr hb hd hx I .nil h)
end

/-! ### keywords -/
section
variable {X : Cx} {CX : CXT} {k : Nat} {f C : Addr} {fd : FuncData} {ps ks : List Str} {sp : Sp} {E : XK} {x m : Str} {p pos apos kpos : Pos} {e o : Expr} {es : List Expr} {kws : List Keyword} {te ta : TE} {t tk : TA} {nm : Option Str}

variable {g : List Value → List Value → List Value} {gV : List V → List V → List V}
end

/-! ### a def's body keeps its promise -/
set_option genInjectivity false in
structure FnScope (N P : List Str) (sc : Scope) : Prop where
  kind : sc.kind = .function
  co : sc.isCoroutine = false
  gen : sc.isGenerator = false
  nd : N.Nodup
  pre : N.take P.length = P
  par : ∀ x ∈ P, sc.names.lookup x = some .local ∨ sc.names.lookup x = some .cell
  nofree : ∀ y ∈ sc.names, y.2 ≠ .free

theorem bindL_out {kindOf : Str → Option NameKind} {x : Str} : ∀ {binds : List (Str × Value)} {m : Str → Option Value}, (∀ v, (x, v) ∉ binds) → bindL kindOf binds m x = m x
  | [], _, _ => rfl
  | (n, v) :: r, m, h => by
    unfold bindL
    rw [bindL_out fun w hw => h w (List.mem_cons_of_mem _ hw)]
    split
    · have : x ≠ n := by rintro rfl; exact h v List.mem_cons_self
      simp [this]
    · rfl
theorem bindC_out {kindOf : Str → Option NameKind} {x : Str} : ∀ {binds : List (Str × Value)} {m : Str → Option Value}, (∀ v, (x, v) ∉ binds) → bindC kindOf binds m x = m x
  | [], _, _ => rfl
  | (n, v) :: r, m, h => by
    unfold bindC
    rw [bindC_out fun w hw => h w (List.mem_cons_of_mem _ hw)]
    split
    · rfl
    · have : x ≠ n := by rintro rfl; exact h v List.mem_cons_self
      simp [this]
theorem bindL_get {kindOf : Str → Option NameKind} {x : Str} {v : Value} : ∀ {P : List Str} {vs : List Value} {i : Nat} {m : Str → Option Value}, P.Nodup → P[i]? = some x → vs[i]? = some v → kindOf x = some .local →
    bindL kindOf (P.zip vs) m x = some v
  | [], _, _, _, _, h, _, _ => by simp at h
  | _ :: _, [], _, _, _, _, h, _ => by simp at h
  | p :: P, w :: vs, 0, m, nd, h1, h2, hk => by
    simp at h1 h2; subst h1; subst h2
    show bindL kindOf ((p, w) :: P.zip vs) m p = _
    unfold bindL
    rw [bindL_out fun v hv => (List.nodup_cons.mp nd).1 (List.of_mem_zip hv).1, if_pos hk]
    simp
  | p :: P, w :: vs, i + 1, m, nd, h1, h2, hk => by
    show bindL kindOf ((p, w) :: P.zip vs) m x = _
    unfold bindL
    exact bindL_get (i := i) (List.nodup_cons.mp nd).2 (by simpa using h1) (by simpa using h2) hk
theorem bindC_get {kindOf : Str → Option NameKind} {x : Str} {v : Value} : ∀ {P : List Str} {vs : List Value} {i : Nat} {m : Str → Option Value}, P.Nodup → P[i]? = some x → vs[i]? = some v → kindOf x ≠ some .local →
    bindC kindOf (P.zip vs) m x = some v
  | [], _, _, _, _, h, _, _ => by simp at h
  | _ :: _, [], _, _, _, _, h, _ => by simp at h
  | p :: P, w :: vs, 0, m, nd, h1, h2, hk => by
    simp at h1 h2; subst h1; subst h2
    show bindC kindOf ((p, w) :: P.zip vs) m p = _
    unfold bindC
    rw [bindC_out fun v hv => (List.nodup_cons.mp nd).1 (List.of_mem_zip hv).1, if_neg hk]
    simp
  | p :: P, w :: vs, i + 1, m, nd, h1, h2, hk => by
    show bindC kindOf ((p, w) :: P.zip vs) m x = _
    unfold bindC
    exact bindC_get (i := i) (List.nodup_cons.mp nd).2 (by simpa using h1) (by simpa using h2) hk

noncomputable def start (N : List Str) (vs : List V) : St := vs.map some ++ List.replicate (N.length - vs.length) none

noncomputable def cxOf (CX : CXT) (P : Program) (w : World) (K : PySem.W.Frag) (mg : Str → Option Value) (base : Heap) (N : List Str) (qual : Str) (scope : Scope) (f : Addr) (cd : Value) (A : Around) (outer : List Env) (s : Shared) (H : Hp) (E : XK) : Cx where
  prog := P
  w := w
  K := K
  mg := mg
  base := base
  A := A.deeper (envOfC qual scope s.heap.objs.size f cd)
  N := N
  s₀ := s
  H₀ := H
  env := envOfC qual scope s.heap.objs.size f cd
  outer := outer
  stack := envOfC qual scope s.heap.objs.size f cd :: outer
  ex := []
  calm := true
  fn := fun _ => true
  pn := []
  xe := fun e s' => wpAny (model P w) (A.deeper (envOfC qual scope s.heap.objs.size f cd)) (leaving (envOfC qual scope s.heap.objs.size f cd) e) (fun _ s'' => CX outer H s E e s'') (fun e' s'' => CX outer H s E e' s'') s'

theorem cell_has {sc : Scope} {n : Nat} {x : Str} (h : sc.names.lookup x = some .cell) : ∃ c, (cellsFrom n sc.names []).lookup x = some c := by
  have q := PySem.W.cellsFrom_some sc.names n [] (.inl h)
  exact Option.isSome_iff_exists.mp q

theorem inv_start {CX : CXT} {P : Program} {w : World} {K : PySem.W.Frag} {mg : Str → Option Value} {base : Heap} {N ps : List Str} {qual : Str} {scope : Scope} {f : Addr} {cd : Value} {A : Around} {outer : List Env} {s s1 : Shared} {H : Hp} {E : XK} {us : List Value} {vs : List V}
    (S : FnScope N ps scope) (hd : A.handled = none) (e0 : Env0 P w K mg base A outer s H) (hl : vs.length = ps.length) (r : Vals vs us)
    (x : InCallC s s.heap.objs.size (bindL (envOfC qual scope s.heap.objs.size f cd).kindOf (ps.zip us) fun _ => none) (cellsFrom (s.heap.objs.size + 1) scope.names []) (bindC (envOfC qual scope s.heap.objs.size f cd).kindOf (ps.zip us) fun _ => none) s1) :
    Inv (cxOf CX P w K mg base N qual scope f cd A outer s H E) [] (start N vs) H s1 := by
  have hpl : ps.length ≤ N.length := by have := congrArg List.length S.pre; rw [List.length_take] at this; omega
  obtain ⟨h1, tk, rfl, hk⟩ := x.done
  have noA : ∀ b : Addr, b ∉ (cxOf CX P w K mg base N qual scope f cd A outer s H E).ex := fun b z => absurd (show b ∈ ([] : List Addr) from z) (by simp)
  refine ⟨⟨e0.mod, S.kind, rfl, rfl, Nat.le_refl _, fun y z c h1 h2 => ?_, fun y hy => ?_, fun y c _ h => ?_, fun _ => hd, Around.frames_deeper e0.frames, .inr ⟨rfl, rfl⟩, fun b z => absurd z (noA b), e0.bs, e0.bsz, fun b _ _ => noA b, fun b z => absurd z (noA b), e0.funs, e0.frf⟩,
    rfl, e0.bare, Un.kept hk, ⟨_, x.toInCall.ns, fun i y v h1 h2 h3 => ?_⟩, fun y c h => ⟨_, x.cell y c h⟩, e0.hok.fresh (Nat.le_refl _), fun y c h => ?_, fun p hp => absurd (show p ∈ ([] : List (Addr × Obj)) from hp) (by simp), e0.hok.kept hk, ?_⟩
  · exact name_of_addr x.apart (PySem.mem_of_lookup h1) (PySem.mem_of_lookup h2)
  · have hy : scope.names.lookup y = some .cell ∨ scope.names.lookup y = some .free := hy
    rcases hy with hy | hy
    · exact cell_has hy
    · exact absurd rfl (S.nofree _ (PySem.mem_of_lookup hy))
  · exact Nat.le_of_lt (x.above y c (PySem.mem_of_lookup h))
  · have hi : i < vs.length := by
      unfold start at h2
      by_cases hi : i < vs.length
      · exact hi
      · rw [List.getElem?_append_right (by simpa using hi)] at h2
        rw [List.getElem?_replicate] at h2
        split at h2 <;> cases h2
    have ha : vs[i]? = some v := by
      unfold start at h2
      rw [List.getElem?_append_left (by simpa using hi), List.getElem?_map] at h2
      cases e : vs[i]? with
      | none => rw [e] at h2; cases h2
      | some a => rw [e] at h2; cases h2; rfl
    obtain ⟨u, hu, rv⟩ := r.get ha
    have hp : ps[i]? = some y := by
      rw [← S.pre, List.getElem?_take_of_lt (by omega)]; exact h1
    have ndP : ps.Nodup := by rw [← S.pre]; exact S.nd.sublist (List.take_sublist _ _)
    refine ⟨u, rv, ?_⟩
    rcases S.par y (List.mem_of_getElem? hp) with k | k
    · exact .inl ⟨k, bindL_get ndP hp hu k⟩
    · obtain ⟨c, e⟩ := cell_has (n := s.heap.objs.size + 1) k
      refine .inr ⟨.inl k, c, e, ?_⟩
      have q := x.cell y c e
      rw [bindC_get ndP hp hu (by show scope.names.lookup y ≠ _; rw [k]; decide)] at q
      exact q
  · exact e0.hok.fresh (Nat.le_of_lt (x.above y c (PySem.mem_of_lookup h)))
  · unfold start
    show _ = N.length
    rw [List.length_append, List.length_map, List.length_replicate]
    omega

theorem fn_of {CX : CXT} {P : Program} {w : World} {K : PySem.W.Frag} {mg : Str → Option Value} {base : Heap} {k : Nat} {f : Addr} {name qual : Str} {params : Arguments} {body : List Stmt} {scope : Scope} {dV kV doc pm cdv ct oc : Value} {an od : Option Addr}
    {osl : Array (Option Value)} {N ps : List Str} {sp : Sp} (lk : K.lookup f = some ⟨oc, od, .func (PySem.W.fnOf name qual params body scope dV kV doc pm an cdv ct), osl⟩) (hcd : PySem.W.codeIn K cdv qual = true) (S : FnScope N ps scope)
    (len : ∀ vs H Q E, sp vs H Q E → vs.length = ps.length)
    (hbody : ∀ (A : Around) (outer : List Env) (s : Shared) (H : Hp) (vs : List V) (Q : VK) (E : XK), Room k (A.deeper (envOfC qual scope s.heap.objs.size f cdv)) → sp vs H Q E →
      ∃ t, PSs (cxOf CX P w K mg base N qual scope f cdv A outer s H E) body t ∧ t { nx := fun _ H' => Q .non H', rt := Q } (start N vs) H) :
    FnOk P w K mg base CX (k + 1) f (PySem.W.fnOf name qual params body scope dV kV doc pm an cdv ct) ps sp := by
  refine ⟨len, fun A outer s H args us vs Q E hr e0 hb r hsp => ?_⟩
  have hl := len _ _ _ _ hsp
  have KX : K.In s.heap := e0.mod.kin.keeps fun b o e => (e0.bs b o e).1
  have lim : s.heap.NoLimit := e0.mod.nolimit.keeps fun b o e => (e0.bs b o e).1
  have hkind : ∀ y ∈ ps.zip us, scope.names.lookup y.1 = some .local ∨ (scope.names.lookup y.1 = some .cell ∧ ((cellsFrom (s.heap.objs.size + 1) scope.names []).lookup y.1).isSome = true) := fun ⟨n, v⟩ hy => by
    rcases S.par n (List.of_mem_zip hy).1 with q | q
    · exact .inl q
    · exact .inr ⟨q, PySem.W.cellsFrom_some _ _ _ (.inl q)⟩
  refine codeAny_call_function hr.depth (KX _ _ lk) rfl S.co S.gen rfl (PySem.W.codeRec_of KX hcd) (hb _ _ _ _ ?_)
  refine wpAny_newFunctionEnv_cells S.kind hkind fun env he s1 x => ?_
  subst he
  refine ⟨lim.keeps x.toInCall.keep, codeAny_func ?_⟩
  obtain ⟨t, ht, hq⟩ := hbody A outer s H vs Q E (hr.deeper _) hsp
  have I : Inv (cxOf CX P w K mg base N qual scope f cdv A outer s H E) [] (start N vs) H s1 := inv_start S hr.hd e0 hl r x
  refine wpAny_mono (ht [] s1 (start N vs) H _ I hq) (fun fl s' hs => ?_) fun e s' hs => hs
  have fin : ∀ {σ' : St} {H' : Hp} {v : V} {u : Value}, Inv (cxOf CX P w K mg base N qual scope f cdv A outer s H E) [] σ' H' s' → RelV v u → Q v H' → CE outer P w H s Q u s' :=
    fun {σ' H' v u} J rv q => ⟨v, H', J.os, J.bare, J.base, J.hok, rv, q⟩
  cases fl with
  | ret u =>
    obtain ⟨v, σ', H', J, rv, q⟩ := hs
    exact fin J rv q
  | next =>
    obtain ⟨σ', H', J, q⟩ := hs
    exact fin (v := V.non) (u := Value.none) J rfl q
  | brk =>
    obtain ⟨_, _, _, q⟩ := hs
    exact False.elim q
  | cont =>
    obtain ⟨_, _, _, q⟩ := hs
    exact False.elim q
end L2

namespace L2
open PySem PySem.Spec PyProof.Rows
section
variable {X : Cx} {x : Str} {p pos : Pos} {e : Expr} {es : List Expr} {t : TA} {id T : String} {r : List V → Hp → VK → Prop}

noncomputable def tCB (r : List V → Hp → VK → Prop) (t : TA) : TE := fun σ H Q => t σ H fun vs H1 => r vs H1 Q
theorem pe_callB (hc : CallR X (.builtin id) r) (hg : Gl X x) (hm : X.mg x = none) (hv : bootBuiltins x = some (.builtin id)) (ha : PA X (e :: es) t) (hn : x ≠ "__name__" := by decide) (hdb : (x == ("__debug__" : Str)) = false := by decide)
    (he : starEach (e :: es) X.env = (false, eval e X.env) :: starEach es X.env := by rfl) (hpl : (backTo pos (starEach es X.env)).any (·.1) = false := by rfl) : PE X (.Call (.Name x p) (e :: es) [] pos) (tCB r t) := by
  intro pins s σ H Q I h
  refine wpAny_Call_Name_kw (ld_blt I hg hm hv ?_ hn hdb)
  exact PyProof.Rows.callWith_builtin1 (thn (ha pos pins s σ H _ I h) fun us s1 ⟨vs, H1, I1, r1, q1⟩ => hc pins s1 σ H1 vs us Q I1 r1 q1) he hpl
theorem pe_callTy (hc : CallR X (.type T) r) (hg : Gl X x) (hm : X.mg x = none) (hv : bootBuiltins x = some (.type T)) (ha : PA X (e :: es) t) (hn : x ≠ "__name__" := by decide) (hdb : (x == ("__debug__" : Str)) = false := by decide)
    (he : starEach (e :: es) X.env = (false, eval e X.env) :: starEach es X.env := by rfl) (hpl : (backTo pos (starEach es X.env)).any (·.1) = false := by rfl) : PE X (.Call (.Name x p) (e :: es) [] pos) (tCB r t) := by
  intro pins s σ H Q I h
  refine wpAny_Call_Name_kw (ld_blt I hg hm hv ?_ hn hdb)
  exact PyProof.Rows.callWith_type1 (thn (ha pos pins s σ H _ I h) fun us s1 ⟨vs, H1, I1, r1, q1⟩ => hc pins s1 σ H1 vs us Q I1 r1 q1) he hpl
end
end L2

namespace HT
open PySem PyProof.Rows



section
open PySem.SeqAt
open PySem.AutoSeq1 (wpAny_loadPart')
open PySem.MeetsSeq PySem.MeetsSeq2 PySem.MeetsSeq3

end

section
variable {prog : Program} {w : World} {A : Around} {E : Value → Shared → Prop} {s : Shared}


theorem cat_tup {t b : Addr} {vs ws : List Value} {Q : Value → Shared → Prop} (ht : IsTup s.heap t vs.toArray) (hb : IsTup s.heap b ws.toArray) (hv : vs ≠ [])
    (h1 : ws = [] → Q (.ref t) s) (h2 : ws ≠ [] → Q (.ref s.heap.objs.size) { s with heap := s.heap.push { cls := .type "tuple", data := .seq (vs ++ ws).toArray } })
    (hsz : vs.length + ws.length ≤ sizeLine) : wpAny (model prog w) A (binaryOp .Add (.ref t) (.ref b)) Q E s := by
  obtain ⟨⟨cls, dd, data, sl⟩, ho, hc, n, hd⟩ := id ht
  obtain ⟨⟨cls2, dd2, data2, sl2⟩, ho2, hc2, n2, hd2⟩ := id hb
  simp only at hc hd hc2 hd2
  subst hc hd hc2 hd2
  have e : vs.toArray ++ ws.toArray = (vs ++ ws).toArray := by simp
  by_cases hw : ws = []
  · exact concat_meets ⟨_, ho, rfl⟩ ⟨_, ho2, rfl⟩ noFill_tuple_add seq_tuple_add PySem.F.slot_tuple_add PySem.F.entry_tuple_add (PySem.F.args_tuple_add_2 _ _)
      (tuple_addW1 t b vs.toArray ws.toArray n n2 dd dd2 sl sl2 (by simpa using hv) (by simp [hw])) ⟨ho, ho2, h1 hw⟩
  · refine concat_meets ⟨_, ho, rfl⟩ ⟨_, ho2, rfl⟩ noFill_tuple_add seq_tuple_add PySem.F.slot_tuple_add PySem.F.entry_tuple_add (PySem.F.args_tuple_add_2 _ _)
      (tuple_addW2 t b vs.toArray ws.toArray n n2 dd dd2 sl sl2 (by simpa using hv) (by simpa using hw) (by rw [List.size_toArray, List.size_toArray]; exact hsz)) ⟨ho, ho2, ?_⟩
    rw [e]
    exact h2 hw

/-! ### t[a:b], not the whole -/
noncomputable def sIx (n d : Nat) : Option Int → Nat
  | none => d
  | some v => if v < 0 then (v + (n : Int)).toNat else min v.toNat n
theorem sIx_nat (n d k : Nat) : sIx n d (some (k : Int)) = min k n := by
  show (if (k : Int) < 0 then ((k : Int) + (n : Int)).toNat else min (k : Int).toNat n) = min k n
  rw [if_neg (by omega), Int.toNat_natCast]
theorem sIx_le (n d : Nat) (hd : d ≤ n) (o : Option Int) : sIx n d o ≤ n := by
  cases o with
  | none => exact hd
  | some v =>
    show (if v < 0 then (v + (n : Int)).toNat else min v.toNat n) ≤ n
    by_cases hv : v < 0
    · rw [if_pos hv]; omega
    · rw [if_neg hv]; exact Nat.min_le_right _ _
theorem clip_eq (v : Int) (n d : Nat) : (if v < 0 then max (v + (n : Int)) 0 else min v (n : Int)) = ((sIx n d (some v) : Nat) : Int) := by
  show (if v < 0 then max (v + (n : Int)) 0 else min v (n : Int)) = (((if v < 0 then (v + (n : Int)).toNat else min v.toNat n) : Nat) : Int)
  by_cases hv : v < 0
  · simp only [if_pos hv]; omega
  · simp only [if_neg hv]; omega
theorem adjust_gen (lo hi : Option Int) (n : Nat) : Builtin.Slice.sliceAdjust lo hi 1 (n : Int) = (((sIx n 0 lo : Nat) : Int), ((sIx n n hi : Nat) : Int)) := by
  have h1 : ¬ ((1 : Int) < 0) := by omega
  unfold Builtin.Slice.sliceAdjust
  simp only [h1, if_false]
  refine Prod.ext ?_ ?_
  · cases lo with
    | none => rfl
    | some v => exact clip_eq v n 0
  · cases hi with
    | none => rfl
    | some v => exact clip_eq v n n
theorem places_gen (i j : Nat) : Builtin.Slice.slicePlaces (i : Int) (j : Int) 1 = j - i := by
  unfold Builtin.Slice.slicePlaces
  have h1 : (1 : Int) > 0 := by omega
  simp only [h1, if_true, Int.ediv_one]
  split <;> omega
theorem slicePart_ {v : Value} {o : Option Int} {Q : Option Int → Shared → Prop} (p : IsPart v o) (h : Q o s) : wpAny (model prog w) A (Builtin.Slice.slicePartIndex v) Q E s := by
  cases p with
  | none => exact slicePart_none h
  | int i t => exact slicePart_int h
theorem sliceApplied_gen {sl : Addr} {vl vu : Value} {lo hi : Option Int} {n : Nat} {Q : Int × Int × Nat → Shared → Prop} (hs : s.heap.IsSliceOf sl vl vu .none) (pl : IsPart vl lo) (pu : IsPart vu hi)
    (h : Q (((sIx n 0 lo : Nat) : Int), 1, sIx n n hi - sIx n 0 lo) s) : wpAny (model prog w) A (Builtin.Slice.sliceApplied (.ref sl) (pure (n : Int))) Q E s := by
  obtain ⟨os, hos, hcs, hds⟩ := id hs
  unfold Builtin.Slice.sliceApplied Builtin.Slice.sliceFields
  refine wpAny_bind (wpAny_bind (wpAny_field hos hds (x := vl) rfl (wpAny_bind (wpAny_field hos hds (x := vu) rfl (wpAny_bind (wpAny_field hos hds (x := .none) rfl (wpAny_pure ?_)))))))
  refine wpAny_bind (slicePart_none ?_)
  show wpAny _ _ (if ((1 : Int) == 0) = true then _ else _) _ _ s
  rw [if_neg (by decide)]
  refine wpAny_bind (slicePart_ pl (wpAny_bind (slicePart_ pu (wpAny_bind (wpAny_pure ?_)))))
  show wpAny _ _ (match Builtin.Slice.sliceAdjust lo hi 1 (n : Int) with | (lo, hi) => pure (lo, (1 : Int), Builtin.Slice.slicePlaces lo hi 1)) _ _ s
  rw [adjust_gen lo hi n]
  show wpAny _ _ (pure (((sIx n 0 lo : Nat) : Int), (1 : Int), Builtin.Slice.slicePlaces ((sIx n 0 lo : Nat) : Int) ((sIx n n hi : Nat) : Int) 1)) _ _ s
  rw [places_gen]
  exact wpAny_pure h
theorem pick_gen (xs : Array Value) (i k : Nat) : ((List.range k).filterMap fun (m : Nat) => xs[((i : Int) + (m : Int) * 1).toNat]?).toArray = ((xs.toList.drop i).take k).toArray := by
  have e : (fun (m : Nat) => xs[((i : Int) + (m : Int) * 1).toNat]?) = fun m => xs[i + m]? := by
    funext m
    have : ((i : Int) + (m : Int) * 1).toNat = i + m := by omega
    rw [this]
  rw [e]
  have := pick_run xs i k
  rw [List.filterMap_map] at this
  have e2 : ((fun x => xs[x]?) ∘ fun x => i + x) = fun m => xs[i + m]? := rfl
  rw [e2] at this
  rw [this]

theorem getItem_tuple_cut {t sl : Addr} {items : Array Value} {vl vu : Value} {lo hi : Option Int} {Q : Value → Shared → Prop} (ht : IsTup s.heap t items) (hs : s.heap.IsSliceOf sl vl vu .none) (pl : IsPart vl lo) (pu : IsPart vu hi)
    (hw : ¬ (sIx items.size 0 lo = 0 ∧ sIx items.size items.size hi = items.size))
    (h : Q (.ref s.heap.objs.size) { s with heap := s.heap.push { cls := .type "tuple", data := .seq ((items.toList.drop (sIx items.size 0 lo)).take (sIx items.size items.size hi - sIx items.size 0 lo)).toArray } })
    (hsz : items.size ≤ sizeLine) : wpAny (model prog w) A (getItem (.ref t) (.ref sl)) Q E s := by
  have htake : sizeOk (.seq ((items.toList.drop (sIx items.size 0 lo)).take (sIx items.size items.size hi - sIx items.size 0 lo)).toArray) := by
    show ((items.toList.drop (sIx items.size 0 lo)).take (sIx items.size items.size hi - sIx items.size 0 lo)).toArray.size ≤ sizeLine
    rw [List.size_toArray, List.length_take, List.length_drop, Array.length_toList]
    omega
  have hj : sIx items.size items.size hi ≤ items.size := sIx_le _ _ (Nat.le_refl _) hi
  obtain ⟨os, hos, hcs, hds⟩ := id hs
  have hTs : s.TypeIs (.ref sl) "slice" := ⟨os, hos, hcs⟩
  unfold getItem
  try with_reducible refine wpAny_holding ?_
  first | refine wpAny_bind (wpAny_pure ?_) | skip
  refine wpAny_bind (wpAny_sequenceKey ht.typeIs (by decide) ?_)
  refine wpAny_bind (wpAny_callSpecial?_slot (name := Str.ofString "__getitem__") ht.typeIs PyProof.Rows.slot_tuple_getitem
    (wpAny_call_entry PyProof.Rows.slot_tuple_getitem ht.typeIs entry_tuple_getitem ?_ (args_tuple_getitem _ _)))
  show wpAny _ _ (Builtin.Tuple.tupleItemsOf (.ref t) >>= _) _ _ s
  refine wpAny_bind (tupleItemsOf_ ht ?_)
  refine wpAny_bind (wpAny_typeOf hTs ?_)
  rw [if_pos (by decide)]
  refine wpAny_bind (sliceApplied_gen hs pl pu ?_)
  have hno : ¬ ((((sIx items.size 0 lo : Nat) : Int) == 0 && (1 : Int) == 1 && (sIx items.size items.size hi - sIx items.size 0 lo) == items.size) = true) := by
    intro q
    rw [Bool.and_eq_true, Bool.and_eq_true] at q
    have q1 : ((sIx items.size 0 lo : Nat) : Int) = 0 := eq_of_beq q.1.1
    have q2 : sIx items.size items.size hi - sIx items.size 0 lo = items.size := eq_of_beq q.2
    exact hw ⟨by omega, by omega⟩
  show wpAny _ _ (if (((sIx items.size 0 lo : Nat) : Int) == 0 && (1 : Int) == 1 && (sIx items.size items.size hi - sIx items.size 0 lo) == items.size) = true then _ else _) _ _ s
  rw [if_neg hno, pick_gen]
  first
    | exact wpAny_bind (m := Builtin.Tuple.tupleExact _) (wpAny_newObj_type (wpAny_pure ⟨_, rfl, wpAny_pure h⟩) htake)
    | exact wpAny_bind (m := Builtin.Tuple.tupleExact _) (wpAny_newObj_type (wpAny_bind (wpAny_pure (wpAny_pure ⟨_, rfl, wpAny_pure h⟩))) htake)
    | exact wpAny_bind (wpAny_bind (m := Builtin.Tuple.tupleExact _) (wpAny_newObj_type (wpAny_pure (wpAny_pure ⟨_, rfl, wpAny_pure h⟩)) htake))
    | exact wpAny_bind (wpAny_bind (m := Builtin.Tuple.tupleExact _) (wpAny_newObj_type (wpAny_pure ⟨_, rfl, wpAny_pure h⟩) htake))
end
end HT

namespace L2
open PySem PySem.Spec PyProof.Rows

/-! ### the parts of a slice -/
noncomputable abbrev TO := St → Hp → (Option Int → Hp → Prop) → Prop
noncomputable def PO (X : Cx) (e : Option Expr) (t : TO) : Prop :=
  ∀ (pins : List (Addr × Obj)) (s : Shared) (σ : St) (H : Hp) (Q : Option Int → Hp → Prop), Inv X pins σ H s → t σ H Q →
    wpAny (model X.prog X.w) X.A (evalPart e X.env) (fun u s' => ∃ o H', Inv X pins σ H' s' ∧ IsPart u o ∧ Q o H') X.xe s
noncomputable def tNoPart : TO := fun _ H Q => Q none H
noncomputable def tPart (t : TE) : TO := fun σ H Q => t σ H fun x H1 => ∃ i, x = .int i ∧ Q (some i) H1


section
variable {X : Cx} {e : Expr} {te : TE} {lo hi : Option Expr} {tl th : TO} {pos p2 : Pos}

theorem po_none : PO X none tNoPart := by
  intro pins s σ H Q I h
  rw [evalPart_none]
  exact wpAny_pure ⟨none, H, I, .none, h⟩
theorem po_some (h : PE X e te) : PO X (some e) (tPart te) := by
  intro pins s σ H Q I hw
  rw [evalPart_some]
  refine thn (h pins s σ H _ I hw) fun u s1 ⟨x, H1, I1, r1, q1⟩ => ?_
  obtain ⟨i, rfl, q⟩ := q1
  obtain ⟨t, rfl⟩ := r1
  exact ⟨some i, H1, I1, .int i t, q⟩

noncomputable def SlR (X : Cx) (r : V → Option Int → Option Int → Hp → VK → Prop) : Prop :=
  ∀ (pins : List (Addr × Obj)) (s : Shared) (σ : St) (H : Hp) (x : V) (v vl vu : Value) (lo hi : Option Int) (sl : Addr) (Q : VK), Inv X pins σ H s → RelV x v → s.heap.IsSliceOf sl vl vu .none → IsPart vl lo → IsPart vu hi → r x lo hi H Q →
    ∃ T id, typeLookup (.type T) "__getitem__" = pure (some (.builtin id)) ∧ s.TypeIs v T ∧ wpAny (model X.prog X.w) X.A (getItem v (.ref sl)) (EP X pins σ Q) X.xe s
noncomputable def tSl (r : V → Option Int → Option Int → Hp → VK → Prop) (te : TE) (tl th : TO) : TE := fun σ H Q => te σ H fun x H1 => tl σ H1 fun l H2 => th σ H2 fun u H3 => r x l u H3 Q
theorem pe_slice {r : V → Option Int → Option Int → Hp → VK → Prop} (hr : SlR X r) (he : PE X e te) (hl : PO X lo tl) (hu : PO X hi th) : PE X (.Subscript e (.Slice lo hi none p2) pos) (tSl r te tl th) := by
  intro pins s σ H Q I h
  refine Subscript_ (thn (he pins s σ H _ I h) fun v s1 ⟨x, H1, I1, r1, q1⟩ => ?_)
  refine wpAny_Slice (thn (hl pins s1 σ H1 _ I1 q1) fun vl s2 ⟨l, H2, I2, pl, q2⟩ => thn (hu pins s2 σ H2 _ I2 q2) fun vu s3 ⟨u, H3, I3, pu, q3⟩ => ?_)
  rw [evalPart_none]
  refine wpAny_pure ?_
  have I4 : Inv X pins σ H3 { s3 with heap := s3.heap.push { cls := .type "slice", data := .fields #[vl, vu, .none] } } := I3.kept (t' := s3.toks) fun b ob q => Heap.get?_push_of_some _ q
  obtain ⟨T, id, hT, ht, hg⟩ := hr pins { s3 with heap := s3.heap.push { cls := .type "slice", data := .fields #[vl, vu, .none] } } σ H3 x v vl vu l u s3.heap.objs.size Q I4 r1 (Heap.IsSliceOf.new ..) pl pu q3
  show wpAny (model X.prog X.w) X.A (subscriptTail e (.Slice lo hi none p2) v (.ref s3.heap.objs.size)) (EP X pins σ Q) X.xe { s3 with heap := s3.heap.push { cls := .type "slice", data := .fields #[vl, vu, .none] } }
  exact tail_any (ops := [.ref s3.heap.objs.size, v]) ht hT hg (by with_unfolding_all rfl)

noncomputable def cutV (xs : List V) (lo hi : Option Int) : List V := (xs.drop (HT.sIx xs.length 0 lo)).take (HT.sIx xs.length xs.length hi - HT.sIx xs.length 0 lo)
theorem cutV_length (xs : List V) (lo hi : Option Int) : (cutV xs lo hi).length ≤ xs.length := by
  unfold cutV
  rw [List.length_take, List.length_drop]
  omega
noncomputable def rSlT (K : PySem.W.Frag) : V → Option Int → Option Int → Hp → VK → Prop := fun x lo hi H Q => ∃ a xs, x = .ref a ∧ SqT K H a xs ∧
  ¬ (HT.sIx xs.length 0 lo = 0 ∧ HT.sIx xs.length xs.length hi = xs.length) ∧ ∀ p, H p = none → Q (.ref p) (upd H p (.tup (cutV xs lo hi)))
theorem sl_tup : SlR X (rSlT X.K) := by
  intro pins s σ H x v vl vu lo hi sl Q I rx hs pl pu h
  obtain ⟨a, xs, rfl, hx, hw, q⟩ := h
  cases rx
  obtain ⟨its, r, ht, hz⟩ := I.tuple hx
  have hlen : its.toArray.size = xs.length := by rw [List.size_toArray]; exact r.length.symm
  refine ⟨"tuple", _, PyProof.Rows.slot_tuple_getitem.lookup, ht.typeIs, ?_⟩
  refine HT.getItem_tuple_cut ht hs pl pu (by rw [hlen]; exact hw) ?_ (by rw [hlen]; exact hz)
  rw [hlen]
  refine ⟨.ref s.heap.objs.size, _, I.laid (t' := s.toks) (o := .tup (cutV xs lo hi)) (fun b ob q => Heap.get?_push_of_some _ q) (Nat.le_refl _) ?_, rfl, q _ (I.hok.fresh (Nat.le_refl _))⟩
  exact ⟨Nat.le_trans (cutV_length xs lo hi) hz, _, (r.drop (HT.sIx xs.length 0 lo)).take (HT.sIx xs.length xs.length hi - HT.sIx xs.length 0 lo), IsTup.new _ _⟩

/-! ### t < u, t + u -/
noncomputable def rCatT (K : PySem.W.Frag) : R2 := fun x y H Q => ∃ a b xs ys, x = .ref a ∧ y = .ref b ∧ SqT K H a xs ∧ SqT K H b ys ∧ xs ≠ [] ∧ xs.length + ys.length ≤ sizeLine ∧
  (ys = [] → Q (.ref a) H) ∧ (ys ≠ [] → ∀ p, H p = none → Q (.ref p) (upd H p (.tup (xs ++ ys))))
theorem Vals.nil_iff {xs : List V} {us : List Value} (r : Vals xs us) : us = [] ↔ xs = [] := by
  cases r with
  | nil => simp
  | cons _ _ => simp
theorem op_catT : OpR X (binaryOp .Add) (rCatT X.K) := by
  intro pins s σ H x y v u Q I rx ry h
  obtain ⟨a, b, xs, ys, rfl, rfl, ha, hb, hx, hz, q1, q2⟩ := h
  cases rx
  cases ry
  obtain ⟨its, r1, p1, _⟩ := I.tuple ha
  obtain ⟨its2, r2, p2, _⟩ := I.tuple hb
  refine HT.cat_tup p1 p2 (fun z => hx (r1.nil_iff.mp z)) (fun z => ⟨.ref a, H, I, rfl, q1 (r2.nil_iff.mp z)⟩) (fun z => ?_) (by rw [← r1.length, ← r2.length]; exact hz)
  refine ⟨.ref s.heap.objs.size, _, I.laid (t' := s.toks) (o := .tup (xs ++ ys)) (fun b ob q => Heap.get?_push_of_some _ q) (Nat.le_refl _) ?_, rfl, q2 (fun w => z (r2.nil_iff.mpr w)) _ (I.hok.fresh (Nat.le_refl _))⟩
  exact ⟨by rw [List.length_append]; exact hz, _, r1.append r2, IsTup.new _ _⟩
end
end L2

namespace L2
open PySem PySem.Spec PyProof.Rows

/-! ### places -/
noncomputable def ixN (n : Nat) (i : Int) : Option Nat := if 0 ≤ i then (if i < n then some i.toNat else none) else if -(n : Int) ≤ i then some (i + n).toNat else none
noncomputable def atI {α : Type} (xs : List α) (i : Int) : Option α := (ixN xs.length i).bind fun j => xs[j]?
theorem ixN_seq {n : Nat} {i : Int} {j : Nat} (h : ixN n i = some j) : seqIndex? i n = some j ∧ j < n ∧ -(n : Int) ≤ i ∧ i < n := by
  unfold ixN at h
  by_cases h0 : 0 ≤ i
  · rw [if_pos h0] at h
    by_cases h1 : i < n
    · rw [if_pos h1] at h
      have e : i.toNat = j := Option.some.inj h
      exact ⟨by rw [seqIndex_of h0 h1, e], by omega, by omega, h1⟩
    · rw [if_neg h1] at h; cases h
  · rw [if_neg h0] at h
    by_cases h1 : -(n : Int) ≤ i
    · rw [if_pos h1] at h
      have e : (i + n).toNat = j := Option.some.inj h
      exact ⟨by rw [seqIndex_neg (by omega) h1, e], by omega, h1, by omega⟩
    · rw [if_neg h1] at h; cases h
theorem atI_get {α : Type} {xs : List α} {i : Int} {v : α} (h : atI xs i = some v) : ∃ j, seqIndex? i xs.length = some j ∧ xs[j]? = some v ∧ j < xs.length ∧ -(xs.length : Int) ≤ i ∧ i < xs.length := by
  unfold atI at h
  cases e : ixN xs.length i with
  | none => rw [e] at h; cases h
  | some j =>
    rw [e] at h
    obtain ⟨h1, h2, h3, h4⟩ := ixN_seq e
    exact ⟨j, h1, h, h2, h3, h4⟩
theorem atI_nat {α : Type} {xs : List α} {j : Nat} {v : α} (h : xs[j]? = some v) : atI xs (j : Int) = some v := by
  have hj : j < xs.length := (List.getElem?_eq_some_iff.mp h).1
  have e : ixN xs.length (j : Int) = some j := by
    unfold ixN
    rw [if_pos (by omega), if_pos (by omega)]; simp
  unfold atI; rw [e]; exact h
theorem atI_last {α : Type} (xs : List α) (v : α) : atI (xs ++ [v]) (-1) = some v := by
  have hl : (xs ++ [v]).length = xs.length + 1 := by simp
  have e : ixN (xs ++ [v]).length (-1) = some xs.length := by
    unfold ixN
    rw [hl, if_neg (by decide), if_pos (by omega)]
    congr 1
    omega
  unfold atI
  rw [e]
  show (xs ++ [v])[xs.length]? = some v
  simp

/-! ### what may be subscripted -/
noncomputable def PlainIx (b : Expr) : Prop := ∀ o i, subscripted b false o i = operate [o, i] (getItem o i)
noncomputable def IxR (X : Cx) (r : R2) : Prop :=
  ∀ (value slice : Expr) (pins : List (Addr × Obj)) (s : Shared) (σ : St) (H : Hp) (x y : V) (v u : Value) (Q : VK), Inv X pins σ H s → RelV x v → RelV y u → r x y H Q →
    subscripted slice false v u = operate [v, u] (getItem v u) → wpAny (model X.prog X.w) X.A (subscriptTail value slice v u) (EP X pins σ Q) X.xe s
noncomputable def MtR (X : Cx) (id : String) (r : V → List V → Hp → VK → Prop) : Prop :=
  ∀ (pins : List (Addr × Obj)) (s : Shared) (σ : St) (H : Hp) (x : V) (xs : List V) (v : Value) (us : List Value) (Q : VK), Inv X pins σ H s → RelV x v → Vals xs us → r x xs H Q →
    wpAny (model X.prog X.w) X.A (call (.builtin id) (v :: us)) (EP X pins σ Q) X.xe s
section
variable {X : Cx} {a b : Expr} {ta tb : TE} {pos : Pos}
theorem pe_ix {r : R2} (hr : IxR X r) (ha : PE X a ta) (hb : PE X b tb) (hs : PlainIx b) : PE X (.Subscript a b pos) (tOp r ta tb) := by
  intro pins s σ H Q I h
  exact Subscript_ (binT ha hb I h fun v u s2 x y H2 I2 rx ry q => hr a b pins s2 σ H2 x y v u Q I2 rx ry q (hs _ _))

noncomputable def rIxL (K : PySem.W.Frag) : R2 := fun x y H Q => ∃ p xs i v, x = .ref p ∧ y = .int i ∧ SqL K H p xs ∧ atI xs i = some v ∧ Q v H
noncomputable def rIxT (K : PySem.W.Frag) : R2 := fun x y H Q => ∃ p xs i v, x = .ref p ∧ y = .int i ∧ SqT K H p xs ∧ atI xs i = some v ∧ Q v H
noncomputable def rIxS : R2 := fun x y H Q => ∃ z i c, x = .str z ∧ y = .int i ∧ z.length ≤ sizeLine ∧ atI z.cps.toList i = some c ∧ Q (.str ⟨#[c]⟩) H
theorem ix_list : IxR X (rIxL X.K) := by
  intro value slice pins s σ H x y v u Q I rx ry h hs
  obtain ⟨p, xs, i, z, rfl, rfl, hq, he, q⟩ := h
  cases rx
  obtain ⟨t, rfl⟩ := ry
  obtain ⟨its, r, pl, hz⟩ := I.list hq
  obtain ⟨j, h1, h2, h3, h4, h5⟩ := atI_get he
  obtain ⟨w, ew, rw'⟩ := r.get h2
  have hl := r.length
  have hn := line63
  have fin : EP X pins σ Q w s := ⟨z, H, I, rw', q⟩
  by_cases h0 : 0 ≤ i
  · have hj : i.toNat = j := by
      rw [seqIndex_of h0 h5] at h1
      exact Option.some.inj h1
    exact item_listR pl.isList h0 (by omega) (by rw [hj]; simpa using ew) fin hs
  · have hj : (i + (its.toArray.size : Int)).toNat = j := by
      rw [seqIndex_neg (by omega) h4] at h1
      rw [List.size_toArray, ← hl]
      exact Option.some.inj h1
    exact subscriptTail_builtinR (x := w) pl.isList.typeIs slot_list_getitem.lookup
      (wpAny_getItem_list_neg (Q := fun r s' => r = w ∧ EP X pins σ Q r s') pl.isList (by omega) (by rw [List.size_toArray] <;> omega) (by omega) (by rw [hj]; simpa using ew) ⟨rfl, fin⟩) hs
theorem ix_tup : IxR X (rIxT X.K) := by
  intro value slice pins s σ H x y v u Q I rx ry h hs
  obtain ⟨p, xs, i, z, rfl, rfl, hq, he, q⟩ := h
  cases rx
  obtain ⟨t, rfl⟩ := ry
  obtain ⟨its, r, pl, hz⟩ := I.tuple hq
  obtain ⟨j, h1, h2, h3, h4, h5⟩ := atI_get he
  obtain ⟨w, ew, rw'⟩ := r.get h2
  have hl := r.length
  have hn := line63
  have fin : EP X pins σ Q w s := ⟨z, H, I, rw', q⟩
  exact subscriptTail_builtinR (x := w) pl.typeIs slot_tuple_getitem.lookup
    (getItem_tuple (j := j) (Q := fun r s' => r = w ∧ EP X pins σ Q r s') pl (by omega) (by omega) (by rw [List.size_toArray, ← hl]; exact h1) (by simpa using ew) ⟨rfl, fin⟩) hs
theorem ix_str : IxR X rIxS := by
  intro value slice pins s σ H x y v u Q I rx ry h hs
  obtain ⟨z, i, c, rfl, rfl, hz, he, q⟩ := h
  obtain ⟨t, rfl⟩ := rx
  obtain ⟨t', rfl⟩ := ry
  obtain ⟨j, h1, h2, h3, h4, h5⟩ := atI_get he
  have hl : z.cps.toList.length = z.length := by simp [Str.length]
  rw [hl] at h1 h4 h5
  have hn := line63
  exact tail_any (typeIs_str s z t) slot_str_getitem.lookup (getItem_str (c := c) (by
    have e1 : decide (i < -(2 ^ 63 : Int)) = false := decide_eq_false (by omega)
    have e2 : decide (i ≥ 2 ^ 63) = false := decide_eq_false (by omega)
    rw [e1, e2, Bool.or_false]) (by rw [h1]; simpa using h2) ⟨.str ⟨#[c]⟩, H, I.tok _, ⟨_, rfl⟩, q⟩) hs

/-! ### xs[i] = v, any sign -/
theorem mapSeq_set (its : List Value) (n j : Nat) (u : Value) : Obj.mapSeq (·.setIfInBounds j u) { cls := .type "list", data := .seq its.toArray n } = { cls := .type "list", data := .seq (its.set j u).toArray n } := by
  simp [Obj.mapSeq]
theorem Inv.lst {pins : List (Addr × Obj)} {σ : St} {H : Hp} {s : Shared} {p : Addr} {xs : List V} (I : Inv X pins σ H s) (h : H p = some (.lst xs)) :
    ∃ (its : List Value) (n : Nat), Vals xs its ∧ s.heap.get? p = some { cls := .type "list", data := .seq its.toArray n } ∧ xs.length ≤ sizeLine := by
  obtain ⟨z, its, n, r, e⟩ := I.hok p _ h
  exact ⟨its, n, r, e, z⟩
theorem Inv.lstUpd {pins : List (Addr × Obj)} {σ : St} {H : Hp} {s : Shared} {p : Addr} {xs ys : List V} {its its' : List Value} {n n' : Nat} {f : Obj → Obj} (I : Inv X pins σ H s) (h : H p = some (.lst xs))
    (ho : s.heap.get? p = some { cls := .type "list", data := .seq its.toArray n }) (hf : f { cls := .type "list", data := .seq its.toArray n } = { cls := .type "list", data := .seq its'.toArray n' }) (r : Vals ys its') (hz : ys.length ≤ sizeLine) (t : Nat) :
    Inv X pins σ (upd H p (.lst ys)) { s with heap := s.heap.update p f, toks := t } := by
  have e : (s.heap.update p f).get? p = some { cls := .type "list", data := .seq its'.toArray n' } := by
    rw [Heap.get?_update_self f ho (by rw [hf] <;> rfl), hf]
  refine I.write (x := p) (e := p) (by rw [h]; trivial) (.inl rfl) (fun b u hb q => (Heap.get?_update_other _ _ (Ne.symm hb)).trans q) ⟨_, e⟩ ?_
  exact ⟨hz, its', n', r, e⟩
noncomputable def rSetL : V → V → V → Hp → (Hp → Prop) → Prop := fun o i v H Q => ∃ p xs k j, o = .ref p ∧ i = .int k ∧ H p = some (.lst xs) ∧ ixN xs.length k = some j ∧ Q (upd H p (.lst (xs.set j v)))
theorem set_list : PSet X rSetL := by
  intro pins s σ H o i v ov iv u Q I ro ri rv h
  obtain ⟨p, xs, k, j, rfl, rfl, hp, hj, q⟩ := h
  cases ro
  obtain ⟨t, rfl⟩ := ri
  obtain ⟨its, n, r, ho, hz⟩ := I.lst hp
  obtain ⟨h1, h2, h3, h4⟩ := ixN_seq hj
  have hl := r.length
  have hn := line63
  have I' : Inv X pins σ (upd H p (.lst (xs.set j v))) { s with heap := s.heap.update p (Obj.mapSeq (·.setIfInBounds j u)) } :=
    I.lstUpd hp ho (mapSeq_set its n j u) (r.set rv j) (by rw [List.length_set]; exact hz) s.toks
  by_cases h0 : 0 ≤ k
  · have hk : k.toNat = j := by
      rw [seqIndex_of h0 h4] at h1
      exact Option.some.inj h1
    exact PySem.W.ki_setAt ho h0 (by omega) (by rw [List.size_toArray, ← hl]; exact h4) (by rw [hk]; exact ⟨_, I', q⟩)
  · have hk : (k + (its.toArray.size : Int)).toNat = j := by
      rw [seqIndex_neg (by omega) h3] at h1
      rw [List.size_toArray, ← hl]
      exact Option.some.inj h1
    exact PySem.W.ki_setBack ho (by omega) (by rw [List.size_toArray, ← hl]; exact h3) (by omega) (by rw [hk]; exact ⟨_, I', q⟩)

/-! ### slices -/
theorem slice_bounds (lo hi : Option Int) (n : Nat) : (sliceBounds lo hi none n).1 = ((HT.sIx n 0 lo : Nat) : Int) ∧ (sliceBounds lo hi none n).2.1 = ((HT.sIx n n hi : Nat) : Int) ∧ (sliceBounds lo hi none n).2.2 = 1 := by
  refine ⟨?_, ?_, rfl⟩
  · cases lo with
    | none => simp [sliceBounds, HT.sIx]
    | some i =>
      simp only [sliceBounds, HT.sIx, Option.getD_none, show (1 : Int) > 0 by decide, if_true]
      by_cases h : i < 0
      · simp only [h, if_true] <;> omega
      · simp only [h, if_false] <;> omega
  · cases hi with
    | none => simp [sliceBounds, HT.sIx]
    | some i =>
      simp only [sliceBounds, HT.sIx, Option.getD_none, show (1 : Int) > 0 by decide, if_true]
      by_cases h : i < 0
      · simp only [h, if_true] <;> omega
      · simp only [h, if_false] <;> omega
theorem slicePick_cut (its : List Value) (lo hi : Option Int) : slicePick its.toArray lo hi none = ((its.drop (HT.sIx its.length 0 lo)).take (HT.sIx its.length its.length hi - HT.sIx its.length 0 lo)).toArray := by
  obtain ⟨h1, h2, h3⟩ := slice_bounds lo hi its.toArray.size
  unfold slicePick
  rw [h1, h2, h3]
  simp only [sliceRange_one, pick_run, List.size_toArray] <;> rfl
noncomputable def rSlL (K : PySem.W.Frag) : V → Option Int → Option Int → Hp → VK → Prop := fun x lo hi H Q => ∃ a xs, x = .ref a ∧ SqL K H a xs ∧ ∀ p, H p = none → Q (.ref p) (upd H p (.lst (cutV xs lo hi)))
theorem sl_list : SlR X (rSlL X.K) := by
  intro pins s σ H x v vl vu lo hi sl Q I rx hs pl pu h
  obtain ⟨a, xs, rfl, hx, q⟩ := h
  cases rx
  obtain ⟨its, r, ht, hz⟩ := I.list hx
  have hlen := r.length
  refine ⟨"list", _, slot_list_getitem.lookup, ht.isList.typeIs, ?_⟩
  refine wpAny_getItem_list_slice ht.isList hs pl pu .none (by simp) ?_ (by rw [List.size_toArray] <;> omega)
  rw [slicePick_cut, ← hlen]
  refine ⟨.ref s.heap.objs.size, _, I.laid (t' := s.toks) (o := .lst (cutV xs lo hi)) (fun b ob q => Heap.get?_push_of_some _ q) (Nat.le_refl _) ?_, rfl, q _ (I.hok.fresh (Nat.le_refl _))⟩
  exact ⟨Nat.le_trans (cutV_length xs lo hi) hz, _, 0, (r.drop (HT.sIx xs.length 0 lo)).take (HT.sIx xs.length xs.length hi - HT.sIx xs.length 0 lo), Heap.get?_push_size _ rfl⟩

/-! ### in, not in: flat items -/
noncomputable def flatV : V → Bool
  | .non => true
  | .bl _ => true
  | .int _ => true
  | .str _ => true
  | _ => false
noncomputable def eqV : V → V → Bool
  | .non, .non => true
  | .bl a, .bl b => a == b
  | .bl a, .int b => (if a then 1 else 0) == b
  | .int a, .bl b => a == (if b then 1 else 0)
  | .int a, .int b => a == b
  | .str a, .str b => a == b
  | _, _ => false
theorem eqAt_V {A : Around} {s : Shared} {y x : V} {u v : Value} (ry : RelV y u) (rx : RelV x v) (fy : flatV y = true) (fx : flatV x = true) : SeqAt.EqAt A s u v (eqV y x) := by
  cases y with
  | non =>
    cases ry
    cases x with
    | non => cases rx; exact SeqAt.EqAt.same _
    | bl b => cases rx; exact SeqAt.EqAt.none_bool b
    | int b => obtain ⟨t, rfl⟩ := rx; exact SeqAt.EqAt.none_int b t
    | str b => obtain ⟨t, rfl⟩ := rx; exact SeqAt.EqAt.none_str b t
    | _ => exact absurd (show false = true from fx) Bool.false_ne_true
  | bl a =>
    cases ry
    cases x with
    | non => cases rx; exact SeqAt.EqAt.bool_none a
    | bl b => cases rx; exact SeqAt.EqAt.bool_bool a b
    | int b => obtain ⟨t, rfl⟩ := rx; exact SeqAt.EqAt.bool_int a b t
    | str b => obtain ⟨t, rfl⟩ := rx; exact SeqAt.EqAt.bool_str a b t
    | _ => exact absurd (show false = true from fx) Bool.false_ne_true
  | int a =>
    obtain ⟨t', rfl⟩ := ry
    cases x with
    | non => cases rx; exact SeqAt.EqAt.int_none a t'
    | bl b => cases rx; exact SeqAt.EqAt.int_bool a t' b
    | int b => obtain ⟨t, rfl⟩ := rx; exact SeqAt.EqAt.int_int a t' b t
    | str b => obtain ⟨t, rfl⟩ := rx; exact SeqAt.EqAt.int_str a t' b t
    | _ => exact absurd (show false = true from fx) Bool.false_ne_true
  | str a =>
    obtain ⟨t', rfl⟩ := ry
    cases x with
    | non => cases rx; exact SeqAt.EqAt.str_none a t'
    | bl b => cases rx; exact SeqAt.EqAt.str_bool a t' b
    | int b => obtain ⟨t, rfl⟩ := rx; exact SeqAt.EqAt.str_int a t' b t
    | str b => obtain ⟨t, rfl⟩ := rx; exact SeqAt.EqAt.str_str a t' b t
    | _ => exact absurd (show false = true from fx) Bool.false_ne_true
  | _ => exact absurd (show false = true from fy) Bool.false_ne_true
noncomputable def eqU (x : V) (u : Value) : Bool := match u with
  | .none => eqV .non x
  | .bool b => eqV (.bl b) x
  | .int i _ => eqV (.int i) x
  | .str z _ => eqV (.str z) x
  | _ => false
theorem eqU_of {x y : V} {u : Value} (r : RelV y u) (f : flatV y = true) : eqU x u = eqV y x := by
  cases y with
  | non => cases r; rfl
  | bl b => cases r; rfl
  | int i => obtain ⟨t, rfl⟩ := r; rfl
  | str z => obtain ⟨t, rfl⟩ := r; rfl
  | _ => exact absurd (show false = true from f) Bool.false_ne_true
theorem any_eqU {x : V} : ∀ {xs : List V} {us : List Value}, Vals xs us → xs.all flatV = true → us.any (eqU x) = xs.any fun y => eqV y x
  | _, _, .nil, _ => rfl
  | y :: xs, u :: us, .cons r t, f => by
    rw [List.all_cons, Bool.and_eq_true] at f
    rw [List.any_cons, List.any_cons, eqU_of r f.1, any_eqU t f.2]
theorem mem_eqAt {A : Around} {s : Shared} {x : V} {v : Value} (rx : RelV x v) (fx : flatV x = true) : ∀ {xs : List V} {us : List Value}, Vals xs us → xs.all flatV = true → ∀ u ∈ us, SeqAt.EqAt A s u v (eqU x u)
  | _, _, .nil, _ => fun u hu => by cases hu
  | y :: xs, u :: us, .cons r t, f => fun u' hu => by
    rw [List.all_cons, Bool.and_eq_true] at f
    rcases List.mem_cons.mp hu with rfl | hu
    · rw [eqU_of r f.1]; exact eqAt_V r rx f.1 fx
    · exact mem_eqAt rx fx t f.2 u' hu
noncomputable def inV (x : V) (xs : List V) : Bool := xs.any fun y => eqV y x
noncomputable def rIn (K : PySem.W.Frag) (neg : Bool) : R2 := fun x y H Q => ∃ p xs, y = .ref p ∧ (SqL K H p xs ∨ SqT K H p xs) ∧ flatV x = true ∧ xs.all flatV = true ∧ Q (.bl (if neg then !inV x xs else inV x xs)) H
theorem op_notIn_seq : OpR X (compareOp .NotIn) (rIn X.K true) := by
  intro pins s σ H x y v u Q I rx ry h
  obtain ⟨p, xs, rfl, hq, fx, fs, q⟩ := h
  cases ry
  rcases hq with hq | hq
  · obtain ⟨its, r, pl, hz⟩ := I.list hq
    refine SeqAt.notIn_listAt (eqU x) pl.isList (fun w hw => mem_eqAt rx fx r fs w (by simpa using hw)) ⟨.bl _, H, I, rfl, ?_⟩
    rw [show its.toArray.any (eqU x) = its.any (eqU x) by simp, any_eqU r fs]
    exact q
  · obtain ⟨its, r, pl, hz⟩ := I.tuple hq
    refine SeqAt.notIn_tupleAt (eqU x) pl (fun w hw => mem_eqAt rx fx r fs w (by simpa using hw)) ⟨.bl _, H, I, rfl, ?_⟩
    rw [show its.toArray.any (eqU x) = its.any (eqU x) by simp, any_eqU r fs]
    exact q

/-! ### len, list(x), tuple(x) of any list or tuple that is read -/
theorem call_list_of : CallR X (.type "list") (fun xs H Q => ∃ p ys, xs = [.ref p] ∧ (SqL X.K H p ys ∨ SqT X.K H p ys) ∧ ∀ l, H l = none → Q (.ref l) (upd H l (.lst ys))) := by
  intro pins s σ H xs us Q I r h
  obtain ⟨p, ys, rfl, hq, q⟩ := h
  obtain ⟨u, rfl, rx⟩ := vals1 r
  cases rx
  have fin : ∀ (its : List Value), Vals ys its → ys.length ≤ sizeLine → ∀ (h' : Heap) (c' : Nat), (∀ b o', s.heap.get? b = some o' → h'.get? b = some o') →
      h'.get? s.heap.objs.size = some { cls := .type "list", dict := none, data := .seq its.toArray c', slots := #[] } → EP X pins σ Q (.ref s.heap.objs.size) { s with heap := h' } := fun its r' hz h' c' kp e =>
    ⟨.ref s.heap.objs.size, _, I.laid (t' := s.toks) kp (Nat.le_refl _) (show ObjOk X.prog X.w _ h' _ (.lst ys) from ⟨hz, its, c', r', e⟩), rfl, q _ (I.hok.fresh (Nat.le_refl _))⟩
  rcases hq with hq | hq
  · obtain ⟨its, r', pl, hz⟩ := I.list hq
    have hlen := r'.length
    obtain ⟨o, ho, hc, n, hd⟩ := pl.isList
    exact call_list_seq p (.inl rfl) ho hc hd (fun h' c' kp e => fin its r' hz h' c' kp e) (by simp only [List.size_toArray] <;> omega)
  · obtain ⟨its, r', pl, hz⟩ := I.tuple hq
    have hlen := r'.length
    obtain ⟨o, ho, hc, n, hd⟩ := pl
    exact call_list_seq p (.inr rfl) ho hc hd (fun h' c' kp e => fin its r' hz h' c' kp e) (by simp only [List.size_toArray] <;> omega)

/-! ### the call of a builtin's method: o.m(..) -/
noncomputable def tyV (K : PySem.W.Frag) (T : String) (x : V) (H : Hp) : Prop := match x with
  | .str _ => T = "str"
  | .int _ => T = "int"
  | .ref p => (T = "list" ∧ ∃ xs, SqL K H p xs) ∨ (T = "tuple" ∧ ∃ o, K.lookup p = some o ∧ o.cls = .type "tuple" ∧ o.dict = none) ∨
      (T = "dict" ∧ ((∃ kvs, H p = some (.dK kvs)) ∨ ∃ kvs, H p = some (.dT kvs))) ∨ (T = "set" ∧ ∃ S n, H p = some (.set S n))
  | _ => False
theorem tyV_is {pins : List (Addr × Obj)} {σ : St} {H : Hp} {s : Shared} {T : String} {x : V} {v : Value} (I : Inv X pins σ H s) (r : RelV x v) (ty : tyV X.K T x H) :
    s.TypeIs v T ∧ ∀ a, v = .ref a → ∃ ob, s.heap.get? a = some ob ∧ ob.dict = none := by
  cases x with
  | str z =>
    obtain ⟨t, rfl⟩ := r
    cases (show T = "str" from ty)
    exact ⟨typeIs_str s z t, fun _ e => nomatch e⟩
  | int i =>
    obtain ⟨t, rfl⟩ := r
    cases (show T = "int" from ty)
    exact ⟨typeIs_int s i t, fun _ e => nomatch e⟩
  | ref p =>
    cases r
    rcases ty with ⟨rfl, xs, hq⟩ | ⟨rfl, o, hk, hc, hd⟩ | ⟨rfl, hk⟩ | ⟨rfl, S, n, hk⟩
    · obtain ⟨its, _, pl, _⟩ := I.list hq
      refine ⟨pl.isList.typeIs, fun a e => ?_⟩
      cases e
      obtain ⟨o, n, e, c, hd, _⟩ := pl
      exact ⟨o, e, hd⟩
    · refine ⟨⟨o, I.kIn p o hk, hc⟩, fun a e => ?_⟩
      cases e
      exact ⟨o, I.kIn _ o hk, hd⟩
    · have z : ∃ o, s.heap.get? p = some o ∧ o.ExactDict := by
        rcases hk with ⟨kvs, hk⟩ | ⟨kvs, hk⟩
        · obtain ⟨_, _, _, _, o, _, _, e, ex, _⟩ := I.hok p _ hk
          exact ⟨o, e, ex⟩
        · obtain ⟨_, _, _, _, o, _, _, e, ex, _⟩ := I.hok p _ hk
          exact ⟨o, e, ex⟩
      obtain ⟨o, e, ex⟩ := z
      refine ⟨⟨o, e, ex.1⟩, fun a e2 => ?_⟩
      cases e2
      exact ⟨o, e, ex.2.1⟩
    · obtain ⟨o, _, _, _, e, ex, _⟩ := I.hok p _ hk
      refine ⟨⟨o, e, ex.1⟩, fun a e2 => ?_⟩
      cases e2
      exact ⟨o, e, ex.2.1⟩
  | _ => exact False.elim ty
noncomputable def tBM0 (K : PySem.W.Frag) (T : String) (r : V → List V → Hp → VK → Prop) (to : TE) : TE := fun σ H Q => to σ H fun x H1 => tyV K T x H1 ∧ r x [] H1 Q
noncomputable def tBM (K : PySem.W.Frag) (T : String) (r : V → List V → Hp → VK → Prop) (to : TE) (t : TA) : TE := fun σ H Q => to σ H fun x H1 => tyV K T x H1 ∧ t σ H1 fun xs H2 => r x xs H2 Q
variable {o e : Expr} {es : List Expr} {to : TE} {t : TA} {name : Str} {apos cpos : Pos} {T id : String} {r : V → List V → Hp → VK → Prop}
theorem pe_bm (pa : PlainAttrs T) (slot : Slot T name id) (hty : typeOf (.builtin id) = pure (.type "method_descriptor")) (hm : MtR X id r) (ho : PE X o to) (ha : PA X (e :: es) t)
    (hbase : attributeBase o name X.env (eval o X.env) = eval o X.env := by rfl)
    (hfew : ((backTo cpos (starEach (e :: es) X.env)).all (fun x => !x.1) && (backToKw cpos (keywordEach [] X.env)).all (fun x => x.1.isSome)
      && decide ((e :: es).length + ([] : List Keyword).length + (if ([] : List Keyword).isEmpty then 0 else 1) < 30)) = true := by rfl)
    (hline : (apos.endLine == cpos.line) = true := by rfl) (hs : starEach (e :: es) X.env = (false, eval e X.env) :: starEach es X.env := by rfl) (hplain : (backTo cpos (starEach es X.env)).any (·.1) = false := by rfl) :
    PE X (.Call (.Attribute o name apos) (e :: es) [] cpos) (tBM X.K T r to t) := by
  intro pins s σ H Q I h
  refine wpAny_Call_method_late hbase hfew hline rfl (thn (ho pins s σ H _ I h) fun v s1 ⟨x, H1, I1, r1, ty, q1⟩ => ?_)
  obtain ⟨h1, h2⟩ := tyV_is I1 r1 ty
  refine ⟨T, id, pa, slot, hty, h1, h2, ?_⟩
  have hA := ha cpos pins s1 σ H1 _ I1 q1
  rw [hs] at hA ⊢
  refine Calls.callWith_builtin (by show (false || (backTo cpos (starEach es X.env)).any (·.1)) = false; rw [hplain] <;> rfl) (Calls.evalArgs_plain ?_)
  exact thn hA fun us s2 ⟨vs, H2, I2, r2, q2⟩ => hm pins s2 σ H2 x vs v us Q I2 r1 r2 q2
/- xs.append(e), list.index on a module's tuple .. are MtR facts of 06m -/
end
end L2

namespace L2
open PySem PySem.Spec PyProof.Rows

noncomputable def MtM (X : Cx) (id : String) (r : V → List V → Hp → VK → Prop) : Prop :=
  ∀ (pins : List (Addr × Obj)) (s : Shared) (σ : St) (H : Hp) (x : V) (xs : List V) (v : Value) (us : List Value) (Q : VK), Inv X pins σ H s → RelV x v → Vals xs us → r x xs H Q →
    wpAny (model X.prog X.w) X.A (call (.builtin id) (v :: us)) (EP X pins σ Q) X.xe s

/-! ### lists of values -/
theorem Vals.one : ∀ {x : V} {us : List Value}, Vals [x] us → ∃ u, us = [u] ∧ RelV x u
  | _, _, .cons r .nil => ⟨_, rfl, r⟩
theorem Vals.rep {xs : List V} {us : List Value} (h : Vals xs us) : ∀ k : Nat, Vals (List.replicate k xs).flatten (List.replicate k us).flatten
  | 0 => .nil
  | k + 1 => by
    rw [List.replicate_succ, List.replicate_succ, List.flatten_cons, List.flatten_cons]
    exact Vals.append h (Vals.rep h k)

section
variable {X : Cx} {pins : List (Addr × Obj)} {σ : St} {H : Hp} {s : Shared} {l b : Addr} {xs ys zs : List V}

/-! ### the two steps: a tracked list is rewritten, a new list is laid -/
theorem Inv.lset {its its' : List Value} {n : Nat} {f : Array Value → Array Value} {t' : Nat} (I : Inv X pins σ H s) (hH : H l = some (.lst xs))
    (e : s.heap.get? l = some { cls := .type "list", data := .seq its.toArray n }) (hf : f its.toArray = its'.toArray) (hv : Vals ys its') (hz : ys.length ≤ sizeLine) :
    Inv X pins σ (upd H l (.lst ys)) { s with heap := s.heap.update l (Obj.mapSeq f), toks := t' } := by
  have q := PySem.IsL.update e f
  rw [hf] at q
  refine I.write (x := l) (e := l) (by rw [hH]; exact trivial) (.inl rfl) (fun b' u hb hu => (Heap.get?_update_other s.heap (Obj.mapSeq f) (Ne.symm hb)).trans hu) ⟨_, q⟩ ?_
  exact ⟨hz, its', _, hv, q⟩
theorem Inv.lnew {its : List Value} {t' : Nat} (I : Inv X pins σ H s) (hv : Vals ys its) (hz : ys.length ≤ sizeLine) :
    Inv X pins σ (upd H s.heap.objs.size (.lst ys)) { s with heap := s.heap.push { cls := .type "list", data := .seq its.toArray }, toks := t' } :=
  I.laid (fun _ _ q => Heap.get?_push_of_some _ q) (Nat.le_refl _) ⟨hz, its, 0, hv, Heap.get?_push_size _ rfl⟩
theorem Inv.fresh (I : Inv X pins σ H s) : H s.heap.objs.size = none := I.hok.fresh (Nat.le_refl _)
theorem Inv.lstM (I : Inv X pins σ H s) (hH : H l = some (.lst xs)) : xs.length ≤ sizeLine ∧ ∃ (its : List Value) (n : Nat), Vals xs its ∧ xs.length = its.length ∧ s.heap.get? l = some { cls := .type "list", data := .seq its.toArray n } := by
  obtain ⟨z, its, n, r, e⟩ := I.hok l _ hH
  exact ⟨z, its, n, r, r.length, e⟩

theorem notLongL {n : Nat} (h : n ≤ sizeLine) : Builtin.List.listTooLong n = false := by
  unfold Builtin.List.listTooLong
  exact decide_eq_false (by omega)
end

section
variable {X : Cx}

/-! ### methods -/
noncomputable def rAppend : V → List V → Hp → VK → Prop := fun x vs H Q => ∃ l xs y, x = .ref l ∧ vs = [y] ∧ H l = some (.lst xs) ∧ xs.length < sizeLine ∧ Q .non (upd H l (.lst (xs ++ [y])))
theorem mt_append : MtM X "list.append" rAppend := by
  intro pins s σ H x vs v us Q I rx rv h
  obtain ⟨l, xs, y, rfl, rfl, hH, hz, q⟩ := h
  cases rx
  obtain ⟨u, rfl, ru⟩ := rv.one
  obtain ⟨z, its, n, r, hl, e⟩ := I.lstM hH
  refine call_meets F.slot_list_append ⟨_, e, rfl⟩ F.entry_list_append (F.args_list_append_2 _ _) (PySem.list_append l its.toArray n u (by rw [List.size_toArray]; omega)) ⟨e, ?_⟩
  refine ⟨.non, _, I.lset (its' := its ++ [u]) hH e (by simp) (r.append (.cons ru .nil)) ?_, rfl, q⟩
  rw [List.length_append, List.length_singleton]
  omega

noncomputable def rExtend : V → List V → Hp → VK → Prop := fun x vs H Q => ∃ l b xs zs, x = .ref l ∧ vs = [.ref b] ∧ H l = some (.lst xs) ∧ H b = some (.lst zs) ∧ xs.length + zs.length ≤ sizeLine ∧ Q .non (upd H l (.lst (xs ++ zs)))
theorem mt_extend : MtM X "list.extend" rExtend := by
  intro pins s σ H x vs v us Q I rx rv h
  obtain ⟨l, b, xs, zs, rfl, rfl, hH, hB, hz, q⟩ := h
  cases rx
  obtain ⟨u, rfl, ru⟩ := rv.one
  cases ru
  obtain ⟨z, its, n, r, hl, e⟩ := I.lstM hH
  obtain ⟨z2, its2, n2, r2, hl2, e2⟩ := I.lstM hB
  have hsz : its.toArray.size + its2.toArray.size ≤ sizeLine := by rw [List.size_toArray, List.size_toArray]; omega
  have hlong : ¬ (!its.toArray.isEmpty && Builtin.List.listTooLong (its.toArray.size + its2.toArray.size)) = true := by
    rw [notLongL hsz, Bool.and_false]
    exact Bool.false_ne_true
  refine call_meets F.slot_list_extend ⟨_, e, rfl⟩ F.entry_list_extend (F.args_list_extend_2 _ _)
    (AutoSeq1.list_extend_list_list_0 l its.toArray n b its2.toArray n2 hlong (by rw [List.size_toArray]; omega) (by omega)) ⟨e, e2, ?_⟩
  refine ⟨.non, _, I.lset (its' := its ++ its2) hH e (by simp) (r.append r2) ?_, rfl, q⟩
  rw [List.length_append]
  omega




noncomputable def rClear : V → List V → Hp → VK → Prop := fun x vs H Q => ∃ l xs, x = .ref l ∧ vs = [] ∧ H l = some (.lst xs) ∧ Q .non (upd H l (.lst []))

/-! ### list + list, list += list, list * int -/

/-! ### del xs[i] -/
end

/-! ### xs[a:b] = ys -/
section
variable {prog : Program} {w : World} {A : Around} {E : Value → Shared → Prop} {s : Shared}
set_option maxRecDepth 100000 in
end

section
variable {X : Cx}
end
end L2

namespace L2
open PySem PySem.Spec PyProof.Rows

/-! ### lists of pairs as tables -/
section
variable {κ : Type} [DecidableEq κ]
noncomputable def valV (kvs : List (κ × V)) (k : κ) : Option V := (kvs.find? fun kv => decide (kv.1 = k)).map (·.2)
noncomputable def putK (kvs : List (κ × V)) (k : κ) (v : V) : List (κ × V) :=
  if (kvs.any fun kv => decide (kv.1 = k)) = true then kvs.map (fun kv => if kv.1 = k then (kv.1, v) else kv) else kvs ++ [(k, v)]

theorem valV_pos {p : κ × V} {r : List (κ × V)} {k : κ} (e : p.1 = k) : valV (p :: r) k = some p.2 := by simp [valV, List.find?_cons, e]
theorem valV_neg {p : κ × V} {r : List (κ × V)} {k : κ} (e : ¬ p.1 = k) : valV (p :: r) k = valV r k := by simp [valV, List.find?_cons, e]
theorem valV_any (k : κ) : ∀ kvs : List (κ × V), (kvs.any fun kv => decide (kv.1 = k)) = (valV kvs k).isSome
  | [] => rfl
  | p :: r => by
    rw [List.any_cons]
    by_cases e : p.1 = k
    · simp only [valV_pos e, decide_eq_true e, Bool.true_or, Option.isSome_some]
    · rw [valV_neg e, decide_eq_false e, Bool.false_or]; exact valV_any k r
theorem valV_map (k j : κ) (y : V) : ∀ kvs : List (κ × V), valV (kvs.map fun kv => if kv.1 = k then (kv.1, y) else kv) j = (valV kvs j).map fun x => if j = k then y else x
  | [] => rfl
  | p :: r => by
    have ih := valV_map k j y r
    rw [List.map_cons]
    by_cases h : p.1 = k
    · rw [if_pos h]
      by_cases e : p.1 = j
      · rw [valV_pos (p := (p.1, y)) e, valV_pos e, Option.map_some, if_pos (e.symm.trans h)]
      · rw [valV_neg (p := (p.1, y)) e, valV_neg e, ih]
    · rw [if_neg h]
      by_cases e : p.1 = j
      · rw [valV_pos (p := p) e, valV_pos e, Option.map_some, if_neg (fun z => h (e.trans z))]
      · rw [valV_neg (p := p) e, valV_neg e, ih]
theorem valV_snoc (k j : κ) (y : V) : ∀ kvs : List (κ × V), valV kvs k = none → valV (kvs ++ [(k, y)]) j = if j = k then some y else valV kvs j
  | [], _ => by
    by_cases e : k = j
    · rw [if_pos e.symm]; exact valV_pos (p := (k, y)) e
    · rw [if_neg (fun z => e z.symm)]; exact valV_neg (p := (k, y)) e
  | p :: r, hn => by
    rw [List.cons_append]
    have hk : ¬ p.1 = k := fun z => by rw [valV_pos z] at hn; cases hn
    rw [valV_neg hk] at hn
    have ih := valV_snoc k j y r hn
    by_cases e : p.1 = j
    · rw [valV_pos e, valV_pos e, if_neg (fun z => hk (e.trans z))]
    · rw [valV_neg e, valV_neg e, ih]
theorem valV_put (kvs : List (κ × V)) (k j : κ) (y : V) : valV (putK kvs k y) j = if j = k then some y else valV kvs j := by
  unfold putK
  by_cases a : (kvs.any fun kv => decide (kv.1 = k)) = true
  · rw [if_pos a, valV_map]
    rw [valV_any] at a
    by_cases e : j = k
    · obtain ⟨x, hx⟩ := Option.isSome_iff_exists.mp a
      rw [if_pos e, e, hx, Option.map_some, if_pos rfl]
    · rw [if_neg e]
      cases valV kvs j with
      | none => rfl
      | some x => rw [Option.map_some, if_neg e]
  · rw [if_neg a]
    refine valV_snoc k j y kvs ?_
    rw [valV_any] at a
    cases q : valV kvs k with
    | none => rfl
    | some x => rw [q] at a; exact (a rfl).elim
theorem length_putK (kvs : List (κ × V)) (k : κ) (v : V) : (putK kvs k v).length ≤ kvs.length + 1 := by
  unfold putK
  split
  · rw [List.length_map]; omega
  · rw [List.length_append, List.length_cons, List.length_nil]; omega

theorem RelO.isSome_eq {o : Option V} {u : Option Value} (r : RelO o u) : o.isSome = u.isSome := by
  cases o with
  | none => cases u with
    | none => rfl
    | some _ => exact (show False from r).elim
  | some _ => cases u with
    | none => exact (show False from r).elim
    | some _ => rfl
theorem RelO.getD {o : Option V} {u : Option Value} {d : V} {d' : Value} (r : RelO o u) (rd : RelV d d') : RelV (o.getD d) (u.getD d') := by
  cases o with
  | none => cases u with
    | none => exact rd
    | some _ => exact (show False from r).elim
  | some _ => cases u with
    | none => exact (show False from r).elim
    | some _ => exact r

theorem KV.val {kvs : List (κ × V)} {vs : List (κ × Value)} (r : KV kvs vs) (k : κ) : RelO (valV kvs k) (valueAt vs k) := by
  unfold KV at r
  induction r with
  | nil => exact True.intro
  | @cons p q ps qs h t ih =>
    obtain ⟨h1, h2⟩ := h
    by_cases e : p.1 = k
    · have e' : q.1 = k := h1.symm.trans e
      have b : valueAt (q :: qs) k = some q.2 := by simp [valueAt, List.find?_cons, e']
      rw [valV_pos e, b]; exact h2
    · have e' : ¬ q.1 = k := fun z => e (h1.trans z)
      have b : valueAt (q :: qs) k = valueAt qs k := by simp [valueAt, List.find?_cons, e']
      rw [valV_neg e, b]; exact ih
theorem KV.any {kvs : List (κ × V)} {vs : List (κ × Value)} (r : KV kvs vs) (k : κ) : (kvs.any fun kv => decide (kv.1 = k)) = vs.any fun kv => decide (kv.1 = k) := by
  unfold KV at r
  induction r with
  | nil => rfl
  | cons h t ih => rw [List.any_cons, List.any_cons, ih, h.1]
theorem KV.repl {kvs : List (κ × V)} {vs : List (κ × Value)} (r : KV kvs vs) (k : κ) {y : V} {u : Value} (ry : RelV y u) :
    KV (kvs.map fun kv => if kv.1 = k then (kv.1, y) else kv) (vs.map fun kv => if kv.1 = k then (kv.1, u) else kv) := by
  unfold KV at r ⊢
  induction r with
  | nil => exact .nil
  | @cons p q ps qs h t ih =>
    rw [List.map_cons, List.map_cons]
    refine .cons ?_ ih
    obtain ⟨h1, h2⟩ := h
    by_cases e : p.1 = k
    · rw [if_pos e, if_pos (h1.symm.trans e)]; exact ⟨h1, ry⟩
    · rw [if_neg e, if_neg (fun z => e (h1.trans z))]; exact ⟨h1, h2⟩
theorem KV.put {kvs : List (κ × V)} {vs : List (κ × Value)} (r : KV kvs vs) (k : κ) {y : V} {u : Value} (ry : RelV y u) : KV (putK kvs k y) (stored vs k u) := by
  unfold putK stored
  rw [r.any k]
  by_cases e : (vs.any fun kv => decide (kv.1 = k)) = true
  · rw [if_pos e, if_pos e]; exact r.repl k ry
  · rw [if_neg e, if_neg e]; exact Paired.snoc r ⟨rfl, ry⟩
theorem KV.length {kvs : List (κ × V)} {vs : List (κ × Value)} (r : KV kvs vs) : kvs.length = vs.length := Paired.length r
end


/-! ### a tracked dict, its keys ints and texts or tuples of these -/
theorem kV_is {P : Program} {w : World} {k : Key} {u : Value} (r : RelV (kV k) u) : (mixKind P w).is k u = true := by
  cases k with
  | inl i => obtain ⟨t, e⟩ := (show ∃ t, u = Value.int i t from r); subst e; exact mixKind_int P w i t
  | inr x => obtain ⟨t, e⟩ := (show ∃ t, u = Value.str x t from r); subst e; exact mixKind_str P w x t
theorem items_are {P : Program} {w : World} : ∀ {ks : List Key} {us : List Value}, Vals (ks.map kV) us → ItemsAre (mixKind P w) ks us
  | [], _, r => by rw [List.map_nil] at r; cases r; exact .nil
  | k :: ks, _, r => by
    rw [List.map_cons] at r
    cases r with
    | cons h t => exact .cons (kV_is h) (items_are t)

noncomputable abbrev KT (H : Hp) : List (List Key × V) → List (List Key × Addr × Value) → Prop := Paired fun p q => p.1 = q.1 ∧ H q.2.1 = some (.tup (p.1.map kV)) ∧ RelV p.2 q.2.2
theorem KT.val {H : Hp} {kvs : List (List Key × V)} {xs : List (List Key × Addr × Value)} (r : KT H kvs xs) (k : List Key) : RelO (valV kvs k) ((atKey xs k).map (·.2)) := by
  induction r with
  | nil => exact True.intro
  | @cons p q ps qs h t ih =>
    obtain ⟨h1, _, h2⟩ := h
    by_cases e : p.1 = k
    · have e' : q.1 = k := h1.symm.trans e
      have b : atKey (q :: qs) k = some q.2 := by simp [atKey, List.find?_cons, e']
      rw [valV_pos e, b]; exact h2
    · have e' : ¬ q.1 = k := fun z => e (h1.trans z)
      have b : atKey (q :: qs) k = atKey qs k := by simp [atKey, List.find?_cons, e']
      rw [valV_neg e, b]; exact ih
theorem KT.repl {H : Hp} {kvs : List (List Key × V)} {xs : List (List Key × Addr × Value)} (r : KT H kvs xs) (k : List Key) {y : V} {u : Value} (ry : RelV y u) :
    KT H (kvs.map fun kv => if kv.1 = k then (kv.1, y) else kv) (xs.map (putAt k u)) := by
  induction r with
  | nil => exact .nil
  | @cons p q ps qs h t ih =>
    rw [List.map_cons, List.map_cons]
    refine .cons ?_ ih
    obtain ⟨h1, h2, h3⟩ := h
    unfold putAt
    by_cases e : p.1 = k
    · rw [if_pos e, if_pos (h1.symm.trans e)]; exact ⟨h1, h2, ry⟩
    · rw [if_neg e, if_neg (fun z => e (h1.trans z))]; exact ⟨h1, h2, h3⟩
theorem KT.put {H : Hp} {kvs : List (List Key × V)} {xs : List (List Key × Addr × Value)} (r : KT H kvs xs) (k : List Key) {b : Addr} {y : V} {u : Value} (hb : H b = some (.tup (k.map kV))) (ry : RelV y u) :
    KT H (putK kvs k y) (storedH xs k b u) := by
  have e : (kvs.any fun kv => decide (kv.1 = k)) = (atKey xs k).isSome := by
    rw [valV_any, (r.val k).isSome_eq, Option.isSome_map]
  unfold putK storedH
  rw [e]
  by_cases q : (atKey xs k).isSome = true
  · rw [if_pos q, if_pos q]; exact r.repl k ry
  · rw [if_neg q, if_neg q]; exact Paired.snoc r ⟨rfl, hb, ry⟩
theorem KT.keeps {H H' : Hp} {kvs : List (List Key × V)} {xs : List (List Key × Addr × Value)} (r : KT H kvs xs) (ht : ∀ b ys, H b = some (.tup ys) → H' b = some (.tup ys)) : KT H' kvs xs :=
  Paired.mapP r fun _ _ z => ⟨z.1, ht _ _ z.2.1, z.2.2⟩

section
variable {P : Program} {w : World} {H : Hp} {h : Heap} {a : Addr}
theorem rd_of {u : HO} (ok : HOk P w H h) (e : Rd H a u) : ObjOk P w H h a u := e.ok ok
theorem dk_rd {kvs : List (Key × V)} (ok : HOk P w H h) (e : Rd H a (.dK kvs)) : kvs.length ≤ sizeLine ∧ (a == sysModules) = false ∧ ∃ vs, KV kvs vs ∧ h.DictOf (mixKind P w) a vs :=
  show ObjOk P w H h a (.dK kvs) from rd_of ok e
theorem dk_of {kvs : List (Key × V)} (ok : HOk P w H h) (e : H a = some (.dK kvs)) : kvs.length ≤ sizeLine ∧ (a == sysModules) = false ∧ ∃ vs, KV kvs vs ∧ h.DictOf (mixKind P w) a vs := dk_rd ok (.inl e)
theorem key_of {ks : List Key} (ok : HOk P w H h) (e : H a = some (.tup (ks.map kV))) : (tupleKind (mixKind P w)).is h ks a := by
  obtain ⟨_, its, r, o, h1, h2, n, h3⟩ := (show ObjOk P w H h a (.tup (ks.map kV)) from ok a _ e)
  exact ⟨o, its.toArray, n, h1, h2, h3, by simpa using items_are r⟩
theorem dt_rd {kvs : List (List Key × V)} (ok : HOk P w H h) (e : Rd H a (.dT kvs)) : kvs.length ≤ sizeLine ∧ (a == sysModules) = false ∧
    ∃ xs, KT H kvs xs ∧ h.DictOfH (tupleKind (mixKind P w)) a xs := by
  obtain ⟨z, y, xs, r, o, es, ep, h1, h2, h3, h4, h5⟩ := (show ObjOk P w H h a (.dT kvs) from rd_of ok e)
  refine ⟨z, y, xs, r, o, es, ep, h1, h2, h3, h4, fun x hx => ?_, h5⟩
  have all : ∀ {l : List (List Key × V)} {m : List (List Key × Addr × Value)}, KT H l m → ∀ x ∈ m, (tupleKind (mixKind P w)).is h x.1 x.2.1 := by
    intro l m q
    induction q with
    | nil => intro x hx; exact nomatch hx
    | @cons p q ps qs hq t ih =>
      intro x hx
      rcases List.mem_cons.mp hx with e | hx
      · subst e
        exact key_of ok (by rw [← hq.1]; exact hq.2.1)
      · exact ih x hx
  exact all r x hx
theorem dt_of {kvs : List (List Key × V)} (ok : HOk P w H h) (e : H a = some (.dT kvs)) : kvs.length ≤ sizeLine ∧ (a == sysModules) = false ∧
    ∃ xs, KT H kvs xs ∧ h.DictOfH (tupleKind (mixKind P w)) a xs := dt_rd ok (.inl e)
end

noncomputable def DGet (H : Hp) (a : Addr) (y : V) (r : Option V) : Prop :=
  (∃ kvs k, Rd H a (.dK kvs) ∧ y = kV k ∧ r = valV kvs k) ∨ ∃ kvs k b, Rd H a (.dT kvs) ∧ y = .ref b ∧ H b = some (.tup (k.map kV)) ∧ r = valV kvs k
noncomputable def DPut (H : Hp) (a : Addr) (y v : V) (H' : Hp) : Prop :=
  (∃ kvs k, H a = some (.dK kvs) ∧ y = kV k ∧ kvs.length < sizeLine ∧ H' = upd H a (.dK (putK kvs k v))) ∨
  ∃ kvs k b, H a = some (.dT kvs) ∧ y = .ref b ∧ H b = some (.tup (k.map kV)) ∧ kvs.length < sizeLine ∧ H' = upd H a (.dT (putK kvs k v))
theorem DGet.k {H : Hp} {a : Addr} {kvs : List (Key × V)} {k : Key} (e : H a = some (.dK kvs)) : DGet H a (kV k) (valV kvs k) := .inl ⟨kvs, k, .inl e, rfl, rfl⟩
theorem DPut.k {H : Hp} {a : Addr} {kvs : List (Key × V)} {k : Key} {v : V} (e : H a = some (.dK kvs)) (hl : kvs.length < sizeLine) : DPut H a (kV k) v (upd H a (.dK (putK kvs k v))) := .inl ⟨kvs, k, e, rfl, hl, rfl⟩


section
variable {X : Cx} {pins : List (Addr × Obj)} {σ : St} {H : Hp} {s : Shared} {a : Addr} {y v : V} {u r : Value} {o : Option V} {A : Around} {E : Value → Shared → Prop}

theorem Inv.big (I : Inv X pins σ H s) : sysModules < s.heap.objs.size := by
  have h : mainGlobals < s.heap.objs.size := (I.mod.glob.keeps I.bk).lt
  exact Nat.lt_trans (by decide) h

theorem d_write {h' : Heap} {t' : Nat} {ob : HO} (I : Inv X pins σ H s) (mu : Mut (H a)) (hs : Heap.SameBut a s.heap h') (he : ∃ q, h'.get? a = some q) (new : ObjOk X.prog X.w (upd H a ob) h' a ob) :
    Inv X pins σ (upd H a ob) { s with heap := h', toks := t' } :=
  I.write (x := a) (e := a) mu (.inl rfl) (fun b q hb z => (hs.2 b hb).trans z) he new
theorem dk_new {P : Program} {w : World} {H' : Hp} {h' : Heap} {kvs : List (Key × V)} {vs : List (Key × Value)} (z : kvs.length ≤ sizeLine) (hd : (a == sysModules) = false) (rel : KV kvs vs) (dd : h'.DictOf (mixKind P w) a vs) :
    ObjOk P w H' h' a (.dK kvs) := ⟨z, hd, vs, rel, dd⟩
theorem d_setItem {H' : Hp} {Q : Unit → Shared → Prop} (hu : A.units + 1 < cLine) (I : Inv X pins σ H s) (g : DPut H a y v H') (ry : RelV y u) (rv : RelV v r) (h : ∀ s', Inv X pins σ H' s' → Q () s') :
    wpAny (model X.prog X.w) A (setItem (.ref a) u r) Q E s := by
  rcases g with ⟨kvs, k, e, ey, l, eH⟩ | ⟨kvs, k, b, e, ey, eb, l, eH⟩
  · subst ey eH
    obtain ⟨z, hd, vs, rel, dd⟩ := dk_of I.hok e
    have hz : vs.length ≤ sizeLine := by rw [← rel.length]; exact z
    have hl : (putK kvs k v).length ≤ sizeLine := by have := length_putK kvs k v; omega
    refine wpAny_setItem_pairs (hsz := hz) (kV_is ry) dd fun h' dd' hs => h _ ?_
    have he : ∃ q, h'.get? a = some q := let ⟨q, _, _, hq, _⟩ := dd'; ⟨q, hq⟩
    exact d_write I (by rw [e]; exact True.intro) hs he (dk_new hl hd (rel.put k rv) dd')
  · subst ey eH
    cases (show u = Value.ref b from ry)
    obtain ⟨z, hd, xs, rel, dd⟩ := dt_of I.hok e
    have hz : xs.length ≤ sizeLine := by rw [← Paired.length rel]; exact z
    have hl : (putK kvs k v).length ≤ sizeLine := by have := length_putK kvs k v; omega
    refine wpAny_setItem_heap (hsz := hz) (tupleKind_room_in1 hu) (key_of I.hok eb) dd fun h' dd' hs => h _ ?_
    obtain ⟨q, es, ep, hq, h2, h3, h4, _, h5⟩ := dd'
    refine d_write I (by rw [e]; exact True.intro) hs ⟨q, hq⟩ ⟨hl, hd, _, (rel.put k eb rv).keeps fun c ys ec => ?_, q, es, ep, hq, h2, h3, h4, h5⟩
    rw [upd_ne (ne_of ec e (fun z => nomatch z))]
    exact ec
end

section
variable {X : Cx} {pins : List (Addr × Obj)} {σ : St} {H : Hp} {s : Shared} {a : Addr} {kvs : List (Key × V)} {k : Key} {u : Value} {A : Around} {E : Value → Shared → Prop}
end


/-! ### readings and rules -/


noncomputable def tDGet (td ty : TE) : TE := fun σ H Q => td σ H fun x H1 => ty σ H1 fun y H2 => ∃ a v, x = .ref a ∧ DGet H2 a y (some v) ∧ Q v H2
noncomputable def tDIn (ty td : TE) : TE := fun σ H Q => ty σ H fun y H1 => td σ H1 fun x H2 => ∃ a o, x = .ref a ∧ DGet H2 a y o ∧ Q (.bl o.isSome) H2
noncomputable def tDNotIn (ty td : TE) : TE := fun σ H Q => ty σ H fun y H1 => td σ H1 fun x H2 => ∃ a o, x = .ref a ∧ DGet H2 a y o ∧ Q (.bl (!o.isSome)) H2
noncomputable def sDPut (td ty tv : TE) : TS := fun D σ H => tv σ H fun v H1 => td σ H1 fun x H2 => ty σ H2 fun y H3 => ∃ a H4, x = .ref a ∧ DPut H3 a y v H4 ∧ D.nx σ H4

section
variable {X : Cx} {o i e value : Expr} {pos pos' tpos : Pos} {td ty tv : TE}
theorem ps_dput (hu : X.A.units + 1 < cLine) (ho : PE X o td) (hi : PE X i ty) (hv : PE X value tv) (hs : swapsWith value (some (.Subscript o i pos')) pos.line X.env = pure false) :
    PS X (.Assign [.Subscript o i pos'] value pos) (sDPut td ty tv) := by
  intro pins s σ H D I h
  refine wpAny_Assign_Subscript (thn (hv pins s σ H _ I h) fun r s1 ⟨v, H1, I1, rv, q1⟩ => thn (ho pins s1 σ H1 _ I1 q1) fun u s2 ⟨x, H2, I2, rx, q2⟩ => thn (hi pins s2 σ H2 _ I2 q2) fun iv s3 ⟨y, H3, I3, ry, a, H4, ex, g, q3⟩ => ?_) hs
  subst ex
  obtain rfl : u = Value.ref a := rx
  exact d_setItem hu I3 g ry rv fun s4 I4 => ⟨σ, H4, I4, q3⟩
end


/-! ### displays -/
theorem dk_empty {P : Program} {w : World} {H : Hp} (h : Heap) (hb : sysModules < h.objs.size) : ObjOk P w H (h.push { cls := .type "dict", data := .dict #[] }) h.objs.size (.dK []) :=
  ⟨Nat.zero_le _, beq_eq_false_iff_ne.mpr (Ne.symm (Nat.ne_of_lt hb)), [], .nil, Heap.DictOf.new h⟩
noncomputable def tDNewK : TE := fun _ H Q => ∀ p, H p = none → Q (.ref p) (upd H p (.dK []))
section
variable {X : Cx} {pos : Pos}
theorem pe_dnewK : PE X (.Dict [] [] pos) tDNewK := fun pins s σ H Q I h =>
  wpAny_Dict_empty ⟨.ref s.heap.objs.size, _, I.laid (a := s.heap.objs.size) (o := .dK []) (t' := s.toks) (fun _ _ q => Heap.get?_push_of_some _ q) (Nat.le_refl _) (dk_empty s.heap I.big), rfl, h _ (I.hok.fresh (Nat.le_refl _))⟩
end




/-! ### methods -/
set_option genInjectivity false in
structure M1 (X : Cx) (o : Expr) (m : Str) (apos : Pos) (e : Expr) (cpos : Pos) : Prop where
  base : attributeBase o m X.env (eval o X.env) = eval o X.env
  few : ((backTo cpos (starEach [e] X.env)).all (fun x => !x.1) && (backToKw cpos (keywordEach [] X.env)).all (fun x => x.1.isSome)
    && decide (([e] : List Expr).length + ([] : List Keyword).length + (if ([] : List Keyword).isEmpty then 0 else 1) < 30)) = true
  line : (apos.endLine == cpos.line) = true
  trees : backTo cpos (starEach [e] X.env) = [(false, eval e X.env)]
set_option genInjectivity false in
structure M2 (X : Cx) (o : Expr) (m : Str) (apos : Pos) (e f : Expr) (cpos : Pos) : Prop where
  base : attributeBase o m X.env (eval o X.env) = eval o X.env
  few : ((backTo cpos (starEach [e, f] X.env)).all (fun x => !x.1) && (backToKw cpos (keywordEach [] X.env)).all (fun x => x.1.isSome)
    && decide (([e, f] : List Expr).length + ([] : List Keyword).length + (if ([] : List Keyword).isEmpty then 0 else 1) < 30)) = true
  line : (apos.endLine == cpos.line) = true
  trees : backTo cpos (starEach [e, f] X.env) = [(false, eval e X.env), (false, eval f X.env)]

noncomputable def IsD (H : Hp) (a : Addr) : Prop := (∃ kvs, Rd H a (.dK kvs)) ∨ ∃ kvs, Rd H a (.dT kvs)
theorem isD_at {X : Cx} {pins : List (Addr × Obj)} {σ : St} {H : Hp} {s : Shared} {a : Addr} (I : Inv X pins σ H s) (d : IsD H a) :
    s.TypeIs (.ref a) "dict" ∧ (∀ b, Value.ref a = .ref b → ∃ ob, s.heap.get? b = some ob ∧ ob.dict = none) ∧ (a == sysModules) = false := by
  rcases d with ⟨kvs, e⟩ | ⟨kvs, e⟩
  · obtain ⟨_, hd, vs, _, dd⟩ := dk_rd I.hok e
    refine ⟨dd.typeIs, fun b q => ?_, hd⟩
    cases q
    obtain ⟨ob, _, _, h1, h2, _⟩ := dd
    exact ⟨ob, h1, h2.2.1⟩
  · obtain ⟨_, hd, xs, _, dd⟩ := dt_rd I.hok e
    refine ⟨dd.typeIs, fun b q => ?_, hd⟩
    cases q
    obtain ⟨ob, _, _, h1, h2, _⟩ := dd
    exact ⟨ob, h1, h2.2.1⟩

section
variable {X : Cx} {pins : List (Addr × Obj)} {σ : St} {H : Hp} {s : Shared} {a : Addr} {y d : V} {u r : Value} {o : Option V} {A : Around} {E : Value → Shared → Prop}
theorem d_get2 {Q : Value → Shared → Prop} (hu : A.units + 1 < cLine) (I : Inv X pins σ H s) (g : DGet H a y o) (ry : RelV y u) (rd : RelV d r) (h : ∀ w' s', Inv X pins σ H s' → RelV (o.getD d) w' → Q w' s') :
    wpAny (model X.prog X.w) A (call (.builtin "dict.get") [.ref a, u, r]) Q E s := by
  rcases g with ⟨kvs, k, e, ey, l⟩ | ⟨kvs, k, b, e, ey, eb, l⟩
  · subst ey
    obtain ⟨z, hd, vs, rel, dd⟩ := dk_rd I.hok e
    refine call_meetsIn PySem.F.slot_dict_get dd.typeIs PySem.F.entry_dict_get (PySem.F.args_dict_get_3 _ _ _) (meets_dict_get_default (mixKind X.prog X.w) a (kV_is ry) hd r) ⟨_, dd.mapOf, h _ _ (I.tok _) ?_⟩
    rw [l]
    exact (rel.val k).getD rd
  · subst ey
    cases (show u = Value.ref b from ry)
    obtain ⟨z, hd, xs, rel, dd⟩ := dt_rd I.hok e
    refine call_meetsIn PySem.F.slot_dict_get dd.typeIs PySem.F.entry_dict_get (PySem.F.args_dict_get_3 _ _ _) (meetsH_dict_get_default (tupleKind (mixKind X.prog X.w)) a b hd r) ⟨tupleKind_room_in1 hu, k, xs, key_of I.hok eb, dd, h _ _ (I.tok _) ?_⟩
    rw [l]
    exact (rel.val k).getD rd
end

noncomputable def tDGet1 (td ty : TE) : TE := fun σ H Q => td σ H fun x H1 => ∃ a, x = .ref a ∧ IsD H1 a ∧ ty σ H1 fun y H2 => ∃ o, DGet H2 a y o ∧ Q (o.getD .non) H2
noncomputable def tDGet2 (td ty tx : TE) : TE := fun σ H Q => td σ H fun x H1 => ∃ a, x = .ref a ∧ IsD H1 a ∧ ty σ H1 fun y H2 => tx σ H2 fun z H3 => ∃ o, DGet H3 a y o ∧ Q (o.getD z) H3
section
variable {X : Cx} {o e f : Expr} {apos cpos : Pos} {td ty tx : TE}
theorem pe_dget2 (hu : X.A.units + 1 < cLine) (ho : PE X o td) (he : PE X e ty) (hf : PE X f tx) (m : M2 X o "get" apos e f cpos) : PE X (.Call (.Attribute o "get" apos) [e, f] [] cpos) (tDGet2 td ty tx) := by
  intro pins s σ H Q I h
  refine wpAny_Call_method m.base m.few m.line PySem.F.plainAttrs_dict PySem.F.slot_dict_get PySem.F.type_dict_get (thn (ho pins s σ H _ I h) fun u s1 ⟨x, H1, I1, rx, a, ex, d, q1⟩ => ?_)
  subst ex
  obtain rfl : u = Value.ref a := rx
  obtain ⟨t1, t2, _⟩ := isD_at I1 d
  refine ⟨t1, t2, ?_⟩
  rw [m.trees]
  refine Calls.callWith_builtin rfl (Calls.evalArgs_plain (Calls.spliced_cons (thn (he pins s1 σ H1 _ I1 q1) fun iv s2 ⟨y, H2, I2, ry, q2⟩ =>
    Calls.spliced_cons (thn (hf pins s2 σ H2 _ I2 q2) fun fv s3 ⟨z, H3, I3, rz, ov, g, q3⟩ => Calls.spliced_nil ?_))))
  exact d_get2 hu I3 g ry rz fun w' s4 I4 rw' => ⟨_, H3, I4, rw', q3⟩
end

/-! ### dict(d): a copy -/
section
variable {X : Cx} {pins : List (Addr × Obj)} {σ : St} {H : Hp} {s : Shared} {a : Addr} {kvs : List (Key × V)} {A : Around} {E : Value → Shared → Prop}
end


section
variable {X : Cx} {pins : List (Addr × Obj)} {σ : St} {H : Hp} {s : Shared} {a : Addr} {y : V} {u : Value} {A : Around} {E : Value → Shared → Prop}
end
end L2

namespace Att
open PySem PySem.W PySem.Calls PyProof.Rows

/-! ### the script -/
theorem ints_of_wellAll {P : Params} {h : Heap} : ∀ (ns : List Int) (vs : List Value), WellAll P h vs (ns.map WData.int) → IntsAre vs ns := by
  intro ns
  induction ns with
  | nil =>
    intro vs w
    rw [List.map_nil] at w
    cases w
    exact .nil
  | cons n ns ih =>
    intro vs w
    rw [List.map_cons] at w
    cases w with
    | cons a b =>
      cases a
      exact .cons _ _ (ih _ b)

theorem script_of {l : OpenLaw} {n : Nat} (hn : l.most = some n) {P : Params} {h : Heap} {args : List WData} {vals : List Value}
    (hpre : l.row.toRowW.claim.pre args = true) (hwl : WellAll P h vals args) :
    ∃ a vs ns, vals = [Value.ref a] ∧ args = [WData.list (ns.map WData.int)] ∧ h.get? a = some { cls := .type "list", data := .seq vs.toArray } ∧ IntsAre vs ns ∧ ns.length ≤ n := by
  have hsh : WShape.hasAll [] args [.list .int] = true := (pre_splitW hpre).1
  have hc : l.pre.holds [] { args := args } = true := (pre_splitW hpre).2
  obtain ⟨d, r, rfl, h1, h2⟩ := hasAllW_cons hsh
  obtain rfl := hasAllW_nil h2
  obtain ⟨xs, rfl, h3⟩ := hasW_list h1
  obtain ⟨ns, rfl⟩ := items_int h3
  have hlen : ns.length ≤ n := by
    unfold OpenLaw.pre at hc
    have h4 : (WTm.not (.lt (.lit (.int (n : Int))) (.len (.arg 0)))).holds [] { args := [.list (ns.map .int)] } = true := by
      have h4 := (holds_andW hc).1
      rw [hn] at h4
      exact h4
    have h5 := condW_of h4 (w_not (w_lt w_lit (w_len_list (w_arg rfl))))
    rw [List.length_map] at h5
    refine Nat.le_of_not_lt fun q => ?_
    have q' : (n : Int) < ((ns.length : Nat) : Int) := by omega
    first
      | (rw [decide_eq_true q'] at h5; exact absurd h5 (by decide))
      | (simp at h5; omega)
  cases hwl with
  | cons w1 w2 =>
    cases w2
    cases w1 with
    | list ho hall => exact ⟨_, _, ns, rfl, rfl, ho, ints_of_wellAll ns _ hall, hlen⟩

theorem post_true (l : OpenLaw) (args : List WData) : l.row.toRowW.claim.post args (.bool true) args = true :=
  postW_of (r := l.row.toRowW) (X := (true == true))
    (show WShape.has [] (.bool true) .bool = true by first | rfl | decide | simp [WShape.has, WShape.arms, WShape.armsAll])
    (show (WTm.eq .res (.lit (.bool true))).value [] { args := args, res := some (.bool true), after := args } = some (.bool (true == true)) from w_eq_bool (w_res rfl) w_lit) rfl

/-! ### the attachment: holds_open's last premise (the goal 'hc' behind k_head) from a wpAny of the law's body -/

theorem attach_call {l : OpenLaw} {n : Nat} {q : Program} {loose : List Str} {XP : (Str → Option Value) → Heap → Prop} {YP : World → Heap → Prop} {d : DefRec}
    (hn : l.most = some n) (hdf : d.params.defaults = [])
    (call : ∀ (w : World) (s₀ s₁ : Shared) (mg mb : Str → Option Value) (fa : Addr) (o : Obj) (pm cd doc : Value) (a : Addr) (vs : List Value) (ns : List Int),
      Ground q loose [] XP w s₀ mg mb s₁.heap → YP w s₁.heap →
      s₁.heap.get? fa = some o → o.data = .func (docDef d.name d.params d.body d.scope pm cd doc) → s₁.heap.CodeRec cd d.name → mg d.name = some (.ref fa) →
      s₁.heap.get? a = some { cls := .type "list", data := .seq vs.toArray } → IntsAre vs ns → ns.length ≤ n → s₁.gens = #[] →
      codeAny (model l.prog w) callerA (.call (.ref fa) ⟨[.ref a], []⟩) (fun r s' => r = .ok (.ret (.bool true)) ∧ OldK s₁.heap s'.heap ∧ s'.os = s₁.os ∧ AllBare s'.gens) s₁) :
    WalkO q loose XP YP l.row.toRowW d [] (fun f vs => PySem.call f vs) := by
  intro w s₀ s₁ mg mb G Y fa o pm cd doc dV kV ho hd hcd hD hmg hg args vals as hpre hlay hrd hwl hlo
  obtain rfl : dV = .none := Dflts.none hD hdf
  obtain rfl : kV = .none := Dflts.noKw hD
  obtain ⟨a, vs, ns, rfl, rfl, hobj, hints, hlen⟩ := script_of hn hpre hwl
  refine enter_call (codeAny_mono (call w s₀ s₁ mg mb fa o pm cd doc a vs ns G Y ho (fd_plain hd) hcd hmg hobj hints hlen hg) fun r s' hq => ?_)
  obtain ⟨rfl, h2, h3, h4⟩ := hq
  exact ⟨.inl ⟨.bool true, .bool true, [], rfl, fun _ => rfl, .bool true, post_true l _, fun _ => ⟨List.Pairwise.nil, fun _ hm => (nomatch hm)⟩⟩, h2, h3, h4⟩


/-! ### rules over ANY heap (no ledger) from facts about the written part K: the library's own take a ledger (News) for what they write -/
section
variable {prog : Program} {w : World} {A : Around} {E : Value → Shared → Prop} {s : Shared} {K : Frag}





/-! the whole heap as the ledger: makes every rule that writes through a ledger a rule over any heap -/
noncomputable def ledger (h : Heap) (L d : Addr) : List (Addr × Obj) := (List.range h.objs.size).filterMap fun a => if a = L ∨ a = d then none else (h.get? a).map fun o => (a, o)

end
end Att

namespace L2
open PySem PySem.Spec PyProof.Rows

theorem vals_ints : ∀ {vs : List Value} {ns : List Int}, IntsAre vs ns → Vals (ns.map V.int) vs
  | _, _, .nil => .nil
  | _, _, .cons n t h => .cons ⟨t, rfl⟩ (vals_ints h)

noncomputable def Only (H : Hp) : Prop := ∀ b, H b = none ∨ ∃ o xs, H b = some (.frz o (.lst xs))

theorem law_call {P : Program} {w : World} {K : PySem.W.Frag} {mg mb : Str → Option Value} {CX : CXT} {k : Nat} {fa a : Addr} {fd : FuncData} {x : Str} {sp : Sp} {s₁ : Shared} {vs : List Value} {ns : List Int}
    (KX : K.In s₁.heap) (hns : s₁.heap.Ns mainGlobals mg) (hb : s₁.heap.Ns builtinsNs mb) (hbb : ∀ x : Str, x ≠ "__name__" → mb x = bootBuiltins x) (hlim : s₁.heap.NoLimit) (hg : s₁.gens = #[])
    (ha : s₁.heap.get? a = some { cls := .type "list", data := .seq vs.toArray }) (hi : IntsAre vs ns) (hl : ns.length ≤ sizeLine) (hr : Room k callerA)
    (F : ∀ base : Heap, K.In base → base.Ns mainGlobals mg → FnOk P w K mg base CX k fa fd [x] sp) (hbind : ∀ (s : Shared) (u : Value), BindsTo s fd ⟨[u], []⟩ [(x, u)])
    (hsp : ∀ H : Hp, Only H → SqL K H a (ns.map V.int) → sp [.ref a] H (fun v _ => v = .bl true) fun _ _ _ => False)
    (hCX : ∀ H e s', CX [] H s₁ (fun _ _ _ => False) e s' → False) :
    codeAny (model P w) callerA (.call (.ref fa) ⟨[.ref a], []⟩) (fun r s' => r = .ok (.ret (.bool true)) ∧ OldK s₁.heap s'.heap ∧ s'.os = s₁.os ∧ AllBare s'.gens) s₁ := by
  have rv := vals_ints hi
  have lenV := hi.length
  -- from an abstract heap in which nothing but the script may be tracked
  have core : ∀ H : Hp, Only H → SqL K H a (ns.map V.int) → HOk P w H s₁.heap → (∀ b, H b ≠ none → b = a) → (H a ≠ none → K.lookup a = none) →
      codeAny (model P w) callerA (.call (.ref fa) ⟨[.ref a], []⟩) (fun r s' => r = .ok (.ret (.bool true)) ∧ OldK s₁.heap s'.heap ∧ s'.os = s₁.os ∧ AllBare s'.gens) s₁ := by
    intro H hO hS hok hA hK
    have base_of : ∀ {b : Addr} {o : Obj}, s₁.heap.get? b = some o → H b = none → (hidT s₁.heap H).get? b = some o := fun e n => hidT_get e n
    have noA : ∀ {b : Addr} {o : Obj} {es : Array DictEntry} {ep : Nat}, s₁.heap.get? b = some o → o.data = .dict es ep → H b = none := fun {b o es ep} e d => by
      cases q : H b with
      | none => rfl
      | some u =>
        have e' : b = a := hA b (by rw [q]; simp)
        subst e'
        rw [ha] at e; cases e
        have d' : Data.seq vs.toArray _ = Data.dict es ep := d
        cases d'
    have nsK : ∀ {b : Addr} {m : Str → Option Value}, s₁.heap.Ns b m → (hidT s₁.heap H).Ns b m := fun {b m} ⟨o, es, ep, e, d, r⟩ => ⟨o, es, ep, base_of e (noA e d), d, r⟩
    have hKb : K.In (hidT s₁.heap H) := fun b o e => base_of (KX b o e) (by
      cases q : H b with
      | none => rfl
      | some u =>
        have e' : b = a := hA b (by rw [q]; simp)
        subst e'
        rw [hK (by rw [q]; simp)] at e; cases e)
    have hM : Mod K mg (hidT s₁.heap H) := ⟨hKb, nsK hns, ⟨mb, nsK hb, hbb⟩, let ⟨mc, h1, h2⟩ := hlim; ⟨mc, nsK h1, h2⟩⟩
    have e0 : Env0 P w K mg (hidT s₁.heap H) callerA [] s₁ H := ⟨rfl, hM, fun b o e => of_hidT e, Nat.le_of_eq (hidT_size _ _), trivial, fun b hb => absurd (show b ∈ ([] : List Addr) from hb) (by simp), hok, .of_eq hg⟩
    refine codeAny_mono ((F _ hKb (nsK hns)).run callerA [] s₁ H ⟨[.ref a], []⟩ [.ref a] [.ref a] _ _ hr e0 (hbind s₁ (.ref a)) (.cons rfl .nil) (hsp H hO hS)) fun r s' h => ?_
    cases r with
    | error e => exact (hCX H e s' h).elim
    | ok fl =>
      cases fl with
      | next => exact False.elim h
      | brk => exact False.elim h
      | cont => exact False.elim h
      | ret u =>
        obtain ⟨v, H', os, bare, un, hok', r', q⟩ := h
        have q' : v = .bl true := q
        subst q'
        obtain rfl : u = Value.bool true := r'
        refine ⟨rfl, OldK.of_keep fun b o e => ?_, os, bare⟩
        cases q : H b with
        | none => exact un.keep b o e q (by intro z; exact absurd (show b ∈ ([] : List Addr) from z) (by simp)) (by simp)
        | some u =>
          rcases hO b with z | ⟨ob, xs, z⟩
          · rw [q] at z; cases z
          · have z2 := un.frzs b ob _ z
            obtain ⟨e1, _⟩ := hok b _ z
            obtain ⟨e2, _⟩ := hok' b _ z2
            rw [e] at e1; cases e1
            exact e2
  cases hk : K.lookup a with
  | some o =>
    -- the script is one of the module's own objects
    have e := KX a o hk
    rw [ha] at e
    cases e
    refine core (fun _ => none) (fun _ => .inl rfl) (.inr ⟨_, vs.toArray, _, hk, rfl, rfl, rfl, by rw [List.size_toArray, lenV]; exact hl, by simpa using rv⟩) (fun b u z => by have z' : (none : Option HO) = some u := z; cases z') (fun b z => absurd rfl z) fun z => absurd rfl z
  | none =>
    refine core (fun b => if b = a then some (.frz { cls := .type "list", data := .seq vs.toArray } (.lst (ns.map V.int))) else none) (fun b => ?_) (.inl (.inr ⟨{ cls := .type "list", data := .seq vs.toArray }, if_pos rfl⟩)) (fun b u z => ?_) (fun b z => ?_) fun _ => hk
    · by_cases hb : b = a
      · exact .inr ⟨_, _, if_pos hb⟩
      · exact .inl (if_neg hb)
    · by_cases hb : b = a
      · have z' := (if_pos hb).symm.trans z
        cases z'
        subst hb
        exact ⟨ha, by rw [List.length_map]; exact hl, vs, _, rv, ha⟩
      · have z' := (if_neg hb).symm.trans z
        cases z'
    · by_cases hb : b = a
      · exact hb
      · exact absurd (if_neg hb) z
end L2

namespace L2
open PySem PySem.Spec PyProof.Rows


theorem walk_of {l : PySem.W.OpenLaw} {n k : Nat} {q : Program} {loose : List Str} {XP : (Str → Option Value) → Heap → Prop} {YP : World → Heap → Prop} {d : DefRec} {K : Params → PySem.W.Frag} {CX : World → CXT} {sp : World → Sp} {x : Str}
    (hn : l.most = some n) (hn2 : n ≤ sizeLine) (hdf : d.params.defaults = []) (hr : Room k callerA)
    (hY : ∀ (w : World) (h : Heap), YP w h → (K w.params).In h)
    (F : ∀ (w : World) (mg : Str → Option Value) (fa : Addr) (h : Heap), (K w.params).In h → h.Ns mainGlobals mg → mg d.name = some (.ref fa) →
      ∃ fd : FuncData, (∀ (s : Shared) (u : Value), BindsTo s fd ⟨[u], []⟩ [(x, u)]) ∧
        ∀ base : Heap, (K w.params).In base → base.Ns mainGlobals mg → FnOk l.prog w (K w.params) mg base (CX w) k fa fd [x] (sp w))
    (hsp : ∀ (w : World) (H : Hp) (a : Addr) (ns : List Int), ns.length ≤ n → Only H → SqL (K w.params) H a (ns.map V.int) → sp w [.ref a] H (fun v _ => v = .bl true) fun _ _ _ => False)
    (hCX : ∀ (w : World) (H : Hp) (s : Shared) (e : Value) (s' : Shared), CX w [] H s (fun _ _ _ => False) e s' → False) :
    PySem.W.WalkO q loose XP YP l.row.toRowW d [] (fun f vs => PySem.call f vs) := by
  refine Att.attach_call hn hdf fun w s₀ s₁ mg mb fa o pm cd doc a vs ns G Y ho hd hcd hmg hobj hints hlen hg => ?_
  have KX := hY w _ Y
  obtain ⟨fd, hb, hF⟩ := F w mg fa _ KX G.T.g hmg
  exact law_call KX G.T.g G.T.b G.T.builtins G.T.nolimit hg hobj hints (Nat.le_trans hlen hn2) hr hF hb (fun H hO hS => hsp w H a ns hlen hO hS) fun H e s' => hCX w H s₁ e s'
end L2

/-! SHORT WORDS over the layer: a def of the text, its body, what a loop and a test want. -/
namespace L2
open PySem PySem.Spec PyProof.Rows

/-! ### the text by places -/
noncomputable def inClass (s : Stmt) (j : Nat) : Stmt := match s with
  | .ClassDef _ _ _ body _ _ _ _ _ _ _ => body.getD j (.Pass ⟨0, 0, 0, 0⟩)
  | _ => .Pass ⟨0, 0, 0, 0⟩
noncomputable def defArgs (s : Stmt) : Arguments := match s with
  | .FunctionDef _ a _ _ _ _ _ _ _ _ => a
  | _ => { posonlyargs := [], args := [], vararg := none, kwonlyargs := [], kw_defaults := [], kwarg := none, defaults := [] }
noncomputable def defBody (s : Stmt) : List Stmt := match s with
  | .FunctionDef _ _ b _ _ _ _ _ _ _ => b
  | _ => []
noncomputable def defScope (s : Stmt) : Scope := match s with
  | .FunctionDef _ _ _ _ _ _ sc _ _ _ => sc
  | _ => { kind := .function, names := [], isGenerator := false, isCoroutine := false }

/-! ### no exception leaves a def -/
noncomputable abbrev CX0 : CXT := fun _ _ _ _ _ _ => False
noncomputable abbrev E0 : XK := fun _ _ _ => False
theorem pass0 {X : Cx} : Passes CX0 X E0 := fun _ _ _ _ _ _ _ h => h.elim

/-! ### a def (or method) of the text as it stands behind the top -/
set_option genInjectivity false in
structure Fun (K : PySem.W.Frag) (x qual : Str) (st : Stmt) (f : Addr) (fd : FuncData) : Prop where
  ex : ∃ (oc : Value) (od : Option Addr) (kV doc pm : Value) (an : Option Addr) (cdv ct : Value) (osl : Array (Option Value)),
    fd = PySem.W.fnOf x qual (defArgs st) (defBody st) (defScope st) .none kV doc pm an cdv ct ∧ K.lookup f = some ⟨oc, od, .func fd, osl⟩ ∧ PySem.W.codeIn K cdv qual = true
  kp : PySem.W.keepIn K (.ref f) = true
section
variable {P : Program} {w : World} {K : PySem.W.Frag} {mg : Str → Option Value} {base : Heap}
theorem Fun.ok {x qual : Str} {st : Stmt} {f : Addr} {fd : FuncData} {N ps : List Str} {k : Nat} {sp : Sp} (F : Fun K x qual st f fd) (S : FnScope N ps (defScope st)) (len : ∀ vs H Q E, sp vs H Q E → vs.length = ps.length)
    (hbody : ∀ (cdv : Value) (A : Around) (outer : List Env) (s : Shared) (H : Hp) (vs : List V) (Q : VK) (E : XK), Room k (A.deeper (envOfC qual (defScope st) s.heap.objs.size f cdv)) → sp vs H Q E →
      ∃ t, PSs (cxOf CX0 P w K mg base N qual (defScope st) f cdv A outer s H E).nox (defBody st) t ∧ t { nx := fun _ H' => Q .non H', rt := Q } (start N vs) H) : FnOk P w K mg base CX0 (k + 1) f fd ps sp := by
  obtain ⟨oc, od, kV, doc, pm, an, cdv, ct, osl, rfl, lk, hcd⟩ := F.ex
  refine fn_of lk hcd S len fun A outer s H vs Q E hr hsp => ?_
  obtain ⟨t, h, q⟩ := hbody cdv A outer s H vs Q E hr hsp
  exact ⟨t, h.nox, q⟩
theorem Fun.binds {x qual : Str} {st : Stmt} {f : Addr} {fd : FuncData} {ps : List Str} (F : Fun K x qual st f fd)
    (h : ∀ (kV doc pm : Value) (an : Option Addr) (cdv ct : Value) (us : List Value), us.length = ps.length → bindArgs (PySem.W.fnOf x qual (defArgs st) (defBody st) (defScope st) .none kV doc pm an cdv ct) ⟨us, []⟩ = pure (ps.zip us)) : Binds K fd ps [] := by
  obtain ⟨oc, od, kV, doc, pm, an, cdv, ct, osl, rfl, lk, hcd⟩ := F.ex
  exact .all (h kV doc pm an cdv ct)
theorem fun_mk {x qual : Str} {st : Stmt} {f : Addr} {oc : Value} {od an : Option Addr} {osl : Array (Option Value)} {kV doc pm cdv ct : Value} (l : K.lookup f = some ⟨oc, od, .func (PySem.W.fnOf x qual (defArgs st) (defBody st) (defScope st) .none kV doc pm an cdv ct), osl⟩)
    (c : PySem.W.codeIn K cdv qual = true) (k : PySem.W.keepIn K (.ref f) = true) : Fun K x qual st f (PySem.W.fnOf x qual (defArgs st) (defBody st) (defScope st) .none kV doc pm an cdv ct) := ⟨⟨oc, od, kV, doc, pm, an, cdv, ct, osl, rfl, l, c⟩, k⟩
end
theorem hu_of {A : Around} {k : Nat} (hr : Room k A) : A.units + 1 < cLine := Nat.lt_of_le_of_lt (Nat.add_le_add_left (by decide : 1 ≤ 64) _) hr.units

/-! ### expressions in short: the name that stands in the i-th slot -/
section
variable {X : Cx}
theorem pv (i : Nat) {x : Str} {pos : Pos} (hN : X.N[i]? = some x := by rfl) (hv : Vis X.env.scope x := by first | exact Or.inl rfl | exact Or.inr (Or.inl rfl) | exact Or.inr (Or.inr rfl)) (hd : (x == ("__debug__" : Str)) = false := by decide)
    (hcd : (x == ("__classdict__" : Str)) = false := by decide) : PE X (.Name x pos) (tVar i) := pe_var hN hv hd hcd
end

/-! ### tests -/
theorem iteF {A B : Prop} (h : B) : if false = true then A else B := by
  rw [if_neg Bool.false_ne_true]
  exact h
theorem iteT {A B : Prop} (h : A) : if true = true then A else B := by
  rw [if_pos rfl]
  exact h
theorem ite2 {c A B : Prop} [Decidable c] (h1 : c → A) (h2 : ¬ c → B) : if c then A else B := by
  by_cases h : c
  · rw [if_pos h]
    exact h1 h
  · rw [if_neg h]
    exact h2 h

/-! ### heaps -/
noncomputable def Same (H H' : Hp) : Prop := ∀ b o, H b = some o → H' b = some o
theorem Same.refl (H : Hp) : Same H H := fun _ _ h => h
theorem Same.trans {H H1 H2 : Hp} (a : Same H H1) (b : Same H1 H2) : Same H H2 := fun c o h => b c o (a c o h)
theorem Same.seq {K : PySem.W.Frag} {H H' : Hp} {a : Addr} {xs : List V} (e : Same H H') (h : SqL K H a xs) : SqL K H' a xs := by
  rcases h with (h | ⟨o, h⟩) | h
  · exact .inl (.inl (e _ _ h))
  · exact .inl (.inr ⟨o, e _ _ h⟩)
  · exact .inr h

end L2

namespace L2
open PySem PySem.Spec PyProof.Rows
section
variable {X : Cx}
end
/-! ### a dict's pairs: keys that differ -/
section
variable {κ : Type} [DecidableEq κ]
end
end L2

namespace L2
open PySem PySem.Spec PyProof.Rows

/-! ### a comprehension's cells: those of the names that it takes from around it -/
noncomputable def clOf (env : Env) : List (Str × NameKind) → List (Str × Addr) → List (Str × Addr)
  | [], acc => acc
  | (n, k) :: r, acc => clOf env r (if (k == NameKind.free) = true then (n, (env.cells.lookup n).getD 0) :: acc else acc)
theorem clOf_ok {env : Env} : ∀ (ns : List (Str × NameKind)) (acc : List (Str × Addr)), (∀ x ∈ ns, x.2 = .free → ∃ c, env.cells.lookup x.1 = some c) →
    (∀ x c, acc.lookup x = some c → env.cells.lookup x = some c) → ∀ x c, (clOf env ns acc).lookup x = some c → env.cells.lookup x = some c
  | [], acc, _, ha => ha
  | (n, k) :: r, acc, hn, ha => by
    refine clOf_ok r _ (fun x hx => hn x (List.mem_cons_of_mem _ hx)) ?_
    intro x c e
    by_cases hk : (k == NameKind.free) = true
    · rw [if_pos hk] at e
      have hk' : k = .free := by simpa using hk
      obtain ⟨c', ec⟩ := hn (n, k) List.mem_cons_self hk'
      rw [List.lookup_cons] at e
      cases hx : x == n with
      | true =>
        rw [hx] at e
        have : x = n := by simpa using hx
        subst this
        have ec' : List.lookup x env.cells = some c' := ec
        rw [ec'] at e
        simp at e
        rw [← e]; exact ec'
      | false => rw [hx] at e; exact ha x c e
    · rw [if_neg hk] at e; exact ha x c e
theorem clOf_keep {env : Env} : ∀ (ns : List (Str × NameKind)) (acc : List (Str × Addr)) (x : Str), (∃ c, acc.lookup x = some c) → ∃ c, (clOf env ns acc).lookup x = some c
  | [], acc, x, h => h
  | (n, k) :: r, acc, x, h => by
    refine clOf_keep r _ x ?_
    by_cases hk : (k == NameKind.free) = true
    · rw [if_pos hk, List.lookup_cons]
      cases hx : x == n with
      | true => exact ⟨_, rfl⟩
      | false => exact h
    · rw [if_neg hk]; exact h
theorem clOf_has {env : Env} : ∀ (ns : List (Str × NameKind)) (acc : List (Str × Addr)) (x : Str), (x, NameKind.free) ∈ ns → ∃ c, (clOf env ns acc).lookup x = some c
  | [], acc, x, h => absurd h (by simp)
  | (n, k) :: r, acc, x, h => by
    rcases List.mem_cons.mp h with e | e
    · injection e with e1 e2
      subst e1 e2
      refine clOf_keep r _ x ⟨(env.cells.lookup x).getD 0, ?_⟩
      rw [if_pos (by decide)]
      simp
    · exact clOf_has r _ x e
theorem closureFor_eq {scope : Scope} {env : Env} (h : ∀ x ∈ scope.names, x.2 = .free → ∃ c, env.cells.lookup x.1 = some c) : closureFor scope env = pure (clOf env scope.names []) := by
  have key : ∀ (ns : List (Str × NameKind)) (acc : List (Str × Addr)), (∀ x ∈ ns, x.2 = .free → ∃ c, env.cells.lookup x.1 = some c) →
      (do let r ← forIn (m := Sem) ns acc (fun x r => if (x.2 == NameKind.free) = true then do let c ← cellOf env x.1; pure (ForInStep.yield ((x.1, c) :: r)) else pure (ForInStep.yield r)); pure r : Sem (List (Str × Addr))) = pure (clOf env ns acc) := by
    intro ns
    induction ns with
    | nil => intro acc _; rfl
    | cons y r ih =>
      intro acc hy
      obtain ⟨n, k⟩ := y
      rw [List.forIn_cons]
      by_cases hk : (k == NameKind.free) = true
      · have hk' : k = .free := by simpa using hk
        obtain ⟨c, ec⟩ := hy (n, k) List.mem_cons_self hk'
        have ec' : List.lookup n env.cells = some c := ec
        have e1 : cellOf env n = pure c := by unfold cellOf; rw [ec']
        simp only [hk, if_true, e1]
        have := ih ((n, c) :: acc) fun x hx => hy x (List.mem_cons_of_mem _ hx)
        show _ = pure (clOf env r (if (k == NameKind.free) = true then (n, (List.lookup n env.cells).getD 0) :: acc else acc))
        rw [if_pos hk, ec']
        exact this
      · simp only [hk]
        have := ih acc fun x hx => hy x (List.mem_cons_of_mem _ hx)
        show _ = pure (clOf env r (if (k == NameKind.free) = true then (n, (List.lookup n env.cells).getD 0) :: acc else acc))
        rw [if_neg hk]
        exact this
  simp only [closureFor]
  rw [key scope.names [] h]
  rfl
/-! ### the turns of a comprehension -/
section
variable {prog : Program} {w : World} {A : Around} {R : Result → Shared → Prop} {s : Shared}
theorem compLoop_any {elt target iter : Expr} {ifs : List Expr} {scope : Scope} {pos : Pos} {it acc : Value} {env : Env} (I : Nat → Shared → Prop)
    (turn : ∀ n s, I n s → wpAny (model prog w) A (pyNext it) (fun r s₁ => match r with
      | none => R (.ok .next) s₁
      | some v => wpAny (model prog w) A (letOwnedTupleGo target it v) (fun _ s₁' => wpAny (model prog w) A (assign target env v) (fun _ s₂ =>
          wpAny (model prog w) A (forIn ifs true fun c r => if r = true then do let ok ← isTrue c env (eval c env); pure (ForInStep.yield ok) else pure (ForInStep.yield r)) (fun ok s₃ =>
            if ok = true then wpAny (model prog w) A (eval elt env) (fun x s₄ =>
              wpAny (model prog w) A (call (.builtin "list.append") [acc, x]) (fun _ s₅ => ∃ m, m < n ∧ I m s₅) (fun _ _ => False) s₄) (fun _ _ => False) s₃
            else ∃ m, m < n ∧ I m s₃) (fun _ _ => False) s₂) (fun _ _ => False) s₁') (fun _ _ => False) s₁) (fun _ _ => False) s)
    (n : Nat) (h : I n s) :
    codeAny (model prog w) A (.compLoop (.ListComp elt [⟨target, iter, ifs, 0⟩] scope pos) 0 it acc env) R s := by
  refine codeAny_loop rfl I (fun n s hI => ?_) n h
  show wpAny _ A ((compTurn (.ListComp elt [⟨target, iter, ifs, 0⟩] scope pos) 0 it acc env).onRaise (fun x => do noteFrame x env; theTreesLotGoes x)) _ _ s
  refine wpAny_noted ?_
  rw [compTurn_list]
  refine wpAny_bind (wpAny_standAt (wpAny_bind (wpAny_mono (turn n s hI) (fun r s₁ h₁ => ?_) fun _ _ h' => h'.elim)))
  cases r with
  | none => exact wpAny_pure h₁
  | some v =>
    refine wpAny_bind (wpAny_mono h₁ (fun _ s₁' h₁' => ?_) fun _ _ h' => h'.elim)
    refine wpAny_bind (wpAny_mono h₁' (fun _ s₂ h₂ => wpAny_bind (wpAny_mono h₂ (fun ok s₃ h₃ => ?_) fun _ _ h' => h'.elim)) fun _ _ h' => h'.elim)
    cases ok with
    | false => exact wpAny_pure ⟨rfl, h₃⟩
    | true =>
      exact wpAny_bind (wpAny_bind (wpAny_mono h₃ (fun x s₄ h₄ => wpAny_bind (wpAny_mono h₄ (fun _ s₅ h₅ => wpAny_pure (wpAny_pure ⟨rfl, h₅⟩)) fun _ _ h' => h'.elim)) fun _ _ h' => h'.elim))
end

/-! ### the block's context -/
noncomputable def blk (X : Cx) (N' : List Str) (scope : Scope) (fp : List Addr) (s : Shared) (H : Hp) : Cx :=
  { X with N := N', s₀ := s, H₀ := H, env := compEnvC scope (clOf X.env scope.names []) s.heap.objs.size X.env, outer := X.stack, stack := X.stack, ex := fp, fn := fun _ => false, xe := fun _ _ => False }
noncomputable def PTs (X : Cx) (ifs : List Expr) (t : TT) : Prop :=
  ∀ (pins : List (Addr × Obj)) (s : Shared) (σ : St) (H : Hp) (Q : Bool → Hp → Prop), Inv X pins σ H s → t σ H Q →
    wpAny (model X.prog X.w) X.A (forIn ifs true fun c r => if r = true then do let ok ← isTrue c X.env (eval c X.env); pure (ForInStep.yield ok) else pure (ForInStep.yield r)) (TP X pins σ Q) X.xe s
noncomputable def tYes : TT := fun _ H Q => Q true H
theorem pts_nil {X : Cx} : PTs X [] tYes := fun _ _ _ H _ I h => wpAny_tests_nil ⟨H, I, h⟩
inductive Ext : St → St → Prop
  | nil : Ext [] []
  | no {σ τ : St} {a : Option V} : Ext σ τ → Ext (none :: σ) (a :: τ)
  | yes {σ τ : St} {v : V} : Ext σ τ → Ext (some v :: σ) (some v :: τ)
theorem Ext.len : ∀ {σ τ : St}, Ext σ τ → σ.length = τ.length
  | _, _, .nil => rfl
  | _, _, .no h => by simp [h.len]
  | _, _, .yes h => by simp [h.len]
theorem Ext.get : ∀ {σ τ : St}, Ext σ τ → ∀ (i : Nat) (v : V), σ[i]? = some (some v) → τ[i]? = some (some v)
  | _, _, .nil, i, v, e => e
  | _, _, .no h, 0, v, e => by simp at e
  | _, _, .no h, i + 1, v, e => by simpa using h.get i v (by simpa using e)
  | _, _, .yes h, 0, v, e => by simpa using e
  | _, _, .yes h, i + 1, v, e => by simpa using h.get i v (by simpa using e)
noncomputable def blkSt (k : Nat) (fm : List Nat) (σ : St) : St := List.replicate k none ++ fm.map fun j => (σ[j]?).join
noncomputable def tComp (k : Nat) (fm : List Nat) (wi : TI) (g : TG) (tt : TT) (te : TE) : TE := fun σ H Q => wi σ H fun J H1 => ∀ D, H1 D = none → ∃ W : Nat → Nat → List V → Hp → Prop,
  (∃ m, W 0 m [] (upd H1 D (.lst []))) ∧ ∀ i m ys H2, W i m ys H2 → H2 D = some (.lst ys) ∧ ys.length < sizeLine ∧ ((J.stop i H2 ∧ Q (.ref D) H2) ∨ (J.go i H2 ∧ ∃ N : List V → Hp → Prop, (∀ ys' H', N ys' H' → ∃ m', m' < m ∧ W (i + 1) m' ys' H') ∧ ∀ x H3, J.yld i H2 x H3 →
    g x (blkSt k fm σ) H3 fun σ3 H4 => Ext (blkSt k fm σ) σ3 ∧ tt σ3 H4 fun b H5 => if b = true then te σ3 H5 fun y H6 => H6 D = some (.lst ys) ∧ N (ys ++ [y]) (upd H6 D (.lst (ys ++ [y]))) else N ys H5))
theorem Un.tail {fs ex : List Addr} {H H' : Hp} {h h1 h2 : Heap} {C : Addr} (u : Un fs ex H H' h h1) (k : ∀ b o, b ≠ C → h1.get? b = some o → h2.get? b = some o) (hC : h.get? C = none) : Un fs ex H H' h h2 := by
  have ne : ∀ b o, h.get? b = some o → b ≠ C := fun b o e z => by rw [z, hC] at e; cases e
  exact ⟨fun b o e n hf hx => k b o (ne b o e) (u.keep b o e n hf hx), fun b o e n hf hx => let ⟨sl, q⟩ := u.slot b o e n hf hx; ⟨sl, k b _ (ne b o e) q⟩, u.free,
    fun b o e hx => let ⟨o', q⟩ := u.there b o e hx; ⟨o', k b _ (ne b o e) q⟩, u.tups, u.frzs, u.tbls⟩
theorem HOk.tail {P : Program} {w : World} {H : Hp} {h1 h2 : Heap} {C : Addr} (ok : HOk P w H h1) (k : ∀ b o, b ≠ C → h1.get? b = some o → h2.get? b = some o) (hC : H C = none) : HOk P w H h2 := fun a o e => by
  have ne : ∀ b u, H b = some u → b ≠ C := fun b u q z => by rw [z, hC] at q; cases q
  refine (ok a o e).stay (fun b u hb q => k b u ?_ q) (fun _ q => q) fun _ _ q => q
  rcases hb with z | z
  · rw [z]; exact ne a o e
  · exact ne b _ z
theorem lookup_relabel {env : Env} : ∀ {names : List (Str × NameKind)} {x : Str} {k : NameKind},
    (names.map fun (n, k) => if (k == NameKind.free && env.scope.kind == .function && env.kindOf n == some .cell) then (n, NameKind.cell) else (n, k)).lookup x = some k → ∃ k', names.lookup x = some k' ∧ (k = k' ∨ (k' = .free ∧ k = .cell))
  | [], _, _, h => by simp at h
  | (n, k0) :: r, x, k, h => by
    have ih := @lookup_relabel env r x k
    have h : List.lookup x ((if (k0 == NameKind.free && env.scope.kind == .function && env.kindOf n == some .cell) = true then (n, NameKind.cell) else (n, k0)) :: (r.map fun (n, k) => if (k == NameKind.free && env.scope.kind == .function && env.kindOf n == some .cell) then (n, NameKind.cell) else (n, k))) = some k := h
    by_cases hc : (k0 == NameKind.free && env.scope.kind == .function && env.kindOf n == some .cell) = true
    · rw [if_pos hc, List.lookup_cons] at h
      have k0f : k0 = .free := by
        simp only [Bool.and_eq_true] at hc
        simpa using hc.1.1
      rw [List.lookup_cons]
      cases hx : x == n with
      | true => rw [hx] at h; injection h with h; exact ⟨k0, rfl, .inr ⟨k0f, h.symm⟩⟩
      | false => rw [hx] at h; exact ih h
    · rw [if_neg hc, List.lookup_cons] at h
      rw [List.lookup_cons]
      cases hx : x == n with
      | true => rw [hx] at h; injection h with h; exact ⟨k0, rfl, .inl h.symm⟩
      | false => rw [hx] at h; exact ih h
set_option genInjectivity false in
structure BlkScope (X : Cx) (N' : List Str) (k : Nat) (fm : List Nat) (scope : Scope) : Prop where
  kind : scope.kind = .function
  nocell : ∀ y ∈ scope.names, y.2 ≠ .cell
  names : ∀ y ∈ scope.names, y.2 = .local → scope.names.lookup y.1 = some .local
  free : ∀ y ∈ scope.names, y.2 = .free → X.env.kindOf y.1 = some .cell ∨ X.env.kindOf y.1 = some .free
  len : N'.length = k + fm.length
  slots : ∀ i x, k ≤ i → N'[i]? = some x → scope.names.lookup x = some .free ∧ ∃ j, fm[i - k]? = some j ∧ X.N[j]? = some x
section
variable {X : Cx} {pins : List (Addr × Obj)} {σ : St} {H : Hp} {s : Shared}
theorem Inv.block {N' : List Str} {k : Nat} {fm : List Nat} {scope : Scope} {fp : List Addr} {h' : Heap} {tk : Nat} (B : BlkScope X N' k fm scope) (I : Inv X pins σ H s) (hf : ∀ b ∈ fp, FpOk X pins H b) (ho : ∀ b ∈ fp, ∃ o, s.heap.get? b = some o)
    (ns : h'.Ns s.heap.objs.size (fun _ => none)) (kp : ∀ b o, s.heap.get? b = some o → h'.get? b = some o) : Inv (blk X N' scope fp s H) [] (blkSt k fm σ) H { s with heap := h', toks := tk } := by
  have hfree : ∀ x ∈ scope.names, x.2 = .free → ∃ c, X.env.cells.lookup x.1 = some c := fun x hx hk => I.ok.has x.1 (B.free x hx hk)
  have hcl : ∀ x c, (clOf X.env scope.names []).lookup x = some c → X.env.cells.lookup x = some c := clOf_ok scope.names [] hfree fun x c e => by simp at e
  have stk : ∀ b ∈ frs X.stack, b ∈ X.env.locals :: X.fs := I.stkSub
  have hC : H s.heap.objs.size = none := I.hok.fresh (Nat.le_refl _)
  have ok : (blk X N' scope fp s H).Ok := {
    mod := I.ok.mod
    kind := B.kind
    glob := I.ok.glob
    blt := I.ok.blt
    above := Nat.le_refl _
    inj := fun x y c h1 h2 => I.ok.inj x y c (hcl x c h1) (hcl y c h2)
    has := fun x hx => by
      have hx : (relabel scope X.env).names.lookup x = some .cell ∨ (relabel scope X.env).names.lookup x = some .free := hx
      have : scope.names.lookup x = some .free := by
        rcases hx with e | e
        · obtain ⟨k', e1, e2⟩ := lookup_relabel e
          rcases e2 with e2 | ⟨e2, _⟩
          · subst e2; exact absurd rfl (B.nocell _ (PySem.mem_of_lookup e1))
          · rw [e1, e2]
        · obtain ⟨k', e1, e2⟩ := lookup_relabel e
          rcases e2 with e2 | ⟨e2, e3⟩
          · rw [e1, e2]
          · rw [e1, e2]
      exact clOf_has scope.names [] x (PySem.mem_of_lookup this)
    cab := fun x c e => by cases e
    hd := I.ok.hd
    frames := I.ok.frames
    stk := .inl rfl
    exf := fun b hb => ⟨fun z => by
        obtain ⟨o, e⟩ := ho b hb
        have hlt := Heap.lt_size e
        rw [z] at hlt
        exact Nat.lt_irrefl _ hlt, fun x c e => (hf b hb).2.2.2.2.1 x c (hcl x c e)⟩
    bs := I.bs
    bsz := Nat.le_trans I.ok.bsz I.sz
    noex := fun b o e hb => by
      rcases (hf b hb).2.2.2.1 with z | z
      · exact I.ok.noex b o e z
      · exact absurd (Nat.lt_of_lt_of_le (Heap.lt_size e) (Nat.le_trans I.ok.bsz z)) (Nat.lt_irrefl _)
    exfs := fun b hb z => (List.mem_cons.mp (stk b z)).elim (hf b hb).2.1 (hf b hb).2.2.1
    funs := I.stack
    frf := I.stkFree }
  refine ⟨ok, rfl, I.bare, Un.kept kp, ⟨_, ns, fun i x v h1 h2 h3 => ?_⟩, fun x c e => ?_, hC, fun x c e => I.freeC x c (hcl x c e), fun p hp => ?_, I.hok.kept kp, ?_⟩
  · have hk : k ≤ i := by
      refine Nat.le_of_not_lt fun z => ?_
      unfold blkSt at h2
      rw [List.getElem?_append_left (by simpa using z), List.getElem?_replicate, if_pos z] at h2
      cases h2
    obtain ⟨e1, j, e2, e3⟩ := B.slots i x hk h1
    have e4 : σ[j]? = some (some v) := by
      unfold blkSt at h2
      rw [List.getElem?_append_right (by simpa using hk), List.length_replicate, List.getElem?_map, e2] at h2
      have h2 : some (σ[j]?).join = some (some v) := h2
      injection h2 with h2
      cases e : σ[j]? with
      | none => rw [e] at h2; cases h2
      | some o => rw [e] at h2; rw [show o = some v from h2]
    have kf := B.free (x, .free) (PySem.mem_of_lookup e1) rfl
    obtain ⟨m, hn, hl⟩ := I.loc
    obtain ⟨u, ru, lk⟩ := hl j x v e3 e4 (.inr kf)
    refine ⟨u, ru, .inr ⟨?_, ?_⟩⟩
    · have h3 : (relabel scope X.env).names.lookup x = some .local ∨ (relabel scope X.env).names.lookup x = some .cell ∨ (relabel scope X.env).names.lookup x = some .free := h3
      rcases h3 with z | z
      · obtain ⟨k', q1, q2⟩ := lookup_relabel z
        rw [e1] at q1
        injection q1 with q1
        subst q1
        rcases q2 with q2 | ⟨_, q2⟩ <;> cases q2
      · exact z
    · obtain ⟨c, hc⟩ := clOf_has (env := X.env) scope.names [] x (PySem.mem_of_lookup e1)
      refine ⟨c, hc, ?_⟩
      rcases lk with ⟨z, _⟩ | ⟨_, c', ec, ic⟩
      · rcases kf with y | y <;> (rw [z] at y; cases y)
      · rw [hcl x c hc] at ec
        injection ec with ec
        subst ec
        exact ic.keeps kp
  · obtain ⟨v, q⟩ := I.cell x c (hcl x c e)
    exact ⟨v, q.keeps kp⟩
  · obtain ⟨p1, p2, p3, p4, p5⟩ := I.pin p ((List.mem_append.mp hp).elim (fun z => List.mem_append_left _ z) fun z => absurd z (by simp))
    refine ⟨kp _ _ p1, p2, fun z => ?_, fun z => (List.mem_cons.mp (stk _ z)).elim p3 p4, p5⟩
    have hlt := Heap.lt_size p1
    rw [z] at hlt
    exact Nat.lt_irrefl _ hlt
  · show (blkSt k fm σ).length = N'.length
    unfold blkSt
    rw [List.length_append, List.length_replicate, List.length_map, B.len]
theorem blk_loop {X : Cx} {elt iter tg : Expr} {ifs : List Expr} {scope : Scope} {pos : Pos} {g : TG} {tt : TT} {te : TE} {J : It} {fp : List Addr} {it D : Addr} {tn : Nat → Heap → Prop} {σ0 : St} {H3 : Hp} {s4 : Shared} {Q : VK} {R : Result → Shared → Prop} {W : Nat → Nat → List V → Hp → Prop} {m0 : Nat}
    (hx : X.xe = fun _ _ => False) (hc : X.calm = true) (T : Turn X.prog X.w X.K tg J fp it tn) (stat : ∀ {H' : Hp}, (∀ b ∈ fp, H' b = none) → ∀ b ∈ fp, FpOk X [] H' b) (hg : PG X tg g) (ht : PTs X ifs tt) (he : PE X elt te)
    (turn : ∀ i m ys H2, W i m ys H2 → H2 D = some (.lst ys) ∧ ys.length < sizeLine ∧ ((J.stop i H2 ∧ Q (.ref D) H2) ∨ (J.go i H2 ∧ ∃ N : List V → Hp → Prop, (∀ ys' H', N ys' H' → ∃ m', m' < m ∧ W (i + 1) m' ys' H') ∧ ∀ x H3, J.yld i H2 x H3 →
      g x σ0 H3 fun σ3 H4 => Ext σ0 σ3 ∧ tt σ3 H4 fun b H5 => if b = true then te σ3 H5 fun y H6 => H6 D = some (.lst ys) ∧ N (ys ++ [y]) (upd H6 D (.lst (ys ++ [y]))) else N ys H5)))
    (I4 : Inv X [] σ0 H3 s4) (st4 : tn 0 s4.heap) (fr4 : ∀ b ∈ fp, H3 b = none) (w4 : W 0 m0 [] H3)
    (hR : ∀ H' s', Inv X [] σ0 H' s' → Q (.ref D) H' → R (.ok .next) s') :
    codeAny (model X.prog X.w) X.A (.compLoop (.ListComp elt [⟨tg, iter, ifs, 0⟩] scope pos) 0 (.ref it) (.ref D) X.env) R s4 := by
  refine compLoop_any (fun n s' => ∃ i ys H', Inv X [] σ0 H' s' ∧ tn i s'.heap ∧ (∀ b ∈ fp, H' b = none) ∧ W i n ys H') ?_ m0 ⟨0, [], H3, I4, st4, fr4, w4⟩
  rintro n s5 ⟨i, ys, H5, I5, st5, fr5, w5⟩
  obtain ⟨hD, hl, cs⟩ := turn i n ys H5 w5
  rcases cs with ⟨stop, q⟩ | ⟨go, N, hN, step⟩
  · refine thn (T.done X rfl rfl rfl hc i [] s5 σ0 H5 _ I5 (stat fr5) st5 stop) fun r s6 ⟨hr, I6⟩ => ?_
    subst hr
    exact hR H5 s6 I6 q
  · refine thn (T.item X rfl rfl rfl hc i [] s5 σ0 H5 _ I5 (stat fr5) st5 go) fun r s6 ⟨u, hr, h6⟩ => ?_
    subst hr
    refine thn h6 fun _ s7 ⟨x, H7, I7, r7, y7, st7, fr7⟩ => ?_
    have I7' := I7.pinned (stat fr7) (T.obj _ _ st7)
    have again : ∀ {σ' : St} {H' : Hp} {s' : Shared}, Ext σ0 σ' → Inv X ([] ++ pinsAt fp s7.heap) σ' H' s' → Inv X [] σ0 H' s' ∧ tn (i + 1) s'.heap ∧ ∀ b ∈ fp, H' b = none := fun {σ' H' s'} ex I' => by
      refine ⟨I'.unpinned.weak ex.len ex.get, T.keep _ _ _ st7 fun b hb o e => (I'.pin (b, o) (List.mem_append_right _ (List.mem_append_right _ (mem_pinsAt hb e)))).1, fun b hb => ?_⟩
      obtain ⟨o, e, d⟩ := T.obj _ _ st7 b hb
      exact (I'.pin (b, o) (List.mem_append_right _ (List.mem_append_right _ (mem_pinsAt hb e)))).2.1
    have w8 := hg _ s7 σ0 H7 x u _ I7' r7 (step x H7 y7)
    rw [hx] at w8
    refine thn w8 fun _ s8 ⟨σ8, H8, I8, ex8, q8⟩ => ?_
    have w9 := ht _ s8 σ8 H8 _ I8 q8
    rw [hx] at w9
    refine thn w9 fun ok s9 ⟨H9, I9, q9⟩ => ?_
    cases ok with
    | false =>
      obtain ⟨m', hm, w'⟩ := hN _ _ q9
      obtain ⟨a1, a2, a3⟩ := again ex8 I9
      exact ⟨m', hm, i + 1, ys, H9, a1, a2, a3, w'⟩
    | true =>
      have w10 := he _ s9 σ8 H9 _ I9 q9
      rw [hx] at w10
      refine thn w10 fun y s10 ⟨yv, H10, I10, r10, hD10, n10⟩ => ?_
      obtain ⟨m', hm, w'⟩ := hN _ _ n10
      have w11 := mt_append (X := X) _ s10 σ8 H10 (.ref D) [yv] (.ref D) [y] (fun v H' => v = .non ∧ H' = upd H10 D (.lst (ys ++ [yv]))) I10 rfl (.cons r10 .nil) ⟨D, ys, yv, rfl, rfl, hD10, hl, rfl, rfl⟩
      rw [hx] at w11
      refine thn w11 fun _ s11 ⟨_, H11, I11, _, _, e11⟩ => ?_
      subst e11
      obtain ⟨a1, a2, a3⟩ := again ex8 I11
      exact ⟨m', hm, i + 1, _, _, a1, a2, a3, w'⟩
theorem pe_comp {elt iter tg : Expr} {ifs : List Expr} {scope : Scope} {pos : Pos} {N' : List Str} {k : Nat} {fm : List Nat} {wi : TI} {g : TG} {tt : TT} {te : TE} (B : BlkScope X N' k fm scope) (hc : X.calm = true) (hi : PI X tg iter wi)
    (hb : ∀ fp s H, PG (blk X N' scope fp s H) tg g ∧ PTs (blk X N' scope fp s H) ifs tt ∧ PE (blk X N' scope fp s H) elt te)
    (hs : ∀ x, foldedSetIterable iter X.env x = pure x := by intro _; rfl) : PE X (.ListComp elt [⟨tg, iter, ifs, 0⟩] scope pos) (tComp k fm wi g tt te) := by
  intro pins s σ H Q I h
  have hfree : ∀ x ∈ scope.names, x.2 = .free → ∃ c, X.env.cells.lookup x.1 = some c := fun x hx hk => I.ok.has x.1 (B.free x hx hk)
  rw [eval_ListComp]
  refine wpAny_comprehension_free (use := none) rfl hs (closureFor_eq hfree) B.kind B.names (thn (hi pins s σ H _ I h) fun v s1 h1 => thn h1 fun itv s2 h2 => ?_)
  obtain ⟨it, fp, tn, J, H2, e, I2, T, st2, f2, h2⟩ := h2
  subst e
  obtain ⟨W, ⟨m0, w0⟩, turn⟩ := h2 s2.heap.objs.size I2.fresh
  refine wpAny_newObj_type (wpAny_newFunctionEnv B.nocell (by intro y hy; simp at hy) (fun h4 hns4 hsb4 => ?_) B.kind)
  have I3 := I2.lnew (its := []) (ys := []) (t' := s2.toks) .nil (Nat.zero_le _)
  have hf3 : ∀ b ∈ fp, FpOk X pins (upd H2 s2.heap.objs.size (.lst [])) b := fun b hb => by
    obtain ⟨o, e, _⟩ := T.obj _ _ st2 b hb
    refine ⟨?_, (f2 b hb).2⟩
    rw [upd_ne (fun z => Nat.lt_irrefl _ (z ▸ Heap.lt_size e))]
    exact (f2 b hb).1
  have ho3 : ∀ b ∈ fp, ∃ o, (s2.heap.push { cls := .type "list", data := .seq ([] : List Value).toArray }).get? b = some o := fun b hb => by
    obtain ⟨o, e, _⟩ := T.obj _ _ st2 b hb
    exact ⟨o, Heap.get?_push_of_some _ e⟩
  have kp4 : ∀ b o, (s2.heap.push { cls := .type "list", data := .seq ([] : List Value).toArray }).get? b = some o → h4.get? b = some o := fun b o e =>
    hsb4.extBut b o (fun z => Nat.lt_irrefl _ (z ▸ Heap.lt_size e)) (Heap.get?_push_of_some _ e)
  have I4 := I3.block (fp := fp) (h' := h4) (tk := s2.toks + ([] : List (Str × Value)).length) B hf3 ho3 hns4 kp4
  generalize hs3 : ({ s2 with heap := s2.heap.push { cls := .type "list", data := .seq ([] : List Value).toArray }, toks := s2.toks } : Shared) = s3 at *
  obtain ⟨hg, ht, he⟩ := hb fp s3 (upd H2 s2.heap.objs.size (.lst []))
  have st4 : tn 0 h4 := T.keep _ _ _ st2 fun b hb o e => kp4 b o (Heap.get?_push_of_some _ e)
  have stat : ∀ {H' : Hp}, (∀ b ∈ fp, H' b = none) → ∀ b ∈ fp, FpOk (blk X N' scope fp s3 (upd H2 s2.heap.objs.size (.lst []))) [] H' b := fun {H'} hn b hb => by
    obtain ⟨f0, f1, f3, f4, f5, f6⟩ := hf3 b hb
    obtain ⟨g1, g2⟩ := I4.ok.exf b hb
    exact ⟨hn b hb, g1, I4.ok.exfs b hb, .inl hb, g2, fun p hp => f6 p ((List.mem_append.mp hp).elim (fun z => List.mem_append_left _ z) fun z => absurd z (by simp))⟩
  have loop : codeAny (model X.prog X.w) X.A (.compLoop (.ListComp elt [⟨tg, iter, ifs, 0⟩] scope pos) 0 (.ref it) (.ref s2.heap.objs.size) (compEnvC scope (clOf X.env scope.names []) s3.heap.objs.size X.env))
      (compPost (model X.prog X.w) X.A X.xe none (EP X pins σ Q) (.ref s2.heap.objs.size) s3.heap.objs.size) { s3 with heap := h4, toks := s2.toks + ([] : List (Str × Value)).length } := by
    refine blk_loop (X := blk X N' scope fp s3 (upd H2 s2.heap.objs.size (.lst []))) (D := s2.heap.objs.size) (Q := Q) (W := W) (m0 := m0) rfl hc T stat hg ht he turn I4 st4 (fun b hb => (hf3 b hb).1) w0 ?_
    intro H' s' I' q
    obtain ⟨m, hn, _⟩ := I'.loc
    refine ⟨m, hn, fun h'' hs'' => ?_⟩
    have hC : s3.heap.get? s3.heap.objs.size = none := by
      cases e : s3.heap.get? s3.heap.objs.size with
      | none => rfl
      | some o => exact absurd (Heap.lt_size e) (Nat.lt_irrefl _)
    have u : Un (frs X.stack) fp (upd H2 s2.heap.objs.size (.lst [])) H' s3.heap h'' := Un.tail I'.base (fun b o hb e => hs''.extBut b o hb e) hC
    refine ⟨.ref s2.heap.objs.size, H', ?_, rfl, q⟩
    refine I3.call' (s' := { s' with heap := h'' }) (ch := fp) I'.os u (I'.hok.tail (fun b o hb e => hs''.extBut b o hb e) I'.free) I'.bare fun b hb => ?_
    obtain ⟨f0, f1, f3, f4, f5, f6⟩ := hf3 b hb
    exact ⟨f4, f1, f5, f6⟩
  subst hs3
  exact codeAny_compStart_list loop (T.self X.A 0 _ _ _ st4 loop)
end
end L2

namespace L2
open PySem PySem.Spec PyProof.Rows

/-! ### the signs of a text, walked -/
noncomputable def Its (z : Str) : It := ⟨fun i _ => i < z.cps.size, fun i H x H' => H' = H ∧ ∃ c, z.cps[i]? = some c ∧ x = .str ⟨#[c]⟩, fun i _ => z.cps.size ≤ i⟩
theorem turn_str {P : Program} {w : World} {K : PySem.W.Frag} {tg : Expr} (it : Addr) (z : Str) (t : Tok) (n : String) (hn : n = "str_ascii_iterator" ∨ n = "str_iterator") :
    Turn P w K tg (Its z) [it] it (fun i h => h.IsStrIter it n z t i) where
  mem := by simp
  obj := fun i h st b hb => by
    have e : b = it := by simpa using hb
    subst e
    obtain ⟨o, ho, _, hd⟩ := st
    exact ⟨o, ho, fun v z => by rw [hd] at z; cases z⟩
  keep := fun i h h' st k => let ⟨o, ho, r⟩ := st; ⟨o, k it (by simp) o ho, r⟩
  item := by
    intro X hP hw hK hc i pins s σ H E I hf st hg
    subst hP hw hK
    obtain ⟨f0, f1, f2, f3, f4, f5⟩ := hf it (by simp)
    have main : ∀ (W : Walks X.prog X.w X.A it [it] [it] z.cps.size (SignAt z) (fun i h => h.IsStrIter it n z t i)),
      wpAny (model X.prog X.w) X.A (pyNext (.ref it)) (fun r s1 => ∃ u, r = some u ∧
        wpAny (model X.prog X.w) X.A (letOwnedTupleGo tg (.ref it) u) (fun _ s2 => ∃ x H', Inv X pins σ H' s2 ∧ RelV x u ∧ (Its z).yld i H x H' ∧ s2.heap.IsStrIter it n z t (i + 1) ∧ ∀ b ∈ [it], H' b = none) E s1) E s := by
      intro W
      refine W.item i s _ _ hg st fun v h' tk hv st' kk => ?_
      obtain ⟨c, u, hcx, rfl⟩ := hv
      have I1 : Inv X pins σ H { s with heap := h', toks := tk } := I.turned (fun b o hb e => kk b o (by simpa using hb) e) f0 f1 f3 f4 f5
      obtain ⟨o, ho, hcl, hd⟩ := id st'
      refine ⟨_, rfl, go_of (s := { s with heap := h', toks := tk }) (n := n) ho hcl hd (by rcases hn with e | e <;> subst e <;> decide) ⟨.str ⟨#[c]⟩, H, I1, ⟨u, rfl⟩, ⟨rfl, c, hcx, rfl⟩, st', fun b hb => (hf b hb).1⟩⟩
    rcases hn with e | e
    · subst e; exact main (Walks.strAscii (I.ok.hd hc) it z t)
    · subst e; exact main (Walks.strWide (I.ok.hd hc) it z t)
  done := by
    intro X hP hw hK hc i pins s σ H E I hf st hg
    subst hP hw hK
    obtain ⟨f0, f1, f2, f3, f4, f5⟩ := hf it (by simp)
    have hi : z.cps[i]? = none := Array.getElem?_eq_none hg
    rcases hn with e | e
    · subst e; exact wpAny_pyNext_ascii_end (I.ok.hd hc) st hi fun h' he' => ⟨rfl, I.turned (t' := s.toks) (fun b o hb e => he' b o hb e) f0 f1 f3 f4 f5⟩
    · subst e; exact wpAny_pyNext_wide_end (I.ok.hd hc) st hi fun h' he' => ⟨rfl, I.turned (t' := s.toks) (fun b o hb e => he' b o hb e) f0 f1 f3 f4 f5⟩
  self := fun _ _ _ _ _ st h => by
    rcases hn with e | e
    · subst e; exact wpAny_pyIter_striter_ascii st h
    · subst e; exact wpAny_pyIter_striter_wide st h
section
variable {X : Cx} {tg : Expr}
noncomputable def iStr (tl : TE) : TI := fun σ H R => tl σ H fun x H1 => ∃ z, x = .str z ∧ R (Its z) H1
theorem pi_str {l : Expr} {tl : TE} (hl : PE X l tl) : PI X tg l (iStr tl) := by
  intro pins s σ H R I h
  refine thn (hl pins s σ H _ I h) fun v s1 ⟨x, H1, I1, r, z, ez, q⟩ => ?_
  subst ez
  obtain ⟨t, rfl⟩ := r
  have fin : ∀ (n : String) (hn : n = "str_ascii_iterator" ∨ n = "str_iterator"), PIE X pins σ tg R (.ref s1.heap.objs.size) { s1 with heap := s1.heap.push { cls := .type n, data := .fields #[.str z t, .int 0 0] } } := fun n hn =>
    ⟨s1.heap.objs.size, [s1.heap.objs.size], _, _, H1, rfl, I1.kept (t' := s1.toks) fun b o e => Heap.get?_push_of_some _ e, turn_str _ z t n hn, ⟨_, Heap.get?_push_size _ rfl, rfl, rfl⟩, fun b hb => by
      have e : b = s1.heap.objs.size := by simpa using hb
      subst e
      exact I1.fpOk (Nat.le_refl _) (I1.hok.fresh (Nat.le_refl _)), q⟩
  cases ha : z.cps.all (· < 128)
  · exact wpAny_pyIter_wide ha (fin _ (.inr rfl))
  · exact wpAny_pyIter_ascii ha (fin _ (.inl rfl))
end

/-! ### a part of a text -/
section
variable {X : Cx}
noncomputable def rSlS : V → Option Int → Option Int → Hp → VK → Prop := fun x lo hi H Q => ∃ z, x = .str z ∧ z.length ≤ sizeLine ∧ Q (.str (Txt.slice z lo hi)) H
theorem sl_str : SlR X rSlS := by
  intro pins s σ H x v vl vu lo hi sl Q I rx hs pl pu h
  obtain ⟨z, rfl, hz, q⟩ := h
  obtain ⟨t, rfl⟩ := rx
  refine ⟨"str", _, F.slot_str_getitem.lookup, typeIs_str _ _ _, ?_⟩
  have fin : ∀ t' k, EP X pins σ Q (.str (Txt.slice z lo hi) t') { s with toks := k } := fun t' k => ⟨.str (Txt.slice z lo hi), H, I.tok k, ⟨t', rfl⟩, q⟩
  obtain ⟨o, ho, hc, hd⟩ := hs
  cases pl with
  | none =>
    cases pu with
    | none => exact wpAny_getItem_str_slice (l := none) (u := none) (st := none) ⟨o, ho, hc, hd⟩ rfl (post_val_or_str ⟨Nat.le_trans (Txt.slice_le z _ _) hz, fun t' k => fin t' k⟩)
    | int j uj => exact wpAny_getItem_str_slice (l := none) (u := some (j, uj)) (st := none) ⟨o, ho, hc, hd⟩ rfl (post_val_or_str ⟨Nat.le_trans (Txt.slice_le z _ _) hz, fun t' k => fin t' k⟩)
  | int i ui =>
    cases pu with
    | none => exact wpAny_getItem_str_slice (l := some (i, ui)) (u := none) (st := none) ⟨o, ho, hc, hd⟩ rfl (post_val_or_str ⟨Nat.le_trans (Txt.slice_le z _ _) hz, fun t' k => fin t' k⟩)
    | int j uj => exact wpAny_getItem_str_slice (l := some (i, ui)) (u := some (j, uj)) (st := none) ⟨o, ho, hc, hd⟩ rfl (post_val_or_str ⟨Nat.le_trans (Txt.slice_le z _ _) hz, fun t' k => fin t' k⟩)

/-! ### all of a list of truths -/
noncomputable def rAll (K : PySem.W.Frag) : List V → Hp → VK → Prop := fun xs H Q => ∃ (a : Addr) (bs : List Bool), xs = [.ref a] ∧ SqL K H a (bs.map V.bl) ∧ Q (.bl (bs.all id)) H
theorem Vals.bl_get {bs : List Bool} {us : List Value} (r : Vals (bs.map V.bl) us) {i : Nat} {v : Value} (h : us[i]? = some v) : ∃ b, bs[i]? = some b ∧ v = .bool b := by
  have hi : i < us.length := (List.getElem?_eq_some_iff.mp h).1
  have hl := r.length
  rw [List.length_map] at hl
  have hb : bs[i]? = some bs[i] := List.getElem?_eq_getElem (by omega)
  obtain ⟨u, hu, ru⟩ := r.get (i := i) (x := .bl bs[i]) (by rw [List.getElem?_map, hb]; rfl)
  rw [h] at hu
  cases hu
  exact ⟨_, hb, ru⟩
theorem call_all (hc : X.calm = true) : CallR X (.builtin "all") (rAll X.K) := by
  intro pins s σ H xs us Q I r h
  obtain ⟨a, bs, rfl, hs, q⟩ := h
  obtain ⟨u, rfl, ru⟩ := vals1 r
  cases ru
  obtain ⟨its, rv, p, hz⟩ := I.list hs
  have hne : a ≠ s.heap.objs.size := fun z => by
    obtain ⟨o, n, e, _⟩ := p
    exact Nat.lt_irrefl _ (z ▸ Heap.lt_size e)
  have hh : (X.A.in1).handled = none := I.ok.hd hc
  refine call_all_walk (wpAny_pyIter_list p.isList ?_)
  refine ⟨s.heap.objs.size, _, _, _, _, _, fun i => (bs[i]?).getD true, rfl, Walks.list hh s.heap.objs.size a hne its.toArray, ⟨⟨_, Heap.get?_push_size _ rfl, rfl, rfl⟩, ?_⟩, ?_, ?_⟩
  · obtain ⟨o, n, e, e1, e2, e3⟩ := p
    exact ⟨o, Heap.get?_push_of_some _ e, e1, n, e3⟩
  · intro i v s' Q' E' hP hQ
    obtain ⟨b, hb, rfl⟩ := rv.bl_get (i := i) (v := v) (by simpa using hP)
    have hQ : Q' ((bs[i]?).getD true) s' := hQ
    rw [hb] at hQ
    exact wpAny_truthy_bool hQ
  · intro h' tk kk
    have e1 : (List.range its.toArray.size).all (fun i => (bs[i]?).getD true) = bs.all id := by
      have hl := rv.length
      rw [List.length_map] at hl
      rw [List.size_toArray, ← hl, Bool.eq_iff_iff, List.all_eq_true, List.all_eq_true]
      constructor
      · intro hall b hb
        obtain ⟨i, hi, e⟩ := List.getElem_of_mem hb
        have := hall i (by simpa using hi)
        rw [List.getElem?_eq_getElem hi] at this
        rw [← e]; exact this
      · intro hall i hi
        have hi' : i < bs.length := by simpa using hi
        show (bs[i]?).getD true = true
        rw [List.getElem?_eq_getElem hi']
        exact hall _ (List.getElem_mem hi')
    rw [e1]
    refine ⟨.bl (bs.all id), H, ?_, rfl, q⟩
    exact I.kept fun b o e => kk b o (by simpa using fun z => Nat.lt_irrefl _ (z ▸ Heap.lt_size e)) (Heap.get?_push_of_some _ e)

/-! ### isinstance -/
noncomputable def rIsi (K : PySem.W.Frag) : List V → Hp → VK → Prop := fun xs H Q => ∃ x n t b, xs = [x, .ty n] ∧ TyOf K H x t ∧ PySem.W.kitOne K t (.type n) = some b ∧ Q (.bl b) H
theorem call_isi : CallR X (.builtin "isinstance") (rIsi X.K) := by
  intro pins s σ H xs us Q I r h
  obtain ⟨x, n, t, b, rfl, ty, e, q⟩ := h
  obtain ⟨u, u2, rfl, ru, ru2⟩ := vals2 r
  cases ru2
  exact isinst_ok I ru ty e fun tk => ⟨.bl b, H, I.tok tk, rfl, q⟩

/-! ### list + list, lists that are read -/
noncomputable def rCatS (K : PySem.W.Frag) : R2 := fun x y H Q => ∃ l b xs zs, x = .ref l ∧ y = .ref b ∧ SqL K H l xs ∧ SqL K H b zs ∧ xs.length + zs.length ≤ sizeLine ∧ ∀ p, H p = none → Q (.ref p) (upd H p (.lst (xs ++ zs)))
theorem op_catS : OpR X (binaryOp .Add) (rCatS X.K) := by
  intro pins s σ H x y v u Q I rx ry h
  obtain ⟨l, b, xs, zs, rfl, rfl, hH, hB, hz, q⟩ := h
  cases rx
  cases ry
  obtain ⟨vs, r, p, z⟩ := I.list hH
  obtain ⟨ws, r2, p2, z2⟩ := I.list hB
  have l1 := r.length
  have l2 := r2.length
  obtain ⟨⟨cls, dd, data, sl⟩, n, ho, hc, hdd, hd⟩ := p
  obtain ⟨⟨cls2, dd2, data2, sl2⟩, n2, ho2, hc2, hdd2, hd2⟩ := p2
  simp only at hc hd hc2 hd2
  subst hc hd hc2 hd2
  have e : vs.toArray ++ ws.toArray = (vs ++ ws).toArray := by simp
  refine concat_meets ⟨_, ho, rfl⟩ ⟨_, ho2, rfl⟩ noFill_list_add seq_list_add PySem.F.slot_list_add PySem.F.entry_list_add (PySem.F.args_list_add_2 _ _) (list_addW l b vs.toArray ws.toArray n n2 dd dd2 sl sl2 (by simp; omega)) ⟨ho, ho2, ?_⟩
  rw [e]
  exact ⟨.ref _, _, I.lnew (t' := s.toks) (r.append r2) (by rw [List.length_append]; omega), rfl, q _ I.fresh⟩
end
end L2

namespace L2
open PySem PySem.Spec PyProof.Rows
/-! ### a comprehension's scope, by lists -/
inductive Slots (X : Cx) (scope : Scope) : List Str → List Nat → Prop
  | nil : Slots X scope [] []
  | cons {x : Str} {j : Nat} {xs : List Str} {js : List Nat} (h1 : scope.names.lookup x = some .free) (h2 : X.env.kindOf x = some .cell ∨ X.env.kindOf x = some .free) (h3 : X.N[j]? = some x) (r : Slots X scope xs js) : Slots X scope (x :: xs) (j :: js)
theorem Slots.len {X : Cx} {scope : Scope} : ∀ {xs : List Str} {js : List Nat}, Slots X scope xs js → xs.length = js.length
  | _, _, .nil => rfl
  | _, _, .cons _ _ _ r => by simp [r.len]
theorem Slots.kind {X : Cx} {scope : Scope} : ∀ {xs : List Str} {js : List Nat}, Slots X scope xs js → ∀ x ∈ xs, X.env.kindOf x = some .cell ∨ X.env.kindOf x = some .free
  | _, _, .nil, x, h => absurd h (by simp)
  | _, _, .cons _ h2 _ r, x, h => by
    rcases List.mem_cons.mp h with e | e
    · subst e; exact h2
    · exact r.kind x e
theorem Slots.get {X : Cx} {scope : Scope} : ∀ {xs : List Str} {js : List Nat}, Slots X scope xs js → ∀ (i : Nat) (x : Str), xs[i]? = some x → scope.names.lookup x = some .free ∧ ∃ j, js[i]? = some j ∧ X.N[j]? = some x
  | _, _, .nil, i, x, h => by simp at h
  | _, _, .cons h1 _ h3 r, 0, x, h => by
    simp only [List.getElem?_cons_zero, Option.some.injEq] at h
    subst h
    exact ⟨h1, _, by simp, h3⟩
  | _, _, .cons _ _ _ r, i + 1, x, h => by simpa using r.get i x (by simpa using h)
theorem blk_mk {X : Cx} {own fr : List Str} {fm : List Nat} {scope : Scope} (kind : scope.kind = .function) (h1 : ∀ y ∈ scope.names, y.2 ≠ .cell) (h2 : ∀ y ∈ scope.names, y.2 = .local → scope.names.lookup y.1 = some .local)
    (h3 : ∀ y ∈ scope.names, y.2 = .free → y.1 ∈ fr) (S : Slots X scope fr fm) : BlkScope X (own ++ fr) own.length fm scope :=
  ⟨kind, h1, h2, fun y hy hk => S.kind y.1 (h3 y hy hk), by rw [List.length_append, S.len], fun i x hi h => by
    rw [List.getElem?_append_right hi] at h
    exact S.get _ x h⟩
section
variable {X : Cx}
/-! ### rules that serve several kinds at once -/
theorem op_notInA : OpR X (compareOp .NotIn) (fun x y H Q => (∃ i j, x = .str i ∧ y = .str j ∧ Q (.bl (!(!(Builtin.Str.occurrences j i 0 j.length 1).isEmpty))) H) ∨ rIn X.K true x y H Q) := op_notin_str.or op_notIn_seq
end
/-! ### a comprehension, by what its turns keep -/
theorem comp_str {z : Str} {g : TG} {tt : TT} {te : TE} {σ0 : St} {H : Hp} {D : Addr} {Q : VK} (hz : z.cps.size < sizeLine) (Pv : Nat → List V → Hp → Prop) (h0 : Pv 0 [] (upd H D (.lst [])))
    (hl : ∀ i ys H, i ≤ z.cps.size → Pv i ys H → H D = some (.lst ys) ∧ ys.length ≤ i)
    (hs : ∀ i c ys H, z.cps[i]? = some c → Pv i ys H → g (.str ⟨#[c]⟩) σ0 H fun σ3 H4 => Ext σ0 σ3 ∧ tt σ3 H4 fun b H5 => if b = true then te σ3 H5 fun y H6 => H6 D = some (.lst ys) ∧ Pv (i + 1) (ys ++ [y]) (upd H6 D (.lst (ys ++ [y]))) else Pv (i + 1) ys H5)
    (hd : ∀ ys H, Pv z.cps.size ys H → Q (.ref D) H) :
    ∃ W : Nat → Nat → List V → Hp → Prop, (∃ m, W 0 m [] (upd H D (.lst []))) ∧ ∀ i m ys H2, W i m ys H2 → H2 D = some (.lst ys) ∧ ys.length < sizeLine ∧ (((Its z).stop i H2 ∧ Q (.ref D) H2) ∨ ((Its z).go i H2 ∧ ∃ N : List V → Hp → Prop, (∀ ys' H', N ys' H' → ∃ m', m' < m ∧ W (i + 1) m' ys' H') ∧ ∀ x H3, (Its z).yld i H2 x H3 →
      g x σ0 H3 fun σ3 H4 => Ext σ0 σ3 ∧ tt σ3 H4 fun b H5 => if b = true then te σ3 H5 fun y H6 => H6 D = some (.lst ys) ∧ N (ys ++ [y]) (upd H6 D (.lst (ys ++ [y]))) else N ys H5)) := by
  refine ⟨fun i m ys H => m = z.cps.size - i ∧ i ≤ z.cps.size ∧ Pv i ys H, ⟨z.cps.size, by simp, Nat.zero_le _, h0⟩, ?_⟩
  rintro i m ys H2 ⟨rfl, hi, p⟩
  obtain ⟨l1, l2⟩ := hl i ys H2 hi p
  refine ⟨l1, by omega, ?_⟩
  by_cases hlt : i < z.cps.size
  · refine .inr ⟨hlt, Pv (i + 1), fun ys' H' p' => ⟨_, (by omega : z.cps.size - (i + 1) < z.cps.size - i), rfl, hlt, p'⟩, fun x H3 y => ?_⟩
    obtain ⟨e, c, hc, ex⟩ := y
    subst e ex
    exact hs i c ys _ hc p
  · have e : i = z.cps.size := by omega
    subst e
    exact .inl ⟨Nat.le_refl _, hd ys H2 p⟩
theorem comp_list {K : PySem.W.Frag} {a : Addr} {xs : List V} {g : TG} {tt : TT} {te : TE} {σ0 : St} {H : Hp} {D : Addr} {Q : VK} (hz : xs.length < sizeLine) (Pv : Nat → List V → Hp → Prop) (h0 : Pv 0 [] (upd H D (.lst [])))
    (hl : ∀ i ys H, i ≤ xs.length → Pv i ys H → SqL K H a xs ∧ H D = some (.lst ys) ∧ ys.length ≤ i)
    (hs : ∀ i x ys H, xs[i]? = some x → Pv i ys H → g x σ0 H fun σ3 H4 => Ext σ0 σ3 ∧ tt σ3 H4 fun b H5 => if b = true then te σ3 H5 fun y H6 => H6 D = some (.lst ys) ∧ Pv (i + 1) (ys ++ [y]) (upd H6 D (.lst (ys ++ [y]))) else Pv (i + 1) ys H5)
    (hd : ∀ ys H, Pv xs.length ys H → Q (.ref D) H) :
    ∃ W : Nat → Nat → List V → Hp → Prop, (∃ m, W 0 m [] (upd H D (.lst []))) ∧ ∀ i m ys H2, W i m ys H2 → H2 D = some (.lst ys) ∧ ys.length < sizeLine ∧ (((Itl K a).stop i H2 ∧ Q (.ref D) H2) ∨ ((Itl K a).go i H2 ∧ ∃ N : List V → Hp → Prop, (∀ ys' H', N ys' H' → ∃ m', m' < m ∧ W (i + 1) m' ys' H') ∧ ∀ x H3, (Itl K a).yld i H2 x H3 →
      g x σ0 H3 fun σ3 H4 => Ext σ0 σ3 ∧ tt σ3 H4 fun b H5 => if b = true then te σ3 H5 fun y H6 => H6 D = some (.lst ys) ∧ N (ys ++ [y]) (upd H6 D (.lst (ys ++ [y]))) else N ys H5)) := by
  refine ⟨fun i m ys H => m = xs.length - i ∧ i ≤ xs.length ∧ Pv i ys H, ⟨xs.length, by simp, Nat.zero_le _, h0⟩, ?_⟩
  rintro i m ys H2 ⟨rfl, hi, p⟩
  obtain ⟨l0, l1, l2⟩ := hl i ys H2 hi p
  refine ⟨l1, by omega, ?_⟩
  by_cases hlt : i < xs.length
  · refine .inr ⟨⟨xs, xs[i], l0, by simp [hlt]⟩, Pv (i + 1), fun ys' H' p' => ⟨_, (by omega : xs.length - (i + 1) < xs.length - i), rfl, hlt, p'⟩, fun x H3 y => ?_⟩
    obtain ⟨e, y⟩ := y
    subst e
    exact hs i x ys _ (y xs l0) p
  · have e : i = xs.length := by omega
    subst e
    exact .inl ⟨⟨xs, l0, Nat.le_refl _⟩, hd ys H2 p⟩
/-! ### the same, with what is walked reckoned first -/
noncomputable def ForW (g : TG) (tb : TS) (D : Ends) (σ : St) (J : It) (H1 : Hp) : Prop := ∃ W : Nat → Nat → St → Hp → Prop, (∃ m, W 0 m σ H1) ∧ ∀ i m σ H, W i m σ H →
  (J.stop i H ∧ D.nx σ H) ∨ (J.go i H ∧ ∃ N : St → Hp → Prop, (∀ σ' H', N σ' H' → ∃ m', m' < m ∧ W (i + 1) m' σ' H') ∧ ∀ x H', J.yld i H x H' → g x σ H' fun σ2 H2 => tb { D with nx := N, ct := N, bk := D.nx } σ2 H2)
noncomputable def ForL (K : PySem.W.Frag) (g : TG) (tb : TS) (D : Ends) (σ : St) : VK := fun x H1 => ∃ a, x = .ref a ∧ (∃ xs, SqL K H1 a xs) ∧ ForW g tb D σ (Itl K a) H1
noncomputable def ForT (K : PySem.W.Frag) (g : TG) (tb : TS) (D : Ends) (σ : St) : VK := fun x H1 => ∃ a, x = .ref a ∧ (∃ xs, SqT K H1 a xs) ∧ ForW g tb D σ (Itt K a) H1
noncomputable def ForS (g : TG) (tb : TS) (D : Ends) (σ : St) : VK := fun x H1 => ∃ z, x = .str z ∧ ForW g tb D σ (Its z) H1
noncomputable def ForR (g : TG) (tb : TS) (D : Ends) (σ : St) : List V → Hp → Prop := fun vs H1 => ∃ j : Int, vs = [.int j] ∧ -(2 ^ 62) ≤ j ∧ j < 2 ^ 62 ∧ ForW g tb D σ (Itr 0 j.toNat) H1
noncomputable def ForR2 (g : TG) (tb : TS) (D : Ends) (σ : St) : List V → Hp → Prop := fun vs H1 => ∃ i j : Int, vs = [.int i, .int j] ∧ (-(2 ^ 62) ≤ i ∧ i < 2 ^ 62 ∧ -(2 ^ 62) ≤ j ∧ j < 2 ^ 62) ∧ ForW g tb D σ (Itr i (j - i).toNat) H1
section
variable {K : PySem.W.Frag} {te : TE} {ta : TA} {g : TG} {tb : TS} {D : Ends} {σ : St} {H : Hp}
theorem tFor_list : tFor (iList K te) g tb D σ H = te σ H (ForL K g tb D σ) := rfl
theorem tFor_tup : tFor (iTup K te) g tb D σ H = te σ H (ForT K g tb D σ) := rfl
theorem tFor_str : tFor (iStr te) g tb D σ H = te σ H (ForS g tb D σ) := rfl
theorem tFor_rng1 : tFor (iRng1 ta) g tb D σ H = ta σ H (ForR g tb D σ) := rfl
theorem tFor_rng2 : tFor (iRng2 ta) g tb D σ H = ta σ H (ForR2 g tb D σ) := rfl
theorem ForL.of {a : Addr} {xs : List V} (Pv : Nat → St → Hp → Prop) (h0 : Pv 0 σ H) (hl : ∀ i σ H, i ≤ xs.length → Pv i σ H → SqL K H a xs)
    (hs : ∀ i x σ H, xs[i]? = some x → Pv i σ H → g x σ H fun σ2 H2 => tb { D with nx := Pv (i + 1), ct := Pv (i + 1), bk := D.nx } σ2 H2) (hd : ∀ σ H, Pv xs.length σ H → D.nx σ H) : ForL K g tb D σ (.ref a) H :=
  ⟨a, rfl, ⟨xs, hl 0 _ _ (Nat.zero_le _) h0⟩, for_list Pv h0 hl hs hd⟩
end
noncomputable def CompW (g : TG) (tt : TT) (te : TE) (σ0 : St) (Q : VK) (J : It) (H1 : Hp) : Prop := ∀ DD, H1 DD = none → ∃ W : Nat → Nat → List V → Hp → Prop,
  (∃ m, W 0 m [] (upd H1 DD (.lst []))) ∧ ∀ i m ys H2, W i m ys H2 → H2 DD = some (.lst ys) ∧ ys.length < sizeLine ∧ ((J.stop i H2 ∧ Q (.ref DD) H2) ∨ (J.go i H2 ∧ ∃ N : List V → Hp → Prop, (∀ ys' H', N ys' H' → ∃ m', m' < m ∧ W (i + 1) m' ys' H') ∧ ∀ x H3, J.yld i H2 x H3 →
    g x σ0 H3 fun σ3 H4 => Ext σ0 σ3 ∧ tt σ3 H4 fun b H5 => if b = true then te σ3 H5 fun y H6 => H6 DD = some (.lst ys) ∧ N (ys ++ [y]) (upd H6 DD (.lst (ys ++ [y]))) else N ys H5))
noncomputable def CompL (K : PySem.W.Frag) (g : TG) (tt : TT) (te : TE) (σ0 : St) (Q : VK) : VK := fun x H1 => ∃ a, x = .ref a ∧ (∃ xs, SqL K H1 a xs) ∧ CompW g tt te σ0 Q (Itl K a) H1
noncomputable def CompT (K : PySem.W.Frag) (g : TG) (tt : TT) (te : TE) (σ0 : St) (Q : VK) : VK := fun x H1 => ∃ a, x = .ref a ∧ (∃ xs, SqT K H1 a xs) ∧ CompW g tt te σ0 Q (Itt K a) H1
noncomputable def CompS (g : TG) (tt : TT) (te : TE) (σ0 : St) (Q : VK) : VK := fun x H1 => ∃ z, x = .str z ∧ CompW g tt te σ0 Q (Its z) H1
noncomputable def CompR (g : TG) (tt : TT) (te : TE) (σ0 : St) (Q : VK) : List V → Hp → Prop := fun vs H1 => ∃ j : Int, vs = [.int j] ∧ -(2 ^ 62) ≤ j ∧ j < 2 ^ 62 ∧ CompW g tt te σ0 Q (Itr 0 j.toNat) H1
section
variable {K : PySem.W.Frag} {k : Nat} {fm : List Nat} {tl te : TE} {ta : TA} {g : TG} {tt : TT} {σ σ0 : St} {H H1 : Hp} {Q : VK}
theorem tComp_list : tComp k fm (iList K tl) g tt te σ H Q = tl σ H (CompL K g tt te (blkSt k fm σ) Q) := rfl
theorem tComp_tup : tComp k fm (iTup K tl) g tt te σ H Q = tl σ H (CompT K g tt te (blkSt k fm σ) Q) := rfl
theorem tComp_str : tComp k fm (iStr tl) g tt te σ H Q = tl σ H (CompS g tt te (blkSt k fm σ) Q) := rfl
theorem tComp_rng1 : tComp k fm (iRng1 ta) g tt te σ H Q = ta σ H (CompR g tt te (blkSt k fm σ) Q) := rfl
theorem CompL.of {a : Addr} {xs : List V} (hz : xs.length < sizeLine) (hx : SqL K H1 a xs) (Pv : Addr → Nat → List V → Hp → Prop) (h0 : ∀ D, H1 D = none → Pv D 0 [] (upd H1 D (.lst [])))
    (hl : ∀ D i ys H', H1 D = none → i ≤ xs.length → Pv D i ys H' → SqL K H' a xs ∧ H' D = some (.lst ys) ∧ ys.length ≤ i)
    (hs : ∀ D i x ys H', H1 D = none → xs[i]? = some x → Pv D i ys H' → g x σ0 H' fun σ3 H4 => Ext σ0 σ3 ∧ tt σ3 H4 fun b H5 => if b = true then te σ3 H5 fun y H6 => H6 D = some (.lst ys) ∧ Pv D (i + 1) (ys ++ [y]) (upd H6 D (.lst (ys ++ [y]))) else Pv D (i + 1) ys H5)
    (hd : ∀ D ys H', H1 D = none → Pv D xs.length ys H' → Q (.ref D) H') : CompL K g tt te σ0 Q (.ref a) H1 :=
  ⟨a, rfl, ⟨xs, hx⟩, fun D hD => comp_list hz (Pv D) (h0 D hD) (fun i ys H' => hl D i ys H' hD) (fun i x ys H' => hs D i x ys H' hD) fun ys H' => hd D ys H' hD⟩
theorem CompS.of {z : Str} (hz : z.cps.size < sizeLine) (Pv : Addr → Nat → List V → Hp → Prop) (h0 : ∀ D, H1 D = none → Pv D 0 [] (upd H1 D (.lst [])))
    (hl : ∀ D i ys H', H1 D = none → i ≤ z.cps.size → Pv D i ys H' → H' D = some (.lst ys) ∧ ys.length ≤ i)
    (hs : ∀ D i c ys H', H1 D = none → z.cps[i]? = some c → Pv D i ys H' → g (.str ⟨#[c]⟩) σ0 H' fun σ3 H4 => Ext σ0 σ3 ∧ tt σ3 H4 fun b H5 => if b = true then te σ3 H5 fun y H6 => H6 D = some (.lst ys) ∧ Pv D (i + 1) (ys ++ [y]) (upd H6 D (.lst (ys ++ [y]))) else Pv D (i + 1) ys H5)
    (hd : ∀ D ys H', H1 D = none → Pv D z.cps.size ys H' → Q (.ref D) H') : CompS g tt te σ0 Q (.str z) H1 :=
  ⟨z, rfl, fun D hD => comp_str hz (Pv D) (h0 D hD) (fun i ys H' => hl D i ys H' hD) (fun i c ys H' => hs D i c ys H' hD) fun ys H' => hd D ys H' hD⟩
end
end L2

namespace L2
open PySem PySem.Spec PyProof.Rows
/-! ### plain data, as trees -/
inductive D where
  | non | bl (b : Bool) | int (i : Int) | str (z : Str) | lst (xs : List D) | tup (xs : List D)
mutual
noncomputable def Rep (K : PySem.W.Frag) (H : Hp) : D → V → Prop
  | .non, v => v = .non
  | .bl b, v => v = .bl b
  | .int i, v => v = .int i
  | .str z, v => v = .str z
  | .lst ds, v => ∃ a xs, v = .ref a ∧ SqL K H a xs ∧ RepL K H ds xs
  | .tup ds, v => ∃ a xs, v = .ref a ∧ SqT K H a xs ∧ RepL K H ds xs
noncomputable def RepL (K : PySem.W.Frag) (H : Hp) : List D → List V → Prop
  | [], xs => xs = []
  | d :: ds, xs => ∃ y ys, xs = y :: ys ∧ Rep K H d y ∧ RepL K H ds ys
end
mutual
noncomputable def deq : D → D → Bool
  | .non, .non => true
  | .bl a, .bl b => a == b
  | .bl a, .int b => (if a then 1 else 0) == b
  | .int a, .bl b => a == (if b then 1 else 0)
  | .int a, .int b => a == b
  | .str a, .str b => a == b
  | .lst a, .lst b => deqL a b
  | .tup a, .tup b => deqL a b
  | _, _ => false
noncomputable def deqL : List D → List D → Bool
  | [], [] => true
  | a :: as, b :: bs => deq a b && deqL as bs
  | _, _ => false
end
mutual
noncomputable def dep : D → Nat
  | .lst ds => depL ds + 1
  | .tup ds => depL ds + 1
  | _ => 0
noncomputable def depL : List D → Nat
  | [] => 0
  | d :: ds => max (dep d) (depL ds)
end
mutual
theorem deq_refl : ∀ d : D, deq d d = true
  | .non => rfl
  | .bl a => by simp [deq]
  | .int a => by simp [deq]
  | .str a => by simp [deq]
  | .lst a => by simp only [deq]; exact deqL_refl a
  | .tup a => by simp only [deq]; exact deqL_refl a
theorem deqL_refl : ∀ ds : List D, deqL ds ds = true
  | [] => rfl
  | d :: ds => by simp only [deqL, deq_refl d, deqL_refl ds, Bool.and_self]
end
theorem RepL.len {K : PySem.W.Frag} {H : Hp} : ∀ {ds : List D} {xs : List V}, RepL K H ds xs → ds.length = xs.length
  | [], xs, h => by simp only [RepL] at h; subst h; rfl
  | d :: ds, xs, h => by
    simp only [RepL] at h
    obtain ⟨y, ys, rfl, _, r⟩ := h
    simp [r.len]
noncomputable def eAt (ds es : List D) (j : Nat) : Bool := match ds[j]?, es[j]? with
  | some d, some e => deq d e
  | _, _ => true
theorem eAt_all : ∀ (ds es : List D), ((List.range (min ds.length es.length)).all (eAt ds es) && ds.length == es.length) = deqL ds es
  | [], [] => by simp [deqL]
  | [], e :: es => by simp [deqL]
  | d :: ds, [] => by simp [deqL]
  | d :: ds, e :: es => by
    have ih := eAt_all ds es
    have h1 : min (d :: ds).length (e :: es).length = min ds.length es.length + 1 := by simp only [List.length_cons]; omega
    rw [h1, List.range_succ_eq_map, List.all_cons, List.all_map]
    have h2 : (eAt (d :: ds) (e :: es) ∘ Nat.succ) = eAt ds es := by funext j; simp [eAt]
    have h3 : eAt (d :: ds) (e :: es) 0 = deq d e := by simp [eAt]
    rw [h2, h3]
    simp only [deqL, ← ih, List.length_cons, Bool.and_assoc]
    congr 2
    simp
section
variable {X : Cx} {pins : List (Addr × Obj)} {σ : St} {H : Hp} {s : Shared}
mutual
theorem rep_inj (I : Inv X pins σ H s) : ∀ (d e : D) (x : V), Rep X.K H d x → Rep X.K H e x → d = e
  | d, e, x, hd, he => by
    cases d with
    | non =>
      simp only [Rep] at hd; subst hd
      cases e <;> simp only [Rep] at he <;> first | rfl | (obtain ⟨a, xs, z, _⟩ := he; cases z; done) | (cases he; done)
    | bl b =>
      simp only [Rep] at hd; subst hd
      cases e <;> simp only [Rep] at he <;> first | (obtain ⟨a, xs, z, _⟩ := he; cases z; done) | (cases he; rfl) | (cases he; done)
    | int b =>
      simp only [Rep] at hd; subst hd
      cases e <;> simp only [Rep] at he <;> first | (obtain ⟨a, xs, z, _⟩ := he; cases z; done) | (cases he; rfl) | (cases he; done)
    | str b =>
      simp only [Rep] at hd; subst hd
      cases e <;> simp only [Rep] at he <;> first | (obtain ⟨a, xs, z, _⟩ := he; cases z; done) | (cases he; rfl) | (cases he; done)
    | lst ds =>
      simp only [Rep] at hd
      obtain ⟨a, xs, rfl, hx, r⟩ := hd
      cases e with
      | lst es =>
        simp only [Rep] at he
        obtain ⟨a', xs', z, hx', r'⟩ := he
        cases z
        have := I.list_inj hx hx'
        subst this
        rw [repL_inj I ds es xs r r']
      | tup es =>
        simp only [Rep] at he
        obtain ⟨a', xs', z, hx', r'⟩ := he
        cases z
        exfalso
        obtain ⟨_, _, p, _⟩ := I.list hx
        obtain ⟨_, _, q, _⟩ := I.tuple hx'
        obtain ⟨o, n, e1, e2, _⟩ := p
        obtain ⟨o', e1', e2', _⟩ := q
        rw [e1] at e1'; cases e1'
        rw [e2] at e2'; exact absurd e2' (by decide)
      | _ => simp only [Rep] at he; cases he
    | tup ds =>
      simp only [Rep] at hd
      obtain ⟨a, xs, rfl, hx, r⟩ := hd
      cases e with
      | tup es =>
        simp only [Rep] at he
        obtain ⟨a', xs', z, hx', r'⟩ := he
        cases z
        have := I.tuple_inj hx hx'
        subst this
        rw [repL_inj I ds es xs r r']
      | lst es =>
        simp only [Rep] at he
        obtain ⟨a', xs', z, hx', r'⟩ := he
        cases z
        exfalso
        obtain ⟨_, _, p, _⟩ := I.list hx'
        obtain ⟨_, _, q, _⟩ := I.tuple hx
        obtain ⟨o, n, e1, e2, _⟩ := p
        obtain ⟨o', e1', e2', _⟩ := q
        rw [e1] at e1'; cases e1'
        rw [e2] at e2'; exact absurd e2' (by decide)
      | _ => simp only [Rep] at he; cases he
theorem repL_inj (I : Inv X pins σ H s) : ∀ (ds es : List D) (xs : List V), RepL X.K H ds xs → RepL X.K H es xs → ds = es
  | [], es, xs, hd, he => by
    simp only [RepL] at hd
    subst hd
    cases es with
    | nil => rfl
    | cons e es => simp only [RepL] at he; obtain ⟨y, ys, z, _⟩ := he; cases z
  | d :: ds, es, xs, hd, he => by
    simp only [RepL] at hd
    obtain ⟨y, ys, rfl, r, rs⟩ := hd
    cases es with
    | nil => simp only [RepL] at he; cases he
    | cons e es =>
      simp only [RepL] at he
      obtain ⟨y', ys', z, r', rs'⟩ := he
      cases z
      rw [rep_inj I d e y r r', repL_inj I ds es ys rs rs']
end
theorem isTuple_of {h : Heap} {a : Addr} {its : Array Value} (p : IsTup h a its) : h.IsTuple a its := by
  obtain ⟨o, e, c, n, d⟩ := p
  exact ⟨o, e, c, n, d⟩
mutual
theorem eq_deep (I : Inv X pins σ H s) : ∀ (d e : D) (x y : V) (u v : Value) (A : Around), A.units + dep d < cLine → Rep X.K H d x → Rep X.K H e y → RelV x u → RelV y v → SeqAt.EqAt A s u v (deq d e)
  | .non, e, x, y, u, v, A, hu, hd, he, rx, ry => by
    have hu : A.units < cLine := by omega
    simp only [Rep] at hd; subst hd; cases rx
    cases e <;> simp only [Rep] at he
    · subst he; cases ry; exact SeqAt.EqAt.same _
    · subst he; cases ry; exact SeqAt.EqAt.none_bool _
    · subst he; obtain ⟨t, rfl⟩ := ry; exact SeqAt.EqAt.none_int _ _
    · subst he; obtain ⟨t, rfl⟩ := ry; exact SeqAt.EqAt.none_str _ _
    · obtain ⟨a, xs, rfl, hx, _⟩ := he; cases ry; obtain ⟨_, _, p, _⟩ := I.list hx; exact SeqAt.EqAt.none_list p.isList hu
    · obtain ⟨a, xs, rfl, hx, _⟩ := he; cases ry; obtain ⟨_, _, p, _⟩ := I.tuple hx; exact SeqAt.EqAt.none_tuple (isTuple_of p) hu
  | .bl b, e, x, y, u, v, A, hu, hd, he, rx, ry => by
    have hu : A.units < cLine := by omega
    simp only [Rep] at hd; subst hd; cases rx
    cases e <;> simp only [Rep] at he
    · subst he; cases ry; exact SeqAt.EqAt.bool_none _
    · subst he; cases ry; exact SeqAt.EqAt.bool_bool _ _
    · subst he; obtain ⟨t, rfl⟩ := ry; exact SeqAt.EqAt.bool_int _ _ _
    · subst he; obtain ⟨t, rfl⟩ := ry; exact SeqAt.EqAt.bool_str _ _ _
    · obtain ⟨a, xs, rfl, hx, _⟩ := he; cases ry; obtain ⟨_, _, p, _⟩ := I.list hx; exact SeqAt.EqAt.bool_list _ p.isList hu
    · obtain ⟨a, xs, rfl, hx, _⟩ := he; cases ry; obtain ⟨_, _, p, _⟩ := I.tuple hx; exact SeqAt.EqAt.bool_tuple _ (isTuple_of p) hu
  | .int b, e, x, y, u, v, A, hu, hd, he, rx, ry => by
    have hu : A.units < cLine := by omega
    simp only [Rep] at hd; subst hd; obtain ⟨t0, rfl⟩ := rx
    cases e <;> simp only [Rep] at he
    · subst he; cases ry; exact SeqAt.EqAt.int_none _ _
    · subst he; cases ry; exact SeqAt.EqAt.int_bool _ _ _
    · subst he; obtain ⟨t, rfl⟩ := ry; exact SeqAt.EqAt.int_int _ _ _ _
    · subst he; obtain ⟨t, rfl⟩ := ry; exact SeqAt.EqAt.int_str _ _ _ _
    · obtain ⟨a, xs, rfl, hx, _⟩ := he; cases ry; obtain ⟨_, _, p, _⟩ := I.list hx; exact SeqAt.EqAt.int_list _ _ p.isList hu
    · obtain ⟨a, xs, rfl, hx, _⟩ := he; cases ry; obtain ⟨_, _, p, _⟩ := I.tuple hx; exact SeqAt.EqAt.int_tuple _ _ (isTuple_of p) hu
  | .str b, e, x, y, u, v, A, hu, hd, he, rx, ry => by
    have hu : A.units < cLine := by omega
    simp only [Rep] at hd; subst hd; obtain ⟨t0, rfl⟩ := rx
    cases e <;> simp only [Rep] at he
    · subst he; cases ry; exact SeqAt.EqAt.str_none _ _
    · subst he; cases ry; exact SeqAt.EqAt.str_bool _ _ _
    · subst he; obtain ⟨t, rfl⟩ := ry; exact SeqAt.EqAt.str_int _ _ _ _
    · subst he; obtain ⟨t, rfl⟩ := ry; exact SeqAt.EqAt.str_str _ _ _ _
    · obtain ⟨a, xs, rfl, hx, _⟩ := he; cases ry; obtain ⟨_, _, p, _⟩ := I.list hx; exact SeqAt.EqAt.str_list _ _ p.isList hu
    · obtain ⟨a, xs, rfl, hx, _⟩ := he; cases ry; obtain ⟨_, _, p, _⟩ := I.tuple hx; exact SeqAt.EqAt.str_tuple _ _ (isTuple_of p) hu
  | .lst ds, e, x, y, u, v, A, hu, hd, he, rx, ry => by
    have hu0 : A.units < cLine := by omega
    simp only [dep] at hu
    simp only [Rep] at hd; obtain ⟨a, xs, rfl, hx, r⟩ := hd; cases rx
    obtain ⟨its, rv, p, hz⟩ := I.list hx
    cases e <;> simp only [Rep] at he
    · subst he; cases ry; exact SeqAt.EqAt.list_none p.isList hu0
    · subst he; cases ry; exact SeqAt.EqAt.list_bool _ p.isList hu0
    · subst he; obtain ⟨t, rfl⟩ := ry; exact SeqAt.EqAt.list_int _ _ p.isList hu0
    · subst he; obtain ⟨t, rfl⟩ := ry; exact SeqAt.EqAt.list_str _ _ p.isList hu0
    · rename_i es
      obtain ⟨b, ys, rfl, hy, r'⟩ := he; cases ry
      obtain ⟨its', rv', p', hz'⟩ := I.list hy
      by_cases hab : a = b
      · subst hab
        have := I.list_inj hx hy
        subst this
        rw [repL_inj I ds es xs r r', deq_refl]
        exact SeqAt.EqAt.same _
      · have l1 := r.len
        have l2 := rv.length
        have l3 := r'.len
        have l4 := rv'.length
        have key := eAt_all ds es
        simp only [deq]
        rw [← key]
        by_cases hl : its.length = its'.length
        · have := SeqAt.EqAt.of_refs hab (SeqAt.RcAt.lists (e := eAt ds es) p.isList p'.isList (by simpa using hl) hu0 (fun j h1 h2 => by
            have q := eq_deepL I ds es xs ys its its' A.in1 (by show A.units + 1 + depL ds < cLine; omega) r r' rv rv' j (by simpa using h1) (by simpa using h2)
            simpa using q))
          have e1 : its.toArray.size = min ds.length es.length := by rw [List.size_toArray]; omega
          rw [e1] at this
          have e2 : (ds.length == es.length) = true := by simp; omega
          rw [e2, Bool.and_true]
          exact this
        · have e2 : (ds.length == es.length) = false := by simp; omega
          rw [e2, Bool.and_false]
          exact SeqAt.EqAt.of_refs hab (SeqAt.RcAt.lists_lengths p.isList p'.isList (by simpa using hl) hu0)
    · obtain ⟨b, ys, rfl, hy, r'⟩ := he; cases ry
      obtain ⟨_, _, q, _⟩ := I.tuple hy
      exact SeqAt.EqAt.list_tuple p.isList (isTuple_of q) hu0
  | .tup ds, e, x, y, u, v, A, hu, hd, he, rx, ry => by
    have hu0 : A.units < cLine := by omega
    simp only [dep] at hu
    simp only [Rep] at hd; obtain ⟨a, xs, rfl, hx, r⟩ := hd; cases rx
    obtain ⟨its, rv, p, hz⟩ := I.tuple hx
    cases e <;> simp only [Rep] at he
    · subst he; cases ry; exact SeqAt.EqAt.tuple_none (isTuple_of p) hu0
    · subst he; cases ry; exact SeqAt.EqAt.tuple_bool _ (isTuple_of p) hu0
    · subst he; obtain ⟨t, rfl⟩ := ry; exact SeqAt.EqAt.tuple_int _ _ (isTuple_of p) hu0
    · subst he; obtain ⟨t, rfl⟩ := ry; exact SeqAt.EqAt.tuple_str _ _ (isTuple_of p) hu0
    · obtain ⟨b, ys, rfl, hy, r'⟩ := he; cases ry
      obtain ⟨_, _, q, _⟩ := I.list hy
      exact SeqAt.EqAt.tuple_list (isTuple_of p) q.isList hu0
    · rename_i es
      obtain ⟨b, ys, rfl, hy, r'⟩ := he; cases ry
      obtain ⟨its', rv', p', hz'⟩ := I.tuple hy
      by_cases hab : a = b
      · subst hab
        have := I.tuple_inj hx hy
        subst this
        rw [repL_inj I ds es xs r r', deq_refl]
        exact SeqAt.EqAt.same _
      · have l1 := r.len
        have l2 := rv.length
        have l3 := r'.len
        have l4 := rv'.length
        have key := eAt_all ds es
        simp only [deq]
        rw [← key]
        have := SeqAt.EqAt.of_refs hab (SeqAt.RcAt.tuples (e := eAt ds es) (isTuple_of p) (isTuple_of p') hu0 (fun j h1 h2 => by
            have q := eq_deepL I ds es xs ys its its' A.in1 (by show A.units + 1 + depL ds < cLine; omega) r r' rv rv' j (by simpa using h1) (by simpa using h2)
            simpa using q))
        have e1 : its.toArray.size = ds.length := by rw [List.size_toArray]; omega
        have e2 : its'.toArray.size = es.length := by rw [List.size_toArray]; omega
        rw [e1, e2] at this
        exact this
theorem eq_deepL (I : Inv X pins σ H s) : ∀ (ds es : List D) (xs ys : List V) (us vs : List Value) (A : Around), A.units + depL ds < cLine → RepL X.K H ds xs → RepL X.K H es ys → Vals xs us → Vals ys vs →
    ∀ (j : Nat) (h1 : j < us.length) (h2 : j < vs.length), SeqAt.EqAt A s us[j] vs[j] (eAt ds es j)
  | [], es, xs, ys, us, vs, A, hu, hd, he, rx, ry, j, h1, h2 => by
    simp only [RepL] at hd
    subst hd
    cases rx
    exact absurd h1 (by simp)
  | d :: ds, es, xs, ys, us, vs, A, hu, hd, he, rx, ry, j, h1, h2 => by
    simp only [depL] at hu
    simp only [RepL] at hd
    obtain ⟨x, xs', rfl, rd, rds⟩ := hd
    cases rx with
    | cons r0 rr =>
      cases es with
      | nil =>
        simp only [RepL] at he
        subst he
        cases ry
        exact absurd h2 (by simp)
      | cons e es =>
        simp only [RepL] at he
        obtain ⟨y, ys', rfl, re, res⟩ := he
        cases ry with
        | cons q0 qr =>
          cases j with
          | zero =>
            have : eAt (d :: ds) (e :: es) 0 = deq d e := by simp [eAt]
            rw [this]
            exact eq_deep I d e x y _ _ A (by omega) rd re r0 q0
          | succ j =>
            have : eAt (d :: ds) (e :: es) (j + 1) = eAt ds es j := by simp [eAt]
            rw [this]
            exact eq_deepL I ds es xs' ys' _ _ A (by omega) rds res rr qr j (by simpa using h1) (by simpa using h2)
end
noncomputable def rEqD (K : PySem.W.Frag) : R2 := fun x y H Q => ∃ ds es, ((Rep K H (.lst ds) x ∧ Rep K H (.lst es) y) ∨ (Rep K H (.tup ds) x ∧ Rep K H (.tup es) y)) ∧ depL ds ≤ 20 ∧ Q (.bl (deqL ds es)) H
theorem op_eqD (hu : X.A.units + 64 < cLine) : OpR X (compareOp .Eq) (rEqD X.K) := by
  intro pins s σ H x y v u Q I rx ry h
  obtain ⟨ds, es, h, hdep, q⟩ := h
  have hu0 : X.A.units < cLine := by omega
  have hin : X.A.in1.units + depL ds < cLine := by show X.A.units + 1 + depL ds < cLine; omega
  have key := eAt_all ds es
  rcases h with ⟨h1, h2⟩ | ⟨h1, h2⟩
  · simp only [Rep] at h1 h2
    obtain ⟨a, xs, rfl, hx, r⟩ := h1
    obtain ⟨b, ys, rfl, hy, r'⟩ := h2
    cases rx
    cases ry
    obtain ⟨its, rv, p, hz⟩ := I.list hx
    obtain ⟨its', rv', p', hz'⟩ := I.list hy
    have l1 := r.len
    have l2 := rv.length
    have l3 := r'.len
    have l4 := rv'.length
    by_cases hl : its.length = its'.length
    · refine SeqAt.eq_listAt (e := eAt ds es) p.isList p'.isList (by simpa using hl) hu0 (fun j h1 h2 => ?_) ?_
      · have q := eq_deepL I ds es xs ys its its' X.A.in1 hin r r' rv rv' j (by simpa using h1) (by simpa using h2)
        simpa using q
      · have e1 : its.toArray.size = min ds.length es.length := by rw [List.size_toArray]; omega
        have e2 : (ds.length == es.length) = true := by simp; omega
        rw [e2, Bool.and_true] at key
        rw [e1, key]
        exact ⟨.bl (deqL ds es), H, I, rfl, q⟩
    · have e2 : (ds.length == es.length) = false := by simp; omega
      rw [e2, Bool.and_false] at key
      rw [← key] at q
      exact SeqAt.eq_list_lengthsAt p.isList p'.isList (by simpa using hl) hu0 ⟨.bl false, H, I, rfl, q⟩
  · simp only [Rep] at h1 h2
    obtain ⟨a, xs, rfl, hx, r⟩ := h1
    obtain ⟨b, ys, rfl, hy, r'⟩ := h2
    cases rx
    cases ry
    obtain ⟨its, rv, p, hz⟩ := I.tuple hx
    obtain ⟨its', rv', p', hz'⟩ := I.tuple hy
    have l1 := r.len
    have l2 := rv.length
    have l3 := r'.len
    have l4 := rv'.length
    refine SeqAt.eq_tupleAt (e := eAt ds es) (isTuple_of p) (isTuple_of p') hu0 (fun j h1 h2 => ?_) ?_
    · have q := eq_deepL I ds es xs ys its its' X.A.in1 hin r r' rv rv' j (by simpa using h1) (by simpa using h2)
      simpa using q
    · have e1 : its.toArray.size = ds.length := by rw [List.size_toArray]; omega
      have e2 : its'.toArray.size = es.length := by rw [List.size_toArray]; omega
      rw [e1, e2, key]
      exact ⟨.bl (deqL ds es), H, I, rfl, q⟩
noncomputable def rNeD (K : PySem.W.Frag) : R2 := fun x y H Q => ∃ ds es, ((Rep K H (.lst ds) x ∧ Rep K H (.lst es) y) ∨ (Rep K H (.tup ds) x ∧ Rep K H (.tup es) y)) ∧ depL ds ≤ 20 ∧ Q (.bl (!deqL ds es)) H
theorem op_neD (hu : X.A.units + 64 < cLine) : OpR X (compareOp .NotEq) (rNeD X.K) := by
  intro pins s σ H x y v u Q I rx ry h
  obtain ⟨ds, es, h, hdep, q⟩ := h
  have hu0 : X.A.units < cLine := by omega
  have hin : X.A.in1.units + depL ds < cLine := by show X.A.units + 1 + depL ds < cLine; omega
  have key := eAt_all ds es
  rcases h with ⟨h1, h2⟩ | ⟨h1, h2⟩
  · simp only [Rep] at h1 h2
    obtain ⟨a, xs, rfl, hx, r⟩ := h1
    obtain ⟨b, ys, rfl, hy, r'⟩ := h2
    cases rx
    cases ry
    obtain ⟨its, rv, p, hz⟩ := I.list hx
    obtain ⟨its', rv', p', hz'⟩ := I.list hy
    have l1 := r.len
    have l2 := rv.length
    have l3 := r'.len
    have l4 := rv'.length
    by_cases hl : its.length = its'.length
    · refine SeqAt.RcNeAt.lists (e := eAt ds es) p.isList p'.isList (by simpa using hl) hu0 (fun j h1 h2 => ?_) X.prog X.w X.xe _ ?_
      · have q := eq_deepL I ds es xs ys its its' X.A.in1 hin r r' rv rv' j (by simpa using h1) (by simpa using h2)
        simpa using q
      · have e1 : its.toArray.size = min ds.length es.length := by rw [List.size_toArray]; omega
        have e2 : (ds.length == es.length) = true := by simp; omega
        rw [e2, Bool.and_true] at key
        rw [e1, key]
        exact ⟨.bl (!deqL ds es), H, I, rfl, q⟩
    · have e2 : (ds.length == es.length) = false := by simp; omega
      rw [e2, Bool.and_false] at key
      rw [← key] at q
      exact SeqAt.RcNeAt.lists_lengths p.isList p'.isList (by simpa using hl) hu0 X.prog X.w X.xe _ ⟨.bl true, H, I, rfl, q⟩
  · simp only [Rep] at h1 h2
    obtain ⟨a, xs, rfl, hx, r⟩ := h1
    obtain ⟨b, ys, rfl, hy, r'⟩ := h2
    cases rx
    cases ry
    obtain ⟨its, rv, p, hz⟩ := I.tuple hx
    obtain ⟨its', rv', p', hz'⟩ := I.tuple hy
    have l1 := r.len
    have l2 := rv.length
    have l3 := r'.len
    have l4 := rv'.length
    refine SeqAt.RcNeAt.tuples (e := eAt ds es) (isTuple_of p) (isTuple_of p') hu0 (fun j h1 h2 => ?_) X.prog X.w X.xe _ ?_
    · have q := eq_deepL I ds es xs ys its its' X.A.in1 hin r r' rv rv' j (by simpa using h1) (by simpa using h2)
      simpa using q
    · have e1 : its.toArray.size = ds.length := by rw [List.size_toArray]; omega
      have e2 : its'.toArray.size = es.length := by rw [List.size_toArray]; omega
      rw [e1, e2, key]
      exact ⟨.bl (!deqL ds es), H, I, rfl, q⟩
theorem RepL.ints {K : PySem.W.Frag} {H : Hp} : ∀ ns : List Int, RepL K H (ns.map D.int) (ns.map V.int)
  | [] => by simp only [List.map_nil, RepL]
  | n :: ns => by simp only [List.map_cons, RepL]; exact ⟨_, _, rfl, by simp only [Rep], RepL.ints ns⟩
end
/-! ### the same rules with the written part named -/
section
variable {X : Cx} {K : PySem.W.Frag}
theorem ix_listK (e : X.K = K) : IxR X (rIxL K) := e ▸ ix_list
theorem ix_tupK (e : X.K = K) : IxR X (rIxT K) := e ▸ ix_tup
theorem sl_listK (e : X.K = K) : SlR X (rSlL K) := e ▸ sl_list
theorem sl_tupK (e : X.K = K) : SlR X (rSlT K) := e ▸ sl_tup
theorem op_catSK (e : X.K = K) : OpR X (binaryOp .Add) (rCatS K) := e ▸ op_catS
theorem op_catTK (e : X.K = K) : OpR X (binaryOp .Add) (rCatT K) := e ▸ op_catT
theorem op_notInAK (e : X.K = K) : OpR X (compareOp .NotIn) (fun x y H Q => (∃ i j, x = .str i ∧ y = .str j ∧ Q (.bl (!(!(Builtin.Str.occurrences j i 0 j.length 1).isEmpty))) H) ∨ rIn K true x y H Q) := e ▸ op_notInA
theorem op_eqDK (hu : X.A.units + 64 < cLine) (e : X.K = K) : OpR X (compareOp .Eq) (rEqD K) := e ▸ op_eqD hu
theorem op_neDK (hu : X.A.units + 64 < cLine) (e : X.K = K) : OpR X (compareOp .NotEq) (rNeD K) := e ▸ op_neD hu
theorem call_lenK (e : X.K = K) : CallR X (.builtin "len") (fun xs H Q => ∃ x n, xs = [x] ∧ LenV K x H n ∧ Q (.int n) H) := e ▸ call_len
theorem call_allK (hc : X.calm = true) (e : X.K = K) : CallR X (.builtin "all") (rAll K) := e ▸ call_all hc
theorem call_isiK (e : X.K = K) : CallR X (.builtin "isinstance") (rIsi K) := e ▸ call_isi
theorem call_list_ofK (e : X.K = K) : CallR X (.type "list") (fun xs H Q => ∃ p ys, xs = [.ref p] ∧ (SqL K H p ys ∨ SqT K H p ys) ∧ ∀ l, H l = none → Q (.ref l) (upd H l (.lst ys))) := e ▸ call_list_of
theorem pi_listK {tg l : Expr} {tl : TE} (e : X.K = K) (hl : PE X l tl) : PI X tg l (iList K tl) := e ▸ pi_list hl
theorem pg_tupK {es : List Expr} {k : Nat} {t : TGs} {n : Nat} {pos : Pos} (e : X.K = K) (hc : X.calm = true) (h : PGs X es t)
    (hn : (assignEach es X.env).length = n := by rfl) (hst : (assignEach es X.env).findIdx? (·.1) = none := by rfl) : PG X (.Tuple es k pos) (gTup K n t) := e ▸ pg_tup hc h hn hst
end
end L2

namespace L2
open PySem PySem.Spec PyProof.Rows
section
variable {X : Cx}
noncomputable def rStarts : V → List V → Hp → VK → Prop := fun x vs H Q => ∃ z y, x = .str z ∧ vs = [.str y] ∧ Q (.bl (Txt.startswith z y)) H
theorem mt_starts : MtM X "str.startswith" rStarts := by
  intro pins s σ H x vs v us Q I rx rv h
  obtain ⟨z, y, rfl, rfl, q⟩ := h
  obtain ⟨t, rfl⟩ := rx
  obtain ⟨u, rfl, ru⟩ := rv.one
  obtain ⟨t', rfl⟩ := ru
  exact SC.startswith ⟨.bl (Txt.startswith z y), H, I, rfl, q⟩
noncomputable def rIndex : V → List V → Hp → VK → Prop := fun x vs H Q => ∃ z y i, x = .str z ∧ vs = [.str y] ∧ (∃ rest, Builtin.Str.occurrences z y 0 z.length 1 = i :: rest) ∧ Q (.int (i : Nat)) H
theorem call_intT : CallR X (.type "int") (fun xs H Q => ∃ z n, xs = [.str z] ∧ PySem.intText? z = some n ∧ z.length ≤ 640 ∧ Q (.int n) H) := by
  intro pins s σ H xs us Q I r h
  obtain ⟨z, n, rfl, hn, hl, q⟩ := h
  obtain ⟨u, rfl, ru⟩ := vals1 r
  obtain ⟨t, rfl⟩ := ru
  exact PySem.W.KIN.call_text hn hl ⟨.int n, H, I.tok _, ⟨_, rfl⟩, q⟩
end
end L2

namespace L2
open PySem PySem.Spec PyProof.Rows
/-! ### an exception on its way: its object at e, the head of its traces at T -/
noncomputable def ExcIs (h : Heap) (e : Addr) (cls : Value) (dx : Option Addr) (fl : Value) (T : Addr) : Prop :=
  ∃ oe vs oT ts, h.get? e = some oe ∧ oe.cls = cls ∧ oe.dict = dx ∧ oe.data = .fields vs ∧ vs[1]? = some (.ref T) ∧ T ≠ e ∧ h.get? T = some oT ∧ oT.data = .fields ts ∧ ts[3]? = some fl
section
variable {M : Model} {A : Around} {E : Value → Shared → Prop} {s : Shared}
end
/-! ### how an exception lies behind a call -/
noncomputable def CXE (P : Program) (w : World) : CXT := fun outer H s E e s' => ∃ (a T : Addr) (cls : Value) (dx : Option Addr) (H' : Hp), e = .ref a ∧ s'.os = s.os ∧ AllBare s'.gens ∧ Un (frs outer) [] H H' s.heap s'.heap ∧ HOk P w H' s'.heap ∧
  s.heap.get? a = none ∧ s.heap.get? T = none ∧ H' a = none ∧ H' T = none ∧ ExcIs s'.heap a cls dx .none T ∧ E cls dx H'
end L2

namespace L2
open PySem PySem.Spec PyProof.Rows
section
variable {X : Cx}
noncomputable def tRaise (C : Addr) (E : XK) (t : TA) : TS := fun _ σ H => t σ H fun vs H1 => vs.length ≤ sizeLine ∧ E (.ref C) none H1
end
end L2

/-! an own error as a value: its class, its attributes, isinstance of it -/
namespace L2
open PySem PySem.Spec PyProof.Rows PySem.W
set_option genInjectivity false in
structure XCls (K : Frag) (C : Addr) : Prop where
  ga : findIn K (.ref C) "__getattribute__" = some (some (.builtin "BaseException.__getattribute__"))
  gn : findIn K (.ref C) "__getattr__" = some none
  cl : findIn K (.ref C) "__class__" = some (some (.builtin "object.__class__"))
  sg : specialIn K (.builtin "object.__class__") "__get__" = some (some (.builtin "getset_descriptor.__get__"))
  tk : takesIn K (.builtin "object.__class__") = some true
  mo : mroIn K C (.type "object") = some true
  mb : mroIn K C (.type "BaseException") = some true
section
variable {prog : Program} {w : World} {A : Around} {E : Value → Shared → Prop} {s : Shared} {K : Frag} {x C : Addr} {ox : Obj} {od : Option Obj} {name : Str}
end
end L2

/-! try: a call; except: a suite that raises nothing -/
namespace L2
open PySem PySem.Spec PyProof.Rows
set_option genInjectivity false in
structure Catch (K : PySem.W.Frag) (B C : Addr) : Prop where
  ty : PySem.W.instIn K (.ref B) (.type "tuple") = some false
  bb : PySem.W.mroIn K B (.type "BaseException") = some true
  sub : PySem.W.mroIn K C (.ref B) = some true
/-! ### the context of an except suite -/
section
variable {X : Cx} {pins : List (Addr × Obj)} {σ : St} {H : Hp} {s : Shared} {a : Addr}
end
/-! ### an error that was caught, as a tracked thing -/
noncomputable def XO (a C : Addr) (dx : Option Addr) : HO := .ext fun h => ∃ ob vs, h.get? a = some ob ∧ ob.cls = .ref C ∧ ob.dict = dx ∧ ob.data = .fields vs
noncomputable abbrev XS := St → XK
noncomputable def XP (X : Cx) (pins : List (Addr × Obj)) (E : XS) (e : Value) (s' : Shared) : Prop := ∃ σ H s, Inv X pins σ H s ∧ CXE X.prog X.w X.stack H s (E σ) e s'
noncomputable abbrev TEX := St → Hp → VK → XK → Prop
noncomputable abbrev TSX := Ends → XS → St → Hp → Prop
section
variable {X : Cx} {k : Nat} {f C : Addr} {fd : FuncData} {ps : List Str} {sp : Sp} {dvs : List V} {ds : List Value} {x m : Str} {p pos apos : Pos} {e o : Expr} {es : List Expr} {ta : TE} {t : TA}
noncomputable def xCall (sp : Sp) (dvs : List V) (t : TA) : TEX := fun σ H Q E => t σ H fun vs H1 => sp (vs ++ dvs) H1 Q E
noncomputable def xMeth (C : Addr) (m : Str) (sp : Sp) (dvs : List V) (ta : TE) (t : TA) : TEX := fun σ H Q E => ta σ H fun x H1 => ∃ a dx fs, x = .ref a ∧ H1 a = some (.ins C dx fs) ∧ fs.lookup m = none ∧
  t σ H1 fun vs H2 => sp (x :: (vs ++ dvs)) H2 Q E
end
section
variable {X : Cx} {st : Stmt} {rest : List Stmt} {t : TS} {tx ux : TSX} {e : Expr} {te : TEX} {pos : Pos}
noncomputable def xDrop (te : TEX) : TSX := fun D E σ H => te σ H (fun _ H1 => D.nx σ H1) (E σ)
noncomputable def xSet (i : Nat) (te : TEX) : TSX := fun D E σ H => te σ H (fun v H1 => D.nx (σ.set i (some v)) H1) (E σ)
noncomputable def xRet (te : TEX) : TSX := fun D E σ H => te σ H D.rt (E σ)
noncomputable def xOf (t : TS) : TSX := fun D _ σ H => t D σ H
noncomputable def xSeq (t u : TSX) : TSX := fun D E σ H => t { D with nx := u D E } E σ H
end
/-! ### the exception lands -/
section
variable {X : Cx} {pins : List (Addr × Obj)} {σ : St} {H H' : Hp} {s s' : Shared} {a T : Addr} {cls : Value} {dx : Option Addr} {M : Model} {A : Around} {E : Value → Shared → Prop}
noncomputable def DxOk (dx : Option Addr) (H : Hp) : Prop := dx = none ∨ ∃ d fs, dx = some d ∧ H d = some (.xd fs)
end
/-! ### the rule -/
noncomputable def un1 (i : Nat) (D : Ends) : Ends := { nx := fun σ H => D.nx (σ.set i none) H, rt := D.rt, bk := fun σ H => D.bk (σ.set i none) H, ct := fun σ H => D.ct (σ.set i none) H }
noncomputable def tTryAs (K : PySem.W.Frag) (B : Addr) (i : Nat) (tb : TSX) (th : TS) : TS := fun D σ H =>
  tb D (fun σ' cls dx H' => ∃ C, cls = .ref C ∧ Catch K B C ∧ DxOk dx H' ∧ ∀ a, H' a = none → th (un1 i D) (σ'.set i (some (.ref a))) (upd H' a (XO a C dx))) σ H
noncomputable def tTry0 (K : PySem.W.Frag) (B : Addr) (tb : TSX) (th : TS) : TS := fun D σ H =>
  tb D (fun σ' cls dx H' => ∃ C, cls = .ref C ∧ Catch K B C ∧ DxOk dx H' ∧ th D σ' H') σ H
section
variable {X : Cx} {body suite : List Stmt} {b₀ : Stmt} {x n : Str} {B : Addr} {i : Nat} {np hpos pos : Pos} {tb : TSX} {th : TS}
end
end L2

/-! texts put together: f"..", join; isinstance of a caught error, of a tuple of classes -/
namespace L2
open PySem PySem.Spec PyProof.Rows
section
variable {X : Cx}
noncomputable def tRepr (t : TE) : TE := fun σ H Q => t σ H fun x H1 => ∃ z, x = .str z ∧ (reprText z).length ≤ sizeLine ∧ Q (.str (reprText z)) H1
noncomputable def tFmt (t : TE) : TE := fun σ H Q => t σ H fun x H1 => (∃ z, x = .str z ∧ z.length ≤ sizeLine ∧ Q (.str z) H1) ∨ ∃ i : Int, x = .int i ∧ i.natAbs.log2 < 1920 ∧ Q (.str (toString i)) H1
theorem pe_fmt {e : Expr} {t : TE} {pos : Pos} (he : PE X e t) : PE X (.FormattedValue e (-1) none pos) (tFmt t) := by
  intro pins s σ H Q I h
  refine FormattedValue_plain (thn (he pins s σ H _ I h) fun v s1 ⟨x, H1, I1, r1, q⟩ => ?_)
  rcases q with ⟨z, rfl, hz, q⟩ | ⟨i, rfl, hi, q⟩
  · obtain ⟨t', rfl⟩ := r1
    exact formatField_str (fun t'' tk => ⟨.str z, H1, I1.tok tk, ⟨t'', rfl⟩, q⟩) hz
  · obtain ⟨t', rfl⟩ := r1
    exact formatField_int_small hi ⟨.str (toString i), H1, I1.tok _, ⟨_, rfl⟩, q⟩
noncomputable abbrev TJ := Str → St → Hp → VK → Prop
noncomputable def PJ (X : Cx) (es : List Expr) (t : TJ) : Prop := ∀ (acc : Str) (pins : List (Addr × Obj)) (s : Shared) (σ : St) (H : Hp) (Q : VK), Inv X pins σ H s → t acc σ H Q →
  wpAny (model X.prog X.w) X.A (joinParts acc (evalEach es X.env)) (EP X pins σ Q) X.xe s
noncomputable def jNil : TJ := fun acc _ H Q => acc.length ≤ sizeLine ∧ Q (.str acc) H
noncomputable def jCons (t : TE) (u : TJ) : TJ := fun acc σ H Q => t σ H fun x H1 => ∃ y, x = .str y ∧ (acc ++ y).length ≤ sizeLine ∧ u (acc ++ y) σ H1 Q
theorem pj_nil : PJ X [] jNil := fun acc pins s σ H Q I h => joinParts_nilE (joinParts_nil ⟨.str acc, H, I.tok _, ⟨_, rfl⟩, h.2⟩ h.1)
theorem pj_cons {e : Expr} {es : List Expr} {t : TE} {u : TJ} (he : PE X e t) (hr : PJ X es u) : PJ X (e :: es) (jCons t u) := by
  intro acc pins s σ H Q I h
  refine joinParts_consE (joinParts_cons (thn (he pins s σ H _ I h) fun v s1 ⟨x, H1, I1, r1, y, ey, hy, q⟩ => ?_))
  subst ey
  obtain ⟨t', rfl⟩ := r1
  exact ⟨hy, hr (acc ++ y) pins s1 σ H1 Q I1 q⟩
noncomputable def tJoined (t : TJ) : TE := fun σ H Q => t Str.empty σ H Q
theorem pe_joined {v₁ v₂ : Expr} {rest : List Expr} {pos : Pos} {t : TJ} (h : PJ X (v₁ :: v₂ :: rest) t) : PE X (.JoinedStr (v₁ :: v₂ :: rest) pos) (tJoined t) :=
  fun pins s σ H Q I hw => JoinedStr_many (h Str.empty pins s σ H Q I hw)
/-! ### sep.join(list) -/
theorem strs_of : ∀ {zs : List Str} {us : List Value}, Vals (zs.map V.str) us → ∃ l : List (Str × Tok), us = strValues l ∧ l.map (·.1) = zs
  | [], _, .nil => ⟨[], rfl, rfl⟩
  | z :: zs, _, .cons ⟨t, e⟩ r => by
    obtain ⟨l, h1, h2⟩ := strs_of r
    subst e
    exact ⟨(z, t) :: l, by rw [h1]; rfl, by simp [h2]⟩
noncomputable def rJoin (K : PySem.W.Frag) : V → List V → Hp → VK → Prop := fun x vs H Q => ∃ z a zs, x = .str z ∧ vs = [.ref a] ∧ SqL K H a (zs.map V.str) ∧ JoinOk z zs = true ∧ Q (.str (Txt.join z zs)) H
theorem mt_join : MtM X "str.join" (rJoin X.K) := by
  intro pins s σ H x vs v us Q I rx rv h
  obtain ⟨z, a, zs, rfl, rfl, hS, hok, q⟩ := h
  obtain ⟨t, rfl⟩ := rx
  obtain ⟨u, rfl, ru⟩ := rv.one
  cases ru
  obtain ⟨its, r, p, _⟩ := I.list hS
  obtain ⟨l, e1, e2⟩ := strs_of r
  subst e1
  refine SC.join (l := l) p.isList e2 hok fun t' k => ⟨.str (Txt.join z zs), H, I.tok k, ⟨t', rfl⟩, q⟩
theorem mt_joinK {K : PySem.W.Frag} (e : X.K = K) : MtM X "str.join" (rJoin K) := e ▸ mt_join
/-! ### isinstance -/
noncomputable def TyX (K : PySem.W.Frag) (H : Hp) (x : V) (t : Value) : Prop := TyOf K H x t ∨ ∃ a C dx, x = .ref a ∧ t = .ref C ∧ H a = some (XO a C dx) ∧ DxOk dx H ∧ XCls K C
noncomputable def vOf : V → Value
  | .ref a => .ref a
  | .ty n => .type n
  | _ => .none
noncomputable def isCl : V → Bool
  | .ref _ => true
  | .ty _ => true
  | _ => false
noncomputable def rIsx (K : PySem.W.Frag) : List V → Hp → VK → Prop := fun xs H Q => ∃ x c t b, xs = [x, c] ∧ isCl c = true ∧ TyX K H x t ∧ PySem.W.kitOne K t (vOf c) = some b ∧ Q (.bl b) H
noncomputable def rIst (K : PySem.W.Frag) : List V → Hp → VK → Prop := fun xs H Q => ∃ x tp cs t b, xs = [x, .ref tp] ∧ H tp = some (.tup cs) ∧ cs.all isCl = true ∧ TyX K H x t ∧ PySem.W.kitAny K t (cs.map vOf) = some b ∧ Q (.bl b) H
end
section
variable {P : Program} {w : World} {K : PySem.W.Frag} {mg : Str → Option Value} {base : Heap}
end
end L2
namespace L2
end L2
namespace L2
open PySem PySem.Spec PyProof.Rows
theorem txt_join (sep : Str) (ts : List Str) : Txt.join sep ts = Str.join sep ts := StrLaws.glued_eq_join sep ts
theorem sum_le {ts : List Str} {B : Nat} : (∀ t ∈ ts, t.length ≤ B) → (ts.map (·.length)).sum ≤ ts.length * B := by
  induction ts with
  | nil => intro _; simp
  | cons a r ih =>
    intro h
    have h1 := h a (List.mem_cons_self ..)
    have h2 := ih fun t ht => h t (List.mem_cons_of_mem _ ht)
    simp only [List.map_cons, List.sum_cons, List.length_cons]
    rw [Nat.add_mul]; omega
theorem join_le {sep : Str} {ts : List Str} {B : Nat} (h : ∀ t ∈ ts, t.length ≤ B) : (Txt.join sep ts).length ≤ ts.length * B + ts.length * sep.length := by
  rw [txt_join]
  exact Nat.le_trans (StrLaws.join_length_le sep ts) (Nat.add_le_add_right (sum_le h) _)
theorem joinOk_of {sep : Str} {ts : List Str} {B : Nat} (h : ∀ t ∈ ts, t.length ≤ B) (hz : ts.length * B + ts.length * sep.length ≤ 16777216) : JoinOk sep ts = true := by
  unfold JoinOk
  rw [StrLaws.joinFits h hz]; rfl
end L2

/-! pieces that lie in the heap: (name, stretches, names); what is done to the last one -/
namespace L2
open PySem PySem.Spec PyProof.Rows
set_option genInjectivity false in
structure FillM where
  a : Addr
  at_ : Int
  rule : Str
  name : Str
  add : Int
  soft : Bool
set_option genInjectivity false in
structure StM where
  t : Addr
  lw : Addr
  lf : Addr
  kind : Str
  step : Int
  words : List Int
  fills : List FillM
set_option genInjectivity false in
structure ToldM where
  a : Addr
  name : Str
  sort : Str
  st : Int
  off : Int
set_option genInjectivity false in
structure PcM where
  t : Addr
  ls : Addr
  ln : Addr
  name : Str
  sts : List StM
  nms : List ToldM
noncomputable abbrev FillM.v (f : FillM) : V := .ref f.a
noncomputable abbrev StM.v (s : StM) : V := .ref s.t
noncomputable abbrev ToldM.v (n : ToldM) : V := .ref n.a
noncomputable abbrev PcM.v (p : PcM) : V := .ref p.t
noncomputable def FillM.At (H : Hp) (f : FillM) : Prop := H f.a = some (.tup [.int f.at_, .str f.rule, .str f.name, .int f.add, .bl f.soft])
noncomputable def ToldM.At (H : Hp) (n : ToldM) : Prop := H n.a = some (.tup [.str n.name, .str n.sort, .int n.st, .int n.off])
set_option genInjectivity false in
structure StM.At (H : Hp) (s : StM) : Prop where
  top : H s.t = some (.tup [.str s.kind, .int s.step, .ref s.lw, .ref s.lf])
  wd : H s.lw = some (.lst (s.words.map V.int))
  fl : H s.lf = some (.lst (s.fills.map FillM.v))
  fs : ∀ f ∈ s.fills, f.At H
set_option genInjectivity false in
structure PcM.At (H : Hp) (p : PcM) : Prop where
  top : H p.t = some (.tup [.str p.name, .ref p.ls, .ref p.ln])
  sl : H p.ls = some (.lst (p.sts.map StM.v))
  nl : H p.ln = some (.lst (p.nms.map ToldM.v))
  ss : ∀ s ∈ p.sts, s.At H
  ns : ∀ n ∈ p.nms, n.At H
noncomputable def StM.lists (s : StM) : List Addr := [s.lw, s.lf]
noncomputable def PcM.lists (p : PcM) : List Addr := p.ls :: p.ln :: p.sts.flatMap StM.lists
noncomputable def listsOf (ps : List PcM) : List Addr := ps.flatMap PcM.lists
set_option genInjectivity false in
structure Pcs (H : Hp) (L : Addr) (ps : List PcM) : Prop where
  top : H L = some (.lst (ps.map PcM.v))
  at_ : ∀ p ∈ ps, p.At H
  nd : (L :: listsOf ps).Nodup
/-! ### kept -/
noncomputable def But (H H' : Hp) (l : Addr) : Prop := (∃ xs, H l = some (.lst xs)) ∧ ∀ b o, H b = some o → b ≠ l → H' b = some o
theorem But.upd {H : Hp} {l : Addr} {xs : List V} {o : HO} (h : H l = some (.lst xs)) : But H (L2.upd H l o) l := ⟨⟨xs, h⟩, fun b u e n => by rw [upd_ne n]; exact e⟩
theorem But.tup {H H' : Hp} {l a : Addr} {xs : List V} (b : But H H' l) (h : H a = some (.tup xs)) : H' a = some (.tup xs) := by
  obtain ⟨ys, hl⟩ := b.1
  exact b.2 _ _ h fun e => by rw [e, hl] at h; cases h
theorem FillM.At.but {H H' : Hp} {l : Addr} {f : FillM} (h : f.At H) (b : But H H' l) : f.At H' := b.tup h
theorem ToldM.At.but {H H' : Hp} {l : Addr} {n : ToldM} (h : n.At H) (b : But H H' l) : n.At H' := b.tup h
theorem StM.At.but {H H' : Hp} {l : Addr} {s : StM} (h : s.At H) (b : But H H' l) (n : l ∉ s.lists) : s.At H' :=
  ⟨b.tup h.top, b.2 _ _ h.wd fun e => n (by simp [StM.lists, e]), b.2 _ _ h.fl fun e => n (by simp [StM.lists, e]), fun f hf => (h.fs f hf).but b⟩
theorem PcM.At.but {H H' : Hp} {l : Addr} {p : PcM} (h : p.At H) (b : But H H' l) (n : l ∉ p.lists) : p.At H' :=
  ⟨b.tup h.top, b.2 _ _ h.sl fun e => n (by simp [PcM.lists, e]), b.2 _ _ h.nl fun e => n (by simp [PcM.lists, e]),
    fun s hs => (h.ss s hs).but b fun z => n (by simp only [PcM.lists, List.mem_cons]; exact .inr (.inr (List.mem_flatMap.mpr ⟨s, hs, z⟩))), fun m hm => (h.ns m hm).but b⟩
/-! ### the lists are tracked -/
theorem StM.At.list {H : Hp} {s : StM} (h : s.At H) {b : Addr} (hb : b ∈ s.lists) : ∃ xs, H b = some (.lst xs) := by
  simp only [StM.lists, List.mem_cons, List.not_mem_nil, or_false] at hb
  rcases hb with e | e
  · rw [e]; exact ⟨_, h.wd⟩
  · rw [e]; exact ⟨_, h.fl⟩
theorem PcM.At.list {H : Hp} {p : PcM} (h : p.At H) {b : Addr} (hb : b ∈ p.lists) : ∃ xs, H b = some (.lst xs) := by
  simp only [PcM.lists, List.mem_cons] at hb
  rcases hb with e | e | e
  · rw [e]; exact ⟨_, h.sl⟩
  · rw [e]; exact ⟨_, h.nl⟩
  · obtain ⟨s, hs, z⟩ := List.mem_flatMap.mp e
    exact (h.ss s hs).list z
theorem listsOf_snoc (ps : List PcM) (p : PcM) : listsOf (ps ++ [p]) = listsOf ps ++ p.lists := by simp [listsOf, List.flatMap_append]
theorem Pcs.apart {H : Hp} {L : Addr} {ps : List PcM} {p : PcM} (h : Pcs H L (ps ++ [p])) : (∀ q ∈ ps, ∀ b ∈ p.lists, b ∉ q.lists) ∧ p.lists.Nodup ∧ L ∉ p.lists ∧ ∀ q ∈ ps, L ∉ q.lists := by
  have n := h.nd
  rw [listsOf_snoc] at n
  obtain ⟨n1, n2⟩ := List.nodup_cons.mp n
  obtain ⟨n3, n4, n5⟩ := List.nodup_append.mp n2
  refine ⟨fun q hq b hb z => n5 b (List.mem_flatMap.mpr ⟨q, hq, z⟩) b hb rfl, n4, fun z => n1 (List.mem_append_right _ z), fun q hq z => n1 (List.mem_append_left _ (List.mem_flatMap.mpr ⟨q, hq, z⟩))⟩
/-! ### what is done -/
theorem Pcs.last {H : Hp} {L l : Addr} {ps : List PcM} {p p' : PcM} {o : HO} (h : Pcs H L (ps ++ [p])) (hl : l ∈ p.lists) (ht : p'.t = p.t) (hp : p'.At (upd H l o)) (hn : (L :: listsOf (ps ++ [p'])).Nodup) : Pcs (upd H l o) L (ps ++ [p']) := by
  obtain ⟨a1, a2, a3, a4⟩ := h.apart
  obtain ⟨xs, hx⟩ := (h.at_ p (by simp)).list hl
  have b : But H (upd H l o) l := But.upd hx
  refine ⟨?_, fun q hq => ?_, hn⟩
  · rw [b.2 _ _ h.top fun e => a3 (by rw [e]; exact hl)]
    simp [PcM.v, ht]
  · rcases List.mem_append.mp hq with z | z
    · exact (h.at_ q (List.mem_append_left _ z)).but b (a1 q z l hl)
    · rw [List.mem_singleton.mp z]; exact hp
theorem Pcs.newStretch {H : Hp} {L t lw lf : Addr} {kind : Str} {step : Int} {ps : List PcM} {p : PcM} (h : Pcs H L (ps ++ [p])) (h1 : H t = some (.tup [.str kind, .int step, .ref lw, .ref lf])) (h2 : H lw = some (.lst [])) (h3 : H lf = some (.lst []))
    (n1 : lw ≠ lf) (n2 : lw ∉ L :: listsOf (ps ++ [p])) (n3 : lf ∉ L :: listsOf (ps ++ [p])) :
    Pcs (upd H p.ls (.lst (p.sts.map StM.v ++ [.ref t]))) L (ps ++ [{ p with sts := p.sts ++ [⟨t, lw, lf, kind, step, [], []⟩] }]) := by
  have hp := h.at_ p (by simp)
  obtain ⟨a1, a2, a3, a4⟩ := h.apart
  have b : But H (upd H p.ls (.lst (p.sts.map StM.v ++ [.ref t]))) p.ls := But.upd hp.sl
  have in1 : ∀ x, x ∈ p.lists → x ∈ L :: listsOf (ps ++ [p]) := fun x hx => List.mem_cons_of_mem _ (by rw [listsOf_snoc]; exact List.mem_append_right _ hx)
  have hls : p.ls ∈ p.lists := by simp [PcM.lists]
  have nd : p.ls ≠ p.ln ∧ p.ls ∉ p.sts.flatMap StM.lists := by
    have := a2
    simp only [PcM.lists, List.nodup_cons, List.mem_cons, not_or] at this
    exact this.1
  refine h.last hls rfl ⟨b.tup hp.top, by rw [upd_same]; simp, b.2 _ _ hp.nl (Ne.symm nd.1), fun s hs => ?_, fun n hn => (hp.ns n hn).but b⟩ ?_
  · rcases List.mem_append.mp hs with z | z
    · exact (hp.ss s z).but b fun q => nd.2 (List.mem_flatMap.mpr ⟨s, z, q⟩)
    · have e := List.mem_singleton.mp z
      subst e
      exact ⟨b.tup h1, b.2 _ _ h2 fun (e : lw = p.ls) => n2 (in1 _ (e ▸ hls)), b.2 _ _ h3 fun (e : lf = p.ls) => n3 (in1 _ (e ▸ hls)), fun f hf => absurd hf (by simp)⟩
  · have e : L :: listsOf (ps ++ [{ p with sts := p.sts ++ [⟨t, lw, lf, kind, step, [], []⟩] }]) = (L :: listsOf (ps ++ [p])) ++ [lw, lf] := by
      rw [listsOf_snoc, listsOf_snoc]
      simp [PcM.lists, StM.lists, List.flatMap_append]
    rw [e]
    refine List.nodup_append.mpr ⟨h.nd, by simp [n1], fun x hx y hy e => ?_⟩
    subst e
    simp only [List.mem_cons, List.not_mem_nil, or_false] at hy
    rcases hy with e | e
    · subst e; exact n2 hx
    · subst e; exact n3 hx
end L2
namespace L2
open PySem PySem.Spec PyProof.Rows
/-! ### as data -/
theorem RepL.map {K : PySem.W.Frag} {H : Hp} {α : Type} {f : α → D} {g : α → V} : ∀ {xs : List α}, (∀ x ∈ xs, Rep K H (f x) (g x)) → RepL K H (xs.map f) (xs.map g)
  | [], _ => by simp [RepL]
  | x :: xs, h => by
    simp only [List.map_cons, RepL]
    exact ⟨_, _, rfl, h x (List.mem_cons_self ..), RepL.map fun y hy => h y (List.mem_cons_of_mem _ hy)⟩
theorem depL_le {α : Type} {f : α → D} {n : Nat} : ∀ {xs : List α}, (∀ x ∈ xs, dep (f x) ≤ n) → depL (xs.map f) ≤ n
  | [], _ => by simp [depL]
  | x :: xs, h => by
    simp only [List.map_cons, depL]
    exact Nat.max_le.mpr ⟨h x (List.mem_cons_self ..), depL_le fun y hy => h y (List.mem_cons_of_mem _ hy)⟩
theorem deqL_nil (ds : List D) : deqL ds [] = decide (ds = []) := by cases ds <;> simp [deqL]
end L2

/-! own errors with an __init__ of their own -/
namespace L2
open PySem PySem.Spec PyProof.Rows PySem.W
noncomputable abbrev VE : List Value := [.type "ValueError", .type "Exception", .type "BaseException", .type "object"]
noncomputable def ownInit (K : Frag) (C fI : Addr) : Bool :=
  match K.lookup C with
  | none => false
  | some ob =>
    match ob.cls, ob.data, ob.slots.toList with
    | .type "type", .cls cd, [_, _, _, _, some (.builtin n), _] =>
      (match cd.mro with
       | .ref C' :: bm => C' == C && (n == "ValueError.__new__" && (!cd.hasDel && (tailIn K VE bm && (nsOkIn K cd.ns && (cd.hasDict && nsIn K cd.ns "__init__" == some (some (.ref fI)))))))
       | _ => false)
    | _, _, _ => false
section
variable {prog : Program} {w : World} {A : Around} {E : Value → Shared → Prop} {h : Heap} {g : Array GenState} {d : Drawn} {t : Nat} {os : OsState}
variable {nm q : Str} {C N : Addr} {bs bm bmB : List Value} {hdct : Bool} {sn : List Str} {sub : List Value} {ab : Bool} {col : Option Bool} {dd : Option Addr} {k0 k1 k2 k3 k5 : Option Value} {B newId initId : String}
theorem type_call_init (F : ExcBaseFacts B newId initId bmB) (T : OwnTail h bmB bm) {mN : Str → Option Value} {rest : List Value} {fI : Addr} {oI : Obj} {Q : Fin → Shared → Prop}
    (hC : h.get? C = some (excClassObj nm q C N bs bm hdct sn sub ab col dd k0 k1 k2 k3 k5 newId)) (hn : h.Ns N mN) (hi : mN "__init__" = some (.ref fI))
    (hfI : h.get? fI = some oI) (hfc : oI.cls = .type "function")
    (hq : ∀ h' e, h.objs.size ≤ e → Heap.MadeExcOf h h' e (.ref C) rest →
      wpAny (model prog w) A (call (.ref fI) (.ref e :: rest)) (fun r s' => r = .none ∧ Q (.done (.ret (.ref e))) s') E ⟨h', g, d, t, os⟩) (hrest : rest.length ≤ sizeLine) :
    wpAny (model prog w) A (Builtin.«type.__call__» ⟨.ref C :: rest, []⟩) Q E ⟨h, g, d, t, os⟩ := by
  repeat (first | with_reducible refine wpAny_loadPart_at hC ?_ | with_reducible refine wpAny_madeBy_exc hC ?_ | wp_step)
  refine codeAny_call_builtin_code (Code.quiet_builtin _ F.quiet) (wpAny_check_new_subT F T hC ?_)
  refine codeAny_exc_new_subT F T hC ?_ hrest
  show wpAny _ _ _ _ _ _
  have up : ∀ b o, h.get? b = some o → ((h.push { cls := .type "tuple", data := .seq rest.toArray }).push { cls := .ref C, data := .fields #[.ref h.objs.size, .none, .none, .none, .bool false, .none] }).get? b = some o :=
    fun b o e => Heap.get?_push_of_some _ (Heap.get?_push_of_some _ e)
  have hC₁ := up _ _ hC
  have hfI₁ := up _ _ hfI
  have hn₁ := hn.keeps up
  have hget : ((h.push { cls := .type "tuple", data := .seq rest.toArray }).push
      { cls := .ref C, data := .fields #[.ref h.objs.size, .none, .none, .none, .bool false, .none] }).get? (h.objs.size + 1) = some
      { cls := .ref C, data := .fields #[.ref h.objs.size, .none, .none, .none, .bool false, .none] } := by heap_get
  have hcC : (Value.ref C :: bm).contains (.ref C) = true := by simp
  unfold isInstance
  repeat (first | with_reducible refine wpAny_loadPart_at hget ?_ | (with_reducible refine wpAny_isSubtype_exc hC₁ ?_; rw [hcC]) | wp_step)
  show wpAny _ _ (typeLookup (.ref C) _) _ _ _
  refine wpAny_typeLookup_tail hC₁ hn₁ (T.keeps up) F.mroIs F.init.lookup ?_
  rw [hi]
  refine wpAny_holding (wpAny_bind ?_)
  unfold bindSpecial
  refine wpAny_bind (wpAny_typeOf (T := "function") ⟨_, hfI₁, hfc⟩ ?_)
  rw [if_pos (by decide)]
  refine wpAny_pure (wpAny_bind (wpAny_mono (hq _ (h.objs.size + 1) (Nat.le_succ _) ⟨up, Heap.get?_none_of_le (Nat.le_succ _), h.objs.size, hget, Heap.get?_none_of_le (Nat.le_refl _), ?_⟩) (fun r s' hr => ?_) fun _ _ x => x))
  · exact Heap.get?_push_of_some _ (Heap.get?_push_at rfl rfl)
  · obtain ⟨rfl, hQ⟩ := hr
    wp_walk
    exact hQ
theorem call_init (F : ExcBaseFacts B newId initId bmB) (T : OwnTail h bmB bm) {mN : Str → Option Value} {rest : List Value} {fI : Addr} {oI : Obj} {Q : Value → Shared → Prop}
    (hC : h.get? C = some (excClassObj nm q C N bs bm hdct sn sub ab col dd k0 k1 k2 k3 k5 newId)) (hn : h.Ns N mN) (hi : mN "__init__" = some (.ref fI))
    (hfI : h.get? fI = some oI) (hfc : oI.cls = .type "function")
    (hq : ∀ h' e, h.objs.size ≤ e → Heap.MadeExcOf h h' e (.ref C) rest →
      wpAny (model prog w) (A.under (.builtin "type.__call__" ⟨.ref C :: rest, []⟩)) (call (.ref fI) (.ref e :: rest)) (fun r s' => r = .none ∧ Q (.ref e) s') E ⟨h', g, d, t, os⟩) (hrest : rest.length ≤ sizeLine) :
    wpAny (model prog w) A (call (.ref C) rest) Q E ⟨h, g, d, t, os⟩ := by
  have f1 := tc_lookup
  have f2 := tc_bind (.ref C)
  have hT : (⟨h, g, d, t, os⟩ : Shared).TypeIs (.ref C) "type" := ⟨_, hC, rfl⟩
  refine wpAny_call (codeAny_of_tree ?_)
  show wpAny _ _ (callAny (.ref C) _) _ _ _
  repeat (any_goals (first | assumption | with_reducible refine wpAny_loadPart_at hC ?_ | wp_step))
  refine ⟨rfl, ?_⟩
  refine codeAny_call_builtin_at (Code.quiet_builtin _ (by decide +kernel)) entry_typeCall (wpAny_check_type_call_sub hC (type_call_init (hrest := hrest) F T hC hn hi hfI hfc fun h' e hz hm => ?_))
  exact hq h' e hz hm
end
/-! ### self.f = v of an error that is being made -/
noncomputable def onlyErr : List Value → Bool
  | .ref _ :: r => onlyErr r
  | l => l == VE
noncomputable def errIn (K : Frag) (C : Addr) : Bool := (clsIn K C).any fun cd => cd.hasDict && onlyErr cd.mro
section
variable {prog : Program} {w : World} {A : Around} {E : Value → Shared → Prop} {s : Shared} {K : Frag} {x C : Addr} {R : Result → Shared → Prop}
end
end L2

namespace L2
open PySem PySem.Spec PyProof.Rows PySem.W
section
variable {M : Model} {A : Around} {E : Value → Shared → Prop} {env : Env}
variable {nm q : Str} {C N : Addr} {bs bm : List Value} {hdct : Bool} {sn : List Str} {sub : List Value} {ab : Bool} {col : Option Bool} {dd : Option Addr} {k0 k1 k2 k3 k5 : Option Value} {newId : String}
end
section
variable {prog : Program} {w : World} {A : Around} {E : Value → Shared → Prop} {s : Shared} {env : Env}
variable {nm q : Str} {C N : Addr} {bs bm bmB : List Value} {hdct : Bool} {sn : List Str} {sub : List Value} {ab : Bool} {col : Option Bool} {dd : Option Addr} {k0 k1 k2 k3 k5 : Option Value} {B newId initId : String}
end
/-! ### an error that is being made -/
noncomputable def XN (a C : Addr) (dx : Option Addr) : HO := .ext fun h => ∃ ob vs v0, h.get? a = some ob ∧ ob.cls = .ref C ∧ ob.dict = dx ∧ ob.data = .fields vs ∧ vs[0]? = some v0 ∧ vs[1]? = some .none
noncomputable def XD (d : Addr) (fs : List (Str × V)) : HO := .ext fun h => ∃ mA, h.Ns1 d mA ∧ (∀ f, RelO (fs.lookup f) (mA f)) ∧ PySem.Within mA (fs.map (·.1))
noncomputable def del (H : Hp) (a : Addr) : Hp := fun b => if b = a then none else H b
section
variable {X : Cx} {pins : List (Addr × Obj)} {σ : St} {H : Hp} {s : Shared} {a C : Addr} {φ : Heap → Prop}
end
end L2

namespace L2
open PySem PySem.Spec PyProof.Rows PySem.W
set_option genInjectivity false in
structure ErrC (K : Frag) (C f : Addr) : Prop where
  ini : ownInit K C f = true
  ei : errIn K C = true
  sa : findIn K (.ref C) "__setattr__" = some (some (.builtin "object.__setattr__"))
  fn : isFn K (.ref f) = true
noncomputable def tRaiseI (C : Addr) (sp : Sp) (E : XK) (t : TA) : TS := fun _ σ H => t σ H fun vs H1 => vs.length ≤ sizeLine ∧ ∀ x, H1 x = none → sp (.ref x :: vs) (upd H1 x (XN x C none)) (fun v H2 => v = .non ∧
  ((H2 x = some (XN x C none) ∧ E (.ref C) none (del H2 x)) ∨ ∃ d fs, d ≠ x ∧ H2 x = some (XN x C (some d)) ∧ H2 d = some (XD d fs) ∧ E (.ref C) (some d) (del (upd H2 d (.xd fs)) x))) E0
noncomputable def tXInit (K : Frag) (t : TA) : TE := fun σ H Q => t σ H fun vs H1 => ∃ a C dx rest f, vs = .ref a :: rest ∧ H1 a = some (XN a C dx) ∧ ErrC K C f ∧ rest.length ≤ sizeLine ∧ Q .non H1
noncomputable def sXFld (K : Frag) (ta tv : TE) (f : Str) : TS := fun D σ H => tv σ H fun y H1 => ta σ H1 fun x H2 => ∃ a C fI dx, x = .ref a ∧ H2 a = some (XN a C dx) ∧ ErrC K C fI ∧ NoAttr K C f ∧
  ((dx = none ∧ ∀ d, H2 d = none → D.nx σ (upd (upd H2 d (XD d [(f, y)])) a (XN a C (some d)))) ∨ ∃ d fs, dx = some d ∧ H2 d = some (XD d fs) ∧ fs.length < 1000 ∧ D.nx σ (upd H2 d (XD d (putF f y fs))))
noncomputable def tXFld (K : Frag) (ta : TE) (f : Str) : TE := fun σ H Q => ta σ H fun x H1 => ∃ a C d fs v, x = .ref a ∧ H1 a = some (XO a C (some d)) ∧ H1 d = some (.xd fs) ∧ XCls K C ∧ hasDictIn K C = true ∧ NoAttr K C f ∧ fs.lookup f = some v ∧ Q v H1
section
variable {X : Cx} {x f : Str} {B C fI : Addr} {k : Nat} {fd : FuncData} {ps : List Str} {sp : Sp} {E : XK} {e o value : Expr} {es : List Expr} {p np apos cpos pos pos' : Pos} {t : TA} {ta tv : TE}
end
end L2

namespace L2
open PySem PySem.Spec PyProof.Rows
section
variable {X : Cx}
theorem pss_weak {b : List Stmt} {t u : TS} (h : PSs X b t) (w : ∀ D σ H, u D σ H → t D σ H) : PSs X b u := fun pins s σ H D I q => h pins s σ H D I (w D σ H q)
end
end L2

/-! x = [.. for ..]: the store is done while the comprehension's frame stands yet -/
namespace L2
open PySem PySem.Spec PyProof.Rows
section
variable {X : Cx}
end
end L2

/-! dict(d), d == e, xs.count(x) -/
namespace L2
open PySem PySem.Spec PyProof.Rows
section
variable {prog : Program} {w : World} {K : Type} [DecidableEq K] {knd : KeyKind prog w K} {A : Around} {E : Value → Shared → Prop} {s : Shared}
end
section
variable {X : Cx}
noncomputable def rEqDict (K : PySem.W.Frag) : R2 := fun x y H Q => ∃ p q kvs, x = .ref p ∧ y = .ref q ∧ H p = some (.dK kvs) ∧ H q = some (.dK kvs) ∧ (∀ kv ∈ kvs, ∃ d, Rep K H d kv.2 ∧ dep d ≤ 20) ∧ Q (.bl true) H
noncomputable def rDictOf : List V → Hp → VK → Prop := fun xs H Q => ∃ p kvs, xs = [.ref p] ∧ H p = some (.dK kvs) ∧ ∀ q, H q = none → Q (.ref q) (upd H q (.dK kvs))
noncomputable def cntV (x : V) (xs : List V) : Nat := xs.countP fun y => eqV y x
noncomputable def rCount (K : PySem.W.Frag) : V → List V → Hp → VK → Prop := fun x vs H Q => ∃ p xs y, x = .ref p ∧ vs = [y] ∧ SqL K H p xs ∧ flatV y = true ∧ xs.all flatV = true ∧ Q (.int (cntV y xs : Nat)) H
end
end L2

/-! a comprehension whose element may raise -/
namespace L2
open PySem PySem.Spec PyProof.Rows
section
variable {M : Model} {A : Around} {E : Value → Shared → Prop} {s : Shared}
end
section
variable {prog : Program} {w : World} {A : Around} {R : Result → Shared → Prop} {s : Shared}
end
section
variable {X : Cx}
noncomputable def tCompX (E : XK) (k : Nat) (fm : List Nat) (wi : TI) (g : TG) (tt : TT) (te : TEX) : TE := fun σ H Q => wi σ H fun J H1 => ∀ D, H1 D = none → ∃ W : Nat → Nat → List V → Hp → Prop,
  (∃ m, W 0 m [] (upd H1 D (.lst []))) ∧ ∀ i m ys H2, W i m ys H2 → H2 D = some (.lst ys) ∧ ys.length < sizeLine ∧ ((J.stop i H2 ∧ Q (.ref D) H2) ∨ (J.go i H2 ∧ ∃ N : List V → Hp → Prop, (∀ ys' H', N ys' H' → ∃ m', m' < m ∧ W (i + 1) m' ys' H') ∧ ∀ x H3, J.yld i H2 x H3 →
    g x (blkSt k fm σ) H3 fun σ3 H4 => Ext (blkSt k fm σ) σ3 ∧ tt σ3 H4 fun b H5 => if b = true then te σ3 H5 (fun y H6 => H6 D = some (.lst ys) ∧ N (ys ++ [y]) (upd H6 D (.lst (ys ++ [y])))) E else N ys H5))
end
/-! ### the readings -/
noncomputable def CompWX (E : XK) (g : TG) (tt : TT) (te : TEX) (σ0 : St) (Q : VK) (J : It) (H1 : Hp) : Prop := ∀ DD, H1 DD = none → ∃ W : Nat → Nat → List V → Hp → Prop,
  (∃ m, W 0 m [] (upd H1 DD (.lst []))) ∧ ∀ i m ys H2, W i m ys H2 → H2 DD = some (.lst ys) ∧ ys.length < sizeLine ∧ ((J.stop i H2 ∧ Q (.ref DD) H2) ∨ (J.go i H2 ∧ ∃ N : List V → Hp → Prop, (∀ ys' H', N ys' H' → ∃ m', m' < m ∧ W (i + 1) m' ys' H') ∧ ∀ x H3, J.yld i H2 x H3 →
    g x σ0 H3 fun σ3 H4 => Ext σ0 σ3 ∧ tt σ3 H4 fun b H5 => if b = true then te σ3 H5 (fun y H6 => H6 DD = some (.lst ys) ∧ N (ys ++ [y]) (upd H6 DD (.lst (ys ++ [y])))) E else N ys H5))
noncomputable def CompLX (K : PySem.W.Frag) (E : XK) (g : TG) (tt : TT) (te : TEX) (σ0 : St) (Q : VK) : VK := fun x H1 => ∃ a, x = .ref a ∧ (∃ xs, SqL K H1 a xs) ∧ CompWX E g tt te σ0 Q (Itl K a) H1
section
variable {K : PySem.W.Frag} {k : Nat} {fm : List Nat} {tl : TE} {te : TEX} {g : TG} {tt : TT} {σ σ0 : St} {H H1 : Hp} {Q : VK} {E : XK}
theorem tCompX_list : tCompX E k fm (iList K tl) g tt te σ H Q = tl σ H (CompLX K E g tt te (blkSt k fm σ) Q) := rfl
end
section
variable {M : Model} {A : Around} {E : Value → Shared → Prop} {s : Shared}
end
end L2

/-! lists and dicts cleared -/
namespace L2
open PySem PySem.Spec PyProof.Rows
section
variable {X : Cx}
noncomputable def rClearD : V → List V → Hp → VK → Prop := fun x vs H Q => ∃ l kvs, x = .ref l ∧ vs = [] ∧ H l = some (.dK kvs) ∧ Q .non (upd H l (.dK []))
end
end L2

/-! sorted(..) of texts: of a list, of a dict's keys -/
namespace L2
open PySem PySem.Spec PyProof.Rows
section
variable {X : Cx}
end
end L2

/-! dict(list of pairs) -/
namespace L2
open PySem
section
variable {prog : Program} {w : World} {A : Around} {E : Value → Shared → Prop} {s : Shared}
set_option maxHeartbeats 3200000 in
set_option maxHeartbeats 3200000 in
set_option maxHeartbeats 3200000 in
end
section
open PyProof.Rows PySem.Spec
variable {X : Cx}
end
end L2

/-! two lists walked side by side -/
namespace L2
open PySem PySem.Spec PyProof.Rows
section
variable {X : Cx} {pins : List (Addr × Obj)} {σ : List (Option V)} {H H' : Hp} {s : Shared} {h' : Heap}
theorem Inv.turnedL {t' : Nat} {fp : List Addr} (I : Inv X pins σ H s) (k : ∀ b o, b ∉ fp → s.heap.get? b = some o → h'.get? b = some o) (hf : ∀ b ∈ fp, FpOk X pins H b) : Inv X pins σ H { s with heap := h', toks := t' } := by
  have nit : ∀ b u, H b = some u → b ∉ fp := fun b u e z => by rw [(hf b z).1] at e; cases e
  have hL : X.env.locals ∉ fp := fun z => (hf _ z).2.1 rfl
  refine I.step (g' := s.gens) (d' := s.drawn) (ch := fp) (fun b hb => ?_) (fun b o _ _ hc e _ => k b o hc e) (fun b o _ _ hc e _ => ⟨o.slots, k b o hc e⟩) (fun _ _ _ _ n => n)
    (fun b o hc e => ⟨o, k b o hc e⟩) (fun _ _ e => e) (fun _ _ _ e => e) (fun b ps e => ⟨#[], by rw [e]; simp⟩) (fun m hm => ?_) (fun b u e => ?_) I.bare
  · obtain ⟨_, a1, _, a2, a3, a4⟩ := hf b hb
    exact ⟨a2, a1, a3, a4⟩
  · obtain ⟨o, es, ep, ho, r⟩ := hm
    exact ⟨o, es, ep, k _ o hL ho, r⟩
  · refine (I.hok b u e).stay (fun c v hc q => k c v ?_ q) (fun _ q => q) fun _ _ q => q
    rcases hc with z | z
    · rw [z]; exact nit b u e
    · exact nit c _ z
theorem Inv.turnedT {t' : Nat} {fp : List Addr} {q : Addr} {xs : List V} (I : Inv X pins σ H s) (k : ∀ b o, b ∉ fp → s.heap.get? b = some o → h'.get? b = some o) (hf : ∀ b ∈ fp, FpOk X pins H b) (hq : s.heap.objs.size ≤ q) (new : ObjOk X.prog X.w (upd H q (.tup xs)) h' q (.tup xs)) :
    Inv X pins σ (upd H q (.tup xs)) { s with heap := h', toks := t' } := by
  have nit : ∀ b u, H b = some u → b ∉ fp := fun b u e z => by rw [(hf b z).1] at e; cases e
  have hL : X.env.locals ∉ fp := fun z => (hf _ z).2.1 rfl
  have fq : H q = none := I.hok.fresh hq
  have ne : ∀ b u, H b = some u → b ≠ q := fun b u e z => by rw [z, fq] at e; cases e
  have ne' : ∀ b (o : Obj), s.heap.get? b = some o → b ≠ q := fun b o e z => absurd (Heap.lt_size e) (by rw [z]; exact Nat.not_lt.mpr hq)
  refine I.step (g' := s.gens) (d' := s.drawn) (ch := fp) (fun b hb => ?_) (fun b o _ _ hc e _ => k b o hc e) (fun b o _ _ hc e _ => ⟨o.slots, k b o hc e⟩) (fun b o _ e n => by rw [upd_ne (ne' b o e)]; exact n)
    (fun b o hc e => ⟨o, k b o hc e⟩) (fun b _ e => by rw [upd_ne (ne b _ e)]; exact e) (fun b _ _ e => by rw [upd_ne (ne b _ e)]; exact e) (fun b ps e => ⟨#[], by rw [upd_ne (ne b _ e), e]; simp⟩) (fun m hm => ?_) (fun b u e => ?_) I.bare
  · obtain ⟨_, a1, _, a2, a3, a4⟩ := hf b hb
    exact ⟨a2, a1, a3, a4⟩
  · obtain ⟨o, es, ep, ho, r⟩ := hm
    exact ⟨o, es, ep, k _ o hL ho, r⟩
  · by_cases z : b = q
    · subst z
      rw [upd_same] at e
      cases e
      exact new
    · rw [upd_ne z] at e
      refine (I.hok b u e).stay (fun c v hc q => k c v ?_ q) (fun c q => ?_) fun c o q => ?_
      · rcases hc with z | z
        · rw [z]; exact nit b u e
        · exact nit c _ z
      · rw [upd_ne (ne c _ q)]; exact q
      · rw [upd_ne (ne c _ q)]; exact q
end
section
variable {X : Cx}
end
section
variable {K : PySem.W.Frag} {k : Nat} {fm : List Nat} {te : TE} {ta : TA} {g : TG} {tt : TT} {σ σ0 : St} {H H1 : Hp} {Q : VK}
end
end L2

/-! a list walked with its numbers -/
namespace L2
open PySem PySem.Spec PyProof.Rows
noncomputable def Ite (K : PySem.W.Frag) (a : Addr) : It :=
  ⟨fun i H => ∃ xs x, SqL K H a xs ∧ xs[i]? = some x,
   fun i H v H' => ∃ q x, v = .ref q ∧ H q = none ∧ (∀ xs, SqL K H a xs → xs[i]? = some x) ∧ H' = upd H q (.tup [.int i, x]),
   fun i H => ∃ xs, SqL K H a xs ∧ xs.length ≤ i⟩
noncomputable def Te (e it l : Addr) (i : Nat) (h : Heap) : Prop := (∃ old, IsEnum h e it i old) ∧ h.IsListIter it l i
theorem turn_enum {P : Program} {w : World} {K : PySem.W.Frag} {elts : List Expr} {x1} {pos : Pos} {e it : Addr} (l : Addr) (f : e ≠ it) : Turn P w K (.Tuple elts x1 pos) (Ite K l) [e, it] e (Te e it l) where
  mem := by simp
  obj := fun i h st b hb => by
    obtain ⟨⟨old, t1⟩, ⟨o4, t4, c4, d4⟩⟩ := st
    simp only [List.mem_cons, List.not_mem_nil, or_false] at hb
    rcases hb with rfl | rfl
    · exact ⟨_, t1, fun v q => by cases q⟩
    · exact ⟨_, t4, fun v q => by rw [d4] at q; cases q⟩
  keep := fun i h h' st k => by
    obtain ⟨⟨old, t1⟩, t4⟩ := st
    exact ⟨⟨old, k e (by simp) _ t1⟩, t4.at fun o q => k it (by simp) o q⟩
  item := by
    intro X hP hw hK hc i pins s σ H E I hf st hg
    subst hP hw hK
    obtain ⟨xs, x, q1, hx⟩ := hg
    obtain ⟨its1, rv1, p1, _⟩ := I.list q1
    obtain ⟨u, hu, ru⟩ := rv1.get hx
    obtain ⟨⟨old, t1⟩, t4⟩ := id st
    have lt : ∀ b ∈ [e, it], b < s.heap.objs.size := fun b hb => by
      simp only [List.mem_cons, List.not_mem_nil, or_false] at hb
      rcases hb with rfl | rfl
      · exact Heap.lt_size t1
      · obtain ⟨_, q, _⟩ := t4; exact Heap.lt_size q
    refine wpAny_pyNext_enum_item t1 t4 p1.isList (x := u) (by simpa using hu) f fun h' z' i1' pr sz kp => ⟨.ref s.heap.objs.size, rfl, ?_⟩
    refine wpAny_letOwnedTupleGo_enum z' fun h'' z'' sb => ?_
    have nz : s.heap.objs.size ≠ e := Nat.ne_of_gt (lt e (by simp))
    have kk : ∀ b o, b ∉ [e, it] → s.heap.get? b = some o → h''.get? b = some o := fun b o nb q => by
      simp only [List.mem_cons, List.not_mem_nil, or_false, not_or] at nb
      exact (sb.2 b nb.1).trans (kp b o nb.1 nb.2 q)
    have new : IsTup h'' s.heap.objs.size #[.int i s.toks, u] := ⟨_, (sb.2 _ nz).trans pr, rfl, 0, rfl⟩
    refine ⟨.ref s.heap.objs.size, _, I.turnedT (q := s.heap.objs.size) (xs := [.int i, x]) (t' := s.toks + 1) kk hf (Nat.le_refl _) ⟨by rw [sizeLine_eq]; exact (by decide : (2 : Nat) ≤ 16777216), [_, u], .cons ⟨_, rfl⟩ (.cons ru .nil), new⟩, rfl, ⟨_, x, rfl, I.hok.fresh (Nat.le_refl _), fun zs hz => by rw [I.list_inj hz q1]; exact hx, rfl⟩, ?_, fun b hb => ?_⟩
    · exact ⟨⟨_, by have : ((i + 1 : Nat) : Int) = (i : Int) + 1 := by push_cast; rfl
                    rw [this]; exact z''⟩, i1'.at fun o q => (sb.2 _ (Ne.symm f)).trans q⟩
    · rw [upd_ne (Nat.ne_of_lt (lt b hb))]; exact (hf b hb).1
  done := by
    intro X hP hw hK hc i pins s σ H E I hf st hg
    subst hP hw hK
    obtain ⟨xs, q1, hx⟩ := hg
    obtain ⟨its1, rv1, p1, _⟩ := I.list q1
    obtain ⟨⟨old, t1⟩, t4⟩ := id st
    have e1 := rv1.length
    refine wpAny_pyNext_enum_end (I.ok.hd hc) t1 t4 p1.isList (by simp; omega) fun h' kp => ⟨rfl, I.turnedL (t' := s.toks) (fun b o nb q => ?_) hf⟩
    simp only [List.mem_cons, List.not_mem_nil, or_false, not_or] at nb
    exact kp b o nb.2 q
  self := fun _ _ _ _ _ st h => by
    obtain ⟨⟨old, t1⟩, _⟩ := st
    exact wpAny_pyIter_enum t1 h
section
variable {X : Cx}
theorem boot_enumerate : bootBuiltins "enumerate" = some (.type "enumerate") := by decide +kernel
noncomputable def iEnum (K : PySem.W.Frag) (ta : TA) : TI := fun σ H R => ta σ H fun vs H1 => ∃ a xs, vs = [.ref a] ∧ SqL K H1 a xs ∧ R (Ite K a) H1
theorem pi_enum {K : PySem.W.Frag} (eK : X.K = K) {elts : List Expr} {x1} {tp : Pos} {a : Expr} {ta : TA} {p pos : Pos} (hg : Gl X "enumerate") (hm : X.mg "enumerate" = none) (ha : PA X [a] ta) (hs : starEach [a] X.env = [(false, eval a X.env)] := by rfl) :
    PI X (.Tuple elts x1 tp) (.Call (.Name "enumerate" p) [a] [] pos) (iEnum K ta) := by
  subst eK
  intro pins s σ H R I h
  refine Call_ (ld_blt I hg hm boot_enumerate (PyProof.Rows.callWith_type1 (thn (ha pos pins s σ H _ I h) fun us s1 ⟨vs, H1, I1, r1, q1⟩ => ?_) (by rw [hs]; rfl) (by rfl)))
  obtain ⟨l1, xs, e, h1, q⟩ := q1
  subst e
  cases r1 with
  | cons r rr =>
    cases rr
    cases r
    obtain ⟨its1, rv1, p1, _⟩ := I1.list h1
    refine call_enumerate_list p1.isList fun h' z j1 sz kp => ?_
    have I2 := I1.kept (h' := h') (t' := s1.toks) kp
    refine wpAny_pyIter_enum z ?_
    refine ⟨_, _, _, _, H1, rfl, I2, turn_enum l1 (Nat.succ_ne_self _), ⟨⟨_, z⟩, j1⟩, fun b hb => ?_, q⟩
    have lb : s1.heap.objs.size ≤ b := by
      simp only [List.mem_cons, List.not_mem_nil, or_false] at hb
      rcases hb with rfl | rfl
      · exact Nat.le_add_right _ 1
      · exact Nat.le_refl _
    exact I1.fpOk lb (I1.hok.fresh lb)
end
noncomputable def ForE (K : PySem.W.Frag) (g : TG) (tb : TS) (D : Ends) (σ : St) : List V → Hp → Prop := fun vs H1 => ∃ a xs, vs = [.ref a] ∧ SqL K H1 a xs ∧ ForW g tb D σ (Ite K a) H1
section
variable {K : PySem.W.Frag} {te : TE} {ta : TA} {g : TG} {tb : TS} {D : Ends} {σ : St} {H : Hp}
theorem tFor_enum : tFor (iEnum K ta) g tb D σ H = ta σ H (ForE K g tb D σ) := rfl
theorem ForE.of {a : Addr} {xs : List V} (Pv : Nat → St → Hp → Prop) (h0 : Pv 0 σ H) (hl : ∀ i σ H, i ≤ xs.length → Pv i σ H → SqL K H a xs)
    (hs : ∀ i x σ H q, xs[i]? = some x → Pv i σ H → H q = none → g (.ref q) σ (upd H q (.tup [.int i, x])) fun σ2 H2 => tb { D with nx := Pv (i + 1), ct := Pv (i + 1), bk := D.nx } σ2 H2) (hd : ∀ σ H, Pv xs.length σ H → D.nx σ H) : ForE K g tb D σ [.ref a] H := by
  refine ⟨a, xs, rfl, hl 0 _ _ (Nat.zero_le _) h0, fun i m σ H => m = xs.length - i ∧ i ≤ xs.length ∧ Pv i σ H, ⟨xs.length, by simp, Nat.zero_le _, h0⟩, ?_⟩
  rintro i m σ H ⟨rfl, hi, p⟩
  have q := hl i σ H hi p
  by_cases hlt : i < xs.length
  · refine .inr ⟨⟨xs, xs[i], q, by simp [hlt]⟩, Pv (i + 1), fun σ' H' p' => ⟨xs.length - (i + 1), by omega, rfl, hlt, p'⟩, fun x H' y => ?_⟩
    obtain ⟨b, u, rfl, nb, y, rfl⟩ := y
    exact hs i u σ H b (y xs q) p nb
  · have e : i = xs.length := by omega
    subst e
    exact .inl ⟨⟨xs, q, Nat.le_refl _⟩, hd σ H p⟩
end
end L2

/-! a dict's keys walked: the dict stands still from there on -/
namespace L2
open PySem PySem.Spec PyProof.Rows
section
variable {X : Cx}
end
section
variable {te : TE} {g : TG} {tb : TS} {D : Ends} {σ : St} {H : Hp}
end
end L2

namespace L2
open PySem PySem.Spec PyProof.Rows
/-! text.split(sep) -/
theorem vals_strs : ∀ l : List (Str × Tok), Vals ((l.map (·.1)).map V.str) (strValues l)
  | [] => .nil
  | p :: r => .cons ⟨p.2, rfl⟩ (vals_strs r)
theorem join_len (sep : Str) : ∀ ps : List Str, (ps.length - 1) * sep.length ≤ (Str.join sep ps).length
  | [] => by simp
  | [x] => by simp
  | x :: y :: r => by
    have h := join_len sep (y :: r)
    show _ ≤ (x ++ sep ++ Str.join sep (y :: r)).length
    rw [Str.length_append, Str.length_append]
    simp only [List.length_cons, Nat.add_sub_cancel] at h ⊢
    rw [Nat.succ_mul]
    omega
theorem split_len (x y : Str) (hy : 1 ≤ y.length) : (Txt.split x y).length ≤ x.length + 1 := by
  have h := join_len y (Txt.split x y)
  rw [StrLaws.join_split] at h
  have : (Txt.split x y).length - 1 ≤ ((Txt.split x y).length - 1) * y.length := Nat.le_mul_of_pos_right _ hy
  omega
section
variable {X : Cx}
noncomputable def rSplit : V → List V → Hp → VK → Prop := fun x vs H Q => ∃ z y, x = .str z ∧ vs = [.str y] ∧ 1 ≤ y.length ∧ z.length < sizeLine ∧ ∀ l, H l = none → Q (.ref l) (upd H l (.lst ((Txt.split z y).map V.str)))
theorem mt_split : MtM X "str.split" rSplit := by
  intro pins s σ H x vs v us Q I rx rv h
  obtain ⟨z, y, rfl, rfl, hy1, hz, q⟩ := h
  obtain ⟨t, rfl⟩ := rx
  obtain ⟨u, rfl, ru⟩ := rv.one
  obtain ⟨u, rfl⟩ := ru
  have hy : (y.length == 0) = false := by simp; omega
  have hlen := split_len z y hy1
  have fin : ∀ (l : List (Str × Tok)) (k : Nat), l.map (·.1) = Txt.split z y → EP X pins σ Q (.ref s.heap.objs.size) { s with heap := s.heap.push { cls := .type "list", data := .seq (strValues l).toArray }, toks := k } := fun l k e => by
    have hv := vals_strs l
    rw [e] at hv
    exact ⟨.ref s.heap.objs.size, _, I.lnew hv (by rw [List.length_map]; omega), rfl, q _ I.fresh⟩
  cases h1 : (decide (z.length < y.length) || decide (Builtin.Str.strKind z < Builtin.Str.strKind y))
  · cases hf : (Builtin.Str.occurrences z y 0 z.length (z.length + 1)).isEmpty
    · have es : Txt.split z y = Builtin.Str.partsBetween z (Builtin.Str.occurrences z y 0 z.length (z.length + 1)) y.length := (if_neg (ne_true_of_eq_false h1)).trans (if_neg (ne_true_of_eq_false hf))
      refine call_meets F.slot_str_split (typeIs_str _ _ _) F.entry_str_split (F.args_str_split_2 _ _) (meets_str_split_sep z y t u h1 hy hf (by omega) (by rw [← es]; omega)) ?_
      show wants _ _ _ { s with toks := _, heap := s.heap.push { cls := .type "list", data := .seq (strsFrom s.toks (Builtin.Str.partsBetween z (Builtin.Str.occurrences z y 0 z.length (z.length + 1)) y.length)).toArray } }
      rw [strsFrom_eq]
      exact fin (numbered s.toks _) _ ((numbered_texts _ _).trans es.symm)
    · exact call_meets F.slot_str_split (typeIs_str _ _ _) F.entry_str_split (F.args_str_split_2 _ _) (meets_str_split_not_found z y t u h1 hy hf)
        (fin [(z, t)] s.toks ((if_neg (ne_true_of_eq_false h1)).trans (if_pos hf)).symm)
  · exact call_meets F.slot_str_split (typeIs_str _ _ _) F.entry_str_split (F.args_str_split_2 _ _) (meets_str_split_cannot_occur z y t u h1)
      (fin [(z, t)] s.toks (if_pos h1).symm)
end
/-! the split of what was joined -/
theorem cut_one {c : Nat} : ∀ {a b u v : List Nat}, c ∉ a → c ∉ b → a ++ c :: u = b ++ c :: v → a = b ∧ u = v
  | [], [], _, _, _, _, h => ⟨rfl, (List.cons.inj h).2⟩
  | [], x :: b, _, _, _, hb, h => absurd (by rw [(List.cons.inj h).1]; exact List.mem_cons_self) hb
  | x :: a, [], _, _, ha, _, h => absurd (by rw [← (List.cons.inj h).1]; exact List.mem_cons_self) ha
  | x :: a, y :: b, _, _, ha, hb, h => by
    have h := List.cons.inj h
    obtain ⟨e1, e2⟩ := cut_one (fun z => ha (List.mem_cons_of_mem _ z)) (fun z => hb (List.mem_cons_of_mem _ z)) h.2
    exact ⟨by rw [h.1, e1], e2⟩
theorem str_ext {x y : Str} (h : x.cps.toList = y.cps.toList) : x = y :=
  PySem.Str.ext' (Array.toList_inj.mp h)
theorem join_cps (c : Nat) (x y : Str) (r : List Str) : (Str.join ⟨#[c]⟩ (x :: y :: r)).cps.toList = x.cps.toList ++ c :: (Str.join ⟨#[c]⟩ (y :: r)).cps.toList := by
  show (x.cps ++ #[c] ++ (Str.join ⟨#[c]⟩ (y :: r)).cps).toList = _
  simp
theorem join_inj {c : Nat} : ∀ {ps qs : List Str}, ps ≠ [] → qs ≠ [] → (∀ p ∈ ps, c ∉ p.cps.toList) → (∀ p ∈ qs, c ∉ p.cps.toList) → Str.join ⟨#[c]⟩ ps = Str.join ⟨#[c]⟩ qs → ps = qs
  | [], _, h, _, _, _, _ => absurd rfl h
  | _, [], _, h, _, _, _ => absurd rfl h
  | [x], [y], _, _, _, _, h => by rw [show x = y from h]
  | [x], y :: z :: r, _, _, hp, _, h => by
    have e : (Str.join ⟨#[c]⟩ [x]).cps.toList = (Str.join ⟨#[c]⟩ (y :: z :: r)).cps.toList := by rw [h]
    rw [join_cps] at e
    exact absurd (by rw [show x.cps.toList = _ from e]; simp) (hp x List.mem_cons_self)
  | x :: z :: r, [y], _, _, _, hq, h => by
    have e : (Str.join ⟨#[c]⟩ (x :: z :: r)).cps.toList = (Str.join ⟨#[c]⟩ [y]).cps.toList := by rw [h]
    rw [join_cps] at e
    exact absurd (by rw [← show _ = y.cps.toList from e]; simp) (hq y List.mem_cons_self)
  | x :: x2 :: r, y :: y2 :: q, _, _, hp, hq, h => by
    have e : (Str.join ⟨#[c]⟩ (x :: x2 :: r)).cps.toList = (Str.join ⟨#[c]⟩ (y :: y2 :: q)).cps.toList := by rw [h]
    rw [join_cps, join_cps] at e
    obtain ⟨e1, e2⟩ := cut_one (hp x List.mem_cons_self) (hq y List.mem_cons_self) e
    rw [str_ext e1, join_inj (ps := x2 :: r) (qs := y2 :: q) (by simp) (by simp) (fun p h => hp p (List.mem_cons_of_mem _ h)) (fun p h => hq p (List.mem_cons_of_mem _ h)) (str_ext e2)]
theorem split_join {c : Nat} {ps : List Str} (hn : ps ≠ []) (h : ∀ p ∈ ps, c ∉ p.cps.toList) : Txt.split (Txt.join ⟨#[c]⟩ ps) ⟨#[c]⟩ = ps := by
  show Txt.split (Builtin.Str.glued ⟨#[c]⟩ ps) ⟨#[c]⟩ = ps
  rw [StrLaws.glued_eq_join]
  refine join_inj ?_ hn (StrLaws.split_free _ c) h (StrLaws.join_split _ _)
  intro e
  unfold Txt.split at e
  split at e
  · cases e
  · split at e
    · cases e
    · unfold Builtin.Str.partsBetween at e
      simp at e
end L2

namespace L2
open PySem PySem.Spec PyProof.Rows
/-! numbers in texts: what number_of reads -/
noncomputable def occ (j i : Str) : Bool := !(Builtin.Str.occurrences j i 0 j.length 1).isEmpty
noncomputable abbrev dig (c : Nat) : Bool := occ "0123456789" ⟨#[c]⟩
noncomputable def figs (z : Str) : List Nat := if Txt.startswith z "-" then z.cps.toList.drop 1 else z.cps.toList
noncomputable def valD (cs : List Nat) : Nat := cs.foldl (fun acc c => acc * 10 + (c - 48)) 0
noncomputable def numF (z : Str) (lo hi : Int) : V :=
  if (figs z).length = 0 ∨ 10 < (figs z).length ∨ (figs z).all dig = false ∨ ((figs z).take 1 = [48] ∧ z ≠ Str.ofString "0") then .non
  else if lo ≤ (if Txt.startswith z "-" then -((valD (figs z) : Nat) : Int) else ((valD (figs z) : Nat) : Int)) ∧ (if Txt.startswith z "-" then -((valD (figs z) : Nat) : Int) else ((valD (figs z) : Nat) : Int)) ≤ hi
  then .int (if Txt.startswith z "-" then -((valD (figs z) : Nat) : Int) else ((valD (figs z) : Nat) : Int)) else .non
theorem occNil {x y : Str} {lim : Nat} (h : ∀ i, i + y.length ≤ x.length → Builtin.Str.subAt x y i = false) : Builtin.Str.occurrences x y 0 x.length lim = [] := PySem.W.occ_nil_of_no x y lim h
theorem lenL (z : Str) : z.cps.toList.length = z.length := Array.length_toList
theorem nilOf {z : Str} (h : z.length = 0) : z.cps.toList = [] := List.eq_nil_of_length_eq_zero (by rw [lenL]; exact h)
theorem sl_from1 (z : Str) : (Txt.slice z (some 1) none).cps.toList = z.cps.toList.drop 1 := by
  by_cases h : 1 ≤ z.length
  · have e := PyProof.Rows.slice_from_eq (x := z) (i := 1) (b := (z.length : Int)) (by decide) (by omega) rfl
    rw [e]
    show List.take ((z.length : Int) - 1).toNat (List.drop 1 z.cps.toList) = _
    exact List.take_of_length_le (by rw [List.length_drop, lenL]; omega)
  · have h1 := Txt.slice_le z (some 1) none
    rw [nilOf (z := Txt.slice z (some 1) none) (by omega), nilOf (z := z) (by omega)]; rfl
theorem zero_list : (Str.ofString "0").cps.toList = [48] := by decide +kernel
theorem starts_iff (z : Str) : Txt.startswith z (Str.ofString "-") = decide (z.cps.toList.take 1 = [45]) := by
  unfold Txt.startswith Builtin.Str.subAt
  have hl : (Str.ofString "-").length = 1 := by decide +kernel
  have hc : (Str.ofString "-").cps = #[45] := by decide +kernel
  rw [hl, hc]
  have e : z.cps.extract 0 (0 + 1) = (z.cps.toList.take 1).toArray := by
    refine Array.ext' ?_
    rw [Array.toList_extract]
    rfl
  rw [e]
  have e2 : ((z.cps.toList.take 1).toArray == #[45]) = decide (z.cps.toList.take 1 = [45]) := by
    by_cases h : z.cps.toList.take 1 = [45]
    · rw [h]; rfl
    · rw [decide_eq_false h]
      refine beq_eq_false_iff_ne.mpr fun q => h ?_
      have := congrArg Array.toList q
      simpa using this
  rw [e2]
  by_cases h : z.cps.toList.take 1 = [45]
  · have : 1 ≤ z.length := by
      have q := congrArg List.length h
      rw [List.length_take, lenL] at q
      simp at q; omega
    rw [decide_eq_true h]
    simp; omega
  · rw [decide_eq_false h]; simp
theorem occ_digit (c : Nat) (h : 48 ≤ c ∧ c ≤ 57) : Builtin.Str.occurrences (Str.ofString "0123456789") ⟨#[c]⟩ 0 (Str.ofString "0123456789").length 1 = [c - 48] := by
  have : c = 48 ∨ c = 49 ∨ c = 50 ∨ c = 51 ∨ c = 52 ∨ c = 53 ∨ c = 54 ∨ c = 55 ∨ c = 56 ∨ c = 57 := by omega
  rcases this with e | e | e | e | e | e | e | e | e | e <;> subst e <;> decide +kernel
theorem occ_other (c : Nat) (h : ¬ (48 ≤ c ∧ c ≤ 57)) : Builtin.Str.occurrences (Str.ofString "0123456789") ⟨#[c]⟩ 0 (Str.ofString "0123456789").length 1 = [] := by
  refine occNil fun i hi => ?_
  have hl : (Str.ofString "0123456789").length = 10 := by decide +kernel
  have h1 : (⟨#[c]⟩ : Str).length = 1 := rfl
  rw [hl, h1] at hi
  have hx : (Str.ofString "0123456789").cps = #[48, 49, 50, 51, 52, 53, 54, 55, 56, 57] := by decide +kernel
  unfold Builtin.Str.subAt
  rw [hx, h1]
  have : i = 0 ∨ i = 1 ∨ i = 2 ∨ i = 3 ∨ i = 4 ∨ i = 5 ∨ i = 6 ∨ i = 7 ∨ i = 8 ∨ i = 9 := by omega
  refine beq_eq_false_iff_ne.mpr fun q => h ?_
  rcases this with e | e | e | e | e | e | e | e | e | e <;> subst e <;> (
    have q2 := congrArg Array.toList q
    simp at q2
    omega)
theorem dig_iff (c : Nat) : dig c = decide (48 ≤ c ∧ c ≤ 57) := by
  unfold dig occ
  by_cases h : 48 ≤ c ∧ c ≤ 57
  · rw [occ_digit c h, decide_eq_true h]; rfl
  · rw [occ_other c h, decide_eq_false h]; rfl
theorem all_dig {cs : List Nat} (h : cs.all dig = true) : PySem.NumText.AllDigits cs := fun c hc => by
  have := List.all_eq_true.mp h c hc
  rw [dig_iff] at this
  exact of_decide_eq_true this
theorem sign_zero (x : Nat) : decide ((⟨#[x]⟩ : Str) = Str.ofString "0") = decide (x = 48) := by
  by_cases h : x = 48
  · subst h; decide +kernel
  · rw [decide_eq_false h, decide_eq_false]
    intro q
    have := congrArg (fun s : Str => s.cps.toList) q
    rw [zero_list] at this
    simp at this
    exact h this
theorem first_at {cs : List Nat} (h : cs ≠ []) : ∃ x, atI cs 0 = some x ∧ cs.take 1 = [x] := by
  cases cs with
  | nil => exact absurd rfl h
  | cons c r => exact ⟨c, atI_nat (j := 0) (by simp), by simp⟩
theorem nat_len (m : Nat) (h : m ≤ 20000000000) : (Nat.toDigits 10 m).length ≤ 11 := by
  refine (Nat.length_toDigits_le_iff (b := 10) (k := 11) (by decide) (by decide)).mpr ?_
  omega
theorem signsOf (t : String) : (Str.ofString t).cps.toList = List.map Char.toNat t.toList := by
  open PySem PySem.W PyProof.Rows in exact signs_ofString t
theorem ofS_len (t : String) : (Str.ofString t).length = t.length := by
  rw [← lenL, signsOf, List.length_map, String.length_toList]
theorem num_len {n : Int} (h1 : -20000000000 ≤ n) (h2 : n ≤ 20000000000) : (Str.ofString (toString n)).length ≤ 12 := by
  have key : ∀ m : Nat, m ≤ 20000000000 → (Nat.repr m).length ≤ 11 := fun m hm => by
    have := nat_len m hm
    have e : (Nat.repr m).toList = Nat.toDigits 10 m := Nat.toList_repr
    rw [← String.length_toList, e]; exact this
  rw [ofS_len]
  cases n with
  | ofNat m =>
    show (Nat.repr m).length ≤ 12
    have h2' : (m : Int) ≤ 20000000000 := h2
    have := key m (by omega)
    omega
  | negSucc m =>
    show ("-" ++ Nat.repr (m + 1)).length ≤ 12
    have := key (m + 1) (by omega)
    rw [String.length_append]
    have e : "-".length = 1 := by decide
    omega
theorem numF_non1 {z : Str} {lo hi : Int} (h : figs z = []) : numF z lo hi = .non := by unfold numF; rw [if_pos (Or.inl (by rw [h]; rfl))]
theorem numF_non2 {z : Str} {lo hi : Int} (h : 10 < (figs z).length) : numF z lo hi = .non := by unfold numF; rw [if_pos (Or.inr (Or.inl h))]
theorem numF_non3 {z : Str} {lo hi : Int} (h : (figs z).all dig = false) : numF z lo hi = .non := by unfold numF; rw [if_pos (Or.inr (Or.inr (Or.inl h)))]
theorem numF_non4 {z : Str} {lo hi : Int} (h : (figs z).take 1 = [48]) (h' : z ≠ Str.ofString "0") : numF z lo hi = .non := by unfold numF; rw [if_pos (Or.inr (Or.inr (Or.inr ⟨h, h'⟩)))]
noncomputable def valS (z : Str) : Int := if Txt.startswith z "-" then -((valD (figs z) : Nat) : Int) else ((valD (figs z) : Nat) : Int)
theorem numF_val {z : Str} {lo hi : Int} (h1 : figs z ≠ []) (h2 : (figs z).length ≤ 10) (h3 : (figs z).all dig = true) (h4 : ¬ ((figs z).take 1 = [48] ∧ z ≠ Str.ofString "0")) :
    numF z lo hi = if lo ≤ valS z ∧ valS z ≤ hi then .int (valS z) else .non := by
  unfold numF
  rw [if_neg]
  · rfl
  · rintro (h | h | h | h)
    · exact h1 (List.eq_nil_of_length_eq_zero h)
    · omega
    · rw [h3] at h; cases h
    · exact h4 h
theorem take_snocN {l : List Nat} {i : Nat} {c : Nat} (h : l[i]? = some c) : l.take (i + 1) = l.take i ++ [c] := by
  rw [List.take_succ, h]; rfl
theorem getL {z : Str} {i c : Nat} (h : z.cps[i]? = some c) : z.cps.toList[i]? = some c := by rw [Array.getElem?_toList]; exact h
theorem take_all (z : Str) : z.cps.toList.take z.cps.size = z.cps.toList := List.take_of_length_le (Nat.le_of_eq Array.length_toList)
theorem intDigits {x : Str} (h : PySem.NumText.AllDigits x.cps.toList) (h1 : x.cps.toList ≠ []) (h2 : x.length ≤ 4300) : PySem.intText? x = some ((valD x.cps.toList : Nat) : Int) := by
  open PySem PySem.W PySem.NumText in exact intText_digits h h1 h2
theorem int_text {z : Str} (hz : z.length ≤ 600) (hne : figs z ≠ []) (hv : (figs z).all dig = true) : PySem.intText? z = some (valS z) := by
  have ha := all_dig hv
  unfold valS
  cases hs : Txt.startswith z "-" with
  | true =>
    have ht : z.cps.toList.take 1 = [45] := by
      have := starts_iff z
      rw [show Txt.startswith z (Str.ofString "-") = true from hs] at this
      exact of_decide_eq_true this.symm
    have hf : figs z = z.cps.toList.drop 1 := by unfold figs; rw [hs, if_pos rfl]
    have hx : z.cps.toList = 45 :: figs z := by
      have := List.take_append_drop 1 z.cps.toList
      rw [ht, ← hf] at this
      exact this.symm
    have := PySem.intText_neg hx ha hne (by omega)
    rw [if_pos rfl]
    exact this
  | false =>
    have hf : figs z = z.cps.toList := by unfold figs; rw [hs, if_neg (by decide)]
    rw [hf] at ha hne
    have := intDigits ha hne (by omega)
    rw [if_neg (by decide), hf]
    exact this
theorem num_end {z : Str} {lo hi : Int} {H : Hp} {Q : VK} (hne : figs z ≠ []) (hle : (figs z).length ≤ 10) (hv : (figs z).all dig = true) (hq : ¬ ((figs z).take 1 = [48] ∧ z ≠ Str.ofString "0")) (k : Q (numF z lo hi) H) :
    if decide (lo ≤ valS z) = true then if decide (valS z ≤ hi) = true then Q (V.int (valS z)) H else Q V.non H else Q V.non H := by
  rw [numF_val hne hle hv hq] at k
  refine ite2 (fun a => ite2 (fun b => ?_) (fun b => ?_)) (fun a => ?_)
  · rw [if_pos ⟨of_decide_eq_true a, of_decide_eq_true b⟩] at k
    exact k
  · have b : ¬ valS z ≤ hi := of_decide_eq_false (by simpa using b)
    rw [if_neg (fun q => b q.2)] at k
    exact k
  · have a : ¬ lo ≤ valS z := of_decide_eq_false (by simpa using a)
    rw [if_neg (fun q => a q.1)] at k
    exact k
theorem figs_pos {z : Str} (h : z.cps.toList.take 1 ≠ [45]) : figs z = z.cps.toList ∧ valS z = ((valD z.cps.toList : Nat) : Int) := by
  have e : Txt.startswith z "-" = false := by
    have := starts_iff z
    rw [decide_eq_false h] at this
    exact this
  have e1 : figs z = z.cps.toList := by unfold figs; rw [e, if_neg (by decide)]
  exact ⟨e1, by unfold valS; rw [e, if_neg (by decide), e1]⟩
theorem figs_neg {z : Str} {cs : List Nat} (h : z.cps.toList = 45 :: cs) : figs z = cs ∧ valS z = -((valD cs : Nat) : Int) := by
  have e : Txt.startswith z "-" = true := by
    have := starts_iff z
    rw [h] at this
    exact this
  have e1 : figs z = cs := by unfold figs; rw [e, if_pos rfl, h]; rfl
  exact ⟨e1, by unfold valS; rw [e, if_pos rfl, e1]⟩
noncomputable def dgs (m : Nat) : List Nat := (Nat.toDigits 10 m).map Char.toNat
theorem dgs_val (m : Nat) : valD (dgs m) = m := PySem.W.KIN.val_back m
theorem dgs_ne (m : Nat) : dgs m ≠ [] := fun e => Nat.toDigits_ne_nil (List.map_eq_nil_iff.mp e)
theorem dgs_rng {m c : Nat} (h : c ∈ dgs m) : 48 ≤ c ∧ c ≤ 57 := by
  obtain ⟨ch, hch, e⟩ := List.mem_map.mp h
  have r := digit_range (Nat.isDigit_of_mem_toDigits (by decide) (by decide) hch)
  rw [← e]
  exact r
theorem dgs_dig (m : Nat) : (dgs m).all dig = true := List.all_eq_true.mpr fun c hc => by rw [dig_iff]; exact decide_eq_true (dgs_rng hc)
theorem dgs_len {m : Nat} (h : m < 10 ^ 10) : (dgs m).length ≤ 10 := by
  unfold dgs
  rw [List.length_map]
  exact (Nat.length_toDigits_le_iff (b := 10) (k := 10) (by decide) (by decide)).mpr h
theorem dgs_first {m : Nat} (h : 0 < m) : (dgs m).take 1 ≠ [48] := by
  induction m using Nat.strongRecOn with
  | _ m ih =>
    by_cases h10 : m < 10
    · have : ∀ d : Nat, d < 10 → 0 < d → ([Nat.digitChar d].map Char.toNat).take 1 ≠ [48] := by decide
      unfold dgs
      rw [Nat.toDigits_of_lt_base h10]
      exact this m h10 h
    · have e : dgs m = dgs (m / 10) ++ [(Nat.digitChar (m % 10)).toNat] := by
        unfold dgs
        rw [Nat.toDigits_of_base_le (by decide) (by omega), List.map_append]
        rfl
      have q := ih (m / 10) (by omega) (by omega)
      rw [e, List.take_append_of_le_length (by have := List.length_pos_iff.mpr (dgs_ne (m / 10)); omega)]
      exact q
theorem sgn_pos (m : Nat) : (Str.ofString (toString (m : Int))).cps.toList = dgs m := PySem.W.KIN.signs_num m
theorem sgn_neg (m : Nat) : (Str.ofString (toString (Int.negSucc m))).cps.toList = 45 :: dgs (m + 1) := by
  rw [signsOf]
  show ("-" ++ Nat.repr (m + 1)).toList.map Char.toNat = _
  rw [String.toList_append, List.map_append, Nat.toList_repr]
  rfl
theorem numF_str {n lo hi : Int} (h1 : -9999999999 ≤ n) (h2 : n ≤ 9999999999) : numF (Str.ofString (toString n)) lo hi = if lo ≤ n ∧ n ≤ hi then .int n else .non := by
  cases n with
  | ofNat m =>
    have em : (Str.ofString (toString (Int.ofNat m))).cps.toList = dgs m := sgn_pos m
    have h2' : (m : Int) ≤ 9999999999 := h2
    have hm : m < 10 ^ 10 := by omega
    obtain ⟨e1, e2⟩ := figs_pos (z := Str.ofString (toString (Int.ofNat m))) (by
      rw [em]
      cases hd : dgs m with
      | nil => simp
      | cons c r =>
        intro e
        have : c = 45 := by simpa using e
        have := dgs_rng (m := m) (c := c) (by rw [hd]; exact List.mem_cons_self)
        omega)
    rw [em] at e1 e2
    rw [dgs_val] at e2
    rw [numF_val (by rw [e1]; exact dgs_ne m) (by rw [e1]; exact dgs_len hm) (by rw [e1]; exact dgs_dig m) (by
      rw [e1]
      rintro ⟨z1, z2⟩
      by_cases z : 0 < m
      · exact dgs_first z z1
      · have : m = 0 := by omega
        rw [this] at z2
        exact z2 rfl), e2]
    rfl
  | negSucc m =>
    have em := sgn_neg m
    have hm : m + 1 < 10 ^ 10 := by omega
    obtain ⟨e1, e2⟩ := figs_neg em
    rw [dgs_val] at e2
    have e3 : valS (Str.ofString (toString (Int.negSucc m))) = Int.negSucc m := by rw [e2]; rfl
    rw [numF_val (by rw [e1]; exact dgs_ne _) (by rw [e1]; exact dgs_len hm) (by rw [e1]; exact dgs_dig _) (by
      rw [e1]
      rintro ⟨z1, _⟩
      exact dgs_first (Nat.succ_pos m) z1), e3]
end L2

/-! enumerate(a list, start=i) -/
namespace L2
open PySem PySem.Spec PyProof.Rows
section
variable {M : Model} {A : Around} {E : Value → Shared → Prop} {s : Shared} {env : Env}
theorem callWith_typeKw {pos : Pos} {T : String} {first : List Value} {args : List (Bool × Sem Value)} {kws : List (Option Str × Sem Value)} {Q : Value → Shared → Prop}
    (hp : args.any (·.1) = false) (hk : kws.any (·.1.isNone) = false)
    (h : wpAny M A (evalArgs (.type T) true args kws) (fun a s₁ => wpAny M A (call (.type T) (first ++ a.pos) a.kw) Q E s₁) E s) :
    wpAny M A (callWith pos (.type T) first args kws) Q E s := by
  unfold callWith
  refine wpAny_bind (wpAny_holding (wpAny_mono h (fun a s₁ h₁ => wpAny_bind (wpAny_standAt ?_)) fun _ _ x => x))
  simp only [hp, hk, Bool.or_false]
  refine wpAny_bind (wpAny_pure ?_)
  exact wpAny_bind (wpAny_mono h₁ (fun r s₂ hr => wpAny_bind (wpAny_holding (wpAny_point (wpAny_pure hr)))) fun _ _ x => x)
end
section
variable {prog : Program} {w : World} {A : Around} {E : Value → Shared → Prop} {s : Shared}
theorem objInitKw {T newId : String} {self : Value} {rest : List Value} {kw : List (Str × Value)} (hl : typeLookup (.type T) "__init__" = pure (some (.builtin "object.__init__")))
    (hm : Bind.madeBy (.type T) = pure (some newId)) (hne : (some newId != some "object.__new__") = true) (a : Value) :
    Meets (Builtin.«object.__init__» ⟨self :: a :: rest, kw⟩) (fun _ R s => s.TypeIs self T ∧ R (.ok (.ret .none)) s) := by
  refine Meets.of_wp fun prog w A R s hs => ?_
  obtain ⟨hT, hq⟩ := hs
  repeat (any_goals (first | assumption | wp_step))
  exact ⟨_, rfl, hq⟩
theorem callType_newKw {T newId : String} {Bn : Builtin} {a : Value} {args : List Value} {kw : List (Str × Value)} {S : PySem.Spec} {Q : Value → Shared → Prop} (ft : TypeCalled T newId "object.__init__")
    (hne : (some newId != some "object.__new__") = true) (hct : checkTypeCall T ⟨a :: args, kw⟩ = pure ()) (hcn : checkBuiltinCall newId ⟨.type T :: a :: args, kw⟩ = pure ())
    (hok : ∀ obj, argsOk "object.__init__" ⟨obj :: a :: args, kw⟩) (entryN : entryFor table newId = some Bn) (g : Meets (Bn ⟨.type T :: a :: args, kw⟩) S)
    (h : S A.in1 (wants (fun obj s₁ => s₁.TypeIs obj T ∧ Q obj s₁) E) s) : wpAny (model prog w) A (call (.type T) (a :: args) kw) Q E s := by
  obtain ⟨c, tl, hmro⟩ := ft.mro
  have hmade := ft.made
  have hsub := ft.sub
  refine wpAny_call (codeAny_of_tree ?_)
  show wpAny _ _ (callAny (.type T) _) _ _ _
  refine wpAny_pure ⟨Code.quiet_builtin _ (by decide +kernel), codeAny_builtin F.entry_type_call ?_⟩
  rw [Around.under_plain (weight_type_call_type T (a :: args) kw) (units_type_call_type T (a :: args) kw)]
  have h1 := ft.notType
  have h2 := ft.canCreate
  repeat (any_goals (first | assumption | wp_step))
  refine codeAny_mono (codeAny_call_builtin ft.plain entryN (wpAny_of_eq hcn (g prog w A.in1 _ s h))) fun r s₁ hr => ?_
  cases r with
  | error e => exact hr
  | ok fl =>
    cases fl with
    | ret obj =>
      obtain ⟨hT, hq⟩ := hr
      have hli := ft.init.lookup
      have hbi := ft.init.bind obj
      repeat (any_goals (first | assumption | wp_step))
      refine codeAny_mono (codeAny_call_builtin ft.init.plain F.entry_object_init (ft.init.check _ _ _ _ _ _ _ _ hT (hok obj) ((objInitKw (kw := kw) (rest := args) ft.init.lookup ft.made hne a) prog w A.in1 (wants (fun r s₂ => r = .none ∧ Q obj s₂) E) s₁ ⟨hT, rfl, hq⟩))) fun r₂ s₂ hr₂ => ?_
      cases r₂ with
      | error e => exact hr₂
      | ok fl₂ =>
        cases fl₂ with
        | ret r =>
          obtain ⟨rfl, hq⟩ := hr₂
          repeat (any_goals (first | assumption | wp_step))
        | _ => exact hr₂.elim
    | _ => exact hr.elim
theorem typeCall_enumS (a b : Value) : checkTypeCall "enumerate" ⟨[a], [("start", b)]⟩ = pure () := by kernel_rfl
theorem newCall_enumS (a b : Value) : checkBuiltinCall "enumerate.__new__" ⟨[.type "enumerate", a], [("start", b)]⟩ = pure () := by kernel_rfl
theorem meets_enumS (l : Addr) (items : Array Value) (n : Nat) (dct : Option Addr) (sl : Array (Option Value)) (t : Tok) :
    Meets (Builtin.«enumerate.__new__» ⟨[.type "enumerate", .ref l], [("start", .int 1 t)]⟩) (fun _ R s => s.heap.get? l = some { cls := .type "list", dict := dct, data := .seq items n, slots := sl } ∧
      R (.ok (.ret (.ref (s.heap.push { cls := .type "list_iterator", data := .fields #[.ref l, .int 0 0] }).objs.size)))
        { s with heap := (s.heap.push { cls := .type "list_iterator", data := .fields #[.ref l, .int 0 0] }).push { cls := .type "enumerate", data := .fields #[.none, .bool false, .ref s.heap.objs.size, rawInt 1, .none, .none] } }) :=
  .of_wp fun prog w A R s h => by
    obtain ⟨hp, g, d, tk, os⟩ := s; obtain ⟨hl, h⟩ := h
    have hsub := sub_enumerate
    have hL : Heap.IsList (Shared.heap ⟨hp, g, d, tk, os⟩) l items := ⟨_, hl, rfl, n, rfl⟩
    wp_walk using AutoSeq1.wpAny_loadPart' hl
    refine wpAny_stack_any fun st => wpAny_pure ?_
    split
    · rename_i c _ _ _ _ _
      cases (c == Value.type "enumerate")
      · wp_walk using AutoSeq1.wpAny_loadPart' hl, wpAny_pyIter_list hL
        exact ⟨_, rfl, h⟩
      · wp_walk using AutoSeq1.wpAny_loadPart' hl, wpAny_pyIter_list hL
        exact ⟨_, rfl, h⟩
    · wp_walk using AutoSeq1.wpAny_loadPart' hl, wpAny_pyIter_list hL
      exact ⟨_, rfl, h⟩
end
end L2

namespace L2
open PySem PySem.Spec PyProof.Rows
section
variable {prog : Program} {w : World} {A : Around} {E : Value → Shared → Prop} {s : Shared}
theorem args_objInitS (a b c : Value) : argsOk "object.__init__" ⟨[a, b], [("start", c)]⟩ := by
  unfold argsOk; rw [signature?_of (id := "object.__init__") (n := ['_', '_', 't', 'i', 'n', 'i', '_', '_']) (o := ['t', 'c', 'e', 'j', 'b', 'o']) (by kernel_rfl) F.owner_object]; kernel_rfl
theorem call_enumS {l : Addr} {items : Array Value} {t : Tok} {Q : Value → Shared → Prop} (hL : s.heap.IsList l items)
    (h : ∀ h', IsEnum h' (s.heap.objs.size + 1) s.heap.objs.size 1 .none → h'.IsListIter s.heap.objs.size l 0 → (∀ b o, s.heap.get? b = some o → h'.get? b = some o) → Q (.ref (s.heap.objs.size + 1)) { s with heap := h' }) :
    wpAny (model prog w) A (call (.type "enumerate") [.ref l] [("start", .int 1 t)]) Q E s := by
  obtain ⟨⟨c, dct, dt, sl⟩, hl, hc, n, hd⟩ := hL
  replace hc : c = .type "list" := hc
  replace hd : dt = .seq items n := hd
  subst hc hd
  refine callType_newKw F.called_enumerate (by decide) (typeCall_enumS _ _) (newCall_enumS _ _) (fun obj => args_objInitS obj _ _) F.entry_enumerate_new (meets_enumS l items n dct sl t) ⟨hl, ?_⟩
  have hz : (s.heap.push { cls := .type "list_iterator", data := .fields #[.ref l, .int 0 0] }).objs.size = s.heap.objs.size + 1 := Heap.size_push ..
  show _ ∧ _
  rw [hz]
  have he : IsEnum ((s.heap.push { cls := .type "list_iterator", data := .fields #[.ref l, .int 0 0] }).push
      { cls := .type "enumerate", data := .fields #[.none, .bool false, .ref s.heap.objs.size, rawInt 1, .none, .none] }) (s.heap.objs.size + 1) s.heap.objs.size 1 .none := by
    have := Heap.get?_push_size (s.heap.push { cls := .type "list_iterator", data := .fields #[.ref l, .int 0 0] })
      (o := { cls := .type "enumerate", data := .fields #[.none, .bool false, .ref s.heap.objs.size, rawInt 1, .none, .none] }) rfl
    rw [hz] at this; exact this
  exact ⟨⟨_, he, rfl⟩, h _ he ⟨_, Heap.get?_push_of_some _ (Heap.get?_push_size _ rfl), rfl, rfl⟩ fun b o x => Heap.get?_push_of_some _ (Heap.get?_push_of_some _ x)⟩
theorem draws_shift {it : Addr} {fp : List Addr} {n : Nat} {Pv : Nat → Value → Prop} {St : Nat → Heap → Prop} (D : Draws prog w A it fp n Pv St) :
    Draws prog w A it fp (n + 1) (fun k x => ∃ j, k = j + 1 ∧ Pv j x) (fun k h => ∃ j, k = j + 1 ∧ St j h) where
  live := fun i h ⟨j, _, st⟩ => D.live j h st
  frame := fun i h h' ⟨j, e, st⟩ k => ⟨j, e, D.frame j h h' st k⟩
  item := fun i s Q E hi ⟨j, e, st⟩ k => by
    subst e
    exact D.item j s Q E (by omega) st fun x h' tk p st' sb => k x h' tk ⟨j, rfl, p⟩ ⟨j + 1, rfl, st'⟩ sb
  done := fun s Q E ⟨j, e, st⟩ k => by
    have e : n = j := by omega
    subst e
    exact D.done s Q E st k
end
section
variable {prog : Program} {w : World} {A : Around} {E : Value → Shared → Prop} {s : Shared}
theorem wpAny_pyNext_enumS_end {e it l : Addr} {i : Nat} {k : Int} {items : Array Value} {old : Value} {Q : Option Value → Shared → Prop} (hh : A.handled = none)
    (he : IsEnum s.heap e it k old) (hit : s.heap.IsListIter it l i) (hl : s.heap.IsList l items) (hx : items[i]? = none)
    (hQ : ∀ h', Heap.ExtBut it s.heap h' → Q none { s with heap := h' }) : wpAny (model prog w) A (pyNext (.ref e)) Q E s := by
  have hT : s.TypeIs (.ref e) "enumerate" := ⟨_, he, rfl⟩
  unfold pyNext
  refine wpAny_bind (wpAny_attempt (wpAny_callSpecial?_slot (name := Str.ofString "__next__") hT F.slot_enumerate_next
    (wpAny_call_entry F.slot_enumerate_next hT F.entry_enumerate_next ?_ (F.args_enumerate_next_1 _))))
  show wpAny _ _ (field (.ref e) 2 >>= _) _ _ _
  refine wpAny_bind (wpAny_field he rfl (x := .ref it) rfl ?_)
  refine wpAny_bind (wpAny_nextOf_list_end hh hit hl hx fun h' x he' hx' => ?_)
  obtain ⟨o, ho, hc⟩ := hx'
  refine wpAny_bind (wpAny_isInstance (T := "StopIteration") (b := true) ⟨o, ho, hc⟩ isSubtype_stop ?_)
  exact wpAny_pure (hQ _ he')
end
noncomputable def Ite1 (K : PySem.W.Frag) (a : Addr) : It :=
  ⟨fun i H => ∃ xs x, SqL K H a xs ∧ xs[i]? = some x,
   fun i H v H' => ∃ q x, v = .ref q ∧ H q = none ∧ (∀ xs, SqL K H a xs → xs[i]? = some x) ∧ H' = upd H q (.tup [.int ((i + 1 : Nat) : Int), x]),
   fun i H => ∃ xs, SqL K H a xs ∧ xs.length ≤ i⟩
noncomputable def Te1 (e it l : Addr) (i : Nat) (h : Heap) : Prop := (∃ old, IsEnum h e it ((i + 1 : Nat) : Int) old) ∧ h.IsListIter it l i
theorem turn_enum1 {P : Program} {w : World} {K : PySem.W.Frag} {elts : List Expr} {x1} {pos : Pos} {e it : Addr} (l : Addr) (f : e ≠ it) : Turn P w K (.Tuple elts x1 pos) (Ite1 K l) [e, it] e (Te1 e it l) where
  mem := by simp
  obj := fun i h st b hb => by
    obtain ⟨⟨old, t1⟩, ⟨o4, t4, c4, d4⟩⟩ := st
    simp only [List.mem_cons, List.not_mem_nil, or_false] at hb
    rcases hb with rfl | rfl
    · exact ⟨_, t1, fun v q => by cases q⟩
    · exact ⟨_, t4, fun v q => by rw [d4] at q; cases q⟩
  keep := fun i h h' st k => by
    obtain ⟨⟨old, t1⟩, t4⟩ := st
    exact ⟨⟨old, k e (by simp) _ t1⟩, t4.at fun o q => k it (by simp) o q⟩
  item := by
    intro X hP hw hK hc i pins s σ H E I hf st hg
    subst hP hw hK
    obtain ⟨xs, x, q1, hx⟩ := hg
    obtain ⟨its1, rv1, p1, _⟩ := I.list q1
    obtain ⟨u, hu, ru⟩ := rv1.get hx
    obtain ⟨⟨old, t1⟩, t4⟩ := id st
    have lt : ∀ b ∈ [e, it], b < s.heap.objs.size := fun b hb => by
      simp only [List.mem_cons, List.not_mem_nil, or_false] at hb
      rcases hb with rfl | rfl
      · exact Heap.lt_size t1
      · obtain ⟨_, q, _⟩ := t4; exact Heap.lt_size q
    have nl : l ≠ it := by
      rintro rfl
      obtain ⟨o, a1, a2, _⟩ := p1.isList
      obtain ⟨o', b1, b2, _⟩ := t4
      rw [a1] at b1; cases b1; rw [a2] at b2; exact absurd (Value.type.inj b2) (by decide)
    have ne : e ≠ l := by
      rintro rfl
      obtain ⟨o, a1, a2, _⟩ := p1.isList
      rw [show s.heap.get? e = _ from t1] at a1; cases a1; exact absurd (Value.type.inj a2) (by decide)
    have D := draws_shift (Draws.list (prog := X.prog) (w := X.w) (A := X.A.in1) (I.ok.hd hc) it l nl its1.toArray)
    refine wpAny_pyNext_enum_itemD D t1 ⟨i, rfl, t4, p1.isList⟩ (by have := (List.getElem?_eq_some_iff.mp hu).1; simp; omega) f (by simp [f, ne]) fun x' h' tk hP z' i1' pr sz kp => ?_
    obtain ⟨j, ej, hP⟩ := hP
    have ej : i = j := by omega
    subst ej
    obtain ⟨j2, ej2, i1', _⟩ := i1'
    have ej2 : i + 1 = j2 := by omega
    subst ej2
    have ex : x' = u := by
      have : its1.toArray[i]? = some u := by simpa using hu
      rw [this] at hP; exact (Option.some.inj hP).symm
    subst ex
    refine ⟨.ref s.heap.objs.size, rfl, ?_⟩
    refine wpAny_letOwnedTupleGo_enum z' fun h'' z'' sb => ?_
    have nz : s.heap.objs.size ≠ e := Nat.ne_of_gt (lt e (by simp))
    have kk : ∀ b o, b ∉ [e, it] → s.heap.get? b = some o → h''.get? b = some o := fun b o nb q => by
      simp only [List.mem_cons, List.not_mem_nil, or_false, not_or] at nb
      exact (sb.2 b nb.1).trans (kp b o nb.1 nb.2 q)
    have new : IsTup h'' s.heap.objs.size #[.int ((i + 1 : Nat) : Int) tk, x'] := ⟨_, (sb.2 _ nz).trans pr, rfl, 0, rfl⟩
    refine ⟨.ref s.heap.objs.size, _, I.turnedT (q := s.heap.objs.size) (xs := [.int ((i + 1 : Nat) : Int), x]) (t' := tk + 1) kk hf (Nat.le_refl _) ⟨by rw [sizeLine_eq]; exact (by decide : (2 : Nat) ≤ 16777216), [_, x'], .cons ⟨_, rfl⟩ (.cons ru .nil), new⟩, rfl, ⟨_, x, rfl, I.hok.fresh (Nat.le_refl _), fun zs hz => by rw [I.list_inj hz q1]; exact hx, rfl⟩, ?_, fun b hb => ?_⟩
    · exact ⟨⟨_, by have : ((i + 1 + 1 : Nat) : Int) = ((i + 1 : Nat) : Int) + 1 := by push_cast; rfl
                    rw [this]; exact z''⟩, i1'.at fun o q => (sb.2 _ (Ne.symm f)).trans q⟩
    · rw [upd_ne (Nat.ne_of_lt (lt b hb))]; exact (hf b hb).1
  done := by
    intro X hP hw hK hc i pins s σ H E I hf st hg
    subst hP hw hK
    obtain ⟨xs, q1, hx⟩ := hg
    obtain ⟨its1, rv1, p1, _⟩ := I.list q1
    obtain ⟨⟨old, t1⟩, t4⟩ := id st
    have e1 := rv1.length
    refine wpAny_pyNext_enumS_end (I.ok.hd hc) t1 t4 p1.isList (by simp; omega) fun h' kp => ⟨rfl, I.turnedL (t' := s.toks) (fun b o nb q => ?_) hf⟩
    simp only [List.mem_cons, List.not_mem_nil, or_false, not_or] at nb
    exact kp b o nb.2 q
  self := fun _ _ _ _ _ st h => by
    obtain ⟨⟨old, t1⟩, _⟩ := st
    exact wpAny_pyIter_enum t1 h
section
variable {X : Cx}
noncomputable def iEnum1 (K : PySem.W.Frag) (ta : TA) : TI := fun σ H R => ta σ H fun vs H1 => ∃ a xs, vs = [.ref a] ∧ SqL K H1 a xs ∧ R (Ite1 K a) H1
theorem pi_enum1 {K : PySem.W.Frag} (eK : X.K = K) {elts : List Expr} {x1} {tp : Pos} {a : Expr} {ta : TA} {p pos kp cp : Pos} {j} (hg : Gl X "enumerate") (hm : X.mg "enumerate" = none) (ha : PA X [a] ta) (hs : starEach [a] X.env = [(false, eval a X.env)] := by rfl) :
    PI X (.Tuple elts x1 tp) (.Call (.Name "enumerate" p) [a] [⟨some "start", .Constant (.int 1) j cp, kp⟩] pos) (iEnum1 K ta) := by
  subst eK
  intro pins s σ H R I h
  refine wpAny_Call_Name_kw (ld_blt I hg hm boot_enumerate (callWith_typeKw (by rw [hs]; rfl) rfl ?_))
  have key := ha pos pins s σ H _ I h
  rw [hs] at key ⊢
  refine evalArgs_kwB (rest := []) rfl (thn key fun us s1 q0 => ?_)
  obtain ⟨vs, H1, I1, r1, q1⟩ := q0
  obtain ⟨l1, xs, e, h1, q⟩ := q1
  subst e
  cases r1 with
  | cons r rr =>
    cases rr
    cases r
    refine kws_cons (wpAny_Constant_int (kws_nil ?_))
    obtain ⟨its1, rv1, p1, _⟩ := I1.list h1
    refine call_enumS p1.isList fun h' z j1 kp => ?_
    have I2 := I1.kept (h' := h') (t' := s1.toks + 1) kp
    refine wpAny_pyIter_enum z ?_
    refine ⟨_, _, _, _, H1, rfl, I2, turn_enum1 l1 (Nat.succ_ne_self _), ⟨⟨_, z⟩, j1⟩, fun b hb => ?_, q⟩
    have lb : s1.heap.objs.size ≤ b := by
      simp only [List.mem_cons, List.not_mem_nil, or_false] at hb
      rcases hb with rfl | rfl
      · exact Nat.le_add_right _ 1
      · exact Nat.le_refl _
    exact I1.fpOk lb (I1.hok.fresh lb)
end
noncomputable def ForE1 (K : PySem.W.Frag) (g : TG) (tb : TS) (D : Ends) (σ : St) : List V → Hp → Prop := fun vs H1 => ∃ a xs, vs = [.ref a] ∧ SqL K H1 a xs ∧ ForW g tb D σ (Ite1 K a) H1
section
variable {K : PySem.W.Frag} {te : TE} {ta : TA} {g : TG} {tb : TS} {D : Ends} {σ : St} {H : Hp}
theorem tFor_enum1 : tFor (iEnum1 K ta) g tb D σ H = ta σ H (ForE1 K g tb D σ) := rfl
theorem ForE1.of {a : Addr} {xs : List V} (Pv : Nat → St → Hp → Prop) (h0 : Pv 0 σ H) (hl : ∀ i σ H, i ≤ xs.length → Pv i σ H → SqL K H a xs)
    (hs : ∀ i x σ H q, xs[i]? = some x → Pv i σ H → H q = none → g (.ref q) σ (upd H q (.tup [.int ((i + 1 : Nat) : Int), x])) fun σ2 H2 => tb { D with nx := Pv (i + 1), ct := Pv (i + 1), bk := D.nx } σ2 H2) (hd : ∀ σ H, Pv xs.length σ H → D.nx σ H) : ForE1 K g tb D σ [.ref a] H := by
  refine ⟨a, xs, rfl, hl 0 _ _ (Nat.zero_le _) h0, fun i m σ H => m = xs.length - i ∧ i ≤ xs.length ∧ Pv i σ H, ⟨xs.length, by simp, Nat.zero_le _, h0⟩, ?_⟩
  rintro i m σ H ⟨rfl, hi, p⟩
  have q := hl i σ H hi p
  by_cases hlt : i < xs.length
  · refine .inr ⟨⟨xs, xs[i], q, by simp [hlt]⟩, Pv (i + 1), fun σ' H' p' => ⟨xs.length - (i + 1), by omega, rfl, hlt, p'⟩, fun x H' y => ?_⟩
    obtain ⟨b, u, rfl, nb, y, rfl⟩ := y
    exact hs i u σ H b (y xs q) p nb
  · have e : i = xs.length := by omega
    subst e
    exact .inl ⟨⟨xs, q, Nat.le_refl _⟩, hd σ H p⟩
end
end L2

/-! a dict of the top, with texts as keys: get -/
namespace L2
open PySem PySem.Spec PyProof.Rows
noncomputable def strE (w : World) (e : Str × Tok × Value) : DictEntry := ⟨hashStr w e.1, .str e.1 e.2.1, e.2.2⟩
noncomputable def KDict (w : World) (K : PySem.W.Frag) (a : Addr) (kvs : List (Key × V)) : Prop :=
  (a == sysModules) = false ∧ ∃ (es : List (Str × Tok × Value)) (ep : Nat), K.lookup a = some ⟨.type "dict", none, .dict (es.map (strE w)).toArray ep, #[]⟩ ∧ (es.map (·.1)).Nodup ∧
    KV kvs (es.map fun e => ((Sum.inr e.1 : Key), e.2.2))
theorem pairs_str (P : Program) (w : World) : ∀ es : List (Str × Tok × Value), Pairs (mixKind P w) (es.map (strE w)) (es.map fun e => ((Sum.inr e.1 : Key), e.2.2))
  | [] => .nil
  | e :: r => .cons (keyIs_str e.1 e.2.1) rfl (pairs_str P w r)
theorem KDict.dict {X : Cx} {pins : List (Addr × Obj)} {σ : St} {H : Hp} {s : Shared} {a : Addr} {kvs : List (Key × V)} (I : Inv X pins σ H s) (h : KDict X.w X.K a kvs) :
    ∃ vs, KV kvs vs ∧ s.heap.DictOf (mixKind X.prog X.w) a vs := by
  obtain ⟨_, es, ep, hk, nd, rel⟩ := h
  refine ⟨_, rel, _, _, _, I.kIn a _ hk, ⟨rfl, rfl, rfl⟩, rfl, fun e he => ?_, ?_, ?_⟩
  · obtain ⟨q, hq, rfl⟩ := List.mem_map.mp (Array.mem_toList_iff.mpr he)
    exact ⟨.inr q.1, keyIs_str q.1 q.2.1, rfl⟩
  · exact pairs_str _ _ es
  · rw [List.map_map]
    have := List.Pairwise.map (S := fun x y : Key => x ≠ y) (fun x : Str => (Sum.inr x : Key)) (fun x y z => fun q => z (Sum.inr.inj q)) nd
    rw [List.map_map] at this
    exact this
section
variable {X : Cx} {o e : Expr} {ty : TE} {a : Addr} {kvs : List (Key × V)} {apos cpos : Pos}
noncomputable def tKGet (kvs : List (Key × V)) (ty : TE) : TE := fun σ H Q => ty σ H fun y H2 => ∃ k, y = kV k ∧ Q ((valV kvs k).getD .non) H2
theorem pe_kget (ho : PE X o (tC (.ref a))) (hk : KDict X.w X.K a kvs) (he : PE X e ty) (m : M1 X o "get" apos e cpos) : PE X (.Call (.Attribute o "get" apos) [e] [] cpos) (tKGet kvs ty) := by
  intro pins s σ H Q I h
  refine wpAny_Call_method m.base m.few m.line PySem.F.plainAttrs_dict PySem.F.slot_dict_get PySem.F.type_dict_get (thn (ho pins s σ H (fun v H' => v = .ref a ∧ H' = H) I ⟨rfl, rfl⟩) fun u s1 q0 => ?_)
  obtain ⟨x, H1, I1, rx, rfl, rfl⟩ := q0
  obtain rfl : u = Value.ref a := rx
  obtain ⟨vs, rel, dd⟩ := hk.dict I1
  refine ⟨dd.typeIs, fun b q => ?_, ?_⟩
  · cases q
    obtain ⟨ob, _, _, h1, h2, _⟩ := dd
    exact ⟨ob, h1, h2.2.1⟩
  rw [m.trees]
  refine Calls.callWith_builtin rfl (Calls.evalArgs_plain (Calls.spliced_cons (thn (he pins s1 σ _ _ I1 h) fun iv s2 q0 => Calls.spliced_nil ?_)))
  obtain ⟨y, H2, I2, ry, k, rfl, q2⟩ := q0
  obtain ⟨vs, rel, dd⟩ := hk.dict I2
  refine call_meetsIn PySem.F.slot_dict_get dd.typeIs PySem.F.entry_dict_get (PySem.F.args_dict_get_2 _ _) (meets_dict_get (mixKind X.prog X.w) a (kV_is ry) hk.1) ⟨_, dd.mapOf, ⟨_, H2, I2.tok _, ?_, q2⟩⟩
  exact (rel.val k).getD rfl
end
section
variable {K : PySem.W.Frag} {te : TE} {g : TG} {tt : TT} {σ0 : St} {H1 : Hp} {Q : VK}
end
end L2

set_option maxHeartbeats 0
set_option pp.deepTerms true
set_option pp.maxSteps 100000
namespace My
open PySem PySem.Spec PyProof.Rows L2
noncomputable def top (i : Nat) : Stmt := PySem.Challenge.pw_joinload_k41_whole_texts_both_ways.main.body.getD i (.Pass ⟨0, 0, 0, 0⟩)
noncomputable abbrev s_number_of : Stmt := top 5
noncomputable abbrev s_step_in : Stmt := top 6
noncomputable abbrev s_shown_whole : Stmt := top 10
noncomputable abbrev s_lean_rows : Stmt := top 11
noncomputable abbrev s_read_whole : Stmt := top 12
noncomputable abbrev s_WholeReading___init__ : Stmt := inClass (top 13) 0
noncomputable abbrev s_WholeReading_takes : Stmt := inClass (top 13) 1
noncomputable abbrev s_WholeReading_takes_whole : Stmt := inClass (top 13) 2
noncomputable abbrev s_WholeReading_takes_part : Stmt := inClass (top 13) 3
noncomputable abbrev s_WholeReading_takes_word : Stmt := inClass (top 13) 4
noncomputable abbrev s_WholeReading_takes_lean : Stmt := inClass (top 13) 5
noncomputable abbrev s__law_cell_at : Stmt := top 15
noncomputable abbrev s__law_target_by : Stmt := top 16
noncomputable abbrev s__law_put : Stmt := top 17
noncomputable abbrev s__law_end : Stmt := top 18
noncomputable abbrev s__law_built : Stmt := top 19
noncomputable abbrev s__law_copy : Stmt := top 20
noncomputable abbrev s__law_turned_otherwise : Stmt := top 21
noncomputable abbrev s_law : Stmt := top 22
theorem bt_all : bootBuiltins "all" = some (.builtin "all") := by decide +kernel
theorem bt_int : bootBuiltins "int" = some (.type "int") := by decide +kernel
theorem bt_isinstance : bootBuiltins "isinstance" = some (.builtin "isinstance") := by decide +kernel
theorem bt_len : bootBuiltins "len" = some (.builtin "len") := by decide +kernel
theorem bt_list : bootBuiltins "list" = some (.type "list") := by decide +kernel
theorem bt_str : bootBuiltins "str" = some (.type "str") := by decide +kernel
theorem relI {i : Int} {t : Tok} : RelV (.int i) (.int i t) := ⟨t, rfl⟩
theorem relT {n : String} : RelV (.ty n) (.type n) := rfl
theorem relS {x : Str} {t : Tok} : RelV (.str x) (.str x t) := ⟨t, rfl⟩
set_option genInjectivity false in
structure Ad where
  number_of : Addr
  fd_number_of : FuncData
  step_in : Addr
  fd_step_in : FuncData
  shown_whole : Addr
  fd_shown_whole : FuncData
  lean_rows : Addr
  fd_lean_rows : FuncData
  read_whole : Addr
  fd_read_whole : FuncData
  WholeReading___init__ : Addr
  fd_WholeReading___init__ : FuncData
  WholeReading_takes : Addr
  fd_WholeReading_takes : FuncData
  WholeReading_takes_whole : Addr
  fd_WholeReading_takes_whole : FuncData
  WholeReading_takes_part : Addr
  fd_WholeReading_takes_part : FuncData
  WholeReading_takes_word : Addr
  fd_WholeReading_takes_word : FuncData
  WholeReading_takes_lean : Addr
  fd_WholeReading_takes_lean : FuncData
  _law_cell_at : Addr
  fd__law_cell_at : FuncData
  _law_target_by : Addr
  fd__law_target_by : FuncData
  _law_put : Addr
  fd__law_put : FuncData
  _law_end : Addr
  fd__law_end : FuncData
  _law_built : Addr
  fd__law_built : FuncData
  _law_copy : Addr
  fd__law_copy : FuncData
  _law_turned_otherwise : Addr
  fd__law_turned_otherwise : FuncData
  law : Addr
  fd_law : FuncData
  t_FIGURES : Tok
  o_HOW_MANY_PARTS : Addr
  o_LEANING_RULES : Addr
  c_WholeReading : Addr
set_option genInjectivity false in
structure Txt (w : World) (K : PySem.W.Frag) (mg : Str → Option Value) (A : Ad) : Prop where
  m_number_of : mg "number_of" = some (.ref A.number_of)
  k_number_of : PySem.W.keepIn K (.ref A.number_of) = true
  b_number_of : Binds K A.fd_number_of ["text", "least", "most"] []
  F_number_of : Fun K "number_of" "number_of" s_number_of A.number_of A.fd_number_of
  m_step_in : mg "step_in" = some (.ref A.step_in)
  k_step_in : PySem.W.keepIn K (.ref A.step_in) = true
  b_step_in : Binds K A.fd_step_in ["text"] []
  F_step_in : Fun K "step_in" "step_in" s_step_in A.step_in A.fd_step_in
  m_shown_whole : mg "shown_whole" = some (.ref A.shown_whole)
  k_shown_whole : PySem.W.keepIn K (.ref A.shown_whole) = true
  b_shown_whole : Binds K A.fd_shown_whole ["whole"] []
  F_shown_whole : Fun K "shown_whole" "shown_whole" s_shown_whole A.shown_whole A.fd_shown_whole
  m_lean_rows : mg "lean_rows" = some (.ref A.lean_rows)
  k_lean_rows : PySem.W.keepIn K (.ref A.lean_rows) = true
  b_lean_rows : Binds K A.fd_lean_rows ["leans"] []
  F_lean_rows : Fun K "lean_rows" "lean_rows" s_lean_rows A.lean_rows A.fd_lean_rows
  m_read_whole : mg "read_whole" = some (.ref A.read_whole)
  k_read_whole : PySem.W.keepIn K (.ref A.read_whole) = true
  b_read_whole : Binds K A.fd_read_whole ["text"] []
  F_read_whole : Fun K "read_whole" "read_whole" s_read_whole A.read_whole A.fd_read_whole
  k_WholeReading___init__ : PySem.W.keepIn K (.ref A.WholeReading___init__) = true
  b_WholeReading___init__ : Binds K A.fd_WholeReading___init__ ["self"] []
  F_WholeReading___init__ : Fun K "__init__" "WholeReading.__init__" s_WholeReading___init__ A.WholeReading___init__ A.fd_WholeReading___init__
  k_WholeReading_takes : PySem.W.keepIn K (.ref A.WholeReading_takes) = true
  b_WholeReading_takes : Binds K A.fd_WholeReading_takes ["self", "parts"] []
  F_WholeReading_takes : Fun K "takes" "WholeReading.takes" s_WholeReading_takes A.WholeReading_takes A.fd_WholeReading_takes
  k_WholeReading_takes_whole : PySem.W.keepIn K (.ref A.WholeReading_takes_whole) = true
  b_WholeReading_takes_whole : Binds K A.fd_WholeReading_takes_whole ["self", "step", "size", "entry"] []
  F_WholeReading_takes_whole : Fun K "takes_whole" "WholeReading.takes_whole" s_WholeReading_takes_whole A.WholeReading_takes_whole A.fd_WholeReading_takes_whole
  k_WholeReading_takes_part : PySem.W.keepIn K (.ref A.WholeReading_takes_part) = true
  b_WholeReading_takes_part : Binds K A.fd_WholeReading_takes_part ["self", "text"] []
  F_WholeReading_takes_part : Fun K "takes_part" "WholeReading.takes_part" s_WholeReading_takes_part A.WholeReading_takes_part A.fd_WholeReading_takes_part
  k_WholeReading_takes_word : PySem.W.keepIn K (.ref A.WholeReading_takes_word) = true
  b_WholeReading_takes_word : Binds K A.fd_WholeReading_takes_word ["self", "text"] []
  F_WholeReading_takes_word : Fun K "takes_word" "WholeReading.takes_word" s_WholeReading_takes_word A.WholeReading_takes_word A.fd_WholeReading_takes_word
  k_WholeReading_takes_lean : PySem.W.keepIn K (.ref A.WholeReading_takes_lean) = true
  b_WholeReading_takes_lean : Binds K A.fd_WholeReading_takes_lean ["self", "rule", "text"] []
  F_WholeReading_takes_lean : Fun K "takes_lean" "WholeReading.takes_lean" s_WholeReading_takes_lean A.WholeReading_takes_lean A.fd_WholeReading_takes_lean
  m__law_cell_at : mg "_law_cell_at" = some (.ref A._law_cell_at)
  k__law_cell_at : PySem.W.keepIn K (.ref A._law_cell_at) = true
  b__law_cell_at : Binds K A.fd__law_cell_at ["_law_script", "_law_k"] []
  F__law_cell_at : Fun K "_law_cell_at" "_law_cell_at" s__law_cell_at A._law_cell_at A.fd__law_cell_at
  m__law_target_by : mg "_law_target_by" = some (.ref A._law_target_by)
  k__law_target_by : PySem.W.keepIn K (.ref A._law_target_by) = true
  b__law_target_by : Binds K A.fd__law_target_by ["_law_number"] []
  F__law_target_by : Fun K "_law_target_by" "_law_target_by" s__law_target_by A._law_target_by A.fd__law_target_by
  m__law_put : mg "_law_put" = some (.ref A._law_put)
  k__law_put : PySem.W.keepIn K (.ref A._law_put) = true
  b__law_put : Binds K A.fd__law_put ["_law_cell", "_law_parts", "_law_leans", "_law_end_here"] []
  F__law_put : Fun K "_law_put" "_law_put" s__law_put A._law_put A.fd__law_put
  m__law_end : mg "_law_end" = some (.ref A._law_end)
  k__law_end : PySem.W.keepIn K (.ref A._law_end) = true
  b__law_end : Binds K A.fd__law_end ["_law_parts"] []
  F__law_end : Fun K "_law_end" "_law_end" s__law_end A._law_end A.fd__law_end
  m__law_built : mg "_law_built" = some (.ref A._law_built)
  k__law_built : PySem.W.keepIn K (.ref A._law_built) = true
  b__law_built : Binds K A.fd__law_built ["_law_script", "_law_most"] []
  F__law_built : Fun K "_law_built" "_law_built" s__law_built A._law_built A.fd__law_built
  m__law_copy : mg "_law_copy" = some (.ref A._law_copy)
  k__law_copy : PySem.W.keepIn K (.ref A._law_copy) = true
  b__law_copy : Binds K A.fd__law_copy ["_law_whole"] []
  F__law_copy : Fun K "_law_copy" "_law_copy" s__law_copy A._law_copy A.fd__law_copy
  m__law_turned_otherwise : mg "_law_turned_otherwise" = some (.ref A._law_turned_otherwise)
  k__law_turned_otherwise : PySem.W.keepIn K (.ref A._law_turned_otherwise) = true
  b__law_turned_otherwise : Binds K A.fd__law_turned_otherwise ["_law_whole", "_law_text"] []
  F__law_turned_otherwise : Fun K "_law_turned_otherwise" "_law_turned_otherwise" s__law_turned_otherwise A._law_turned_otherwise A.fd__law_turned_otherwise
  m_law : mg "law" = some (.ref A.law)
  k_law : PySem.W.keepIn K (.ref A.law) = true
  b_law : Binds K A.fd_law ["_law_script"] []
  F_law : Fun K "law" "law" s_law A.law A.fd_law
  g_FIGURES : mg "FIGURES" = some (.str "0123456789" A.t_FIGURES)
  g_HOW_MANY_PARTS : mg "HOW_MANY_PARTS" = some (.ref A.o_HOW_MANY_PARTS)
  q_HOW_MANY_PARTS : KDict w K A.o_HOW_MANY_PARTS [(Sum.inr "whole", V.int 4), (Sum.inr "part", V.int 2), (Sum.inr "word", V.int 2), (Sum.inr "lean", V.int 3)]
  g_LEANING_RULES : mg "LEANING_RULES" = some (.ref A.o_LEANING_RULES)
  q_LEANING_RULES : ∀ H : Hp, SqT K H A.o_LEANING_RULES [V.str "whole", V.str "high", V.str "low"]
  n_all : mg "all" = none
  n_enumerate : mg "enumerate" = none
  n_int : mg "int" = none
  n_isinstance : mg "isinstance" = none
  n_len : mg "len" = none
  n_list : mg "list" = none
  n_str : mg "str" = none
  mc_WholeReading : mg "WholeReading" = some (.ref A.c_WholeReading)
  cl_WholeReading : Cls K A.c_WholeReading
  sp_cl : PySem.W.specialIn K (.builtin "object.__class__") "__get__" = some (some (.builtin "getset_descriptor.__get__"))
  tk_cl : PySem.W.takesIn K (.builtin "object.__class__") = some true
  mk_WholeReading : Mk K A.c_WholeReading A.WholeReading___init__
  me_WholeReading_takes : Meth K A.c_WholeReading "takes" A.WholeReading_takes
  me_WholeReading_takes_lean : Meth K A.c_WholeReading "takes_lean" A.WholeReading_takes_lean
  me_WholeReading_takes_part : Meth K A.c_WholeReading "takes_part" A.WholeReading_takes_part
  me_WholeReading_takes_whole : Meth K A.c_WholeReading "takes_whole" A.WholeReading_takes_whole
  me_WholeReading_takes_word : Meth K A.c_WholeReading "takes_word" A.WholeReading_takes_word
  no_WholeReading_step : NoAttr K A.c_WholeReading "step"
  no_WholeReading_size : NoAttr K A.c_WholeReading "size"
  no_WholeReading_entry : NoAttr K A.c_WholeReading "entry"
  no_WholeReading_parts : NoAttr K A.c_WholeReading "parts"
  no_WholeReading_leaning : NoAttr K A.c_WholeReading "leaning"
  no_WholeReading_last_words : NoAttr K A.c_WholeReading "last_words"
  no_WholeReading_end : NoAttr K A.c_WholeReading "end"
  no_WholeReading_behind_word : NoAttr K A.c_WholeReading "behind_word"
theorem sc_number_of : FnScope ["text", "least", "most", "figures", "number"] ["text", "least", "most"] (defScope s_number_of) := ⟨rfl, rfl, rfl, by decide +kernel, rfl, by decide +kernel, by decide +kernel⟩
theorem sc_step_in : FnScope ["text", "step"] ["text"] (defScope s_step_in) := ⟨rfl, rfl, rfl, by decide +kernel, rfl, by decide +kernel, by decide +kernel⟩
theorem sc_shown_whole : FnScope ["whole", "step", "size", "entry", "leans", "rows", "place", "words", "at", "word"] ["whole"] (defScope s_shown_whole) := ⟨rfl, rfl, rfl, by decide +kernel, rfl, by decide +kernel, by decide +kernel⟩
theorem sc_lean_rows : FnScope ["leans", "rows", "place", "rule", "target"] ["leans"] (defScope s_lean_rows) := ⟨rfl, rfl, rfl, by decide +kernel, rfl, by decide +kernel, by decide +kernel⟩
theorem sc_read_whole : FnScope ["text", "reading", "number", "row"] ["text"] (defScope s_read_whole) := ⟨rfl, rfl, rfl, by decide +kernel, rfl, by decide +kernel, by decide +kernel⟩
theorem sc_WholeReading___init__ : FnScope ["self"] ["self"] (defScope s_WholeReading___init__) := ⟨rfl, rfl, rfl, by decide +kernel, rfl, by decide +kernel, by decide +kernel⟩
theorem sc_WholeReading_takes : FnScope ["self", "parts", "head", "behind_word"] ["self", "parts"] (defScope s_WholeReading_takes) := ⟨rfl, rfl, rfl, by decide +kernel, rfl, by decide +kernel, by decide +kernel⟩
theorem sc_WholeReading_takes_whole : FnScope ["self", "step", "size", "entry"] ["self", "step", "size", "entry"] (defScope s_WholeReading_takes_whole) := ⟨rfl, rfl, rfl, by decide +kernel, rfl, by decide +kernel, by decide +kernel⟩
theorem sc_WholeReading_takes_part : FnScope ["self", "text", "place"] ["self", "text"] (defScope s_WholeReading_takes_part) := ⟨rfl, rfl, rfl, by decide +kernel, rfl, by decide +kernel, by decide +kernel⟩
theorem sc_WholeReading_takes_word : FnScope ["self", "text", "word"] ["self", "text"] (defScope s_WholeReading_takes_word) := ⟨rfl, rfl, rfl, by decide +kernel, rfl, by decide +kernel, by decide +kernel⟩
theorem sc_WholeReading_takes_lean : FnScope ["self", "rule", "text", "target"] ["self", "rule", "text"] (defScope s_WholeReading_takes_lean) := ⟨rfl, rfl, rfl, by decide +kernel, rfl, by decide +kernel, by decide +kernel⟩
theorem sc__law_cell_at : FnScope ["_law_script", "_law_k"] ["_law_script", "_law_k"] (defScope s__law_cell_at) := ⟨rfl, rfl, rfl, by decide +kernel, rfl, by decide +kernel, by decide +kernel⟩
theorem sc__law_target_by : FnScope ["_law_number"] ["_law_number"] (defScope s__law_target_by) := ⟨rfl, rfl, rfl, by decide +kernel, rfl, by decide +kernel, by decide +kernel⟩
theorem sc__law_put : FnScope ["_law_cell", "_law_parts", "_law_leans", "_law_end_here", "_law_number", "_law_place", "_law_word", "_law_rows", "_law_rule"] ["_law_cell", "_law_parts", "_law_leans", "_law_end_here"] (defScope s__law_put) := ⟨rfl, rfl, rfl, by decide +kernel, rfl, by decide +kernel, by decide +kernel⟩
theorem sc__law_end : FnScope ["_law_parts"] ["_law_parts"] (defScope s__law_end) := ⟨rfl, rfl, rfl, by decide +kernel, rfl, by decide +kernel, by decide +kernel⟩
theorem sc__law_built : FnScope ["_law_script", "_law_most", "_law_parts", "_law_leans", "_law_rows", "_law_cell", "_law_end_here", "_law_number", "_law_size", "_law_entry", "_law_step"] ["_law_script", "_law_most"] (defScope s__law_built) := ⟨rfl, rfl, rfl, by decide +kernel, rfl, by decide +kernel, by decide +kernel⟩
theorem sc__law_copy : FnScope ["_law_whole"] ["_law_whole"] (defScope s__law_copy) := ⟨rfl, rfl, rfl, by decide +kernel, rfl, by decide +kernel, by decide +kernel⟩
theorem sc__law_turned_otherwise : FnScope ["_law_whole", "_law_text", "_law_kept", "_law_other", "_law_same"] ["_law_whole", "_law_text"] (defScope s__law_turned_otherwise) := ⟨rfl, rfl, rfl, by decide +kernel, rfl, by decide +kernel, by decide +kernel⟩
theorem sc_law : FnScope ["_law_script", "_law_rows", "_law_whole", "_law_due", "_law_handed", "_law_text", "_law_found"] ["_law_script"] (defScope s_law) := ⟨rfl, rfl, rfl, by decide +kernel, rfl, by decide +kernel, by decide +kernel⟩
theorem cK {CX P w K mg base N qual scope f cd Ar outer s H E} : (cxOf CX P w K mg base N qual scope f cd Ar outer s H E).K = K := rfl
theorem bK {X : Cx} {N' : List Str} {scope : Scope} {fp : List Addr} {s : Shared} {H : Hp} : (blk X N' scope fp s H).K = X.K := rfl
theorem slen (a b : Str) : (a ++ b).length = a.length + b.length := Array.size_append
theorem atI_ex {α : Type} {xs : List α} {i : Int} (h1 : -(xs.length : Int) ≤ i) (h2 : i < xs.length) : ∃ v, atI xs i = some v ∧ v ∈ xs := by
  unfold atI ixN
  by_cases h0 : 0 ≤ i
  · have hl : i.toNat < xs.length := by omega
    refine ⟨xs[i.toNat], ?_, List.getElem_mem hl⟩
    rw [if_pos h0, if_pos h2]
    show xs[i.toNat]? = _
    rw [List.getElem?_eq_getElem hl]
  · have hl : (i + xs.length).toNat < xs.length := by omega
    refine ⟨xs[(i + xs.length).toNat], ?_, List.getElem_mem hl⟩
    rw [if_neg h0, if_pos h1]
    show xs[(i + xs.length).toNat]? = _
    rw [List.getElem?_eq_getElem hl]
noncomputable def sp_num : Sp := fun vs H Q _ => ∃ (z : Str) (lo hi : Int), vs = [.str z, .int lo, .int hi] ∧ z.length ≤ 600 ∧ ∀ H', Same H H' → Q (numF z lo hi) H'
noncomputable def sp_step : Sp := fun vs H Q _ => ∃ (z : Str) (n : Int), vs = [.str z] ∧ z = Str.ofString (toString n) ∧ 1 ≤ n ∧ n ≤ 65536 ∧ (∃ k : Nat, n = 2 ^ k) ∧ ∀ H', Same H H' → Q (.int n) H'
set_option genInjectivity false in
structure Rdg where
  p : Addr
  dx : Addr
  st : V
  sz : V
  en : V
  a : Addr
  b : Addr
  lw : V
  e : Int
  bw : Bool
noncomputable def Rdg.fs (R : Rdg) : List (Str × V) := [("step", R.st), ("size", R.sz), ("entry", R.en), ("parts", .ref R.a), ("leaning", .ref R.b), ("last_words", R.lw), ("end", .int R.e), ("behind_word", .bl R.bw)]
noncomputable def sp_rinit (A : Ad) : Sp := fun vs H Q _ => ∃ p dx : Addr, vs = [.ref p] ∧ H p = some (.ins A.c_WholeReading dx []) ∧
  ∀ a b H', a ≠ b → H a = none → H b = none → (∀ x o, x ≠ p → H x = some o → H' x = some o) → H' a = some (.lst []) → H' b = some (.lst []) →
    H' p = some (.ins A.c_WholeReading dx (Rdg.fs ⟨p, dx, .non, .non, .non, a, b, .non, 0, false⟩)) → Q .non H'
noncomputable def sp_tpart (A : Ad) : Sp := fun vs H Q _ => ∃ (R : Rdg) (n sz : Int) (xs : List V), vs = [.ref R.p, .str (Str.ofString (toString n))] ∧ H R.p = some (.ins A.c_WholeReading R.dx R.fs) ∧ R.sz = .int sz ∧ H R.a = some (.lst xs) ∧ xs.length ≤ 1000 ∧ 0 ≤ R.e ∧ R.e ≤ n ∧ n ≤ sz ∧ sz ≤ 4294967295 ∧
  ∀ l t H', l ≠ t → H l = none → H t = none → (∀ x o, x ≠ R.p → x ≠ R.a → H x = some o → H' x = some o) → H' l = some (.lst []) → H' t = some (.tup [.int n, .ref l]) → H' R.a = some (.lst (xs ++ [.ref t])) →
    H' R.p = some (.ins A.c_WholeReading R.dx (Rdg.fs { R with e := n, lw := .ref l })) → Q (.bl true) H'
noncomputable def sp_tword (A : Ad) : Sp := fun vs H Q _ => ∃ (R : Rdg) (n sz : Int) (l : Addr) (ws : List V), vs = [.ref R.p, .str (Str.ofString (toString n))] ∧ H R.p = some (.ins A.c_WholeReading R.dx R.fs) ∧ R.sz = .int sz ∧ R.lw = .ref l ∧ H l = some (.lst ws) ∧ ws.length ≤ 1000 ∧ 0 ≤ n ∧ n ≤ 4294967295 ∧ R.e < sz ∧
  ∀ H', (∀ x o, x ≠ R.p → x ≠ l → H x = some o → H' x = some o) → H' l = some (.lst (ws ++ [.int n])) → H' R.p = some (.ins A.c_WholeReading R.dx (Rdg.fs { R with e := R.e + 1 })) → Q (.bl true) H'
noncomputable def isR (z : Str) : Prop := z = Str.ofString "whole" ∨ z = Str.ofString "high" ∨ z = Str.ofString "low"
noncomputable def sp_tlean (A : Ad) : Sp := fun vs H Q _ => ∃ (R : Rdg) (r : Str) (n : Int) (xs : List V), vs = [.ref R.p, .str r, .str (Str.ofString (toString n))] ∧ H R.p = some (.ins A.c_WholeReading R.dx R.fs) ∧ isR r ∧ -9999999999 ≤ n ∧ n ≤ 9999999999 ∧ H R.b = some (.lst xs) ∧ xs.length ≤ 1000 ∧
  ∀ t H', H t = none → (∀ x o, x ≠ R.b → H x = some o → H' x = some o) → H' R.b = some (.lst (xs ++ [.ref t])) → H' t = some (.tup [.int (R.e - 1), .str r, .int n]) → Q (.bl true) H'
noncomputable def sp_twhole (A : Ad) : Sp := fun vs H Q _ => ∃ (R : Rdg) (n sz en : Int), vs = [.ref R.p, .str (Str.ofString (toString n)), .str (Str.ofString (toString sz)), .str (Str.ofString (toString en))] ∧ H R.p = some (.ins A.c_WholeReading R.dx R.fs) ∧ 1 ≤ n ∧ n ≤ 65536 ∧ (∃ k : Nat, n = 2 ^ k) ∧ 0 ≤ sz ∧ sz ≤ 4294967295 ∧ 0 ≤ en ∧ en ≤ sz ∧
  ∀ H', (∀ x o, x ≠ R.p → H x = some o → H' x = some o) → H' R.p = some (.ins A.c_WholeReading R.dx (Rdg.fs { R with st := .int n, sz := .int sz, en := .int en })) → Q (.bl true) H'
inductive Row where
  | whole (n sz en : Int)
  | part (n : Int)
  | word (n : Int)
  | lean (r : Str) (n : Int)
noncomputable def nS (n : Int) : Str := Str.ofString (toString n)
noncomputable def Row.parts : Row → List Str
  | .whole n sz en => ["whole", nS n, nS sz, nS en]
  | .part n => ["part", nS n]
  | .word n => ["word", nS n]
  | .lean r n => ["lean", r, nS n]
set_option genInjectivity false in
structure RS where
  st : Option (Int × Int × Int)
  ps : List (Int × List Int)
  ls : List (Int × Str × Int)
  e : Int
  bw : Bool
noncomputable def addW (n : Int) : List (Int × List Int) → List (Int × List Int)
  | [] => []
  | [x] => [(x.1, x.2 ++ [n])]
  | x :: r => x :: addW n r
noncomputable def RS.next (S : RS) : Row → RS
  | .whole n sz en => { S with st := some (n, sz, en), bw := false }
  | .part n => { S with ps := S.ps ++ [(n, [])], e := n, bw := false }
  | .word n => { S with ps := addW n S.ps, e := S.e + 1, bw := true }
  | .lean r n => { S with ls := S.ls ++ [(S.e - 1, r, n)], bw := false }
noncomputable def RS.Takes (S : RS) : Row → Prop
  | .whole n sz en => S.st = none ∧ 1 ≤ n ∧ n ≤ 65536 ∧ (∃ k : Nat, n = 2 ^ k) ∧ 0 ≤ sz ∧ sz ≤ 4294967295 ∧ 0 ≤ en ∧ en ≤ sz
  | .part n => ∃ q, S.st = some q ∧ S.e ≤ n ∧ n ≤ q.2.1 ∧ q.2.1 ≤ 4294967295
  | .word n => ∃ q, S.st = some q ∧ S.ps ≠ [] ∧ 0 ≤ n ∧ n ≤ 4294967295 ∧ S.e < q.2.1
  | .lean r n => S.st ≠ none ∧ S.bw = true ∧ isR r ∧ -9999999999 ≤ n ∧ n ≤ 9999999999
noncomputable def stV (S : RS) : V × V × V := match S.st with | none => (.non, .non, .non) | some q => (.int q.1, .int q.2.1, .int q.2.2)
set_option genInjectivity false in
structure Rdg.Ok (A : Ad) (H0 H : Hp) (R : Rdg) (S : RS) (n : Nat) : Prop where
  sm : Same H0 H
  f : H0 R.p = none ∧ H0 R.a = none ∧ H0 R.b = none
  top : H R.p = some (.ins A.c_WholeReading R.dx R.fs)
  st : (R.st, R.sz, R.en) = stV S
  e : R.e = S.e
  e0 : 0 ≤ S.e
  bw : R.bw = S.bw
  ab : R.a ≠ R.b
  ps : ∃ qs : List (Addr × Addr), qs.length = S.ps.length ∧ H R.a = some (.lst (qs.map fun q => V.ref q.1)) ∧ (qs.map (·.2)).Nodup ∧
    (∀ (i : Nat) (q : Addr × Addr) (x : Int × List Int), qs[i]? = some q → S.ps[i]? = some x → H q.1 = some (.tup [.int x.1, .ref q.2]) ∧ H q.2 = some (.lst (x.2.map V.int)) ∧ q.2 ≠ R.a ∧ q.2 ≠ R.b ∧ H0 q.2 = none) ∧
    (R.lw = match qs.getLast? with | none => .non | some q => .ref q.2)
  ls : ∃ ts : List Addr, ts.length = S.ls.length ∧ H R.b = some (.lst (ts.map V.ref)) ∧ ∀ (i : Nat) (t : Addr) (x : Int × Str × Int), ts[i]? = some t → S.ls[i]? = some x → H t = some (.tup [.int x.1, .str x.2.1, .int x.2.2])
  n1 : S.ps.length ≤ n ∧ S.ls.length ≤ n ∧ ∀ x ∈ S.ps, x.2.length ≤ n
noncomputable def sp_takes (A : Ad) : Sp := fun vs H Q _ => ∃ (H0 : Hp) (R : Rdg) (l : Addr) (r : Row) (S : RS) (m : Nat), vs = [.ref R.p, .ref l] ∧ H l = some (.lst (r.parts.map V.str)) ∧ l ≠ R.a ∧ Rdg.Ok A H0 H R S m ∧ m ≤ 400 ∧ S.Takes r ∧
  ∀ (R' : Rdg) (H' : Hp), R'.p = R.p → R'.a = R.a → R'.b = R.b → Rdg.Ok A H0 H' R' (S.next r) (m + 1) → Q (.bl true) H'
noncomputable def rowT (r : Row) : Str := Txt.join (Str.ofString " ") r.parts
noncomputable def RS0 : RS := ⟨none, [], [], 0, false⟩
noncomputable def runR (rows : List Row) (i : Nat) : RS := (rows.take i).foldl RS.next RS0
noncomputable def sp_read (A : Ad) : Sp := fun vs H Q _ => ∃ rows : List Row, vs = [.str (Txt.join (Str.ofString "\n") (rows.map rowT))] ∧ rows ≠ [] ∧ rows.length ≤ 300 ∧ (∀ r ∈ rows, (rowT r).length ≤ 1000) ∧ (∀ r ∈ rows, 10 ∉ (rowT r).cps.toList ∧ ∀ p ∈ r.parts, 32 ∉ p.cps.toList) ∧ (∀ (i : Nat) (r : Row), rows[i]? = some r → (runR rows i).Takes r) ∧
  (Txt.join (Str.ofString "\n") (rows.map rowT)).length < sizeLine ∧
  ∀ (q : Addr) (R : Rdg) (H' : Hp), Same H H' → H' q = some (.tup [R.st, R.sz, R.en, .ref R.a, .ref R.b]) → Rdg.Ok A H H' R (runR rows rows.length) rows.length → Q (.ref q) H'
noncomputable def Few (p : Int) : Prop := -(10 ^ 70) ≤ p ∧ p ≤ 10 ^ 70
set_option genInjectivity false in
structure Prt where
  t : Addr
  l : Addr
  p : Int
  ws : List Int
set_option genInjectivity false in
structure Ln where
  a : Addr
  p : Int
  r : Str
  t : Int
set_option genInjectivity false in
structure PM (H : Hp) (a : Addr) (ps : List Prt) : Prop where
  top : H a = some (.lst (ps.map fun x => V.ref x.t))
  at_ : ∀ x ∈ ps, H x.t = some (.tup [.int x.p, .ref x.l]) ∧ H x.l = some (.lst (x.ws.map V.int))
  nd : (ps.map Prt.l).Nodup
  na : ∀ x ∈ ps, x.l ≠ a
set_option genInjectivity false in
structure LM (H : Hp) (b : Addr) (ls : List Ln) : Prop where
  top : H b = some (.lst (ls.map fun x => V.ref x.a))
  at_ : ∀ x ∈ ls, H x.a = some (.tup [.int x.p, .str x.r, .int x.t])
noncomputable def endP (ps : List Prt) : Int := match ps.getLast? with | none => 0 | some x => x.p + x.ws.length
set_option genInjectivity false in
structure Ordd (ps : List Prt) (e : Int) : Prop where
  pos : ∀ x ∈ ps, 0 ≤ x.p
  le : ∀ x ∈ ps, x.p + x.ws.length ≤ e
  ap : ∀ (i j : Nat) (x y : Prt), i < j → ps[i]? = some x → ps[j]? = some y → x.p + x.ws.length ≤ y.p
set_option genInjectivity false in
structure BS where
  a : Addr
  b : Addr
  ps : List Prt
  ls : List Ln
  e : Int
set_option genInjectivity false in
structure BOk (n : Nat) (H : Hp) (S : BS) : Prop where
  pm : PM H S.a S.ps
  lm : LM H S.b S.ls
  ab : S.a ≠ S.b
  nb : ∀ x ∈ S.ps, x.l ≠ S.b
  ord : Ordd S.ps S.e
  ws : ∀ x ∈ S.ps, ∀ w ∈ x.ws, 0 ≤ w ∧ w ≤ 4294967295
  rr : ∀ l ∈ S.ls, isR l.r ∧ -9999999999 ≤ l.t ∧ l.t ≤ 9999999999 ∧ l.p < S.e
  lk : ∀ l ∈ S.ls, ∃ x ∈ S.ps, x.p ≤ l.p ∧ l.p < x.p + x.ws.length
  ln : (S.ls.map Ln.p).Nodup
  en : S.e = endP S.ps
  e0 : 0 ≤ S.e
  e1 : S.e ≤ n * 10000001
  n1 : S.ps.length ≤ n
  n2 : S.ls.length ≤ n
  n3 : ∀ x ∈ S.ps, x.ws.length ≤ n
  n4 : n ≤ 500
set_option genInjectivity false in
structure Whl where
  t : Addr
  st : Int
  sz : Int
  en : Int
  n : Nat
set_option genInjectivity false in
structure WOk (most : Int) (H : Hp) (W : Whl) (S : BS) : Prop where
  top : H W.t = some (.tup [.int W.st, .int W.sz, .int W.en, .ref S.a, .ref S.b])
  bok : BOk W.n H S
  n5 : W.n ≤ 500
  s1 : 1 ≤ W.st
  s2 : W.st ≤ 65536
  z1 : S.e ≤ W.sz
  z2 : W.sz ≤ most
  e0 : 0 ≤ W.en
  e1 : W.en ≤ most
  pw : ∃ k : Nat, W.st = 2 ^ k
noncomputable def Prt.core (x : Prt) : Int × List Int := (x.p, x.ws)
noncomputable def Ln.core (l : Ln) : Int × Str × Int := (l.p, l.r, l.t)
noncomputable def sp_whole : Sp := fun vs H Q _ => ∃ n : Int, vs = [.int n] ∧ Q (.bl true) H
noncomputable def sp_cellat (K : PySem.W.Frag) : Sp := fun vs H Q _ => ∃ (a : Addr) (ns : List Int) (k : Int), vs = [.ref a, .int k] ∧ SqL K H a (ns.map V.int) ∧ 0 ≤ k ∧ ∀ m : Int, Q (.int m) H
noncomputable def sp_target : Sp := fun vs H Q _ => ∃ c : Int, vs = [.int c] ∧ ∀ m : Int, -9999999999 ≤ m → m ≤ 9999999999 → Q (.int m) H
noncomputable def PutR (S S' : BS) (rs : List V) : Prop :=
  (rs = [.str (rowT (.part S'.e))] ∧ S.e ≤ S'.e ∧ S'.ps.map Prt.core = S.ps.map Prt.core ++ [(S'.e, [])] ∧ S'.ls.map Ln.core = S.ls.map Ln.core) ∨
  (∃ u : Int, S.ps ≠ [] ∧ 0 ≤ u ∧ u ≤ 4294967295 ∧ S'.e = S.e + 1 ∧ S'.ps.map Prt.core = addW u (S.ps.map Prt.core) ∧
    ((rs = [.str (rowT (.word u))] ∧ S'.ls.map Ln.core = S.ls.map Ln.core) ∨ ∃ (r : Str) (t : Int), rs = [.str (rowT (.word u)), .str (rowT (.lean r t))] ∧ isR r ∧ -9999999999 ≤ t ∧ t ≤ 9999999999 ∧ S'.ls.map Ln.core = S.ls.map Ln.core ++ [(S.e, r, t)]))
noncomputable def PutQ (S : BS) (n : Nat) (H : Hp) (Q : VK) : Prop := ∀ (q : Addr) (rs : List V) (S' : BS) (H' : Hp), (∀ x o, H x = some o → x ≠ S.a → x ≠ S.b → (∀ y ∈ S.ps, x ≠ y.l) → H' x = some o) → H' q = some (.lst rs) → rs.length ≤ 2 → S'.a = S.a → S'.b = S.b → BOk (n + 1) H' S' → (∀ y ∈ S'.ps, y.l ∈ S.ps.map Prt.l ∨ H y.l = none) → H q = none → q ≠ S.a → q ≠ S.b → (∀ y ∈ S'.ps, q ≠ y.l) → PutR S S' rs → Q (.ref q) H'
noncomputable def pA : TS := fun D σ H => ∃ (S : BS) (n : Nat) (c m : Int) (H0 : Hp) (b5 b6 b7 b8 : Option V), σ = [some (.int c), some (.ref S.a), some (.ref S.b), some (.int S.e), some (.int m), b5, b6, b7, b8] ∧ 0 ≤ m ∧ BOk n H S ∧ n ≤ 61 ∧ Same H0 H ∧ BOk n H0 S ∧ PutQ S n H0 D.rt
noncomputable def pA2 : TS := fun D σ H => ∃ (S : BS) (n : Nat) (c m pl : Int) (H0 : Hp) (b6 b7 b8 : Option V), σ = [some (.int c), some (.ref S.a), some (.ref S.b), some (.int S.e), some (.int m), some (.int pl), b6, b7, b8] ∧ S.e ≤ pl ∧ pl ≤ S.e + 10000000 ∧ BOk n H S ∧ n ≤ 61 ∧ Same H0 H ∧ BOk n H0 S ∧ PutQ S n H0 D.rt
noncomputable def pB : TS := fun D σ H => ∃ (S : BS) (n : Nat) (c m : Int) (H0 : Hp) (b5 b6 b7 b8 : Option V), σ = [some (.int c), some (.ref S.a), some (.ref S.b), some (.int S.e), some (.int m), b5, b6, b7, b8] ∧ 0 ≤ m ∧ S.ps ≠ [] ∧ BOk n H S ∧ n ≤ 61 ∧ Same H0 H ∧ BOk n H0 S ∧ PutQ S n H0 D.rt
noncomputable def pB2 : TS := fun D σ H => ∃ (S : BS) (n : Nat) (c m u : Int) (H0 : Hp) (b5 b7 b8 : Option V), σ = [some (.int c), some (.ref S.a), some (.ref S.b), some (.int S.e), some (.int m), b5, some (.int u), b7, b8] ∧ 0 ≤ m ∧ 0 ≤ u ∧ u ≤ 4294967295 ∧ S.ps ≠ [] ∧ BOk n H S ∧ n ≤ 61 ∧ Same H0 H ∧ BOk n H0 S ∧ PutQ S n H0 D.rt
noncomputable def LsNew (S : BS) (u : Int) (rs : List V) (ls : List Ln) : Prop := (rs = [.str (rowT (.word u))] ∧ ls = S.ls) ∨ ∃ l, rs = [.str (rowT (.word u)), .str (rowT (.lean l.r l.t))] ∧ ls = S.ls ++ [l] ∧ l.p = S.e ∧ isR l.r ∧ -9999999999 ≤ l.t ∧ l.t ≤ 9999999999
noncomputable def pB3 : TS := fun D σ H => ∃ (S : BS) (n : Nat) (c m u : Int) (q : Addr) (rs : List V) (ls : List Ln) (H0 : Hp) (b5 b8 : Option V), σ = [some (.int c), some (.ref S.a), some (.ref S.b), some (.int S.e), some (.int m), b5, some (.int u), some (.ref q), b8] ∧ 0 ≤ u ∧ u ≤ 4294967295 ∧ S.ps ≠ [] ∧ H q = some (.lst rs) ∧ rs.length ≤ 2 ∧ H0 q = none ∧ PM H S.a S.ps ∧ LM H S.b ls ∧ LsNew S u rs ls ∧ n ≤ 61 ∧ (∀ x o, H0 x = some o → x ≠ S.b → H x = some o) ∧ BOk n H0 S ∧ PutQ S n H0 D.rt
noncomputable def sp_put : Sp := fun vs H Q _ => ∃ (c : Int) (S : BS) (n : Nat), vs = [.int c, .ref S.a, .ref S.b, .int S.e] ∧ BOk n H S ∧ n ≤ 61 ∧ PutQ S n H Q
noncomputable def sp_end : Sp := fun vs H Q _ => ∃ (S : BS) (n : Nat), vs = [.ref S.a] ∧ BOk n H S ∧ ∀ H', Same H H' → Q (.int S.e) H'
noncomputable def Row.Small : Row → Prop
  | .whole n sz en => (0 ≤ n ∧ n ≤ 4294967295) ∧ (0 ≤ sz ∧ sz ≤ 4294967295) ∧ (0 ≤ en ∧ en ≤ 4294967295)
  | .part n => 0 ≤ n ∧ n ≤ 4294967295
  | .word n => 0 ≤ n ∧ n ≤ 4294967295
  | .lean r n => isR r ∧ -9999999999 ≤ n ∧ n ≤ 9999999999
noncomputable def RunsTo (rows : List Row) (ps : List (Int × List Int)) (ls : List (Int × Str × Int)) (e : Int) (bw : Bool) : Prop := ∀ q : Int × Int × Int, e ≤ q.2.1 → q.2.1 ≤ 4294967295 →
  rows.foldl RS.next ⟨some q, [], [], 0, false⟩ = ⟨some q, ps, ls, e, bw⟩ ∧ ∀ (i : Nat) (r : Row), rows[i]? = some r → ((rows.take i).foldl RS.next ⟨some q, [], [], 0, false⟩).Takes r
set_option genInjectivity false in
structure RowsOk (rows : List Row) (W : Whl) (S : BS) : Prop where
  ne : rows ≠ []
  len : rows.length ≤ 123
  small : ∀ r ∈ rows, r.Small
  takes : ∀ (i : Nat) (r : Row), rows[i]? = some r → (runR rows i).Takes r
  run : ∃ bw, runR rows rows.length = ⟨some (W.st, W.sz, W.en), S.ps.map Prt.core, S.ls.map Ln.core, S.e, bw⟩
noncomputable def sp_built (K : PySem.W.Frag) : Sp := fun vs H Q _ => ∃ (a : Addr) (ns : List Int) (most : Int), vs = [.ref a, .int most] ∧ SqL K H a (ns.map V.int) ∧ ns.length ≤ 63 ∧ 2000000000 ≤ most ∧ most ≤ 4294967295 ∧
  ∀ (q pr : Addr) (rows : List Row) (W : Whl) (S : BS) (H' : Hp), Same H H' → H' q = some (.tup [.ref pr, .ref W.t]) → H' pr = some (.lst (rows.map fun r => V.str (rowT r))) → WOk most H' W S → W.n = 62 → RowsOk rows W S → Q (.ref q) H'
set_option genInjectivity false in
structure FOk (H0 H : Hp) (F : Whl) (S : BS) : Prop where
  top : H F.t = some (.tup [.int F.st, .int F.sz, .int F.en, .ref S.a, .ref S.b])
  pm : PM H S.a S.ps
  lm : LM H S.b S.ls
  ab : S.a ≠ S.b
  nb : ∀ x ∈ S.ps, x.l ≠ S.b
  fa : H0 S.a = none
  fb : H0 S.b = none
  fl : ∀ x ∈ S.ps, H0 x.l = none
  n1 : S.ps.length ≤ 300
  n2 : S.ls.length ≤ 300
  n3 : ∀ x ∈ S.ps, x.ws.length ≤ 300
set_option genInjectivity false in
structure Alike (F W : Whl) (S S' : BS) : Prop where
  st : F.st = W.st
  sz : F.sz = W.sz
  en : F.en = W.en
  ps : S.ps.map Prt.core = S'.ps.map Prt.core
  ls : S.ls.map Ln.core = S'.ls.map Ln.core
noncomputable def leanAt (ls : List (Int × Str × Int)) (n : Int) : List Row := ls.foldl (fun acc l => if l.1 = n then [.lean l.2.1 l.2.2] else acc) []
noncomputable def wordRows (ls : List (Int × Str × Int)) (p : Int) (ws : List Int) (i : Nat) : List Row := (List.range i).flatMap fun j => .word (ws.getD j 0) :: leanAt ls (p + (j : Int))
noncomputable def partRows (ls : List (Int × Str × Int)) (x : Int × List Int) : List Row := .part x.1 :: wordRows ls x.1 x.2 x.2.length
noncomputable def bodyRows (ps : List (Int × List Int)) (ls : List (Int × Str × Int)) : List Row := ps.flatMap (partRows ls)
noncomputable def rowsOf (st sz en : Int) (ps : List (Int × List Int)) (ls : List (Int × Str × Int)) : List Row := .whole st sz en :: bodyRows ps ls
set_option genInjectivity false in
structure RI (pre : List Row) (S : RS) : Prop where
  rows : pre = bodyRows S.ps S.ls
  lt : ∀ l ∈ S.ls, l.1 < S.e
  e : S.ps = [] ∨ ∃ pi x, S.ps = pi ++ [x] ∧ S.e = x.1 + (x.2.length : Int) ∧ ∀ y ∈ pi, y.1 + (y.2.length : Int) ≤ x.1
  bw : S.bw = true → (∀ l ∈ S.ls, l.1 < S.e - 1) ∧ ∃ pi p ws u, S.ps = pi ++ [(p, ws ++ [u])]
set_option genInjectivity false in
structure Shw (H : Hp) (W : Whl) (S : BS) : Prop where
  top : H W.t = some (.tup [.int W.st, .int W.sz, .int W.en, .ref S.a, .ref S.b])
  pm : PM H S.a S.ps
  lm : LM H S.b S.ls
  small : ∀ r ∈ rowsOf W.st W.sz W.en (S.ps.map Prt.core) (S.ls.map Ln.core), r.Small
  len : (rowsOf W.st W.sz W.en (S.ps.map Prt.core) (S.ls.map Ln.core)).length ≤ 200
  lr : ∀ l ∈ S.ls, isR l.r ∧ -9999999999 ≤ l.t ∧ l.t ≤ 9999999999
  n2 : S.ls.length ≤ 500
noncomputable def LRs (H : Hp) (mem : List (Key × V)) (ls : List (Int × Str × Int)) : Prop := ∀ n : Int, match valV mem (.inl n) with
  | none => leanAt ls n = []
  | some v => ∃ a, v = .ref a ∧ H a = some (.lst ((leanAt ls n).map fun r => V.str (rowT r)))
noncomputable def txtOf (W : Whl) (S : BS) : Str := Txt.join (Str.ofString "\n") ((rowsOf W.st W.sz W.en (S.ps.map Prt.core) (S.ls.map Ln.core)).map rowT)
noncomputable def sp_leans : Sp := fun vs H Q _ => ∃ (b : Addr) (ls : List Ln), vs = [.ref b] ∧ LM H b ls ∧ ls.length ≤ 500 ∧ (∀ l ∈ ls, isR l.r ∧ -9999999999 ≤ l.t ∧ l.t ≤ 9999999999) ∧ ∀ d mem H', Same H H' → H' d = some (.dK mem) → LRs H' mem (ls.map Ln.core) → Q (.ref d) H'
noncomputable def sp_shown : Sp := fun vs H Q _ => ∃ (W : Whl) (S : BS), vs = [.ref W.t] ∧ Shw H W S ∧ ∀ H', Same H H' → Q (.str (txtOf W S)) H'
noncomputable def sp_copy : Sp := fun vs H Q _ => ∃ (W : Whl) (S : BS), vs = [.ref W.t] ∧ WOk 4294967295 H W S ∧ ∀ (W' : Whl) (S' : BS) (H' : Hp), Same H H' → WOk 4294967295 H' W' S' → W'.st = W.st → W'.sz = W.sz → W'.en = W.en → S'.ps.map Prt.core = S.ps.map Prt.core → S'.ls = S.ls → W'.n = W.n → H S'.a = none → H S'.b = none → (∀ y ∈ S'.ps, H y.l = none) → Q (.ref W'.t) H'
noncomputable def sp_turn : Sp := fun vs H Q _ => ∃ (W : Whl) (S : BS), vs = [.ref W.t, .str (txtOf W S)] ∧ WOk 4294967295 H W S ∧ Shw H W S ∧ ∀ H', (∀ x o, x ≠ S.b → H x = some o → H' x = some o) → H' S.b = H S.b → Q (.bl true) H'
noncomputable def sp_law (K : PySem.W.Frag) : Sp := fun vs H Q _ => ∃ (a : Addr) (ns : List Int), vs = [.ref a] ∧ SqL K H a (ns.map V.int) ∧ ns.length ≤ 63 ∧ ∀ H', Q (.bl true) H'
local macro_rules | `(tactic| walk_at "rdd") => `(tactic| (try dsimp only [tSeq, tAsg, gName, tC, tOp, tUn, tVar, tRet, tIfS, tOr, tAnd, tNot, tTest, tB, tChain, tCB, tCons, tNil, tCall, tSl, tNoPart, tPart, tNext, tDrop, tLst, tTup, tYes, tNotV, tAndV, tOrV, L2.start, List.set, List.map, List.length, List.replicate, List.cons_append, List.nil_append, List.append_nil, cK, bK, rI0, rI, rU, rIxS, rIxL, rIxT, tRetN, rSlL, rIn, rCatT, gTup, gCons, gNil, tRaiseI, tXInit, tDGet, tDGet1, tDGet2, tDIn, tDNotIn, sDPut, tDNewK, rDictOf, rEqDict, rCount, tCompX_list, xCall, sXFld, tXFld, rSlS, rEq, rNe, sc0, sc1, sc2, sc3, sc4, sc5, sc6, sc7, sc8, sc9, sc10, sc11, sc12, sc13, rCatS, rIsi, LenV, rAll, tFor_list, tFor_tup, tFor_str, tFor_rng1, tFor_rng2, tComp_list, tComp_tup, tComp_str, tComp_rng1, blkSt, tBM, rAppend, rStarts, rIndex, tIf, tMake, tMeth, sFld, tFld, tRepr, tFmt, jNil, jCons, tJoined, rJoin, rIsx, rIst, tRaise, tTryAs, tTry0, un1, xMeth, xDrop, xSet, xRet, xOf, xSeq, List.getElem?_cons_zero, List.getElem?_cons_succ, Option.some.injEq, V.int.injEq, V.str.injEq, V.bl.injEq, V.ref.injEq, V.ty.injEq, List.cons.injEq, exists_eq_left', exists_eq_left, exists_eq', and_assoc, if_true, if_false, Bool.not_false, Bool.not_true, Bool.not_not, Bool.false_eq_true, exists_and_left, and_true, true_and, List.set_cons_zero, List.set_cons_succ, Option.join_some, false_and, or_false, false_or, exists_false, sp_num, sp_step, sp_rinit, sp_tpart, sp_tword, sp_tlean, sp_twhole, sp_takes, sp_read, sp_whole, sp_cellat, sp_target, sp_put, sp_end, sp_built, sp_leans, sp_shown, sp_copy, sp_turn, tFor_enum1, rSplit, tKGet, rClear, rClearD, tBM0, rSlT, sFldAug, rExtend, tFor_enum, gSub, rSetL, Ends.nx, Nat.reduceSub, Nat.reduceAdd]))
local macro_rules | `(tactic| walk_at "rd") => `(tactic| (walk_at "rdd"; (try simp only [tSeq, tAsg, gName, tC, tOp, tUn, tVar, tRet, tIfS, tOr, tAnd, tNot, tTest, tB, tChain, tCB, tCons, tNil, tCall, tSl, tNoPart, tPart, tNext, tDrop, tLst, tTup, tYes, tNotV, tAndV, tOrV, L2.start, List.set, List.map, List.length, List.replicate, List.cons_append, List.nil_append, List.append_nil, cK, bK, rI0, rI, rU, rIxS, rIxL, rIxT, tRetN, rSlL, rIn, rCatT, gTup, gCons, gNil, tRaiseI, tXInit, tDGet, tDGet1, tDGet2, tDIn, tDNotIn, sDPut, tDNewK, rDictOf, rEqDict, rCount, tCompX_list, xCall, sXFld, tXFld, rSlS, rEq, rNe, sc0, sc1, sc2, sc3, sc4, sc5, sc6, sc7, sc8, sc9, sc10, sc11, sc12, sc13, rCatS, rIsi, LenV, rAll, tFor_list, tFor_tup, tFor_str, tFor_rng1, tFor_rng2, tComp_list, tComp_tup, tComp_str, tComp_rng1, blkSt, tBM, rAppend, rStarts, rIndex, tIf, tMake, tMeth, sFld, tFld, tRepr, tFmt, jNil, jCons, tJoined, rJoin, rIsx, rIst, tRaise, tTryAs, tTry0, un1, xMeth, xDrop, xSet, xRet, xOf, xSeq, List.getElem?_cons_zero, List.getElem?_cons_succ, Option.some.injEq, V.int.injEq, V.str.injEq, V.bl.injEq, V.ref.injEq, V.ty.injEq, List.cons.injEq, exists_eq_left', exists_eq_left, exists_eq', and_assoc, if_true, if_false, Bool.not_false, Bool.not_true, Bool.not_not, Bool.false_eq_true, exists_and_left, and_true, true_and, List.set_cons_zero, List.set_cons_succ, Option.join_some, false_and, or_false, false_or, exists_false, sp_num, sp_step, sp_rinit, sp_tpart, sp_tword, sp_tlean, sp_twhole, sp_takes, sp_read, sp_whole, sp_cellat, sp_target, sp_put, sp_end, sp_built, sp_leans, sp_shown, sp_copy, sp_turn, tFor_enum1, rSplit, tKGet, rClear, rClearD, tBM0, rSlT, sFldAug, rExtend, tFor_enum, gSub, rSetL, Ends.nx, Nat.reduceSub, Nat.reduceAdd, reduceCtorEq])))
local macro_rules | `(tactic| walk_at "rdi") => `(tactic| (walk_at "rdd"; (try simp only [tSeq, tAsg, gName, tC, tOp, tUn, tVar, tRet, tIfS, tOr, tAnd, tNot, tTest, tB, tChain, tCB, tCons, tNil, tCall, tSl, tNoPart, tPart, tNext, tDrop, tLst, tTup, tYes, tNotV, tAndV, tOrV, L2.start, List.set, List.map, List.length, List.replicate, List.cons_append, List.nil_append, List.append_nil, cK, bK, rI0, rI, rU, rIxS, rIxL, rIxT, tRetN, rSlL, rIn, rCatT, gTup, gCons, gNil, tRaiseI, tXInit, tDGet, tDGet1, tDGet2, tDIn, tDNotIn, sDPut, tDNewK, rDictOf, rEqDict, rCount, tCompX_list, xCall, sXFld, tXFld, rSlS, rEq, rNe, sc0, sc1, sc2, sc3, sc4, sc5, sc6, sc7, sc8, sc9, sc10, sc11, sc12, sc13, rCatS, rIsi, LenV, rAll, tFor_list, tFor_tup, tFor_str, tFor_rng1, tFor_rng2, tComp_list, tComp_tup, tComp_str, tComp_rng1, blkSt, tBM, rAppend, rStarts, rIndex, tIf, tMake, tMeth, sFld, tFld, tRepr, tFmt, jNil, jCons, tJoined, rJoin, rIsx, rIst, tRaise, tTryAs, tTry0, un1, xMeth, xDrop, xSet, xRet, xOf, xSeq, List.getElem?_cons_zero, List.getElem?_cons_succ, Option.some.injEq, V.int.injEq, V.str.injEq, V.bl.injEq, V.ref.injEq, V.ty.injEq, List.cons.injEq, exists_eq_left', exists_eq_left, exists_eq', and_assoc, if_true, if_false, Bool.not_false, Bool.not_true, Bool.not_not, Bool.false_eq_true, exists_and_left, and_true, true_and, List.set_cons_zero, List.set_cons_succ, Option.join_some, false_and, or_false, false_or, exists_false, sp_num, sp_step, sp_rinit, sp_tpart, sp_tword, sp_tlean, sp_twhole, sp_takes, sp_read, sp_whole, sp_cellat, sp_target, sp_put, sp_end, sp_built, sp_leans, sp_shown, sp_copy, sp_turn, tFor_enum1, rSplit, tKGet, rClear, rClearD, tBM0, rSlT, sFldAug, rExtend, tFor_enum, gSub, rSetL, Ends.nx, Nat.reduceSub, Nat.reduceAdd, reduceCtorEq, decide_true, decide_false, ↓reduceIte])))

theorem pow_and {n : Int} (h : ∃ k : Nat, n = 2 ^ k) (h2 : n ≤ 65536) : Builtin.bitAnd n (n - 1) = 0 := by
  obtain ⟨k, rfl⟩ := h
  have hk : k < 17 := by
    rcases Nat.lt_or_ge k 17 with z | z
    · exact z
    · have h3 : (2 : Nat) ^ 17 ≤ 2 ^ k := Nat.pow_le_pow_right (by decide) z
      have h4 : ((2 ^ k : Nat) : Int) = (2 : Int) ^ k := by push_cast; rfl
      omega
  have key : ∀ k : Nat, k < 17 → Builtin.bitAnd ((2 : Int) ^ k) ((2 : Int) ^ k - 1) = 0 := by decide +kernel
  exact key k hk
section
variable {P : Program} {w : World} {K : PySem.W.Frag} {mg : Str → Option Value} {base : Heap} {A : Ad}
theorem Rdg.Ok.bwd {H0 H : Hp} {R : Rdg} {S : RS} {m : Nat} (h : Rdg.Ok A H0 H R S m) (c : Bool) : Rdg.Ok A H0 (upd H R.p (.ins A.c_WholeReading R.dx (Rdg.fs { R with bw := c }))) { R with bw := c } { S with bw := c } m := by
  have nl : ∀ {y : Addr} {xs : List V} {o : HO}, H y = some (.lst xs) → upd H R.p o y = some (.lst xs) := fun {y xs o} e => by rw [upd_ne (ne_of e h.top (by intro z; cases z))]; exact e
  have nt : ∀ {y : Addr} {xs : List V} {o : HO}, H y = some (.tup xs) → upd H R.p o y = some (.tup xs) := fun {y xs o} e => by rw [upd_ne (ne_of e h.top (by intro z; cases z))]; exact e
  refine ⟨fun x o e => by rw [upd_ne (ne_of_none e h.f.1)]; exact h.sm _ _ e, h.f, upd_same, h.st, h.e, h.e0, rfl, h.ab, ?_, ?_, h.n1⟩
  · obtain ⟨qs, q1, q2, q3, q4, q5⟩ := h.ps
    exact ⟨qs, q1, nl q2, q3, fun i q x a b => ⟨nt (q4 i q x a b).1, nl (q4 i q x a b).2.1, (q4 i q x a b).2.2⟩, q5⟩
  · obtain ⟨ts, t1, t2, t3⟩ := h.ls
    exact ⟨ts, t1, nl t2, fun i t x a b => nt (t3 i t x a b)⟩
theorem snoc_ix {α : Type} {xs : List α} {y z : α} {i : Nat} (h : (xs ++ [y])[i]? = some z) : (i < xs.length ∧ xs[i]? = some z) ∨ (i = xs.length ∧ z = y) := by
  by_cases hi : i < xs.length
  · exact .inl ⟨hi, by rw [List.getElem?_append_left hi] at h; exact h⟩
  · have := (List.getElem?_eq_some_iff.mp h).1
    rw [List.length_append, List.length_singleton] at this
    have e : i = xs.length := by omega
    subst e
    rw [List.getElem?_append_right (Nat.le_refl _), Nat.sub_self] at h
    exact .inr ⟨rfl, (Option.some.inj h).symm⟩
theorem Rdg.Ok.part {H0 H H' : Hp} {R : Rdg} {S : RS} {m : Nat} (h : Rdg.Ok A H0 H R S m) {n : Int} (hn : 0 ≤ n) {l t : Addr} {xs : List V} (hA : H R.a = some (.lst xs)) (nlt : l ≠ t) (fl : H l = none) (ft : H t = none)
    (fr : ∀ x o, x ≠ R.p → x ≠ R.a → H x = some o → H' x = some o) (h1 : H' l = some (.lst [])) (h2 : H' t = some (.tup [.int n, .ref l])) (h3 : H' R.a = some (.lst (xs ++ [.ref t])))
    (h4 : H' R.p = some (.ins A.c_WholeReading R.dx (Rdg.fs { R with e := n, lw := .ref l }))) : Rdg.Ok A H0 H' { R with e := n, lw := .ref l } { S with ps := S.ps ++ [(n, [])], e := n } (m + 1) := by
  obtain ⟨qs, q1, q2, q3, q4, q5⟩ := h.ps
  obtain ⟨ts, t1, t2, t3⟩ := h.ls
  have ex : xs = qs.map fun q => V.ref q.1 := by rw [q2] at hA; cases hA; rfl
  have f0 : ∀ {x : Addr}, H x = none → H0 x = none := fun {x} e => by
    cases hh : H0 x with
    | none => rfl
    | some o => rw [h.sm _ _ hh] at e; cases e
  have nl : ∀ {y : Addr} {ys : List V}, y ≠ R.a → H y = some (.lst ys) → H' y = some (.lst ys) := fun {y ys} n e => fr _ _ (ne_of e h.top (by intro z; cases z)) n e
  have nt : ∀ {y : Addr} {ys : List V}, H y = some (.tup ys) → H' y = some (.tup ys) := fun {y ys} e => fr _ _ (ne_of e h.top (by intro z; cases z)) (ne_of e hA (by intro z; cases z)) e
  have hB : H R.b = some (.lst (ts.map V.ref)) := t2
  refine ⟨fun x o e => fr _ _ (ne_of_none e h.f.1) (ne_of_none e h.f.2.1) (h.sm _ _ e), h.f, h4, h.st, rfl, hn, h.bw, h.ab, ⟨qs ++ [(t, l)], ?_, ?_, ?_, ?_, ?_⟩, ⟨ts, t1, nl h.ab.symm t2, fun i t x a b => nt (t3 i t x a b)⟩, ?_⟩
  · rw [List.length_append, List.length_append, q1]; rfl
  · rw [h3, ex, List.map_append]; rfl
  · rw [List.map_append, List.nodup_append]
    refine ⟨q3, by simp, fun u hu v hv => ?_⟩
    obtain ⟨q, hq, rfl⟩ := List.mem_map.mp hu
    rw [show v = l by simpa using hv]
    obtain ⟨i, hi, ei⟩ := List.getElem_of_mem hq
    have hi2 : i < S.ps.length := by rw [← q1]; exact hi
    exact ne_of_none (q4 i q S.ps[i] (by rw [List.getElem?_eq_getElem hi, ei]) (List.getElem?_eq_getElem hi2)).2.1 fl
  · intro i q x hq hx
    rcases snoc_ix hq with ⟨a1, a2⟩ | ⟨a1, a2⟩
    · rcases snoc_ix hx with ⟨b1, b2⟩ | ⟨b1, b2⟩
      · have z := q4 i q x a2 b2
        exact ⟨nt z.1, nl z.2.2.1 z.2.1, z.2.2⟩
      · omega
    · rcases snoc_ix hx with ⟨b1, b2⟩ | ⟨b1, b2⟩
      · omega
      · subst a2 b2
        exact ⟨h2, h1, Ne.symm (ne_of_none hA fl), Ne.symm (ne_of_none hB fl), f0 fl⟩
  · rw [List.getLast?_append]; rfl
  · obtain ⟨b1, b2, b3⟩ := h.n1
    refine ⟨by show (S.ps ++ [_]).length ≤ m + 1; rw [List.length_append, List.length_singleton]; omega, by show S.ls.length ≤ m + 1; omega, fun x hx => ?_⟩
    rcases List.mem_append.mp hx with z | z
    · have := b3 x z; omega
    · rw [List.mem_singleton.mp z]; exact Nat.zero_le _
theorem Rdg.Ok.lean {H0 H H' : Hp} {R : Rdg} {S : RS} {m : Nat} (h : Rdg.Ok A H0 H R S m) {n : Int} {r : Str} {t : Addr} {xs : List V} (hB : H R.b = some (.lst xs)) (ft : H t = none)
    (fr : ∀ x o, x ≠ R.b → H x = some o → H' x = some o) (h1 : H' R.b = some (.lst (xs ++ [.ref t]))) (h2 : H' t = some (.tup [.int (R.e - 1), .str r, .int n])) : Rdg.Ok A H0 H' R { S with ls := S.ls ++ [(S.e - 1, r, n)] } (m + 1) := by
  obtain ⟨qs, q1, q2, q3, q4, q5⟩ := h.ps
  obtain ⟨ts, t1, t2, t3⟩ := h.ls
  have ex : xs = ts.map V.ref := by rw [t2] at hB; cases hB; rfl
  have nt : ∀ {y : Addr} {ys : List V}, H y = some (.tup ys) → H' y = some (.tup ys) := fun {y ys} e => fr _ _ (ne_of e hB (by intro z; cases z)) e
  refine ⟨fun x o e => fr _ _ (ne_of_none e h.f.2.2) (h.sm _ _ e), h.f, fr _ _ (ne_of h.top hB (by intro z; cases z)) h.top, h.st, h.e, h.e0, h.bw, h.ab, ⟨qs, q1, fr _ _ h.ab q2, q3, fun i q x a b => ?_, q5⟩, ⟨ts ++ [t], ?_, ?_, fun i u x hu hx => ?_⟩, ?_⟩
  · have z := q4 i q x a b
    exact ⟨nt z.1, fr _ _ z.2.2.2.1 z.2.1, z.2.2⟩
  · rw [List.length_append, List.length_append, t1]; rfl
  · rw [h1, ex, List.map_append]; rfl
  · rcases snoc_ix hu with ⟨a1, a2⟩ | ⟨a1, a2⟩
    · rcases snoc_ix hx with ⟨b1, b2⟩ | ⟨b1, b2⟩
      · exact nt (t3 i u x a2 b2)
      · omega
    · rcases snoc_ix hx with ⟨b1, b2⟩ | ⟨b1, b2⟩
      · omega
      · subst a2 b2
        rw [h2, h.e]
  · obtain ⟨b1, b2, b3⟩ := h.n1
    exact ⟨by show S.ps.length ≤ m + 1; omega, by show (S.ls ++ [_]).length ≤ m + 1; rw [List.length_append, List.length_singleton]; omega, fun x hx => Nat.le_succ_of_le (b3 x hx)⟩
theorem Rdg.Ok.mono {H0 H H' : Hp} {R : Rdg} {S : RS} {m : Nat} (h : Rdg.Ok A H0 H R S m) (s : Same H H') : Rdg.Ok A H0 H' R S m := by
  refine ⟨h.sm.trans s, h.f, s _ _ h.top, h.st, h.e, h.e0, h.bw, h.ab, ?_, ?_, h.n1⟩
  · obtain ⟨qs, q1, q2, q3, q4, q5⟩ := h.ps
    exact ⟨qs, q1, s _ _ q2, q3, fun i q x a b => ⟨s _ _ (q4 i q x a b).1, s _ _ (q4 i q x a b).2.1, (q4 i q x a b).2.2⟩, q5⟩
  · obtain ⟨ts, t1, t2, t3⟩ := h.ls
    exact ⟨ts, t1, s _ _ t2, fun i t x a b => s _ _ (t3 i t x a b)⟩
theorem Rdg.Ok.below {H0 H1 H : Hp} {R : Rdg} {S : RS} {m : Nat} (h : Rdg.Ok A H1 H R S m) (s : Same H0 H1) : Rdg.Ok A H0 H R S m := by
  have f0 : ∀ {x : Addr}, H1 x = none → H0 x = none := fun {x} e => by
    cases hh : H0 x with
    | none => rfl
    | some o => rw [s _ _ hh] at e; cases e
  refine ⟨s.trans h.sm, ⟨f0 h.f.1, f0 h.f.2.1, f0 h.f.2.2⟩, h.top, h.st, h.e, h.e0, h.bw, h.ab, ?_, h.ls, h.n1⟩
  obtain ⟨qs, q1, q2, q3, q4, q5⟩ := h.ps
  exact ⟨qs, q1, q2, q3, fun i q x a b => ⟨(q4 i q x a b).1, (q4 i q x a b).2.1, (q4 i q x a b).2.2.1, (q4 i q x a b).2.2.2.1, f0 (q4 i q x a b).2.2.2.2⟩, q5⟩
theorem same_new {H : Hp} {p : Addr} {o : HO} (h : H p = none) : Same H (upd H p o) := fun b u e => by rw [upd_ne (ne_of_none e h)]; exact e
theorem Row.ne (r : Row) : r.parts ≠ [] := by cases r <;> simp [Row.parts]
theorem sp_one : Str.ofString " " = ⟨#[32]⟩ := by decide +kernel
theorem nl_one : Str.ofString "\n" = ⟨#[10]⟩ := by decide +kernel
theorem runR_succ {rows : List Row} {i : Nat} {r : Row} (h : rows[i]? = some r) : runR rows (i + 1) = (runR rows i).next r := by
  unfold runR
  rw [List.take_succ, h]
  simp
theorem addW_snoc (n : Int) : ∀ (xs : List (Int × List Int)) (x : Int × List Int), addW n (xs ++ [x]) = xs ++ [(x.1, x.2 ++ [n])]
  | [], _ => rfl
  | [y], x => rfl
  | y :: z :: r, x => by
    show y :: addW n (z :: r ++ [x]) = _
    rw [addW_snoc n (z :: r) x]; rfl
theorem Rdg.Ok.word {H0 H H' : Hp} {R : Rdg} {S : RS} {m : Nat} (h : Rdg.Ok A H0 H R S m) (hne : S.ps ≠ []) {n : Int} {l : Addr} {ws : List V} (hlw : R.lw = .ref l) (hl : H l = some (.lst ws))
    (fr : ∀ x o, x ≠ R.p → x ≠ l → H x = some o → H' x = some o) (h1 : H' l = some (.lst (ws ++ [.int n]))) (h2 : H' R.p = some (.ins A.c_WholeReading R.dx (Rdg.fs { R with e := R.e + 1 }))) : Rdg.Ok A H0 H' { R with e := R.e + 1 } { S with ps := addW n S.ps, e := S.e + 1 } (m + 1) := by
  obtain ⟨st, ps, ls, e, bw⟩ := S
  obtain ⟨pi, x, rfl⟩ : ∃ pi x, ps = pi ++ [x] := ⟨ps.dropLast, ps.getLast hne, (List.dropLast_concat_getLast hne).symm⟩
  obtain ⟨qs, q1, q2, q3, q4, q5⟩ := h.ps
  have qne : qs ≠ [] := fun z => by rw [z] at q1; simp at q1
  obtain ⟨qi, q, rfl⟩ : ∃ qi q, qs = qi ++ [q] := ⟨qs.dropLast, qs.getLast qne, (List.dropLast_concat_getLast qne).symm⟩
  have eq : qi.length = pi.length := by simpa using q1
  have el : l = q.2 := by
    rw [List.getLast?_append] at q5
    have q5 : R.lw = .ref q.2 := q5
    rw [hlw] at q5; cases q5; rfl
  subst el
  have last := q4 pi.length q x (by rw [← eq, List.getElem?_append_right (Nat.le_refl _), Nat.sub_self]; rfl) (by show (pi ++ [x])[pi.length]? = _; rw [List.getElem?_append_right (Nat.le_refl _), Nat.sub_self]; rfl)
  have ew : ws = x.2.map V.int := by have := last.2.1; rw [hl] at this; cases this; rfl
  obtain ⟨ts, t1, t2, t3⟩ := h.ls
  have nt : ∀ {y : Addr} {ys : List V}, H y = some (.tup ys) → H' y = some (.tup ys) := fun {y ys} e => fr _ _ (ne_of e h.top (by intro z; cases z)) (ne_of e hl (by intro z; cases z)) e
  have nl : ∀ {y : Addr} {ys : List V}, y ≠ q.2 → H y = some (.lst ys) → H' y = some (.lst ys) := fun {y ys} n e => fr _ _ (ne_of e h.top (by intro z; cases z)) n e
  have nd := q3
  rw [List.map_append, List.nodup_append] at nd
  refine ⟨fun y o e => fr _ _ (ne_of_none e h.f.1) (ne_of_none e last.2.2.2.2) (h.sm _ _ e), h.f, h2, h.st, by show R.e + 1 = e + 1; rw [show R.e = e from h.e], by have := h.e0; show 0 ≤ e + 1; dsimp only at this; omega, h.bw, h.ab, ⟨qi ++ [q], ?_, nl last.2.2.1.symm q2, q3, ?_, q5⟩, ⟨ts, t1, nl last.2.2.2.1.symm t2, fun i t x a b => nt (t3 i t x a b)⟩, ?_⟩
  · show _ = (addW n (pi ++ [x])).length
    rw [addW_snoc, List.length_append, List.length_append, eq]; rfl
  · intro i u y hu hy
    have hy : (addW n (pi ++ [x]))[i]? = some y := hy
    rw [addW_snoc] at hy
    rcases snoc_ix hu with ⟨a1, a2⟩ | ⟨a1, a2⟩
    · rcases snoc_ix hy with ⟨b1, b2⟩ | ⟨b1, b2⟩
      · have z := q4 i u y hu (by show (pi ++ [x])[i]? = _; rw [List.getElem?_append_left b1]; exact b2)
        refine ⟨nt z.1, nl (fun e => ?_) z.2.1, z.2.2⟩
        exact nd.2.2 u.2 (List.mem_map.mpr ⟨u, List.mem_of_getElem? a2, rfl⟩) q.2 (by simp) e
      · omega
    · rcases snoc_ix hy with ⟨b1, b2⟩ | ⟨b1, b2⟩
      · omega
      · subst a2 b2
        exact ⟨nt last.1, by rw [h1, ew, List.map_append]; rfl, last.2.2⟩
  · obtain ⟨b1, b2, b3⟩ := h.n1
    dsimp only at b1 b2 b3
    refine ⟨?_, by show ls.length ≤ m + 1; omega, fun y hy => ?_⟩
    · show (addW n (pi ++ [x])).length ≤ m + 1
      rw [addW_snoc]; rw [List.length_append, List.length_singleton] at b1 ⊢; omega
    · have hy : y ∈ addW n (pi ++ [x]) := hy
      rw [addW_snoc] at hy
      rcases List.mem_append.mp hy with z | z
      · exact Nat.le_succ_of_le (b3 y (List.mem_append_left _ z))
      · rw [List.mem_singleton.mp z, List.length_append, List.length_singleton]
        exact Nat.succ_le_succ (b3 x (by simp))
theorem Rdg.Ok.whole {H0 H H' : Hp} {R : Rdg} {S : RS} {m : Nat} (h : Rdg.Ok A H0 H R S m) {n sz en : Int}
    (fr : ∀ x o, x ≠ R.p → H x = some o → H' x = some o) (h2 : H' R.p = some (.ins A.c_WholeReading R.dx (Rdg.fs { R with st := .int n, sz := .int sz, en := .int en }))) : Rdg.Ok A H0 H' { R with st := .int n, sz := .int sz, en := .int en } { S with st := some (n, sz, en) } (m + 1) := by
  have nl : ∀ {y : Addr} {xs : List V}, H y = some (.lst xs) → H' y = some (.lst xs) := fun {y xs} e => fr _ _ (ne_of e h.top (by intro z; cases z)) e
  have nt : ∀ {y : Addr} {xs : List V}, H y = some (.tup xs) → H' y = some (.tup xs) := fun {y xs} e => fr _ _ (ne_of e h.top (by intro z; cases z)) e
  refine ⟨fun x o e => fr _ _ (ne_of_none e h.f.1) (h.sm _ _ e), h.f, h2, rfl, h.e, h.e0, h.bw, h.ab, ?_, ?_, ?_⟩
  · obtain ⟨qs, q1, q2, q3, q4, q5⟩ := h.ps
    exact ⟨qs, q1, nl q2, q3, fun i q x a b => ⟨nt (q4 i q x a b).1, nl (q4 i q x a b).2.1, (q4 i q x a b).2.2⟩, q5⟩
  · obtain ⟨ts, t1, t2, t3⟩ := h.ls
    exact ⟨ts, t1, nl t2, fun i t x a b => nt (t3 i t x a b)⟩
  · obtain ⟨b1, b2, b3⟩ := h.n1
    exact ⟨Nat.le_succ_of_le b1, Nat.le_succ_of_le b2, fun x hx => Nat.le_succ_of_le (b3 x hx)⟩
theorem G_number_of (T : Txt w K mg A) : FnOk P w K mg base CX0 1 A.number_of A.fd_number_of ["text", "least", "most"] sp_num := by
  refine T.F_number_of.ok sc_number_of (fun vs H Q E h => ?_) (fun cdv Ar outer s H vs Q E hr h => ?_)
  · obtain ⟨z, lo, hi, rfl, _⟩ := h
    rfl
  · obtain ⟨z, lo, hi, rfl, hz, k⟩ := h
    refine ⟨_, (pss_cons (ps_set (i := 3) sc_number_of.nd rfl (by first | exact Or.inl rfl | exact Or.inr rfl) (pe_ifExp (pt_val (pe_bm PySem.F.plainAttrs_str PySem.F.slot_str_startswith PySem.F.type_str_startswith mt_starts (pv 0) (pa_cons pe_str pa_nil))) (pe_slice sl_str (pv 0) (po_some pe_int) po_none) (pv 0))) (pss_cons (ps_if (PW.pt (pw_or (pt_not (pt_chain op_le op_le pe_int (pe_callB (call_lenK (K := K) rfl) (by rfl) T.n_len bt_len (pa_cons (pv 3) pa_nil)) pe_int)) (pw_or1 (pt_not (pt_val (pe_callB (call_allK rfl (K := K) rfl) (by rfl) T.n_all bt_all (pa_cons (pe_comp (blk_mk (own := ["sign"]) (fr := []) (fm := []) rfl (by decide +kernel) (by decide +kernel) (by decide +kernel) .nil) rfl (pi_str (pv 3)) (fun _ _ _ => ⟨(pg_name (i := 0) (by show List.Nodup (["sign"] : List Str); decide +kernel) rfl (by first | exact Or.inl rfl | exact Or.inr rfl)), pts_nil, (pe_cmpR op_in_str (pv 0) (pe_glob rfl T.g_FIGURES relS) (by with_unfolding_all rfl))⟩)) pa_nil))))))) (pss_one (ps_ret pe_non)) pss_nil) (pss_cons (ps_if (PW.pt (pw_and (pt_cmpR op_eq (pe_ix ix_str (pv 3) pe_int (fun _ _ => rfl)) pe_str (nomark _)) (pw_and1 (pt_cmpR op_ne (pv 0) pe_str (nomark _))))) (pss_one (ps_ret pe_non)) pss_nil) (pss_cons (ps_set (i := 4) sc_number_of.nd rfl (by first | exact Or.inl rfl | exact Or.inr rfl) (pe_callTy call_intT (by rfl) T.n_int bt_int (pa_cons (pv 0) pa_nil))) (pss_one (ps_ret (pe_ifExp (pt_chain op_le op_le (pv 1) (pv 4) (pv 2)) (pv 4) pe_non))))))), ?_⟩
    walk_at "rd"
    have lz : z.length ≤ sizeLine := by rw [sizeLine_eq]; omega
    refine ⟨rfl, ite2 (fun hn => ⟨lz, ?_⟩) (fun hn => ?_)⟩
    · have hfig : (Txt.slice z (some 1) none).cps.toList = figs z := by unfold figs; rw [if_pos hn, sl_from1]
      have hyl := Txt.slice_le z (some 1) none
      generalize Txt.slice z (some 1) none = y at *
      have lY : y.length ≤ sizeLine := by rw [sizeLine_eq]; omega
      refine ⟨lY, ite2 (fun h => ite2 (fun h2 => ?_) (fun h2 => ?_)) (fun h => ?_)⟩
      · have h2 : decide ((y.length : Int) ≤ 10) = false := by simpa using h2
        have h2 := of_decide_eq_false h2
        have := k H (Same.refl H)
        rw [numF_non2 (by rw [← hfig, lenL]; omega)] at this
        exact this
      · have h2 : decide ((y.length : Int) ≤ 10) = true := by simpa using h2
        have h2 := of_decide_eq_true h2
        have h := of_decide_eq_true h
        have hne : figs z ≠ [] := fun q => by
          have := congrArg List.length hfig
          rw [lenL, q] at this
          simp at this; omega
        have hle : (figs z).length ≤ 10 := by rw [← hfig, lenL]; omega
        refine CompS.of (by rw [sizeLine_eq]; have : y.length = y.cps.size := rfl; omega) (fun D i ys H' => ys = (y.cps.toList.take i).map (fun c => V.bl (dig c)) ∧ H' = upd H D (.lst ys)) (fun D hD => ⟨rfl, rfl⟩) ?_ ?_ ?_
        · rintro D i ys H' hD hi ⟨rfl, rfl⟩
          exact ⟨upd_same, by rw [List.length_map, List.length_take]; omega⟩
        · rintro D i c ys H' hD hc ⟨rfl, rfl⟩
          walk_at "rd"
          refine ⟨.no .nil, upd_same, ?_, upd_upd⟩
          rw [take_snocN (getL hc), List.map_append]
          rfl
        · rintro D ys H' hD ⟨rfl, rfl⟩
          have sm : Same H (upd H D (.lst ((y.cps.toList.take y.cps.size).map (fun c => V.bl (dig c))))) := fun b o e => by rw [upd_ne (ne_of_none e hD)]; exact e
          have kk := k _ sm
          refine ⟨D, rfl, y.cps.toList.map dig, SqL.of ?_, ?_⟩
          · rw [upd_same, take_all, List.map_map]; rfl
          · rw [List.all_map]
            have ea : (y.cps.toList.all (id ∘ dig)) = (figs z).all dig := by rw [hfig]; rfl
            rw [ea]
            cases hv : (figs z).all dig with
            | false =>
              rw [numF_non3 hv] at kk
              exact iteT kk
            | true =>
              refine iteF ⟨lY, ?_⟩
              obtain ⟨x, hx, ht⟩ := first_at (cs := y.cps.toList) (by rw [hfig]; exact hne)
              refine ⟨x, hx, ?_⟩
              rw [sign_zero]
              have hi' := int_text hz hne hv
              refine ite2 (fun h3 => ite2 (fun h4 => ?_) (fun h4 => ?_)) (fun h3 => ?_)
              · have h3 := of_decide_eq_true h3
                rw [numF_non4 (by rw [← hfig, ht, h3]) (of_decide_eq_false (by simpa using h4))] at kk
                exact kk
              · have hq : ¬ ((figs z).take 1 = [48] ∧ z ≠ Str.ofString "0") := fun q => q.2 (of_decide_eq_true (by simpa using h4))
                exact ⟨valS z, hi', by omega, num_end hne hle hv hq kk⟩
              · have hq : ¬ ((figs z).take 1 = [48] ∧ z ≠ Str.ofString "0") := fun q => by
                  have h3 : ¬ x = 48 := of_decide_eq_false (by simpa using h3)
                  have := q.1
                  rw [← hfig, ht] at this
                  simp at this
                  exact h3 this
                exact ⟨valS z, hi', by omega, num_end hne hle hv hq kk⟩
      · have h : decide (1 ≤ (y.length : Int)) = false := by simpa using h
        have h := of_decide_eq_false h
        have := k H (Same.refl H)
        rw [numF_non1 (by rw [← hfig]; exact nilOf (by omega))] at this
        exact this
    · have hfig : z.cps.toList = figs z := by unfold figs; rw [if_neg hn]
      have lY : z.length ≤ sizeLine := by rw [sizeLine_eq]; omega
      refine ⟨lY, ite2 (fun h => ite2 (fun h2 => ?_) (fun h2 => ?_)) (fun h => ?_)⟩
      · have h2 : decide ((z.length : Int) ≤ 10) = false := by simpa using h2
        have h2 := of_decide_eq_false h2
        have := k H (Same.refl H)
        rw [numF_non2 (by rw [← hfig, lenL]; omega)] at this
        exact this
      · have h2 : decide ((z.length : Int) ≤ 10) = true := by simpa using h2
        have h2 := of_decide_eq_true h2
        have h := of_decide_eq_true h
        have hne : figs z ≠ [] := fun q => by
          have := congrArg List.length hfig
          rw [lenL, q] at this
          simp at this; omega
        have hle : (figs z).length ≤ 10 := by rw [← hfig, lenL]; omega
        refine CompS.of (by rw [sizeLine_eq]; have : z.length = z.cps.size := rfl; omega) (fun D i ys H' => ys = (z.cps.toList.take i).map (fun c => V.bl (dig c)) ∧ H' = upd H D (.lst ys)) (fun D hD => ⟨rfl, rfl⟩) ?_ ?_ ?_
        · rintro D i ys H' hD hi ⟨rfl, rfl⟩
          exact ⟨upd_same, by rw [List.length_map, List.length_take]; omega⟩
        · rintro D i c ys H' hD hc ⟨rfl, rfl⟩
          walk_at "rd"
          refine ⟨.no .nil, upd_same, ?_, upd_upd⟩
          rw [take_snocN (getL hc), List.map_append]
          rfl
        · rintro D ys H' hD ⟨rfl, rfl⟩
          have sm : Same H (upd H D (.lst ((z.cps.toList.take z.cps.size).map (fun c => V.bl (dig c))))) := fun b o e => by rw [upd_ne (ne_of_none e hD)]; exact e
          have kk := k _ sm
          refine ⟨D, rfl, z.cps.toList.map dig, SqL.of ?_, ?_⟩
          · rw [upd_same, take_all, List.map_map]; rfl
          · rw [List.all_map]
            have ea : (z.cps.toList.all (id ∘ dig)) = (figs z).all dig := by rw [hfig]; rfl
            rw [ea]
            cases hv : (figs z).all dig with
            | false =>
              rw [numF_non3 hv] at kk
              exact iteT kk
            | true =>
              refine iteF ⟨lY, ?_⟩
              obtain ⟨x, hx, ht⟩ := first_at (cs := z.cps.toList) (by rw [hfig]; exact hne)
              refine ⟨x, hx, ?_⟩
              rw [sign_zero]
              have hi' := int_text hz hne hv
              refine ite2 (fun h3 => ite2 (fun h4 => ?_) (fun h4 => ?_)) (fun h3 => ?_)
              · have h3 := of_decide_eq_true h3
                rw [numF_non4 (by rw [← hfig, ht, h3]) (of_decide_eq_false (by simpa using h4))] at kk
                exact kk
              · have hq : ¬ ((figs z).take 1 = [48] ∧ z ≠ Str.ofString "0") := fun q => q.2 (of_decide_eq_true (by simpa using h4))
                exact ⟨valS z, hi', by omega, num_end hne hle hv hq kk⟩
              · have hq : ¬ ((figs z).take 1 = [48] ∧ z ≠ Str.ofString "0") := fun q => by
                  have h3 : ¬ x = 48 := of_decide_eq_false (by simpa using h3)
                  have := q.1
                  rw [← hfig, ht] at this
                  simp at this
                  exact h3 this
                exact ⟨valS z, hi', by omega, num_end hne hle hv hq kk⟩
      · have h : decide (1 ≤ (z.length : Int)) = false := by simpa using h
        have h := of_decide_eq_false h
        have := k H (Same.refl H)
        rw [numF_non1 (by rw [← hfig]; exact nilOf (by omega))] at this
        exact this

theorem G_step_in (T : Txt w K mg A) : FnOk P w K mg base CX0 2 A.step_in A.fd_step_in ["text"] sp_step := by
  refine T.F_step_in.ok sc_step_in (fun vs H Q E h => ?_) (fun cdv Ar outer s H vs Q E hr h => ?_)
  · obtain ⟨z, n, rfl, _⟩ := h
    rfl
  · obtain ⟨z, n, rfl, rfl, h1, h2, hk, k⟩ := h
    refine ⟨_, (pss_cons (ps_set (i := 1) sc_step_in.nd rfl (by first | exact Or.inl rfl | exact Or.inr rfl) (pe_call (G_number_of T) (hr.mono (by decide)) rfl T.m_number_of T.k_number_of T.b_number_of .nil pass0 (pa_cons (pv 0) (pa_cons pe_int (pa_cons pe_int pa_nil))))) (pss_cons (ps_if (PW.pt (pw_or (pt_cmpR op_isN (pv 1) pe_non (nomark _)) (pw_or1 (pt_cmpR op_ne (pe_op op_and (pv 1) (pe_op op_sub (pv 1) pe_int)) pe_int (nomark _))))) (pss_one (ps_ret pe_non)) pss_nil) (pss_one (ps_ret (pv 1))))), ?_⟩
    walk_at "rd"
    have e : numF (Str.ofString (toString n)) 1 65536 = .int n := by rw [numF_str (by omega) (by omega), if_pos ⟨h1, h2⟩]
    rw [e]
    refine ⟨Nat.le_trans (num_len (by omega) (by omega)) (by decide), fun H' s' => ?_⟩
    rw [if_neg (by simp)]
    refine ⟨n, rfl, n, rfl, ?_⟩
    rw [if_neg (by rw [pow_and hk h2]; decide)]
    exact k H' s'
theorem G_WholeReading___init__ (T : Txt w K mg A) : FnOk P w K mg base CX0 1 A.WholeReading___init__ A.fd_WholeReading___init__ ["self"] (sp_rinit A) := by
  refine T.F_WholeReading___init__.ok sc_WholeReading___init__ (fun vs H Q E h => ?_) (fun cdv Ar outer s H vs Q E hr h => ?_)
  · obtain ⟨p, dx, rfl, _⟩ := h
    rfl
  · obtain ⟨p, dx, rfl, hp, k⟩ := h
    refine ⟨_, (pss_cons (ps_fld (pv 0) pe_non rfl) (pss_cons (ps_fld (pv 0) pe_non rfl) (pss_cons (ps_fld (pv 0) pe_non rfl) (pss_cons (ps_fld (pv 0) (pe_lst pa_nil) rfl) (pss_cons (ps_fld (pv 0) (pe_lst pa_nil) rfl) (pss_cons (ps_fld (pv 0) pe_non rfl) (pss_cons (ps_fld (pv 0) pe_int rfl) (pss_one (ps_fld (pv 0) pe_bl rfl))))))))), ?_⟩
    walk_at "rd"
    refine ⟨_, _, _, hp, T.cl_WholeReading, T.no_WholeReading_step, by show 0 < 1000; decide, _, _, _, upd_same, T.cl_WholeReading, T.no_WholeReading_size, by show 1 < 1000; decide, _, _, _, upd_same, T.cl_WholeReading, T.no_WholeReading_entry, by show 2 < 1000; decide, Nat.zero_le _, fun p1 hp1 => ?_⟩
    rw [upd_upd, upd_upd] at hp1 ⊢
    have n1 : p1 ≠ p := fun z => by rw [z, upd_same] at hp1; cases hp1
    have f1 : H p1 = none := by rw [upd_ne n1] at hp1; exact hp1
    refine ⟨_, _, _, by rw [upd_ne n1.symm]; exact upd_same, T.cl_WholeReading, T.no_WholeReading_parts, by show 3 < 1000; decide, Nat.zero_le _, fun p2 hp2 => ?_⟩
    have n2 : p2 ≠ p := fun z => by rw [z, upd_same] at hp2; cases hp2
    rw [upd_ne n2] at hp2
    have n3 : p2 ≠ p1 := fun z => by rw [z, upd_same] at hp2; cases hp2
    have f2 : H p2 = none := by rw [upd_ne n3, upd_ne n2] at hp2; exact hp2
    refine ⟨_, _, _, by rw [upd_ne n2.symm]; exact upd_same, T.cl_WholeReading, T.no_WholeReading_leaning, by show 4 < 1000; decide, _, _, _, upd_same, T.cl_WholeReading, T.no_WholeReading_last_words, by show 5 < 1000; decide, _, _, _, upd_same, T.cl_WholeReading, T.no_WholeReading_end, by show 6 < 1000; decide, _, _, _, upd_same, T.cl_WholeReading, T.no_WholeReading_behind_word, by show 7 < 1000; decide, ?_⟩
    rw [upd_upd, upd_upd, upd_upd]
    refine k p1 p2 _ n3.symm f1 f2 (fun x o nx e => ?_) ?_ ?_ upd_same
    · rw [upd_ne nx, upd_ne (ne_of_none e f2), upd_ne nx, upd_ne (ne_of_none e f1), upd_ne nx]; exact e
    · rw [upd_ne n1, upd_ne n3.symm, upd_ne n1]; exact upd_same
    · rw [upd_ne n2]; exact upd_same
theorem G_WholeReading_takes_part (T : Txt w K mg A) : FnOk P w K mg base CX0 2 A.WholeReading_takes_part A.fd_WholeReading_takes_part ["self", "text"] (sp_tpart A) := by
  refine T.F_WholeReading_takes_part.ok sc_WholeReading_takes_part (fun vs H Q E h => ?_) (fun cdv Ar outer s H vs Q E hr h => ?_)
  · obtain ⟨R, n, sz, xs, rfl, _⟩ := h
    rfl
  · obtain ⟨R, n, sz, xs, rfl, hR, hsz, hA, hl, he0, he, hn, hz, k⟩ := h
    refine ⟨_, (pss_cons (ps_set (i := 2) sc_WholeReading_takes_part.nd rfl (by first | exact Or.inl rfl | exact Or.inr rfl) (pe_call (G_number_of T) (hr.mono (by decide)) rfl T.m_number_of T.k_number_of T.b_number_of .nil pass0 (pa_cons (pv 1) (pa_cons (pe_fld (pv 0) rfl) (pa_cons (pe_fld (pv 0) rfl) pa_nil))))) (pss_cons (ps_if (pt_cmpR op_isN (pv 2) pe_non (nomark _)) (pss_one (ps_ret pe_bl)) pss_nil) (pss_cons (ps_fld (pv 0) (pv 2) rfl) (pss_cons (ps_fld (pv 0) (pe_lst pa_nil) rfl) (pss_cons (ps_expr (pe_bm PySem.F.plainAttrs_list PySem.F.slot_list_append PySem.F.type_list_append mt_append (pe_fld (pv 0) rfl) (pa_cons (pe_tup (pa_cons (pv 2) (pa_cons (pe_fld (pv 0) rfl) pa_nil))) pa_nil))) (pss_one (ps_ret pe_bl))))))), ?_⟩
    walk_at "rd"
    obtain ⟨p, dx, st, sz0, en, a, b, lw, e, bw⟩ := R
    dsimp only at *
    subst hsz
    have en : numF (Str.ofString (toString n)) e sz = .int n := by rw [numF_str (by omega) (by omega), if_pos ⟨he, hn⟩]
    refine ⟨_, _, _, hR, T.cl_WholeReading, T.no_WholeReading_end, _, rfl, _, _, _, hR, T.cl_WholeReading, T.no_WholeReading_size, _, rfl, _, rfl, _, rfl, Nat.le_trans (num_len (by omega) (by omega)) (by decide), fun H1 s1 => ?_⟩
    rw [en, if_neg (by simp)]
    have nap : a ≠ p := ne_of hA hR (by intro z; cases z)
    refine ⟨_, _, _, s1 _ _ hR, T.cl_WholeReading, T.no_WholeReading_end, by show 8 < 1000; decide, Nat.zero_le _, fun l hl1 => ?_⟩
    have nlp : l ≠ p := fun z => by rw [z, upd_same] at hl1; cases hl1
    have fl : H1 l = none := by rw [upd_ne nlp] at hl1; exact hl1
    have nal : a ≠ l := ne_of_none (s1 _ _ hA) fl
    have back : ∀ {x : Addr}, H1 x = none → H x = none := fun {x} h => by
      cases hh : H x with
      | none => rfl
      | some o => rw [s1 _ _ hh] at h; cases h
    refine ⟨_, _, _, by rw [upd_ne nlp.symm]; exact upd_same, T.cl_WholeReading, T.no_WholeReading_last_words, by show 8 < 1000; decide, _, _, _, upd_same, T.cl_WholeReading, T.no_WholeReading_parts, .ref a, rfl, .inl ⟨rfl, _, SqL.of (by rw [upd_ne nap, upd_ne nal, upd_ne nap]; exact s1 _ _ hA)⟩, _, _, _, upd_same, T.cl_WholeReading, T.no_WholeReading_last_words, _, rfl, by rw [sizeLine_eq]; decide, fun t ht => ?_⟩
    have ntp : t ≠ p := fun z => by rw [z, upd_same] at ht; cases ht
    rw [upd_ne ntp] at ht
    have ntl : t ≠ l := fun z => by rw [z, upd_same] at ht; cases ht
    have ft : H1 t = none := by rw [upd_ne ntl, upd_ne ntp] at ht; exact ht
    have nat' : a ≠ t := ne_of_none (s1 _ _ hA) ft
    refine ⟨a, rfl, xs, by rw [upd_ne nat', upd_ne nap, upd_ne nal, upd_ne nap]; exact s1 _ _ hA, by rw [sizeLine_eq]; omega, ?_⟩
    refine k l t _ ntl.symm (back fl) (back ft) (fun x o n1 n2 e => ?_) ?_ ?_ upd_same ?_
    · have e := s1 _ _ e
      rw [upd_ne n2, upd_ne (ne_of_none e ft), upd_ne n1, upd_ne (ne_of_none e fl), upd_ne n1]; exact e
    · rw [upd_ne nal.symm, upd_ne ntl.symm, upd_ne nlp]; exact upd_same
    · rw [upd_ne nat'.symm]; exact upd_same
    · rw [upd_ne nap.symm, upd_ne ntp.symm]; exact upd_same
theorem G_WholeReading_takes_word (T : Txt w K mg A) : FnOk P w K mg base CX0 2 A.WholeReading_takes_word A.fd_WholeReading_takes_word ["self", "text"] (sp_tword A) := by
  refine T.F_WholeReading_takes_word.ok sc_WholeReading_takes_word (fun vs H Q E h => ?_) (fun cdv Ar outer s H vs Q E hr h => ?_)
  · obtain ⟨R, n, sz, l, ws, rfl, _⟩ := h
    rfl
  · obtain ⟨R, n, sz, l, ws, rfl, hR, hsz, hlw, hl, hwl, h0, h1, he, k⟩ := h
    refine ⟨_, (pss_cons (ps_set (i := 2) sc_WholeReading_takes_word.nd rfl (by first | exact Or.inl rfl | exact Or.inr rfl) (pe_call (G_number_of T) (hr.mono (by decide)) rfl T.m_number_of T.k_number_of T.b_number_of .nil pass0 (pa_cons (pv 1) (pa_cons pe_int (pa_cons pe_int pa_nil))))) (pss_cons (ps_if (PW.pt (pw_or (pt_cmpR op_isN (pv 2) pe_non (nomark _)) (pw_or (pt_cmpR op_isN (pe_fld (pv 0) rfl) pe_non (nomark _)) (pw_or1 (pt_cmpR op_ge (pe_fld (pv 0) rfl) (pe_fld (pv 0) rfl) (nomark _)))))) (pss_one (ps_ret pe_bl)) pss_nil) (pss_cons (ps_expr (pe_bm PySem.F.plainAttrs_list PySem.F.slot_list_append PySem.F.type_list_append mt_append (pe_fld (pv 0) rfl) (pa_cons (pv 2) pa_nil))) (pss_cons (ps_fldaug (pv 0) pe_int in_add) (pss_one (ps_ret pe_bl)))))), ?_⟩
    walk_at "rd"
    obtain ⟨p, dx, st, sz0, en, a, b, lw, e, bw⟩ := R
    dsimp only at *
    subst hsz hlw
    have en : numF (Str.ofString (toString n)) 0 4294967295 = .int n := by rw [numF_str (by omega) (by omega), if_pos ⟨h0, h1⟩]
    rw [en]
    have hlp : l ≠ p := ne_of hl hR (by intro z; cases z)
    refine ⟨Nat.le_trans (num_len (by omega) (by omega)) (by decide), fun H1 s1 => ?_⟩
    rw [if_neg (by simp)]
    refine ⟨_, _, _, s1 _ _ hR, T.cl_WholeReading, T.no_WholeReading_last_words, .ref l, rfl, ?_⟩
    rw [if_neg (by simp)]
    refine ⟨_, _, _, s1 _ _ hR, T.cl_WholeReading, T.no_WholeReading_end, .int e, rfl, _, _, _, s1 _ _ hR, T.cl_WholeReading, T.no_WholeReading_size, .int sz, rfl, e, rfl, sz, rfl, ?_⟩
    rw [if_neg (by simp; omega)]
    refine ⟨_, _, _, s1 _ _ hR, T.cl_WholeReading, T.no_WholeReading_last_words, .ref l, rfl, .inl ⟨rfl, _, SqL.of (s1 _ _ hl)⟩, l, rfl, ws, s1 _ _ hl, by rw [sizeLine_eq]; omega, ?_⟩
    refine ⟨_, _, _, by rw [upd_ne hlp.symm]; exact s1 _ _ hR, T.cl_WholeReading, T.no_WholeReading_end, .int e, rfl, ?_⟩
    refine ⟨e, 1, rfl, rfl, _, _, by rw [upd_ne hlp.symm]; exact s1 _ _ hR, by show 8 < 1000; decide, ?_⟩
    refine k _ (fun x o n1 n2 q => ?_) ?_ upd_same
    · rw [upd_ne n1, upd_ne n2]; exact s1 _ _ q
    · rw [upd_ne hlp]; exact upd_same
theorem G_WholeReading_takes_lean (T : Txt w K mg A) : FnOk P w K mg base CX0 2 A.WholeReading_takes_lean A.fd_WholeReading_takes_lean ["self", "rule", "text"] (sp_tlean A) := by
  refine T.F_WholeReading_takes_lean.ok sc_WholeReading_takes_lean (fun vs H Q E h => ?_) (fun cdv Ar outer s H vs Q E hr h => ?_)
  · obtain ⟨R, r, n, xs, rfl, _⟩ := h
    rfl
  · obtain ⟨R, r, n, xs, rfl, hR, hr', h0, h1, hB, hl, k⟩ := h
    refine ⟨_, (pss_cons (ps_set (i := 3) sc_WholeReading_takes_lean.nd rfl (by first | exact Or.inl rfl | exact Or.inr rfl) (pe_call (G_number_of T) (hr.mono (by decide)) rfl T.m_number_of T.k_number_of T.b_number_of .nil pass0 (pa_cons (pv 2) (pa_cons (pe_un un_neg pe_int) (pa_cons pe_int pa_nil))))) (pss_cons (ps_if (PW.pt (pw_or (pt_cmpR (op_notInAK (K := K) rfl) (pv 1) (pe_glob (v := .ref A.o_LEANING_RULES) rfl T.g_LEANING_RULES rfl) (by with_unfolding_all rfl)) (pw_or1 (pt_cmpR op_isN (pv 3) pe_non (nomark _))))) (pss_one (ps_ret pe_bl)) pss_nil) (pss_cons (ps_expr (pe_bm PySem.F.plainAttrs_list PySem.F.slot_list_append PySem.F.type_list_append mt_append (pe_fld (pv 0) rfl) (pa_cons (pe_tup (pa_cons (pe_op op_sub (pe_fld (pv 0) rfl) pe_int) (pa_cons (pv 1) (pa_cons (pv 3) pa_nil)))) pa_nil))) (pss_one (ps_ret pe_bl))))), ?_⟩
    walk_at "rd"
    obtain ⟨p, dx, st, sz0, en, a, b, lw, e, bw⟩ := R
    dsimp only at *
    have en : numF (Str.ofString (toString n)) (-9999999999) 9999999999 = .int n := by rw [numF_str (by omega) (by omega), if_pos ⟨h0, h1⟩]
    rw [en]
    have hbp : b ≠ p := ne_of hB hR (by intro z; cases z)
    have hin : inV (V.str r) [V.str "whole", V.str "high", V.str "low"] = true := by
      rcases hr' with e | e | e <;> (rw [e]; decide +kernel)
    refine ⟨Nat.le_trans (num_len (by omega) (by omega)) (by decide), fun H1 s1 => ⟨_, .inr (T.q_LEANING_RULES H1), rfl, rfl, ?_⟩⟩
    rw [if_neg (by rw [hin]; decide), if_neg (by simp)]
    refine ⟨_, _, _, s1 _ _ hR, T.cl_WholeReading, T.no_WholeReading_leaning, .ref b, rfl, .inl ⟨rfl, _, SqL.of (s1 _ _ hB)⟩, _, _, _, s1 _ _ hR, T.cl_WholeReading, T.no_WholeReading_end, .int e, rfl, e, rfl, by rw [sizeLine_eq]; decide, fun t ht => ?_⟩
    have nbt : b ≠ t := ne_of_none (s1 _ _ hB) ht
    refine ⟨b, rfl, xs, by rw [upd_ne nbt]; exact s1 _ _ hB, by rw [sizeLine_eq]; omega, ?_⟩
    refine k t _ ?_ (fun x o nx e => ?_) upd_same ?_
    · cases hh : H t with
      | none => rfl
      | some o => rw [s1 _ _ hh] at ht; cases ht
    · rw [upd_ne nx, upd_ne (ne_of_none (s1 _ _ e) ht)]; exact s1 _ _ e
    · rw [upd_ne nbt.symm]; exact upd_same
theorem G_WholeReading_takes_whole (T : Txt w K mg A) : FnOk P w K mg base CX0 3 A.WholeReading_takes_whole A.fd_WholeReading_takes_whole ["self", "step", "size", "entry"] (sp_twhole A) := by
  refine T.F_WholeReading_takes_whole.ok sc_WholeReading_takes_whole (fun vs H Q E h => ?_) (fun cdv Ar outer s H vs Q E hr h => ?_)
  · obtain ⟨R, n, sz, en, rfl, _⟩ := h
    rfl
  · obtain ⟨R, n, sz, en, rfl, hR, n1, n2, npw, h0, h1, e0, e1, k⟩ := h
    refine ⟨_, (pss_cons (ps_fld (pv 0) (pe_call (G_step_in T) (hr.mono (by decide)) rfl T.m_step_in T.k_step_in T.b_step_in .nil pass0 (pa_cons (pv 1) pa_nil)) rfl) (pss_cons (ps_fld (pv 0) (pe_call (G_number_of T) (hr.mono (by decide)) rfl T.m_number_of T.k_number_of T.b_number_of .nil pass0 (pa_cons (pv 2) (pa_cons pe_int (pa_cons pe_int pa_nil)))) rfl) (pss_cons (ps_if (PW.pt (pw_or (pt_cmpR op_isN (pe_fld (pv 0) rfl) pe_non (nomark _)) (pw_or1 (pt_cmpR op_isN (pe_fld (pv 0) rfl) pe_non (nomark _))))) (pss_one (ps_ret pe_bl)) pss_nil) (pss_cons (ps_fld (pv 0) (pe_call (G_number_of T) (hr.mono (by decide)) rfl T.m_number_of T.k_number_of T.b_number_of .nil pass0 (pa_cons (pv 3) (pa_cons pe_int (pa_cons (pe_fld (pv 0) rfl) pa_nil)))) rfl) (pss_one (ps_ret (pe_cmpR op_notN (pe_fld (pv 0) rfl) pe_non (nomark _)))))))), ?_⟩
    walk_at "rd"
    obtain ⟨p, dx, st, sz0, en0, a, b, lw, e, bw⟩ := R
    dsimp only at *
    have q1 : numF (Str.ofString (toString sz)) 0 4294967295 = .int sz := by rw [numF_str (by omega) (by omega), if_pos ⟨h0, h1⟩]
    have q2 : numF (Str.ofString (toString en)) 0 sz = .int en := by rw [numF_str (by omega) (by omega), if_pos ⟨e0, e1⟩]
    rw [q1]
    refine ⟨n, rfl, n1, n2, npw, fun H1 s1 => ⟨_, _, _, s1 _ _ hR, T.cl_WholeReading, T.no_WholeReading_step, by show 8 < 1000; decide, Nat.le_trans (num_len (by omega) (by omega)) (by decide), fun H2 s2 => ?_⟩⟩
    refine ⟨_, _, _, s2 _ _ upd_same, T.cl_WholeReading, T.no_WholeReading_size, by show 8 < 1000; decide, _, _, _, upd_same, T.cl_WholeReading, T.no_WholeReading_step, .int n, rfl, ?_⟩
    rw [if_neg (by simp)]
    refine ⟨_, _, _, upd_same, T.cl_WholeReading, T.no_WholeReading_size, .int sz, rfl, ?_⟩
    rw [if_neg (by simp)]
    refine ⟨_, _, _, upd_same, T.cl_WholeReading, T.no_WholeReading_size, .int sz, rfl, sz, rfl, Nat.le_trans (num_len (by omega) (by omega)) (by decide), fun H3 s3 => ?_⟩
    rw [q2]
    refine ⟨_, _, _, s3 _ _ upd_same, T.cl_WholeReading, T.no_WholeReading_entry, by show 8 < 1000; decide, _, _, _, upd_same, T.cl_WholeReading, T.no_WholeReading_entry, .int en, rfl, ?_⟩
    refine k _ (fun x o nx q => ?_) upd_same
    rw [upd_ne nx]
    exact s3 _ _ (by rw [upd_ne nx]; exact s2 _ _ (by rw [upd_ne nx]; exact s1 _ _ q))
theorem G_WholeReading_takes (T : Txt w K mg A) : FnOk P w K mg base CX0 4 A.WholeReading_takes A.fd_WholeReading_takes ["self", "parts"] (sp_takes A) := by
  refine T.F_WholeReading_takes.ok sc_WholeReading_takes (fun vs H Q E h => ?_) (fun cdv Ar outer s H vs Q E hr h => ?_)
  · obtain ⟨H0, R, l, r, S, m, rfl, _⟩ := h
    rfl
  · obtain ⟨H0, R, l, r, S, m, rfl, hl, nla, hR, hm, hok, k⟩ := h
    refine ⟨_, (pss_cons (ps_set (i := 2) sc_WholeReading_takes.nd rfl (by first | exact Or.inl rfl | exact Or.inr rfl) (pe_ix (ix_listK (K := K) rfl) (pv 1) pe_int (fun _ _ => rfl))) (pss_cons (ps_set (i := 3) sc_WholeReading_takes.nd rfl (by first | exact Or.inl rfl | exact Or.inr rfl) (pe_fld (pv 0) rfl)) (pss_cons (ps_fld (pv 0) (pe_cmpR op_eq (pv 2) pe_str (nomark _)) rfl) (pss_cons (ps_if (PW.pt (pw_or (pt_cmpR op_ne (pe_callB (call_lenK (K := K) rfl) (by rfl) T.n_len bt_len (pa_cons (pv 1) pa_nil)) (pe_kget (pe_glob (v := .ref A.o_HOW_MANY_PARTS) rfl T.g_HOW_MANY_PARTS rfl) T.q_HOW_MANY_PARTS (pv 2) ⟨rfl, rfl, rfl, rfl⟩) (nomark _)) (pw_or1 (pt_cmpR op_ne (pe_cmpR op_eq (pv 2) pe_str (nomark _)) (pe_cmpR op_isN (pe_fld (pv 0) rfl) pe_non (nomark _)) (nomark _))))) (pss_one (ps_ret pe_bl)) pss_nil) (pss_cons (ps_if (pt_cmpR op_eq (pv 2) pe_str (nomark _)) (pss_one (ps_ret (pe_meth (pv 0) T.cl_WholeReading T.me_WholeReading_takes_whole (G_WholeReading_takes_whole T) (hr.mono (by decide)) T.b_WholeReading_takes_whole .nil pass0 (pa_cons (pe_ix (ix_listK (K := K) rfl) (pv 1) pe_int (fun _ _ => rfl)) (pa_cons (pe_ix (ix_listK (K := K) rfl) (pv 1) pe_int (fun _ _ => rfl)) (pa_cons (pe_ix (ix_listK (K := K) rfl) (pv 1) pe_int (fun _ _ => rfl)) pa_nil)))))) pss_nil) (pss_cons (ps_if (pt_cmpR op_eq (pv 2) pe_str (nomark _)) (pss_one (ps_ret (pe_meth (pv 0) T.cl_WholeReading T.me_WholeReading_takes_part (G_WholeReading_takes_part T) (hr.mono (by decide)) T.b_WholeReading_takes_part .nil pass0 (pa_cons (pe_ix (ix_listK (K := K) rfl) (pv 1) pe_int (fun _ _ => rfl)) pa_nil)))) pss_nil) (pss_cons (ps_if (pt_cmpR op_eq (pv 2) pe_str (nomark _)) (pss_one (ps_ret (pe_meth (pv 0) T.cl_WholeReading T.me_WholeReading_takes_word (G_WholeReading_takes_word T) (hr.mono (by decide)) T.b_WholeReading_takes_word .nil pass0 (pa_cons (pe_ix (ix_listK (K := K) rfl) (pv 1) pe_int (fun _ _ => rfl)) pa_nil)))) pss_nil) (pss_one (ps_ret (pe_and (pv 3) (pe_one (pe_meth (pv 0) T.cl_WholeReading T.me_WholeReading_takes_lean (G_WholeReading_takes_lean T) (hr.mono (by decide)) T.b_WholeReading_takes_lean .nil pass0 (pa_cons (pe_ix (ix_listK (K := K) rfl) (pv 1) pe_int (fun _ _ => rfl)) (pa_cons (pe_ix (ix_listK (K := K) rfl) (pv 1) pe_int (fun _ _ => rfl)) pa_nil)))))))))))))), ?_⟩
    walk_at "rd"
    have hlp : l ≠ R.p := ne_of hl hR.top (by intro z; cases z)
    have l1 : ∀ o, upd H R.p o l = some (.lst (r.parts.map V.str)) := fun o => by rw [upd_ne hlp]; exact hl
    cases r with
    | part n =>
      obtain ⟨q, hq, w1, w2, w3⟩ := hok
      have hst : R.st = .int q.1 := by have := congrArg Prod.fst hR.st; unfold stV at this; rw [hq] at this; exact this
      have hsz : R.sz = .int q.2.1 := by have := congrArg (fun z => z.2.1) hR.st; unfold stV at this; rw [hq] at this; exact this
      have vp : valV [(Sum.inr (Str.ofString "whole"), V.int 4), (Sum.inr (Str.ofString "part"), V.int 2), (Sum.inr (Str.ofString "word"), V.int 2), (Sum.inr (Str.ofString "lean"), V.int 3)] (Sum.inr (Str.ofString "part") : Key) = some (.int 2) := by kernel_rfl
      have c1 : decide (V.str (Str.ofString "part") = V.str (Str.ofString "word")) = false := by decide +kernel
      have c2 : decide (V.str (Str.ofString "part") = V.str (Str.ofString "whole")) = false := by decide +kernel
      refine ⟨_, SqL.of hl, _, rfl, _, _, _, hR.top, T.cl_WholeReading, T.no_WholeReading_behind_word, .bl R.bw, rfl, rfl, _, _, _, hR.top, T.cl_WholeReading, T.no_WholeReading_behind_word, by show 8 < 1000; decide, _, .inl ⟨_, SqL.of (l1 _), rfl⟩, Sum.inr "part", rfl, ?_⟩
      rw [vp, c1]
      refine ⟨rfl, ?_⟩
      rw [if_neg (by show ¬ (!decide (V.int 2 = V.int 2)) = true; simp)]
      refine ⟨rfl, _, _, _, upd_same, T.cl_WholeReading, T.no_WholeReading_step, R.st, rfl, ?_⟩
      rw [c2, hst, if_neg (by simp)]
      refine ⟨rfl, ?_⟩
      have O := hR.bwd false
      have lq := l1 (.ins A.c_WholeReading R.dx (Rdg.fs { R with bw := false }))
      rw [show putF (Str.ofString "behind_word") (V.bl false) R.fs = Rdg.fs { R with bw := false } from rfl]
      generalize upd H R.p (.ins A.c_WholeReading R.dx (Rdg.fs { R with bw := false })) = H1 at *
      obtain ⟨qs, q1, q2, q3, q4, q5⟩ := O.ps
      obtain ⟨ts, t1, t2, t3⟩ := O.ls
      obtain ⟨b1, b2, b3⟩ := O.n1
      have ee := hR.e
      have e0 := hR.e0
      dsimp only at q1 q2 q4 q5 t1 t2 t3 b1 b2 b3
      rw [if_neg (by simp)]
      refine ⟨rfl, ?_⟩
      rw [if_pos (by simp)]
      refine ⟨_, _, O.top, rfl, _, SqL.of lq, _, rfl, { R with bw := false }, rfl, n, rfl, O.top, _, hsz, _, q2, by rw [List.length_map]; omega, by show 0 ≤ R.e; omega, by show R.e ≤ n; omega, w2, w3, fun l' t H' nlt fl ft fr a1 a2 a3 a4 => ?_⟩
      exact k { R with bw := false, e := n, lw := .ref l' } H' rfl rfl rfl (O.part (by omega) q2 nlt fl ft fr a1 a2 a3 a4)
    | word n =>
      obtain ⟨q, hq, w0, w1, w2, w3⟩ := hok
      have hst : R.st = .int q.1 := by have := congrArg Prod.fst hR.st; unfold stV at this; rw [hq] at this; exact this
      have hsz : R.sz = .int q.2.1 := by have := congrArg (fun z => z.2.1) hR.st; unfold stV at this; rw [hq] at this; exact this
      have vp : valV [(Sum.inr (Str.ofString "whole"), V.int 4), (Sum.inr (Str.ofString "part"), V.int 2), (Sum.inr (Str.ofString "word"), V.int 2), (Sum.inr (Str.ofString "lean"), V.int 3)] (Sum.inr (Str.ofString "word") : Key) = some (.int 2) := by kernel_rfl
      have c1 : decide (V.str (Str.ofString "word") = V.str (Str.ofString "word")) = true := by decide +kernel
      have c2 : decide (V.str (Str.ofString "word") = V.str (Str.ofString "whole")) = false := by decide +kernel
      refine ⟨_, SqL.of hl, _, rfl, _, _, _, hR.top, T.cl_WholeReading, T.no_WholeReading_behind_word, .bl R.bw, rfl, rfl, _, _, _, hR.top, T.cl_WholeReading, T.no_WholeReading_behind_word, by show 8 < 1000; decide, _, .inl ⟨_, SqL.of (l1 _), rfl⟩, Sum.inr "word", rfl, ?_⟩
      rw [vp, c1]
      refine ⟨rfl, ?_⟩
      rw [if_neg (by show ¬ (!decide (V.int 2 = V.int 2)) = true; simp)]
      refine ⟨rfl, _, _, _, upd_same, T.cl_WholeReading, T.no_WholeReading_step, R.st, rfl, ?_⟩
      rw [c2, hst, if_neg (by simp)]
      refine ⟨rfl, ?_⟩
      have O := hR.bwd true
      have lq := l1 (.ins A.c_WholeReading R.dx (Rdg.fs { R with bw := true }))
      rw [show putF (Str.ofString "behind_word") (V.bl true) R.fs = Rdg.fs { R with bw := true } from rfl]
      generalize upd H R.p (.ins A.c_WholeReading R.dx (Rdg.fs { R with bw := true })) = H1 at *
      obtain ⟨qs, q1, q2, q3, q4, q5⟩ := O.ps
      obtain ⟨ts, t1, t2, t3⟩ := O.ls
      obtain ⟨b1, b2, b3⟩ := O.n1
      have ee := hR.e
      have e0 := hR.e0
      dsimp only at q1 q2 q4 q5 t1 t2 t3 b1 b2 b3
      have c3 : decide (V.str (Str.ofString "word") = V.str (Str.ofString "part")) = false := by decide +kernel
      rw [if_neg (by simp)]
      refine ⟨rfl, ?_⟩
      rw [c3, if_neg (by simp)]
      refine ⟨rfl, ?_⟩
      rw [if_pos (by simp)]
      have qne : qs ≠ [] := fun z => by rw [z] at q1; exact w0 (List.eq_nil_of_length_eq_zero q1.symm)
      have el : qs.getLast? = some (qs.getLast qne) := List.getLast?_eq_some_getLast qne
      generalize qs.getLast qne = u at el
      rw [el] at q5
      have hu : ∃ x ∈ S.ps, H1 u.2 = some (.lst (x.2.map V.int)) := by
        obtain ⟨i, hi⟩ := List.getElem?_of_mem (List.mem_of_getLast? el)
        have hi2 : i < S.ps.length := by rw [← q1]; exact (List.getElem?_eq_some_iff.mp hi).1
        exact ⟨S.ps[i], List.getElem_mem hi2, (q4 i u S.ps[i] hi (List.getElem?_eq_getElem hi2)).2.1⟩
      obtain ⟨x, hx, hu⟩ := hu
      have hb := b3 x hx
      refine ⟨_, _, O.top, rfl, _, SqL.of lq, _, rfl, { R with bw := true }, rfl, n, rfl, O.top, _, hsz, _, q5, _, hu, by rw [List.length_map]; omega, w1, w2, by show R.e < _; omega, fun H' fr a1 a2 => ?_⟩
      exact k { R with bw := true, e := R.e + 1 } H' rfl rfl rfl (O.word w0 q5 hu fr a1 a2)
    | lean r n =>
      obtain ⟨w0, w1, w2, w3, w4⟩ := hok
      obtain ⟨q, hq⟩ := Option.ne_none_iff_exists'.mp w0
      have hst : R.st = .int q.1 := by have := congrArg Prod.fst hR.st; unfold stV at this; rw [hq] at this; exact this
      have hsz : R.sz = .int q.2.1 := by have := congrArg (fun z => z.2.1) hR.st; unfold stV at this; rw [hq] at this; exact this
      have vp : valV [(Sum.inr (Str.ofString "whole"), V.int 4), (Sum.inr (Str.ofString "part"), V.int 2), (Sum.inr (Str.ofString "word"), V.int 2), (Sum.inr (Str.ofString "lean"), V.int 3)] (Sum.inr (Str.ofString "lean") : Key) = some (.int 3) := by kernel_rfl
      have c1 : decide (V.str (Str.ofString "lean") = V.str (Str.ofString "word")) = false := by decide +kernel
      have c2 : decide (V.str (Str.ofString "lean") = V.str (Str.ofString "whole")) = false := by decide +kernel
      refine ⟨_, SqL.of hl, _, rfl, _, _, _, hR.top, T.cl_WholeReading, T.no_WholeReading_behind_word, .bl R.bw, rfl, rfl, _, _, _, hR.top, T.cl_WholeReading, T.no_WholeReading_behind_word, by show 8 < 1000; decide, _, .inl ⟨_, SqL.of (l1 _), rfl⟩, Sum.inr "lean", rfl, ?_⟩
      rw [vp, c1]
      refine ⟨rfl, ?_⟩
      rw [if_neg (by show ¬ (!decide (V.int 3 = V.int 3)) = true; simp)]
      refine ⟨rfl, _, _, _, upd_same, T.cl_WholeReading, T.no_WholeReading_step, R.st, rfl, ?_⟩
      rw [c2, hst, if_neg (by simp)]
      refine ⟨rfl, ?_⟩
      have O := hR.bwd false
      have lq := l1 (.ins A.c_WholeReading R.dx (Rdg.fs { R with bw := false }))
      rw [show putF (Str.ofString "behind_word") (V.bl false) R.fs = Rdg.fs { R with bw := false } from rfl]
      generalize upd H R.p (.ins A.c_WholeReading R.dx (Rdg.fs { R with bw := false })) = H1 at *
      obtain ⟨qs, q1, q2, q3, q4, q5⟩ := O.ps
      obtain ⟨ts, t1, t2, t3⟩ := O.ls
      obtain ⟨b1, b2, b3⟩ := O.n1
      have ee := hR.e
      have e0 := hR.e0
      dsimp only at q1 q2 q4 q5 t1 t2 t3 b1 b2 b3
      have c3 : decide (V.str (Str.ofString "lean") = V.str (Str.ofString "part")) = false := by decide +kernel
      rw [if_neg (by simp)]
      refine ⟨rfl, ?_⟩
      rw [c3, if_neg (by simp)]
      refine ⟨rfl, ?_⟩
      rw [if_neg (by simp)]
      refine ⟨true, by rw [hR.bw, w1], ?_⟩
      rw [if_pos rfl]
      refine ⟨_, _, O.top, rfl, _, SqL.of lq, _, rfl, _, SqL.of lq, _, rfl, { R with bw := false }, rfl, r, rfl, n, rfl, O.top, w2, w3, w4, _, t2, by rw [List.length_map]; omega, fun t H' ft fr a1 a2 => ?_⟩
      exact k { R with bw := false } H' rfl rfl rfl (O.lean t2 ft fr a1 a2)
    | whole n sz en =>
      obtain ⟨hq, w1, w2, w3, w4, w5, w6, w7⟩ := hok
      have hst : R.st = .non := by have := congrArg Prod.fst hR.st; unfold stV at this; rw [hq] at this; exact this
      have vp : valV [(Sum.inr (Str.ofString "whole"), V.int 4), (Sum.inr (Str.ofString "part"), V.int 2), (Sum.inr (Str.ofString "word"), V.int 2), (Sum.inr (Str.ofString "lean"), V.int 3)] (Sum.inr (Str.ofString "whole") : Key) = some (.int 4) := by kernel_rfl
      have c1 : decide (V.str (Str.ofString "whole") = V.str (Str.ofString "word")) = false := by decide +kernel
      have c2 : decide (V.str (Str.ofString "whole") = V.str (Str.ofString "whole")) = true := by decide +kernel
      refine ⟨_, SqL.of hl, _, rfl, _, _, _, hR.top, T.cl_WholeReading, T.no_WholeReading_behind_word, .bl R.bw, rfl, rfl, _, _, _, hR.top, T.cl_WholeReading, T.no_WholeReading_behind_word, by show 8 < 1000; decide, _, .inl ⟨_, SqL.of (l1 _), rfl⟩, Sum.inr "whole", rfl, ?_⟩
      rw [vp, c1]
      refine ⟨rfl, ?_⟩
      rw [if_neg (by show ¬ (!decide (V.int 4 = V.int 4)) = true; simp)]
      refine ⟨rfl, _, _, _, upd_same, T.cl_WholeReading, T.no_WholeReading_step, R.st, rfl, ?_⟩
      rw [c2, hst, if_neg (by simp)]
      refine ⟨rfl, ?_⟩
      have O := hR.bwd false
      have lq := l1 (.ins A.c_WholeReading R.dx (Rdg.fs { R with bw := false }))
      rw [show putF (Str.ofString "behind_word") (V.bl false) R.fs = Rdg.fs { R with bw := false } from rfl]
      generalize upd H R.p (.ins A.c_WholeReading R.dx (Rdg.fs { R with bw := false })) = H1 at *
      obtain ⟨qs, q1, q2, q3, q4, q5⟩ := O.ps
      obtain ⟨ts, t1, t2, t3⟩ := O.ls
      obtain ⟨b1, b2, b3⟩ := O.n1
      have ee := hR.e
      have e0 := hR.e0
      dsimp only at q1 q2 q4 q5 t1 t2 t3 b1 b2 b3
      rw [if_pos (by simp)]
      refine ⟨_, _, O.top, rfl, _, SqL.of lq, _, rfl, _, SqL.of lq, _, rfl, _, SqL.of lq, _, rfl, ?_⟩
      refine ⟨{ R with bw := false }, rfl, n, rfl, sz, rfl, en, rfl, O.top, w1, w2, w3, w4, w5, w6, w7, fun H' fr a1 => ?_⟩
      exact k { R with bw := false, st := .int n, sz := .int sz, en := .int en } H' rfl rfl rfl (O.whole fr a1)
theorem G_read_whole (T : Txt w K mg A) : FnOk P w K mg base CX0 5 A.read_whole A.fd_read_whole ["text"] (sp_read A) := by
  refine T.F_read_whole.ok sc_read_whole (fun vs H Q E h => ?_) (fun cdv Ar outer s H vs Q E hr h => ?_)
  · obtain ⟨rows, rfl, _⟩ := h
    rfl
  · obtain ⟨rows, rfl, hne, hlen, hrl, hfr, hok, hzl, k⟩ := h
    refine ⟨_, (pss_cons (ps_set (i := 1) sc_read_whole.nd rfl (by first | exact Or.inl rfl | exact Or.inr rfl) (pe_make0 T.mk_WholeReading (G_WholeReading___init__ T) (hr.mono (by decide)) rfl T.mc_WholeReading T.b_WholeReading___init__ .nil pass0 )) (pss_cons (ps_for PassesOwn.never rfl (pi_enum1 (K := K) rfl rfl T.n_enumerate (pa_cons (pe_bm PySem.F.plainAttrs_str PySem.F.slot_str_split PySem.F.type_str_split mt_split (pv 0) (pa_cons pe_str pa_nil)) pa_nil)) (pg_tupK (K := K) (n := 2) rfl rfl (pgs_cons (pg_name (i := 2) sc_read_whole.nd rfl (by first | exact Or.inl rfl | exact Or.inr rfl)) (pgs_cons (pg_name (i := 3) sc_read_whole.nd rfl (by first | exact Or.inl rfl | exact Or.inr rfl)) pgs_nil))) (pss_one (ps_if (pt_not (pt_val (pe_meth (pv 1) T.cl_WholeReading T.me_WholeReading_takes (G_WholeReading_takes T) (hr.mono (by decide)) T.b_WholeReading_takes .nil pass0 (pa_cons (pe_bm PySem.F.plainAttrs_str PySem.F.slot_str_split PySem.F.type_str_split mt_split (pv 3) (pa_cons pe_str pa_nil)) pa_nil)))) (pss_one ps_never) pss_nil))) (pss_one (ps_ret (pe_tup (pa_cons (pe_fld (pv 1) rfl) (pa_cons (pe_fld (pv 1) rfl) (pa_cons (pe_fld (pv 1) rfl) (pa_cons (pe_fld (pv 1) rfl) (pa_cons (pe_fld (pv 1) rfl) pa_nil)))))))))), ?_⟩
    walk_at "rd"
    have es : Txt.split (Txt.join (Str.ofString "\n") (List.map rowT rows)) (Str.ofString "\n") = rows.map rowT := by
      rw [nl_one]
      exact split_join (by simpa using hne) fun p hp => by obtain ⟨r, hr, rfl⟩ := List.mem_map.mp hp; exact (hfr r hr).1
    intro x dx fx fdx ndx
    refine ⟨dx, upd_same, fun a b H1 nab fa fb fr ha hb hx => ⟨rfl, by decide +kernel, hzl, fun l fl => ?_⟩⟩
    rw [es]
    have nxa : a ≠ x := fun z => by rw [z, upd_same] at fa; cases fa
    have nxb : b ≠ x := fun z => by rw [z, upd_same] at fb; cases fb
    have fa' : H a = none := by
      rw [upd_ne nxa] at fa
      by_cases z : a = dx
      · rw [z]; exact fdx
      · rw [upd_ne z] at fa; exact fa
    have fb' : H b = none := by
      rw [upd_ne nxb] at fb
      by_cases z : b = dx
      · rw [z]; exact fdx
      · rw [upd_ne z] at fb; exact fb
    have s1 : Same H H1 := fun y o e => fr _ _ (ne_of_none e fx) (by rw [upd_ne (ne_of_none e fx), upd_ne (ne_of_none e fdx)]; exact e)
    have fl0 : H l = none := by
      cases hh : H l with
      | none => rfl
      | some o => rw [s1 _ _ hh] at fl; cases fl
    have nlx : l ≠ x := Ne.symm (ne_of_none hx fl)
    have nla : l ≠ a := Ne.symm (ne_of_none ha fl)
    have nlb : l ≠ b := Ne.symm (ne_of_none hb fl)
    have O0 : Rdg.Ok A (upd H l (.lst ((rows.map rowT).map V.str))) (upd H1 l (.lst ((rows.map rowT).map V.str))) ⟨x, dx, .non, .non, .non, a, b, .non, 0, false⟩ (runR rows 0) 0 := by
      refine ⟨fun y o e => ?_, ⟨by rw [upd_ne nlx.symm]; exact fx, by rw [upd_ne nla.symm]; exact fa', by rw [upd_ne nlb.symm]; exact fb'⟩, by rw [upd_ne nlx.symm]; exact hx, rfl, rfl, Int.le_refl _, rfl, nab, ⟨[], rfl, by rw [upd_ne nla.symm]; exact ha, by simp, fun i q y h => by simp at h, rfl⟩, ⟨[], rfl, by rw [upd_ne nlb.symm]; exact hb, fun i q y h => by simp at h⟩, ⟨Nat.zero_le _, Nat.zero_le _, fun y hy => by cases hy⟩⟩
      by_cases z : y = l
      · rw [z, upd_same] at e ⊢; exact e
      · rw [upd_ne z] at e ⊢; exact s1 _ _ e
    have sH : Same H (upd H l (.lst ((rows.map rowT).map V.str))) := same_new fl0
    have lH : upd H l (.lst ((rows.map rowT).map V.str)) l = some (.lst ((rows.map rowT).map V.str)) := upd_same
    generalize upd H l (.lst ((rows.map rowT).map V.str)) = H0 at O0 sH lH
    refine ForE1.of (xs := (rows.map rowT).map V.str) (fun i σ H' => ∃ (R : Rdg) (b2 b3 : Option V), σ = [some (.str (Txt.join (Str.ofString "\n") (List.map rowT rows))), some (.ref R.p), b2, b3] ∧ Rdg.Ok A H0 H' R (runR rows i) i)
      ⟨_, _, _, rfl, O0⟩ ?_ ?_ ?_
    · rintro i σ H' hi ⟨R, b2, b3, rfl, O⟩
      exact SqL.of (O.sm _ _ lH)
    · rintro i v σ H' q hv ⟨R, b2, b3, rfl, O⟩ fq
      rw [List.map_map, List.getElem?_map] at hv
      obtain ⟨r, hr, rfl⟩ := Option.map_eq_some_iff.mp hv
      have hmem := List.mem_of_getElem? hr
      have hi : i < rows.length := (List.getElem?_eq_some_iff.mp hr).1
      walk_at "rd"
      have s2 := same_new (o := HO.tup [V.int ((i + 1 : Nat) : Int), (V.str ∘ rowT) r]) fq
      refine ⟨_, SqT.of upd_same, rfl, _, _, rfl, _, _, rfl, rfl, _, _, s2 _ _ O.top, rfl, rfl, rowT r, rfl, by decide +kernel, Nat.lt_of_le_of_lt (hrl r hmem) (by rw [sizeLine_eq]; decide), fun l' fl' => ?_⟩
      have ep : Txt.split (rowT r) (Str.ofString " ") = r.parts := by
        unfold rowT
        rw [sp_one]
        exact split_join r.ne (hfr r hmem).2
      have s3 := same_new (o := HO.lst (List.map V.str (Txt.split (rowT r) (Str.ofString " ")))) fl'
      have O2 := O.mono (s2.trans s3)
      have nla' : l' ≠ R.a := by
        obtain ⟨qs, _, q2, _⟩ := O.ps
        exact Ne.symm (ne_of_none (s2 _ _ q2) fl')
      refine ⟨H0, R, rfl, r, by rw [upd_same, ep], nla', runR rows i, i, O2, by omega, hok i r hr, fun R' H'' e1 e2 e3 O3 => ⟨R', e1.symm, ?_⟩⟩
      rw [runR_succ hr]
      exact O3
    · rintro σ H' ⟨R, b2, b3, rfl, O⟩
      rw [List.length_map, List.length_map] at O
      walk_at "rd"
      refine ⟨_, _, _, O.top, T.cl_WholeReading, T.no_WholeReading_step, R.st, rfl, _, _, _, O.top, T.cl_WholeReading, T.no_WholeReading_size, R.sz, rfl, _, _, _, O.top, T.cl_WholeReading, T.no_WholeReading_entry, R.en, rfl, _, _, _, O.top, T.cl_WholeReading, T.no_WholeReading_parts, .ref R.a, rfl, _, _, _, O.top, T.cl_WholeReading, T.no_WholeReading_leaning, .ref R.b, rfl, by rw [sizeLine_eq]; decide, fun p fp => ?_⟩
      have s2 := same_new (o := HO.tup [R.st, R.sz, R.en, .ref R.a, .ref R.b]) fp
      exact k p R _ ((sH.trans O.sm).trans s2) upd_same ((O.mono s2).below sH)
theorem rowT_part (n : Int) : rowT (.part n) = Str.ofString "part " ++ nS n := by
  unfold rowT
  rw [txt_join, show Str.ofString "part " = Str.ofString "part" ++ Str.ofString " " from by decide +kernel]
  rfl
theorem rowT_word (n : Int) : rowT (.word n) = Str.ofString "word " ++ nS n := by
  unfold rowT
  rw [txt_join, show Str.ofString "word " = Str.ofString "word" ++ Str.ofString " " from by decide +kernel]
  rfl
theorem rowT_lean (r : Str) (n : Int) : rowT (.lean r n) = Str.ofString "lean " ++ r ++ Str.ofString " " ++ nS n := by
  unfold rowT
  rw [txt_join, show Str.ofString "lean " = Str.ofString "lean" ++ Str.ofString " " from by decide +kernel]
  show Str.ofString "lean" ++ Str.ofString " " ++ (r ++ Str.ofString " " ++ nS n) = _
  simp only [Str.append_assoc]
theorem rowT_whole (n sz en : Int) : rowT (.whole n sz en) = Str.ofString "whole " ++ nS n ++ Str.ofString " " ++ nS sz ++ Str.ofString " " ++ nS en := by
  unfold rowT
  rw [txt_join, show Str.ofString "whole " = Str.ofString "whole" ++ Str.ofString " " from by decide +kernel]
  show Str.ofString "whole" ++ Str.ofString " " ++ (nS n ++ Str.ofString " " ++ (nS sz ++ Str.ofString " " ++ nS en)) = _
  simp only [Str.append_assoc]
theorem nS_len {x : Int} (h0 : -9999999999 ≤ x) (h1 : x ≤ 9999999999) : (nS x).length ≤ 241 := by
  have := num_len (n := x) (by omega) (by omega)
  exact Nat.le_trans this (by decide)
theorem Row.part_good {r : Row} (h : r.Small) : ∀ p ∈ r.parts, p.length ≤ 241 ∧ 10 ∉ p.cps.toList ∧ 32 ∉ p.cps.toList := by
  have num : ∀ x : Int, -9999999999 ≤ x → x ≤ 9999999999 → (nS x).length ≤ 241 ∧ 10 ∉ (nS x).cps.toList ∧ 32 ∉ (nS x).cps.toList := fun x h0 h1 => ⟨nS_len h0 h1, int_text_free' 10 (by decide) x, int_text_free' 32 (by decide) x⟩
  cases r with
  | whole n sz en =>
    obtain ⟨h1, h2, h3⟩ := h
    intro p hp
    simp only [Row.parts, List.mem_cons, List.not_mem_nil, or_false] at hp
    rcases hp with rfl | rfl | rfl | rfl
    · decide +kernel
    · exact num _ (by omega) (by omega)
    · exact num _ (by omega) (by omega)
    · exact num _ (by omega) (by omega)
  | part n =>
    obtain ⟨h1, h2⟩ := h
    intro p hp
    simp only [Row.parts, List.mem_cons, List.not_mem_nil, or_false] at hp
    rcases hp with rfl | rfl
    · decide +kernel
    · exact num _ (by omega) (by omega)
  | word n =>
    obtain ⟨h1, h2⟩ := h
    intro p hp
    simp only [Row.parts, List.mem_cons, List.not_mem_nil, or_false] at hp
    rcases hp with rfl | rfl
    · decide +kernel
    · exact num _ (by omega) (by omega)
  | lean r n =>
    obtain ⟨h0, h1, h2⟩ := h
    intro p hp
    simp only [Row.parts, List.mem_cons, List.not_mem_nil, or_false] at hp
    rcases hp with rfl | rfl | rfl
    · decide +kernel
    · rcases h0 with rfl | rfl | rfl <;> decide +kernel
    · exact num _ (by omega) (by omega)
theorem Row.good {r : Row} (h : r.Small) : (rowT r).length ≤ 1000 ∧ 10 ∉ (rowT r).cps.toList ∧ ∀ p ∈ r.parts, 32 ∉ p.cps.toList := by
  have g := Row.part_good h
  have l4 : r.parts.length ≤ 4 := by cases r <;> simp [Row.parts]
  have lb : (Str.ofString " ").length = 1 := by decide +kernel
  refine ⟨?_, fun hc => ?_, fun p hp => (g p hp).2.2⟩
  · have := join_le (sep := Str.ofString " ") (B := 241) fun t ht => (g t ht).1
    rw [lb] at this
    unfold rowT
    omega
  · unfold rowT at hc
    rw [txt_join, mem_join] at hc
    rcases hc with ⟨p, hp, hc⟩ | ⟨_, hc⟩
    · exact (g p hp).2.1 hc
    · revert hc; decide +kernel
theorem RunsTo.snoc {rows : List Row} {ps ps' : List (Int × List Int)} {ls ls' : List (Int × Str × Int)} {e e' : Int} {bw bw' : Bool} (h : RunsTo rows ps ls e bw) (he : e ≤ e') {r : Row}
    (t : ∀ q : Int × Int × Int, e' ≤ q.2.1 → q.2.1 ≤ 4294967295 → RS.Takes ⟨some q, ps, ls, e, bw⟩ r) (n : ∀ q, RS.next ⟨some q, ps, ls, e, bw⟩ r = ⟨some q, ps', ls', e', bw'⟩) : RunsTo (rows ++ [r]) ps' ls' e' bw' := by
  intro q h1 h2
  obtain ⟨f, g⟩ := h q (by omega) h2
  refine ⟨?_, fun i r' hr => ?_⟩
  · rw [List.foldl_append, f]; exact n q
  · rcases snoc_ix hr with ⟨a, b⟩ | ⟨a, b⟩
    · rw [List.take_append_of_le_length (by omega)]; exact g i r' b
    · subst a b
      rw [List.take_left', f]
      · exact t q h1 h2
      · rfl
theorem RunsTo.whole {rows : List Row} {ps : List (Int × List Int)} {ls : List (Int × Str × Int)} {e : Int} {bw : Bool} (h : RunsTo rows ps ls e bw) {n sz en : Int} (h1 : 1 ≤ n) (h2 : n ≤ 65536) (h3 : ∃ k : Nat, n = 2 ^ k) (h4 : 0 ≤ sz) (h5 : sz ≤ 4294967295) (h6 : 0 ≤ en) (h7 : en ≤ sz) (h8 : e ≤ sz) :
    (∀ (i : Nat) (r : Row), (Row.whole n sz en :: rows)[i]? = some r → (runR (Row.whole n sz en :: rows) i).Takes r) ∧ runR (Row.whole n sz en :: rows) (Row.whole n sz en :: rows).length = ⟨some (n, sz, en), ps, ls, e, bw⟩ := by
  obtain ⟨f, g⟩ := h (n, sz, en) h8 h5
  refine ⟨fun i r hr => ?_, ?_⟩
  · cases i with
    | zero =>
      cases hr
      exact ⟨rfl, h1, h2, h3, h4, h5, h6, h7⟩
    | succ i => exact g i r hr
  · unfold runR
    rw [List.take_length]
    exact f
theorem PutR.run {S S' : BS} {rs : List V} {rows : List Row} {bw : Bool} (h : PutR S S' rs) (hr : RunsTo rows (S.ps.map Prt.core) (S.ls.map Ln.core) S.e bw) (e0 : 0 ≤ S.e) (e1 : S'.e ≤ 4294967295) :
    ∃ (rows2 : List Row) (bw' : Bool), rs = rows2.map (fun r => V.str (rowT r)) ∧ (∀ r ∈ rows2, r.Small) ∧ rows2.length ≤ 2 ∧ RunsTo (rows ++ rows2) (S'.ps.map Prt.core) (S'.ls.map Ln.core) S'.e bw' := by
  rcases h with ⟨hrs, h1, h2, h3⟩ | ⟨u, h0, h1, h2, h3, h4, h5⟩
  · refine ⟨[.part S'.e], false, hrs, fun r hr => ?_, by simp, ?_⟩
    · rw [List.mem_singleton.mp hr]; exact ⟨by omega, e1⟩
    · rw [h2, h3]
      exact hr.snoc h1 (fun q a b => ⟨q, rfl, h1, a, b⟩) (fun q => rfl)
  · have s1 : RunsTo (rows ++ [.word u]) (S'.ps.map Prt.core) (S.ls.map Ln.core) S'.e true := by
      rw [h4]
      refine hr.snoc (by omega) (fun q a b => ⟨q, rfl, fun z => h0 (List.map_eq_nil_iff.mp z), h1, h2, by show S.e < _; omega⟩) (fun q => by rw [h3]; rfl)
    rcases h5 with ⟨hrs, h5⟩ | ⟨r, t, hrs, h5, h6, h7, h8⟩
    · refine ⟨[.word u], true, hrs, fun r hr => ?_, by simp, ?_⟩
      · rw [List.mem_singleton.mp hr]; exact ⟨h1, h2⟩
      · rw [h5]; exact s1
    · refine ⟨[.word u, .lean r t], false, hrs, fun r hr => ?_, by simp, ?_⟩
      · simp only [List.mem_cons, List.not_mem_nil, or_false] at hr
        rcases hr with rfl | rfl
        · exact ⟨h1, h2⟩
        · exact ⟨h5, h6, h7⟩
      · rw [show rows ++ [Row.word u, Row.lean r t] = rows ++ [Row.word u] ++ [Row.lean r t] by simp, h8]
        exact s1.snoc (Int.le_refl _) (fun q a b => ⟨fun z => (nomatch z), rfl, h5, h6, h7⟩) (fun q => by
          show RS.mk _ _ _ _ _ = _
          rw [show S'.e - 1 = S.e by omega])
theorem same_upd {H0 H : Hp} {L : Addr} {o : HO} (h : H0 L = none) (e : Same H0 H) : Same H0 (upd H L o) := fun b u q => by rw [upd_ne (ne_of_none q h)]; exact e b u q
theorem few_log {p : Int} (h : Few p) : p.natAbs.log2 < 240 := by
  unfold Few at h
  by_cases hz : p.natAbs = 0
  · rw [hz]; decide
  · exact (Nat.log2_lt (n := p.natAbs) (k := 240) hz).mpr (by omega)
theorem few_len {p : Int} (h : Few p) : (Str.ofString (toString p)).length ≤ 241 := by
  open PySem in
  rw [PySem.ofString_length]
  exact int_text_length_le (by decide) (few_log h)
theorem free_of {H : Hp} {p q : Addr} {o : HO} (h : upd H p o q = none) : q ≠ p ∧ H q = none := by
  have n : q ≠ p := fun e => by rw [e, upd_same] at h; cases h
  exact ⟨n, by rw [upd_ne n] at h; exact h⟩
theorem take_snoc {α : Type} {xs : List α} {i : Nat} {x : α} (h : xs[i]? = some x) : xs.take (i + 1) = xs.take i ++ [x] := by
  obtain ⟨hl, e⟩ := List.getElem?_eq_some_iff.mp h
  rw [List.take_succ_eq_append_getElem hl, e]
theorem PM.mono {H H' : Hp} {a : Addr} {ps : List Prt} (h : PM H a ps) (s : Same H H') : PM H' a ps :=
  { h with top := s _ _ h.top, at_ := fun x hx => ⟨s _ _ (h.at_ x hx).1, s _ _ (h.at_ x hx).2⟩ }
theorem LM.mono {H H' : Hp} {a : Addr} {ls : List Ln} (h : LM H a ls) (s : Same H H') : LM H' a ls := ⟨s _ _ h.top, fun x hx => s _ _ (h.at_ x hx)⟩
theorem BOk.mono {n : Nat} {H H' : Hp} {S : BS} (h : BOk n H S) (s : Same H H') : BOk n H' S := { h with pm := h.pm.mono s, lm := h.lm.mono s }
theorem WOk.mono {m : Int} {H H' : Hp} {W : Whl} {S : BS} (h : WOk m H W S) (s : Same H H') : WOk m H' W S := { h with top := s _ _ h.top, bok := h.bok.mono s }
theorem G__law_cell_at (T : Txt w K mg A) : FnOk P w K mg base CX0 1 A._law_cell_at A.fd__law_cell_at ["_law_script", "_law_k"] (sp_cellat K) := by
  refine T.F__law_cell_at.ok sc__law_cell_at (fun vs H Q E h => ?_) (fun cdv Ar outer s H vs Q E hr h => ?_)
  · obtain ⟨a, ns, k0, rfl, _⟩ := h
    rfl
  · obtain ⟨a, ns, k0, rfl, hl, h0, k⟩ := h
    refine ⟨_, (pss_cons (ps_if (pt_cmpR op_lt (pv 1) (pe_callB (call_lenK (K := K) rfl) (by rfl) T.n_len bt_len (pa_cons (pv 0) pa_nil)) (nomark _)) (pss_one (ps_ret (pe_ix (ix_listK (K := K) rfl) (pv 0) (pv 1) (fun _ _ => rfl)))) pss_nil) (pss_one (ps_ret pe_int))), ?_⟩
    walk_at "rd"
    refine ⟨_, .inl ⟨_, hl, rfl⟩, ite2 (fun h => ?_) (fun _ => k 0)⟩
    have h := of_decide_eq_true h
    obtain ⟨v, e, hm⟩ := atI_ex (xs := ns.map V.int) (i := k0) (by omega) h
    obtain ⟨m, _, rfl⟩ := List.mem_map.mp hm
    exact ⟨_, hl, _, e, k m⟩
theorem G__law_target_by (T : Txt w K mg A) : FnOk P w K mg base CX0 1 A._law_target_by A.fd__law_target_by ["_law_number"] sp_target := by
  refine T.F__law_target_by.ok sc__law_target_by (fun vs H Q E h => ?_) (fun cdv Ar outer s H vs Q E hr h => ?_)
  · obtain ⟨c, rfl, _⟩ := h
    rfl
  · obtain ⟨c, rfl, k⟩ := h
    refine ⟨_, (pss_cons (ps_if (pt_cmpR op_eq (pe_op op_mod (pv 0) pe_int) pe_int (nomark _)) (pss_one (ps_ret (pe_op op_sub (pe_op op_mod (pe_op op_fdiv (pv 0) pe_int) pe_int) pe_int))) pss_nil) (pss_cons (ps_if (pt_cmpR op_eq (pe_op op_mod (pv 0) pe_int) pe_int (nomark _)) (pss_one (ps_ret (pe_op op_sub (pe_op op_mod (pe_op op_mul (pv 0) pe_int) pe_int) pe_int))) pss_nil) (pss_one (ps_ret (pe_op op_sub (pe_op op_add (pe_op op_mul (pe_op op_sub (pe_op op_mod (pe_op op_fdiv (pv 0) pe_int) pe_int) pe_int) pe_int) (pe_op op_mod (pe_op op_fdiv (pv 0) pe_int) pe_int)) pe_int))))), ?_⟩
    walk_at "rd"
    refine ⟨by decide, ite2 (fun _ => ⟨⟨by decide, by decide⟩, by decide, k _ (by omega) (by omega)⟩) (fun _ => ⟨by decide, ite2 (fun _ => ⟨.inr ⟨by decide, by decide⟩, by decide, k _ (by omega) (by omega)⟩) (fun _ => ⟨⟨by decide, by decide⟩, by decide, .inr ⟨by decide, by decide⟩, ⟨by decide, by decide⟩, by decide, k _ (by omega) (by omega)⟩)⟩)⟩
theorem atI_last {α : Type} {xs : List α} {x : α} : atI (xs ++ [x]) (-1) = some x := by
  unfold atI ixN
  rw [if_neg (by decide), if_pos (by simp; omega)]
  show (xs ++ [x])[(-1 + ((xs ++ [x]).length : Int)).toNat]? = some x
  have e : (-1 + ((xs ++ [x]).length : Int)).toNat = xs.length := by simp; omega
  rw [e]; simp
noncomputable def Prt.d (x : Prt) : D := .tup [.int x.p, .lst (x.ws.map D.int)]
theorem dep_prt (x : Prt) : dep x.d ≤ 3 := by
  have h1 : depL (x.ws.map D.int) ≤ 0 := depL_le fun x _ => by simp [dep]
  simp only [Prt.d, dep, depL]
  omega
theorem PM.rep {H : Hp} {a : Addr} {ps : List Prt} (h : PM H a ps) : Rep K H (.lst (ps.map Prt.d)) (.ref a) := by
  simp only [Rep]
  refine ⟨_, _, rfl, SqL.of h.top, RepL.map fun x hx => ?_⟩
  simp only [Prt.d, Rep]
  refine ⟨_, _, rfl, SqT.of (h.at_ x hx).1, ?_⟩
  simp only [RepL, Rep]
  exact ⟨_, _, rfl, rfl, _, _, rfl, ⟨_, _, rfl, SqL.of (h.at_ x hx).2, RepL.map fun w _ => by simp [Rep]⟩, rfl⟩
theorem parts_nil {H : Hp} {a q : Addr} {ps : List Prt} {R : Bool → Hp → Prop} (h : PM H a ps) (hq : H q = none) (k1 : ps = [] → R true (upd H q (HO.lst []))) (k2 : ps ≠ [] → R false (upd H q (HO.lst []))) :
    rEqD K (V.ref a) (V.ref q) (upd H q (HO.lst [])) fun x H' => ∃ k, x = V.bl k ∧ R k H' := by
  refine ⟨ps.map Prt.d, [], .inl ⟨(h.mono (same_new hq)).rep, ⟨q, [], rfl, SqL.of upd_same, by simp [RepL]⟩⟩, Nat.le_trans (depL_le fun p _ => dep_prt p) (by decide), _, rfl, ?_⟩
  rw [deqL_nil]
  by_cases z : ps = []
  · rw [decide_eq_true (by rw [z]; rfl)]; exact k1 z
  · rw [decide_eq_false (fun e => z (List.map_eq_nil_iff.mp e))]; exact k2 z
theorem last_of {α : Type} {xs : List α} (h : xs ≠ []) : ∃ ys x, xs = ys ++ [x] := ⟨xs.dropLast, xs.getLast h, (List.dropLast_concat_getLast h).symm⟩
theorem endP_last (ys : List Prt) (x : Prt) : endP (ys ++ [x]) = x.p + x.ws.length := by unfold endP; rw [List.getLast?_append]; rfl
theorem G__law_end (T : Txt w K mg A) : FnOk P w K mg base CX0 1 A._law_end A.fd__law_end ["_law_parts"] sp_end := by
  refine T.F__law_end.ok sc__law_end (fun vs H Q E h => ?_) (fun cdv Ar outer s H vs Q E hr h => ?_)
  · obtain ⟨S, n, rfl, _⟩ := h
    rfl
  · obtain ⟨S, n, rfl, B, k⟩ := h
    refine ⟨_, (pss_cons (ps_if (pt_cmpR (op_eqDK hr.units (K := K) rfl) (pv 0) (pe_lst pa_nil) (nomark _)) (pss_one (ps_ret pe_int)) pss_nil) (pss_one (ps_ret (pe_op op_add (pe_ix (ix_tupK (K := K) rfl) (pe_ix (ix_listK (K := K) rfl) (pv 0) (pe_un un_neg pe_int) (fun _ _ => rfl)) pe_int (fun _ _ => rfl)) (pe_callB (call_lenK (K := K) rfl) (by rfl) T.n_len bt_len (pa_cons (pe_ix (ix_tupK (K := K) rfl) (pe_ix (ix_listK (K := K) rfl) (pv 0) (pe_un un_neg pe_int) (fun _ _ => rfl)) pe_int (fun _ _ => rfl)) pa_nil)))))), ?_⟩
    walk_at "rd"
    refine ⟨Nat.zero_le _, fun q hq => parts_nil B.pm hq (fun z => ?_) (fun z => ?_)⟩
    · rw [if_pos rfl]
      have : S.e = 0 := by rw [B.en, z]; rfl
      rw [← this]; exact k _ (same_new hq)
    · rw [if_neg (by decide)]
      obtain ⟨ys, x, e⟩ := last_of z
      have B' := B.mono (same_new (o := HO.lst []) hq)
      have t1 := B'.pm.top
      have a1 := B'.pm.at_ x (by rw [e]; simp)
      have e1 : S.e = x.p + x.ws.length := by rw [B.en, e, endP_last]
      rw [e, List.map_append] at t1
      refine ⟨_, SqL.of t1, _, atI_last, _, rfl, _, SqT.of a1.1, _, rfl, _, SqL.of t1, _, atI_last, _, rfl, _, SqT.of a1.1, _, rfl, _, .inl ⟨_, SqL.of a1.2, rfl⟩, _, rfl, ?_⟩
      rw [List.length_map, ← e1]
      exact k _ (same_new hq)
theorem Ordd.init {ys : List Prt} {x : Prt} {e : Int} (h : Ordd (ys ++ [x]) e) : Ordd ys x.p ∧ 0 ≤ x.p := by
  have hx : (ys ++ [x])[ys.length]? = some x := by simp
  refine ⟨⟨fun y hy => h.pos y (List.mem_append_left _ hy), fun y hy => ?_, fun i j y z hij hi hj => ?_⟩, h.pos x (by simp)⟩
  · obtain ⟨i, hi, e⟩ := List.getElem_of_mem hy
    exact h.ap i ys.length y x hi (by rw [List.getElem?_append_left hi, List.getElem?_eq_getElem hi, e]) hx
  · have h2 := (List.getElem?_eq_some_iff.mp hj).1
    exact h.ap i j y z hij (by rw [List.getElem?_append_left (by omega)]; exact hi) (by rw [List.getElem?_append_left h2]; exact hj)
theorem Ordd.snoc {ys : List Prt} {x : Prt} {e : Int} (h : Ordd ys e) (h0 : 0 ≤ e) (hx : e ≤ x.p) : Ordd (ys ++ [x]) (x.p + x.ws.length) := by
  refine ⟨fun y hy => ?_, fun y hy => ?_, fun i j y z hij hi hj => ?_⟩
  · rcases List.mem_append.mp hy with z | z
    · exact h.pos y z
    · rw [List.mem_singleton.mp z]; omega
  · rcases List.mem_append.mp hy with z | z
    · have := h.le y z; omega
    · rw [List.mem_singleton.mp z]; omega
  · have h2 := (List.getElem?_eq_some_iff.mp hj).1
    rw [List.length_append, List.length_singleton] at h2
    rw [List.getElem?_append_left (by omega)] at hi
    by_cases hl : j < ys.length
    · rw [List.getElem?_append_left hl] at hj
      exact h.ap i j y z hij hi hj
    · have : j = ys.length := by omega
      subst this
      rw [List.getElem?_append_right (Nat.le_refl _), Nat.sub_self] at hj
      cases hj
      have := h.le y (List.mem_of_getElem? hi)
      omega
theorem lenS {x : Int} (h0 : 0 ≤ x + 10 ^ 12) (h1 : x ≤ 10 ^ 12) : (Str.ofString (toString x)).length ≤ 241 ∧ x.natAbs.log2 < 1920 := by
  have f : Few x := ⟨by omega, by omega⟩
  exact ⟨few_len f, by have := few_log f; omega⟩
theorem G__law_put (T : Txt w K mg A) : FnOk P w K mg base CX0 3 A._law_put A.fd__law_put ["_law_cell", "_law_parts", "_law_leans", "_law_end_here"] sp_put := by
  refine T.F__law_put.ok sc__law_put (fun vs H Q E h => ?_) (fun cdv Ar outer s H vs Q E hr h => ?_)
  · obtain ⟨c, S, n, rfl, _⟩ := h
    rfl
  · obtain ⟨c, S, n, rfl, B, hn, k⟩ := h
    refine ⟨_, (pss_cons (ps_set (i := 4) sc__law_put.nd rfl (by first | exact Or.inl rfl | exact Or.inr rfl) (pe_op op_mod (pe_op op_mul (pv 0) pe_int) pe_int)) (pss_cons (ps_if (PW.pt (pw_or (pt_cmpR (op_eqDK hr.units (K := K) rfl) (pv 1) (pe_lst pa_nil) (nomark _)) (pw_or1 (pt_cmpR op_eq (pe_op op_mod (pv 0) pe_int) pe_int (nomark _))))) (pss_weak (u := pA) (pss_cons (ps_set (i := 5) sc__law_put.nd rfl (by first | exact Or.inl rfl | exact Or.inr rfl) (pe_op op_add (pv 3) (pe_op op_mod (pv 4) pe_int))) (pss_cons (ps_if (pt_cmpR op_eq (pe_op op_mod (pe_op op_fdiv (pv 0) pe_int) pe_int) pe_int (nomark _)) (pss_one (ps_set (i := 5) sc__law_put.nd rfl (by first | exact Or.inl rfl | exact Or.inr rfl) (pe_op op_add (pv 3) (pe_op op_mod (pv 4) pe_int)))) pss_nil) (pss_weak (u := pA2) (pss_cons (ps_expr (pe_bm PySem.F.plainAttrs_list PySem.F.slot_list_append PySem.F.type_list_append mt_append (pv 1) (pa_cons (pe_tup (pa_cons (pv 5) (pa_cons (pe_lst pa_nil) pa_nil))) pa_nil))) (pss_one (ps_ret (pe_lst (pa_cons (pe_op op_add_str pe_str (pe_callTy call_str_int (by rfl) T.n_str bt_str (pa_cons (pv 5) pa_nil))) pa_nil))))) ?pa2))) ?pa) pss_nil) (pss_weak (u := pB) (pss_cons (ps_set (i := 6) sc__law_put.nd rfl (by first | exact Or.inl rfl | exact Or.inr rfl) (pe_op op_mod (pe_op op_mul (pv 0) pe_int) pe_int)) (pss_cons (ps_if (pt_cmpR op_eq (pe_op op_mod (pe_op op_fdiv (pv 0) pe_int) pe_int) pe_int (nomark _)) (pss_one (ps_set (i := 6) sc__law_put.nd rfl (by first | exact Or.inl rfl | exact Or.inr rfl) (pe_ix (ix_listK (K := K) rfl) (pe_lst (pa_cons pe_int (pa_cons pe_int pa_nil))) (pe_op op_mod (pe_op op_fdiv (pv 0) pe_int) pe_int) (fun _ _ => rfl)))) pss_nil) (pss_weak (u := pB2) (pss_cons (ps_set (i := 7) sc__law_put.nd rfl (by first | exact Or.inl rfl | exact Or.inr rfl) (pe_lst (pa_cons (pe_op op_add_str pe_str (pe_callTy call_str_int (by rfl) T.n_str bt_str (pa_cons (pv 6) pa_nil))) pa_nil))) (pss_cons (ps_if (pt_cmpR op_gt (pe_op op_mod (pv 0) pe_int) pe_int (nomark _)) (pss_cons (ps_set (i := 8) sc__law_put.nd rfl (by first | exact Or.inl rfl | exact Or.inr rfl) (pe_ix (ix_listK (K := K) rfl) (pe_lst (pa_cons pe_str (pa_cons pe_str (pa_cons pe_str pa_nil)))) (pe_op op_mod (pv 4) pe_int) (fun _ _ => rfl))) (pss_cons (ps_expr (pe_bm PySem.F.plainAttrs_list PySem.F.slot_list_append PySem.F.type_list_append mt_append (pv 2) (pa_cons (pe_tup (pa_cons (pv 3) (pa_cons (pv 8) (pa_cons (pe_call (G__law_target_by T) (hr.mono (by decide)) rfl T.m__law_target_by T.k__law_target_by T.b__law_target_by .nil pass0 (pa_cons (pe_op op_fdiv (pv 4) pe_int) pa_nil)) pa_nil)))) pa_nil))) (pss_one (ps_expr (pe_bm PySem.F.plainAttrs_list PySem.F.slot_list_append PySem.F.type_list_append mt_append (pv 7) (pa_cons (pe_op op_add_str (pe_op op_add_str (pe_op op_add_str pe_str (pv 8)) pe_str) (pe_callTy call_str_int (by rfl) T.n_str bt_str (pa_cons (pe_ix (ix_tupK (K := K) rfl) (pe_ix (ix_listK (K := K) rfl) (pv 2) (pe_un un_neg pe_int) (fun _ _ => rfl)) pe_int (fun _ _ => rfl)) pa_nil))) pa_nil)))))) pss_nil) (pss_weak (u := pB3) (pss_cons (ps_expr (pe_bm PySem.F.plainAttrs_list PySem.F.slot_list_append PySem.F.type_list_append mt_append (pe_ix (ix_tupK (K := K) rfl) (pe_ix (ix_listK (K := K) rfl) (pv 1) (pe_un un_neg pe_int) (fun _ _ => rfl)) pe_int (fun _ _ => rfl)) (pa_cons (pv 6) pa_nil))) (pss_one (ps_ret (pv 7)))) ?pb3))) ?pb2))) ?pb))), ?main⟩
    case main =>
      walk_at "rd"
      refine ⟨.inr ⟨by decide, by decide⟩, by decide, Nat.zero_le _, fun p hp => parts_nil B.pm hp (fun z => ?_) (fun z => ?_)⟩
      · rw [if_pos rfl]
        exact ⟨S, n, c, _, H, _, _, _, _, rfl, by omega, B.mono (same_new hp), hn, same_new hp, B, k⟩
      · rw [if_neg (by decide)]
        exact ⟨by decide, ite2 (fun _ => ⟨S, n, c, _, H, _, _, _, _, rfl, by omega, B.mono (same_new hp), hn, same_new hp, B, k⟩) (fun _ => ⟨S, n, c, _, H, _, _, _, _, rfl, by omega, z, B.mono (same_new hp), hn, same_new hp, B, k⟩)⟩
    case pa =>
      rintro D σ H ⟨S, n, c, m, H0, b5, b6, b7, b8, rfl, hm, B, hn, sm, B0, k⟩
      walk_at "rd"
      exact ⟨by decide, ⟨by decide, by decide⟩, by decide, ite2 (fun _ => ⟨by decide, S, n, c, m, _, H0, _, _, _, rfl, by omega, by omega, B, hn, sm, B0, k⟩) (fun _ => ⟨S, n, c, m, _, H0, _, _, _, rfl, by omega, by omega, B, hn, sm, B0, k⟩)⟩
    case pa2 =>
      rintro D σ H ⟨S, n, c, m, pl, H0, b6, b7, b8, rfl, hp1, hp2, B, hn, sm, B0, k⟩
      walk_at "rd"
      refine ⟨.inl ⟨rfl, _, SqL.of B.pm.top⟩, Nat.zero_le _, fun l hl => ⟨by rw [sizeLine_eq]; decide, fun t ht => ?_⟩⟩
      obtain ⟨n1, ht'⟩ := free_of ht
      have topa := B.pm.top
      have e0 := B.e0
      have e1 := B.e1
      have top' : upd (upd H l (HO.lst [])) t (HO.tup [V.int pl, V.ref l]) S.a = some (.lst (S.ps.map fun x => V.ref x.t)) := by rw [upd_ne (ne_of_none topa ht'), upd_ne (ne_of_none topa hl)]; exact topa
      have ls := lenS (x := pl) (by omega) (by omega)
      have l5 : (Str.ofString "part ").length = 5 := by decide +kernel
      have bn := B.n1
      refine ⟨_, top', by rw [List.length_map, sizeLine_eq]; omega, ls.2, by rw [sizeLine_eq]; omega, by rw [sizeLine_eq]; decide, fun q hq => ?_⟩
      obtain ⟨q1, hq⟩ := free_of hq
      obtain ⟨q2, hq⟩ := free_of hq
      obtain ⟨q3, hq⟩ := free_of hq
      have hrs0 : [V.str (Str.ofString "part " ++ Str.ofString (toString pl))].length ≤ 2 := by simp
      have hR0 : [V.str (Str.ofString "part " ++ Str.ofString (toString pl))] = [V.str (rowT (.part pl))] := by rw [rowT_part]; rfl
      generalize [V.str (Str.ofString "part " ++ Str.ofString (toString pl))] = rs0 at *
      have old : ∀ x o, H x = some o → x ≠ S.a → upd (upd (upd (upd H l (HO.lst [])) t (HO.tup [V.int pl, V.ref l])) S.a (HO.lst (List.map (fun x => V.ref x.t) S.ps ++ [V.ref t]))) q (HO.lst rs0) x = some o := fun x o hx hxa => by
        rw [upd_ne (ne_of_none hx hq), upd_ne hxa, upd_ne (ne_of_none hx ht'), upd_ne (ne_of_none hx hl)]; exact hx
      have lx : ∀ x ∈ S.ps, x.l ≠ l := fun x hx => ne_of_none (B.pm.at_ x hx).2 hl
      have tt : ∀ {x : Addr} {xs : List V}, H x = some (.tup xs) → x ≠ S.a := fun {x xs} h => ne_of h topa (by intro z; cases z)
      have hla : l ≠ S.a := Ne.symm (ne_of_none topa hl)
      have hta : t ≠ S.a := Ne.symm (ne_of_none topa ht')
      have hlb : l ≠ S.b := Ne.symm (ne_of_none B.lm.top hl)
      have nn : ∀ {y : Addr}, H y = none → H0 y = none := fun {y} hy => by
        cases e : H0 y with
        | none => rfl
        | some o => rw [sm _ _ e] at hy; cases hy
      refine k q rs0 ⟨S.a, S.b, S.ps ++ [⟨t, l, pl, []⟩], S.ls, pl⟩ _ (fun x o hx hxa _ _ => old _ _ (sm _ _ hx) hxa) upd_same hrs0 rfl rfl ?ok (fun y hy => ?_) (nn hq) q1 (Ne.symm (ne_of_none B.lm.top hq)) (fun y hy => ?_) (.inl ⟨hR0, hp1, by show (S.ps ++ [_]).map Prt.core = _; rw [List.map_append]; rfl, rfl⟩)
      case ok =>
        refine { pm := ⟨?_, ?_, ?_, ?_⟩, lm := ⟨old _ _ B.lm.top (Ne.symm B.ab), fun x hx => old _ _ (B.lm.at_ x hx) (tt (B.lm.at_ x hx))⟩, ab := B.ab, nb := ?_, ord := ?_, ws := ?_, rr := ?_, lk := ?_, ln := B.ln, en := ?_, e0 := by show 0 ≤ pl; omega, e1 := ?_, n1 := ?_, n2 := Nat.le_succ_of_le B.n2, n3 := ?_, n4 := by omega }
        · show upd _ q _ S.a = _
          rw [upd_ne (Ne.symm q1), upd_same, List.map_append]; rfl
        · intro x hx
          rcases List.mem_append.mp hx with z | z
          · exact ⟨old _ _ (B.pm.at_ x z).1 (tt (B.pm.at_ x z).1), old _ _ (B.pm.at_ x z).2 (B.pm.na x z)⟩
          · rw [List.mem_singleton.mp z]
            refine ⟨?_, ?_⟩
            · show upd _ q _ t = _
              rw [upd_ne (Ne.symm q2), upd_ne hta, upd_same]
            · show upd _ q _ l = _
              rw [upd_ne (Ne.symm q3), upd_ne hla, upd_ne (Ne.symm n1), upd_same]; rfl
        · rw [List.map_append, List.nodup_append]
          refine ⟨B.pm.nd, by simp, fun a ha b hb => ?_⟩
          obtain ⟨x, hx, rfl⟩ := List.mem_map.mp ha
          simp only [List.map_cons, List.map_nil, List.mem_singleton] at hb
          rw [hb]; exact lx x hx
        · intro x hx
          rcases List.mem_append.mp hx with z | z
          · exact B.pm.na x z
          · rw [List.mem_singleton.mp z]; exact hla
        · intro x hx
          rcases List.mem_append.mp hx with z | z
          · exact B.nb x z
          · rw [List.mem_singleton.mp z]; exact hlb
        · have := B.ord.snoc (x := ⟨t, l, pl, []⟩) B.e0 hp1
          simpa using this
        · intro x hx
          rcases List.mem_append.mp hx with z | z
          · exact B.ws x z
          · rw [List.mem_singleton.mp z]; intro u hu; cases hu
        · intro x hx
          have := B.rr x hx
          exact ⟨this.1, this.2.1, this.2.2.1, by have := this.2.2.2; show x.p < pl; omega⟩
        · intro x hx
          obtain ⟨y, hy, h1, h2⟩ := B.lk x hx
          exact ⟨y, List.mem_append_left _ hy, h1, h2⟩
        · show pl = endP (S.ps ++ [⟨t, l, pl, []⟩])
          rw [endP_last]; simp
        · show pl ≤ ((n + 1 : Nat) : Int) * 10000001
          rw [Int.natCast_add]; omega
        · show (S.ps ++ [(⟨t, l, pl, []⟩ : Prt)]).length ≤ n + 1
          rw [List.length_append]; exact Nat.succ_le_succ B.n1
        · intro x hx
          rcases List.mem_append.mp hx with z | z
          · exact Nat.le_succ_of_le (B.n3 x z)
          · rw [List.mem_singleton.mp z]; exact Nat.zero_le _
      · rcases List.mem_append.mp hy with z | z
        · exact .inl (List.mem_map.mpr ⟨y, z, rfl⟩)
        · rw [List.mem_singleton.mp z]; exact .inr (nn hl)
      · rcases List.mem_append.mp hy with z | z
        · exact Ne.symm (ne_of_none (B.pm.at_ y z).2 hq)
        · rw [List.mem_singleton.mp z]; exact q3
    case pb =>
      rintro D σ H ⟨S, n, c, m, H0, b5, b6, b7, b8, rfl, hm, hne, B, hn, sm, B0, k⟩
      walk_at "rd"
      refine ⟨.inr ⟨by decide, by decide⟩, by decide, ⟨by decide, by decide⟩, by decide, ite2 (fun _ => ⟨by rw [sizeLine_eq]; decide, fun p hp => ⟨⟨by decide, by decide⟩, by decide, _, SqL.of upd_same, ?_⟩⟩) (fun _ => ⟨S, n, c, m, _, H0, _, _, _, rfl, hm, by omega, by omega, hne, B, hn, sm, B0, k⟩)⟩
      obtain ⟨v, e, hv⟩ := atI_ex (xs := [V.int 0, V.int 4294967295]) (i := c / 30 % 2) (by simp; omega) (by simp; omega)
      have h2 : ∃ u : Int, v = .int u ∧ 0 ≤ u ∧ u ≤ 4294967295 := by
        simp only [List.mem_cons, List.not_mem_nil, or_false] at hv
        rcases hv with rfl | rfl
        · exact ⟨_, rfl, by decide, by decide⟩
        · exact ⟨_, rfl, by decide, by decide⟩
      obtain ⟨u, rfl, hu0, hu1⟩ := h2
      exact ⟨_, e, S, n, c, m, u, H0, _, _, _, rfl, hm, hu0, hu1, hne, B.mono (same_new hp), hn, sm.trans (same_new hp), B0, k⟩
    case pb2 =>
      rintro D σ H ⟨S, n, c, m, u, H0, b5, b7, b8, rfl, hm, hu0, hu1, hne, B, hn, sm, B0, k⟩
      walk_at "rd"
      have ls := lenS (x := u) (by omega) (by omega)
      have l5 : (Str.ofString "word ").length = 5 := by decide +kernel
      refine ⟨ls.2, by rw [sizeLine_eq]; omega, by rw [sizeLine_eq]; decide, fun p hp => ?_⟩
      have hW0 : rowT (.word u) = Str.ofString "word " ++ Str.ofString (toString u) := by rw [rowT_word]; rfl
      generalize Str.ofString "word " ++ Str.ofString (toString u) = zw at *
      have s1 : Same H (upd H p (HO.lst [V.str zw])) := same_new hp
      have nq : H0 p = none := by
        cases e : H0 p with
        | none => rfl
        | some o => rw [sm _ _ e] at hp; cases hp
      refine ⟨by decide, ite2 (fun _ => ⟨by rw [sizeLine_eq]; decide, fun p1 h1 => ⟨by decide, _, SqL.of upd_same, ?_⟩⟩) (fun _ => ⟨S, n, c, m, u, p, _, S.ls, H0, _, _, rfl, hu0, hu1, hne, upd_same, by simp, nq, B.pm.mono s1, B.lm.mono s1, .inl ⟨by rw [hW0], rfl⟩, hn, fun x o hx _ => s1 _ _ (sm _ _ hx), B0, k⟩)⟩
      obtain ⟨v, e, hv⟩ := atI_ex (xs := [V.str (Str.ofString "whole"), V.str (Str.ofString "high"), V.str (Str.ofString "low")]) (i := m % 3) (by simp; omega) (by simp; omega)
      have h2 : ∃ z, v = .str z ∧ isR z ∧ z.length ≤ 5 := by
        simp only [List.mem_cons, List.not_mem_nil, or_false] at hv
        rcases hv with rfl | rfl | rfl
        · exact ⟨_, rfl, .inl rfl, by decide +kernel⟩
        · exact ⟨_, rfl, .inr (.inl rfl), by decide +kernel⟩
        · exact ⟨_, rfl, .inr (.inr rfl), by decide +kernel⟩
      obtain ⟨z, rfl, hz, hzl⟩ := h2
      obtain ⟨np1, h1'⟩ := free_of h1
      have tb := B.lm.top
      have bn := B.n2
      have e3 : ∀ x o, H x = some o → upd (upd H p (HO.lst [V.str zw])) p1 (HO.lst [V.str (Str.ofString "whole"), V.str (Str.ofString "high"), V.str (Str.ofString "low")]) x = some o := fun x o hx => by rw [upd_ne (ne_of_none hx h1'), upd_ne (ne_of_none hx hp)]; exact hx
      refine ⟨_, e, .inl ⟨rfl, _, SqL.of (e3 _ _ tb)⟩, ⟨by decide, by decide⟩, fun m1 hm1 hm2 => ⟨by rw [sizeLine_eq]; decide, fun p2 h2 => ?_⟩⟩
      obtain ⟨np2, h2'⟩ := free_of h2
      obtain ⟨np3, h2''⟩ := free_of h2'
      have lm1 := lenS (x := m1) (by omega) (by omega)
      have lz5 : (Str.ofString "lean ").length = 5 := by decide +kernel
      have lz1 : (Str.ofString " ").length = 1 := by decide +kernel
      have hb3 : upd (upd (upd H p (HO.lst [V.str zw])) p1 (HO.lst [V.str (Str.ofString "whole"), V.str (Str.ofString "high"), V.str (Str.ofString "low")])) p2 (HO.tup [V.int S.e, V.str z, V.int m1]) S.b = some (.lst (S.ls.map fun x => V.ref x.a)) := by rw [upd_ne (ne_of_none tb h2'')]; exact e3 _ _ tb
      refine ⟨_, hb3, by rw [List.length_map, sizeLine_eq]; omega, ?_⟩
      generalize hH3 : upd (upd (upd H p (HO.lst [V.str zw])) p1 (HO.lst [V.str (Str.ofString "whole"), V.str (Str.ofString "high"), V.str (Str.ofString "low")])) p2 (HO.tup [V.int S.e, V.str z, V.int m1]) = H3 at *
      have o3 : ∀ x o, H x = some o → H3 x = some o := fun x o hx => by rw [← hH3, upd_ne (ne_of_none hx h2'')]; exact e3 _ _ hx
      have nbp : p ≠ S.b := Ne.symm (ne_of_none tb hp)
      have nbp2 : p2 ≠ S.b := Ne.symm (ne_of_none tb h2'')
      have hp3 : H3 p = some (.lst [V.str zw]) := by rw [← hH3, upd_ne (Ne.symm np3), upd_ne (Ne.symm np1), upd_same]
      have hp23 : H3 p2 = some (.tup [V.int S.e, V.str z, V.int m1]) := by rw [← hH3, upd_same]
      have hp4 : ∀ o, upd H3 S.b o p = some (.lst [V.str zw]) := fun o => by rw [upd_ne nbp]; exact hp3
      refine ⟨.inl ⟨rfl, _, SqL.of (hp4 _)⟩, _, rfl, by rw [sizeLine_eq]; omega, by rw [slen, sizeLine_eq]; omega, _, SqL.of upd_same, _, atI_last, _, rfl, _, SqT.of (by rw [upd_ne nbp2]; exact hp23), _, rfl, _, rfl, lm1.2, by rw [slen, slen, sizeLine_eq]; omega, _, hp4 _, by rw [sizeLine_eq]; show 1 < 16777216; decide, ?_⟩
      have o5 : ∀ x o (y y' : HO), H x = some o → x ≠ S.b → upd (upd H3 S.b y) p y' x = some o := fun x o y y' hx hxb => by rw [upd_ne (ne_of_none hx hp), upd_ne hxb]; exact o3 _ _ hx
      have tt : ∀ {x : Addr} {xs : List V}, H x = some (.tup xs) → x ≠ S.b := fun {x xs} h => ne_of h tb (by intro z; cases z)
      refine ⟨S, n, c, m, u, p, _, S.ls ++ [⟨p2, S.e, z, m1⟩], H0, _, _, rfl, hu0, hu1, hne, upd_same, by simp, nq, ?_, ?_, .inr ⟨_, by rw [hW0, rowT_lean]; rfl, rfl, rfl, hz, hm1, hm2⟩, hn, fun x o hx hxb => o5 _ _ _ _ (sm _ _ hx) hxb, B0, k⟩
      · exact { B.pm with top := o5 _ _ _ _ B.pm.top B.ab, at_ := fun x hx => ⟨o5 _ _ _ _ (B.pm.at_ x hx).1 (tt (B.pm.at_ x hx).1), o5 _ _ _ _ (B.pm.at_ x hx).2 (B.nb x hx)⟩ }
      · refine ⟨by rw [upd_ne (Ne.symm nbp), upd_same, List.map_append]; rfl, fun x hx => ?_⟩
        rcases List.mem_append.mp hx with y | y
        · exact o5 _ _ _ _ (B.lm.at_ x y) (tt (B.lm.at_ x y))
        · rw [List.mem_singleton.mp y]
          show upd (upd H3 S.b _) p _ p2 = _
          rw [upd_ne np3, upd_ne nbp2]; exact hp23
    case pb3 =>
      rintro D σ H ⟨S, n, c, m, u, q, rs, ls, H0, b5, b8, rfl, hu0, hu1, hne, hq, hrs, hq0, pm, lm, hls, hn, off, B0, k⟩
      walk_at "rd"
      obtain ⟨ys, x, e⟩ := last_of hne
      have hx : x ∈ S.ps := by rw [e]; simp
      have t1 := pm.top
      have a1 := pm.at_ x hx
      rw [e, List.map_append] at t1
      have n3 := B0.n3 x hx
      refine ⟨_, SqL.of t1, _, atI_last, _, rfl, _, SqT.of a1.1, _, rfl, .inl ⟨rfl, _, SqL.of a1.2⟩, _, rfl, _, a1.2, by rw [List.length_map, sizeLine_eq]; omega, ?_⟩
      have nn : ∀ {y : Addr}, H y = none → y ≠ S.b → H0 y = none := fun {y} hy hb => by
        cases e : H0 y with
        | none => rfl
        | some o => rw [off _ _ e hb] at hy; cases hy
      have o0 := B0.ord
      rw [e] at o0
      have oi := o0.init
      have en : S.e = x.p + x.ws.length := by rw [B0.en, e, endP_last]
      have nd0 := B0.pm.nd
      have B0x := (B0.pm.at_ x hx).2
      have qx : q ≠ x.l := fun z => by rw [z, B0x] at hq0; cases hq0
      have qps : ∀ y ∈ S.ps, q ≠ y.l := fun y hy z => by rw [z, (B0.pm.at_ y hy).2] at hq0; cases hq0
      have old : ∀ y o, H y = some o → y ≠ x.l → upd H x.l (HO.lst (List.map V.int x.ws ++ [V.int u])) y = some o := fun y o h1 h2 => by rw [upd_ne h2]; exact h1
      have ysne : ∀ y ∈ ys, y.l ≠ x.l := fun y hy => by
        rw [e, List.map_append, List.nodup_append] at nd0
        exact nd0.2.2 y.l (List.mem_map.mpr ⟨y, hy, rfl⟩) x.l (by simp)
      have ysm : ∀ y ∈ ys, y ∈ S.ps := fun y hy => by rw [e]; exact List.mem_append_left _ hy
      have tne : ∀ {y : Addr} {vs : List V}, H y = some (.tup vs) → y ≠ x.l := fun {y vs} h => ne_of h a1.2 (by intro z; cases z)
      have mem' : ∀ {y : Prt}, y ∈ ys ++ [(⟨x.t, x.l, x.p, x.ws ++ [u]⟩ : Prt)] → y ∈ ys ∨ y = ⟨x.t, x.l, x.p, x.ws ++ [u]⟩ := fun {y} hy => (List.mem_append.mp hy).imp id fun z => List.mem_singleton.mp z
      refine k q rs ⟨S.a, S.b, ys ++ [⟨x.t, x.l, x.p, x.ws ++ [u]⟩], ls, S.e + 1⟩ _ (fun y o hy hya hyb hyl => old _ _ (off _ _ hy hyb) (hyl x hx)) (old _ _ hq qx) hrs rfl rfl ?ok (fun y hy => ?_) hq0 (fun z => by rw [z, B0.pm.top] at hq0; cases hq0) (fun z => by rw [z, B0.lm.top] at hq0; cases hq0) (fun y hy => ?_) ?pr
      case pr =>
        refine .inr ⟨u, hne, hu0, hu1, rfl, ?_, ?_⟩
        · show (ys ++ [(⟨x.t, x.l, x.p, x.ws ++ [u]⟩ : Prt)]).map Prt.core = _
          rw [e, List.map_append, List.map_append]; exact (addW_snoc u (ys.map Prt.core) x.core).symm
        · rcases hls with ⟨h, rfl⟩ | ⟨l', h, rfl, h1, h2, h3, h4⟩
          · exact .inl ⟨h, rfl⟩
          · refine .inr ⟨l'.r, l'.t, h, h2, h3, h4, ?_⟩
            show (S.ls ++ [l']).map Ln.core = _
            rw [List.map_append, ← h1]; rfl
      case ok =>
        have lsl : ∀ l ∈ ls, l ∈ S.ls ∨ (l.p = S.e ∧ isR l.r ∧ -9999999999 ≤ l.t ∧ l.t ≤ 9999999999) := fun l hl => by
          rcases hls with ⟨_, rfl⟩ | ⟨l', _, rfl, h1, h2, h3, h4⟩
          · exact .inl hl
          · rcases List.mem_append.mp hl with z | z
            · exact .inl z
            · rw [List.mem_singleton.mp z]; exact .inr ⟨h1, h2, h3, h4⟩
        have ex0 := B0.e0
        refine { pm := ⟨?_, ?_, ?_, ?_⟩, lm := ⟨old _ _ lm.top (fun z => by have := B0.nb x hx; exact this z.symm), fun y hy => old _ _ (lm.at_ y hy) (tne (lm.at_ y hy))⟩, ab := B0.ab, nb := ?_, ord := ?_, ws := ?_, rr := ?_, lk := ?_, ln := ?_, en := ?_, e0 := by show 0 ≤ S.e + 1; omega, e1 := ?_, n1 := ?_, n2 := ?_, n3 := ?_, n4 := by omega }
        · show upd H x.l _ S.a = _
          rw [upd_ne (fun z => (B0.pm.na x hx) z.symm), pm.top, e, List.map_append, List.map_append]; rfl
        · intro y hy
          rcases mem' hy with z | z
          · have hy' := pm.at_ y (ysm y z)
            exact ⟨old _ _ hy'.1 (tne hy'.1), old _ _ hy'.2 (ysne y z)⟩
          · rw [z]
            refine ⟨old _ _ a1.1 (tne a1.1), ?_⟩
            show upd H x.l _ x.l = _
            rw [upd_same, List.map_append]; rfl
        · have : (ys ++ [(⟨x.t, x.l, x.p, x.ws ++ [u]⟩ : Prt)]).map Prt.l = S.ps.map Prt.l := by rw [e, List.map_append, List.map_append]; rfl
          rw [this]; exact nd0
        · intro y hy
          rcases mem' hy with z | z
          · exact B0.pm.na y (ysm y z)
          · rw [z]; exact B0.pm.na x hx
        · intro y hy
          rcases mem' hy with z | z
          · exact B0.nb y (ysm y z)
          · rw [z]; exact B0.nb x hx
        · have := oi.1.snoc (x := ⟨x.t, x.l, x.p, x.ws ++ [u]⟩) oi.2 (Int.le_refl _)
          have e2 : S.e + 1 = x.p + ((x.ws ++ [u]).length : Int) := by rw [List.length_append, en]; simp; omega
          show Ordd _ (S.e + 1)
          rw [e2]; exact this
        · intro y hy
          rcases mem' hy with z | z
          · exact B0.ws y (ysm y z)
          · rw [z]; intro v hv
            rcases List.mem_append.mp hv with h | h
            · exact B0.ws x hx v h
            · rw [List.mem_singleton.mp h]; exact ⟨hu0, hu1⟩
        · intro l hl
          rcases lsl l hl with h | ⟨h1, h2, h3, h4⟩
          · have := B0.rr l h
            exact ⟨this.1, this.2.1, this.2.2.1, by have := this.2.2.2; show l.p < S.e + 1; omega⟩
          · exact ⟨h2, h3, h4, by show l.p < S.e + 1; omega⟩
        · intro l hl
          rcases lsl l hl with h | ⟨h1, h2, h3, h4⟩
          · obtain ⟨y, hy, h1, h2⟩ := B0.lk l h
            rw [e] at hy
            rcases List.mem_append.mp hy with z | z
            · exact ⟨y, List.mem_append_left _ z, h1, h2⟩
            · rw [List.mem_singleton.mp z] at h1 h2
              exact ⟨_, List.mem_append_right _ (.head _), h1, by show l.p < x.p + ((x.ws ++ [u]).length : Int); rw [List.length_append]; simp; omega⟩
          · exact ⟨_, List.mem_append_right _ (.head _), by show x.p ≤ l.p; omega, by show l.p < x.p + ((x.ws ++ [u]).length : Int); rw [List.length_append]; simp; omega⟩
        · show (ls.map Ln.p).Nodup
          rcases hls with ⟨_, rfl⟩ | ⟨l', _, rfl, h1, h2, h3, h4⟩
          · exact B0.ln
          · rw [List.map_append, List.nodup_append]
            refine ⟨B0.ln, by simp, fun a ha b hb => ?_⟩
            obtain ⟨l, hl, rfl⟩ := List.mem_map.mp ha
            simp only [List.map_cons, List.map_nil, List.mem_singleton] at hb
            rw [hb, h1]
            have := (B0.rr l hl).2.2.2
            omega
        · show S.e + 1 = endP (ys ++ [⟨x.t, x.l, x.p, x.ws ++ [u]⟩])
          rw [endP_last, en]; simp; omega
        · show S.e + 1 ≤ ((n + 1 : Nat) : Int) * 10000001
          have := B0.e1
          rw [Int.natCast_add]; omega
        · show (ys ++ [(⟨x.t, x.l, x.p, x.ws ++ [u]⟩ : Prt)]).length ≤ n + 1
          have := B0.n1
          rw [e] at this
          rw [List.length_append] at this ⊢
          exact Nat.le_succ_of_le this
        · show ls.length ≤ n + 1
          have := B0.n2
          rcases hls with ⟨_, rfl⟩ | ⟨l', _, rfl, _⟩
          · omega
          · rw [List.length_append, List.length_singleton]; omega
        · intro y hy
          rcases mem' hy with z | z
          · exact Nat.le_succ_of_le (B0.n3 y (ysm y z))
          · rw [z]; show (x.ws ++ [u]).length ≤ n + 1
            rw [List.length_append, List.length_singleton]; omega
      · rcases mem' hy with z | z
        · exact .inl (List.mem_map.mpr ⟨y, ysm y z, rfl⟩)
        · rw [z]; exact .inl (List.mem_map.mpr ⟨x, hx, rfl⟩)
      · rcases mem' hy with z | z
        · exact qps y (ysm y z)
        · rw [z]; exact qx
theorem cut_ints (ns : List Int) (h : ns.length ≤ 63) : ∃ ms : List Int, cutV (ns.map V.int) (some 2) (some 202) = ms.map V.int ∧ ms.length ≤ 61 := by
  refine ⟨(ns.drop (HT.sIx (ns.map V.int).length 0 (some 2))).take (HT.sIx (ns.map V.int).length (ns.map V.int).length (some 202) - HT.sIx (ns.map V.int).length 0 (some 2)), ?_, ?_⟩
  · unfold cutV
    rw [List.map_take, List.map_drop]
  · have e : HT.sIx (ns.map V.int).length 0 (some 2) = min 2 ns.length := by
      rw [show (some (2 : Int)) = some ((2 : Nat) : Int) from rfl, HT.sIx_nat, List.length_map]
    rw [List.length_take, List.length_drop, e]
    omega
theorem BOk.start {H : Hp} {a b : Addr} (h1 : H a = some (.lst [])) (h2 : H b = some (.lst [])) (h3 : a ≠ b) : BOk 0 H ⟨a, b, [], [], 0⟩ where
  pm := ⟨h1, fun x hx => (nomatch hx), .nil, fun x hx => (nomatch hx)⟩
  lm := ⟨h2, fun x hx => (nomatch hx)⟩
  ab := h3
  nb := fun x hx => (nomatch hx)
  ord := ⟨fun x hx => (nomatch hx), fun x hx => (nomatch hx), fun i j x y _ h => by cases h⟩
  ws := fun x hx => (nomatch hx)
  rr := fun x hx => (nomatch hx)
  lk := fun x hx => (nomatch hx)
  ln := .nil
  en := rfl
  e0 := Int.le_refl 0
  e1 := by show (0 : Int) ≤ ((0 : Nat) : Int) * 10000001; decide
  n1 := Nat.le_refl _
  n2 := Nat.le_refl _
  n3 := fun x hx => (nomatch hx)
  n4 := by decide
theorem BOk.up {n m : Nat} {H : Hp} {S : BS} (h : BOk n H S) (l : n ≤ m) (h2 : m ≤ 500) : BOk m H S :=
  { h with e1 := by have := h.e1; omega, n1 := Nat.le_trans h.n1 l, n2 := Nat.le_trans h.n2 l, n3 := fun x hx => Nat.le_trans (h.n3 x hx) l, n4 := h2 }
theorem G__law_built (T : Txt w K mg A) : FnOk P w K mg base CX0 5 A._law_built A.fd__law_built ["_law_script", "_law_most"] (sp_built K) := by
  refine T.F__law_built.ok sc__law_built (fun vs H Q E h => ?_) (fun cdv Ar outer s H vs Q E hr h => ?_)
  · obtain ⟨a, ns, most, rfl, _⟩ := h
    rfl
  · obtain ⟨a, ns, most, rfl, hl, hn, hm1, hm2, k⟩ := h
    refine ⟨_, (pss_cons (ps_set (i := 2) sc__law_built.nd rfl (by first | exact Or.inl rfl | exact Or.inr rfl) (pe_lst pa_nil)) (pss_cons (ps_set (i := 3) sc__law_built.nd rfl (by first | exact Or.inl rfl | exact Or.inr rfl) (pe_lst pa_nil)) (pss_cons (ps_set (i := 4) sc__law_built.nd rfl (by first | exact Or.inl rfl | exact Or.inr rfl) (pe_lst pa_nil)) (pss_cons (ps_for PassesOwn.never rfl (pi_listK (K := K) rfl (pe_slice (sl_listK (K := K) rfl) (pv 0) (po_some pe_int) (po_some pe_int))) (pg_name (i := 5) sc__law_built.nd rfl (by first | exact Or.inl rfl | exact Or.inr rfl)) (pss_one (ps_set (i := 4) sc__law_built.nd rfl (by first | exact Or.inl rfl | exact Or.inr rfl) (pe_op (op_catSK (K := K) rfl) (pv 4) (pe_call (G__law_put T) (hr.mono (by decide)) rfl T.m__law_put T.k__law_put T.b__law_put .nil pass0 (pa_cons (pv 5) (pa_cons (pv 2) (pa_cons (pv 3) (pa_cons (pe_call (G__law_end T) (hr.mono (by decide)) rfl T.m__law_end T.k__law_end T.b__law_end .nil pass0 (pa_cons (pv 2) pa_nil)) pa_nil))))))))) (pss_cons (ps_set (i := 6) sc__law_built.nd rfl (by first | exact Or.inl rfl | exact Or.inr rfl) (pe_call (G__law_end T) (hr.mono (by decide)) rfl T.m__law_end T.k__law_end T.b__law_end .nil pass0 (pa_cons (pv 2) pa_nil))) (pss_cons (ps_set (i := 7) sc__law_built.nd rfl (by first | exact Or.inl rfl | exact Or.inr rfl) (pe_op op_mod (pe_op op_mul (pe_call (G__law_cell_at T) (hr.mono (by decide)) rfl T.m__law_cell_at T.k__law_cell_at T.b__law_cell_at .nil pass0 (pa_cons (pv 0) (pa_cons pe_int pa_nil))) pe_int) pe_int)) (pss_cons (ps_set (i := 8) sc__law_built.nd rfl (by first | exact Or.inl rfl | exact Or.inr rfl) (pe_op op_add (pv 6) (pe_ix (ix_listK (K := K) rfl) (pe_lst (pa_cons pe_int (pa_cons pe_int (pa_cons (pe_op op_mod (pe_op op_fdiv (pv 7) pe_int) pe_int) (pa_cons (pe_op op_mod (pe_op op_fdiv (pv 7) pe_int) pe_int) (pa_cons (pe_op op_sub (pv 1) (pv 6)) pa_nil)))))) (pe_op op_mod (pv 7) pe_int) (fun _ _ => rfl)))) (pss_cons (ps_set (i := 9) sc__law_built.nd rfl (by first | exact Or.inl rfl | exact Or.inr rfl) (pe_ix (ix_listK (K := K) rfl) (pe_lst (pa_cons pe_int (pa_cons (pv 8) (pa_cons (pe_op op_mod (pe_op op_fdiv (pv 7) pe_int) (pe_op op_add (pv 8) pe_int)) pa_nil)))) (pe_op op_mod (pe_call (G__law_cell_at T) (hr.mono (by decide)) rfl T.m__law_cell_at T.k__law_cell_at T.b__law_cell_at .nil pass0 (pa_cons (pv 0) (pa_cons pe_int pa_nil))) pe_int) (fun _ _ => rfl))) (pss_cons (ps_set (i := 10) sc__law_built.nd rfl (by first | exact Or.inl rfl | exact Or.inr rfl) (pe_op op_shl pe_int (pe_op op_mod (pe_op op_fdiv (pe_call (G__law_cell_at T) (hr.mono (by decide)) rfl T.m__law_cell_at T.k__law_cell_at T.b__law_cell_at .nil pass0 (pa_cons (pv 0) (pa_cons pe_int pa_nil))) pe_int) pe_int))) (pss_cons (ps_set (i := 4) sc__law_built.nd rfl (by first | exact Or.inl rfl | exact Or.inr rfl) (pe_op (op_catSK (K := K) rfl) (pe_lst (pa_cons (pe_op op_add_str (pe_op op_add_str (pe_op op_add_str (pe_op op_add_str (pe_op op_add_str pe_str (pe_callTy call_str_int (by rfl) T.n_str bt_str (pa_cons (pv 10) pa_nil))) pe_str) (pe_callTy call_str_int (by rfl) T.n_str bt_str (pa_cons (pv 8) pa_nil))) pe_str) (pe_callTy call_str_int (by rfl) T.n_str bt_str (pa_cons (pv 9) pa_nil))) pa_nil)) (pv 4))) (pss_one (ps_ret (pe_tup (pa_cons (pv 4) (pa_cons (pe_tup (pa_cons (pv 10) (pa_cons (pv 8) (pa_cons (pv 9) (pa_cons (pv 2) (pa_cons (pv 3) pa_nil)))))) pa_nil))))))))))))))), ?_⟩
    walk_at "rd"
    refine ⟨Nat.zero_le _, fun pa h1 => ⟨Nat.zero_le _, fun pb h2 => ⟨Nat.zero_le _, fun q0 h3 => ?_⟩⟩⟩
    obtain ⟨n2, h2'⟩ := free_of h2
    obtain ⟨n3, h3'⟩ := free_of h3
    obtain ⟨n4, h3''⟩ := free_of h3'
    have s3 : Same H (upd (upd (upd H pa (HO.lst [])) pb (HO.lst [])) q0 (HO.lst [])) := ((same_new h1).trans (same_new h2)).trans (same_new h3)
    refine ⟨_, s3.seq hl, fun ps h4 => ?_⟩
    obtain ⟨n5, h4'⟩ := free_of h4
    obtain ⟨n6, h4''⟩ := free_of h4'
    obtain ⟨n7, h4n⟩ := free_of h4''
    obtain ⟨ms, em, lm⟩ := cut_ints ns hn
    rw [em]
    have s4 := s3.trans (same_new (o := HO.lst (ms.map V.int)) h4)
    refine ForL.of (xs := ms.map V.int) (fun i σ H' => ∃ (b5 b6 b7 b8 b9 b10 : Option V) (q : Addr) (rows : List Row) (S : BS) (bw : Bool), σ = [some (.ref a), some (.int most), some (.ref pa), some (.ref pb), some (.ref q), b5, b6, b7, b8, b9, b10] ∧ Same H H' ∧ H' ps = some (.lst (ms.map V.int)) ∧ H' q = some (.lst (rows.map fun r => V.str (rowT r))) ∧ rows.length ≤ 2 * i ∧ (∀ r ∈ rows, r.Small) ∧ RunsTo rows (S.ps.map Prt.core) (S.ls.map Ln.core) S.e bw ∧ S.a = pa ∧ S.b = pb ∧ BOk i H' S ∧ (∀ y ∈ S.ps, H y.l = none ∧ ps ≠ y.l ∧ q ≠ y.l) ∧ q ≠ pa ∧ q ≠ pb)
      ⟨_, _, _, _, _, _, q0, [], ⟨pa, pb, [], [], 0⟩, false, rfl, s4, upd_same, same_new h4 _ _ upd_same, Nat.zero_le _, fun x hx => (nomatch hx), fun q _ _ => ⟨rfl, fun i r h => by cases h⟩, rfl, rfl, BOk.start (same_new h4 _ _ (same_new h3 _ _ (same_new h2 _ _ upd_same))) (same_new h4 _ _ (same_new h3 _ _ upd_same)) (Ne.symm n2), fun x hx => (nomatch hx), n4, n3⟩ ?_ ?_ ?_
    · rintro i σ H' hi ⟨b5, b6, b7, b8, b9, b10, q, rows, S, bw, rfl, sm, hps, _⟩
      exact SqL.of hps
    · rintro i x σ H' hx ⟨b5, b6, b7, b8, b9, b10, q, rows, S, bw, rfl, sm, hps, hq, hrs, hsm, hrun, ea, eb, B, fr, qa, qb⟩
      have hil := (List.getElem?_eq_some_iff.mp hx).1
      rw [List.length_map] at hil
      rw [List.getElem?_map] at hx
      obtain ⟨c, hc, rfl⟩ := Option.map_eq_some_iff.mp hx
      walk_at "rd"
      refine ⟨S, ea.symm, i, B, fun H1 s1 => ⟨S, ea.symm, eb.symm, rfl, i, B.mono s1, by omega, fun q2 rs2 S' H2 off hq2 hl2 a' b' B2 fr2 nq2 qa2 qb2 qy2 pr => ?_⟩⟩
      have hq' : H2 q = some (.lst (rows.map fun r => V.str (rowT r))) := off q _ (s1 _ _ hq) (by rw [ea]; exact qa) (by rw [eb]; exact qb) (fun y hy => (fr y hy).2.2)
      have kH : Same H H2 := fun x o hx => off x o (s1 _ _ (sm _ _ hx)) (by rw [ea]; exact ne_of_none hx h1) (by rw [eb]; exact ne_of_none hx h2') (fun y hy => ne_of_none hx (fr y hy).1)
      have hps' : H2 ps = some (.lst (ms.map V.int)) := off ps _ (s1 _ _ hps) (by rw [ea]; exact n7) (by rw [eb]; exact n6) (fun y hy => (fr y hy).2.1)
      have e2 := B2.e1
      have e0 := B.e0
      obtain ⟨rows2, bw', rfl, sm2, len2, run2⟩ := pr.run hrun e0 (by omega)
      rw [List.length_map] at hl2
      refine ⟨q2, rfl, _, SqL.of hq', _, SqL.of hq2, by rw [sizeLine_eq, List.length_map, List.length_map]; omega, fun p hp => ⟨kH.trans (same_new hp), same_new hp _ _ hps', rows ++ rows2, by rw [upd_same, List.map_append], by rw [List.length_append]; omega, fun r hr => (List.mem_append.mp hr).elim (hsm r) (sm2 r), S', bw', run2, a'.trans ea, b'.trans eb, B2.mono (same_new hp), fun y hy => ⟨?_, ?_, ?_⟩, ?_, ?_⟩⟩
      · rcases fr2 y hy with z | z
        · obtain ⟨y', hy', e⟩ := List.mem_map.mp z
          rw [← e]; exact (fr y' hy').1
        · cases e : H y.l with
          | none => rfl
          | some o => rw [s1 _ _ (sm _ _ e)] at z; cases z
      · rcases fr2 y hy with z | z
        · obtain ⟨y', hy', e⟩ := List.mem_map.mp z
          rw [← e]; exact (fr y' hy').2.1
        · exact ne_of_none (s1 _ _ hps) z
      · exact Ne.symm (ne_of_none (B2.pm.at_ y hy).2 hp)
      · have := B2.pm.top
        rw [a', ea] at this
        exact Ne.symm (ne_of_none this hp)
      · have := B2.lm.top
        rw [b', eb] at this
        exact Ne.symm (ne_of_none this hp)
    · rintro σ H' ⟨b5, b6, b7, b8, b9, b10, q, rows, S, bw, rfl, sm, hps, hq, hrs, hsm, hrun, ea, eb, B, fr, qa, qb⟩
      rw [List.length_map] at B hrs
      have B' := B.up (m := 62) (by omega) (by decide)
      have eb1 := B.e1
      have eb0 := B.e0
      have eb2 : S.e ≤ 61 * 10000001 := by omega
      walk_at "rd"
      refine ⟨S, ea.symm, _, B, fun H1 s1 => ⟨ns, (sm.trans s1).seq hl, by decide, fun m => ⟨.inr ⟨by decide, by decide⟩, by decide, ⟨by decide, by decide⟩, by decide, ⟨by decide, by decide⟩, by decide, by rw [sizeLine_eq]; decide, fun p hp => ⟨by decide, _, SqL.of upd_same, ?_⟩⟩⟩⟩
      have hM : 0 ≤ m * 1583458089 % 2147483647 ∧ m * 1583458089 % 2147483647 < 2147483647 := by omega
      generalize m * 1583458089 % 2147483647 = M at *
      obtain ⟨v, e, hv⟩ := atI_ex (xs := [V.int 0, V.int 1, V.int (M / 5 % 1000), V.int (M / 5 % 1000000000), V.int (most - S.e)]) (i := M % 5) (by simp; omega) (by simp; omega)
      have hv2 : ∃ x : Int, v = .int x ∧ 0 ≤ x ∧ S.e + x ≤ most := by
        simp only [List.mem_cons, List.not_mem_nil, or_false] at hv
        rcases hv with rfl | rfl | rfl | rfl | rfl <;> exact ⟨_, rfl, by omega, by omega⟩
      obtain ⟨x, rfl, hx0, hx1⟩ := hv2
      have sp := same_new (o := HO.lst [V.int 0, V.int 1, V.int (M / 5 % 1000), V.int (M / 5 % 1000000000), V.int (most - S.e)]) hp
      refine ⟨_, e, x, rfl, ⟨by decide, by decide⟩, by omega, by rw [sizeLine_eq]; decide, fun p1 hp1 => ?_⟩
      have sp1 := sp.trans (same_new (o := HO.lst [V.int 0, V.int (S.e + x), V.int (M / 7 % (S.e + x + 1))]) hp1)
      refine ⟨ns, ((sm.trans s1).trans sp1).seq hl, by decide, fun m1 => ⟨by decide, _, SqL.of upd_same, ?_⟩⟩
      obtain ⟨v, e2, hv⟩ := atI_ex (xs := [V.int 0, V.int (S.e + x), V.int (M / 7 % (S.e + x + 1))]) (i := m1 % 3) (by simp; omega) (by simp; omega)
      have hv3 : ∃ y : Int, v = .int y ∧ 0 ≤ y ∧ y ≤ S.e + x := by
        simp only [List.mem_cons, List.not_mem_nil, or_false] at hv
        have p1 := Int.emod_nonneg (M / 7) (by omega : S.e + x + 1 ≠ 0)
        have p2 := Int.emod_lt_of_pos (M / 7) (by omega : 0 < S.e + x + 1)
        rcases hv with rfl | rfl | rfl <;> exact ⟨_, rfl, by omega, by omega⟩
      obtain ⟨y, rfl, hy0, hy1⟩ := hv3
      refine ⟨_, e2, ns, ((sm.trans s1).trans sp1).seq hl, by decide, fun m2 => ?_⟩
      have hk : 0 ≤ m2 / 3 % 17 ∧ m2 / 3 % 17 < 17 := by omega
      generalize m2 / 3 % 17 = kk at *
      have hst : (1 : Int) ≤ 1 * 2 ^ kk.toNat ∧ (1 : Int) * 2 ^ kk.toNat ≤ 65536 := by
        have h1 : kk.toNat ≤ 16 := by omega
        have h2 := Nat.pow_le_pow_right (by decide : 0 < 2) h1
        have h3 := Nat.pow_pos (n := kk.toNat) (by decide : 0 < 2)
        have e : (2 : Int) ^ kk.toNat = ((2 ^ kk.toNat : Nat) : Int) := by rw [Int.natCast_pow]; rfl
        rw [Int.one_mul, e]
        omega
      have hpk : ∃ k : Nat, (1 : Int) * 2 ^ kk.toNat = 2 ^ k := ⟨_, Int.one_mul _⟩
      refine ⟨⟨by decide, by decide⟩, by decide, ⟨by omega, by omega, by omega⟩, ?_⟩
      generalize (1 : Int) * 2 ^ kk.toNat = st at *
      have l1 := lenS (x := st) (by omega) (by omega)
      have l2 := lenS (x := S.e + x) (by omega) (by omega)
      have l3 := lenS (x := y) (by omega) (by omega)
      have lw : (Str.ofString "whole ").length = 6 := by decide +kernel
      have lb : (Str.ofString " ").length = 1 := by decide +kernel
      have sz : ∀ m : Nat, m ≤ 2000 → m ≤ sizeLine := fun m h => by rw [sizeLine_eq]; omega
      refine ⟨l1.2, sz _ (by omega), sz _ (by rw [slen]; omega), l2.2, sz _ (by rw [slen, slen]; omega), sz _ (by rw [slen, slen, slen]; omega), y, rfl, l3.2, sz _ (by rw [slen, slen, slen, slen]; omega), sz _ (by decide), fun p2 hp2 => ?_⟩
      have hz : rowT (.whole st (S.e + x) y) = Str.ofString "whole " ++ Str.ofString (toString st) ++ Str.ofString " " ++ Str.ofString (toString (S.e + x)) ++ Str.ofString " " ++ Str.ofString (toString y) := by rw [rowT_whole]; rfl
      generalize Str.ofString "whole " ++ Str.ofString (toString st) ++ Str.ofString " " ++ Str.ofString (toString (S.e + x)) ++ Str.ofString " " ++ Str.ofString (toString y) = zt at *
      have sa := (s1.trans sp1).trans (same_new (o := HO.lst [V.str zt]) hp2)
      refine ⟨_, SqL.of upd_same, _, SqL.of (sa _ _ hq), by rw [sizeLine_eq]; show 1 + (rows.map _).length ≤ 16777216; rw [List.length_map]; omega, fun p3 hp3 => ⟨sz _ (by decide), fun p4 hp4 => ⟨sz _ (by decide), fun p5 hp5 => ?_⟩⟩⟩
      have sb := (sa.trans (same_new (o := HO.lst ([V.str zt] ++ rows.map fun r => V.str (rowT r))) hp3)).trans (same_new (o := HO.tup [V.int st, V.int (S.e + x), V.int y, V.ref pa, V.ref pb]) hp4)
      have sc := sb.trans (same_new (o := HO.tup [V.ref p3, V.ref p4]) hp5)
      obtain ⟨tk, rn⟩ := hrun.whole (n := st) (sz := S.e + x) (en := y) hst.1 hst.2 hpk (by omega) (by omega) hy0 hy1 (by omega)
      refine k p5 p3 (.whole st (S.e + x) y :: rows) ⟨p4, st, S.e + x, y, 62⟩ S _ (sm.trans sc) upd_same (by rw [same_new hp5 _ _ (same_new hp4 _ _ upd_same), List.map_cons, hz]; rfl) { top := ?_, bok := B'.mono sc, n5 := (by show 62 ≤ 500; decide), s1 := hst.1, s2 := hst.2, z1 := by show S.e ≤ S.e + x; omega, z2 := hx1, e0 := hy0, e1 := Int.le_trans hy1 hx1, pw := hpk } rfl ⟨by simp, by rw [List.length_cons]; omega, fun r hr => ?_, tk, bw, rn⟩
      · show upd _ p5 _ p4 = _
        rw [ea, eb, same_new hp5 _ _ upd_same]
      · rcases List.mem_cons.mp hr with rfl | hr
        · exact ⟨⟨by omega, by omega⟩, ⟨by omega, by omega⟩, ⟨by omega, by omega⟩⟩
        · exact hsm r hr
noncomputable def dCore (x : Int × List Int) : D := .tup [.int x.1, .lst (x.2.map D.int)]
noncomputable def dLn (x : Int × Str × Int) : D := .tup [.int x.1, .str x.2.1, .int x.2.2]
noncomputable def wholeD (W : Whl) (S : BS) : List D := [.int W.st, .int W.sz, .int W.en, .lst ((S.ps.map Prt.core).map dCore), .lst ((S.ls.map Ln.core).map dLn)]
theorem dep_wholeD (W : Whl) (S : BS) : depL (wholeD W S) ≤ 20 := by
  have h1 : depL ((S.ps.map Prt.core).map dCore) ≤ 3 := depL_le fun x _ => by
    have h0 : depL (x.2.map D.int) ≤ 0 := depL_le fun x _ => by simp [dep]
    simp only [dCore, dep, depL]
    omega
  have h2 : depL ((S.ls.map Ln.core).map dLn) ≤ 1 := depL_le fun x _ => by simp [dLn, dep, depL]
  simp only [wholeD, dep, depL]
  omega
theorem rep_whole {H : Hp} {W : Whl} {S : BS} (top : H W.t = some (.tup [.int W.st, .int W.sz, .int W.en, .ref S.a, .ref S.b])) (pm : PM H S.a S.ps) (lm : LM H S.b S.ls) : Rep K H (.tup (wholeD W S)) (.ref W.t) := by
  simp only [Rep]
  refine ⟨_, _, rfl, SqT.of top, ?_⟩
  simp only [wholeD, RepL, Rep]
  refine ⟨_, _, rfl, rfl, _, _, rfl, rfl, _, _, rfl, rfl, _, _, rfl, ⟨_, _, rfl, SqL.of pm.top, ?_⟩, _, _, rfl, ⟨_, _, rfl, SqL.of lm.top, ?_⟩, rfl⟩
  · rw [List.map_map]
    refine RepL.map fun x hx => ?_
    have q := pm.at_ x hx
    simp only [Function.comp, Prt.core, dCore, Rep]
    refine ⟨_, _, rfl, SqT.of q.1, ?_⟩
    simp only [RepL, Rep]
    exact ⟨_, _, rfl, rfl, _, _, rfl, ⟨_, _, rfl, SqL.of q.2, RepL.ints _⟩, rfl⟩
  · rw [List.map_map]
    refine RepL.map fun x hx => ?_
    simp only [Function.comp, Ln.core, dLn, Rep]
    exact ⟨_, _, rfl, SqT.of (lm.at_ x hx), by simp [RepL, Rep]⟩
theorem Alike.d {F W : Whl} {S S' : BS} (h : Alike F W S S') : wholeD F S = wholeD W S' := by unfold wholeD; rw [h.st, h.sz, h.en, h.ps, h.ls]
theorem Rdg.Ok.fnd {H0 H : Hp} {R : Rdg} {S : RS} {m : Nat} {st sz en : Int} {q : Addr} (h : Rdg.Ok A H0 H R S m) (hm : m ≤ 300) (hs : S.st = some (st, sz, en)) (hq : H q = some (.tup [R.st, R.sz, R.en, .ref R.a, .ref R.b])) :
    ∃ S' : BS, FOk H0 H ⟨q, st, sz, en, 0⟩ S' ∧ S'.ps.map Prt.core = S.ps ∧ S'.ls.map Ln.core = S.ls := by
  obtain ⟨qs, q1, q2, q3, q4, q5⟩ := h.ps
  obtain ⟨ts, t1, t2, t3⟩ := h.ls
  obtain ⟨b1, b2, b3⟩ := h.n1
  have hst := h.st
  unfold stV at hst
  rw [hs] at hst
  have e1 : R.st = .int st := congrArg Prod.fst hst
  have e2 : R.sz = .int sz := congrArg (fun z => z.2.1) hst
  have e3 : R.en = .int en := congrArg (fun z => z.2.2) hst
  have ip : ∀ (i : Nat) (x : Prt), ((qs.zip S.ps).map fun y => (⟨y.1.1, y.1.2, y.2.1, y.2.2⟩ : Prt))[i]? = some x → ∃ q y, qs[i]? = some q ∧ S.ps[i]? = some y ∧ x = ⟨q.1, q.2, y.1, y.2⟩ := fun i x e => by
    rw [List.getElem?_map] at e
    obtain ⟨⟨q, y⟩, hz, rfl⟩ := Option.map_eq_some_iff.mp e
    rw [List.getElem?_zip_eq_some] at hz
    exact ⟨q, y, hz.1, hz.2, rfl⟩
  have il : ∀ (i : Nat) (x : Ln), ((ts.zip S.ls).map fun y => (⟨y.1, y.2.1, y.2.2.1, y.2.2.2⟩ : Ln))[i]? = some x → ∃ t y, ts[i]? = some t ∧ S.ls[i]? = some y ∧ x = ⟨t, y.1, y.2.1, y.2.2⟩ := fun i x e => by
    rw [List.getElem?_map] at e
    obtain ⟨⟨q, y⟩, hz, rfl⟩ := Option.map_eq_some_iff.mp e
    rw [List.getElem?_zip_eq_some] at hz
    exact ⟨q, y, hz.1, hz.2, rfl⟩
  have mp : ∀ x ∈ ((qs.zip S.ps).map fun y => (⟨y.1.1, y.1.2, y.2.1, y.2.2⟩ : Prt)), (H x.t = some (.tup [.int x.p, .ref x.l]) ∧ H x.l = some (.lst (x.ws.map V.int)) ∧ x.l ≠ R.a ∧ x.l ≠ R.b ∧ H0 x.l = none) ∧ x.ws.length ≤ m := fun x hx => by
    obtain ⟨i, hi⟩ := List.getElem?_of_mem hx
    obtain ⟨q, y, a, b, rfl⟩ := ip i x hi
    exact ⟨q4 i q y a b, b3 y (List.mem_of_getElem? b)⟩
  have ml : ∀ x ∈ ((ts.zip S.ls).map fun y => (⟨y.1, y.2.1, y.2.2.1, y.2.2.2⟩ : Ln)), H x.a = some (.tup [.int x.p, .str x.r, .int x.t]) := fun x hx => by
    obtain ⟨i, hi⟩ := List.getElem?_of_mem hx
    obtain ⟨q, y, a, b, rfl⟩ := il i x hi
    exact t3 i q y a b
  have z1 : ((qs.zip S.ps).map fun y => (⟨y.1.1, y.1.2, y.2.1, y.2.2⟩ : Prt)).map (fun x => V.ref x.t) = qs.map fun q => V.ref q.1 := by
    rw [List.map_map, show ((fun x : Prt => V.ref x.t) ∘ fun y : (Addr × Addr) × (Int × List Int) => (⟨y.1.1, y.1.2, y.2.1, y.2.2⟩ : Prt)) = (fun q : Addr × Addr => V.ref q.1) ∘ Prod.fst from rfl, ← List.map_map, List.map_fst_zip (by omega)]
  have z2 : ((qs.zip S.ps).map fun y => (⟨y.1.1, y.1.2, y.2.1, y.2.2⟩ : Prt)).map Prt.l = qs.map (·.2) := by
    rw [List.map_map, show (Prt.l ∘ fun y : (Addr × Addr) × (Int × List Int) => (⟨y.1.1, y.1.2, y.2.1, y.2.2⟩ : Prt)) = (fun q : Addr × Addr => q.2) ∘ Prod.fst from rfl, ← List.map_map, List.map_fst_zip (by omega)]
  have z3 : ((ts.zip S.ls).map fun y => (⟨y.1, y.2.1, y.2.2.1, y.2.2.2⟩ : Ln)).map (fun x => V.ref x.a) = ts.map V.ref := by
    rw [List.map_map, show ((fun x : Ln => V.ref x.a) ∘ fun y : Addr × (Int × Str × Int) => (⟨y.1, y.2.1, y.2.2.1, y.2.2.2⟩ : Ln)) = V.ref ∘ Prod.fst from rfl, ← List.map_map, List.map_fst_zip (by omega)]
  refine ⟨⟨R.a, R.b, (qs.zip S.ps).map fun y => ⟨y.1.1, y.1.2, y.2.1, y.2.2⟩, (ts.zip S.ls).map fun y => ⟨y.1, y.2.1, y.2.2.1, y.2.2.2⟩, 0⟩, ⟨?_, ⟨?_, fun x hx => ⟨(mp x hx).1.1, (mp x hx).1.2.1⟩, ?_, fun x hx => (mp x hx).1.2.2.1⟩, ⟨?_, ml⟩, h.ab, fun x hx => (mp x hx).1.2.2.2.1, h.f.2.1, h.f.2.2, fun x hx => (mp x hx).1.2.2.2.2, ?_, ?_, fun x hx => Nat.le_trans (mp x hx).2 hm⟩, ?_, ?_⟩
  · rw [hq, e1, e2, e3]
  · rw [q2]; exact congrArg (fun z => some (HO.lst z)) z1.symm
  · show (((qs.zip S.ps).map fun y => (⟨y.1.1, y.1.2, y.2.1, y.2.2⟩ : Prt)).map Prt.l).Nodup
    rw [z2]; exact q3
  · rw [t2]; exact congrArg (fun z => some (HO.lst z)) z3.symm
  · show ((qs.zip S.ps).map _).length ≤ 300
    rw [List.length_map, List.length_zip]; omega
  · show ((ts.zip S.ls).map _).length ≤ 300
    rw [List.length_map, List.length_zip]; omega
  · show ((qs.zip S.ps).map fun y => (⟨y.1.1, y.1.2, y.2.1, y.2.2⟩ : Prt)).map Prt.core = S.ps
    rw [List.map_map, show (Prt.core ∘ fun y : (Addr × Addr) × (Int × List Int) => (⟨y.1.1, y.1.2, y.2.1, y.2.2⟩ : Prt)) = Prod.snd from rfl, List.map_snd_zip (by omega)]
  · show ((ts.zip S.ls).map fun y => (⟨y.1, y.2.1, y.2.2.1, y.2.2.2⟩ : Ln)).map Ln.core = S.ls
    rw [List.map_map, show (Ln.core ∘ fun y : Addr × (Int × Str × Int) => (⟨y.1, y.2.1, y.2.2.1, y.2.2.2⟩ : Ln)) = Prod.snd from rfl, List.map_snd_zip (by omega)]
theorem RowsOk.text {rows : List Row} {W : Whl} {S : BS} (h : RowsOk rows W S) : JoinOk (Str.ofString "\n") (rows.map rowT) = true ∧ (Txt.join (Str.ofString "\n") (rows.map rowT)).length < sizeLine := by
  have l := h.len
  have lb : (Str.ofString "\n").length = 1 := by decide +kernel
  have b : ∀ t ∈ rows.map rowT, t.length ≤ 1000 := fun t ht => by
    obtain ⟨r, hr, rfl⟩ := List.mem_map.mp ht
    exact (Row.good (h.small r hr)).1
  refine ⟨joinOk_of b ?_, Nat.lt_of_le_of_lt (join_le b) ?_⟩
  · rw [lb, List.length_map]; omega
  · rw [lb, List.length_map, sizeLine_eq]; omega
theorem RowsOk.alike {rows : List Row} {W : Whl} {S : BS} (h : RowsOk rows W S) {H0 H : Hp} {R : Rdg} {q : Addr} (O : Rdg.Ok A H0 H R (runR rows rows.length) rows.length) (hq : H q = some (.tup [R.st, R.sz, R.en, .ref R.a, .ref R.b])) :
    ∃ (F : Whl) (S' : BS), F.t = q ∧ FOk H0 H F S' ∧ Alike F W S' S := by
  obtain ⟨bw, hr⟩ := h.run
  have l := h.len
  rw [hr] at O
  obtain ⟨S', a, b, c⟩ := O.fnd (by omega) rfl hq
  exact ⟨_, S', rfl, a, ⟨rfl, rfl, rfl, b, c⟩⟩
theorem leanAt_snoc (ls : List (Int × Str × Int)) (l : Int × Str × Int) (n : Int) : leanAt (ls ++ [l]) n = if l.1 = n then [.lean l.2.1 l.2.2] else leanAt ls n := by
  unfold leanAt; rw [List.foldl_append]; rfl
theorem snoc_ind {α : Type} {P : List α → Prop} (h0 : P []) (h1 : ∀ xs x, P xs → P (xs ++ [x])) : ∀ xs, P xs := by
  have : ∀ xs : List α, P xs.reverse := fun xs => by
    induction xs with
    | nil => exact h0
    | cons x r ih => rw [List.reverse_cons]; exact h1 _ _ ih
  intro xs
  have := this xs.reverse
  rwa [List.reverse_reverse] at this
theorem leanAt_none : ∀ (ls : List (Int × Str × Int)) {n : Int}, (∀ l ∈ ls, l.1 ≠ n) → leanAt ls n = [] :=
  snoc_ind (P := fun ls => ∀ {n : Int}, (∀ l ∈ ls, l.1 ≠ n) → leanAt ls n = []) (fun {n} _ => rfl) fun xs x ih {n} h => by
    rw [leanAt_snoc, if_neg (h x (by simp))]
    exact ih fun l hl => h l (by simp [hl])
theorem wordRows_succ (ls : List (Int × Str × Int)) (p : Int) (ws : List Int) (i : Nat) : wordRows ls p ws (i + 1) = wordRows ls p ws i ++ (.word (ws.getD i 0) :: leanAt ls (p + (i : Int))) := by
  unfold wordRows; rw [List.range_succ, List.flatMap_append]; simp
theorem wordRows_congr {ls ls' : List (Int × Str × Int)} {p : Int} {ws ws' : List Int} : ∀ {i : Nat}, (∀ j, j < i → ws.getD j 0 = ws'.getD j 0 ∧ leanAt ls (p + (j : Int)) = leanAt ls' (p + (j : Int))) → wordRows ls p ws i = wordRows ls' p ws' i
  | 0, _ => rfl
  | i + 1, h => by
    rw [wordRows_succ, wordRows_succ, wordRows_congr fun j hj => h j (by omega), (h i (by omega)).1, (h i (by omega)).2]
theorem bodyRows_snoc (ps : List (Int × List Int)) (x : Int × List Int) (ls : List (Int × Str × Int)) : bodyRows (ps ++ [x]) ls = bodyRows ps ls ++ partRows ls x := by
  unfold bodyRows; rw [List.flatMap_append]; simp
theorem bodyRows_congr {ls ls' : List (Int × Str × Int)} : ∀ {ps : List (Int × List Int)}, (∀ x ∈ ps, ∀ j : Nat, j < x.2.length → leanAt ls (x.1 + (j : Int)) = leanAt ls' (x.1 + (j : Int))) → bodyRows ps ls = bodyRows ps ls'
  | [], _ => rfl
  | x :: r, h => by
    show partRows ls x ++ bodyRows r ls = partRows ls' x ++ bodyRows r ls'
    rw [bodyRows_congr fun y hy => h y (.tail _ hy)]
    unfold partRows
    rw [wordRows_congr fun j hj => ⟨rfl, h x (.head _) j hj⟩]
theorem getD_app (ws : List Int) (u : Int) {j : Nat} (h : j < ws.length) : (ws ++ [u]).getD j 0 = ws.getD j 0 := by
  rw [List.getD_eq_getElem?_getD, List.getD_eq_getElem?_getD, List.getElem?_append_left h]
theorem getD_last (ws : List Int) (u : Int) : (ws ++ [u]).getD ws.length 0 = u := by
  rw [List.getD_eq_getElem?_getD, List.getElem?_append_right (Nat.le_refl _), Nat.sub_self]; rfl
theorem RI.next {pre : List Row} {S : RS} {r : Row} (h : RI pre S) (hs : S.st ≠ none) (t : S.Takes r) : RI (pre ++ [r]) (S.next r) ∧ (S.next r).st = S.st := by
  obtain ⟨st, ps, ls, e, bw⟩ := S
  obtain ⟨hr, hlt, he, hb⟩ := h
  dsimp only at hr hlt he hb hs
  cases r with
  | whole n sz en => exact absurd t.1 hs
  | part n =>
    obtain ⟨q, hq, t1, t2, t3⟩ := t
    dsimp only at t1
    refine ⟨⟨?_, fun l hl => ?_, .inr ⟨ps, (n, []), rfl, by show n = n + ((0 : Nat) : Int); omega, fun y hy => ?_⟩, fun z => by cases z⟩, rfl⟩
    · show pre ++ [Row.part n] = bodyRows (ps ++ [(n, [])]) ls
      rw [bodyRows_snoc, hr]; rfl
    · have := hlt l hl; show l.1 < n; omega
    · show y.1 + (y.2.length : Int) ≤ n
      rcases he with z | ⟨pi, x, z, z1, z2⟩
      · rw [z] at hy; cases hy
      · rw [z] at hy
        rcases List.mem_append.mp hy with hy | hy
        · have := z2 y hy; omega
        · rw [List.mem_singleton.mp hy]; omega
  | word u =>
    obtain ⟨q, hq, t0, t1, t2, t3⟩ := t
    rcases he with z | ⟨pi, x, z, z1, z2⟩
    · exact absurd z t0
    · subst z
      have ea : addW u (pi ++ [x]) = pi ++ [(x.1, x.2 ++ [u])] := addW_snoc u pi x
      refine ⟨⟨?_, fun l hl => ?_, .inr ⟨pi, (x.1, x.2 ++ [u]), ea, by show e + 1 = x.1 + ((x.2 ++ [u]).length : Int); rw [List.length_append, List.length_singleton]; omega, z2⟩, fun _ => ⟨fun l hl => ?_, pi, x.1, x.2, u, ea⟩⟩, rfl⟩
      · show pre ++ [Row.word u] = bodyRows (addW u (pi ++ [x])) ls
        rw [ea, bodyRows_snoc, hr, bodyRows_snoc]
        unfold partRows
        dsimp only
        rw [List.length_append, List.length_singleton, wordRows_succ, getD_last, leanAt_none ls (n := x.1 + (x.2.length : Int)) fun l hl => by have := hlt l hl; omega,
          wordRows_congr (ws := x.2 ++ [u]) (ws' := x.2) (ls' := ls) fun j hj => ⟨getD_app _ _ hj, rfl⟩]
        simp
      · have := hlt l hl; show l.1 < e + 1; omega
      · have := hlt l hl; show l.1 < e + 1 - 1; omega
  | lean r v =>
    obtain ⟨t0, t1, t2, t3, t4⟩ := t
    obtain ⟨b1, pi, p, ws, u, b2⟩ := hb t1
    rcases he with z | ⟨pi', x, z, z1, z2⟩
    · rw [z] at b2; simp at b2
    · rw [z] at b2
      obtain ⟨rfl, hx⟩ := List.append_inj' b2 rfl
      have hx : x = (p, ws ++ [u]) := by simpa using hx
      subst hx z
      dsimp only at z1 z2 b1
      rw [List.length_append, List.length_singleton] at z1
      refine ⟨⟨?_, fun l hl => ?_, .inr ⟨pi', (p, ws ++ [u]), rfl, by show e = p + ((ws ++ [u]).length : Int); rw [List.length_append, List.length_singleton]; omega, z2⟩, fun z => by cases z⟩, rfl⟩
      · show pre ++ [Row.lean r v] = bodyRows (pi' ++ [(p, ws ++ [u])]) (ls ++ [(e - 1, r, v)])
        have c : ∀ n : Int, n ≠ e - 1 → leanAt (ls ++ [(e - 1, r, v)]) n = leanAt ls n := fun n hn => by rw [leanAt_snoc, if_neg fun z => hn z.symm]
        rw [bodyRows_snoc, hr, bodyRows_snoc, bodyRows_congr (ls := ls ++ [(e - 1, r, v)]) (ls' := ls) fun y hy j hj => c _ (by have := z2 y hy; omega)]
        unfold partRows
        dsimp only
        rw [List.length_append, List.length_singleton, wordRows_succ, wordRows_succ, getD_last, wordRows_congr (ls := ls ++ [(e - 1, r, v)]) (ls' := ls) (ws' := ws ++ [u]) fun j hj => ⟨rfl, c _ (by omega)⟩,
          leanAt_none ls (n := p + (ws.length : Int)) fun l hl => by have := b1 l hl; omega, leanAt_snoc, if_pos (show e - 1 = p + (ws.length : Int) by omega)]
        simp
      · rcases List.mem_append.mp hl with hl | hl
        · exact hlt l hl
        · rw [List.mem_singleton.mp hl]; show e - 1 < e; omega
theorem rows_back {rows : List Row} (ht : ∀ (i : Nat) (r : Row), rows[i]? = some r → (runR rows i).Takes r) : ∀ i : Nat, i < rows.length → ∃ st sz en, (runR rows (i + 1)).st = some (st, sz, en) ∧ ∃ pre, rows.take (i + 1) = .whole st sz en :: pre ∧ RI pre (runR rows (i + 1))
  | 0, hi => by
    have hr : rows[0]? = some rows[0] := List.getElem?_eq_getElem hi
    have t := ht 0 _ hr
    rw [runR_succ hr]
    generalize rows[0] = r at hr t
    have e0 : runR rows 0 = RS0 := rfl
    rw [e0] at t ⊢
    have et : rows.take 1 = [r] := by rw [List.take_succ, hr]; rfl
    cases r with
    | whole n sz en => exact ⟨n, sz, en, rfl, [], et, ⟨rfl, fun l hl => (nomatch hl), .inl rfl, fun z => by cases z⟩⟩
    | part n => obtain ⟨q, hq, _⟩ := t; cases hq
    | word n => obtain ⟨q, hq, _⟩ := t; cases hq
    | lean r n => exact absurd rfl t.1
  | i + 1, hi => by
    obtain ⟨st, sz, en, h1, pre, h2, h3⟩ := rows_back ht i (by omega)
    have hr : rows[i + 1]? = some rows[i + 1] := List.getElem?_eq_getElem hi
    have t := ht (i + 1) _ hr
    rw [runR_succ hr]
    have n := h3.next (by rw [h1]; exact fun z => (nomatch z)) t
    refine ⟨st, sz, en, n.2.trans h1, pre ++ [rows[i + 1]], ?_, n.1⟩
    rw [List.take_succ, h2, hr]; rfl
theorem RowsOk.rowsOf {rows : List Row} {W : Whl} {S : BS} (h : RowsOk rows W S) : rows = rowsOf W.st W.sz W.en (S.ps.map Prt.core) (S.ls.map Ln.core) := by
  obtain ⟨bw, hr⟩ := h.run
  have hl : 0 < rows.length := by cases rows with | nil => exact absurd rfl h.ne | cons _ _ => exact Nat.succ_pos _
  obtain ⟨st, sz, en, h1, pre, h2, h3⟩ := rows_back h.takes (rows.length - 1) (by omega)
  rw [show rows.length - 1 + 1 = rows.length by omega] at h1 h2 h3
  rw [hr] at h1 h3
  cases h1
  rw [List.take_length] at h2
  rw [h2, h3.rows]; rfl
theorem G_lean_rows (T : Txt w K mg A) : FnOk P w K mg base CX0 1 A.lean_rows A.fd_lean_rows ["leans"] sp_leans := by
  refine T.F_lean_rows.ok sc_lean_rows (fun vs H Q E h => ?_) (fun cdv Ar outer s H vs Q E hr h => ?_)
  · obtain ⟨b, ls, rfl, _⟩ := h
    rfl
  · obtain ⟨b, ls, rfl, hL, hn, hR, k⟩ := h
    refine ⟨_, (pss_cons (ps_set (i := 1) sc_lean_rows.nd rfl (by first | exact Or.inl rfl | exact Or.inr rfl) pe_dnewK) (pss_cons (ps_for PassesOwn.never rfl (pi_listK (K := K) rfl (pv 0)) (pg_tupK (K := K) (n := 3) rfl rfl (pgs_cons (pg_name (i := 2) sc_lean_rows.nd rfl (by first | exact Or.inl rfl | exact Or.inr rfl)) (pgs_cons (pg_name (i := 3) sc_lean_rows.nd rfl (by first | exact Or.inl rfl | exact Or.inr rfl)) (pgs_cons (pg_name (i := 4) sc_lean_rows.nd rfl (by first | exact Or.inl rfl | exact Or.inr rfl)) pgs_nil)))) (pss_one (ps_dput (hu_of hr) (pv 1) (pv 2) (pe_lst (pa_cons (pe_joined (pj_cons pe_str (pj_cons (pe_fmt (pv 3)) (pj_cons pe_str (pj_cons (pe_fmt (pv 4)) pj_nil))))) pa_nil)) rfl))) (pss_one (ps_ret (pv 1))))), ?_⟩
    walk_at "rd"
    intro p hp
    refine ForL.of (xs := ls.map fun x => V.ref x.a) (fun i σ H' => ∃ b2 b3 b4 : Option V, σ = [some (.ref b), some (.ref p), b2, b3, b4] ∧ Same H H' ∧ ∃ mem, H' p = some (.dK mem) ∧ mem.length ≤ i ∧ LRs H' mem ((ls.take i).map Ln.core))
      ⟨_, _, _, rfl, same_new hp, [], upd_same, Nat.zero_le _, fun n => rfl⟩ ?_ ?_ ?_
    · rintro i σ H' hi ⟨b2, b3, b4, rfl, sm, _⟩
      exact SqL.of (sm _ _ hL.top)
    · rintro i v σ H' hv ⟨b2, b3, b4, rfl, sm, mem, hm, hl, hR'⟩
      rw [List.getElem?_map] at hv
      obtain ⟨l, hl', rfl⟩ := Option.map_eq_some_iff.mp hv
      have hmem := List.mem_of_getElem? hl'
      have hi := (List.getElem?_eq_some_iff.mp hl').1
      have e1 := hL.at_ l hmem
      walk_at "rd"
      have hr := hR l hmem
      have lt := lenS (x := l.t) (by omega) (by omega)
      have lr : l.r.length ≤ 5 := by rcases hr.1 with e | e | e <;> rw [e] <;> decide +kernel
      have l5 : (Str.ofString "lean ").length = 5 := by decide +kernel
      have l1 : (Str.ofString " ").length = 1 := by decide +kernel
      have sz : ∀ m : Nat, m ≤ 2000 → m ≤ sizeLine := fun m h => by rw [sizeLine_eq]; omega
      refine ⟨_, SqT.of (sm _ _ e1), rfl, _, _, rfl, _, _, rfl, _, _, rfl, rfl, ?_⟩
      simp only [Str.empty_append]
      refine ⟨sz _ (by omega), .inl ⟨_, rfl, sz _ (by omega), sz _ (by rw [slen]; omega), sz _ (by rw [slen, slen]; omega), .inr ⟨_, rfl, lt.2, sz _ (by rw [slen, slen, slen]; omega), sz _ (by rw [slen, slen, slen]; omega), sz _ (by decide), fun p1 hp1 => ?_⟩⟩⟩
      have ez : Str.ofString "lean " ++ l.r ++ Str.ofString " " ++ Str.ofString (toString l.t) = rowT (.lean l.r l.t) := by rw [rowT_lean]; rfl
      rw [ez]
      have s1 := same_new (o := HO.lst [V.str (rowT (.lean l.r l.t))]) hp1
      have e2 := s1 _ _ hm
      have npp : p1 ≠ p := Ne.symm (ne_of_none hm hp1)
      refine ⟨_, DPut.k (k := .inl l.p) e2 (by rw [sizeLine_eq]; omega), same_upd hp (sm.trans s1), _, upd_same, Nat.le_trans (length_putK _ _ _) (by omega), fun n => ?_⟩
      rw [valV_put, take_snoc hl', List.map_append]
      by_cases z : l.p = n
      · subst z
        rw [if_pos rfl]
        refine ⟨p1, rfl, ?_⟩
        rw [upd_ne npp, upd_same]
        show _ = some (HO.lst ((leanAt (_ ++ [l.core]) l.p).map _))
        rw [leanAt_snoc, if_pos (show l.core.1 = l.p from rfl)]; rfl
      · rw [if_neg fun e => z (Sum.inl.inj e).symm]
        have := hR' n
        cases hv : valV mem (.inl n) with
        | none =>
          rw [hv] at this
          show leanAt (_ ++ [l.core]) n = []
          rw [leanAt_snoc, if_neg (show ¬ l.core.1 = n from z)]; exact this
        | some v =>
          rw [hv] at this
          obtain ⟨a, e, ha⟩ := this
          refine ⟨a, e, ?_⟩
          show _ = some (HO.lst ((leanAt (_ ++ [l.core]) n).map _))
          rw [leanAt_snoc, if_neg (show ¬ l.core.1 = n from z), upd_ne (ne_of (s1 _ _ ha) e2 (by intro z; cases z))]
          exact s1 _ _ ha
    · rintro σ H' ⟨b2, b3, b4, rfl, sm, mem, hm, hl, hR'⟩
      walk_at "rd"
      rw [List.length_map, List.take_length] at hR'
      exact k p mem H' sm hm hR'
theorem LRs.mono {H H' : Hp} {mem : List (Key × V)} {ls : List (Int × Str × Int)} (h : LRs H mem ls) (s : Same H H') : LRs H' mem ls := fun n => by
  have := h n
  cases hv : valV mem (.inl n) with
  | none => rw [hv] at this; exact this
  | some v =>
    rw [hv] at this
    obtain ⟨a, e, ha⟩ := this
    exact ⟨a, e, s _ _ ha⟩
theorem body_split {ps : List (Int × List Int)} {ls : List (Int × Str × Int)} {i : Nat} {x : Int × List Int} (h : ps[i]? = some x) : bodyRows ps ls = bodyRows (ps.take i) ls ++ (partRows ls x ++ bodyRows (ps.drop (i + 1)) ls) := by
  obtain ⟨hi, e⟩ := List.getElem?_eq_some_iff.mp h
  have : ps = ps.take i ++ (x :: ps.drop (i + 1)) := by
    rw [← e, List.getElem_cons_drop, List.take_append_drop]
  conv => lhs; rw [this]
  unfold bodyRows
  rw [List.flatMap_append]; rfl
theorem wordRows_le (ls : List (Int × Str × Int)) (p : Int) (ws : List Int) {j k : Nat} (h : j ≤ k) : (wordRows ls p ws j).length ≤ (wordRows ls p ws k).length := by
  induction k with
  | zero => rw [show j = 0 by omega]; exact Nat.le_refl _
  | succ k ih =>
    by_cases z : j = k + 1
    · rw [z]; exact Nat.le_refl _
    · rw [wordRows_succ, List.length_append]; have := ih (by omega); omega
theorem wordRows_mem (ls : List (Int × Str × Int)) (p : Int) (ws : List Int) {j k : Nat} (h : j < k) : Row.word (ws.getD j 0) ∈ wordRows ls p ws k := by
  unfold wordRows
  rw [List.mem_flatMap]
  exact ⟨j, List.mem_range.mpr h, .head _⟩
theorem G_shown_whole (T : Txt w K mg A) : FnOk P w K mg base CX0 2 A.shown_whole A.fd_shown_whole ["whole"] sp_shown := by
  refine T.F_shown_whole.ok sc_shown_whole (fun vs H Q E h => ?_) (fun cdv Ar outer s H vs Q E hr h => ?_)
  · obtain ⟨W, S, rfl, _⟩ := h
    rfl
  · obtain ⟨W, S, rfl, hW, k⟩ := h
    refine ⟨_, (pss_cons (ps_set (i := 1) sc_shown_whole.nd rfl (by first | exact Or.inl rfl | exact Or.inr rfl) (pe_ix (ix_tupK (K := K) rfl) (pv 0) pe_int (fun _ _ => rfl))) (pss_cons (ps_set (i := 2) sc_shown_whole.nd rfl (by first | exact Or.inl rfl | exact Or.inr rfl) (pe_ix (ix_tupK (K := K) rfl) (pv 0) pe_int (fun _ _ => rfl))) (pss_cons (ps_set (i := 3) sc_shown_whole.nd rfl (by first | exact Or.inl rfl | exact Or.inr rfl) (pe_ix (ix_tupK (K := K) rfl) (pv 0) pe_int (fun _ _ => rfl))) (pss_cons (ps_set (i := 4) sc_shown_whole.nd rfl (by first | exact Or.inl rfl | exact Or.inr rfl) (pe_call (G_lean_rows T) (hr.mono (by decide)) rfl T.m_lean_rows T.k_lean_rows T.b_lean_rows .nil pass0 (pa_cons (pe_ix (ix_tupK (K := K) rfl) (pv 0) pe_int (fun _ _ => rfl)) pa_nil))) (pss_cons (ps_set (i := 5) sc_shown_whole.nd rfl (by first | exact Or.inl rfl | exact Or.inr rfl) (pe_lst (pa_cons (pe_joined (pj_cons pe_str (pj_cons (pe_fmt (pv 1)) (pj_cons pe_str (pj_cons (pe_fmt (pv 2)) (pj_cons pe_str (pj_cons (pe_fmt (pv 3)) pj_nil))))))) pa_nil))) (pss_cons (ps_for PassesOwn.never rfl (pi_listK (K := K) rfl (pe_ix (ix_tupK (K := K) rfl) (pv 0) pe_int (fun _ _ => rfl))) (pg_tupK (K := K) (n := 2) rfl rfl (pgs_cons (pg_name (i := 6) sc_shown_whole.nd rfl (by first | exact Or.inl rfl | exact Or.inr rfl)) (pgs_cons (pg_name (i := 7) sc_shown_whole.nd rfl (by first | exact Or.inl rfl | exact Or.inr rfl)) pgs_nil))) (pss_cons (ps_expr (pe_bm PySem.F.plainAttrs_list PySem.F.slot_list_append PySem.F.type_list_append mt_append (pv 5) (pa_cons (pe_joined (pj_cons pe_str (pj_cons (pe_fmt (pv 6)) pj_nil))) pa_nil))) (pss_one (ps_for PassesOwn.never rfl (pi_enum (K := K) rfl rfl T.n_enumerate (pa_cons (pv 7) pa_nil)) (pg_tupK (K := K) (n := 2) rfl rfl (pgs_cons (pg_name (i := 8) sc_shown_whole.nd rfl (by first | exact Or.inl rfl | exact Or.inr rfl)) (pgs_cons (pg_name (i := 9) sc_shown_whole.nd rfl (by first | exact Or.inl rfl | exact Or.inr rfl)) pgs_nil))) (pss_cons (ps_expr (pe_bm PySem.F.plainAttrs_list PySem.F.slot_list_append PySem.F.type_list_append mt_append (pv 5) (pa_cons (pe_joined (pj_cons pe_str (pj_cons (pe_fmt (pv 9)) pj_nil))) pa_nil))) (pss_one (ps_expr (pe_bm PySem.F.plainAttrs_list PySem.F.slot_list_extend PySem.F.type_list_extend mt_extend (pv 5) (pa_cons (pe_dget2 (hu_of hr) (pv 4) (pe_op op_add (pv 6) (pv 8)) (pe_lst pa_nil) ⟨rfl, rfl, rfl, rfl⟩) pa_nil))))))))) (pss_one (ps_ret (pe_bm PySem.F.plainAttrs_str PySem.F.slot_str_join PySem.F.type_str_join (mt_joinK (K := K) rfl) pe_str (pa_cons (pv 5) pa_nil)))))))))), ?_⟩
    walk_at "rd"
    have h0 := hW.small _ (.head _)
    obtain ⟨⟨c1, c2⟩, ⟨c3, c4⟩, ⟨c5, c6⟩⟩ := h0
    have m1 := lenS (x := W.st) (by omega) (by omega)
    have m2 := lenS (x := W.sz) (by omega) (by omega)
    have m3 := lenS (x := W.en) (by omega) (by omega)
    have lw : (Str.ofString "whole ").length = 6 := by decide +kernel
    have lb : (Str.ofString " ").length = 1 := by decide +kernel
    have sz : ∀ m : Nat, m ≤ 2000 → m ≤ sizeLine := fun m h => by rw [sizeLine_eq]; omega
    refine ⟨_, SqT.of hW.top, _, rfl, _, SqT.of hW.top, _, rfl, _, SqT.of hW.top, _, rfl, _, SqT.of hW.top, _, rfl, _, rfl, S.ls, hW.lm, hW.n2, hW.lr, fun d mem H2 s2 hd hR => ?_⟩
    simp only [Str.empty_append]
    refine ⟨sz _ (by omega), .inr ⟨_, rfl, m1.2, sz _ (by rw [slen]; omega), sz _ (by rw [slen, slen]; omega), .inr ⟨_, rfl, m2.2, sz _ (by rw [slen, slen, slen]; omega), sz _ (by rw [slen, slen, slen, slen]; omega), .inr ⟨_, rfl, m3.2, sz _ (by rw [slen, slen, slen, slen, slen]; omega), sz _ (by rw [slen, slen, slen, slen, slen]; omega), ?_⟩⟩⟩⟩
    refine ⟨sz _ (by decide), fun q hq => ?_⟩
    have ez : Str.ofString "whole " ++ Str.ofString (toString W.st) ++ Str.ofString " " ++ Str.ofString (toString W.sz) ++ Str.ofString " " ++ Str.ofString (toString W.en) = rowT (.whole W.st W.sz W.en) := by rw [rowT_whole]; rfl
    rw [ez]
    have s3 := same_new (o := HO.lst [V.str (rowT (.whole W.st W.sz W.en))]) hq
    have hlen := hW.len
    have hsm := hW.small
    refine ⟨_, SqT.of (s3 _ _ (s2 _ _ hW.top)), _, rfl, ?_⟩
    refine ForL.of (xs := S.ps.map fun x => V.ref x.t) (fun i σ H' => ∃ b6 b7 b8 b9 : Option V, σ = [some (.ref W.t), some (.int W.st), some (.int W.sz), some (.int W.en), some (.ref d), some (.ref q), b6, b7, b8, b9] ∧ Same H2 H' ∧ H' q = some (.lst ((Row.whole W.st W.sz W.en :: bodyRows ((S.ps.map Prt.core).take i) (S.ls.map Ln.core)).map fun r => V.str (rowT r))))
      ⟨_, _, _, _, rfl, s3, upd_same⟩ ?_ ?_ ?_
    · rintro i σ H' hi ⟨b6, b7, b8, b9, rfl, sm, _⟩
      exact SqL.of (sm _ _ (s2 _ _ hW.pm.top))
    · rintro i v σ H' hv ⟨b6, b7, b8, b9, rfl, sm, hq'⟩
      rw [List.getElem?_map] at hv
      obtain ⟨x, hx, rfl⟩ := Option.map_eq_some_iff.mp hv
      have hmem := List.mem_of_getElem? hx
      have hxc : (S.ps.map Prt.core)[i]? = some (x.p, x.ws) := by rw [List.getElem?_map, hx]; rfl
      have sp := body_split (ls := S.ls.map Ln.core) hxc
      obtain ⟨e1, e2⟩ := hW.pm.at_ x hmem
      have tk : bodyRows ((S.ps.map Prt.core).take (i + 1)) (S.ls.map Ln.core) = bodyRows ((S.ps.map Prt.core).take i) (S.ls.map Ln.core) ++ partRows (S.ls.map Ln.core) (x.p, x.ws) := by rw [take_snoc hxc, bodyRows_snoc]
      unfold rowsOf at hlen hsm
      rw [sp] at hlen hsm
      rw [tk]
      generalize bodyRows ((S.ps.map Prt.core).take i) (S.ls.map Ln.core) = pre at *
      generalize bodyRows ((S.ps.map Prt.core).drop (i + 1)) (S.ls.map Ln.core) = suf at *
      generalize S.ls.map Ln.core = ls at *
      rw [List.length_cons, List.length_append, List.length_append] at hlen
      have lp : (partRows ls (x.p, x.ws)).length = 1 + (wordRows ls x.p x.ws x.ws.length).length := by show (wordRows ls x.p x.ws x.ws.length).length + 1 = _; omega
      have sp1 := hsm (.part x.p) (by unfold partRows; simp)
      have lx := lenS (x := x.p) (by have := sp1.1; omega) (by have := sp1.2; omega)
      have l5 : (Str.ofString "part ").length = 5 := by decide +kernel
      walk_at "rd"
      simp only [Str.empty_append]
      refine ⟨_, SqT.of (sm _ _ (s2 _ _ e1)), rfl, _, _, rfl, _, _, rfl, rfl, .inl ⟨rfl, _, SqL.of hq'⟩, sz _ (by omega), .inr ⟨_, rfl, lx.2, sz _ (by rw [slen]; omega), sz _ (by rw [slen]; omega), _, hq', by rw [List.length_map, List.length_cons, sizeLine_eq]; omega, ?_⟩⟩
      have ep : Str.ofString "part " ++ Str.ofString (toString x.p) = rowT (.part x.p) := by rw [rowT_part]; rfl
      rw [ep]
      have dq : d ≠ q := ne_of_none hd hq
      refine ForE.of (xs := x.ws.map V.int) (fun j σ H3 => ∃ b8 b9 : Option V, σ = [some (.ref W.t), some (.int W.st), some (.int W.sz), some (.int W.en), some (.ref d), some (.ref q), some (.int x.p), some (.ref x.l), b8, b9] ∧ Same H2 H3 ∧ H3 q = some (.lst ((Row.whole W.st W.sz W.en :: (pre ++ Row.part x.p :: wordRows ls x.p x.ws j)).map fun r => V.str (rowT r))))
        ⟨_, _, rfl, same_upd hq sm, by rw [upd_same]; exact congrArg (fun z => some (HO.lst z)) (by rw [← List.cons_append, List.map_append]; rfl)⟩ ?_ ?_ ?_
      · rintro j σ H3 hj ⟨b8, b9, rfl, sm3, _⟩
        exact SqL.of (sm3 _ _ (s2 _ _ e2))
      · rintro j v σ H3 t hv ⟨b8, b9, rfl, sm3, hq3⟩ ht
        have hj := (List.getElem?_eq_some_iff.mp hv).1
        rw [List.length_map] at hj
        rw [List.getElem?_map] at hv
        obtain ⟨u, hu, rfl⟩ := Option.map_eq_some_iff.mp hv
        have hu' : x.ws.getD j 0 = u := by rw [List.getD_eq_getElem?_getD, hu]; rfl
        have su := hsm (.word u) (by rw [← hu']; exact List.mem_cons_of_mem _ (List.mem_append_right _ (List.mem_append_left _ (List.mem_cons_of_mem _ (wordRows_mem ls x.p x.ws hj)))))
        have lu := lenS (x := u) (by have := su.1; omega) (by have := su.2; omega)
        have lw5 : (Str.ofString "word ").length = 5 := by decide +kernel
        have le1 := wordRows_le ls x.p x.ws (j := j + 1) (k := x.ws.length) (by omega)
        have e3 := wordRows_succ ls x.p x.ws j
        rw [hu'] at e3
        rw [e3] at le1
        rw [List.length_append, List.length_cons] at le1
        have s4 := same_new (o := HO.tup [V.int (j : Int), V.int u]) ht
        have hq4 := s4 _ _ hq3
        walk_at "rd"
        simp only [Str.empty_append]
        refine ⟨_, SqT.of upd_same, rfl, _, _, rfl, _, _, rfl, rfl, .inl ⟨rfl, _, SqL.of hq4⟩, sz _ (by omega), .inr ⟨_, rfl, lu.2, sz _ (by rw [slen]; omega), sz _ (by rw [slen]; omega), _, hq4, by rw [List.length_map, List.length_cons, List.length_append, List.length_cons, sizeLine_eq]; omega, ?_⟩⟩
        have ew : Str.ofString "word " ++ Str.ofString (toString u) = rowT (.word u) := by rw [rowT_word]; rfl
        rw [ew]
        have eL : ((Row.whole W.st W.sz W.en :: (pre ++ Row.part x.p :: wordRows ls x.p x.ws (j + 1))).map fun r => V.str (rowT r)) = ((Row.whole W.st W.sz W.en :: (pre ++ Row.part x.p :: wordRows ls x.p x.ws j)).map fun r => V.str (rowT r)) ++ [V.str (rowT (.word u))] ++ (leanAt ls (x.p + (j : Int))).map fun r => V.str (rowT r) := by
          rw [e3]; simp
        have lL : (((Row.whole W.st W.sz W.en :: (pre ++ Row.part x.p :: wordRows ls x.p x.ws j)).map fun r => V.str (rowT r)) ++ [V.str (rowT (.word u))]).length ≤ 300 := by
          rw [List.length_append, List.length_map, List.length_cons, List.length_append, List.length_cons, List.length_singleton]; omega
        have s5 : Same H2 (upd (upd H3 t (HO.tup [V.int (j : Int), V.int u])) q (HO.lst (((Row.whole W.st W.sz W.en :: (pre ++ Row.part x.p :: wordRows ls x.p x.ws j)).map fun r => V.str (rowT r)) ++ [V.str (rowT (.word u))]))) := same_upd hq (sm3.trans s4)
        have hqq : upd (upd H3 t (HO.tup [V.int (j : Int), V.int u])) q (HO.lst (((Row.whole W.st W.sz W.en :: (pre ++ Row.part x.p :: wordRows ls x.p x.ws j)).map fun r => V.str (rowT r)) ++ [V.str (rowT (.word u))])) q = some (HO.lst (((Row.whole W.st W.sz W.en :: (pre ++ Row.part x.p :: wordRows ls x.p x.ws j)).map fun r => V.str (rowT r)) ++ [V.str (rowT (.word u))])) := upd_same
        generalize ((Row.whole W.st W.sz W.en :: (pre ++ Row.part x.p :: wordRows ls x.p x.ws j)).map fun r => V.str (rowT r)) ++ [V.str (rowT (.word u))] = L at *
        generalize upd (upd H3 t (HO.tup [V.int (j : Int), V.int u])) q (HO.lst L) = Hq at *
        have hdq := s5 _ _ hd
        refine ⟨.inl ⟨rfl, _, SqL.of hqq⟩, .inl ⟨_, .inl hdq⟩, _, rfl, Nat.zero_le _, fun p hp => ?_⟩
        have s6 := same_new (o := HO.lst []) hp
        have rr := hR.mono (s5.trans s6) (x.p + (j : Int))
        have npq : p ≠ q := Ne.symm (ne_of_none hqq hp)
        refine ⟨_, DGet.k (k := .inl (x.p + (j : Int))) (s6 _ _ hdq), ?_⟩
        cases hv : valV mem (.inl (x.p + (j : Int))) with
        | none =>
          rw [hv] at rr
          have rr : leanAt ls (x.p + (j : Int)) = [] := rr
          rw [rr] at eL
          exact ⟨p, rfl, _, s6 _ _ hqq, _, upd_same, by rw [sizeLine_eq]; show L.length + 0 ≤ _; omega, same_upd hq (s5.trans s6), (upd_same).trans (congrArg (fun z => some (HO.lst z)) eL.symm)⟩
        | some v =>
          rw [hv] at rr
          obtain ⟨a, rfl, ha⟩ := rr
          exact ⟨a, rfl, _, s6 _ _ hqq, _, ha, by rw [sizeLine_eq, List.length_map]; omega, same_upd hq (s5.trans s6), (upd_same).trans (congrArg (fun z => some (HO.lst z)) eL.symm)⟩
      · rintro σ H3 ⟨b8, b9, rfl, sm3, hq3⟩
        rw [List.length_map] at hq3
        exact ⟨_, _, _, _, rfl, sm3, hq3⟩
    · rintro σ H' ⟨b6, b7, b8, b9, rfl, sm, hq'⟩
      walk_at "rd"
      rw [List.length_map, ← List.length_map (f := Prt.core), List.take_length] at hq'
      have b : ∀ t ∈ (rowsOf W.st W.sz W.en (S.ps.map Prt.core) (S.ls.map Ln.core)).map rowT, t.length ≤ 1000 := fun t ht => by
        obtain ⟨r, hr, rfl⟩ := List.mem_map.mp ht
        exact (Row.good (hW.small r hr)).1
      have lb2 : (Str.ofString "\n").length = 1 := by decide +kernel
      refine ⟨rfl, (rowsOf W.st W.sz W.en (S.ps.map Prt.core) (S.ls.map Ln.core)).map rowT, by rw [List.map_map]; exact SqL.of hq', joinOk_of b (by rw [lb2, List.length_map]; omega), k _ (s2.trans sm)⟩
theorem core_ix {ps qs : List Prt} (h : qs.map Prt.core = ps.map Prt.core) {i : Nat} {y : Prt} (e : qs[i]? = some y) : ∃ x, ps[i]? = some x ∧ x.p = y.p ∧ x.ws = y.ws := by
  have e1 : (qs.map Prt.core)[i]? = some y.core := by rw [List.getElem?_map, e]; rfl
  rw [h, List.getElem?_map] at e1
  obtain ⟨x, hx, ex⟩ := Option.map_eq_some_iff.mp e1
  exact ⟨x, hx, congrArg (·.1) ex, congrArg (·.2) ex⟩
theorem core_mem {ps qs : List Prt} (h : qs.map Prt.core = ps.map Prt.core) {y : Prt} (e : y ∈ qs) : ∃ x ∈ ps, x.p = y.p ∧ x.ws = y.ws := by
  obtain ⟨i, hi, ei⟩ := List.getElem_of_mem e
  obtain ⟨x, hx, r⟩ := core_ix h (i := i) (y := y) (by rw [List.getElem?_eq_getElem hi, ei])
  exact ⟨x, List.mem_of_getElem? hx, r⟩
theorem endP_core {ps qs : List Prt} (h : qs.map Prt.core = ps.map Prt.core) : endP qs = endP ps := by
  unfold endP
  have e : (qs.map Prt.core).getLast? = (ps.map Prt.core).getLast? := by rw [h]
  rw [List.getLast?_map, List.getLast?_map] at e
  cases h1 : qs.getLast? with
  | none =>
    rw [h1] at e
    cases h2 : ps.getLast? with
    | none => rfl
    | some x => rw [h2] at e; cases e
  | some y =>
    rw [h1] at e
    cases h2 : ps.getLast? with
    | none => rw [h2] at e; cases e
    | some x =>
      rw [h2] at e
      have e := Option.some.inj e
      show y.p + (y.ws.length : Int) = x.p + (x.ws.length : Int)
      rw [show y.p = x.p from congrArg (·.1) e, show y.ws = x.ws from congrArg (·.2) e]
theorem BOk.other {n : Nat} {H H' : Hp} {S : BS} (B : BOk n H S) {a b : Addr} {qs : List Prt} (h : qs.map Prt.core = S.ps.map Prt.core) (pm : PM H' a qs) (lm : LM H' b S.ls) (ab : a ≠ b) (nb : ∀ x ∈ qs, x.l ≠ b) : BOk n H' ⟨a, b, qs, S.ls, S.e⟩ where
  pm := pm
  lm := lm
  ab := ab
  nb := nb
  ord := ⟨fun y hy => by obtain ⟨x, hx, e1, _⟩ := core_mem h hy; rw [← e1]; exact B.ord.pos x hx, fun y hy => by obtain ⟨x, hx, e1, e2⟩ := core_mem h hy; rw [← e1, ← e2]; exact B.ord.le x hx,
    fun i j y z hij hi hj => by
      obtain ⟨x, hx, e1, e2⟩ := core_ix h hi
      obtain ⟨x', hx', e1', e2'⟩ := core_ix h hj
      rw [← e1, ← e2, ← e1']; exact B.ord.ap i j x x' hij hx hx'⟩
  ws := fun y hy => by obtain ⟨x, hx, _, e2⟩ := core_mem h hy; rw [← e2]; exact B.ws x hx
  rr := B.rr
  lk := fun l hl => by
    obtain ⟨x, hx, h1, h2⟩ := B.lk l hl
    obtain ⟨y, hy, e1, e2⟩ := core_mem h.symm hx
    exact ⟨y, hy, by rw [e1]; exact h1, by rw [e1, e2]; exact h2⟩
  ln := B.ln
  en := by show S.e = endP qs; rw [endP_core h]; exact B.en
  e0 := B.e0
  e1 := B.e1
  n1 := by have := congrArg List.length h; simp only [List.length_map] at this; show qs.length ≤ n; rw [this]; exact B.n1
  n2 := B.n2
  n3 := fun y hy => by obtain ⟨x, hx, _, e2⟩ := core_mem h hy; rw [← e2]; exact B.n3 x hx
  n4 := B.n4
theorem G__law_copy (T : Txt w K mg A) : FnOk P w K mg base CX0 2 A._law_copy A.fd__law_copy ["_law_whole"] sp_copy := by
  refine T.F__law_copy.ok sc__law_copy (fun vs H Q E h => ?_) (fun cdv Ar outer s H vs Q E hr h => ?_)
  · obtain ⟨W, S, rfl, _⟩ := h
    rfl
  · obtain ⟨W, S, rfl, hW, k⟩ := h
    refine ⟨_, (pss_one (ps_ret (pe_op (op_catTK (K := K) rfl) (pe_slice (sl_tupK (K := K) rfl) (pv 0) po_none (po_some pe_int)) (pe_tup (pa_cons (pe_comp (blk_mk (own := ["_law_place", "_law_words"]) (fr := []) (fm := []) rfl (by decide +kernel) (by decide +kernel) (by decide +kernel) .nil) rfl (pi_listK (K := K) rfl (pe_ix (ix_tupK (K := K) rfl) (pv 0) pe_int (fun _ _ => rfl))) (fun _ _ _ => ⟨(pg_tupK (K := K) (n := 2) rfl rfl (pgs_cons (pg_name (i := 0) (by show List.Nodup (["_law_place", "_law_words"] : List Str); decide +kernel) rfl (by first | exact Or.inl rfl | exact Or.inr rfl)) (pgs_cons (pg_name (i := 1) (by show List.Nodup (["_law_place", "_law_words"] : List Str); decide +kernel) rfl (by first | exact Or.inl rfl | exact Or.inr rfl)) pgs_nil))), pts_nil, (pe_tup (pa_cons (pv 0) (pa_cons (pe_callTy (call_list_ofK (K := K) rfl) (by rfl) T.n_list bt_list (pa_cons (pv 1) pa_nil)) pa_nil)))⟩)) (pa_cons (pe_callTy (call_list_ofK (K := K) rfl) (by rfl) T.n_list bt_list (pa_cons (pe_ix (ix_tupK (K := K) rfl) (pv 0) pe_int (fun _ _ => rfl)) pa_nil)) pa_nil)))))), ?_⟩
    walk_at "rd"
    have n5 := hW.n5
    refine ⟨_, SqT.of hW.top, by show ¬(HT.sIx 5 0 none = 0 ∧ HT.sIx 5 5 (some 3) = 5); decide, fun p0 hp0 => ?_⟩
    have sp0 := same_new (o := HO.tup (cutV [V.int W.st, V.int W.sz, V.int W.en, V.ref S.a, V.ref S.b] none (some 3))) hp0
    have hp1 : upd H p0 (HO.tup (cutV [V.int W.st, V.int W.sz, V.int W.en, V.ref S.a, V.ref S.b] none (some 3))) p0 = some (HO.tup [V.int W.st, V.int W.sz, V.int W.en]) := upd_same
    generalize eH : upd H p0 (HO.tup (cutV [V.int W.st, V.int W.sz, V.int W.en, V.ref S.a, V.ref S.b] none (some 3))) = H1 at *
    have back : ∀ {x : Addr}, H1 x = none → H x = none := fun {x} h => by
      cases e : H x with
      | none => rfl
      | some o => rw [sp0 _ _ e] at h; cases h
    have hW := hW.mono sp0
    have B := hW.bok
    have bn := B.n1
    refine ⟨_, SqT.of hW.top, _, rfl, ?_⟩
    refine CompL.of (xs := S.ps.map fun x => V.ref x.t) (by rw [List.length_map, sizeLine_eq]; omega) (SqL.of B.pm.top) (fun D i ys H' => ∃ qs : List Prt, ys = qs.map (fun x => V.ref x.t) ∧ qs.map Prt.core = (S.ps.take i).map Prt.core ∧ (∀ y ∈ qs, H' y.t = some (.tup [.int y.p, .ref y.l]) ∧ H' y.l = some (.lst (y.ws.map V.int)) ∧ H1 y.l = none ∧ y.l ≠ D) ∧ (qs.map Prt.l).Nodup ∧ Same H1 H' ∧ H' D = some (.lst ys)) (fun D hD => ⟨[], rfl, rfl, fun y hy => (nomatch hy), .nil, same_new hD, upd_same⟩) ?_ ?_ ?_
    · rintro D i ys H' hD hi ⟨qs, e, ec, _, _, sm, hDD⟩
      rw [List.length_map] at hi
      refine ⟨SqL.of (sm _ _ B.pm.top), hDD, ?_⟩
      have := congrArg List.length ec
      rw [List.length_map, List.length_map, List.length_take] at this
      rw [e, List.length_map]; omega
    · rintro D i x ys H' hD hx ⟨qs, e, ec, hqs, nd, sm, hDD⟩
      rw [List.getElem?_map] at hx
      obtain ⟨y, hy, rfl⟩ := Option.map_eq_some_iff.mp hx
      have hym := List.mem_of_getElem? hy
      have ay := B.pm.at_ y hym
      walk_at "rd"
      refine ⟨_, SqT.of (sm _ _ ay.1), rfl, _, _, rfl, _, _, rfl, rfl, .no (.no .nil), _, rfl, _, .inl (SqL.of (sm _ _ ay.2)), fun l hl => ⟨by rw [sizeLine_eq]; decide, fun p hp => ?_⟩⟩
      obtain ⟨n1, hp'⟩ := free_of hp
      have hDl : D ≠ l := ne_of_none hDD hl
      have hDp : D ≠ p := ne_of_none hDD hp'
      have old : ∀ {z : Addr} {o o' : HO}, H' z = some o → z ≠ D → upd (upd (upd H' l (HO.lst (y.ws.map V.int))) p (HO.tup [V.int y.p, V.ref l])) D o' z = some o := fun {z o o'} h h2 => by
        rw [upd_ne h2, upd_ne (ne_of_none h hp'), upd_ne (ne_of_none h hl)]; exact h
      refine ⟨by rw [upd_ne hDp, upd_ne hDl]; exact hDD, qs ++ [⟨p, l, y.p, y.ws⟩], by rw [e, List.map_append]; rfl, by rw [take_snoc hy, List.map_append, List.map_append, ec]; rfl, fun z hz => ?_, ?_, same_upd hD ((sm.trans (same_new hl)).trans (same_new hp)), upd_same⟩
      · rcases List.mem_append.mp hz with h | h
        · obtain ⟨c1, c2, c3, c4⟩ := hqs z h
          exact ⟨old c1 (ne_of c1 hDD (by intro z; cases z)), old c2 c4, c3, c4⟩
        · rw [List.mem_singleton.mp h]
          refine ⟨?_, ?_, ?_, Ne.symm hDl⟩
          · show upd _ D _ p = _
            rw [upd_ne (Ne.symm hDp), upd_same]
          · show upd _ D _ l = _
            rw [upd_ne (Ne.symm hDl), upd_ne (Ne.symm n1), upd_same]
          · cases e : H1 l with
            | none => rfl
            | some o => rw [sm _ _ e] at hl; cases hl
      · rw [List.map_append, List.nodup_append]
        refine ⟨nd, by simp, fun a ha b hb => ?_⟩
        obtain ⟨z, hz, rfl⟩ := List.mem_map.mp ha
        simp only [List.map_cons, List.map_nil, List.mem_singleton] at hb
        rw [hb]; exact ne_of_none (hqs z hz).2.1 hl
    · rintro D ys H' hD ⟨qs, e, ec, hqs, nd, sm, hDD⟩
      rw [List.length_map, List.take_length] at ec
      have top' := sm _ _ hW.top
      refine ⟨_, SqT.of top', _, rfl, _, rfl, _, .inl (SqL.of (sm _ _ B.lm.top)), fun l hl => ⟨by rw [sizeLine_eq]; decide, fun p2 hp2 => ?_⟩⟩
      have sl := same_new (o := HO.lst (S.ls.map fun x => V.ref x.a)) hl
      have sl2 := sl.trans (same_new (o := HO.tup [V.ref D, V.ref l]) hp2)
      refine ⟨_, SqT.of (sl2 _ _ (sm _ _ hp1)), _, SqT.of upd_same, by show [V.int W.st, V.int W.sz, V.int W.en] ≠ []; simp, by rw [sizeLine_eq]; show 3 + 2 ≤ 16777216; decide, fun h => (nomatch h), fun _ p3 hp3 => ?_⟩
      have s3 := sl2.trans (same_new (o := HO.tup ([V.int W.st, V.int W.sz, V.int W.en] ++ [V.ref D, V.ref l])) hp3)
      have sall := sm.trans s3
      have hlH : H1 l = none := by
        cases e : H1 l with
        | none => rfl
        | some o => rw [sm _ _ e] at hl; cases hl
      have hDl : D ≠ l := ne_of_none hDD hl
      rw [e] at hDD
      have bl : upd (upd (upd H' l _) p2 (HO.tup [V.ref D, V.ref l])) p3 (HO.tup ([V.int W.st, V.int W.sz, V.int W.en] ++ [V.ref D, V.ref l])) l = some (HO.lst (S.ls.map fun x => V.ref x.a)) := same_new hp3 _ _ (same_new hp2 _ _ upd_same)
      refine k ⟨p3, W.st, W.sz, W.en, W.n⟩ ⟨D, l, qs, S.ls, S.e⟩ _ (sp0.trans sall) { top := upd_same, bok := ?_, n5 := hW.n5, s1 := hW.s1, s2 := hW.s2, z1 := hW.z1, z2 := hW.z2, e0 := hW.e0, e1 := hW.e1, pw := hW.pw } rfl rfl rfl ec rfl rfl (back hD) (back hlH) (fun y hy => back (hqs y hy).2.2.1)
      exact B.other ec ⟨s3 _ _ hDD, fun y hy => ⟨s3 _ _ (hqs y hy).1, s3 _ _ (hqs y hy).2.1⟩, nd, fun y hy => (hqs y hy).2.2.2⟩ ⟨bl, fun x hx => sall _ _ (B.lm.at_ x hx)⟩ hDl (fun y hy => ne_of_none (hqs y hy).2.1 hl)
theorem flatMap_inj {α β : Type} {f g : α → List β} : ∀ {xs : List α}, (∀ x ∈ xs, (f x).length = (g x).length) → xs.flatMap f = xs.flatMap g → ∀ x ∈ xs, f x = g x
  | [], _, _, x, hx => nomatch hx
  | y :: r, h, e, x, hx => by
    have e : f y ++ r.flatMap f = g y ++ r.flatMap g := e
    obtain ⟨e1, e2⟩ := List.append_inj e (h y (.head _))
    rcases List.mem_cons.mp hx with rfl | hx
    · exact e1
    · exact flatMap_inj (fun x hx => h x (.tail _ hx)) e2 x hx
theorem nS_inj {t t' : Int} (h1 : -9999999999 ≤ t) (h2 : t ≤ 9999999999) (h1' : -9999999999 ≤ t') (h2' : t' ≤ 9999999999) (h : nS t = nS t') : t = t' := by
  have e := numF_str (lo := -9999999999) (hi := 9999999999) h1 h2
  have e' := numF_str (lo := -9999999999) (hi := 9999999999) h1' h2'
  rw [if_pos ⟨h1, h2⟩] at e
  rw [if_pos ⟨h1', h2'⟩] at e'
  have : Str.ofString (toString t) = Str.ofString (toString t') := h
  rw [this, e'] at e
  exact (V.int.inj e).symm
theorem leanRow_inj {r : Str} {t t' : Int} (hr : isR r) (h1 : -9999999999 ≤ t) (h2 : t ≤ 9999999999) (h1' : -9999999999 ≤ t') (h2' : t' ≤ 9999999999) (h : rowT (.lean r t) = rowT (.lean r t')) : t = t' := by
  unfold rowT at h
  rw [txt_join, txt_join, sp_one] at h
  have e := join_inj (Row.ne _) (Row.ne _) (Row.good (r := .lean r t) ⟨hr, h1, h2⟩).2.2 (Row.good (r := .lean r t') ⟨hr, h1', h2'⟩).2.2 h
  have e : nS t = nS t' := by
    have e2 : [Str.ofString "lean", r, nS t] = [Str.ofString "lean", r, nS t'] := e
    simpa using e2
  exact nS_inj h1 h2 h1' h2' e
theorem leanAt_len {ls : List (Int × Str × Int)} {p : Int} {r : Str} {t t' : Int} (n : Int) : (leanAt (ls ++ [(p, r, t)]) n).length = (leanAt (ls ++ [(p, r, t')]) n).length := by
  rw [leanAt_snoc, leanAt_snoc]
  by_cases z : p = n
  · rw [if_pos z, if_pos z]; rfl
  · rw [if_neg z, if_neg z]
theorem wordRows_len {ls ls' : List (Int × Str × Int)} (h : ∀ n, (leanAt ls n).length = (leanAt ls' n).length) (p : Int) (ws : List Int) : ∀ i : Nat, (wordRows ls p ws i).length = (wordRows ls' p ws i).length
  | 0 => rfl
  | i + 1 => by rw [wordRows_succ, wordRows_succ, List.length_append, List.length_append, List.length_cons, List.length_cons, wordRows_len h p ws i, h]
theorem bodyRows_len {ls ls' : List (Int × Str × Int)} (h : ∀ n, (leanAt ls n).length = (leanAt ls' n).length) : ∀ ps : List (Int × List Int), (bodyRows ps ls).length = (bodyRows ps ls').length
  | [] => rfl
  | x :: r => by
    show (partRows ls x ++ bodyRows r ls).length = (partRows ls' x ++ bodyRows r ls').length
    rw [List.length_append, List.length_append, bodyRows_len h r]
    show (wordRows ls x.1 x.2 x.2.length).length + 1 + _ = (wordRows ls' x.1 x.2 x.2.length).length + 1 + _
    rw [wordRows_len h]
theorem bodyRows_mem {ls ls' : List (Int × Str × Int)} {ps : List (Int × List Int)} {r : Row} (h : r ∈ bodyRows ps ls') (hl : ∀ n, r ∈ leanAt ls' n → r ∈ leanAt ls n) : r ∈ bodyRows ps ls := by
  obtain ⟨x, hx, hr⟩ := List.mem_flatMap.mp h
  refine List.mem_flatMap.mpr ⟨x, hx, ?_⟩
  rcases List.mem_cons.mp hr with e | hr
  · exact List.mem_cons.mpr (.inl e)
  · refine List.mem_cons.mpr (.inr ?_)
    obtain ⟨j, hj, hr⟩ := List.mem_flatMap.mp hr
    refine List.mem_flatMap.mpr ⟨j, hj, ?_⟩
    rcases List.mem_cons.mp hr with e | hr
    · exact List.mem_cons.mpr (.inl e)
    · exact List.mem_cons.mpr (.inr (hl _ hr))
theorem bodyRows_small {ls : List (Int × Str × Int)} {p : Int} {z : Str} {t t' : Int} {ps : List (Int × List Int)} (hz : isR z) (h1 : -9999999999 ≤ t') (h2 : t' ≤ 9999999999) (h : ∀ r ∈ bodyRows ps (ls ++ [(p, z, t)]), r.Small) : ∀ r ∈ bodyRows ps (ls ++ [(p, z, t')]), r.Small := by
  intro r hr
  by_cases e : r = .lean z t'
  · rw [e]; exact ⟨hz, h1, h2⟩
  · refine h r (bodyRows_mem hr fun n hn => ?_)
    rw [leanAt_snoc] at hn ⊢
    by_cases q : p = n
    · rw [if_pos q] at hn
      exact absurd (List.mem_singleton.mp hn) e
    · rw [if_neg q] at hn ⊢; exact hn
theorem body_text_inj {ls : List (Int × Str × Int)} {p : Int} {z : Str} {t t' : Int} {ps : List (Int × List Int)} {x : Int × List Int} (hx : x ∈ ps) (hp1 : x.1 ≤ p) (hp2 : p < x.1 + (x.2.length : Int))
    (h : (bodyRows ps (ls ++ [(p, z, t)])).map rowT = (bodyRows ps (ls ++ [(p, z, t')])).map rowT) : rowT (.lean z t) = rowT (.lean z t') := by
  unfold bodyRows at h
  rw [List.map_flatMap, List.map_flatMap] at h
  have ll := leanAt_len (ls := ls) (p := p) (r := z) (t := t) (t' := t')
  have e1 := flatMap_inj (fun y _ => by
    rw [List.length_map, List.length_map]
    show (wordRows _ y.1 y.2 y.2.length).length + 1 = (wordRows _ y.1 y.2 y.2.length).length + 1
    rw [wordRows_len ll]) h x hx
  have e2 : (wordRows (ls ++ [(p, z, t)]) x.1 x.2 x.2.length).map rowT = (wordRows (ls ++ [(p, z, t')]) x.1 x.2 x.2.length).map rowT := (List.cons.inj e1).2
  unfold wordRows at e2
  rw [List.map_flatMap, List.map_flatMap] at e2
  have hj : (p - x.1).toNat < x.2.length := by omega
  have e3 := flatMap_inj (fun j _ => by rw [List.length_map, List.length_map, List.length_cons, List.length_cons, ll]) e2 (p - x.1).toNat (List.mem_range.mpr hj)
  have e4 := (List.cons.inj e3).2
  have ep : p = x.1 + (((p - x.1).toNat : Nat) : Int) := by omega
  rw [leanAt_snoc, leanAt_snoc, if_pos ep, if_pos ep] at e4
  exact (List.cons.inj e4).1
theorem LM.rep {H : Hp} {b : Addr} {ls : List Ln} (h : LM H b ls) : Rep K H (.lst ((ls.map Ln.core).map dLn)) (.ref b) := by
  simp only [Rep]
  refine ⟨_, _, rfl, SqL.of h.top, ?_⟩
  rw [List.map_map]
  refine RepL.map fun x hx => ?_
  simp only [Function.comp, Ln.core, dLn, Rep]
  exact ⟨_, _, rfl, SqT.of (h.at_ x hx), by simp [RepL, Rep]⟩
theorem leans_nil {H : Hp} {b q : Addr} {ls : List Ln} {R : Bool → Hp → Prop} (h : LM H b ls) (hq : H q = none) (k1 : ls = [] → R true (upd H q (HO.lst []))) (k2 : ls ≠ [] → R false (upd H q (HO.lst []))) :
    rEqD K (V.ref b) (V.ref q) (upd H q (HO.lst [])) fun x H' => ∃ k, x = V.bl k ∧ R k H' := by
  refine ⟨(ls.map Ln.core).map dLn, [], .inl ⟨(h.mono (same_new hq)).rep, ⟨q, [], rfl, SqL.of upd_same, by simp [RepL]⟩⟩, Nat.le_trans (depL_le (n := 1) fun x hx => ?_) (by decide), _, rfl, ?_⟩
  · obtain ⟨y, _, rfl⟩ := List.mem_map.mp hx
    simp [dLn, dep, depL]
  · rw [deqL_nil]
    by_cases z : ls = []
    · rw [decide_eq_true (by rw [z]; rfl)]; exact k1 z
    · rw [decide_eq_false (fun e => z (List.map_eq_nil_iff.mp (List.map_eq_nil_iff.mp e)))]; exact k2 z
theorem ixN_last {α : Type} {xs : List α} {x : α} : ixN (xs ++ [x]).length (-1) = some xs.length := by
  unfold ixN
  rw [if_neg (by decide), if_pos (by rw [List.length_append, List.length_singleton]; omega)]
  congr 1
  rw [List.length_append, List.length_singleton]; omega
theorem set_last {α : Type} {xs : List α} {x y : α} : (xs ++ [x]).set xs.length y = xs ++ [y] := by
  rw [List.set_append_right _ _ (Nat.le_refl _), Nat.sub_self]; rfl
theorem txt_inj {st sz en : Int} {rows rows' : List Row} (hs : ∀ r ∈ Row.whole st sz en :: rows, r.Small) (hs' : ∀ r ∈ Row.whole st sz en :: rows', r.Small) (h : Txt.join (Str.ofString "\n") ((Row.whole st sz en :: rows).map rowT) = Txt.join (Str.ofString "\n") ((Row.whole st sz en :: rows').map rowT)) : rows.map rowT = rows'.map rowT := by
  rw [txt_join, txt_join, nl_one] at h
  have e := join_inj (by simp) (by simp) (fun p hp => by obtain ⟨r, hr, rfl⟩ := List.mem_map.mp hp; exact (Row.good (hs r hr)).2.1) (fun p hp => by obtain ⟨r, hr, rfl⟩ := List.mem_map.mp hp; exact (Row.good (hs' r hr)).2.1) h
  exact (List.cons.inj e).2
theorem shw_of {H : Hp} {F W : Whl} {S2 S : BS} {rows : List Row} (hR : RowsOk rows W S) (hrr : ∀ l ∈ S.ls, isR l.r ∧ -9999999999 ≤ l.t ∧ l.t ≤ 9999999999) (al : Alike F W S2 S)
    (top : H F.t = some (.tup [.int F.st, .int F.sz, .int F.en, .ref S2.a, .ref S2.b])) (pm : PM H S2.a S2.ps) (lm : LM H S2.b S2.ls) (n2 : S2.ls.length ≤ 500) : Shw H F S2 ∧ txtOf F S2 = Txt.join (Str.ofString "\n") (rows.map rowT) := by
  have e : rowsOf F.st F.sz F.en (S2.ps.map Prt.core) (S2.ls.map Ln.core) = rows := by rw [al.st, al.sz, al.en, al.ps, al.ls]; exact hR.rowsOf.symm
  refine ⟨⟨top, pm, lm, by rw [e]; exact hR.small, by rw [e]; have := hR.len; omega, fun l hl => ?_, n2⟩, by unfold txtOf; rw [e]⟩
  have hm : l.core ∈ S.ls.map Ln.core := by rw [← al.ls]; exact List.mem_map.mpr ⟨l, hl, rfl⟩
  obtain ⟨y, hy, ey⟩ := List.mem_map.mp hm
  have := hrr y hy
  have e1 : y.r = l.r := congrArg (fun z => z.2.1) ey
  have e2 : y.t = l.t := congrArg (fun z => z.2.2) ey
  rw [e1, e2] at this
  exact this
theorem G__law_turned_otherwise (T : Txt w K mg A) : FnOk P w K mg base CX0 3 A._law_turned_otherwise A.fd__law_turned_otherwise ["_law_whole", "_law_text"] sp_turn := by
  refine T.F__law_turned_otherwise.ok sc__law_turned_otherwise (fun vs H Q E h => ?_) (fun cdv Ar outer s H vs Q E hr h => ?_)
  · obtain ⟨W, S, rfl, _⟩ := h
    rfl
  · obtain ⟨W, S, rfl, hW, hS, k⟩ := h
    refine ⟨_, (pss_cons (ps_if (pt_cmpR (op_eqDK hr.units (K := K) rfl) (pe_ix (ix_tupK (K := K) rfl) (pv 0) pe_int (fun _ _ => rfl)) (pe_lst pa_nil) (nomark _)) (pss_one (ps_ret pe_bl)) pss_nil) (pss_cons (ps_set (i := 2) sc__law_turned_otherwise.nd rfl (by first | exact Or.inl rfl | exact Or.inr rfl) (pe_ix (ix_listK (K := K) rfl) (pe_ix (ix_tupK (K := K) rfl) (pv 0) pe_int (fun _ _ => rfl)) (pe_un un_neg pe_int) (fun _ _ => rfl))) (pss_cons (ps_asg (pe_tup (pa_cons (pe_ix (ix_tupK (K := K) rfl) (pv 2) pe_int (fun _ _ => rfl)) (pa_cons (pe_ix (ix_tupK (K := K) rfl) (pv 2) pe_int (fun _ _ => rfl)) (pa_cons (pe_op op_sub pe_int (pe_op op_fdiv (pe_ix (ix_tupK (K := K) rfl) (pv 2) pe_int (fun _ _ => rfl)) pe_int)) pa_nil)))) (pg_sub (pe_ix (ix_tupK (K := K) rfl) (pv 0) pe_int (fun _ _ => rfl)) (pe_un un_neg pe_int) set_list)) (pss_cons (ps_set (i := 3) sc__law_turned_otherwise.nd rfl (by first | exact Or.inl rfl | exact Or.inr rfl) (pe_call (G_shown_whole T) (hr.mono (by decide)) rfl T.m_shown_whole T.k_shown_whole T.b_shown_whole .nil pass0 (pa_cons (pv 0) pa_nil))) (pss_cons (ps_set (i := 4) sc__law_turned_otherwise.nd rfl (by first | exact Or.inl rfl | exact Or.inr rfl) (pe_cmpR (op_eqDK hr.units (K := K) rfl) (pe_ix (ix_listK (K := K) rfl) (pe_ix (ix_tupK (K := K) rfl) (pv 0) pe_int (fun _ _ => rfl)) (pe_un un_neg pe_int) (fun _ _ => rfl)) (pv 2) (nomark _))) (pss_cons (ps_asg (pv 2) (pg_sub (pe_ix (ix_tupK (K := K) rfl) (pv 0) pe_int (fun _ _ => rfl)) (pe_un un_neg pe_int) set_list)) (pss_one (ps_ret (pe_and (pe_callB (call_isiK (K := K) rfl) (by rfl) T.n_isinstance bt_isinstance (pa_cons (pv 3) (pa_cons (pe_bltn rfl T.n_str bt_str relT) pa_nil))) (pe_one (pe_cmpR op_eq (pe_cmpR op_eq (pv 3) (pv 1) (nomark _)) (pv 4) (nomark _)))))))))))), ?_⟩
    walk_at "rd"
    refine ⟨_, SqT.of hW.top, _, rfl, Nat.zero_le _, fun q hq => leans_nil hS.lm hq (fun z => ?_) (fun z => ?_)⟩
    · rw [if_pos rfl]
      have sq := same_new (o := HO.lst []) hq
      exact k _ (fun x o _ e => sq _ _ e) (by rw [hS.lm.top]; exact sq _ _ hS.lm.top)
    · rw [if_neg (by decide)]
      have sq := same_new (o := HO.lst []) hq
      generalize upd H q (HO.lst []) = H1 at sq
      obtain ⟨li, l, e⟩ := last_of z
      have top1 := sq _ _ hW.top
      have lb1 := sq _ _ hS.lm.top
      have hl : l ∈ S.ls := by rw [e]; simp
      have ll := sq _ _ (hS.lm.at_ l hl)
      rw [e, List.map_append] at lb1
      refine ⟨_, SqT.of top1, _, rfl, _, rfl, _, SqL.of lb1, _, atI_last, _, rfl, _, SqT.of ll, _, rfl, _, rfl, _, SqT.of ll, _, rfl, _, rfl, _, SqT.of ll, _, rfl, _, rfl, ⟨by decide, by decide⟩, by rw [sizeLine_eq]; decide, fun t ht => ?_⟩
      have bt := hS.lr l hl
      have b1 : -9999999999 ≤ 1 - l.t / 2 := by omega
      have b2 : 1 - l.t / 2 ≤ 9999999999 := by omega
      generalize 1 - l.t / 2 = t' at *
      have st := same_new (o := HO.tup [V.int l.p, V.str l.r, V.int t']) ht
      have t2 : upd H1 t (HO.tup [V.int l.p, V.str l.r, V.int t']) t = some (.tup [V.int l.p, V.str l.r, V.int t']) := upd_same
      have s02 := sq.trans st
      have lb2 := st _ _ lb1
      have top2 := st _ _ top1
      generalize upd H1 t (HO.tup [V.int l.p, V.str l.r, V.int t']) = H2 at *
      refine ⟨_, SqT.of top2, _, rfl, _, rfl, _, lb2, _, ixN_last, W, rfl, ⟨S.a, S.b, S.ps, li ++ [⟨t, l.p, l.r, t'⟩], S.e⟩, ?_⟩
      rw [show ((li.map fun x => V.ref x.a) ++ [l].map fun x => V.ref x.a) = (li.map fun x => V.ref x.a) ++ [V.ref l.a] from rfl, set_last]
      have ec : S.ls.map Ln.core = li.map Ln.core ++ [(l.p, l.r, l.t)] := by rw [e, List.map_append]; rfl
      have ec' : (li ++ [(⟨t, l.p, l.r, t'⟩ : Ln)]).map Ln.core = li.map Ln.core ++ [(l.p, l.r, t')] := by rw [List.map_append]; rfl
      have sm0 := hS.small
      have ln0 := hS.len
      rw [ec] at sm0 ln0
      have sm1 : ∀ r ∈ rowsOf W.st W.sz W.en (S.ps.map Prt.core) (li.map Ln.core ++ [(l.p, l.r, t')]), r.Small := fun r hr => by
        rcases List.mem_cons.mp hr with z | z
        · rw [z]; exact sm0 _ (.head _)
        · exact bodyRows_small bt.1 b1 b2 (fun r hr => sm0 r (.tail _ hr)) r z
      have tne : ∀ {x : Addr} {xs : List V} {o : HO}, H2 x = some (.tup xs) → upd H2 S.b o x = some (.tup xs) := fun {x xs o} h => by rw [upd_ne (ne_of h lb2 (by intro z; cases z))]; exact h
      have hS' : Shw (upd H2 S.b (HO.lst ((li.map fun x => V.ref x.a) ++ [V.ref t]))) W ⟨S.a, S.b, S.ps, li ++ [⟨t, l.p, l.r, t'⟩], S.e⟩ := by
        refine ⟨tne top2, ⟨by show upd _ S.b _ S.a = _; rw [upd_ne hW.bok.ab]; exact s02 _ _ hS.pm.top, fun x hx => ⟨tne (s02 _ _ (hS.pm.at_ x hx).1), by rw [upd_ne (hW.bok.nb x hx)]; exact s02 _ _ (hS.pm.at_ x hx).2⟩, hS.pm.nd, hS.pm.na⟩, ⟨by rw [upd_same, List.map_append]; rfl, fun x hx => ?_⟩, ?_, ?_, fun x hx => ?_, ?_⟩
        · rcases List.mem_append.mp hx with z | z
          · exact tne (s02 _ _ (hS.lm.at_ x (by rw [e]; simp [z])))
          · rw [List.mem_singleton.mp z]; exact tne t2
        · rw [ec']; exact sm1
        · rw [ec']
          show (bodyRows _ _).length + 1 ≤ 200
          rw [bodyRows_len (fun n => leanAt_len (t' := l.t) n)]
          exact ln0
        · rcases List.mem_append.mp hx with z | z
          · exact hS.lr x (by rw [e]; simp [z])
          · rw [List.mem_singleton.mp z]; exact ⟨bt.1, b1, b2⟩
        · have := hS.n2
          rw [e, List.length_append] at this
          show (li ++ [_]).length ≤ 500
          rw [List.length_append]; exact this
      refine ⟨hS', fun H' s4 => ?_⟩
      have lb4 := s4 _ _ hS'.lm.top
      have top4 := s4 _ _ hS'.top
      have t4 : H' t = some (.tup [V.int l.p, V.str l.r, V.int t']) := s4 _ _ (tne t2)
      have l4 : H' l.a = some (.tup [V.int l.p, V.str l.r, V.int l.t]) := s4 _ _ (tne (st _ _ ll))
      rw [List.map_append] at lb4
      have ed : deqL [.int l.p, .str l.r, .int t'] [.int l.p, .str l.r, .int l.t] = decide (t' = l.t) := by simp [deqL, deq]; rfl
      have et : txtOf W ⟨S.a, S.b, S.ps, li ++ [⟨t, l.p, l.r, t'⟩], S.e⟩ = txtOf W S ↔ t' = l.t := by
        unfold txtOf
        dsimp only
        rw [ec, ec']
        refine ⟨fun h => ?_, fun h => by rw [h]⟩
        obtain ⟨x, hx, x1, x2⟩ := hW.bok.lk l hl
        exact leanRow_inj bt.1 b1 b2 bt.2.1 bt.2.2 (body_text_inj (List.mem_map.mpr ⟨x, hx, rfl⟩) x1 x2 (txt_inj sm1 sm0 h))
      generalize txtOf W ⟨S.a, S.b, S.ps, li ++ [⟨t, l.p, l.r, t'⟩], S.e⟩ = tx at *
      refine ⟨_, SqT.of top4, _, rfl, _, rfl, _, SqL.of lb4, _, atI_last, [.int l.p, .str l.r, .int t'], [.int l.p, .str l.r, .int l.t], .inr ⟨⟨t, _, rfl, SqT.of t4, by simp [RepL, Rep]⟩, ⟨l.a, _, rfl, SqT.of l4, by simp [RepL, Rep]⟩⟩, by simp [depL, dep], ?_⟩
      rw [ed]
      refine ⟨_, SqT.of top4, _, rfl, _, rfl, _, lb4, _, ixN_last, _, .str _, true, rfl, ?_⟩
      rw [if_pos rfl, show decide (tx = txtOf W S) = decide (t' = l.t) from decide_eq_decide.mpr et, decide_eq_true (rfl : V.bl (decide (t' = l.t)) = V.bl (decide (t' = l.t)))]
      refine ⟨rfl, k _ (fun x o hx ex => ?_) ?_⟩
      · show upd H' S.b _ x = _
        rw [upd_ne hx]
        exact s4 _ _ (by rw [upd_ne hx]; exact s02 _ _ ex)
      · show upd H' S.b _ S.b = _
        rw [upd_same, hS.lm.top, e, List.map_append]
        exact congrArg (fun z => some (HO.lst z)) set_last
theorem G_law (T : Txt w K mg A) : FnOk P w K mg base CX0 12 A.law A.fd_law ["_law_script"] (sp_law K) := by
  refine T.F_law.ok sc_law (fun vs H Q E h => ?_) (fun cdv Ar outer s H vs Q E hr h => ?_)
  · obtain ⟨a, ns, rfl, _⟩ := h
    rfl
  · obtain ⟨a, ns, rfl, hS, hl, k⟩ := h
    refine ⟨_, (pss_cons (ps_asg (pe_call (G__law_built T) (hr.mono (by decide)) rfl T.m__law_built T.k__law_built T.b__law_built .nil pass0 (pa_cons (pv 0) (pa_cons pe_int pa_nil))) (pg_tupK (K := K) (n := 2) rfl rfl (pgs_cons (pg_name (i := 1) sc_law.nd rfl (by first | exact Or.inl rfl | exact Or.inr rfl)) (pgs_cons (pg_name (i := 2) sc_law.nd rfl (by first | exact Or.inl rfl | exact Or.inr rfl)) pgs_nil)))) (pss_cons (ps_set (i := 3) sc_law.nd rfl (by first | exact Or.inl rfl | exact Or.inr rfl) (pe_bm PySem.F.plainAttrs_str PySem.F.slot_str_join PySem.F.type_str_join (mt_joinK (K := K) rfl) pe_str (pa_cons (pv 1) pa_nil))) (pss_cons (ps_set (i := 4) sc_law.nd rfl (by first | exact Or.inl rfl | exact Or.inr rfl) (pe_call (G__law_copy T) (hr.mono (by decide)) rfl T.m__law_copy T.k__law_copy T.b__law_copy .nil pass0 (pa_cons (pv 2) pa_nil))) (pss_cons (ps_set (i := 5) sc_law.nd rfl (by first | exact Or.inl rfl | exact Or.inr rfl) (pe_call (G_shown_whole T) (hr.mono (by decide)) rfl T.m_shown_whole T.k_shown_whole T.b_shown_whole .nil pass0 (pa_cons (pv 4) pa_nil))) (pss_cons (ps_if (PW.pt (pw_or (pt_not (pt_val (pe_callB (call_isiK (K := K) rfl) (by rfl) T.n_isinstance bt_isinstance (pa_cons (pv 5) (pa_cons (pe_bltn rfl T.n_str bt_str relT) pa_nil))))) (pw_or (pt_cmpR op_ne (pv 5) (pv 3) (nomark _)) (pw_or1 (pt_cmpR (op_neDK hr.units (K := K) rfl) (pv 4) (pv 2) (nomark _)))))) (pss_one (ps_ret pe_bl)) pss_nil) (pss_cons (ps_set (i := 6) sc_law.nd rfl (by first | exact Or.inl rfl | exact Or.inr rfl) (pe_call (G_read_whole T) (hr.mono (by decide)) rfl T.m_read_whole T.k_read_whole T.b_read_whole .nil pass0 (pa_cons (pv 5) pa_nil))) (pss_cons (ps_if (PW.pt (pw_or (pt_cmpR (op_neDK hr.units (K := K) rfl) (pv 6) (pv 2) (nomark _)) (pw_or1 (pt_cmpR op_ne (pe_call (G_shown_whole T) (hr.mono (by decide)) rfl T.m_shown_whole T.k_shown_whole T.b_shown_whole .nil pass0 (pa_cons (pv 6) pa_nil)) (pv 5) (nomark _))))) (pss_one (ps_ret pe_bl)) pss_nil) (pss_one (ps_ret (pe_and (pe_call (G__law_turned_otherwise T) (hr.mono (by decide)) rfl T.m__law_turned_otherwise T.k__law_turned_otherwise T.b__law_turned_otherwise .nil pass0 (pa_cons (pv 4) (pa_cons (pv 5) pa_nil))) (pe_one (pe_cmpR op_eq (pe_call (G_shown_whole T) (hr.mono (by decide)) rfl T.m_shown_whole T.k_shown_whole T.b_shown_whole .nil pass0 (pa_cons (pv 4) pa_nil)) (pv 5) (nomark _))))))))))))), ?_⟩
    walk_at "rd"
    refine ⟨ns, hS, hl, by decide, by decide, fun q pr rows W S H1 s1 hq hpr hW hn hR => ⟨_, SqT.of hq, rfl, _, _, rfl, _, _, rfl, rfl, rfl, _, rfl, rows.map rowT, by rw [List.map_map]; exact SqL.of hpr, hR.text.1, W, rfl, S, hW, fun W' S' H2 s2 hW' c1 c2 c3 c4 c5 c6 c7 c8 c9 => ?_⟩⟩
    have hrr : ∀ l ∈ S.ls, isR l.r ∧ -9999999999 ≤ l.t ∧ l.t ≤ 9999999999 := fun l hl => ⟨(hW.bok.rr l hl).1, (hW.bok.rr l hl).2.1, (hW.bok.rr l hl).2.2.1⟩
    have al' : Alike W' W S' S := ⟨c1, c2, c3, c4, by rw [c5]⟩
    have n2' : S'.ls.length ≤ 500 := Nat.le_trans hW'.bok.n2 hW'.n5
    obtain ⟨shw', et'⟩ := shw_of hR hrr al' hW'.top hW'.bok.pm hW'.bok.lm n2'
    refine ⟨W', rfl, S', shw', fun H3 s3 => ?_⟩
    rw [et']
    refine ⟨_, .str _, true, rfl, ?_⟩
    rw [if_neg (by decide), if_neg (by simp)]
    have s13 := s2.trans s3
    refine ⟨wholeD W' S', wholeD W S, .inr ⟨rep_whole (s3 _ _ hW'.top) (hW'.bok.pm.mono s3) (hW'.bok.lm.mono s3), rep_whole (s13 _ _ hW.top) (hW.bok.pm.mono s13) (hW.bok.lm.mono s13)⟩, dep_wholeD _ _, false, by rw [al'.d, deqL_refl]; rfl, ?_⟩
    rw [if_neg (by decide)]
    refine ⟨rows, rfl, hR.ne, by have := hR.len; omega, fun r hr => (Row.good (hR.small r hr)).1, fun r hr => (Row.good (hR.small r hr)).2, hR.takes, hR.text.2, fun q2 R H4 s4 hq2 O => ?_⟩
    obtain ⟨F, S2, rfl, hF, al⟩ := hR.alike O hq2
    have s14 := s13.trans s4
    have s24 := s3.trans s4
    refine ⟨wholeD F S2, wholeD W S, .inr ⟨rep_whole hF.top hF.pm hF.lm, rep_whole (s14 _ _ hW.top) (hW.bok.pm.mono s14) (hW.bok.lm.mono s14)⟩, dep_wholeD _ _, false, by rw [al.d, deqL_refl]; rfl, ?_⟩
    rw [if_neg (by decide)]
    have n2F : S2.ls.length ≤ 500 := Nat.le_trans hF.n2 (by decide)
    obtain ⟨shw2, et2⟩ := shw_of hR hrr al hF.top hF.pm hF.lm n2F
    refine ⟨F, rfl, S2, shw2, fun H5 s5 => ?_⟩
    rw [et2, if_neg (by simp)]
    have s25 := s24.trans s5
    have hW5 := hW'.mono s25
    refine ⟨W', rfl, S', et'.symm, hW5, (shw_of hR hrr al' hW5.top hW5.bok.pm hW5.bok.lm n2').1, fun H6 fr eb => ?_⟩
    have s56 : Same H5 H6 := fun x o e => by
      by_cases z : x = S'.b
      · rw [z] at e ⊢; rw [eb]; exact e
      · exact fr x o z e
    have hW6 := hW5.mono s56
    refine ⟨W', rfl, S', (shw_of hR hrr al' hW6.top hW6.bok.pm hW6.bok.lm n2').1, fun H7 s7 => ?_⟩
    rw [et', decide_eq_true rfl]
    exact k _
end
@[elab_as_elim] theorem len1 {α : Type} {p : List α → Prop} (us : List α) (h : us.length = 1) (f : ∀ a, p [a]) : p us := by
  match us, h with | [a], _ => exact f a
@[elab_as_elim] theorem len2 {α : Type} {p : List α → Prop} (us : List α) (h : us.length = 2) (f : ∀ a b, p [a, b]) : p us := by
  match us, h with | [a, b], _ => exact f a b
@[elab_as_elim] theorem len3 {α : Type} {p : List α → Prop} (us : List α) (h : us.length = 3) (f : ∀ a b c, p [a, b, c]) : p us := by
  match us, h with | [a, b, c], _ => exact f a b c
@[elab_as_elim] theorem len4 {α : Type} {p : List α → Prop} (us : List α) (h : us.length = 4) (f : ∀ a b c d, p [a, b, c, d]) : p us := by
  match us, h with | [a, b, c, d], _ => exact f a b c d
theorem all_mk {l : PySem.W.OpenLaw} {w : World} {K : PySem.W.Frag} {h : Heap} {mg : Str → Option Value} {fa f_number_of f_step_in f_shown_whole f_lean_rows f_read_whole f_WholeReading___init__ f_WholeReading_takes f_WholeReading_takes_whole f_WholeReading_takes_part f_WholeReading_takes_word f_WholeReading_takes_lean f__law_cell_at f__law_target_by f__law_put f__law_end f__law_built f__law_copy f__law_turned_otherwise f_law C_WholeReading o_LEANING_RULES o_HOW_MANY_PARTS : Addr} {t_FIGURES k_LEANING_RULES_0 k_LEANING_RULES_1 k_LEANING_RULES_2 k_HOW_MANY_PARTS_0 v_HOW_MANY_PARTS_0 k_HOW_MANY_PARTS_1 v_HOW_MANY_PARTS_1 k_HOW_MANY_PARTS_2 v_HOW_MANY_PARTS_2 k_HOW_MANY_PARTS_3 v_HOW_MANY_PARTS_3 : Tok} (X : K.In h) (G : h.Ns mainGlobals mg) (hfa : mg "law" = some (.ref fa))
    {od_LEANING_RULES : Option Addr} {n_LEANING_RULES : Nat} {sl_LEANING_RULES : Array (Option Value)}
    {n_HOW_MANY_PARTS : Nat}
    {od_number_of an_number_of : Option Addr} {sl_number_of : Array (Option Value)} {oc_number_of kV_number_of dc_number_of pm_number_of cd_number_of ct_number_of : Value}
    {od_step_in an_step_in : Option Addr} {sl_step_in : Array (Option Value)} {oc_step_in kV_step_in dc_step_in pm_step_in cd_step_in ct_step_in : Value}
    {od_shown_whole an_shown_whole : Option Addr} {sl_shown_whole : Array (Option Value)} {oc_shown_whole kV_shown_whole dc_shown_whole pm_shown_whole cd_shown_whole ct_shown_whole : Value}
    {od_lean_rows an_lean_rows : Option Addr} {sl_lean_rows : Array (Option Value)} {oc_lean_rows kV_lean_rows dc_lean_rows pm_lean_rows cd_lean_rows ct_lean_rows : Value}
    {od_read_whole an_read_whole : Option Addr} {sl_read_whole : Array (Option Value)} {oc_read_whole kV_read_whole dc_read_whole pm_read_whole cd_read_whole ct_read_whole : Value}
    {od_WholeReading___init__ an_WholeReading___init__ : Option Addr} {sl_WholeReading___init__ : Array (Option Value)} {oc_WholeReading___init__ kV_WholeReading___init__ dc_WholeReading___init__ pm_WholeReading___init__ cd_WholeReading___init__ ct_WholeReading___init__ : Value}
    {od_WholeReading_takes an_WholeReading_takes : Option Addr} {sl_WholeReading_takes : Array (Option Value)} {oc_WholeReading_takes kV_WholeReading_takes dc_WholeReading_takes pm_WholeReading_takes cd_WholeReading_takes ct_WholeReading_takes : Value}
    {od_WholeReading_takes_whole an_WholeReading_takes_whole : Option Addr} {sl_WholeReading_takes_whole : Array (Option Value)} {oc_WholeReading_takes_whole kV_WholeReading_takes_whole dc_WholeReading_takes_whole pm_WholeReading_takes_whole cd_WholeReading_takes_whole ct_WholeReading_takes_whole : Value}
    {od_WholeReading_takes_part an_WholeReading_takes_part : Option Addr} {sl_WholeReading_takes_part : Array (Option Value)} {oc_WholeReading_takes_part kV_WholeReading_takes_part dc_WholeReading_takes_part pm_WholeReading_takes_part cd_WholeReading_takes_part ct_WholeReading_takes_part : Value}
    {od_WholeReading_takes_word an_WholeReading_takes_word : Option Addr} {sl_WholeReading_takes_word : Array (Option Value)} {oc_WholeReading_takes_word kV_WholeReading_takes_word dc_WholeReading_takes_word pm_WholeReading_takes_word cd_WholeReading_takes_word ct_WholeReading_takes_word : Value}
    {od_WholeReading_takes_lean an_WholeReading_takes_lean : Option Addr} {sl_WholeReading_takes_lean : Array (Option Value)} {oc_WholeReading_takes_lean kV_WholeReading_takes_lean dc_WholeReading_takes_lean pm_WholeReading_takes_lean cd_WholeReading_takes_lean ct_WholeReading_takes_lean : Value}
    {od__law_cell_at an__law_cell_at : Option Addr} {sl__law_cell_at : Array (Option Value)} {oc__law_cell_at kV__law_cell_at dc__law_cell_at pm__law_cell_at cd__law_cell_at ct__law_cell_at : Value}
    {od__law_target_by an__law_target_by : Option Addr} {sl__law_target_by : Array (Option Value)} {oc__law_target_by kV__law_target_by dc__law_target_by pm__law_target_by cd__law_target_by ct__law_target_by : Value}
    {od__law_put an__law_put : Option Addr} {sl__law_put : Array (Option Value)} {oc__law_put kV__law_put dc__law_put pm__law_put cd__law_put ct__law_put : Value}
    {od__law_end an__law_end : Option Addr} {sl__law_end : Array (Option Value)} {oc__law_end kV__law_end dc__law_end pm__law_end cd__law_end ct__law_end : Value}
    {od__law_built an__law_built : Option Addr} {sl__law_built : Array (Option Value)} {oc__law_built kV__law_built dc__law_built pm__law_built cd__law_built ct__law_built : Value}
    {od__law_copy an__law_copy : Option Addr} {sl__law_copy : Array (Option Value)} {oc__law_copy kV__law_copy dc__law_copy pm__law_copy cd__law_copy ct__law_copy : Value}
    {od__law_turned_otherwise an__law_turned_otherwise : Option Addr} {sl__law_turned_otherwise : Array (Option Value)} {oc__law_turned_otherwise kV__law_turned_otherwise dc__law_turned_otherwise pm__law_turned_otherwise cd__law_turned_otherwise ct__law_turned_otherwise : Value}
    {od_law an_law : Option Addr} {sl_law : Array (Option Value)} {oc_law kV_law dc_law pm_law cd_law ct_law : Value}
    (ac_WholeReading : PySem.W.nsIn K mainGlobals "WholeReading" = some (some (.ref C_WholeReading)))
    (a_number_of : PySem.W.nsIn K mainGlobals "number_of" = some (some (.ref f_number_of)))
    (l_number_of : K.lookup f_number_of = some ⟨oc_number_of, od_number_of, .func (PySem.W.fnOf "number_of" "number_of" (defArgs s_number_of) (defBody s_number_of) (defScope s_number_of) .none kV_number_of dc_number_of pm_number_of an_number_of cd_number_of ct_number_of), sl_number_of⟩)
    (e_number_of : PySem.W.codeIn K cd_number_of "number_of" = true)
    (k_number_of : PySem.W.keepIn K (.ref f_number_of) = true)
    (a_step_in : PySem.W.nsIn K mainGlobals "step_in" = some (some (.ref f_step_in)))
    (l_step_in : K.lookup f_step_in = some ⟨oc_step_in, od_step_in, .func (PySem.W.fnOf "step_in" "step_in" (defArgs s_step_in) (defBody s_step_in) (defScope s_step_in) .none kV_step_in dc_step_in pm_step_in an_step_in cd_step_in ct_step_in), sl_step_in⟩)
    (e_step_in : PySem.W.codeIn K cd_step_in "step_in" = true)
    (k_step_in : PySem.W.keepIn K (.ref f_step_in) = true)
    (a_shown_whole : PySem.W.nsIn K mainGlobals "shown_whole" = some (some (.ref f_shown_whole)))
    (l_shown_whole : K.lookup f_shown_whole = some ⟨oc_shown_whole, od_shown_whole, .func (PySem.W.fnOf "shown_whole" "shown_whole" (defArgs s_shown_whole) (defBody s_shown_whole) (defScope s_shown_whole) .none kV_shown_whole dc_shown_whole pm_shown_whole an_shown_whole cd_shown_whole ct_shown_whole), sl_shown_whole⟩)
    (e_shown_whole : PySem.W.codeIn K cd_shown_whole "shown_whole" = true)
    (k_shown_whole : PySem.W.keepIn K (.ref f_shown_whole) = true)
    (a_lean_rows : PySem.W.nsIn K mainGlobals "lean_rows" = some (some (.ref f_lean_rows)))
    (l_lean_rows : K.lookup f_lean_rows = some ⟨oc_lean_rows, od_lean_rows, .func (PySem.W.fnOf "lean_rows" "lean_rows" (defArgs s_lean_rows) (defBody s_lean_rows) (defScope s_lean_rows) .none kV_lean_rows dc_lean_rows pm_lean_rows an_lean_rows cd_lean_rows ct_lean_rows), sl_lean_rows⟩)
    (e_lean_rows : PySem.W.codeIn K cd_lean_rows "lean_rows" = true)
    (k_lean_rows : PySem.W.keepIn K (.ref f_lean_rows) = true)
    (a_read_whole : PySem.W.nsIn K mainGlobals "read_whole" = some (some (.ref f_read_whole)))
    (l_read_whole : K.lookup f_read_whole = some ⟨oc_read_whole, od_read_whole, .func (PySem.W.fnOf "read_whole" "read_whole" (defArgs s_read_whole) (defBody s_read_whole) (defScope s_read_whole) .none kV_read_whole dc_read_whole pm_read_whole an_read_whole cd_read_whole ct_read_whole), sl_read_whole⟩)
    (e_read_whole : PySem.W.codeIn K cd_read_whole "read_whole" = true)
    (k_read_whole : PySem.W.keepIn K (.ref f_read_whole) = true)
    (a_WholeReading___init__ : PySem.W.findIn K (.ref C_WholeReading) "__init__" = some (some (.ref f_WholeReading___init__)))
    (i_WholeReading___init__ : PySem.W.isFn K (.ref f_WholeReading___init__) = true)
    (l_WholeReading___init__ : K.lookup f_WholeReading___init__ = some ⟨oc_WholeReading___init__, od_WholeReading___init__, .func (PySem.W.fnOf "__init__" "WholeReading.__init__" (defArgs s_WholeReading___init__) (defBody s_WholeReading___init__) (defScope s_WholeReading___init__) .none kV_WholeReading___init__ dc_WholeReading___init__ pm_WholeReading___init__ an_WholeReading___init__ cd_WholeReading___init__ ct_WholeReading___init__), sl_WholeReading___init__⟩)
    (e_WholeReading___init__ : PySem.W.codeIn K cd_WholeReading___init__ "WholeReading.__init__" = true)
    (k_WholeReading___init__ : PySem.W.keepIn K (.ref f_WholeReading___init__) = true)
    (a_WholeReading_takes : PySem.W.findIn K (.ref C_WholeReading) "takes" = some (some (.ref f_WholeReading_takes)))
    (i_WholeReading_takes : PySem.W.isFn K (.ref f_WholeReading_takes) = true)
    (l_WholeReading_takes : K.lookup f_WholeReading_takes = some ⟨oc_WholeReading_takes, od_WholeReading_takes, .func (PySem.W.fnOf "takes" "WholeReading.takes" (defArgs s_WholeReading_takes) (defBody s_WholeReading_takes) (defScope s_WholeReading_takes) .none kV_WholeReading_takes dc_WholeReading_takes pm_WholeReading_takes an_WholeReading_takes cd_WholeReading_takes ct_WholeReading_takes), sl_WholeReading_takes⟩)
    (e_WholeReading_takes : PySem.W.codeIn K cd_WholeReading_takes "WholeReading.takes" = true)
    (k_WholeReading_takes : PySem.W.keepIn K (.ref f_WholeReading_takes) = true)
    (a_WholeReading_takes_whole : PySem.W.findIn K (.ref C_WholeReading) "takes_whole" = some (some (.ref f_WholeReading_takes_whole)))
    (i_WholeReading_takes_whole : PySem.W.isFn K (.ref f_WholeReading_takes_whole) = true)
    (l_WholeReading_takes_whole : K.lookup f_WholeReading_takes_whole = some ⟨oc_WholeReading_takes_whole, od_WholeReading_takes_whole, .func (PySem.W.fnOf "takes_whole" "WholeReading.takes_whole" (defArgs s_WholeReading_takes_whole) (defBody s_WholeReading_takes_whole) (defScope s_WholeReading_takes_whole) .none kV_WholeReading_takes_whole dc_WholeReading_takes_whole pm_WholeReading_takes_whole an_WholeReading_takes_whole cd_WholeReading_takes_whole ct_WholeReading_takes_whole), sl_WholeReading_takes_whole⟩)
    (e_WholeReading_takes_whole : PySem.W.codeIn K cd_WholeReading_takes_whole "WholeReading.takes_whole" = true)
    (k_WholeReading_takes_whole : PySem.W.keepIn K (.ref f_WholeReading_takes_whole) = true)
    (a_WholeReading_takes_part : PySem.W.findIn K (.ref C_WholeReading) "takes_part" = some (some (.ref f_WholeReading_takes_part)))
    (i_WholeReading_takes_part : PySem.W.isFn K (.ref f_WholeReading_takes_part) = true)
    (l_WholeReading_takes_part : K.lookup f_WholeReading_takes_part = some ⟨oc_WholeReading_takes_part, od_WholeReading_takes_part, .func (PySem.W.fnOf "takes_part" "WholeReading.takes_part" (defArgs s_WholeReading_takes_part) (defBody s_WholeReading_takes_part) (defScope s_WholeReading_takes_part) .none kV_WholeReading_takes_part dc_WholeReading_takes_part pm_WholeReading_takes_part an_WholeReading_takes_part cd_WholeReading_takes_part ct_WholeReading_takes_part), sl_WholeReading_takes_part⟩)
    (e_WholeReading_takes_part : PySem.W.codeIn K cd_WholeReading_takes_part "WholeReading.takes_part" = true)
    (k_WholeReading_takes_part : PySem.W.keepIn K (.ref f_WholeReading_takes_part) = true)
    (a_WholeReading_takes_word : PySem.W.findIn K (.ref C_WholeReading) "takes_word" = some (some (.ref f_WholeReading_takes_word)))
    (i_WholeReading_takes_word : PySem.W.isFn K (.ref f_WholeReading_takes_word) = true)
    (l_WholeReading_takes_word : K.lookup f_WholeReading_takes_word = some ⟨oc_WholeReading_takes_word, od_WholeReading_takes_word, .func (PySem.W.fnOf "takes_word" "WholeReading.takes_word" (defArgs s_WholeReading_takes_word) (defBody s_WholeReading_takes_word) (defScope s_WholeReading_takes_word) .none kV_WholeReading_takes_word dc_WholeReading_takes_word pm_WholeReading_takes_word an_WholeReading_takes_word cd_WholeReading_takes_word ct_WholeReading_takes_word), sl_WholeReading_takes_word⟩)
    (e_WholeReading_takes_word : PySem.W.codeIn K cd_WholeReading_takes_word "WholeReading.takes_word" = true)
    (k_WholeReading_takes_word : PySem.W.keepIn K (.ref f_WholeReading_takes_word) = true)
    (a_WholeReading_takes_lean : PySem.W.findIn K (.ref C_WholeReading) "takes_lean" = some (some (.ref f_WholeReading_takes_lean)))
    (i_WholeReading_takes_lean : PySem.W.isFn K (.ref f_WholeReading_takes_lean) = true)
    (l_WholeReading_takes_lean : K.lookup f_WholeReading_takes_lean = some ⟨oc_WholeReading_takes_lean, od_WholeReading_takes_lean, .func (PySem.W.fnOf "takes_lean" "WholeReading.takes_lean" (defArgs s_WholeReading_takes_lean) (defBody s_WholeReading_takes_lean) (defScope s_WholeReading_takes_lean) .none kV_WholeReading_takes_lean dc_WholeReading_takes_lean pm_WholeReading_takes_lean an_WholeReading_takes_lean cd_WholeReading_takes_lean ct_WholeReading_takes_lean), sl_WholeReading_takes_lean⟩)
    (e_WholeReading_takes_lean : PySem.W.codeIn K cd_WholeReading_takes_lean "WholeReading.takes_lean" = true)
    (k_WholeReading_takes_lean : PySem.W.keepIn K (.ref f_WholeReading_takes_lean) = true)
    (a__law_cell_at : PySem.W.nsIn K mainGlobals "_law_cell_at" = some (some (.ref f__law_cell_at)))
    (l__law_cell_at : K.lookup f__law_cell_at = some ⟨oc__law_cell_at, od__law_cell_at, .func (PySem.W.fnOf "_law_cell_at" "_law_cell_at" (defArgs s__law_cell_at) (defBody s__law_cell_at) (defScope s__law_cell_at) .none kV__law_cell_at dc__law_cell_at pm__law_cell_at an__law_cell_at cd__law_cell_at ct__law_cell_at), sl__law_cell_at⟩)
    (e__law_cell_at : PySem.W.codeIn K cd__law_cell_at "_law_cell_at" = true)
    (k__law_cell_at : PySem.W.keepIn K (.ref f__law_cell_at) = true)
    (a__law_target_by : PySem.W.nsIn K mainGlobals "_law_target_by" = some (some (.ref f__law_target_by)))
    (l__law_target_by : K.lookup f__law_target_by = some ⟨oc__law_target_by, od__law_target_by, .func (PySem.W.fnOf "_law_target_by" "_law_target_by" (defArgs s__law_target_by) (defBody s__law_target_by) (defScope s__law_target_by) .none kV__law_target_by dc__law_target_by pm__law_target_by an__law_target_by cd__law_target_by ct__law_target_by), sl__law_target_by⟩)
    (e__law_target_by : PySem.W.codeIn K cd__law_target_by "_law_target_by" = true)
    (k__law_target_by : PySem.W.keepIn K (.ref f__law_target_by) = true)
    (a__law_put : PySem.W.nsIn K mainGlobals "_law_put" = some (some (.ref f__law_put)))
    (l__law_put : K.lookup f__law_put = some ⟨oc__law_put, od__law_put, .func (PySem.W.fnOf "_law_put" "_law_put" (defArgs s__law_put) (defBody s__law_put) (defScope s__law_put) .none kV__law_put dc__law_put pm__law_put an__law_put cd__law_put ct__law_put), sl__law_put⟩)
    (e__law_put : PySem.W.codeIn K cd__law_put "_law_put" = true)
    (k__law_put : PySem.W.keepIn K (.ref f__law_put) = true)
    (a__law_end : PySem.W.nsIn K mainGlobals "_law_end" = some (some (.ref f__law_end)))
    (l__law_end : K.lookup f__law_end = some ⟨oc__law_end, od__law_end, .func (PySem.W.fnOf "_law_end" "_law_end" (defArgs s__law_end) (defBody s__law_end) (defScope s__law_end) .none kV__law_end dc__law_end pm__law_end an__law_end cd__law_end ct__law_end), sl__law_end⟩)
    (e__law_end : PySem.W.codeIn K cd__law_end "_law_end" = true)
    (k__law_end : PySem.W.keepIn K (.ref f__law_end) = true)
    (a__law_built : PySem.W.nsIn K mainGlobals "_law_built" = some (some (.ref f__law_built)))
    (l__law_built : K.lookup f__law_built = some ⟨oc__law_built, od__law_built, .func (PySem.W.fnOf "_law_built" "_law_built" (defArgs s__law_built) (defBody s__law_built) (defScope s__law_built) .none kV__law_built dc__law_built pm__law_built an__law_built cd__law_built ct__law_built), sl__law_built⟩)
    (e__law_built : PySem.W.codeIn K cd__law_built "_law_built" = true)
    (k__law_built : PySem.W.keepIn K (.ref f__law_built) = true)
    (a__law_copy : PySem.W.nsIn K mainGlobals "_law_copy" = some (some (.ref f__law_copy)))
    (l__law_copy : K.lookup f__law_copy = some ⟨oc__law_copy, od__law_copy, .func (PySem.W.fnOf "_law_copy" "_law_copy" (defArgs s__law_copy) (defBody s__law_copy) (defScope s__law_copy) .none kV__law_copy dc__law_copy pm__law_copy an__law_copy cd__law_copy ct__law_copy), sl__law_copy⟩)
    (e__law_copy : PySem.W.codeIn K cd__law_copy "_law_copy" = true)
    (k__law_copy : PySem.W.keepIn K (.ref f__law_copy) = true)
    (a__law_turned_otherwise : PySem.W.nsIn K mainGlobals "_law_turned_otherwise" = some (some (.ref f__law_turned_otherwise)))
    (l__law_turned_otherwise : K.lookup f__law_turned_otherwise = some ⟨oc__law_turned_otherwise, od__law_turned_otherwise, .func (PySem.W.fnOf "_law_turned_otherwise" "_law_turned_otherwise" (defArgs s__law_turned_otherwise) (defBody s__law_turned_otherwise) (defScope s__law_turned_otherwise) .none kV__law_turned_otherwise dc__law_turned_otherwise pm__law_turned_otherwise an__law_turned_otherwise cd__law_turned_otherwise ct__law_turned_otherwise), sl__law_turned_otherwise⟩)
    (e__law_turned_otherwise : PySem.W.codeIn K cd__law_turned_otherwise "_law_turned_otherwise" = true)
    (k__law_turned_otherwise : PySem.W.keepIn K (.ref f__law_turned_otherwise) = true)
    (a_law : PySem.W.nsIn K mainGlobals "law" = some (some (.ref f_law)))
    (l_law : K.lookup f_law = some ⟨oc_law, od_law, .func (PySem.W.fnOf "law" "law" (defArgs s_law) (defBody s_law) (defScope s_law) .none kV_law dc_law pm_law an_law cd_law ct_law), sl_law⟩)
    (e_law : PySem.W.codeIn K cd_law "law" = true)
    (k_law : PySem.W.keepIn K (.ref f_law) = true)
    (pg_WholeReading : PySem.W.plainGet K C_WholeReading Str.empty = true)
    (hd_WholeReading : PySem.W.hasDictIn K C_WholeReading = true)
    (po_WholeReading : PySem.W.plainOver K C_WholeReading = true)
    (sa_WholeReading : PySem.W.findIn K (.ref C_WholeReading) "__setattr__" = some (some (.builtin "object.__setattr__")))
    (mm_WholeReading : PySem.W.makesIn K C_WholeReading = true)
    (kc_WholeReading : PySem.W.keepIn K (.ref C_WholeReading) = true)
    (sp_cl : PySem.W.specialIn K (.builtin "object.__class__") "__get__" = some (some (.builtin "getset_descriptor.__get__")))
    (tk_cl : PySem.W.takesIn K (.builtin "object.__class__") = some true)
    (no_WholeReading_step : PySem.W.findIn K (.ref C_WholeReading) "step" = some none)
    (no_WholeReading_size : PySem.W.findIn K (.ref C_WholeReading) "size" = some none)
    (no_WholeReading_entry : PySem.W.findIn K (.ref C_WholeReading) "entry" = some none)
    (no_WholeReading_parts : PySem.W.findIn K (.ref C_WholeReading) "parts" = some none)
    (no_WholeReading_leaning : PySem.W.findIn K (.ref C_WholeReading) "leaning" = some none)
    (no_WholeReading_last_words : PySem.W.findIn K (.ref C_WholeReading) "last_words" = some none)
    (no_WholeReading_end : PySem.W.findIn K (.ref C_WholeReading) "end" = some none)
    (no_WholeReading_behind_word : PySem.W.findIn K (.ref C_WholeReading) "behind_word" = some none)
    (g_FIGURES : PySem.W.nsIn K mainGlobals "FIGURES" = some (some (.str "0123456789" t_FIGURES)))
    (g_HOW_MANY_PARTS : PySem.W.nsIn K mainGlobals "HOW_MANY_PARTS" = some (some (.ref o_HOW_MANY_PARTS)))
    (l_HOW_MANY_PARTS : K.lookup o_HOW_MANY_PARTS = some ⟨.type "dict", none, .dict #[⟨PyData.keyHash w.params "whole", .str "whole" k_HOW_MANY_PARTS_0, .int 4 v_HOW_MANY_PARTS_0⟩, ⟨PyData.keyHash w.params "part", .str "part" k_HOW_MANY_PARTS_1, .int 2 v_HOW_MANY_PARTS_1⟩, ⟨PyData.keyHash w.params "word", .str "word" k_HOW_MANY_PARTS_2, .int 2 v_HOW_MANY_PARTS_2⟩, ⟨PyData.keyHash w.params "lean", .str "lean" k_HOW_MANY_PARTS_3, .int 3 v_HOW_MANY_PARTS_3⟩] n_HOW_MANY_PARTS, #[]⟩)
    (s_HOW_MANY_PARTS : (o_HOW_MANY_PARTS == sysModules) = false)
    (g_LEANING_RULES : PySem.W.nsIn K mainGlobals "LEANING_RULES" = some (some (.ref o_LEANING_RULES)))
    (l_LEANING_RULES : K.lookup o_LEANING_RULES = some ⟨.type "tuple", od_LEANING_RULES, .seq #[.str "whole" k_LEANING_RULES_0, .str "high" k_LEANING_RULES_1, .str "low" k_LEANING_RULES_2] n_LEANING_RULES, sl_LEANING_RULES⟩)
    (n_all : PySem.W.nsIn K mainGlobals "all" = some none)
    (n_enumerate : PySem.W.nsIn K mainGlobals "enumerate" = some none)
    (n_int : PySem.W.nsIn K mainGlobals "int" = some none)
    (n_isinstance : PySem.W.nsIn K mainGlobals "isinstance" = some none)
    (n_len : PySem.W.nsIn K mainGlobals "len" = some none)
    (n_list : PySem.W.nsIn K mainGlobals "list" = some none)
    (n_str : PySem.W.nsIn K mainGlobals "str" = some none) :
    ∃ fd : FuncData, (∀ (s : Shared) (v : Value), BindsTo s fd ⟨[v], []⟩ [("_law_script", v)]) ∧ ∀ base : Heap, K.In base → base.Ns mainGlobals mg → FnOk l.prog w K mg base CX0 12 fa fd ["_law_script"] (sp_law K) := by
  have e := hfa.symm.trans (PySem.W.mg_of X G a_law)
  cases e
  have F_number_of := fun_mk (st := s_number_of) l_number_of e_number_of k_number_of
  have b_number_of := F_number_of.binds (ps := ["text", "least", "most"]) fun _ _ _ _ _ _ us hl => len3 us hl fun _ _ _ => rfl
  have F_step_in := fun_mk (st := s_step_in) l_step_in e_step_in k_step_in
  have b_step_in := F_step_in.binds (ps := ["text"]) fun _ _ _ _ _ _ us hl => len1 us hl fun _ => rfl
  have F_shown_whole := fun_mk (st := s_shown_whole) l_shown_whole e_shown_whole k_shown_whole
  have b_shown_whole := F_shown_whole.binds (ps := ["whole"]) fun _ _ _ _ _ _ us hl => len1 us hl fun _ => rfl
  have F_lean_rows := fun_mk (st := s_lean_rows) l_lean_rows e_lean_rows k_lean_rows
  have b_lean_rows := F_lean_rows.binds (ps := ["leans"]) fun _ _ _ _ _ _ us hl => len1 us hl fun _ => rfl
  have F_read_whole := fun_mk (st := s_read_whole) l_read_whole e_read_whole k_read_whole
  have b_read_whole := F_read_whole.binds (ps := ["text"]) fun _ _ _ _ _ _ us hl => len1 us hl fun _ => rfl
  have F_WholeReading___init__ := fun_mk (st := s_WholeReading___init__) l_WholeReading___init__ e_WholeReading___init__ k_WholeReading___init__
  have b_WholeReading___init__ := F_WholeReading___init__.binds (ps := ["self"]) fun _ _ _ _ _ _ us hl => len1 us hl fun _ => rfl
  have F_WholeReading_takes := fun_mk (st := s_WholeReading_takes) l_WholeReading_takes e_WholeReading_takes k_WholeReading_takes
  have b_WholeReading_takes := F_WholeReading_takes.binds (ps := ["self", "parts"]) fun _ _ _ _ _ _ us hl => len2 us hl fun _ _ => rfl
  have F_WholeReading_takes_whole := fun_mk (st := s_WholeReading_takes_whole) l_WholeReading_takes_whole e_WholeReading_takes_whole k_WholeReading_takes_whole
  have b_WholeReading_takes_whole := F_WholeReading_takes_whole.binds (ps := ["self", "step", "size", "entry"]) fun _ _ _ _ _ _ us hl => len4 us hl fun _ _ _ _ => rfl
  have F_WholeReading_takes_part := fun_mk (st := s_WholeReading_takes_part) l_WholeReading_takes_part e_WholeReading_takes_part k_WholeReading_takes_part
  have b_WholeReading_takes_part := F_WholeReading_takes_part.binds (ps := ["self", "text"]) fun _ _ _ _ _ _ us hl => len2 us hl fun _ _ => rfl
  have F_WholeReading_takes_word := fun_mk (st := s_WholeReading_takes_word) l_WholeReading_takes_word e_WholeReading_takes_word k_WholeReading_takes_word
  have b_WholeReading_takes_word := F_WholeReading_takes_word.binds (ps := ["self", "text"]) fun _ _ _ _ _ _ us hl => len2 us hl fun _ _ => rfl
  have F_WholeReading_takes_lean := fun_mk (st := s_WholeReading_takes_lean) l_WholeReading_takes_lean e_WholeReading_takes_lean k_WholeReading_takes_lean
  have b_WholeReading_takes_lean := F_WholeReading_takes_lean.binds (ps := ["self", "rule", "text"]) fun _ _ _ _ _ _ us hl => len3 us hl fun _ _ _ => rfl
  have F__law_cell_at := fun_mk (st := s__law_cell_at) l__law_cell_at e__law_cell_at k__law_cell_at
  have b__law_cell_at := F__law_cell_at.binds (ps := ["_law_script", "_law_k"]) fun _ _ _ _ _ _ us hl => len2 us hl fun _ _ => rfl
  have F__law_target_by := fun_mk (st := s__law_target_by) l__law_target_by e__law_target_by k__law_target_by
  have b__law_target_by := F__law_target_by.binds (ps := ["_law_number"]) fun _ _ _ _ _ _ us hl => len1 us hl fun _ => rfl
  have F__law_put := fun_mk (st := s__law_put) l__law_put e__law_put k__law_put
  have b__law_put := F__law_put.binds (ps := ["_law_cell", "_law_parts", "_law_leans", "_law_end_here"]) fun _ _ _ _ _ _ us hl => len4 us hl fun _ _ _ _ => rfl
  have F__law_end := fun_mk (st := s__law_end) l__law_end e__law_end k__law_end
  have b__law_end := F__law_end.binds (ps := ["_law_parts"]) fun _ _ _ _ _ _ us hl => len1 us hl fun _ => rfl
  have F__law_built := fun_mk (st := s__law_built) l__law_built e__law_built k__law_built
  have b__law_built := F__law_built.binds (ps := ["_law_script", "_law_most"]) fun _ _ _ _ _ _ us hl => len2 us hl fun _ _ => rfl
  have F__law_copy := fun_mk (st := s__law_copy) l__law_copy e__law_copy k__law_copy
  have b__law_copy := F__law_copy.binds (ps := ["_law_whole"]) fun _ _ _ _ _ _ us hl => len1 us hl fun _ => rfl
  have F__law_turned_otherwise := fun_mk (st := s__law_turned_otherwise) l__law_turned_otherwise e__law_turned_otherwise k__law_turned_otherwise
  have b__law_turned_otherwise := F__law_turned_otherwise.binds (ps := ["_law_whole", "_law_text"]) fun _ _ _ _ _ _ us hl => len2 us hl fun _ _ => rfl
  have F_law := fun_mk (st := s_law) l_law e_law k_law
  have b_law := F_law.binds (ps := ["_law_script"]) fun _ _ _ _ _ _ us hl => len1 us hl fun _ => rfl
  have T : Txt w K mg { number_of := f_number_of, fd_number_of := _, step_in := f_step_in, fd_step_in := _, shown_whole := f_shown_whole, fd_shown_whole := _, lean_rows := f_lean_rows, fd_lean_rows := _, read_whole := f_read_whole, fd_read_whole := _, WholeReading___init__ := f_WholeReading___init__, fd_WholeReading___init__ := _, WholeReading_takes := f_WholeReading_takes, fd_WholeReading_takes := _, WholeReading_takes_whole := f_WholeReading_takes_whole, fd_WholeReading_takes_whole := _, WholeReading_takes_part := f_WholeReading_takes_part, fd_WholeReading_takes_part := _, WholeReading_takes_word := f_WholeReading_takes_word, fd_WholeReading_takes_word := _, WholeReading_takes_lean := f_WholeReading_takes_lean, fd_WholeReading_takes_lean := _, _law_cell_at := f__law_cell_at, fd__law_cell_at := _, _law_target_by := f__law_target_by, fd__law_target_by := _, _law_put := f__law_put, fd__law_put := _, _law_end := f__law_end, fd__law_end := _, _law_built := f__law_built, fd__law_built := _, _law_copy := f__law_copy, fd__law_copy := _, _law_turned_otherwise := f__law_turned_otherwise, fd__law_turned_otherwise := _, law := fa, fd_law := _, t_FIGURES := t_FIGURES, o_HOW_MANY_PARTS := o_HOW_MANY_PARTS, o_LEANING_RULES := o_LEANING_RULES, c_WholeReading := C_WholeReading } := {
    m_number_of := PySem.W.mg_of X G a_number_of
    k_number_of := k_number_of
    b_number_of := b_number_of
    F_number_of := F_number_of
    m_step_in := PySem.W.mg_of X G a_step_in
    k_step_in := k_step_in
    b_step_in := b_step_in
    F_step_in := F_step_in
    m_shown_whole := PySem.W.mg_of X G a_shown_whole
    k_shown_whole := k_shown_whole
    b_shown_whole := b_shown_whole
    F_shown_whole := F_shown_whole
    m_lean_rows := PySem.W.mg_of X G a_lean_rows
    k_lean_rows := k_lean_rows
    b_lean_rows := b_lean_rows
    F_lean_rows := F_lean_rows
    m_read_whole := PySem.W.mg_of X G a_read_whole
    k_read_whole := k_read_whole
    b_read_whole := b_read_whole
    F_read_whole := F_read_whole
    k_WholeReading___init__ := k_WholeReading___init__
    b_WholeReading___init__ := b_WholeReading___init__
    F_WholeReading___init__ := F_WholeReading___init__
    k_WholeReading_takes := k_WholeReading_takes
    b_WholeReading_takes := b_WholeReading_takes
    F_WholeReading_takes := F_WholeReading_takes
    k_WholeReading_takes_whole := k_WholeReading_takes_whole
    b_WholeReading_takes_whole := b_WholeReading_takes_whole
    F_WholeReading_takes_whole := F_WholeReading_takes_whole
    k_WholeReading_takes_part := k_WholeReading_takes_part
    b_WholeReading_takes_part := b_WholeReading_takes_part
    F_WholeReading_takes_part := F_WholeReading_takes_part
    k_WholeReading_takes_word := k_WholeReading_takes_word
    b_WholeReading_takes_word := b_WholeReading_takes_word
    F_WholeReading_takes_word := F_WholeReading_takes_word
    k_WholeReading_takes_lean := k_WholeReading_takes_lean
    b_WholeReading_takes_lean := b_WholeReading_takes_lean
    F_WholeReading_takes_lean := F_WholeReading_takes_lean
    m__law_cell_at := PySem.W.mg_of X G a__law_cell_at
    k__law_cell_at := k__law_cell_at
    b__law_cell_at := b__law_cell_at
    F__law_cell_at := F__law_cell_at
    m__law_target_by := PySem.W.mg_of X G a__law_target_by
    k__law_target_by := k__law_target_by
    b__law_target_by := b__law_target_by
    F__law_target_by := F__law_target_by
    m__law_put := PySem.W.mg_of X G a__law_put
    k__law_put := k__law_put
    b__law_put := b__law_put
    F__law_put := F__law_put
    m__law_end := PySem.W.mg_of X G a__law_end
    k__law_end := k__law_end
    b__law_end := b__law_end
    F__law_end := F__law_end
    m__law_built := PySem.W.mg_of X G a__law_built
    k__law_built := k__law_built
    b__law_built := b__law_built
    F__law_built := F__law_built
    m__law_copy := PySem.W.mg_of X G a__law_copy
    k__law_copy := k__law_copy
    b__law_copy := b__law_copy
    F__law_copy := F__law_copy
    m__law_turned_otherwise := PySem.W.mg_of X G a__law_turned_otherwise
    k__law_turned_otherwise := k__law_turned_otherwise
    b__law_turned_otherwise := b__law_turned_otherwise
    F__law_turned_otherwise := F__law_turned_otherwise
    m_law := PySem.W.mg_of X G a_law
    k_law := k_law
    b_law := b_law
    F_law := F_law
    g_FIGURES := PySem.W.mg_of X G g_FIGURES
    g_HOW_MANY_PARTS := PySem.W.mg_of X G g_HOW_MANY_PARTS
    g_LEANING_RULES := PySem.W.mg_of X G g_LEANING_RULES
    q_LEANING_RULES := fun H => .inr ⟨_, _, _, l_LEANING_RULES, rfl, rfl, (by rw [sizeLine_eq]; exact (by decide : (3 : Nat) ≤ 16777216)), .cons relS (.cons relS (.cons relS (.nil)))⟩
    q_HOW_MANY_PARTS := ⟨s_HOW_MANY_PARTS, [("whole", k_HOW_MANY_PARTS_0, .int 4 v_HOW_MANY_PARTS_0), ("part", k_HOW_MANY_PARTS_1, .int 2 v_HOW_MANY_PARTS_1), ("word", k_HOW_MANY_PARTS_2, .int 2 v_HOW_MANY_PARTS_2), ("lean", k_HOW_MANY_PARTS_3, .int 3 v_HOW_MANY_PARTS_3)], n_HOW_MANY_PARTS, l_HOW_MANY_PARTS, (by show (["whole", "part", "word", "lean"] : List Str).Nodup; decide +kernel), .cons ⟨rfl, relI⟩ (.cons ⟨rfl, relI⟩ (.cons ⟨rfl, relI⟩ (.cons ⟨rfl, relI⟩ (.nil))))⟩
    n_all := PySem.W.mg_none_of X G n_all
    n_enumerate := PySem.W.mg_none_of X G n_enumerate
    n_int := PySem.W.mg_none_of X G n_int
    n_isinstance := PySem.W.mg_none_of X G n_isinstance
    n_len := PySem.W.mg_none_of X G n_len
    n_list := PySem.W.mg_none_of X G n_list
    n_str := PySem.W.mg_none_of X G n_str
    mc_WholeReading := PySem.W.mg_of X G ac_WholeReading
    cl_WholeReading := ⟨pg_WholeReading, hd_WholeReading, po_WholeReading, sa_WholeReading⟩
    sp_cl := sp_cl
    tk_cl := tk_cl
    mk_WholeReading := ⟨mm_WholeReading, a_WholeReading___init__, i_WholeReading___init__, kc_WholeReading⟩
    me_WholeReading_takes := ⟨a_WholeReading_takes, i_WholeReading_takes, k_WholeReading_takes⟩
    me_WholeReading_takes_lean := ⟨a_WholeReading_takes_lean, i_WholeReading_takes_lean, k_WholeReading_takes_lean⟩
    me_WholeReading_takes_part := ⟨a_WholeReading_takes_part, i_WholeReading_takes_part, k_WholeReading_takes_part⟩
    me_WholeReading_takes_whole := ⟨a_WholeReading_takes_whole, i_WholeReading_takes_whole, k_WholeReading_takes_whole⟩
    me_WholeReading_takes_word := ⟨a_WholeReading_takes_word, i_WholeReading_takes_word, k_WholeReading_takes_word⟩
    no_WholeReading_step := no_WholeReading_step
    no_WholeReading_size := no_WholeReading_size
    no_WholeReading_entry := no_WholeReading_entry
    no_WholeReading_parts := no_WholeReading_parts
    no_WholeReading_leaning := no_WholeReading_leaning
    no_WholeReading_last_words := no_WholeReading_last_words
    no_WholeReading_end := no_WholeReading_end
    no_WholeReading_behind_word := no_WholeReading_behind_word }
  exact ⟨_, fun s v => .of_eq rfl, fun base _ _ => G_law T⟩
theorem walk {l : PySem.W.OpenLaw} {q : Program} {loose : List Str} {XP : (Str → Option Value) → Heap → Prop} {YP : World → Heap → Prop} {d : DefRec} {K : Params → PySem.W.Frag} (hn : l.most = some 63) (hdf : d.params.defaults = [])
    (hY : ∀ (w : World) (h : Heap), YP w h → (K w.params).In h)
    (F : ∀ (w : World) (mg : Str → Option Value) (fa : Addr) (h : Heap), (K w.params).In h → h.Ns mainGlobals mg → mg d.name = some (.ref fa) →
      ∃ fd : FuncData, (∀ (s : Shared) (u : Value), BindsTo s fd ⟨[u], []⟩ [("_law_script", u)]) ∧ ∀ base : Heap, (K w.params).In base → base.Ns mainGlobals mg → FnOk l.prog w (K w.params) mg base CX0 12 fa fd ["_law_script"] (sp_law (K w.params))) :
    PySem.W.WalkO q loose XP YP l.row.toRowW d [] (fun f vs => PySem.call f vs) :=
  L2.walk_of (n := 63) (k := 12) (x := "_law_script") (CX := fun _ => CX0) (sp := fun w => sp_law (K w.params)) hn (by decide) hdf ⟨rfl, by decide, by decide⟩ hY F (fun _ _ a ns hl _ hS => ⟨a, ns, rfl, hS, hl, fun _ => rfl⟩) fun _ _ _ _ _ z => z
end My
open PySem PySem.W PyProof.Rows
set_option maxRecDepth 100000 in
set_option maxHeartbeats 0 in
theorem PySem.Challenge.cw_joinload_k41_whole_texts_both_ways_holds : PySem.Challenge.rw_joinload_k41_whole_texts_both_ways.Holds := by
  w_on; o_law; k_head; (case hw => w_witness2)
  k_fill
  refine My.walk (l := PySem.Challenge.rw_joinload_k41_whole_texts_both_ways) rfl rfl (fun w h Y => PySem.W.kIn_of Y) ?F
  case F =>
    intro w mg fa h KX G hmg
    refine' My.all_mk KX G hmg ?ac_WholeReading ?a_number_of ?l_number_of ?e_number_of ?k_number_of ?a_step_in ?l_step_in ?e_step_in ?k_step_in ?a_shown_whole ?l_shown_whole ?e_shown_whole ?k_shown_whole ?a_lean_rows ?l_lean_rows ?e_lean_rows ?k_lean_rows ?a_read_whole ?l_read_whole ?e_read_whole ?k_read_whole ?a_WholeReading___init__ ?i_WholeReading___init__ ?l_WholeReading___init__ ?e_WholeReading___init__ ?k_WholeReading___init__ ?a_WholeReading_takes ?i_WholeReading_takes ?l_WholeReading_takes ?e_WholeReading_takes ?k_WholeReading_takes ?a_WholeReading_takes_whole ?i_WholeReading_takes_whole ?l_WholeReading_takes_whole ?e_WholeReading_takes_whole ?k_WholeReading_takes_whole ?a_WholeReading_takes_part ?i_WholeReading_takes_part ?l_WholeReading_takes_part ?e_WholeReading_takes_part ?k_WholeReading_takes_part ?a_WholeReading_takes_word ?i_WholeReading_takes_word ?l_WholeReading_takes_word ?e_WholeReading_takes_word ?k_WholeReading_takes_word ?a_WholeReading_takes_lean ?i_WholeReading_takes_lean ?l_WholeReading_takes_lean ?e_WholeReading_takes_lean ?k_WholeReading_takes_lean ?a__law_cell_at ?l__law_cell_at ?e__law_cell_at ?k__law_cell_at ?a__law_target_by ?l__law_target_by ?e__law_target_by ?k__law_target_by ?a__law_put ?l__law_put ?e__law_put ?k__law_put ?a__law_end ?l__law_end ?e__law_end ?k__law_end ?a__law_built ?l__law_built ?e__law_built ?k__law_built ?a__law_copy ?l__law_copy ?e__law_copy ?k__law_copy ?a__law_turned_otherwise ?l__law_turned_otherwise ?e__law_turned_otherwise ?k__law_turned_otherwise ?a_law ?l_law ?e_law ?k_law ?pg_WholeReading ?hd_WholeReading ?po_WholeReading ?sa_WholeReading ?mm_WholeReading ?kc_WholeReading ?sp_cl ?tk_cl ?no_WholeReading_step ?no_WholeReading_size ?no_WholeReading_entry ?no_WholeReading_parts ?no_WholeReading_leaning ?no_WholeReading_last_words ?no_WholeReading_end ?no_WholeReading_behind_word ?g_FIGURES ?g_HOW_MANY_PARTS ?l_HOW_MANY_PARTS ?s_HOW_MANY_PARTS ?g_LEANING_RULES ?l_LEANING_RULES ?n_all ?n_enumerate ?n_int ?n_isinstance ?n_len ?n_list ?n_str
    (case ac_WholeReading => k_is)
    (case a_number_of => k_is)
    (case l_number_of => k_is)
    (case e_number_of => k_is)
    (case k_number_of => k_is)
    (case a_step_in => k_is)
    (case l_step_in => k_is)
    (case e_step_in => k_is)
    (case k_step_in => k_is)
    (case a_shown_whole => k_is)
    (case l_shown_whole => k_is)
    (case e_shown_whole => k_is)
    (case k_shown_whole => k_is)
    (case a_lean_rows => k_is)
    (case l_lean_rows => k_is)
    (case e_lean_rows => k_is)
    (case k_lean_rows => k_is)
    (case a_read_whole => k_is)
    (case l_read_whole => k_is)
    (case e_read_whole => k_is)
    (case k_read_whole => k_is)
    (case a_WholeReading___init__ => k_is)
    (case i_WholeReading___init__ => k_is)
    (case l_WholeReading___init__ => k_is)
    (case e_WholeReading___init__ => k_is)
    (case k_WholeReading___init__ => k_is)
    (case a_WholeReading_takes => k_is)
    (case i_WholeReading_takes => k_is)
    (case l_WholeReading_takes => k_is)
    (case e_WholeReading_takes => k_is)
    (case k_WholeReading_takes => k_is)
    (case a_WholeReading_takes_whole => k_is)
    (case i_WholeReading_takes_whole => k_is)
    (case l_WholeReading_takes_whole => k_is)
    (case e_WholeReading_takes_whole => k_is)
    (case k_WholeReading_takes_whole => k_is)
    (case a_WholeReading_takes_part => k_is)
    (case i_WholeReading_takes_part => k_is)
    (case l_WholeReading_takes_part => k_is)
    (case e_WholeReading_takes_part => k_is)
    (case k_WholeReading_takes_part => k_is)
    (case a_WholeReading_takes_word => k_is)
    (case i_WholeReading_takes_word => k_is)
    (case l_WholeReading_takes_word => k_is)
    (case e_WholeReading_takes_word => k_is)
    (case k_WholeReading_takes_word => k_is)
    (case a_WholeReading_takes_lean => k_is)
    (case i_WholeReading_takes_lean => k_is)
    (case l_WholeReading_takes_lean => k_is)
    (case e_WholeReading_takes_lean => k_is)
    (case k_WholeReading_takes_lean => k_is)
    (case a__law_cell_at => k_is)
    (case l__law_cell_at => k_is)
    (case e__law_cell_at => k_is)
    (case k__law_cell_at => k_is)
    (case a__law_target_by => k_is)
    (case l__law_target_by => k_is)
    (case e__law_target_by => k_is)
    (case k__law_target_by => k_is)
    (case a__law_put => k_is)
    (case l__law_put => k_is)
    (case e__law_put => k_is)
    (case k__law_put => k_is)
    (case a__law_end => k_is)
    (case l__law_end => k_is)
    (case e__law_end => k_is)
    (case k__law_end => k_is)
    (case a__law_built => k_is)
    (case l__law_built => k_is)
    (case e__law_built => k_is)
    (case k__law_built => k_is)
    (case a__law_copy => k_is)
    (case l__law_copy => k_is)
    (case e__law_copy => k_is)
    (case k__law_copy => k_is)
    (case a__law_turned_otherwise => k_is)
    (case l__law_turned_otherwise => k_is)
    (case e__law_turned_otherwise => k_is)
    (case k__law_turned_otherwise => k_is)
    (case a_law => k_is)
    (case l_law => k_is)
    (case e_law => k_is)
    (case k_law => k_is)
    (case pg_WholeReading => k_is)
    (case hd_WholeReading => k_is)
    (case po_WholeReading => k_is)
    (case sa_WholeReading => k_is)
    (case mm_WholeReading => k_is)
    (case kc_WholeReading => k_is)
    (case sp_cl => k_is)
    (case tk_cl => k_is)
    (case no_WholeReading_step => k_is)
    (case no_WholeReading_size => k_is)
    (case no_WholeReading_entry => k_is)
    (case no_WholeReading_parts => k_is)
    (case no_WholeReading_leaning => k_is)
    (case no_WholeReading_last_words => k_is)
    (case no_WholeReading_end => k_is)
    (case no_WholeReading_behind_word => k_is)
    (case g_FIGURES => k_is)
    (case g_HOW_MANY_PARTS => k_is)
    (case l_HOW_MANY_PARTS => k_is)
    (case s_HOW_MANY_PARTS => rfl)
    (case g_LEANING_RULES => k_is)
    (case l_LEANING_RULES => k_is)
    (case n_all => k_is)
    (case n_enumerate => k_is)
    (case n_int => k_is)
    (case n_isinstance => k_is)
    (case n_len => k_is)
    (case n_list => k_is)
    (case n_str => k_is)
#print axioms PySem.Challenge.cw_joinload_k41_whole_texts_both_ways_holds
