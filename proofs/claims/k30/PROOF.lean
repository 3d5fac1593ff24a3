import PyProof.Rows.All
import Wide.All
import OpenK.AllK
import Wide.FinOn
import Lean
import PyProof.EqAt
import PyProof.EqKinds
import PyProof.TupleCall
import PyProof.StationsW
import PyProof.ExcAttrAll.ValueError
import KE.KIsAll
import PyProof.RulesAs
import PyProof.NsDelKeeps
import PyProof.FString
import PyProof.FString4
import PyProof.Rows.FStr
import PyProof.Rows.FStrParts
import PyProof.StrCalls2
import PyProof.StrLawsRepr
import PyProof.StrLawsJoin
import PyProof.StrLaws
import PyProof.Rows.ReprOcc
import PyProof.ExcInit
import PyProof.InstStoreFacts
import KE.KDictOf
import PyProof.AttrMissHeap
import PyProof.AttrMissSeq
import PyProof.WalksS
import PyProof.Walks
import PyProof.Seq
import PyProof.DictList
import PyProof.DictUpdate
import PyProof.MakeMany
import PyProof.Rows.SetFrom
import PyProof.ZipIter
import PyProof.Rows.TupDisplay
import PyProof.EnumFor
import PyProof.EnumMake
import PyProof.EnumStmt
import PyProof.SeqI3
import PyProof.Rows.SumAny
import KE.KDictIter
import PyProof.DictWalks
import PyProof.StrLawsChain
import PyProof.StrLawsTight
import KE.KIntText
import PyProof.CallType
import PyProof.Rows.CallKwBuiltin
import PyProof.Draws
import PyProof.DefCall
import PyProof.SetKind
import PyProof.DictKinds
import PyProof.CollectWalk
import PyProof.FactsAll.set
import PyProof.DictIter
import PyProof.FactsTree
import PyProof.CollectStr
import KE.KDictLaws
import PyProof.Rows.SortShellK
import PyProof.Rows.SortWalk
import PyProof.Rows.StrNews2
import KE.KRevIter
import PyProof.ListNew
import PyProof.ListRange
import PyProof.WalkInts
import PySem.Challenge.RW_joinload_k30_laid_by_steps
set_option Elab.async false
set_option linter.all false
set_option maxRecDepth 100000
set_option genSizeOfSpec false
/-! THE HAND LAYER, for ints, bools, texts, own classes, LISTS and tuples (index, slices, in, append, pop ..), calls, loops. Paste it whole ahead of your own text; what your proof does not reach may be deleted. -/
namespace L2
open PySem PySem.Spec PyProof.Rows

noncomputable abbrev Key := Sum Int Str
noncomputable def keyIs : Key → Value → Bool
  | .inl k, v => Value.isInt k v
  | .inr x, v => Value.isStrOf x v
noncomputable def keyH (w : World) : Key → Int
  | .inl k => hashInt k
  | .inr x => hashStr w x
theorem keyIs_shape : ∀ {k : Key} {v : Value}, keyIs k v = true → (∃ i t, k = Sum.inl i ∧ v = Value.int i t) ∨ (∃ x t, k = Sum.inr x ∧ v = Value.str x t)
  | .inl i, v, h => by
    obtain ⟨t, e⟩ := Value.isInt_shape (k := i) (v := v) h
    exact .inl ⟨i, t, rfl, e⟩
  | .inr x, v, h => by
    obtain ⟨t, e⟩ := Value.isStrOf_shape (x := x) (v := v) h
    exact .inr ⟨x, t, rfl, e⟩
theorem keyIs_int (i : Int) (t : Tok) : keyIs (.inl i) (.int i t) = true := by simp [keyIs, Value.isInt]
theorem keyIs_str (x : Str) (t : Tok) : keyIs (.inr x) (.str x t) = true := by simp [keyIs, Value.isStrOf]
theorem key_ll (a b : Int) : decide ((Sum.inl a : Key) = Sum.inl b) = (a == b) := by
  by_cases e : a = b
  · subst e; simp
  · have h : ¬ (Sum.inl a : Key) = Sum.inl b := fun q => e (Sum.inl.inj q)
    rw [decide_eq_false h]
    exact (beq_eq_false_iff_ne.mpr e).symm
theorem key_rr (a b : Str) : decide ((Sum.inr a : Key) = Sum.inr b) = decide (a = b) := by
  by_cases e : a = b
  · subst e; simp
  · have h : ¬ (Sum.inr a : Key) = Sum.inr b := fun q => e (Sum.inr.inj q)
    rw [decide_eq_false h, decide_eq_false e]
theorem key_lr (a : Int) (b : Str) : decide ((Sum.inl a : Key) = Sum.inr b) = false := decide_eq_false (fun q => nomatch q)
theorem key_rl (a : Str) (b : Int) : decide ((Sum.inr a : Key) = Sum.inl b) = false := decide_eq_false (fun q => nomatch q)

noncomputable def mixKind (prog : Program) (w : World) : PySem.KeyKind prog w Key where
  is := keyIs
  hash := keyH w
  inj := fun v a b ha hb => by
    rcases keyIs_shape ha with ⟨i, t, rfl, rfl⟩ | ⟨x, t, rfl, rfl⟩
    · rcases keyIs_shape hb with ⟨j, u, rfl, e⟩ | ⟨y, u, rfl, e⟩
      · injection e with e1 _; rw [e1]
      · exact nomatch e
    · rcases keyIs_shape hb with ⟨j, u, rfl, e⟩ | ⟨y, u, rfl, e⟩
      · exact nomatch e
      · injection e with e1 _; rw [e1]
  byValue := fun k v h => by
    rcases keyIs_shape h with ⟨i, t, rfl, rfl⟩ | ⟨x, t, rfl, rfl⟩ <;> rfl
  pyHash := fun hv h => by
    rcases keyIs_shape hv with ⟨i, t, rfl, rfl⟩ | ⟨x, t, rfl, rfl⟩
    · exact wpAny_pyHash_int h
    · exact wpAny_pyHash_str h
  eqBool := fun hu hv h => by
    rcases keyIs_shape hu with ⟨i, t, rfl, rfl⟩ | ⟨x, t, rfl, rfl⟩
    · rcases keyIs_shape hv with ⟨j, u, rfl, rfl⟩ | ⟨y, u, rfl, rfl⟩
      · rw [key_ll] at h; exact wpAny_eqBool_int h
      · rw [key_lr] at h; exact SeqAt.EqAt.int_str i t y u _ _ _ _ h
    · rcases keyIs_shape hv with ⟨j, u, rfl, rfl⟩ | ⟨y, u, rfl, rfl⟩
      · rw [key_rl] at h; exact SeqAt.EqAt.str_int x t j u _ _ _ _ h
      · rw [key_rr] at h; exact wpAny_eqBool_str h
  «strs» := fun k x t v h => by
    rcases keyIs_shape h with ⟨i, u, rfl, e⟩ | ⟨y, u, rfl, e⟩
    · exact nomatch e
    · injection e with e1 _
      subst e1
      cases v <;> rfl

theorem mixKind_int (prog : Program) (w : World) (i : Int) (t : Tok) : (mixKind prog w).is (.inl i) (.int i t) = true := keyIs_int i t
theorem mixKind_str (prog : Program) (w : World) (x : Str) (t : Tok) : (mixKind prog w).is (.inr x) (.str x t) = true := keyIs_str x t
end L2

namespace L2
open PySem PySem.Spec PyProof.Rows

inductive V where
  | non | bl (b : Bool) | int (i : Int) | str (x : Str) | byt (b : Array UInt8) | flt (b : UInt64) | ref (a : Addr) | ty (n : String)
  deriving DecidableEq

noncomputable def RelV : V → Value → Prop
  | .non, u => u = Value.none
  | .bl b, u => u = Value.bool b
  | .int i, u => ∃ t, u = Value.int i t
  | .str x, u => ∃ t, u = Value.str x t
  | .byt b, u => ∃ t, u = Value.bytes b t
  | .flt b, u => ∃ t, u = Value.float b t
  | .ref a, u => u = Value.ref a
  | .ty n, u => u = Value.type n

noncomputable abbrev Vals : List V → List Value → Prop := Paired RelV
theorem Vals.length {xs : List V} {us : List Value} (r : Vals xs us) : xs.length = us.length := Paired.length r
theorem Vals.get : ∀ {xs : List V} {us : List Value} {i : Nat} {x : V}, Vals xs us → xs[i]? = some x → ∃ u, us[i]? = some u ∧ RelV x u
  | _, _, _, _, .nil, e => by simp at e
  | _, _, 0, _, .cons r _, e => by simp at e; subst e; exact ⟨_, rfl, r⟩
  | _, _, i + 1, x, .cons _ t, e => by
    obtain ⟨u, h1, h2⟩ := Vals.get (i := i) (x := x) t (by simpa using e)
    exact ⟨u, by simpa using h1, h2⟩
theorem Vals.append : ∀ {xs ys : List V} {us ws : List Value}, Vals xs us → Vals ys ws → Vals (xs ++ ys) (us ++ ws)
  | _, _, _, _, .nil, s => s
  | _, _, _, _, .cons r t, s => .cons r (Vals.append t s)
theorem Vals.take : ∀ {xs : List V} {us : List Value} (n : Nat), Vals xs us → Vals (xs.take n) (us.take n)
  | _, _, 0, _ => .nil
  | _, _, _ + 1, .nil => .nil
  | _, _, n + 1, .cons r t => .cons r (Vals.take n t)
theorem Vals.drop : ∀ {xs : List V} {us : List Value} (n : Nat), Vals xs us → Vals (xs.drop n) (us.drop n)
  | _, _, 0, r => r
  | _, _, _ + 1, .nil => .nil
  | _, _, n + 1, .cons _ t => Vals.drop n t

noncomputable def RelO : Option V → Option Value → Prop
  | some v, some u => RelV v u
  | none, none => True
  | _, _ => False
noncomputable def KV {κ : Type} : List (κ × V) → List (κ × Value) → Prop := Paired fun (p : κ × V) (q : κ × Value) => p.1 = q.1 ∧ RelV p.2 q.2

noncomputable def kV : Key → V
  | .inl i => .int i
  | .inr x => .str x

inductive HO where
    | lst (xs : List V)
    | tup (xs : List V)
    | dK (kvs : List (Key × V)) | dT (kvs : List (List Key × V))
    | set (S : Int → Bool) (n : Nat)
    | ins (C dx : Addr) (fs : List (Str × V))
    | own (x : Addr)
    | xd (fs : List (Str × V))
    | met (f x : Addr)
    | rng (lo hi : Int)
    | frz (o : Obj) (u : HO)
    | tbl (ps : Array Value)
    | ext (φ : Heap → Prop)

noncomputable abbrev Hp := Addr → Option HO
noncomputable def upd (H : Hp) (a : Addr) (o : HO) : Hp := fun b => if b = a then some o else H b
theorem upd_same {H : Hp} {a : Addr} {o : HO} : upd H a o a = some o := by unfold upd; rw [if_pos rfl]
theorem upd_ne {H : Hp} {a b : Addr} {o : HO} (h : b ≠ a) : upd H a o b = H b := by unfold upd; rw [if_neg h]
theorem ne_of {H : Hp} {a b : Addr} {o u : HO} (h : H a = some o) (h' : H b = some u) (d : o ≠ u) : a ≠ b := by
  intro e; subst e; rw [h] at h'; exact d (Option.some.inj h')
theorem ne_of_none {H : Hp} {a b : Addr} {o : HO} (h : H a = some o) (h' : H b = none) : a ≠ b := by
  intro e; subst e; rw [h] at h'; cases h'

section
variable (P : Program) (w : World)
noncomputable def ObjOk (H : Hp) (h : Heap) (a : Addr) : HO → Prop
  | .lst xs => xs.length ≤ sizeLine ∧ ∃ (its : List Value) (n : Nat), Vals xs its ∧ h.get? a = some { cls := .type "list", data := .seq its.toArray n }
  | .tup xs => xs.length ≤ sizeLine ∧ ∃ its : List Value, Vals xs its ∧ IsTup h a its.toArray
  | .dK kvs => kvs.length ≤ sizeLine ∧ (a == sysModules) = false ∧ ∃ vs, KV kvs vs ∧ h.DictOf (mixKind P w) a vs
  | .dT kvs => kvs.length ≤ sizeLine ∧ (a == sysModules) = false ∧ ∃ xs : List (List Key × Addr × Value),
      Paired (fun (p : List Key × V) (q : List Key × Addr × Value) => p.1 = q.1 ∧ H q.2.1 = some (.tup (p.1.map kV)) ∧ RelV p.2 q.2.2) kvs xs ∧
      ∃ o es ep, h.get? a = some o ∧ o.ExactDict ∧ o.data = .dict es ep ∧ es.toList = xs.map (entryOfKey (tupleKind (mixKind P w))) ∧ (xs.map (·.1)).Nodup
  | .set S n => h.SetOf (intKind P w) a S n
  | .ins C dx fs => H dx = some (.own a) ∧ fs.length ≤ 1000 ∧ dx ≠ a ∧ h.get? a = some (PySem.W.instObj C dx) ∧
      ∃ mA, h.Ns1 dx mA ∧ (∀ f, RelO (fs.lookup f) (mA f)) ∧ PySem.Within mA (fs.map (·.1))
  | .own _ => ∃ o, h.get? a = some o
  | .xd fs => ∃ mA, h.Ns1 a mA ∧ ∀ f, RelO (fs.lookup f) (mA f)
  | .rng lo hi => ∃ t u v, h.get? a = some { cls := .type "range", data := .fields #[.int lo t, .int hi u, .int 1 v] }
  | .frz o u => h.get? a = some o ∧ ObjOk H h a u
  | .tbl ps => h.get? a = some { cls := .none, data := .fields ps }
  | .met f x => h.get? a = some (PySem.W.methodObj (.ref f) (.ref x))
  | .ext φ => φ h ∧ (∃ o, h.get? a = some o) ∧ ∀ h1 h2 : Heap, φ h1 → (∀ o, h1.get? a = some o → h2.get? a = some o) → φ h2
noncomputable def HOk (H : Hp) (h : Heap) : Prop := ∀ a o, H a = some o → ObjOk P w H h a o
end

section
variable {P : Program} {w : World} {H H' : Hp} {h h' : Heap} {a : Addr} {o : HO}
theorem ObjOk.lt (x : ObjOk P w H h a o) : a < h.objs.size := by
  cases o with
  | lst xs => obtain ⟨_, _, _, _, e⟩ := x; exact Heap.lt_size e
  | tup xs => obtain ⟨_, _, _, p⟩ := x; exact p.lt
  | dK kvs => obtain ⟨_, _, _, _, o, _, _, e, _⟩ := x; exact Heap.lt_size e
  | dT kvs => obtain ⟨_, _, _, _, o, _, _, e, _⟩ := x; exact Heap.lt_size e
  | set S n => obtain ⟨o, _, _, _, e, _⟩ := x; exact Heap.lt_size e
  | ins C dx fs => obtain ⟨_, _, _, e, _⟩ := x; exact Heap.lt_size e
  | own y => obtain ⟨_, e⟩ := x; exact Heap.lt_size e
  | xd fs => obtain ⟨_, ⟨_, _, _, e, _⟩, _⟩ := x; exact Heap.lt_size e
  | rng lo hi => obtain ⟨_, _, _, e⟩ := x; exact Heap.lt_size e
  | frz ob u => obtain ⟨e, _⟩ := x; exact Heap.lt_size e
  | tbl ps => exact Heap.lt_size (show h.get? a = some _ from x)
  | met f y => exact Heap.lt_size (show h.get? a = some _ from x)
  | ext φ => obtain ⟨_, ⟨_, e⟩, _⟩ := x; exact Heap.lt_size e
theorem Paired.mapP {α β : Type} {F G : α → β → Prop} : ∀ {l₁ : List α} {l₂ : List β}, Paired F l₁ l₂ → (∀ a b, F a b → G a b) → Paired G l₁ l₂
  | _, _, .nil, _ => .nil
  | _, _, .cons r t, f => .cons (f _ _ r) (Paired.mapP t f)
theorem ObjOk.stay (x : ObjOk P w H h a o) (k : ∀ b u, (b = a ∨ H b = some (.own a)) → h.get? b = some u → h'.get? b = some u)
    (ho : ∀ b, H b = some (.own a) → H' b = some (.own a)) (ht : ∀ b xs, H b = some (.tup xs) → H' b = some (.tup xs)) : ObjOk P w H' h' a o := by
  induction o with
  | lst xs => obtain ⟨z, its, n, r, e⟩ := x; exact ⟨z, its, n, r, k _ _ (.inl rfl) e⟩
  | tup xs => obtain ⟨z, its, r, ob, e, c⟩ := x; exact ⟨z, its, r, ob, k _ _ (.inl rfl) e, c⟩
  | dK kvs => obtain ⟨z, y, vs, r, ob, es, ep, e, c⟩ := x; exact ⟨z, y, vs, r, ob, es, ep, k _ _ (.inl rfl) e, c⟩
  | dT kvs =>
    obtain ⟨z, y, xs, r, ob, es, ep, e, c⟩ := x
    exact ⟨z, y, xs, Paired.mapP r fun p q z => ⟨z.1, ht _ _ z.2.1, z.2.2⟩, ob, es, ep, k _ _ (.inl rfl) e, c⟩
  | set S n => obtain ⟨ob, es, ep, t, e, c⟩ := x; exact ⟨ob, es, ep, t, k _ _ (.inl rfl) e, c⟩
  | ins C dx fs =>
    obtain ⟨d, z, ne, e, mA, ⟨od, es, ep, e2, c⟩, r⟩ := x
    exact ⟨ho _ d, z, ne, k _ _ (.inl rfl) e, mA, ⟨od, es, ep, k _ _ (.inr d) e2, c⟩, r⟩
  | own y => obtain ⟨ob, e⟩ := x; exact ⟨ob, k _ _ (.inl rfl) e⟩
  | xd fs => obtain ⟨mA, ⟨od, es, ep, e, c⟩, r⟩ := x; exact ⟨mA, ⟨od, es, ep, k _ _ (.inl rfl) e, c⟩, r⟩
  | rng lo hi => obtain ⟨t, u, v, e⟩ := x; exact ⟨t, u, v, k _ _ (.inl rfl) e⟩
  | frz ob u ih => obtain ⟨e, q⟩ := x; exact ⟨k _ _ (.inl rfl) e, ih q⟩
  | tbl ps =>
    have e : h.get? a = some { cls := .none, data := .fields ps } := x
    show h'.get? a = some { cls := .none, data := .fields ps }
    exact k a _ (.inl rfl) e
  | met f y =>
    have e : h.get? a = some (PySem.W.methodObj (.ref f) (.ref y)) := x
    show h'.get? a = some (PySem.W.methodObj (.ref f) (.ref y))
    exact k a _ (.inl rfl) e
  | ext φ => obtain ⟨p, ⟨o, e⟩, st⟩ := x; exact ⟨st _ _ p fun o q => k _ _ (.inl rfl) q, ⟨o, k _ _ (.inl rfl) e⟩, st⟩
theorem HOk.lt (x : HOk P w H h) (e : H a = some o) : a < h.objs.size := (x a o e).lt
theorem HOk.fresh (x : HOk P w H h) (e : h.objs.size ≤ a) : H a = none := by
  cases q : H a with
  | none => rfl
  | some u => exact absurd (Nat.lt_of_lt_of_le (x.lt q) e) (Nat.lt_irrefl _)
theorem HOk.kept (x : HOk P w H h) (k : ∀ b u, h.get? b = some u → h'.get? b = some u) : HOk P w H h' := fun a o e =>
  (x a o e).stay (fun b u _ q => k b u q) (fun _ q => q) fun _ _ q => q
theorem HOk.laid (x : HOk P w H h) (k : ∀ b u, h.get? b = some u → h'.get? b = some u) (hp : h.objs.size ≤ a) (new : ObjOk P w (upd H a o) h' a o) : HOk P w (upd H a o) h' := fun b u e => by
  have hn := x.fresh hp
  by_cases hb : b = a
  · subst hb; rw [upd_same] at e; cases e; exact new
  · rw [upd_ne hb] at e
    exact (x b u e).stay (fun c v _ q => k c v q) (fun c q => by rw [upd_ne (ne_of_none q hn)]; exact q) fun c xs q => by rw [upd_ne (ne_of_none q hn)]; exact q
end

noncomputable def Rd (H : Hp) (a : Addr) (u : HO) : Prop := H a = some u ∨ ∃ o, H a = some (.frz o u)
theorem Rd.ok {P : Program} {w : World} {H : Hp} {h : Heap} {a : Addr} {u : HO} (r : Rd H a u) (x : HOk P w H h) : ObjOk P w H h a u := by
  rcases r with r | ⟨o, r⟩
  · exact x a u r
  · obtain ⟨_, q⟩ := x a _ r
    exact q
noncomputable def Mut : Option HO → Prop
  | some (.lst _) => True
  | some (.dK _) => True
  | some (.dT _) => True
  | some (.set _ _) => True
  | some (.ins _ _ _) => True
  | some (.ext _) => True
  | _ => False
section
variable {P : Program} {w : World} {H : Hp} {h h' : Heap} {x e : Addr} {o' : HO}
theorem HOk.write (ok : HOk P w H h) (mu : Mut (H x)) (he : e = x ∨ H e = some (.own x)) (k : ∀ b u, b ≠ e → h.get? b = some u → h'.get? b = some u) (heo : ∃ u, h'.get? e = some u)
    (new : ObjOk P w (upd H x o') h' x o') : HOk P w (upd H x o') h' := fun b u q => by
  have nown : ∀ c y, H c = some (.own y) → c ≠ x := fun c y r z => by subst z; rw [r] at mu; exact mu
  have ntup : ∀ c xs, H c = some (.tup xs) → c ≠ x := fun c xs r z => by subst z; rw [r] at mu; exact mu
  by_cases hb : b = x
  · subst hb; rw [upd_same] at q; cases q; exact new
  · rw [upd_ne hb] at q
    by_cases hbe : b = e
    · have q' : H b = some (.own x) := by
        rcases he with z | z
        · exact absurd (hbe.trans z) hb
        · rw [hbe]; exact z
      rw [q] at q'; cases q'
      obtain ⟨v, hv⟩ := heo
      exact ⟨v, by rw [hbe]; exact hv⟩
    · refine (ok b u q).stay (fun c v hc r => k c v ?_ r) (fun c r => by rw [upd_ne (nown c b r)]; exact r) fun c xs r => by rw [upd_ne (ntup c xs r)]; exact r
      rcases hc with rfl | hc
      · exact hbe
      · rintro rfl
        rcases he with z | z
        · exact nown c b hc z
        · rw [hc] at z; cases z; exact hb rfl
end

/-! ### kept unless tracked; of the frames at fs (the callers') the slots may change (an exception that passes writes there); of the records at ex (iterators) nothing is said -/
set_option genInjectivity false in
structure Un (fs ex : List Addr) (H H' : Hp) (h h' : Heap) : Prop where
  keep : ∀ b o, h.get? b = some o → H b = none → b ∉ fs → b ∉ ex → h'.get? b = some o
  slot : ∀ b o, h.get? b = some o → H b = none → b ∈ fs → b ∉ ex → ∃ sl, h'.get? b = some { o with slots := sl }
  free : ∀ b o, h.get? b = some o → H b = none → b ∉ ex → H' b = none
  there : ∀ b o, h.get? b = some o → b ∉ ex → ∃ o', h'.get? b = some o'
  tups : ∀ b xs, H b = some (.tup xs) → H' b = some (.tup xs)
  frzs : ∀ b o u, H b = some (.frz o u) → H' b = some (.frz o u)
  tbls : ∀ b ps, H b = some (.tbl ps) → ∃ more, H' b = some (.tbl (ps ++ more))
section
variable {fs fs' ex ex' : List Addr} {H H1 H2 : Hp} {h h1 h2 h' : Heap} {a x e : Addr} {o : HO}
theorem Un.any (u : Un fs ex H H1 h h1) {b : Addr} {ob : Obj} (q : h.get? b = some ob) (n : H b = none) (hx : b ∉ ex) : ∃ sl, h1.get? b = some { ob with slots := sl } := by
  by_cases hb : b ∈ fs
  · exact u.slot b ob q n hb hx
  · exact ⟨ob.slots, u.keep b ob q n hb hx⟩
theorem Un.kept (k : ∀ b u, h.get? b = some u → h'.get? b = some u) : Un fs ex H H h h' :=
  ⟨fun b ob q _ _ _ => k b ob q, fun b ob q _ _ _ => ⟨ob.slots, k b ob q⟩, fun _ _ _ n _ => n, fun b ob q _ => ⟨ob, k b ob q⟩, fun _ _ q => q, fun _ _ _ q => q, fun _ ps q => ⟨#[], by rw [q]; simp⟩⟩
theorem Un.refl : Un fs ex H H h h := Un.kept fun _ _ q => q
theorem Un.laid (k : ∀ b u, h.get? b = some u → h'.get? b = some u) (hp : h.objs.size ≤ a) (hn : H a = none) : Un fs ex H (upd H a o) h h' where
  keep := fun b u q _ _ _ => k b u q
  slot := fun b u q _ _ _ => ⟨u.slots, k b u q⟩
  free := fun b u q n _ => by rw [upd_ne (Nat.ne_of_lt (Nat.lt_of_lt_of_le (Heap.lt_size q) hp))]; exact n
  there := fun b u q _ => ⟨u, k b u q⟩
  tups := fun b xs q => by rw [upd_ne (ne_of_none q hn)]; exact q
  frzs := fun b u xs q => by rw [upd_ne (ne_of_none q hn)]; exact q
  tbls := fun b ps q => ⟨#[], by rw [upd_ne (ne_of_none q hn), q]; simp⟩
theorem Un.write (mu : Mut (H x)) (he : e = x ∨ H e = some (.own x)) (k : ∀ b u, b ≠ e → h.get? b = some u → h'.get? b = some u) (heo : ∃ u, h'.get? e = some u) : Un fs ex H (upd H x o) h h' := by
  have hx : ∀ b, H b = none → b ≠ x := fun b n z => by subst z; rw [n] at mu; exact mu
  have hb : ∀ b, H b = none → b ≠ e := fun b n z => by
    subst z
    rcases he with r | r
    · exact hx b n r
    · rw [n] at r; cases r
  have hm : ∀ b u, H b = some u → ¬ Mut (some u) → b ≠ x := fun b u q nm z => by subst z; rw [q] at mu; exact nm mu
  refine ⟨fun b u q n _ _ => k b u (hb b n) q, fun b u q n _ _ => ⟨u.slots, k b u (hb b n) q⟩, fun b u q n _ => by rw [upd_ne (hx b n)]; exact n, fun b u q _ => ?_,
    fun b xs q => by rw [upd_ne (hm b _ q fun z => z)]; exact q, fun b u xs q => by rw [upd_ne (hm b _ q fun z => z)]; exact q, fun b ps q => ⟨#[], by rw [upd_ne (hm b _ q fun z => z), q]; simp⟩⟩
  by_cases hbe : b = e
  · subst hbe; exact heo
  · exact ⟨u, k b u hbe q⟩
end

/-! ### the heap without what is tracked -/
noncomputable def trk (h : Heap) (H : Hp) : List Addr := (List.range h.objs.size).filter fun a => (H a).isSome
noncomputable def hidT (h : Heap) (H : Hp) : Heap := PySem.W.hideAll h (trk h H)
theorem hidT_size (h : Heap) (H : Hp) : (hidT h H).objs.size = h.objs.size := PySem.W.hideAll_size _ _
theorem hidT_get {h : Heap} {H : Hp} {b : Addr} {o : Obj} (e : h.get? b = some o) (n : H b = none) : (hidT h H).get? b = some o :=
  PySem.W.hideAll_get _ e fun hm => by
    have q : (H b).isSome = true := (List.mem_filter.mp hm).2
    rw [n] at q; simp at q
theorem of_hidT {h : Heap} {H : Hp} {b : Addr} {o : Obj} (e : (hidT h H).get? b = some o) : h.get? b = some o ∧ H b = none := by
  have e' : h.get? b = some o := PySem.W.of_hideAll (trk h H) e
  refine ⟨e', ?_⟩
  cases q : H b with
  | none => rfl
  | some x =>
    have hm : b ∈ trk h H := List.mem_filter.mpr ⟨List.mem_range.mpr (Heap.lt_size e'), by simp [q]⟩
    have z : (hidT h H).get? b = none := PySem.W.hideAll_none (trk h H) hm
    rw [z] at e; cases e

/-! ### OpenK's ledger, filled with every new object but one -/
noncomputable def allNews (g h : Heap) (L : Addr) : List (Addr × Obj) := (List.range h.objs.size).filterMap fun a => if a = L ∨ (g.get? a).isSome = true then none else (h.get? a).map fun o => (a, o)
noncomputable def rest (g h : Heap) (L d : Addr) : List (Addr × Obj) := (allNews g h L).filter fun p => decide (p.1 ≠ d)
end L2

namespace L2
open PySem PySem.Spec PyProof.Rows

set_option genInjectivity false in
structure Mod (K : PySem.W.Frag) (mg : Str → Option Value) (base : Heap) : Prop where
  kin : K.In base
  glob : base.Ns mainGlobals mg
  blt : ∃ mb, base.Ns builtinsNs mb ∧ ∀ x : Str, x ≠ "__name__" → mb x = bootBuiltins x
  nolimit : base.NoLimit

set_option genInjectivity false in
structure Cx where
  prog : Program
  w : World
  K : PySem.W.Frag
  mg : Str → Option Value
  base : Heap
  A : Around
  N : List Str
  s₀ : Shared
  H₀ : Hp
  env : Env
  outer : List Env
  stack : List Env
  ex : List Addr
  fn : Str → Bool
  calm : Bool
  pn : List (Addr × Obj)
  xe : Value → Shared → Prop
noncomputable def frs (l : List Env) : List Addr := l.filterMap (·.frame)
noncomputable abbrev Cx.fs (X : Cx) : List Addr := frs X.outer

noncomputable def Vis (sc : Scope) (x : Str) : Prop := sc.names.lookup x = some .local ∨ sc.names.lookup x = some .cell ∨ sc.names.lookup x = some .free
noncomputable def Loc (sc : Scope) (x : Str) : Prop := sc.names.lookup x = some .local ∨ sc.names.lookup x = some .cell
noncomputable def Look (env : Env) (h : Heap) (m : Str → Option Value) (x : Str) (u : Value) : Prop :=
  (env.kindOf x = some .local ∧ m x = some u) ∨ ((env.kindOf x = some .cell ∨ env.kindOf x = some .free) ∧ ∃ c, env.cells.lookup x = some c ∧ h.IsCell c (some u))

set_option genInjectivity false in
structure Cx.Ok (X : Cx) : Prop where
  mod : Mod X.K X.mg X.base
  kind : X.env.scope.kind = .function
  glob : X.env.globals = mainGlobals
  blt : X.env.builtins = builtinsNs
  above : X.s₀.heap.objs.size ≤ X.env.locals
  inj : ∀ x y c, X.env.cells.lookup x = some c → X.env.cells.lookup y = some c → x = y
  has : ∀ x, (X.env.kindOf x = some .cell ∨ X.env.kindOf x = some .free) → ∃ c, X.env.cells.lookup x = some c
  cab : ∀ x c, X.fn x = true → X.env.cells.lookup x = some c → X.s₀.heap.objs.size ≤ c
  hd : X.calm = true → X.A.handled = none
  frames : X.A.frames = some X.stack
  stk : X.stack = X.outer ∨ (X.stack = X.env :: X.outer ∧ X.env.frame = some X.env.locals)
  exf : ∀ b ∈ X.ex, b ≠ X.env.locals ∧ ∀ x c, X.env.cells.lookup x = some c → c ≠ b
  bs : ∀ b o, X.base.get? b = some o → X.s₀.heap.get? b = some o ∧ X.H₀ b = none
  bsz : X.base.objs.size ≤ X.s₀.heap.objs.size
  noex : ∀ b o, X.base.get? b = some o → b ∉ X.ex
  exfs : ∀ b ∈ X.ex, b ∉ X.fs
  funs : X.s₀.heap.FunFrames X.base X.outer
  frf : ∀ b ∈ X.fs, X.H₀ b = none

set_option genInjectivity false in
structure Inv (X : Cx) (pins : List (Addr × Obj)) (σ : List (Option V)) (H : Hp) (s : Shared) : Prop where
  ok : X.Ok
  os : s.os = X.s₀.os
  bare : AllBare s.gens
  base : Un X.fs X.ex X.H₀ H X.s₀.heap s.heap
  loc : ∃ m, s.heap.Ns X.env.locals m ∧ ∀ (i : Nat) (x : Str) (v : V), X.N[i]? = some x → σ[i]? = some (some v) → Vis X.env.scope x → ∃ u, RelV v u ∧ Look X.env s.heap m x u
  cell : ∀ x c, X.env.cells.lookup x = some c → ∃ v, s.heap.IsCell c v
  free : H X.env.locals = none
  freeC : ∀ x c, X.env.cells.lookup x = some c → H c = none
  pin : ∀ p ∈ X.pn ++ pins, s.heap.get? p.1 = some p.2 ∧ H p.1 = none ∧ p.1 ≠ X.env.locals ∧ p.1 ∉ X.fs ∧ ∀ v, p.2.data ≠ .cell v
  hok : HOk X.prog X.w H s.heap
  len : σ.length = X.N.length

section
variable {X : Cx} {pins : List (Addr × Obj)} {σ : List (Option V)} {H H' : Hp} {s : Shared} {h' : Heap}

theorem Cx.Ok.nofr (ok : X.Ok) {b : Addr} {o : Obj} (e : X.base.get? b = some o) : b ∉ X.fs := fun hb => by
  have := (ok.funs.mem hb).1
  rw [e] at this; cases this
theorem Inv.bs (I : Inv X pins σ H s) : ∀ b o, X.base.get? b = some o → s.heap.get? b = some o ∧ H b = none := fun b o e =>
  ⟨I.base.keep b o (I.ok.bs b o e).1 (I.ok.bs b o e).2 (I.ok.nofr e) (I.ok.noex b o e), I.base.free b o (I.ok.bs b o e).1 (I.ok.bs b o e).2 (I.ok.noex b o e)⟩
theorem Inv.bk (I : Inv X pins σ H s) : ∀ b o, X.base.get? b = some o → s.heap.get? b = some o := fun b o e => (I.bs b o e).1
theorem Inv.mod (I : Inv X pins σ H s) : Mod X.K X.mg X.base := I.ok.mod
theorem Inv.kIn (I : Inv X pins σ H s) : X.K.In s.heap := I.ok.mod.kin.keeps I.bk
theorem Inv.lt (I : Inv X pins σ H s) : X.env.locals < s.heap.objs.size := let ⟨_, hn, _⟩ := I.loc; hn.lt
theorem Inv.sz (I : Inv X pins σ H s) : X.s₀.heap.objs.size ≤ s.heap.objs.size := Nat.le_trans I.ok.above (Nat.le_of_lt I.lt)
theorem Inv.nofs (I : Inv X pins σ H s) {a : Addr} (h : s.heap.objs.size ≤ a) : a ∉ X.fs := fun hb => by
  obtain ⟨_, o, ho, _⟩ := I.ok.funs.mem hb
  exact absurd (Nat.lt_of_lt_of_le (Heap.lt_size ho) (Nat.le_trans I.sz h)) (Nat.lt_irrefl _)
theorem Inv.cne (I : Inv X pins σ H s) : ∀ x c, X.env.cells.lookup x = some c → c ≠ X.env.locals := fun x c e z => by
  obtain ⟨v, o, ho, hd⟩ := I.cell x c e
  obtain ⟨m, ⟨o', es, ep, ho', hd', _⟩, _⟩ := I.loc
  rw [z, ho'] at ho; cases ho; rw [hd'] at hd; cases hd
theorem Inv.funs (I : Inv X pins σ H s) : s.heap.FunFrames X.base X.outer := by
  have all : ∀ (l : List Env), (∀ b ∈ frs l, b ∈ X.fs) → X.s₀.heap.FunFrames X.base l → s.heap.FunFrames X.base l := by
    intro l
    induction l with
    | nil => intro _ _; trivial
    | cons env r ih =>
      intro hs hl
      obtain ⟨hk, ⟨L, o, hf, hn, ho, hd⟩, hr⟩ := hl
      have hL : L ∈ X.fs := hs L (by unfold frs; rw [List.filterMap_cons, hf]; exact List.mem_cons_self)
      obtain ⟨sl, e⟩ := I.base.slot L o ho (I.ok.frf L hL) hL fun z => I.ok.exfs L z hL
      exact ⟨hk, ⟨L, _, hf, hn, e, hd⟩, ih (fun b hb => hs b (by unfold frs; rw [List.filterMap_cons, hf]; exact List.mem_cons_of_mem _ hb)) hr⟩
  exact all X.outer (fun _ hb => hb) I.ok.funs

theorem Inv.stack (I : Inv X pins σ H s) : s.heap.FunFrames X.base X.stack := by
  rcases I.ok.stk with e | ⟨e, hf⟩
  · rw [e]; exact I.funs
  · rw [e]
    obtain ⟨m, hn, _⟩ := I.loc
    refine .cons (by rw [I.ok.kind]; decide) hf hn ?_ I.funs
    exact Heap.get?_none_of_le (Nat.le_trans I.ok.bsz I.ok.above)
theorem Inv.stkSub (I : Inv X pins σ H s) : ∀ b ∈ frs X.stack, b ∈ X.env.locals :: X.fs := fun b hb => by
  rcases I.ok.stk with e | ⟨e, hf⟩
  · rw [e] at hb; exact List.mem_cons_of_mem _ hb
  · rw [e] at hb
    unfold frs at hb
    rw [List.filterMap_cons, hf] at hb
    exact hb
theorem Inv.stkFree (I : Inv X pins σ H s) : ∀ b ∈ frs X.stack, H b = none := fun b hb => by
  rcases List.mem_cons.mp (I.stkSub b hb) with e | hb
  · rw [e]; exact I.free
  · obtain ⟨_, o, ho, _⟩ := I.ok.funs.mem hb
    exact I.base.free b o ho (I.ok.frf b hb) fun z => I.ok.exfs b z hb

theorem Inv.step {g' : Array GenState} {t' : Nat} {d' : Drawn} {ch : List Addr} (I : Inv X pins σ H s)
    (hch : ∀ b ∈ ch, (b ∈ X.ex ∨ X.s₀.heap.objs.size ≤ b) ∧ b ≠ X.env.locals ∧ (∀ x c, X.env.cells.lookup x = some c → c ≠ b) ∧ ∀ p ∈ X.pn ++ pins, p.1 ≠ b)
    (keep : ∀ b o, b ≠ X.env.locals → b ∉ X.fs → b ∉ ch → s.heap.get? b = some o → H b = none → h'.get? b = some o)
    (slot : ∀ b o, b ≠ X.env.locals → b ∈ X.fs → b ∉ ch → s.heap.get? b = some o → H b = none → ∃ sl, h'.get? b = some { o with slots := sl }) (free : ∀ b o, b ∉ ch → s.heap.get? b = some o → H b = none → H' b = none)
    (there : ∀ b o, b ∉ ch → s.heap.get? b = some o → ∃ o', h'.get? b = some o')
    (tups : ∀ b xs, H b = some (.tup xs) → H' b = some (.tup xs)) (frzs : ∀ b o u, H b = some (.frz o u) → H' b = some (.frz o u)) (tbls : ∀ b ps, H b = some (.tbl ps) → ∃ more, H' b = some (.tbl (ps ++ more)))
    (ns : ∀ m, s.heap.Ns X.env.locals m → h'.Ns X.env.locals m) (hok : HOk X.prog X.w H' h') (hg : AllBare g') :
    Inv X pins σ H' { s with heap := h', gens := g', drawn := d', toks := t' } := by
  have neL : ∀ b o, X.s₀.heap.get? b = some o → b ≠ X.env.locals := fun b o e => Nat.ne_of_lt (Nat.lt_of_lt_of_le (Heap.lt_size e) I.ok.above)
  have neC : ∀ b o, X.s₀.heap.get? b = some o → b ∉ X.ex → b ∉ ch := fun b o e hx hb => by
    rcases (hch b hb).1 with z | z
    · exact hx z
    · exact absurd (Nat.lt_of_lt_of_le (Heap.lt_size e) z) (Nat.lt_irrefl _)
  have cellK : ∀ x c, X.env.cells.lookup x = some c → ∀ v, s.heap.IsCell c v → h'.IsCell c v := fun x c e v ⟨o, ho, hd⟩ => by
    have nch : c ∉ ch := fun z => (hch c z).2.2.1 x c e rfl
    by_cases hc : c ∈ X.fs
    · obtain ⟨sl, q⟩ := slot c o (I.cne x c e) hc nch ho (I.freeC x c e)
      exact ⟨_, q, hd⟩
    · exact ⟨o, keep c o (I.cne x c e) hc nch ho (I.freeC x c e), hd⟩
  refine ⟨I.ok, I.os, hg, ⟨fun b o e n hb hx => ?_, fun b o e n hb hx => ?_, fun b o e n hx => ?_, fun b o e hx => ?_, fun b xs e => tups b xs (I.base.tups b xs e), fun b o xs e => frzs b o xs (I.base.frzs b o xs e), fun b ps e => ?_⟩, ?_, fun x c e => ?_, ?_, fun x c e => ?_, fun p hp => ?_, hok, I.len⟩
  · exact keep b o (neL b o e) hb (neC b o e hx) (I.base.keep b o e n hb hx) (I.base.free b o e n hx)
  · obtain ⟨sl, e1⟩ := I.base.slot b o e n hb hx
    obtain ⟨sl', e2⟩ := slot b _ (neL b o e) hb (neC b o e hx) e1 (I.base.free b o e n hx)
    exact ⟨sl', e2⟩
  · obtain ⟨o', e1⟩ := I.base.there b o e hx
    exact free b o' (neC b o e hx) e1 (I.base.free b o e n hx)
  · obtain ⟨o', e1⟩ := I.base.there b o e hx
    exact there b o' (neC b o e hx) e1
  · obtain ⟨m1, e1⟩ := I.base.tbls b ps e
    obtain ⟨m2, e2⟩ := tbls b _ e1
    exact ⟨m1 ++ m2, by rw [e2, Array.append_assoc]⟩
  · obtain ⟨m, hn, hl⟩ := I.loc
    refine ⟨m, ns m hn, fun i x v e1 e2 e3 => ?_⟩
    obtain ⟨u, r, l⟩ := hl i x v e1 e2 e3
    refine ⟨u, r, ?_⟩
    rcases l with l | ⟨k, c, e, z⟩
    · exact .inl l
    · exact .inr ⟨k, c, e, cellK x c e _ z⟩
  · obtain ⟨v, z⟩ := I.cell x c e
    exact ⟨v, cellK x c e v z⟩
  · obtain ⟨m, ⟨o, _, _, ho, _⟩, _⟩ := I.loc
    exact free _ o (fun z => (hch _ z).2.1 rfl) ho I.free
  · obtain ⟨v, o, ho, hd⟩ := I.cell x c e
    exact free c o (fun z => (hch c z).2.2.1 x c e rfl) ho (I.freeC x c e)
  · obtain ⟨e, n, ne, nf, d⟩ := I.pin p hp
    have nch : p.1 ∉ ch := fun z => (hch p.1 z).2.2.2 p hp rfl
    exact ⟨keep p.1 p.2 ne nf nch e n, free p.1 p.2 nch e n, ne, nf, d⟩
theorem Inv.un {t' : Nat} (I : Inv X pins σ H s) (u : Un X.fs [] H H' s.heap h') (hok : HOk X.prog X.w H' h') : Inv X pins σ H' { s with heap := h', toks := t' } := by
  obtain ⟨m, ⟨o, es, ep, ho, r⟩, _⟩ := id I.loc
  obtain ⟨sl, hL⟩ := u.any ho I.free (by simp)
  exact I.step (g' := s.gens) (d' := s.drawn) (ch := []) (fun _ z => nomatch z) (fun b o _ hb _ e n => u.keep b o e n hb (by simp)) (fun b o _ hb _ e n => u.slot b o e n hb (by simp)) (fun b o _ e n => u.free b o e n (by simp)) (fun b o _ e => u.there b o e (by simp)) u.tups u.frzs u.tbls (fun m' hm => by
    obtain ⟨o', es', ep', ho', r'⟩ := hm
    rw [ho] at ho'; cases ho'
    exact ⟨_, es', ep', hL, r'⟩) hok I.bare
theorem Inv.call {g' : Array GenState} {t' : Nat} {d' : Drawn} {ch : List Addr} (I : Inv X pins σ H s) (u : Un (frs X.stack) ch H H' s.heap h') (hok : HOk X.prog X.w H' h') (hg : AllBare g')
    (hch : ∀ b ∈ ch, (b ∈ X.ex ∨ X.s₀.heap.objs.size ≤ b) ∧ b ≠ X.env.locals ∧ (∀ x c, X.env.cells.lookup x = some c → c ≠ b) ∧ ∀ p ∈ X.pn ++ pins, p.1 ≠ b) :
    Inv X pins σ H' { s with heap := h', gens := g', drawn := d', toks := t' } := by
  obtain ⟨m, ⟨o, es, ep, ho, r⟩, _⟩ := id I.loc
  obtain ⟨sl, hL⟩ := u.any ho I.free fun z => (hch _ z).2.1 rfl
  exact I.step (ch := ch) hch (fun b o hL hb hc e n => u.keep b o e n (fun z => (List.mem_cons.mp (I.stkSub b z)).elim hL hb) hc) (fun b o _ _ hc e n => u.any e n hc) (fun b o hc e n => u.free b o e n hc) (fun b o hc e => u.there b o e hc) u.tups u.frzs u.tbls (fun m' hm => by
    obtain ⟨o', es', ep', ho', r'⟩ := hm
    rw [ho] at ho'; cases ho'
    exact ⟨_, es', ep', hL, r'⟩) hok hg
theorem Inv.turned {t' : Nat} {it : Addr} (I : Inv X pins σ H s) (k : ∀ b o, b ≠ it → s.heap.get? b = some o → h'.get? b = some o) (hn : H it = none) (hL : it ≠ X.env.locals)
    (h1 : it ∈ X.ex ∨ X.s₀.heap.objs.size ≤ it) (h2 : ∀ x c, X.env.cells.lookup x = some c → c ≠ it) (h3 : ∀ p ∈ X.pn ++ pins, p.1 ≠ it) : Inv X pins σ H { s with heap := h', toks := t' } := by
  have nit : ∀ b u, H b = some u → b ≠ it := fun b u e z => by rw [z, hn] at e; cases e
  refine I.step (g' := s.gens) (d' := s.drawn) (ch := [it]) (fun b hb => ?_) (fun b o _ _ hc e _ => k b o (fun z => hc (by simp [z])) e) (fun b o _ _ hc e _ => ⟨o.slots, k b o (fun z => hc (by simp [z])) e⟩) (fun _ _ _ _ n => n)
    (fun b o hc e => ⟨o, k b o (fun z => hc (by simp [z])) e⟩) (fun _ _ e => e) (fun _ _ _ e => e) (fun b ps e => ⟨#[], by rw [e]; simp⟩) (fun m hm => ?_) (fun b u e => ?_) I.bare
  · have e : b = it := by simpa using hb
    subst e
    exact ⟨h1, hL, h2, h3⟩
  · obtain ⟨o, es, ep, ho, r⟩ := hm
    exact ⟨o, es, ep, k _ o (Ne.symm hL) ho, r⟩
  · refine (I.hok b u e).stay (fun c v hc q => k c v ?_ q) (fun _ q => q) fun _ _ q => q
    rcases hc with z | z
    · rw [z]; exact nit b u e
    · exact nit c _ z
theorem Inv.tok (I : Inv X pins σ H s) (t : Nat) : Inv X pins σ H { s with toks := t } := I.un (h' := s.heap) (t' := t) Un.refl I.hok
theorem Inv.kept {t' : Nat} (I : Inv X pins σ H s) (k : ∀ b u, s.heap.get? b = some u → h'.get? b = some u) : Inv X pins σ H { s with heap := h', toks := t' } := I.un (Un.kept k) (I.hok.kept k)
theorem Inv.laid {a : Addr} {o : HO} {t' : Nat} (I : Inv X pins σ H s) (k : ∀ b u, s.heap.get? b = some u → h'.get? b = some u) (hp : s.heap.objs.size ≤ a) (new : ObjOk X.prog X.w (upd H a o) h' a o) :
    Inv X pins σ (upd H a o) { s with heap := h', toks := t' } := I.un (Un.laid k hp (I.hok.fresh hp)) (I.hok.laid k hp new)
theorem Inv.write {x e : Addr} {o : HO} {t' : Nat} (I : Inv X pins σ H s) (mu : Mut (H x)) (he : e = x ∨ H e = some (.own x)) (k : ∀ b u, b ≠ e → s.heap.get? b = some u → h'.get? b = some u) (heo : ∃ u, h'.get? e = some u)
    (new : ObjOk X.prog X.w (upd H x o) h' x o) : Inv X pins σ (upd H x o) { s with heap := h', toks := t' } := I.un (Un.write mu he k heo) (I.hok.write mu he k heo new)
theorem Inv.weak {σ' : List (Option V)} (I : Inv X pins σ H s) (hl : σ'.length = σ.length) (w : ∀ (i : Nat) v, σ'[i]? = some (some v) → σ[i]? = some (some v)) : Inv X pins σ' H s :=
  ⟨I.ok, I.os, I.bare, I.base, let ⟨m, hn, hl'⟩ := I.loc; ⟨m, hn, fun i x v e1 e2 e3 => hl' i x v e1 (w i v e2) e3⟩, I.cell, I.free, I.freeC, I.pin, I.hok, hl.trans I.len⟩
theorem Inv.pins_of {pins' : List (Addr × Obj)} (I : Inv X pins σ H s) (h : ∀ p ∈ pins', s.heap.get? p.1 = some p.2 ∧ H p.1 = none ∧ p.1 ≠ X.env.locals ∧ p.1 ∉ X.fs ∧ ∀ v, p.2.data ≠ .cell v) : Inv X pins' σ H s :=
  ⟨I.ok, I.os, I.bare, I.base, I.loc, I.cell, I.free, I.freeC, fun p hp => (List.mem_append.mp hp).elim (fun z => I.pin p (List.mem_append_left _ z)) (h p), I.hok, I.len⟩

theorem nodup_ix {N : List Str} (hN : N.Nodup) {i j : Nat} {x : Str} (a : N[i]? = some x) (b : N[j]? = some x) : i = j := by
  obtain ⟨h1, e1⟩ := List.getElem?_eq_some_iff.mp a
  obtain ⟨h2, e2⟩ := List.getElem?_eq_some_iff.mp b
  exact (List.getElem_inj hN).mp (e1.trans e2.symm)

theorem store_ok2 {M : Model} {A : Around} {E : Value → Shared → Prop} {i : Nat} {x : Str} {v : V} {u : Value} {Q : Unit → Shared → Prop} (I : Inv X pins σ H s) (hN : X.N.Nodup) (hi : X.N[i]? = some x) (hx : Loc X.env.scope x) (r : RelV v u)
    (h : ∀ s', Inv X pins (σ.set i (some v)) H s' → (∃ a, Heap.SameBut a s.heap s'.heap ∧ (a = X.env.locals ∨ X.env.cells.lookup x = some a)) → Q () s') (hf : X.fn x = true ∨ X.env.scope.names.lookup x = some .local := by first | exact .inl rfl | exact .inr rfl | assumption) : wpAny M A (storeName X.env x u) Q E s := by
  obtain ⟨m, hn, hl⟩ := id I.loc
  have hcls : (X.env.scope.kind == .class || (X.env.scope.kind == .module && X.env.locals != X.env.globals)) = false := by rw [I.ok.kind]; rfl
  have hiσ : i < σ.length := by rw [I.len]; exact (List.getElem?_eq_some_iff.mp hi).1
  have cne := I.cne
  have tracked : ∀ {a : Addr} {h' : Heap}, (∃ o, s.heap.get? a = some o ∧ H a = none) → Heap.SameBut a s.heap h' → HOk X.prog X.w H h' := fun {a h'} ha hs b ob e => by
    obtain ⟨_, _, hfree⟩ := ha
    refine (I.hok b ob e).stay (fun c w' hc q => (hs.2 c ?_).trans q) (fun _ q => q) fun _ _ q => q
    rintro rfl
    rcases hc with rfl | hc
    · rw [hfree] at e; cases e
    · rw [hfree] at hc; cases hc
  rcases hx with hk | hk
  · refine wpAny_storeName_local hk hn (fun h' hn' hs => ?_) hcls
    obtain ⟨oL, _, _, hoL, _⟩ := id hn
    refine h _ ⟨I.ok, I.os, I.bare, ⟨fun b o e n hb hx => ?_, fun b o e n hb hx => ?_, I.base.free, fun b o e hx => ?_, I.base.tups, I.base.frzs, I.base.tbls⟩, ⟨_, hn', fun j y v' e1 e2 e3 => ?_⟩, fun y c e => ?_, I.free, I.freeC, fun p hp => ?_, tracked ⟨oL, hoL, I.free⟩ hs, by simpa using I.len⟩ ⟨_, hs, .inl rfl⟩
    · exact (hs.2 b (Nat.ne_of_lt (Nat.lt_of_lt_of_le (Heap.lt_size e) I.ok.above))).trans (I.base.keep b o e n hb hx)
    · obtain ⟨sl, e1⟩ := I.base.slot b o e n hb hx
      exact ⟨sl, (hs.2 b (Nat.ne_of_lt (Nat.lt_of_lt_of_le (Heap.lt_size e) I.ok.above))).trans e1⟩
    · obtain ⟨o', e1⟩ := I.base.there b o e hx
      exact ⟨o', (hs.2 b (Nat.ne_of_lt (Nat.lt_of_lt_of_le (Heap.lt_size e) I.ok.above))).trans e1⟩
    · by_cases hj : j = i
      · subst hj
        rw [hi] at e1; cases e1
        rw [List.getElem?_set_self hiσ] at e2
        cases e2
        exact ⟨u, r, .inl ⟨hk, by simp⟩⟩
      · rw [List.getElem?_set_ne (Ne.symm hj)] at e2
        obtain ⟨u', r', q⟩ := hl j y v' e1 e2 e3
        refine ⟨u', r', ?_⟩
        rcases q with ⟨k, e⟩ | ⟨k, c, e, z⟩
        · refine .inl ⟨k, ?_⟩
          have : y ≠ x := fun e => hj (nodup_ix hN e1 (e ▸ hi))
          simp [this, e]
        · exact .inr ⟨k, c, e, z.sameBut hs (cne y c e)⟩
    · obtain ⟨w', z⟩ := I.cell y c e
      exact ⟨w', z.sameBut hs (cne y c e)⟩
    · obtain ⟨e, n, ne, nf, d⟩ := I.pin p hp
      exact ⟨(hs.2 p.1 ne).trans e, n, ne, nf, d⟩
  · have hfn : X.fn x = true := by
      rcases hf with z | z
      · exact z
      · rw [z] at hk; cases hk
    obtain ⟨c, hc⟩ := I.ok.has x (.inl hk)
    obtain ⟨w', z⟩ := I.cell x c hc
    refine wpAny_storeName_cell I.ok.kind hk hc z (fun h' hc' hs => ?_)
    obtain ⟨oc, hoc, hocd⟩ := id z
    refine h { s with heap := h' } ⟨I.ok, I.os, I.bare, ⟨fun b o e n hb hx => ?_, fun b o e n hb hx => ?_, I.base.free, fun b o e hx => ?_, I.base.tups, I.base.frzs, I.base.tbls⟩, ⟨m, hn.sameBut hs (Ne.symm (cne x c hc)), fun j y v' e1 e2 e3 => ?_⟩, fun y c' e => ?_, I.free, I.freeC, fun p hp => ?_, tracked ⟨oc, hoc, I.freeC x c hc⟩ hs, by simpa using I.len⟩ ⟨c, hs, .inr hc⟩
    · exact (hs.2 b (Nat.ne_of_lt (Nat.lt_of_lt_of_le (Heap.lt_size e) (I.ok.cab x c hfn hc)))).trans (I.base.keep b o e n hb hx)
    · obtain ⟨sl, e1⟩ := I.base.slot b o e n hb hx
      exact ⟨sl, (hs.2 b (Nat.ne_of_lt (Nat.lt_of_lt_of_le (Heap.lt_size e) (I.ok.cab x c hfn hc)))).trans e1⟩
    · obtain ⟨o', e1⟩ := I.base.there b o e hx
      exact ⟨o', (hs.2 b (Nat.ne_of_lt (Nat.lt_of_lt_of_le (Heap.lt_size e) (I.ok.cab x c hfn hc)))).trans e1⟩
    · by_cases hj : j = i
      · subst hj
        rw [hi] at e1; cases e1
        rw [List.getElem?_set_self hiσ] at e2
        cases e2
        exact ⟨u, r, .inr ⟨.inl hk, c, hc, hc'⟩⟩
      · rw [List.getElem?_set_ne (Ne.symm hj)] at e2
        obtain ⟨u', r', q⟩ := hl j y v' e1 e2 e3
        refine ⟨u', r', ?_⟩
        rcases q with q | ⟨k, c', e, z'⟩
        · exact .inl q
        · refine .inr ⟨k, c', e, z'.sameBut hs ?_⟩
          rintro rfl
          exact hj (nodup_ix hN e1 (I.ok.inj _ _ _ e hc ▸ hi))
    · by_cases hcc : c' = c
      · subst hcc; exact ⟨_, hc'⟩
      · obtain ⟨w2, z2⟩ := I.cell y c' e
        exact ⟨w2, z2.sameBut hs hcc⟩
    · obtain ⟨e, n, ne, nf, d⟩ := I.pin p hp
      refine ⟨(hs.2 p.1 ?_).trans e, n, ne, nf, d⟩
      intro q
      rw [q, hoc] at e
      have q' : oc = p.2 := Option.some.inj e
      exact d w' (by rw [← q']; exact hocd)
theorem store_ok {M : Model} {A : Around} {E : Value → Shared → Prop} {i : Nat} {x : Str} {v : V} {u : Value} {Q : Unit → Shared → Prop} (I : Inv X pins σ H s) (hN : X.N.Nodup) (hi : X.N[i]? = some x) (hx : Loc X.env.scope x) (r : RelV v u)
    (h : ∀ s', Inv X pins (σ.set i (some v)) H s' → Q () s') (hf : X.fn x = true ∨ X.env.scope.names.lookup x = some .local := by first | exact .inl rfl | exact .inr rfl | assumption) : wpAny M A (storeName X.env x u) Q E s :=
  store_ok2 I hN hi hx r (fun s' I' _ => h s' I') hf
theorem Inv.call' {s' : Shared} {ch : List Addr} (I : Inv X pins σ H s) (ho : s'.os = s.os) (u : Un (frs X.stack) ch H H' s.heap s'.heap) (hok : HOk X.prog X.w H' s'.heap) (hg : AllBare s'.gens)
    (hch : ∀ b ∈ ch, (b ∈ X.ex ∨ X.s₀.heap.objs.size ≤ b) ∧ b ≠ X.env.locals ∧ (∀ x c, X.env.cells.lookup x = some c → c ≠ b) ∧ ∀ p ∈ X.pn ++ pins, p.1 ≠ b) : Inv X pins σ H' s' := by
  obtain ⟨h', g', d', t', o'⟩ := s'
  have e : o' = s.os := ho
  subst e
  exact I.call (g' := g') (t' := t') (d' := d') u hok hg hch
end

/-! ### the judgements -/
noncomputable abbrev XK := Value → Option Addr → Hp → Prop
noncomputable abbrev St := List (Option V)
noncomputable abbrev VK := V → Hp → Prop
noncomputable abbrev TE := St → Hp → VK → Prop
noncomputable abbrev TT := St → Hp → (Bool → Hp → Prop) → Prop
noncomputable abbrev TA := St → Hp → (List V → Hp → Prop) → Prop
set_option genInjectivity false in
structure Ends where
  nx : St → Hp → Prop
  rt : VK
  bk : St → Hp → Prop := fun _ _ => False
  ct : St → Hp → Prop := fun _ _ => False
noncomputable abbrev TS := Ends → St → Hp → Prop

noncomputable def EP (X : Cx) (pins : List (Addr × Obj)) (σ : St) (Q : VK) (u : Value) (s' : Shared) : Prop := ∃ v H', Inv X pins σ H' s' ∧ RelV v u ∧ Q v H'
noncomputable def TP (X : Cx) (pins : List (Addr × Obj)) (σ : St) (Q : Bool → Hp → Prop) (b : Bool) (s' : Shared) : Prop := ∃ H', Inv X pins σ H' s' ∧ Q b H'
noncomputable def AP (X : Cx) (pins : List (Addr × Obj)) (σ : St) (Q : List V → Hp → Prop) (us : List Value) (s' : Shared) : Prop := ∃ vs H', Inv X pins σ H' s' ∧ Vals vs us ∧ Q vs H'
noncomputable def SP (X : Cx) (pins : List (Addr × Obj)) (D : Ends) (f : Flow) (s' : Shared) : Prop :=
  match f with
  | .next => ∃ σ' H', Inv X pins σ' H' s' ∧ D.nx σ' H'
  | .brk => ∃ σ' H', Inv X pins σ' H' s' ∧ D.bk σ' H'
  | .cont => ∃ σ' H', Inv X pins σ' H' s' ∧ D.ct σ' H'
  | .ret u => ∃ v σ' H', Inv X pins σ' H' s' ∧ RelV v u ∧ D.rt v H'

noncomputable def PE (X : Cx) (e : Expr) (t : TE) : Prop :=
  ∀ (pins : List (Addr × Obj)) (s : Shared) (σ : St) (H : Hp) (Q : VK), Inv X pins σ H s → t σ H Q → wpAny (model X.prog X.w) X.A (eval e X.env) (EP X pins σ Q) X.xe s
noncomputable def PT (X : Cx) (e : Expr) (t : TT) : Prop :=
  ∀ (pins : List (Addr × Obj)) (s : Shared) (σ : St) (H : Hp) (Q : Bool → Hp → Prop), Inv X pins σ H s → t σ H Q → wpAny (model X.prog X.w) X.A (isTrue e X.env (eval e X.env)) (TP X pins σ Q) X.xe s
noncomputable def PW (X : Cx) (e : Expr) (t : TT) : Prop :=
  ∀ (whole : Sem Value) (pins : List (Addr × Obj)) (s : Shared) (σ : St) (H : Hp) (Q : Bool → Hp → Prop), Inv X pins σ H s → t σ H Q → wpAny (model X.prog X.w) X.A (isTrue e X.env whole) (TP X pins σ Q) X.xe s
theorem PW.pt {X : Cx} {e : Expr} {t : TT} (h : PW X e t) : PT X e t := h _
noncomputable def PA (X : Cx) (es : List Expr) (t : TA) : Prop :=
  ∀ (pos : Pos) (pins : List (Addr × Obj)) (s : Shared) (σ : St) (H : Hp) (Q : List V → Hp → Prop), Inv X pins σ H s → t σ H Q → wpAny (model X.prog X.w) X.A (spliced (backTo pos (starEach es X.env))) (AP X pins σ Q) X.xe s
noncomputable def PS (X : Cx) (st : Stmt) (t : TS) : Prop :=
  ∀ (pins : List (Addr × Obj)) (s : Shared) (σ : St) (H : Hp) (D : Ends), Inv X pins σ H s → t D σ H → wpAny (model X.prog X.w) X.A (exec st X.env) (SP X pins D) X.xe s
noncomputable def PSs (X : Cx) (st : List Stmt) (t : TS) : Prop :=
  ∀ (pins : List (Addr × Obj)) (s : Shared) (σ : St) (H : Hp) (D : Ends), Inv X pins σ H s → t D σ H → wpAny (model X.prog X.w) X.A (execs st X.env) (SP X pins D) X.xe s
theorem thn {α : Type} {t : Sem α} {Q Q' : α → Shared → Prop} {M : Model} {A : Around} {E : Value → Shared → Prop} {s : Shared} (h : wpAny M A t Q E s) (hQ : ∀ a s, Q a s → Q' a s) : wpAny M A t Q' E s := wpAny_mono h hQ fun _ _ x => x
end L2

namespace L2
open PySem PySem.Spec PyProof.Rows
section
variable {X : Cx}


/-! ### names and constants -/
noncomputable def tVar (i : Nat) : TE := fun σ H Q => ∃ v, σ[i]? = some (some v) ∧ Q v H
noncomputable def tC (v : V) : TE := fun _ H Q => Q v H
theorem pe_var {i : Nat} {x : Str} {pos : Pos} (hN : X.N[i]? = some x) (hv : Vis X.env.scope x) (hd : (x == ("__debug__" : Str)) = false := by decide) (hcd : (x == ("__classdict__" : Str)) = false := by decide) : PE X (.Name x pos) (tVar i) := by
  intro pins s σ H Q I h
  obtain ⟨v, e, h⟩ := h
  obtain ⟨m, hn, hl⟩ := I.loc
  obtain ⟨u, r, l⟩ := hl i x v hN e hv
  have fin : EP X pins σ Q u s := ⟨v, H, I, r, h⟩
  rcases l with ⟨hk, hm⟩ | ⟨hk, c, hc, hcell⟩
  · exact wpAny_Name (wpAny_loadName_local I.ok.kind hk hn hm fin) hd
  · rcases hk with hk | hk
    · exact wpAny_Name (wpAny_loadName_cell I.ok.kind hk hc hcell fin) hd
    · exact wpAny_Name (wpAny_loadName_free I.ok.kind hk hc hcell fin hcd) hd
theorem pe_int {i j pos} : PE X (.Constant (.int i) j pos) (tC (.int i)) := fun _ _ _ H _ I h => wpAny_Constant_int ⟨.int i, H, I.tok _, ⟨_, rfl⟩, h⟩
theorem pe_bl {b j pos} : PE X (.Constant (.bool b) j pos) (tC (.bl b)) := fun _ _ _ H _ I h => Constant_bool ⟨.bl b, H, I, rfl, h⟩
theorem pe_str {x j pos} : PE X (.Constant (.str x) j pos) (tC (.str x)) := fun _ _ _ H _ I h => Calls.Constant_str ⟨.str x, H, I.tok _, ⟨_, rfl⟩, h⟩

noncomputable def Gl (X : Cx) (x : Str) : Prop := X.env.kindOf x = some .globalImplicit
theorem ld_glob {E : Value → Shared → Prop} {pins : List (Addr × Obj)} {s : Shared} {σ : St} {H : Hp} {x : Str} {u : Value} {pos : Pos} {Q : Value → Shared → Prop} (I : Inv X pins σ H s) (hg : Gl X x) (hm : X.mg x = some u) (h : Q u s)
    (hd : (x == ("__debug__" : Str)) = false := by decide) : wpAny (model X.prog X.w) X.A (eval (.Name x pos) X.env) Q E s :=
  Calls.Name_function_global I.ok.kind hg (Calls.loadGlobal_global (by rw [I.ok.glob]; exact I.mod.glob.keeps I.bk) hm h) hd
theorem ld_blt {E : Value → Shared → Prop} {pins : List (Addr × Obj)} {s : Shared} {σ : St} {H : Hp} {x : Str} {u : Value} {pos : Pos} {Q : Value → Shared → Prop} (I : Inv X pins σ H s) (hg : Gl X x) (hm : X.mg x = none) (hv : bootBuiltins x = some u) (h : Q u s)
    (hn : x ≠ "__name__" := by decide) (hd : (x == ("__debug__" : Str)) = false := by decide) : wpAny (model X.prog X.w) X.A (eval (.Name x pos) X.env) Q E s := by
  obtain ⟨mb, h1, h2⟩ := I.mod.blt
  exact Calls.Name_function_global I.ok.kind hg (Calls.loadGlobal_builtin (by rw [I.ok.glob]; exact I.mod.glob.keeps I.bk) hm (by rw [I.ok.blt]; exact h1.keeps I.bk) ((h2 x hn).trans hv) h) hd
theorem pe_bltn {x : Str} {v : V} {u : Value} {pos : Pos} (hg : Gl X x) (hm : X.mg x = none) (hv : bootBuiltins x = some u) (r : RelV v u) (hn : x ≠ "__name__" := by decide) (hd : (x == ("__debug__" : Str)) = false := by decide) : PE X (.Name x pos) (tC v) :=
  fun _ _ _ H _ I h => ld_blt I hg hm hv ⟨v, H, I, r, h⟩ hn hd

/-! ### arithmetic -/
variable {a b : Expr} {ta tb : TE} {pos : Pos}

/-! ### comparisons -/
noncomputable def tB (t : TE) : TT := fun σ H Q => t σ H fun x H1 => ∃ c, x = .bl c ∧ Q c H1
theorem pt_val {e : Expr} {t : TE} (h : PE X e t) (he : ∀ whole, isTrue e X.env whole = (do let v ← whole; standAt e.pos; holding [v] (truthy v)) := by intro _; rfl) : PT X e (tB t) := by
  intro pins s σ H Q I hw
  refine isTrue_plain (thn (h pins s σ H _ I hw) fun v s1 ⟨x, H1, I1, r1, q1⟩ => ?_) (he _)
  obtain ⟨d, rfl, q⟩ := q1
  cases r1
  exact wpAny_truthy_bool ⟨H1, I1, q⟩

/-! ### and, or, not -/
variable {tA tB' : TT} {rest : List Expr}
noncomputable def tAnd (t u : TT) : TT := fun σ H Q => t σ H fun c H1 => if c = true then u σ H1 Q else Q false H1
noncomputable def tOr (t u : TT) : TT := fun σ H Q => t σ H fun c H1 => if c = true then Q true H1 else u σ H1 Q
noncomputable def tNot (t : TT) : TT := fun σ H Q => t σ H fun c H1 => Q (!c) H1
theorem pw_and1 (ha : PT X a tA) : PW X (.BoolOp .And [a] pos) tA := by
  intro wh pins s σ H Q I h
  refine isTrue_and (thn (ha pins s σ H Q I h) fun c s1 e => ?_)
  cases c with
  | true => exact isTrue_and_nil e
  | false => exact e
theorem pw_or1 (ha : PT X a tA) : PW X (.BoolOp .Or [a] pos) tA := by
  intro wh pins s σ H Q I h
  refine isTrue_or (thn (ha pins s σ H Q I h) fun c s1 e => ?_)
  cases c with
  | false => exact isTrue_or_nil e
  | true => exact e
theorem pw_and (ha : PT X a tA) (hb : PW X (.BoolOp .And (b :: rest) pos) tB') : PW X (.BoolOp .And (a :: b :: rest) pos) (tAnd tA tB') := by
  intro wh pins s σ H Q I h
  refine isTrue_and (thn (ha pins s σ H _ I h) fun c s1 ⟨H1, I1, q1⟩ => ?_)
  cases c with
  | true => exact hb wh pins s1 σ H1 Q I1 q1
  | false => exact ⟨H1, I1, q1⟩
theorem pw_or (ha : PT X a tA) (hb : PW X (.BoolOp .Or (b :: rest) pos) tB') : PW X (.BoolOp .Or (a :: b :: rest) pos) (tOr tA tB') := by
  intro wh pins s σ H Q I h
  refine isTrue_or (thn (ha pins s σ H _ I h) fun c s1 ⟨H1, I1, q1⟩ => ?_)
  cases c with
  | true => exact ⟨H1, I1, q1⟩
  | false => exact hb wh pins s1 σ H1 Q I1 q1
theorem pt_not (ha : PT X a tA) : PT X (.UnaryOp .Not a pos) (tNot tA) := by
  intro pins s σ H Q I h
  exact isTrue_not (ha pins s σ H (fun c H1 => Q (!c) H1) I h)
noncomputable def tAndV (ta tb : TE) : TE := fun σ H Q => ta σ H fun x H1 => ∃ c, x = .bl c ∧ if c = true then tb σ H1 Q else Q (.bl false) H1
noncomputable def tOrV (ta tb : TE) : TE := fun σ H Q => ta σ H fun x H1 => ∃ c, x = .bl c ∧ if c = true then Q (.bl true) H1 else tb σ H1 Q
noncomputable def tNotV (ta : TE) : TE := fun σ H Q => ta σ H fun x H1 => ∃ c, x = .bl c ∧ Q (.bl (!c)) H1
theorem pe_one {op} {t : TE} (h : PE X a t) : PE X (.BoolOp op [a] pos) t := fun pins s σ H Q I hw => BoolOp_one (h pins s σ H Q I hw)
theorem pe_and (ha : PE X a ta) (hb : PE X (.BoolOp .And (b :: rest) pos) tb) : PE X (.BoolOp .And (a :: b :: rest) pos) (tAndV ta tb) := by
  intro pins s σ H Q I h
  refine BoolOp_and (thn (ha pins s σ H _ I h) fun v s1 ⟨x, H1, I1, r1, q1⟩ => ?_)
  obtain ⟨c, rfl, q1⟩ := q1
  cases r1
  refine wpAny_truthy_bool ?_
  cases c with
  | true => exact hb pins s1 σ H1 Q I1 q1
  | false => exact ⟨.bl false, H1, I1, rfl, q1⟩
theorem pe_not (ha : PE X a ta) : PE X (.UnaryOp .Not a pos) (tNotV ta) := by
  intro pins s σ H Q I h
  refine UnaryOp_ (thn (ha pins s σ H _ I h) fun v s1 ⟨x, H1, I1, r1, q1⟩ => ?_)
  obtain ⟨c, rfl, q1⟩ := q1
  cases r1
  exact not_of (wpAny_truthy_bool ⟨.bl (!c), H1, I1, rfl, q1⟩)
noncomputable def tIf (t : TT) (ta tb : TE) : TE := fun σ H Q => t σ H fun c H1 => if c = true then ta σ H1 Q else tb σ H1 Q
end
end L2

namespace L2
open PySem PySem.Spec PyProof.Rows

/-! ### a list, a tuple that is read: tracked, frozen, or an object of the module -/
noncomputable def SqL (K : PySem.W.Frag) (H : Hp) (a : Addr) (xs : List V) : Prop :=
  Rd H a (.lst xs) ∨
    ∃ (o : Obj) (its : Array Value) (n : Nat), K.lookup a = some o ∧ o.cls = .type "list" ∧ o.dict = none ∧ o.data = .seq its n ∧ its.size ≤ sizeLine ∧ Vals xs its.toList
noncomputable def SqT (K : PySem.W.Frag) (H : Hp) (a : Addr) (xs : List V) : Prop :=
  Rd H a (.tup xs) ∨
    ∃ (o : Obj) (its : Array Value) (n : Nat), K.lookup a = some o ∧ o.cls = .type "tuple" ∧ o.data = .seq its n ∧ its.size ≤ sizeLine ∧ Vals xs its.toList
noncomputable def absV : Value → Option V
  | .none => some .non
  | .bool b => some (.bl b)
  | .int i _ => some (.int i)
  | .str x _ => some (.str x)
  | .bytes b _ => some (.byt b)
  | .float b _ => some (.flt b)
  | .ref a => some (.ref a)
  | .type n => some (.ty n)
  | _ => none
theorem RelV.abs {x : V} {u : Value} (r : RelV x u) : absV u = some x := by
  cases x with
  | non => cases r; rfl
  | bl _ => cases r; rfl
  | int _ => obtain ⟨t, rfl⟩ := r; rfl
  | str _ => obtain ⟨t, rfl⟩ := r; rfl
  | byt _ => obtain ⟨t, rfl⟩ := r; rfl
  | flt _ => obtain ⟨t, rfl⟩ := r; rfl
  | ref _ => cases r; rfl
  | ty _ => cases r; rfl
theorem RelV.inj {x y : V} {u : Value} (r : RelV x u) (q : RelV y u) : x = y := Option.some.inj (r.abs.symm.trans q.abs)
theorem Vals.inj : ∀ {xs ys : List V} {us : List Value}, Vals xs us → Vals ys us → xs = ys
  | _, _, _, .nil, .nil => rfl
  | _, _, _, .cons r t, .cons r' t' => by rw [r.inj r', Vals.inj t t']
section
variable {X : Cx} {pins : List (Addr × Obj)} {σ : St} {H : Hp} {s : Shared} {a : Addr} {xs ys : List V}
theorem SqL.of {K : PySem.W.Frag} (h : H a = some (.lst xs)) : SqL K H a xs := .inl (.inl h)
theorem SqT.of {K : PySem.W.Frag} (h : H a = some (.tup xs)) : SqT K H a xs := .inl (.inl h)
theorem Inv.list (I : Inv X pins σ H s) (h : SqL X.K H a xs) : ∃ its : List Value, Vals xs its ∧ PlainL s.heap a its.toArray ∧ xs.length ≤ sizeLine := by
  rcases h with h | ⟨o, its, n, hk, hc, hd, hs, hz, r⟩
  · obtain ⟨z, its, n, r, e⟩ := h.ok I.hok
    exact ⟨its, r, ⟨_, n, e, rfl, rfl, rfl⟩, z⟩
  · refine ⟨its.toList, r, ⟨o, n, I.kIn a o hk, hc, hd, by simpa using hs⟩, ?_⟩
    have e := r.length
    simp only [Array.length_toList] at e
    omega
theorem Inv.tuple (I : Inv X pins σ H s) (h : SqT X.K H a xs) : ∃ its : List Value, Vals xs its ∧ IsTup s.heap a its.toArray ∧ xs.length ≤ sizeLine := by
  rcases h with h | ⟨o, its, n, hk, hc, hs, hz, r⟩
  · obtain ⟨z, its, r, p⟩ := h.ok I.hok
    exact ⟨its, r, p, z⟩
  · refine ⟨its.toList, r, ⟨o, I.kIn a o hk, hc, n, by simpa using hs⟩, ?_⟩
    have e := r.length
    simp only [Array.length_toList] at e
    omega
theorem Inv.list_inj (I : Inv X pins σ H s) (h : SqL X.K H a xs) (h' : SqL X.K H a ys) : xs = ys := by
  obtain ⟨its, r, ⟨o, n, e, _, _, d⟩, _⟩ := I.list h
  obtain ⟨its', r', ⟨o', n', e', _, _, d'⟩, _⟩ := I.list h'
  rw [e] at e'; cases e'
  rw [d] at d'
  injection d' with d1 _
  have : its = its' := by simpa using congrArg Array.toList d1
  subst this
  exact r.inj r'
theorem Inv.tuple_inj (I : Inv X pins σ H s) (h : SqT X.K H a xs) (h' : SqT X.K H a ys) : xs = ys := by
  obtain ⟨its, r, ⟨o, e, _, n, d⟩, _⟩ := I.tuple h
  obtain ⟨its', r', ⟨o', e', _, n', d'⟩, _⟩ := I.tuple h'
  rw [e] at e'; cases e'
  rw [d] at d'
  injection d' with d1 _
  have : its = its' := by simpa using congrArg Array.toList d1
  subst this
  exact r.inj r'
end

/-! ### another wish about exceptions -/
noncomputable abbrev Cx.wish (X : Cx) (E : Value → Shared → Prop) : Cx := { X with xe := E }
noncomputable abbrev Cx.nox (X : Cx) : Cx := X.wish fun _ _ => False
theorem Cx.Ok.wish {X : Cx} (ok : X.Ok) (E : Value → Shared → Prop) : (X.wish E).Ok :=
  ⟨ok.mod, ok.kind, ok.glob, ok.blt, ok.above, ok.inj, ok.has, ok.cab, ok.hd, ok.frames, ok.stk, ok.exf, ok.bs, ok.bsz, ok.noex, ok.exfs, ok.funs, ok.frf⟩
theorem Cx.Ok.unwish {X : Cx} {E : Value → Shared → Prop} (ok : (X.wish E).Ok) : X.Ok :=
  ⟨ok.mod, ok.kind, ok.glob, ok.blt, ok.above, ok.inj, ok.has, ok.cab, ok.hd, ok.frames, ok.stk, ok.exf, ok.bs, ok.bsz, ok.noex, ok.exfs, ok.funs, ok.frf⟩
section
variable {X : Cx} {pins : List (Addr × Obj)} {σ : St} {H : Hp} {s : Shared} {E : Value → Shared → Prop}
theorem Inv.wish (I : Inv X pins σ H s) (E : Value → Shared → Prop) : Inv (X.wish E) pins σ H s := ⟨I.ok.wish E, I.os, I.bare, I.base, I.loc, I.cell, I.free, I.freeC, I.pin, I.hok, I.len⟩
theorem Inv.unwish (I : Inv (X.wish E) pins σ H s) : Inv X pins σ H s := ⟨I.ok.unwish, I.os, I.bare, I.base, I.loc, I.cell, I.free, I.freeC, I.pin, I.hok, I.len⟩
theorem SP.unwish {D : Ends} {f : Flow} {s' : Shared} (h : SP (X.wish E) pins D f s') : SP X pins D f s' := by
  cases f with
  | next => obtain ⟨σ', H', I, q⟩ := h; exact ⟨σ', H', I.unwish, q⟩
  | brk => obtain ⟨σ', H', I, q⟩ := h; exact ⟨σ', H', I.unwish, q⟩
  | cont => obtain ⟨σ', H', I, q⟩ := h; exact ⟨σ', H', I.unwish, q⟩
  | ret u => obtain ⟨v, σ', H', I, r, q⟩ := h; exact ⟨v, σ', H', I.unwish, r, q⟩
theorem PSs.nox {st : List Stmt} {t : TS} (h : PSs X.nox st t) : PSs X st t := fun pins s σ H D I hw =>
  wpAny_mono (h pins s σ H D (I.wish _) hw) (fun _ _ q => q.unwish) fun _ _ z => False.elim z
end

/-! ### blocks and small statements -/
section
variable {X : Cx} {st : Stmt} {rest : List Stmt} {t u : TS} {e : Expr} {te : TE} {pos : Pos}
noncomputable def tNext : TS := fun D σ H => D.nx σ H
noncomputable def tSeq (t u : TS) : TS := fun D σ H => t { D with nx := u D } σ H
theorem pss_nil : PSs X [] tNext := fun _ _ σ H _ I h => wpAny_execs_nil ⟨σ, H, I, h⟩
theorem pss_cons (h1 : PS X st t) (h2 : PSs X rest u) : PSs X (st :: rest) (tSeq t u) := by
  intro pins s σ H D I h
  refine wpAny_execs_cons (thn (h1 pins s σ H { D with nx := u D } I h) fun f s1 q => ?_)
  cases f with
  | next =>
    obtain ⟨σ', H', I', q⟩ := q
    exact h2 pins s1 σ' H' D I' q
  | ret v => exact q
  | brk => exact q
  | cont => exact q
theorem pss_one (h1 : PS X st t) : PSs X [st] t := by
  intro pins s σ H D I h
  refine wpAny_execs_cons (thn (h1 pins s σ H D I h) fun f s1 q => ?_)
  cases f with
  | next => exact wpAny_execs_nil q
  | ret v => exact q
  | brk => exact q
  | cont => exact q
theorem Inv.quiet {pins : List (Addr × Obj)} {σ : St} {H : Hp} {s : Shared} (I : Inv X pins σ H s) : interactive X.env = false := by simp [interactive, I.ok.kind]
noncomputable def tDrop (te : TE) : TS := fun D σ H => te σ H fun _ H1 => D.nx σ H1
theorem ps_expr (he : PE X e te) (hs : swapsWith e none pos.line X.env = pure false := by rfl) : PS X (.Expr e pos) (tDrop te) := by
  intro pins s σ H D I h
  exact wpAny_Expr_any (thn (he pins s σ H _ I h) fun v s1 ⟨x, H1, I1, r1, q1⟩ => ⟨σ, H1, I1, q1⟩) I.quiet hs
noncomputable def tRet (te : TE) : TS := fun D σ H => te σ H D.rt
theorem ps_ret (he : PE X e te) : PS X (.Return (some e) pos) (tRet te) := by
  intro pins s σ H D I h
  exact wpAny_Return_some (thn (he pins s σ H _ I h) fun v s1 ⟨x, H1, I1, r1, q1⟩ => ⟨x, σ, H1, I1, r1, q1⟩)
noncomputable def tRetN : TS := fun D _ H => D.rt .non H
noncomputable def tIfS (c : TT) (t u : TS) : TS := fun D σ H => c σ H fun b H1 => if b = true then t D σ H1 else u D σ H1
theorem ps_if {c : Expr} {a b : List Stmt} {tc : TT} (hc : PT X c tc) (ha : PSs X a t) (hb : PSs X b u) : PS X (.If c a b pos) (tIfS tc t u) := by
  intro pins s σ H D I h
  refine wpAny_If (thn (hc pins s σ H _ I h) fun d s1 ⟨H1, I1, q1⟩ => ?_)
  cases d with
  | true => exact ha pins s1 σ H1 D I1 q1
  | false => exact hb pins s1 σ H1 D I1 q1
end

/-! ### targets -/
noncomputable abbrev TG := V → St → Hp → (St → Hp → Prop) → Prop
noncomputable abbrev TGs := List V → St → Hp → (St → Hp → Prop) → Prop
noncomputable def PG (X : Cx) (target : Expr) (t : TG) : Prop :=
  ∀ (pins : List (Addr × Obj)) (s : Shared) (σ : St) (H : Hp) (v : V) (u : Value) (Q : St → Hp → Prop), Inv X pins σ H s → RelV v u → t v σ H Q →
    wpAny (model X.prog X.w) X.A (assign target X.env u) (fun _ s' => ∃ σ' H', Inv X pins σ' H' s' ∧ Q σ' H') X.xe s
noncomputable def PGs (X : Cx) (ts : List Expr) (t : TGs) : Prop :=
  ∀ (pins : List (Addr × Obj)) (s : Shared) (σ : St) (H : Hp) (vs : List V) (us : List Value) (Q : St → Hp → Prop), Inv X pins σ H s → Vals vs us → t vs σ H Q →
    wpAny (model X.prog X.w) X.A (assignInOrder ((assignEach ts X.env).map (·.2)) us) (fun _ s' => ∃ σ' H', Inv X pins σ' H' s' ∧ Q σ' H') X.xe s
noncomputable abbrev TSet := V → V → V → Hp → (Hp → Prop) → Prop
section
variable {X : Cx} {pos : Pos}
noncomputable def gName (i : Nat) : TG := fun v σ H Q => Q (σ.set i (some v)) H
theorem pg_name {i : Nat} {x : Str} (hN : X.N.Nodup) (hi : X.N[i]? = some x) (hx : Loc X.env.scope x) (hf : X.fn x = true ∨ X.env.scope.names.lookup x = some .local := by first | exact .inl rfl | exact .inr rfl | assumption) : PG X (.Name x pos) (gName i) := by
  intro pins s σ H v u Q I r h
  exact wpAny_assign_Name (store_ok I hN hi hx r (fun s' I' => ⟨_, H, I', h⟩) hf)
noncomputable def gNil : TGs := fun vs σ H Q => vs = [] ∧ Q σ H
noncomputable def gCons (t : TG) (u : TGs) : TGs := fun vs σ H Q => ∃ v r, vs = v :: r ∧ t v σ H fun σ' H' => u r σ' H' Q
theorem pgs_nil : PGs X [] gNil := by
  intro pins s σ H vs us Q I r h
  obtain ⟨e, h⟩ := h
  subst e
  cases r
  exact assignInOrder_nil ⟨σ, H, I, h⟩
theorem pgs_cons {e : Expr} {es : List Expr} {t : TG} {u : TGs} (h1 : PG X e t) (h2 : PGs X es u)
    (hs : (assignEach (e :: es) X.env).map (·.2) = assign e X.env :: (assignEach es X.env).map (·.2) := by rfl) : PGs X (e :: es) (gCons t u) := by
  intro pins s σ H vs us Q I r h
  obtain ⟨v, vr, e1, h⟩ := h
  subst e1
  cases r with
  | cons r rr =>
    rw [hs]
    refine assignInOrder_cons (thn (h1 pins s σ H _ _ _ I r h) fun _ s1 ⟨σ1, H1, I1, q1⟩ => ?_)
    exact h2 pins s1 σ1 H1 _ _ Q I1 rr q1
noncomputable def gTup (K : PySem.W.Frag) (n : Nat) (t : TGs) : TG := fun v σ H Q => ∃ a xs, v = .ref a ∧ SqT K H a xs ∧ xs.length = n ∧ t xs σ H Q
theorem pg_tup {es : List Expr} {k : Nat} {t : TGs} {n : Nat} (hc : X.calm = true) (h : PGs X es t)
    (hn : (assignEach es X.env).length = n := by rfl) (hst : (assignEach es X.env).findIdx? (·.1) = none := by rfl) : PG X (.Tuple es k pos) (gTup X.K n t) := by
  intro pins s σ H v u Q I r hw
  obtain ⟨a, xs, e1, hq, hl, hw⟩ := hw
  subst e1
  cases r
  obtain ⟨its, rv, ht, hz⟩ := I.tuple hq
  refine assign_Tuple_tuple (I.ok.hd hc) ht (by simp [hn, ← hl, rv.length]) hst fun h' hx => ?_
  have I1 : Inv X pins σ H { s with heap := h' } := I.kept (t' := s.toks) fun b o e => hx b o (Nat.ne_of_lt (Heap.lt_size e)) e
  exact h pins _ σ H xs _ Q I1 (by simpa using rv) hw
noncomputable def gSub (to ti : TE) (t : TSet) : TG := fun v σ H Q => to σ H fun o H1 => ti σ H1 fun i H2 => t o i v H2 fun H3 => Q σ H3
noncomputable def tAsg (te : TE) (g : TG) : TS := fun D σ H => te σ H fun x H1 => g x σ H1 D.nx
theorem ps_asg {tg e : Expr} {te : TE} {g : TG} (he : PE X e te) (hg : PG X tg g) (hs : swapsWithSole [tg] e pos.line X.env = pure false := by rfl) (hw : swappedStores [tg] e X.env = pure none := by rfl)
    (h1 : (assignEach [tg] X.env).map (·.2) = [assign tg X.env] := by rfl) : PS X (.Assign [tg] e pos) (tAsg te g) := by
  intro pins s σ H D I h
  refine wpAny_Assign_stores (thn (he pins s σ H _ I h) fun v s1 ⟨x, H1, I1, r1, q1⟩ => ?_) hs hw
  rw [h1]
  exact thn (hg pins s1 σ H1 x v _ I1 r1 q1) fun _ s2 q => q
theorem ps_set {i : Nat} {x : Str} {e : Expr} {te : TE} {pos' : Pos} (hN : X.N.Nodup) (hi : X.N[i]? = some x) (hx : Loc X.env.scope x) (he : PE X e te) (hs : swapsWith e (some (.Name x pos')) pos.line X.env = pure false := by rfl) (hf : X.fn x = true ∨ X.env.scope.names.lookup x = some .local := by first | exact .inl rfl | exact .inr rfl | assumption) :
    PS X (.Assign [.Name x pos'] e pos) (tAsg te (gName i)) := by
  intro pins s σ H D I h
  refine wpAny_Assign_Name (thn (he pins s σ H _ I h) fun v s1 ⟨y, H1, I1, r1, q1⟩ => ?_) hs
  exact store_ok I1 hN hi hx r1 (fun s2 I2 => ⟨_, H1, I2, q1⟩) hf
end

/-! ### while -/
section
variable {X : Cx} {pos : Pos}
end

/-! ### what a loop or a comprehension walks -/
set_option genInjectivity false in
structure It where
  go : Nat → Hp → Prop
  yld : Nat → Hp → V → Hp → Prop
  stop : Nat → Hp → Prop
noncomputable def FpOk (X : Cx) (pins : List (Addr × Obj)) (H : Hp) (b : Addr) : Prop :=
  H b = none ∧ b ≠ X.env.locals ∧ b ∉ X.fs ∧ (b ∈ X.ex ∨ X.s₀.heap.objs.size ≤ b) ∧ (∀ x c, X.env.cells.lookup x = some c → c ≠ b) ∧ ∀ p ∈ X.pn ++ pins, p.1 ≠ b
theorem Inv.fpOk {X : Cx} {pins : List (Addr × Obj)} {σ : St} {H H' : Hp} {s : Shared} {b : Addr} (I : Inv X pins σ H s) (hb : s.heap.objs.size ≤ b) (hn : H' b = none) : FpOk X pins H' b := by
  refine ⟨hn, Nat.ne_of_gt (Nat.lt_of_lt_of_le I.lt hb), I.nofs hb, .inr (Nat.le_trans I.sz hb), fun x c e z => ?_, fun p hp z => ?_⟩
  · obtain ⟨v, q⟩ := I.cell x c e
    exact absurd (Nat.lt_of_lt_of_le q.lt (by rw [z]; exact hb)) (Nat.lt_irrefl _)
  · exact absurd (Nat.lt_of_lt_of_le (Heap.lt_size (I.pin p hp).1) (by rw [z]; exact hb)) (Nat.lt_irrefl _)
set_option genInjectivity false in
structure Turn (P : Program) (w : World) (K : PySem.W.Frag) (tg : Expr) (J : It) (fp : List Addr) (it : Addr) (tn : Nat → Heap → Prop) : Prop where
  mem : it ∈ fp
  obj : ∀ i h, tn i h → ∀ b ∈ fp, ∃ o, h.get? b = some o ∧ ∀ v, o.data ≠ .cell v
  keep : ∀ i h h', tn i h → (∀ b ∈ fp, ∀ o, h.get? b = some o → h'.get? b = some o) → tn i h'
  item : ∀ (X : Cx), X.prog = P → X.w = w → X.K = K → X.calm = true → ∀ (i : Nat) (pins : List (Addr × Obj)) (s : Shared) (σ : St) (H : Hp) (E : Value → Shared → Prop), Inv X pins σ H s → (∀ b ∈ fp, FpOk X pins H b) → tn i s.heap → J.go i H →
    wpAny (model P w) X.A (pyNext (.ref it)) (fun r s1 => ∃ u, r = some u ∧
      wpAny (model P w) X.A (letOwnedTupleGo tg (.ref it) u) (fun _ s2 => ∃ x H', Inv X pins σ H' s2 ∧ RelV x u ∧ J.yld i H x H' ∧ tn (i + 1) s2.heap ∧ ∀ b ∈ fp, H' b = none) E s1) E s
  done : ∀ (X : Cx), X.prog = P → X.w = w → X.K = K → X.calm = true → ∀ (i : Nat) (pins : List (Addr × Obj)) (s : Shared) (σ : St) (H : Hp) (E : Value → Shared → Prop), Inv X pins σ H s → (∀ b ∈ fp, FpOk X pins H b) → tn i s.heap → J.stop i H →
    wpAny (model P w) X.A (pyNext (.ref it)) (fun r s1 => r = none ∧ Inv X pins σ H s1) E s
  self : ∀ (A : Around) (i : Nat) (s : Shared) (Q : Value → Shared → Prop) (E : Value → Shared → Prop), tn i s.heap → Q (.ref it) s → wpAny (model P w) A (pyIter (.ref it)) Q E s
noncomputable abbrev TI := St → Hp → (It → Hp → Prop) → Prop
noncomputable def PIE (X : Cx) (pins : List (Addr × Obj)) (σ : St) (tg : Expr) (R : It → Hp → Prop) (itv : Value) (s2 : Shared) : Prop :=
  ∃ (it : Addr) (fp : List Addr) (tn : Nat → Heap → Prop) (J : It) (H' : Hp), itv = .ref it ∧ Inv X pins σ H' s2 ∧ Turn X.prog X.w X.K tg J fp it tn ∧ tn 0 s2.heap ∧ (∀ b ∈ fp, FpOk X pins H' b) ∧ R J H'
noncomputable def PI (X : Cx) (tg iter : Expr) (wi : TI) : Prop :=
  ∀ (pins : List (Addr × Obj)) (s : Shared) (σ : St) (H : Hp) (R : It → Hp → Prop), Inv X pins σ H s → wi σ H R →
    wpAny (model X.prog X.w) X.A (eval iter X.env) (fun v s1 => wpAny (model X.prog X.w) X.A (pyIter v) (PIE X pins σ tg R) X.xe s1) X.xe s

theorem go_of {M : Model} {A : Around} {E : Value → Shared → Prop} {s : Shared} {tg : Expr} {it : Addr} {u : Value} {o : Obj} {n : String} {vs : Array Value} {Q : Unit → Shared → Prop} (ho : s.heap.get? it = some o) (hc : o.cls = .type n) (hd : o.data = .fields vs)
    (hn : ["enumerate", "zip", "dict_itemiterator", "dict_reverseitemiterator", "odict_iterator", "itertools.zip_longest", "itertools.pairwise"].contains n = false) (hQ : Q () s) : wpAny M A (letOwnedTupleGo tg (.ref it) u) Q E s := by
  unfold letOwnedTupleGo
  cases tg <;> first
    | exact wpAny_pure hQ
    | (cases u <;> first
        | exact wpAny_pure hQ
        | (refine wpAny_bind (wpAny_load ho ?_)
           rw [hc, hd]
           show wpAny M A (if (["enumerate", "zip", "dict_itemiterator", "dict_reverseitemiterator", "odict_iterator", "itertools.zip_longest", "itertools.pairwise"].contains n && vs[0]? == some (rawInt _)) = true then _ else _) Q E s
           rw [if_neg (by intro h; rw [hn, Bool.false_and] at h; cases h)]
           exact wpAny_pure hQ))

noncomputable def Itl (K : PySem.W.Frag) (a : Addr) : It :=
  ⟨fun i H => ∃ xs x, SqL K H a xs ∧ xs[i]? = some x, fun i H x H' => H' = H ∧ ∀ xs, SqL K H a xs → xs[i]? = some x, fun i H => ∃ xs, SqL K H a xs ∧ xs.length ≤ i⟩
noncomputable def Itt (K : PySem.W.Frag) (a : Addr) : It :=
  ⟨fun i H => ∃ xs x, SqT K H a xs ∧ xs[i]? = some x, fun i H x H' => H' = H ∧ ∀ xs, SqT K H a xs → xs[i]? = some x, fun i H => ∃ xs, SqT K H a xs ∧ xs.length ≤ i⟩
noncomputable def Itr (lo : Int) (n : Nat) : It := ⟨fun i _ => i < n, fun i H x H' => H' = H ∧ x = .int (lo + i), fun i _ => n ≤ i⟩
theorem turn_list {P : Program} {w : World} {K : PySem.W.Frag} {tg : Expr} (a it : Addr) : Turn P w K tg (Itl K a) [it] it (fun i h => h.IsListIter it a i) where
  mem := by simp
  obj := fun i h st b hb => by
    have e : b = it := by simpa using hb
    subst e
    obtain ⟨o, e, c, d⟩ := st
    exact ⟨o, e, fun v z => by rw [d] at z; cases z⟩
  keep := fun i h h' st k => st.at fun o e => k it (by simp) o e
  item := by
    intro X hP hw hK hc i pins s σ H E I hf st hg
    subst hP hw hK
    obtain ⟨xs, x, hq, hx⟩ := hg
    obtain ⟨its, rv, p, hz⟩ := I.list hq
    obtain ⟨u, hu, ru⟩ := rv.get hx
    obtain ⟨f0, f1, f2, f3, f4, f5⟩ := hf it (by simp)
    refine wpAny_pyNext_list_item st p.isList (x := u) (by simpa using hu) fun h' st' sb => ?_
    have I1 : Inv X pins σ H { s with heap := h' } := I.turned (t' := s.toks) (fun b o hb e => (sb.2 b hb).trans e) f0 f1 f3 f4 f5
    obtain ⟨o, e, c, d⟩ := id st'
    exact ⟨u, rfl, go_of (s := { s with heap := h' }) e c d (by decide) ⟨x, H, I1, ru, ⟨rfl, fun ys hy => by rw [I.list_inj hy hq]; exact hx⟩, st', fun b hb => (hf b hb).1⟩⟩
  done := by
    intro X hP hw hK hc i pins s σ H E I hf st hg
    subst hP hw hK
    obtain ⟨xs, hq, hx⟩ := hg
    obtain ⟨its, rv, p, hz⟩ := I.list hq
    obtain ⟨f0, f1, f2, f3, f4, f5⟩ := hf it (by simp)
    have hl := rv.length
    exact wpAny_pyNext_list_end (I.ok.hd hc) st p.isList (by simp; omega) fun h' eb => ⟨rfl, I.turned (t' := s.toks) (fun b o hb e => eb b o hb e) f0 f1 f3 f4 f5⟩
  self := fun _ _ _ _ _ st h => wpAny_pyIter_listiter st h
theorem turn_range {P : Program} {w : World} {K : PySem.W.Frag} {tg : Expr} (it : Addr) (lo : Int) (n : Nat) : Turn P w K tg (Itr lo n) [it] it (fun i h => IsRangeIter h it (lo + (i : Nat) * 1) ((n : Int) - (i : Nat)) 1) where
  mem := by simp
  obj := fun i h st b hb => by
    have e : b = it := by simpa using hb
    subst e
    exact ⟨_, st, fun v z => by
      have z' : Data.fields _ = Data.cell v := z
      cases z'⟩
  keep := fun i h h' st k => k it (by simp) _ st
  item := by
    intro X hP hw hK hc i pins s σ H E I hf st hg
    subst hP hw hK
    obtain ⟨f0, f1, f2, f3, f4, f5⟩ := hf it (by simp)
    have W := Walks.range (prog := X.prog) (w := X.w) (I.ok.hd hc) it lo 1 n
    refine W.item i s _ _ hg st fun v h' tk hv st' kk => ?_
    obtain ⟨t, rfl⟩ := hv
    have I1 : Inv X pins σ H { s with heap := h', toks := tk } := I.turned (fun b o hb e => kk b o (by simpa using hb) e) f0 f1 f3 f4 f5
    refine ⟨_, rfl, go_of (s := { s with heap := h', toks := tk }) (n := "range_iterator") st' rfl rfl (by decide) ⟨.int (lo + i), H, I1, ⟨t, ?_⟩, ⟨rfl, rfl⟩, st', fun b hb => (hf b hb).1⟩⟩
    rw [Int.mul_one]
  done := by
    intro X hP hw hK hc i pins s σ H E I hf st hg
    subst hP hw hK
    obtain ⟨f0, f1, f2, f3, f4, f5⟩ := hf it (by simp)
    exact wpAny_pyNext_range_end (I.ok.hd hc) st (by have : n ≤ i := hg; omega) fun h' eb => ⟨rfl, I.turned (t' := s.toks) (fun b o hb e => eb b o hb e) f0 f1 f3 f4 f5⟩
  self := fun _ _ _ _ _ st h => wpAny_pyIter_rangeiter st h
end L2

namespace L2
open PySem PySem.Spec PyProof.Rows
section
variable {X : Cx} {tg : Expr}
noncomputable def iList (K : PySem.W.Frag) (tl : TE) : TI := fun σ H R => tl σ H fun x H1 => ∃ a, x = .ref a ∧ (∃ xs, SqL K H1 a xs) ∧ R (Itl K a) H1
noncomputable def iTup (K : PySem.W.Frag) (tl : TE) : TI := fun σ H R => tl σ H fun x H1 => ∃ a, x = .ref a ∧ (∃ xs, SqT K H1 a xs) ∧ R (Itt K a) H1
theorem pi_list {l : Expr} {tl : TE} (hl : PE X l tl) : PI X tg l (iList X.K tl) := by
  intro pins s σ H R I h
  refine thn (hl pins s σ H _ I h) fun v s1 ⟨x, H1, I1, r1, q1⟩ => ?_
  obtain ⟨a, e, ⟨xs, hq⟩, q⟩ := q1
  subst e
  cases r1
  obtain ⟨its, rv, p, hz⟩ := I1.list hq
  refine wpAny_pyIter_list p.isList ?_
  refine ⟨s1.heap.objs.size, [s1.heap.objs.size], _, _, H1, rfl, I1.kept (t' := s1.toks) fun b o e => Heap.get?_push_of_some _ e, turn_list a _, ⟨_, Heap.get?_push_size _ rfl, rfl, rfl⟩, fun b hb => ?_, q⟩
  have e : b = s1.heap.objs.size := by simpa using hb
  subst e
  exact I1.fpOk (Nat.le_refl _) (I1.hok.fresh (Nat.le_refl _))
theorem range_it {pins : List (Addr × Obj)} {σ : St} {H : Hp} {s : Shared} {R : It → Hp → Prop} {E : Value → Shared → Prop} {lo hi : Int} {t u v : Tok} {tk : Nat} (I : Inv X pins σ H s) (h1 : -(2 ^ 62) ≤ lo) (h2 : lo < 2 ^ 62) (h3 : -(2 ^ 62) ≤ hi) (h4 : hi < 2 ^ 62)
    (q : R (Itr lo (hi - lo).toNat) H) : wpAny (model X.prog X.w) X.A (pyIter (.ref s.heap.objs.size)) (PIE X pins σ tg R) E { s with heap := s.heap.push { cls := .type "range", data := .fields #[.int lo t, .int hi u, .int 1 v] }, toks := tk } := by
  refine wpAny_pyIter_range (IsRange.new ..) (small_one h1 h2 h3 h4) ?_
  have I1 : Inv X pins σ H { s with heap := s.heap.push { cls := .type "range", data := .fields #[.int lo t, .int hi u, .int 1 v] }, toks := tk } := I.kept fun b o e => Heap.get?_push_of_some _ e
  refine ⟨(s.heap.push { cls := .type "range", data := .fields #[.int lo t, .int hi u, .int 1 v] }).objs.size, [(s.heap.push { cls := .type "range", data := .fields #[.int lo t, .int hi u, .int 1 v] }).objs.size], _, _, H, rfl,
    I1.kept (t' := tk) fun b o e => Heap.get?_push_of_some _ e, turn_range _ lo (hi - lo).toNat, ?_, fun b hb => ?_, q⟩
  · have e1 : lo + ((0 : Nat) : Int) * 1 = lo := by simp
    have e2 : (((hi - lo).toNat : Nat) : Int) - ((0 : Nat) : Int) = Builtin.Range.rangeSize lo hi 1 := by rw [rangeSize_one]; split <;> omega
    show IsRangeIter _ _ (lo + ((0 : Nat) : Int) * 1) ((((hi - lo).toNat : Nat) : Int) - ((0 : Nat) : Int)) 1
    rw [e1, e2]
    exact Heap.get?_push_size _ rfl
  · have e : b = (s.heap.push { cls := .type "range", data := .fields #[.int lo t, .int hi u, .int 1 v] }).objs.size := by simpa using hb
    subst e
    exact I1.fpOk (Nat.le_refl _) (I1.hok.fresh (Nat.le_refl _))
noncomputable def iRng1 (ta : TA) : TI := fun σ H R => ta σ H fun vs H1 => ∃ j : Int, vs = [.int j] ∧ -(2 ^ 62) ≤ j ∧ j < 2 ^ 62 ∧ R (Itr 0 j.toNat) H1
noncomputable def iRng2 (ta : TA) : TI := fun σ H R => ta σ H fun vs H1 => ∃ i j : Int, vs = [.int i, .int j] ∧ (-(2 ^ 62) ≤ i ∧ i < 2 ^ 62 ∧ -(2 ^ 62) ≤ j ∧ j < 2 ^ 62) ∧ R (Itr i (j - i).toNat) H1
theorem pi_range1 {a : Expr} {ta : TA} {p pos : Pos} (hg : Gl X "range") (hm : X.mg "range" = none) (ha : PA X [a] ta) (hs : starEach [a] X.env = [(false, eval a X.env)] := by rfl) : PI X tg (.Call (.Name "range" p) [a] [] pos) (iRng1 ta) := by
  intro pins s σ H R I h
  refine Call_ (ld_blt I hg hm boot_range (PyProof.Rows.callWith_type1 (thn (ha pos pins s σ H _ I h) fun us s1 ⟨vs, H1, I1, r1, q1⟩ => ?_) hs rfl))
  obtain ⟨j, e, q1, q2, q⟩ := q1
  subst e
  cases r1 with
  | cons r rr =>
    cases rr
    obtain ⟨t, rfl⟩ := r
    exact call_range_1 (range_it I1 (by omega) (by omega) q1 q2 (by simpa using q))

/-! ### for -/
noncomputable def tFor (wi : TI) (g : TG) (tb : TS) : TS := fun D σ H => wi σ H fun J H1 => ∃ W : Nat → Nat → St → Hp → Prop, (∃ m, W 0 m σ H1) ∧ ∀ i m σ H, W i m σ H →
  (J.stop i H ∧ D.nx σ H) ∨ (J.go i H ∧ ∃ N : St → Hp → Prop, (∀ σ' H', N σ' H' → ∃ m', m' < m ∧ W (i + 1) m' σ' H') ∧ ∀ x H', J.yld i H x H' → g x σ H' fun σ2 H2 => tb { D with nx := N, ct := N, bk := D.nx } σ2 H2)
noncomputable def pinsAt (fp : List Addr) (h : Heap) : List (Addr × Obj) := fp.filterMap fun b => (h.get? b).map fun o => (b, o)
theorem mem_pinsAt {fp : List Addr} {h : Heap} {b : Addr} {o : Obj} (hb : b ∈ fp) (e : h.get? b = some o) : (b, o) ∈ pinsAt fp h := List.mem_filterMap.mpr ⟨b, hb, by rw [e]; rfl⟩
theorem of_pinsAt {fp : List Addr} {h : Heap} {p : Addr × Obj} (hp : p ∈ pinsAt fp h) : p.1 ∈ fp ∧ h.get? p.1 = some p.2 := by
  obtain ⟨b, hb, e⟩ := List.mem_filterMap.mp hp
  cases q : h.get? b with
  | none => rw [q] at e; cases e
  | some o =>
    rw [q] at e
    have e' : (b, o) = p := Option.some.inj e
    subst e'
    exact ⟨hb, q⟩
theorem Inv.pinned {pins : List (Addr × Obj)} {σ : St} {H : Hp} {s : Shared} {fp : List Addr} (I : Inv X pins σ H s) (hf : ∀ b ∈ fp, FpOk X pins H b) (ho : ∀ b ∈ fp, ∃ o, s.heap.get? b = some o ∧ ∀ v, o.data ≠ .cell v) : Inv X (pins ++ pinsAt fp s.heap) σ H s :=
  I.pins_of fun p hp => (List.mem_append.mp hp).elim (fun z => I.pin p (List.mem_append_right _ z)) fun z => by
    obtain ⟨hb, e⟩ := of_pinsAt z
    obtain ⟨f0, f1, f2, _⟩ := hf p.1 hb
    obtain ⟨o, e', d⟩ := ho p.1 hb
    rw [e] at e'; cases e'
    exact ⟨e, f0, f1, f2, d⟩
theorem Inv.unpinned {pins pl : List (Addr × Obj)} {σ : St} {H : Hp} {s : Shared} (I : Inv X (pins ++ pl) σ H s) : Inv X pins σ H s := I.pins_of fun p hp => I.pin p (List.mem_append_right _ (List.mem_append_left _ hp))
theorem ps_for {iter : Expr} {body : List Stmt} {wi : TI} {g : TG} {tb : TS} {pos : Pos} (hp : PassesOwn (model X.prog X.w) X.A X.env X.xe) (hc : X.calm = true) (hi : PI X tg iter wi) (hg : PG X tg g) (hb : PSs X body tb)
    (hs : ∀ x, foldedSetIterable iter X.env x = pure x := by intro _; rfl) : PS X (.For tg iter body [] pos) (tFor wi g tb) := by
  intro pins s σ H D I h
  refine wpAny_For (thn (hi pins s σ H _ I h) fun v s1 h1 => thn h1 fun itv s2 h2 => ?_) hs
  obtain ⟨it, fp, tn, J, H2, e, I2, T, st2, f2, W, ⟨m0, w0⟩, turn⟩ := h2
  subst e
  -- what stays true of the iterator's objects through the loop
  have stat : ∀ {H' : Hp}, (∀ b ∈ fp, H' b = none) → ∀ b ∈ fp, FpOk X pins H' b := fun hn b hb => ⟨hn b hb, (f2 b hb).2⟩
  refine codeAny_forLoop_any (fun n s' => ∃ i σ' H', Inv X pins σ' H' s' ∧ tn i s'.heap ∧ (∀ b ∈ fp, H' b = none) ∧ W i n σ' H') ?_ m0 ⟨0, σ, H2, I2, st2, fun b hb => (f2 b hb).1, w0⟩
  rintro n s3 ⟨i, σ3, H3, I3, st3, fr3, w3⟩
  rcases turn i n σ3 H3 w3 with ⟨stop, qn⟩ | ⟨go, N, hN, step⟩
  · refine wpAny_passesOwn hp (thn (T.done X rfl rfl rfl hc i pins s3 σ3 H3 X.xe I3 (stat fr3) st3 stop) fun r s4 ⟨hr, I4⟩ => ?_)
    subst hr
    exact wpAny_execs_nil ⟨σ3, H3, I4, qn⟩
  · refine wpAny_passesOwn hp (thn (T.item X rfl rfl rfl hc i pins s3 σ3 H3 X.xe I3 (stat fr3) st3 go) fun r s4 ⟨u, hr, h4⟩ => ?_)
    subst hr
    refine wpAny_passesOwn hp (thn h4 fun _ s5 ⟨x, H5, I5, r5, y5, st5, fr5⟩ => ?_)
    have I5' := I5.pinned (stat fr5) (T.obj _ _ st5)
    refine wpAny_passesOwn hp (thn (hg _ s5 σ3 H5 x u _ I5' r5 (step x H5 y5)) fun _ s6 ⟨σ6, H6, I6, q6⟩ => ?_)
    refine wpAny_passesOwn hp (thn (hb _ s6 σ6 H6 _ I6 q6) fun f s7 q7 => ?_)
    have again : ∀ {σ7 : St} {H7 : Hp}, Inv X (pins ++ pinsAt fp s5.heap) σ7 H7 s7 → N σ7 H7 → ∃ m, m < n ∧ ∃ i σ' H', Inv X pins σ' H' s7 ∧ tn i s7.heap ∧ (∀ b ∈ fp, H' b = none) ∧ W i m σ' H' := fun {σ7 H7} I7 n7 => by
      obtain ⟨m', hm, w7⟩ := hN σ7 H7 n7
      refine ⟨m', hm, i + 1, σ7, H7, I7.unpinned, T.keep _ _ _ st5 fun b hb o e => (I7.pin (b, o) (List.mem_append_right _ (List.mem_append_right _ (mem_pinsAt hb e)))).1, fun b hb => ?_, w7⟩
      obtain ⟨o, e, d⟩ := T.obj _ _ st5 b hb
      exact (I7.pin (b, o) (List.mem_append_right _ (List.mem_append_right _ (mem_pinsAt hb e)))).2.1
    cases f with
    | next => obtain ⟨σ7, H7, I7, n7⟩ := q7; exact again I7 n7
    | cont => obtain ⟨σ7, H7, I7, n7⟩ := q7; exact again I7 n7
    | brk => obtain ⟨σ7, H7, I7, q7⟩ := q7; exact ⟨σ7, H7, I7.unpinned, q7⟩
    | ret v => obtain ⟨x7, σ7, H7, I7, r7, q7⟩ := q7; exact ⟨x7, σ7, H7, I7.unpinned, r7, q7⟩
end

/-! ### the forms one uses -/
theorem for_list {K : PySem.W.Frag} {a : Addr} {xs : List V} {g : TG} {tb : TS} {D : Ends} {σ : St} {H : Hp} (Pv : Nat → St → Hp → Prop) (h0 : Pv 0 σ H) (hl : ∀ i σ H, i ≤ xs.length → Pv i σ H → SqL K H a xs)
    (hs : ∀ i x σ H, xs[i]? = some x → Pv i σ H → g x σ H fun σ2 H2 => tb { D with nx := Pv (i + 1), ct := Pv (i + 1), bk := D.nx } σ2 H2) (hd : ∀ σ H, Pv xs.length σ H → D.nx σ H) :
    ∃ W : Nat → Nat → St → Hp → Prop, (∃ m, W 0 m σ H) ∧ ∀ i m σ H, W i m σ H →
      ((Itl K a).stop i H ∧ D.nx σ H) ∨ ((Itl K a).go i H ∧ ∃ N : St → Hp → Prop, (∀ σ' H', N σ' H' → ∃ m', m' < m ∧ W (i + 1) m' σ' H') ∧ ∀ x H', (Itl K a).yld i H x H' → g x σ H' fun σ2 H2 => tb { D with nx := N, ct := N, bk := D.nx } σ2 H2) := by
  refine ⟨fun i m σ H => m = xs.length - i ∧ i ≤ xs.length ∧ Pv i σ H, ⟨xs.length, by simp, Nat.zero_le _, h0⟩, ?_⟩
  rintro i m σ H ⟨rfl, hi, p⟩
  have q := hl i σ H hi p
  by_cases hlt : i < xs.length
  · refine .inr ⟨⟨xs, xs[i], q, by simp [hlt]⟩, Pv (i + 1), fun σ' H' p' => ⟨xs.length - (i + 1), by omega, rfl, hlt, p'⟩, fun x H' y => ?_⟩
    obtain ⟨e, y⟩ := y
    subst e
    exact hs i x σ _ (y xs q) p
  · have e : i = xs.length := by omega
    subst e
    exact .inl ⟨⟨xs, q, Nat.le_refl _⟩, hd σ H p⟩
theorem for_range {lo : Int} {n : Nat} {g : TG} {tb : TS} {D : Ends} {σ : St} {H : Hp} (Pv : Nat → St → Hp → Prop) (h0 : Pv 0 σ H)
    (hs : ∀ i σ H, i < n → Pv i σ H → g (.int (lo + i)) σ H fun σ2 H2 => tb { D with nx := Pv (i + 1), ct := Pv (i + 1), bk := D.nx } σ2 H2) (hd : ∀ σ H, Pv n σ H → D.nx σ H) :
    ∃ W : Nat → Nat → St → Hp → Prop, (∃ m, W 0 m σ H) ∧ ∀ i m σ H, W i m σ H →
      ((Itr lo n).stop i H ∧ D.nx σ H) ∨ ((Itr lo n).go i H ∧ ∃ N : St → Hp → Prop, (∀ σ' H', N σ' H' → ∃ m', m' < m ∧ W (i + 1) m' σ' H') ∧ ∀ x H', (Itr lo n).yld i H x H' → g x σ H' fun σ2 H2 => tb { D with nx := N, ct := N, bk := D.nx } σ2 H2) := by
  refine ⟨fun i m σ H => m = n - i ∧ i ≤ n ∧ Pv i σ H, ⟨n, by simp, Nat.zero_le _, h0⟩, ?_⟩
  rintro i m σ H ⟨rfl, hi, p⟩
  by_cases hlt : i < n
  · refine .inr ⟨hlt, Pv (i + 1), fun σ' H' p' => ⟨n - (i + 1), by omega, rfl, hlt, p'⟩, fun x H' y => ?_⟩
    obtain ⟨e, y⟩ := y
    subst e y
    exact hs i σ _ hlt p
  · have e : i = n := by omega
    subst e
    exact .inl ⟨Nat.le_refl _, hd σ H p⟩
end L2

namespace L2
open PySem PySem.Spec PyProof.Rows

noncomputable abbrev R2 := V → V → Hp → VK → Prop
noncomputable def OpR (X : Cx) (f : Value → Value → Sem Value) (r : R2) : Prop :=
  ∀ (pins : List (Addr × Obj)) (s : Shared) (σ : St) (H : Hp) (x y : V) (v u : Value) (Q : VK), Inv X pins σ H s → RelV x v → RelV y u → r x y H Q →
    wpAny (model X.prog X.w) X.A (f v u) (EP X pins σ Q) X.xe s
noncomputable def UnR (X : Cx) (f : Value → Sem Value) (r : V → Hp → VK → Prop) : Prop :=
  ∀ (pins : List (Addr × Obj)) (s : Shared) (σ : St) (H : Hp) (x : V) (v : Value) (Q : VK), Inv X pins σ H s → RelV x v → r x H Q →
    wpAny (model X.prog X.w) X.A (f v) (EP X pins σ Q) X.xe s
noncomputable def CallR (X : Cx) (f : Value) (r : List V → Hp → VK → Prop) : Prop :=
  ∀ (pins : List (Addr × Obj)) (s : Shared) (σ : St) (H : Hp) (xs : List V) (us : List Value) (Q : VK), Inv X pins σ H s → Vals xs us → r xs H Q →
    wpAny (model X.prog X.w) X.A (call f us) (EP X pins σ Q) X.xe s

noncomputable def tOp (r : R2) (ta tb : TE) : TE := fun σ H Q => ta σ H fun x H1 => tb σ H1 fun y H2 => r x y H2 Q
noncomputable def tUn (r : V → Hp → VK → Prop) (ta : TE) : TE := fun σ H Q => ta σ H fun x H1 => r x H1 Q
noncomputable def rI (C : Int → Int → Prop) (g : Int → Int → V) : R2 := fun x y H Q => ∃ i j, x = .int i ∧ y = .int j ∧ C i j ∧ Q (g i j) H
noncomputable def rI0 (g : Int → Int → V) : R2 := fun x y H Q => ∃ i j, x = .int i ∧ y = .int j ∧ Q (g i j) H
noncomputable def rU (g : Int → V) : V → Hp → VK → Prop := fun x H Q => ∃ i, x = .int i ∧ Q (g i) H

section
variable {X : Cx} {a b c : Expr} {ta tb tc : TE} {pos : Pos}

theorem binT (ha : PE X a ta) (hb : PE X b tb) {pins : List (Addr × Obj)} {s : Shared} {σ : St} {H : Hp} {R : V → V → Hp → Prop} (I : Inv X pins σ H s)
    (h : ta σ H fun x H1 => tb σ H1 fun y H2 => R x y H2) {Q : Value → Shared → Prop} {f : Value → Value → Sem Value}
    (hf : ∀ v u s2 x y H2, Inv X pins σ H2 s2 → RelV x v → RelV y u → R x y H2 → wpAny (model X.prog X.w) X.A (f v u) Q X.xe s2) :
    wpAny (model X.prog X.w) X.A (eval a X.env) (fun v s₁ => wpAny (model X.prog X.w) X.A (eval b X.env) (fun u s₂ => wpAny (model X.prog X.w) X.A (f v u) Q X.xe s₂) X.xe s₁) X.xe s := by
  refine thn (ha pins s σ H _ I h) fun v s1 ⟨x, H1, I1, r1, q1⟩ => ?_
  refine thn (hb pins s1 σ H1 _ I1 q1) fun u s2 ⟨y, H2, I2, r2, q2⟩ => ?_
  exact hf v u s2 x y H2 I2 r1 r2 q2

theorem pe_op {op : Operator} {r : R2} (ho : OpR X (binaryOp op) r) (ha : PE X a ta) (hb : PE X b tb) : PE X (.BinOp a op b pos) (tOp r ta tb) := by
  intro pins s σ H Q I h
  exact wpAny_BinOp (binT ha hb I h fun v u s2 x y H2 I2 rx ry q => ho pins s2 σ H2 x y v u Q I2 rx ry q)
theorem pe_un {op : UnaryOp} {r : V → Hp → VK → Prop} (ho : UnR X (unaryOp op) r) (ha : PE X a ta) : PE X (.UnaryOp op a pos) (tUn r ta) := by
  intro pins s σ H Q I h
  exact UnaryOp_ (thn (ha pins s σ H _ I h) fun v s1 ⟨x, H1, I1, r1, q1⟩ => ho pins s1 σ H1 x v Q I1 r1 q1)

/-! ### ints -/
theorem opI {f : Value → Value → Sem Value} {C : Int → Int → Prop} {g : Int → Int → Int}
    (rule : ∀ (i j : Int) (t u : Tok) (s : Shared) (Q : Value → Shared → Prop) (E : Value → Shared → Prop), C i j → Q (.int (g i j) s.toks) { s with toks := s.toks + 1 } → wpAny (model X.prog X.w) X.A (f (.int i t) (.int j u)) Q E s) :
    OpR X f (rI C fun i j => .int (g i j)) := by
  intro pins s σ H x y v u Q I rx ry h
  obtain ⟨i, j, rfl, rfl, hc, q⟩ := h
  obtain ⟨t, rfl⟩ := rx
  obtain ⟨t', rfl⟩ := ry
  exact rule i j t t' s _ _ hc ⟨.int (g i j), H, I.tok _, ⟨_, rfl⟩, q⟩
theorem opI0 {f : Value → Value → Sem Value} {g : Int → Int → Int}
    (rule : ∀ (i j : Int) (t u : Tok) (s : Shared) (Q : Value → Shared → Prop) (E : Value → Shared → Prop), Q (.int (g i j) s.toks) { s with toks := s.toks + 1 } → wpAny (model X.prog X.w) X.A (f (.int i t) (.int j u)) Q E s) :
    OpR X f (rI0 fun i j => .int (g i j)) := by
  intro pins s σ H x y v u Q I rx ry h
  obtain ⟨i, j, rfl, rfl, q⟩ := h
  obtain ⟨t, rfl⟩ := rx
  obtain ⟨t', rfl⟩ := ry
  exact rule i j t t' s _ _ ⟨.int (g i j), H, I.tok _, ⟨_, rfl⟩, q⟩
theorem opB0 {f : Value → Value → Sem Value} {g : Int → Int → Bool}
    (rule : ∀ (i j : Int) (t u : Tok) (s : Shared) (Q : Value → Shared → Prop) (E : Value → Shared → Prop), Q (.bool (g i j)) s → wpAny (model X.prog X.w) X.A (f (.int i t) (.int j u)) Q E s) :
    OpR X f (rI0 fun i j => .bl (g i j)) := by
  intro pins s σ H x y v u Q I rx ry h
  obtain ⟨i, j, rfl, rfl, q⟩ := h
  obtain ⟨t, rfl⟩ := rx
  obtain ⟨t', rfl⟩ := ry
  exact rule i j t t' s _ _ ⟨.bl (g i j), H, I, rfl, q⟩

noncomputable def CDiv (i j : Int) : Prop := 0 < j ∧ j < 1073741824
noncomputable def CPow (i j : Int) : Prop := 0 ≤ j ∧ j ≤ 1000000 ∧ i.natAbs < 2 ^ 64
noncomputable def CMul (i j : Int) : Prop := (-(2 ^ 64) < i ∧ i < 2 ^ 64) ∨ (-(2 ^ 64) < j ∧ j < 2 ^ 64)
theorem CMul.ok {i j : Int} (h : CMul i j) : IntMulOk i j := by
  rcases h with ⟨h1, h2⟩ | ⟨h1, h2⟩
  · exact .of_left (intBits_le_64 h1 h2)
  · exact .of_right (intBits_le_64 h1 h2)

theorem op_add : OpR X (binaryOp .Add) (rI0 fun i j => .int (i + j)) := opI0 fun _ _ _ _ _ _ _ q => add_int q
theorem op_sub : OpR X (binaryOp .Sub) (rI0 fun i j => .int (i - j)) := opI0 fun _ _ _ _ _ _ _ q => sub_int q
theorem op_mul : OpR X (binaryOp .Mult) (rI CMul fun i j => .int (i * j)) := opI fun _ _ _ _ _ _ _ hc q => mul_int q hc.ok
theorem op_fdiv : OpR X (binaryOp .FloorDiv) (rI CDiv fun i j => .int (i / j)) := opI fun i j _ _ _ _ _ hc q => by
  have h1 : (0 : Int) < j := hc.1
  have h2 : j < 1073741824 := hc.2
  exact floordiv_int (by omega) (by rw [Int.fdiv_eq_ediv_of_nonneg i (by omega)]; exact q) (.inl (PyProof.noPylong_small (by omega)))
theorem op_mod : OpR X (binaryOp .Mod) (rI (fun _ j => 0 < j) fun i j => .int (i % j)) := opI fun i j _ _ _ _ _ hc q => by
  have h1 : (0 : Int) < j := hc
  exact mod_int' (by omega) (by rw [Int.fmod_eq_emod_of_nonneg i (by omega)]; exact q)
theorem op_shl : OpR X (binaryOp .LShift) (rI CPow fun i j => .int (i * 2 ^ j.toNat)) := opI fun _ _ _ _ _ _ _ hc q => lshift_int_small hc.1 hc.2.1 hc.2.2 q


theorem unI {f : Value → Sem Value} {g : Int → Int}
    (rule : ∀ (i : Int) (t : Tok) (s : Shared) (Q : Value → Shared → Prop) (E : Value → Shared → Prop), Q (.int (g i) s.toks) { s with toks := s.toks + 1 } → wpAny (model X.prog X.w) X.A (f (.int i t)) Q E s) :
    UnR X f (rU fun i => .int (g i)) := by
  intro pins s σ H x v Q I rx h
  obtain ⟨i, rfl, q⟩ := h
  obtain ⟨t, rfl⟩ := rx
  exact rule i t s _ _ ⟨.int (g i), H, I.tok _, ⟨_, rfl⟩, q⟩
theorem un_neg : UnR X (unaryOp .USub) (rU fun i => .int (-i)) := unI fun _ _ _ _ _ q => neg_int q

/-! ### bools among ints: n += (a < b) -/
end

/-! ### comparisons -/
noncomputable def scal : V → V → Bool
  | .non, .non => true | .non, .int _ => true | .int _, .non => true | .non, .bl _ => true | .bl _, .non => true | .non, .str _ => true | .str _, .non => true
  | .int _, .int _ => true | .bl _, .bl _ => true | .str _, .str _ => true | .byt _, .byt _ => true
  | .int _, .str _ => true | .str _, .int _ => true | .bl _, .str _ => true | .str _, .bl _ => true
  | _, _ => false
theorem sc0 : scal .non .non = true := rfl
theorem sc1 {i : Int} : scal .non (.int i) = true := rfl
theorem sc2 {i : Int} : scal (.int i) .non = true := rfl
theorem sc3 {i : Bool} : scal .non (.bl i) = true := rfl
theorem sc4 {i : Bool} : scal (.bl i) .non = true := rfl
theorem sc5 {i : Str} : scal .non (.str i) = true := rfl
theorem sc6 {i : Str} : scal (.str i) .non = true := rfl
theorem sc7 {i : Int} {j : Int} : scal (.int i) (.int j) = true := rfl
theorem sc8 {i : Bool} {j : Bool} : scal (.bl i) (.bl j) = true := rfl
theorem sc9 {i : Str} {j : Str} : scal (.str i) (.str j) = true := rfl
theorem sc10 {i : Int} {j : Str} : scal (.int i) (.str j) = true := rfl
theorem sc11 {i : Str} {j : Int} : scal (.str i) (.int j) = true := rfl
theorem sc12 {i : Bool} {j : Str} : scal (.bl i) (.str j) = true := rfl
theorem sc13 {i : Str} {j : Bool} : scal (.str i) (.bl j) = true := rfl
noncomputable def rEq : R2 := fun x y H Q => scal x y = true ∧ Q (.bl (decide (x = y))) H
noncomputable def rNe : R2 := fun x y H Q => scal x y = true ∧ Q (.bl (!decide (x = y))) H

theorem dec_int {i j : Int} : decide (V.int i = V.int j) = (i == j) := by
  rw [Bool.eq_iff_iff]
  simp
theorem dec_bl {i j : Bool} : decide (V.bl i = V.bl j) = (i == j) := by
  rw [Bool.eq_iff_iff]
  simp
theorem dec_str {i j : Str} : decide (V.str i = V.str j) = (i == j) := by
  rw [Bool.eq_iff_iff]
  simp
theorem dec_byt {i j : Array UInt8} : decide (V.byt i = V.byt j) = (i.toList == j.toList) := by
  rw [Bool.eq_iff_iff]
  cases i
  cases j
  simp

section
variable {X : Cx} {a b c : Expr} {ta tb tc : TE} {pos : Pos}
theorem fin_bl {pins : List (Addr × Obj)} {σ : St} {H : Hp} {s : Shared} {Q : VK} {k k' : Bool} (I : Inv X pins σ H s) (q : Q (.bl k) H) (e : k = k') : EP X pins σ Q (.bool k') s := by
  subst e
  exact ⟨.bl k, H, I, rfl, q⟩
theorem op_eq : OpR X (compareOp .Eq) rEq := by
  intro pins s σ H x y v u Q I rx ry h
  obtain ⟨hs, q⟩ := h
  cases x with
  | non =>
    cases rx
    cases y with
    | non => cases ry; exact PySem.EqNone.eq_none_none (fin_bl I q (by simp))
    | bl j => cases ry; exact PySem.EqNone.eq_none_bool (fin_bl I q (by simp))
    | int j => obtain ⟨t', rfl⟩ := ry; exact PySem.EqNone.eq_none_int (fin_bl I q (by simp))
    | str j => obtain ⟨t', rfl⟩ := ry; exact PySem.EqNone.eq_none_str (fin_bl I q (by simp))
    | _ => exact absurd (show false = true from hs) Bool.false_ne_true
  | bl i =>
    cases rx
    cases y with
    | non => cases ry; exact PySem.EqNone.eq_bool_none (fin_bl I q (by simp))
    | bl j => cases ry; exact eq_bool (fin_bl I q dec_bl)
    | str j => obtain ⟨t', rfl⟩ := ry; exact PySem.EqMixed.eq_bool_str (fin_bl I q (by simp))
    | _ => exact absurd (show false = true from hs) Bool.false_ne_true
  | int i =>
    obtain ⟨t, rfl⟩ := rx
    cases y with
    | non => cases ry; exact PySem.EqNone.eq_int_none (fin_bl I q (by simp))
    | int j => obtain ⟨t', rfl⟩ := ry; exact eq_int (fin_bl I q dec_int)
    | str j => obtain ⟨t', rfl⟩ := ry; exact PySem.EqMixed.eq_int_str (fin_bl I q (by simp))
    | _ => exact absurd (show false = true from hs) Bool.false_ne_true
  | str i =>
    obtain ⟨t, rfl⟩ := rx
    cases y with
    | non => cases ry; exact PySem.EqNone.eq_str_none (fin_bl I q (by simp))
    | bl j => cases ry; exact PySem.EqMixed.eq_str_bool (fin_bl I q (by simp))
    | int j => obtain ⟨t', rfl⟩ := ry; exact PySem.EqMixed.eq_str_int (fin_bl I q (by simp))
    | str j => obtain ⟨t', rfl⟩ := ry; exact eq_str (fin_bl I q dec_str)
    | _ => exact absurd (show false = true from hs) Bool.false_ne_true
  | byt i =>
    obtain ⟨t, rfl⟩ := rx
    cases y with
    | byt j => obtain ⟨t', rfl⟩ := ry; exact PySem.W.eq_bytes (fin_bl I q dec_byt)
    | _ => exact absurd (show false = true from hs) Bool.false_ne_true
  | _ => cases y <;> exact absurd (show false = true from hs) Bool.false_ne_true
theorem op_ne : OpR X (compareOp .NotEq) rNe := by
  intro pins s σ H x y v u Q I rx ry h
  obtain ⟨hs, q⟩ := h
  cases x with
  | non =>
    cases rx
    cases y with
    | non => cases ry; exact PySem.EqNone.ne_none_none (fin_bl I q (by simp))
    | bl j => cases ry; exact PySem.EqNone.ne_none_bool (fin_bl I q (by simp))
    | int j => obtain ⟨t', rfl⟩ := ry; exact PySem.EqNone.ne_none_int (fin_bl I q (by simp))
    | str j => obtain ⟨t', rfl⟩ := ry; exact PySem.EqNone.ne_none_str (fin_bl I q (by simp))
    | _ => exact absurd (show false = true from hs) Bool.false_ne_true
  | bl i =>
    cases rx
    cases y with
    | non => cases ry; exact PySem.EqNone.ne_bool_none (fin_bl I q (by simp))
    | bl j => cases ry; exact ne_bool (fin_bl I q (congrArg not dec_bl))
    | str j => obtain ⟨t', rfl⟩ := ry; exact PySem.EqMixed.ne_bool_str (fin_bl I q (by simp))
    | _ => exact absurd (show false = true from hs) Bool.false_ne_true
  | int i =>
    obtain ⟨t, rfl⟩ := rx
    cases y with
    | non => cases ry; exact PySem.EqNone.ne_int_none (fin_bl I q (by simp))
    | int j => obtain ⟨t', rfl⟩ := ry; exact ne_int (fin_bl I q (congrArg not dec_int))
    | str j => obtain ⟨t', rfl⟩ := ry; exact PySem.EqMixed.ne_int_str (fin_bl I q (by simp))
    | _ => exact absurd (show false = true from hs) Bool.false_ne_true
  | str i =>
    obtain ⟨t, rfl⟩ := rx
    cases y with
    | non => cases ry; exact PySem.EqNone.ne_str_none (fin_bl I q (by simp))
    | bl j => cases ry; exact PySem.EqMixed.ne_str_bool (fin_bl I q (by simp))
    | int j => obtain ⟨t', rfl⟩ := ry; exact PySem.EqMixed.ne_str_int (fin_bl I q (by simp))
    | str j => obtain ⟨t', rfl⟩ := ry; exact ne_str (fin_bl I q (congrArg not dec_str))
    | _ => exact absurd (show false = true from hs) Bool.false_ne_true
  | byt i =>
    obtain ⟨t, rfl⟩ := rx
    cases y with
    | byt j => obtain ⟨t', rfl⟩ := ry; exact PySem.W.ne_bytes (fin_bl I q (congrArg not dec_byt))
    | _ => exact absurd (show false = true from hs) Bool.false_ne_true
  | _ => cases y <;> exact absurd (show false = true from hs) Bool.false_ne_true

theorem op_lt : OpR X (compareOp .Lt) (rI0 fun i j => .bl (decide (i < j))) := opB0 fun _ _ _ _ _ _ _ q => lt_int q
theorem op_gt : OpR X (compareOp .Gt) (rI0 fun i j => .bl (decide (j < i))) := opB0 fun _ _ _ _ _ _ _ q => gt_int q
theorem op_ge : OpR X (compareOp .GtE) (rI0 fun i j => .bl (decide (j ≤ i))) := opB0 fun _ _ _ _ _ _ _ q => ge_int q




theorem nomark (b : Expr) {op : CmpOp} (h : op ≠ .In := by decide) (h2 : op ≠ .NotIn := by decide) : behindInMarks op b = false := by
  have e1 : (op == CmpOp.In) = false := by cases op <;> first | rfl | exact absurd rfl h
  have e2 : (op == CmpOp.NotIn) = false := by cases op <;> first | rfl | exact absurd rfl h2
  cases b <;> simp [behindInMarks, e1, e2]
theorem pe_cmpR {op : CmpOp} {r : R2} (ho : OpR X (compareOp op) r) (ha : PE X a ta) (hb : PE X b tb) (hm : behindInMarks op b = false) : PE X (.Compare a [op] [b] pos) (tOp r ta tb) := by
  intro pins s σ H Q I h
  exact wpAny_Compare1 (binT ha hb I h fun v u s2 x y H2 I2 rx ry q => ho pins s2 σ H2 x y v u Q I2 rx ry q) hm
noncomputable def tTest (t : TE) : TT := fun σ H Q => t σ H fun x H' => ∃ k, x = .bl k ∧ Q k H'
theorem pt_cmpR {op : CmpOp} {r : R2} (ho : OpR X (compareOp op) r) (ha : PE X a ta) (hb : PE X b tb) (hm : behindInMarks op b = false) : PT X (.Compare a [op] [b] pos) (tTest (tOp r ta tb)) := by
  intro pins s σ H Q I h
  refine wpAny_isTrue_Compare1 (thn (ha pins s σ H _ I h) fun v s1 ⟨x, H1, I1, r1, q1⟩ => thn (hb pins s1 σ H1 _ I1 q1) fun u s2 ⟨y, H2, I2, r2, q2⟩ =>
    thn (ho pins s2 σ H2 x y v u _ I2 r1 r2 q2) fun c s3 ⟨z, H3, I3, r3, k, e, q3⟩ => ?_) hm
  subst e
  cases r3
  exact wpAny_truthy_bool ⟨H3, I3, q3⟩
noncomputable def tChain (r r' : R2) (ta tb tc : TE) : TE := fun σ H Q => ta σ H fun x H1 => tb σ H1 fun y H2 => r x y H2 fun z H3 => ∃ k, z = .bl k ∧
  (if k = true then tc σ H3 fun w' H4 => r' y w' H4 Q else Q (.bl false) H3)

/-! ### truth -/
theorem line63 : (sizeLine : Nat) < 2 ^ 63 := by rw [sizeLine_eq]; decide

/-! ### strs and bytes -/
theorem op_add_str : OpR X (binaryOp .Add) (fun x y H Q => ∃ i j, x = .str i ∧ y = .str j ∧ i.length + j.length ≤ sizeLine ∧ Q (.str (i ++ j)) H) := by
  intro pins s σ H x y v u Q I rx ry h
  obtain ⟨i, j, rfl, rfl, hz, q⟩ := h
  obtain ⟨t, rfl⟩ := rx
  obtain ⟨t', rfl⟩ := ry
  exact add_str (fun t' tk => ⟨.str (i ++ j), H, I.tok _, ⟨_, rfl⟩, q⟩) hz


/-! ### scalar builtins, by CallR -/
theorem vals1 {x : V} {us : List Value} (r : Vals [x] us) : ∃ u, us = [u] ∧ RelV x u := by
  cases r with
  | cons r1 r2 => cases r2; exact ⟨_, rfl, r1⟩
theorem vals2 {x y : V} {us : List Value} (r : Vals [x, y] us) : ∃ u w', us = [u, w'] ∧ RelV x u ∧ RelV y w' := by
  cases r with
  | cons r1 r2 =>
    cases r2 with
    | cons r3 r4 => cases r4; exact ⟨_, _, rfl, r1, r3⟩
theorem call_int1 : CallR X (.type "int") (fun xs H Q => (∃ i, xs = [.int i] ∧ Q (.int i) H) ∨ ∃ k, xs = [.bl k] ∧ Q (.int (if k then 1 else 0)) H) := by
  intro pins s σ H xs us Q I r h
  rcases h with ⟨i, rfl, q⟩ | ⟨k, rfl, q⟩
  · obtain ⟨u, rfl, t, rfl⟩ := vals1 r
    exact call_int_int ⟨.int i, H, I, ⟨_, rfl⟩, q⟩
  · obtain ⟨u, rfl, r1⟩ := vals1 r
    cases r1
    exact call_int_bool ⟨.int (if k then 1 else 0), H, I.tok _, ⟨_, rfl⟩, q⟩
theorem call_str_int : CallR X (.type "str") (fun xs H Q => ∃ i, xs = [.int i] ∧ i.natAbs.log2 < 1920 ∧ Q (.str (toString i)) H) := by
  intro pins s σ H xs us Q I r h
  obtain ⟨i, rfl, hz, q⟩ := h
  obtain ⟨u, rfl, t, rfl⟩ := vals1 r
  exact PySem.P.str_of_int hz ⟨.str _, H, I.tok _, ⟨_, rfl⟩, q⟩
noncomputable def LenV (K : PySem.W.Frag) (x : V) (H : Hp) (n : Nat) : Prop :=
  match x with
  | .str y => y.length ≤ sizeLine ∧ n = y.length
  | .byt y => y.size ≤ sizeLine ∧ n = y.size
  | .ref p => (∃ xs, SqL K H p xs ∧ n = xs.length) ∨ ∃ xs, SqT K H p xs ∧ n = xs.length
  | _ => False
theorem call_len : CallR X (.builtin "len") (fun xs H Q => ∃ x n, xs = [x] ∧ LenV X.K x H n ∧ Q (.int n) H) := by
  intro pins s σ H xs us Q I r h
  obtain ⟨x, n, rfl, e, q⟩ := h
  obtain ⟨u, rfl, rx⟩ := vals1 r
  have hl := line63
  have hs : sizeLine = 16777216 := sizeLine_eq
  cases x with
  | str y =>
    obtain ⟨t, rfl⟩ := rx
    obtain ⟨hy, e'⟩ : y.length ≤ sizeLine ∧ n = y.length := e
    subst e'
    exact len_str (by omega) ⟨.int _, H, I.tok _, ⟨_, rfl⟩, q⟩
  | byt y =>
    obtain ⟨t, rfl⟩ := rx
    obtain ⟨hy, e'⟩ : y.size ≤ sizeLine ∧ n = y.size := e
    subst e'
    exact PySem.W.len_bytes (by omega) ⟨.int _, H, I.tok _, ⟨_, rfl⟩, q⟩
  | ref p =>
    cases rx
    have e' : (∃ xs, SqL X.K H p xs ∧ n = xs.length) ∨ ∃ xs, SqT X.K H p xs ∧ n = xs.length := e
    rcases e' with ⟨xs, hx, e'⟩ | ⟨xs, hx, e'⟩
    · subst e'
      obtain ⟨its, r', pl, hz⟩ := I.list hx
      have hlen := r'.length
      exact Calls.call_len_list pl.isList (by simp only [List.size_toArray]; omega) ⟨.int xs.length, H, I.tok _, ⟨_, by simp only [List.size_toArray]; rw [hlen]⟩, q⟩
    · subst e'
      obtain ⟨its, r', pl, hz⟩ := I.tuple hx
      have hlen := r'.length
      exact len_tuple pl (by simp only [List.size_toArray]; omega) ⟨.int xs.length, H, I.tok _, ⟨_, by simp only [List.size_toArray]; rw [hlen]⟩, q⟩
  | _ => exact (show False from e).elim
end
end L2

namespace L2
open PySem PySem.Spec PyProof.Rows

/-! ### an instance, its attributes a map -/
set_option genInjectivity false in
structure ObjM (h : Heap) (x dx C : Addr) (mA : Str → Option Value) : Prop where
  obj : h.get? x = some (PySem.W.instObj C dx)
  ns : h.Ns1 dx mA
  ne : dx ≠ x

theorem lookIn_ns {h : Heap} {dx : Addr} {mA : Str → Option Value} (n : h.Ns1 dx mA) : ∃ od, h.get? dx = some od ∧ ∀ name, PySem.W.lookIn name od = some (mA name) := by
  obtain ⟨o, es, ep, ho, hd, hk, _, hm⟩ := n
  refine ⟨o, ho, fun name => ?_⟩
  have e := hm name
  unfold nsFind findBy at e
  rw [← Array.find?_toList] at e
  unfold PySem.W.lookIn
  rw [hd]
  dsimp only
  split
  · rename_i y q
    rw [q] at e
    exact congrArg some e
  · rename_i q
    rw [q] at e
    have a : es.toList.any (·.refKey) = false := by
      rw [List.any_eq_false]
      intro y hy
      obtain ⟨z, t, hkey⟩ := hk y (Array.mem_toList_iff.mp hy)
      simp [DictEntry.refKey, hkey]
    have a' : ¬ es.toList.any (·.refKey) = true := by rw [a]; exact Bool.false_ne_true
    rw [if_neg a']
    exact congrArg some e

theorem ObjM.look {h : Heap} {x dx C : Addr} {mA : Str → Option Value} (I : ObjM h x dx C mA) : ∃ od, PySem.W.InstAt h x (PySem.W.instObj C dx) C (some od) ∧ ∀ name, PySem.W.lookIn name od = some (mA name) :=
  let ⟨od, ho, hl⟩ := lookIn_ns I.ns
  ⟨od, ⟨I.obj, rfl, rfl, ho⟩, hl⟩

section
variable {prog : Program} {w : World} {A : Around} {E : Value → Shared → Prop} {s : Shared} {K : PySem.W.Frag} {x dx C f : Addr} {mA : Str → Option Value} {name : Str} {v : Value}





end

/-! ### the attributes as a list of pairs -/
noncomputable def putF (f : Str) (v : V) : List (Str × V) → List (Str × V)
  | [] => [(f, v)]
  | (g, x) :: r => if g = f then (g, v) :: r else (g, x) :: putF f v r

theorem RelO.some_of {v : V} {o : Option Value} (r : RelO (some v) o) : ∃ u, o = some u ∧ RelV v u := by
  cases o with
  | none => exact (show False from r).elim
  | some u => exact ⟨u, rfl, r⟩

section
variable {P : Program} {w : World} {H H' : Hp} {h h' : Heap} {a C dx : Addr} {fs fs' : List (Str × V)}
theorem ins_get (hok : HOk P w H h) (e : H a = some (.ins C dx fs)) : ∃ mA, ObjM h a dx C mA ∧ (∀ f, RelO (fs.lookup f) (mA f)) ∧ PySem.Within mA (fs.map (·.1)) ∧ fs.length ≤ 1000 ∧ H dx = some (.own a) := by
  obtain ⟨d, z, ne, ob, mA, n, r, q⟩ := (show ObjOk P w H h a (.ins C dx fs) from hok a _ e)
  exact ⟨mA, ⟨ob, n, ne⟩, r, q, z, d⟩
end

/-! ### what of the text a class must have -/
set_option genInjectivity false in
structure Cls (K : PySem.W.Frag) (C : Addr) : Prop where
  pg : PySem.W.plainGet K C Str.empty = true
  hd : PySem.W.hasDictIn K C = true
  po : PySem.W.plainOver K C = true
  sa : PySem.W.findIn K (.ref C) "__setattr__" = some (some (.builtin "object.__setattr__"))
theorem Cls.get {K : PySem.W.Frag} {C : Addr} (c : Cls K C) (f : Str) : PySem.W.plainGet K C f = true := c.pg
noncomputable def NoAttr (K : PySem.W.Frag) (C : Addr) (f : Str) : Prop := PySem.W.findIn K (.ref C) f = some none

section
variable {X : Cx} {pins : List (Addr × Obj)} {σ : St} {H : Hp} {s : Shared} {a C dx : Addr} {fs : List (Str × V)} {f : Str} {v : V} {A : Around} {E : Value → Shared → Prop}






end

/-! ### readings and rules -/
noncomputable def tFld (K : PySem.W.Frag) (ta : TE) (f : Str) : TE := fun σ H Q => ta σ H fun x H1 => ∃ a C dx fs v, x = .ref a ∧ H1 a = some (.ins C dx fs) ∧ Cls K C ∧ NoAttr K C f ∧ fs.lookup f = some v ∧ Q v H1
noncomputable def sFld (K : PySem.W.Frag) (ta tv : TE) (f : Str) : TS := fun D σ H => tv σ H fun y H1 => ta σ H1 fun x H2 => ∃ a C dx fs, x = .ref a ∧ H2 a = some (.ins C dx fs) ∧ Cls K C ∧ NoAttr K C f ∧ fs.length < 1000 ∧
  D.nx σ (upd H2 a (.ins C dx (putF f y fs)))

section
variable {X : Cx} {o e value : Expr} {f : Str} {pos pos' tpos : Pos} {ta tv : TE}

end

/-! ### isinstance -/
section
variable {X : Cx} {pins : List (Addr × Obj)} {σ : St} {H : Hp} {s : Shared} {A : Around} {E : Value → Shared → Prop} {Q : Value → Shared → Prop} {c : Value} {b : Bool}
inductive TyOf (K : PySem.W.Frag) (H : Hp) : V → Value → Prop where
  | non : TyOf K H .non (.type "NoneType")
  | bl (x : Bool) : TyOf K H (.bl x) (.type "bool")
  | int (i : Int) : TyOf K H (.int i) (.type "int")
  | str (x : Str) : TyOf K H (.str x) (.type "str")
  | flt (x : UInt64) : TyOf K H (.flt x) (.type "float")
  | lst {a : Addr} {xs : List V} (e : H a = some (.lst xs)) : TyOf K H (.ref a) (.type "list")
  | frz {a : Addr} {o : Obj} {xs : List V} (e : H a = some (.frz o (.lst xs))) : TyOf K H (.ref a) (.type "list")
  | tup {a : Addr} {xs : List V} (e : H a = some (.tup xs)) : TyOf K H (.ref a) (.type "tuple")
  | dK {a : Addr} {kvs : List (Key × V)} (e : H a = some (.dK kvs)) : TyOf K H (.ref a) (.type "dict")
  | dT {a : Addr} {kvs : List (List Key × V)} (e : H a = some (.dT kvs)) : TyOf K H (.ref a) (.type "dict")
  | ins {a C dx : Addr} {fs : List (Str × V)} (e : H a = some (.ins C dx fs)) (cl : Cls K C) (ha : PySem.W.findIn K (.ref C) "__class__" = some (some (.builtin "object.__class__")))
      (hn : PySem.W.specialIn K (.builtin "object.__class__") "__get__" = some (some (.builtin "getset_descriptor.__get__"))) (htk : PySem.W.takesIn K (.builtin "object.__class__") = some true)
      (hm : PySem.W.mroIn K C (.type "object") = some true) : TyOf K H (.ref a) (.ref C)
theorem isinst_ok {x : V} {u t : Value} (I : Inv X pins σ H s) (rx : RelV x u) (ty : TyOf X.K H x t) (e : PySem.W.kitOne X.K t c = some b) (h : ∀ tk, Q (.bool b) { s with toks := tk }) :
    wpAny (model X.prog X.w) A (call (.builtin "isinstance") [u, c]) Q E s := by
  cases ty with
  | non => cases (show u = Value.none from rx); exact PySem.W.kia_one PySem.W.kitx_none I.kIn True.intro e (fun z => nomatch z) h
  | bl y => cases (show u = Value.bool y from rx); exact PySem.W.kia_one PySem.W.kitx_bool I.kIn True.intro e (fun z => nomatch z) h
  | int i => obtain ⟨t, q⟩ := (show ∃ t, u = Value.int i t from rx); cases q; exact PySem.W.kia_one PySem.W.kitx_int I.kIn True.intro e (fun z => nomatch z) h
  | str y => obtain ⟨t, q⟩ := (show ∃ t, u = Value.str y t from rx); cases q; exact PySem.W.kia_one PySem.W.kitx_str I.kIn True.intro e (fun z => nomatch z) h
  | flt y => obtain ⟨t, q⟩ := (show ∃ t, u = Value.float y t from rx); cases q; exact PySem.W.kia_one PySem.W.kitx_float I.kIn True.intro e (fun z => nomatch z) h
  | @lst a xs ea =>
    cases (show u = Value.ref a from rx)
    obtain ⟨_, _, n, _, h1⟩ := (show ObjOk X.prog X.w H s.heap a (.lst xs) from I.hok a _ ea)
    exact PySem.W.kia_one PySem.W.kitx_list I.kIn ⟨_, h1, rfl⟩ e (fun z => nomatch z) h
  | @frz a ob xs ea =>
    cases (show u = Value.ref a from rx)
    obtain ⟨_, _, _, n, _, h1⟩ := (show ObjOk X.prog X.w H s.heap a (.frz ob (.lst xs)) from I.hok a _ ea)
    exact PySem.W.kia_one PySem.W.kitx_list I.kIn ⟨_, h1, rfl⟩ e (fun z => nomatch z) h
  | @tup a xs ea =>
    cases (show u = Value.ref a from rx)
    obtain ⟨_, _, _, p⟩ := (show ObjOk X.prog X.w H s.heap a (.tup xs) from I.hok a _ ea)
    obtain ⟨o, h1, h2, _⟩ := p
    exact PySem.W.kia_one PySem.W.kitx_tuple I.kIn ⟨o, h1, h2⟩ e (fun z => nomatch z) h
  | @dK a kvs ea =>
    cases (show u = Value.ref a from rx)
    obtain ⟨_, _, vs, _, p⟩ := (show ObjOk X.prog X.w H s.heap a (.dK kvs) from I.hok a _ ea)
    obtain ⟨o, es, ep, h1, h2, _⟩ := p
    exact PySem.W.kia_one PySem.W.kitx_dict I.kIn ⟨o, h1, h2.1⟩ e (fun z => nomatch z) h
  | @dT a kvs ea =>
    cases (show u = Value.ref a from rx)
    obtain ⟨_, _, xs, _, o, es, ep, h1, h2, _⟩ := (show ObjOk X.prog X.w H s.heap a (.dT kvs) from I.hok a _ ea)
    exact PySem.W.kia_one PySem.W.kitx_dict I.kIn ⟨o, h1, h2.1⟩ e (fun z => nomatch z) h
  | @ins a C dx fs ea cl ha hn htk hm =>
    cases (show u = Value.ref a from rx)
    obtain ⟨mA, O, _⟩ := ins_get I.hok ea
    obtain ⟨od, J, _⟩ := O.look
    exact PySem.W.kia_one (PySem.W.kitx_own (cl.get _) cl.hd ha hn htk hm) I.kIn J e (fun z => nomatch z) h
end
end L2

namespace L2
open PySem PySem.Spec PyProof.Rows

/-! ### room -/
set_option genInjectivity false in
structure Room (k : Nat) (A : Around) : Prop where
  hd : A.handled = none
  dp : A.depth + 3 * k + 5 < recursionLimit
  un : A.units + 16 * k + 200 < cLine
theorem Room.mono {j k : Nat} {A : Around} (r : Room k A) (h : j ≤ k) : Room j A := ⟨r.hd, by have := r.dp; omega, by have := r.un; omega⟩
theorem Room.deeper {k : Nat} {A : Around} (r : Room (k + 1) A) (env : Env) : Room k (A.deeper env) :=
  ⟨r.hd, by have := r.dp; show A.depth + 1 + 3 * k + 5 < _; omega, by have := r.un; show A.units + 3 + 16 * k + 200 < _; omega⟩
theorem Room.depth {k : Nat} {A : Around} (r : Room k A) : A.depth < recursionLimit := by have := r.dp; omega
theorem Room.units {k : Nat} {A : Around} (r : Room k A) : A.units + 64 < cLine := by have := r.un; omega

/-! ### argument lists and displays -/
noncomputable def tNil : TA := fun _ H Q => Q [] H
noncomputable def tCons (ta : TE) (tr : TA) : TA := fun σ H Q => ta σ H fun x H1 => tr σ H1 fun xs H2 => Q (x :: xs) H2
section
variable {X : Cx} {e : Expr} {es : List Expr} {te : TE} {t : TA} {pos : Pos}
theorem pa_nil : PA X [] tNil := fun _ _ _ _ H Q I h => Calls.spliced_nil ⟨[], H, I, .nil, h⟩
theorem pa_cons (ha : PE X e te) (hr : PA X es t) (hs : starEach (e :: es) X.env = (false, eval e X.env) :: starEach es X.env := by rfl) : PA X (e :: es) (tCons te t) := by
  intro pos pins s σ H Q I h
  rw [hs]
  show wpAny _ _ (spliced ((false, eval e X.env) :: backTo pos (starEach es X.env))) _ _ s
  refine Calls.spliced_cons (thn (ha pins s σ H _ I h) fun u s1 ⟨x, H1, I1, r1, q1⟩ => ?_)
  exact thn (hr pos pins s1 σ H1 _ I1 q1) fun us s2 ⟨xs, H2, I2, r2, q2⟩ => ⟨x :: xs, H2, I2, .cons r1 r2, q2⟩

noncomputable def tTup (t : TA) : TE := fun σ H Q => t σ H fun xs H1 => xs.length ≤ sizeLine ∧ ∀ p, H1 p = none → Q (.ref p) (upd H1 p (.tup xs))
noncomputable def tLst (t : TA) : TE := fun σ H Q => t σ H fun xs H1 => xs.length ≤ sizeLine ∧ ∀ p, H1 p = none → Q (.ref p) (upd H1 p (.lst xs))
theorem pe_tup {x1} (h : PA X es t) : PE X (.Tuple es x1 pos) (tTup t) := by
  intro pins s σ H Q I hq
  refine wpAny_Tuple_spliced (thn (h pos pins s σ H _ I hq) fun us s1 ⟨xs, H1, I1, r, z, q⟩ => ⟨by rw [← r.length]; exact z, ?_⟩)
  have hf : H1 s1.heap.objs.size = none := I1.hok.fresh (Nat.le_refl _)
  refine ⟨.ref s1.heap.objs.size, upd H1 s1.heap.objs.size (.tup xs), I1.laid (t' := s1.toks) (fun b u e => Heap.get?_push_of_some _ e) (Nat.le_refl _) ?_, rfl, q _ hf⟩
  exact ⟨z, us, r, ⟨_, Heap.get?_push_size _ rfl, rfl, _, rfl⟩⟩
theorem pe_lst (h : PA X es t) : PE X (.List es pos) (tLst t) := by
  intro pins s σ H Q I hq
  refine wpAny_List_spliced (thn (h pos pins s σ H _ I hq) fun us s1 ⟨xs, H1, I1, r, z, q⟩ => ⟨by rw [← r.length]; exact z, ?_⟩)
  have hf : H1 s1.heap.objs.size = none := I1.hok.fresh (Nat.le_refl _)
  refine ⟨.ref s1.heap.objs.size, upd H1 s1.heap.objs.size (.lst xs), I1.laid (t' := s1.toks) (fun b u e => Heap.get?_push_of_some _ e) (Nat.le_refl _) ?_, rfl, q _ hf⟩
  exact ⟨z, us, 0, r, Heap.get?_push_size _ rfl⟩
end

/-! ### what a def promises -/
noncomputable abbrev Sp := List V → Hp → VK → XK → Prop
noncomputable abbrev CXT := List Env → Hp → Shared → XK → Value → Shared → Prop

set_option genInjectivity false in
structure Env0 (P : Program) (w : World) (K : PySem.W.Frag) (mg : Str → Option Value) (base : Heap) (A : Around) (outer : List Env) (s : Shared) (H : Hp) : Prop where
  frames : A.frames = some outer
  mod : Mod K mg base
  bs : ∀ b o, base.get? b = some o → s.heap.get? b = some o ∧ H b = none
  bsz : base.objs.size ≤ s.heap.objs.size
  funs : s.heap.FunFrames base outer
  frf : ∀ b ∈ frs outer, H b = none
  hok : HOk P w H s.heap
  bare : AllBare s.gens
noncomputable def CE (outer : List Env) (P : Program) (w : World) (H : Hp) (s : Shared) (Q : VK) (u : Value) (s' : Shared) : Prop :=
  ∃ v H', s'.os = s.os ∧ AllBare s'.gens ∧ Un (frs outer) [] H H' s.heap s'.heap ∧ HOk P w H' s'.heap ∧ RelV v u ∧ Q v H'
noncomputable def CR (CX : CXT) (outer : List Env) (P : Program) (w : World) (H : Hp) (s : Shared) (Q : VK) (E : XK) (r : Result) (s' : Shared) : Prop :=
  match r with
  | .ok (.ret u) => CE outer P w H s Q u s'
  | .ok _ => False
  | .error e => CX outer H s E e s'
set_option genInjectivity false in
structure FnOk (P : Program) (w : World) (K : PySem.W.Frag) (mg : Str → Option Value) (base : Heap) (CX : CXT) (k : Nat) (f : Addr) (fd : FuncData) (ps : List Str) (sp : Sp) : Prop where
  len : ∀ vs H Q E, sp vs H Q E → vs.length = ps.length
  run : ∀ (A : Around) (outer : List Env) (s : Shared) (H : Hp) (args : Args) (us : List Value) (vs : List V) (Q : VK) (E : XK), Room k A → Env0 P w K mg base A outer s H → BindsTo s fd args (ps.zip us) → Vals vs us → sp vs H Q E →
    codeAny (model P w) A (.call (.ref f) args) (CR CX outer P w H s Q E) s


section
variable {X : Cx} {pins : List (Addr × Obj)} {σ : St} {H : Hp} {s s' : Shared}
theorem Inv.env0 (I : Inv X pins σ H s) : Env0 X.prog X.w X.K X.mg X.base X.A X.stack s H :=
  ⟨I.ok.frames, I.ok.mod, I.bs, Nat.le_trans I.ok.bsz I.sz, I.stack, I.stkFree, I.hok, I.bare⟩
theorem Inv.after {Q : VK} {u : Value} (I : Inv X pins σ H s) (h : CE X.stack X.prog X.w H s Q u s') : EP X pins σ Q u s' := by
  obtain ⟨v, H', os, bare, un, hok, r, q⟩ := h
  obtain ⟨hh, g, d, t, os'⟩ := s'
  obtain rfl : os' = s.os := os
  exact ⟨v, H', I.call (h' := hh) (g' := g) (d' := d) (t' := t) (ch := []) un hok bare (fun b z => absurd z (by simp)), r, q⟩
end

/-! ### calls -/
noncomputable def tCall (sp : Sp) (dvs : List V) (E : XK) (t : TA) : TE := fun σ H Q => t σ H fun vs H1 => sp (vs ++ dvs) H1 Q E
noncomputable def tMeth (C : Addr) (m : Str) (sp : Sp) (dvs : List V) (E : XK) (ta : TE) (t : TA) : TE := fun σ H Q => ta σ H fun x H1 => ∃ a dx fs, x = .ref a ∧ H1 a = some (.ins C dx fs) ∧ fs.lookup m = none ∧
  t σ H1 fun vs H2 => sp (x :: (vs ++ dvs)) H2 Q E
noncomputable def tMake (C : Addr) (sp : Sp) (dvs : List V) (E : XK) (t : TA) : TE := fun σ H Q => t σ H fun vs H1 => ∀ x dx, H1 x = none → H1 dx = none → dx ≠ x →
  sp (.ref x :: (vs ++ dvs)) (upd (upd H1 dx (.own x)) x (.ins C dx [])) (fun v H2 => v = .non ∧ Q (.ref x) H2) E

noncomputable def Binds (K : PySem.W.Frag) (fd : FuncData) (ps : List Str) (ds : List Value) : Prop :=
  ∀ (s : Shared) (us : List Value), K.In s.heap → (us ++ ds).length = ps.length → BindsTo s fd ⟨us, []⟩ (ps.zip (us ++ ds))
theorem Binds.all {K : PySem.W.Frag} {fd : FuncData} {ps : List Str} (h : ∀ us : List Value, us.length = ps.length → bindArgs fd ⟨us, []⟩ = pure (ps.zip us)) : Binds K fd ps [] := fun s us _ hl => by
  rw [List.append_nil] at hl ⊢
  exact .of_eq (h us hl)

noncomputable def Passes (CX : CXT) (X : Cx) (E : XK) : Prop := ∀ (pins : List (Addr × Obj)) (σ : St) (H : Hp) (s : Shared) (e : Value) (s' : Shared), Inv X pins σ H s → CX X.stack H s E e s' → X.xe e s'

section
variable {X : Cx} {CX : CXT} {k : Nat} {f C : Addr} {fd : FuncData} {ps : List Str} {sp : Sp} {dvs : List V} {ds : List Value} {E : XK} {x m : Str} {p pos apos : Pos} {e o : Expr} {es : List Expr} {ta : TE} {t : TA}

theorem run_fn {pins : List (Addr × Obj)} {σ : St} {H : Hp} {s : Shared} {Q : VK} {us : List Value} {vs : List V} (F : FnOk X.prog X.w X.K X.mg X.base CX k f fd ps sp) (hr : Room k X.A) (hb : Binds X.K fd ps ds) (hd : Vals dvs ds) (hx : Passes CX X E)
    (I : Inv X pins σ H s) (r : Vals vs us) (h : sp (vs ++ dvs) H Q E) : wpAny (model X.prog X.w) X.A (call (.ref f) us) (EP X pins σ Q) X.xe s := by
  have r2 : Vals (vs ++ dvs) (us ++ ds) := r.append hd
  have hl : (us ++ ds).length = ps.length := by rw [← r2.length]; exact F.len _ _ _ _ h
  refine wpAny_call (codeAny_mono (F.run X.A X.stack s H ⟨us, []⟩ (us ++ ds) (vs ++ dvs) Q E hr I.env0 (hb s us I.kIn hl) r2 h) fun r s' hq => ?_)
  cases r with
  | error e => exact hx pins σ H s e s' I hq
  | ok fl =>
    cases fl with
    | ret u => exact I.after hq
    | next => exact False.elim hq
    | brk => exact False.elim hq
    | cont => exact False.elim hq

theorem pe_call (F : FnOk X.prog X.w X.K X.mg X.base CX k f fd ps sp) (hr : Room k X.A) (hg : Gl X x) (hm : X.mg x = some (.ref f)) (hk : PySem.W.keepIn X.K (.ref f) = true) (hb : Binds X.K fd ps ds) (hd : Vals dvs ds) (hx : Passes CX X E)
    (ha : PA X (e :: es) t) (hdb : (x == ("__debug__" : Str)) = false := by decide) (he : starEach (e :: es) X.env = (false, eval e X.env) :: starEach es X.env := by rfl) (hpl : (backTo pos (starEach es X.env)).any (·.1) = false := by rfl) :
    PE X (.Call (.Name x p) (e :: es) [] pos) (tCall sp dvs E t) := by
  intro pins s σ H Q I h
  refine wpAny_Call_Name_kw (ld_glob I hg hm ?_ hdb)
  refine PySem.W.callWith_K (h₀ := X.base) I.ok.mod.kin hk (thn (ha pos pins s σ H _ I h) fun us s1 ⟨vs, H1, I1, r, q⟩ => ⟨I1.kIn, ?_⟩) he hpl
  exact run_fn F hr hb hd hx I1 r q



end

/-! ### keywords -/
section
variable {X : Cx} {CX : CXT} {k : Nat} {f C : Addr} {fd : FuncData} {ps ks : List Str} {sp : Sp} {E : XK} {x m : Str} {p pos apos kpos : Pos} {e o : Expr} {es : List Expr} {kws : List Keyword} {te ta : TE} {t tk : TA} {nm : Option Str}

variable {g : List Value → List Value → List Value} {gV : List V → List V → List V}
end

/-! ### a def's body keeps its promise -/
set_option genInjectivity false in
structure FnScope (N P : List Str) (sc : Scope) : Prop where
  kind : sc.kind = .function
  co : sc.isCoroutine = false
  gen : sc.isGenerator = false
  nd : N.Nodup
  pre : N.take P.length = P
  par : ∀ x ∈ P, sc.names.lookup x = some .local ∨ sc.names.lookup x = some .cell
  nofree : ∀ y ∈ sc.names, y.2 ≠ .free

theorem bindL_out {kindOf : Str → Option NameKind} {x : Str} : ∀ {binds : List (Str × Value)} {m : Str → Option Value}, (∀ v, (x, v) ∉ binds) → bindL kindOf binds m x = m x
  | [], _, _ => rfl
  | (n, v) :: r, m, h => by
    unfold bindL
    rw [bindL_out fun w hw => h w (List.mem_cons_of_mem _ hw)]
    split
    · have : x ≠ n := by rintro rfl; exact h v List.mem_cons_self
      simp [this]
    · rfl
theorem bindC_out {kindOf : Str → Option NameKind} {x : Str} : ∀ {binds : List (Str × Value)} {m : Str → Option Value}, (∀ v, (x, v) ∉ binds) → bindC kindOf binds m x = m x
  | [], _, _ => rfl
  | (n, v) :: r, m, h => by
    unfold bindC
    rw [bindC_out fun w hw => h w (List.mem_cons_of_mem _ hw)]
    split
    · rfl
    · have : x ≠ n := by rintro rfl; exact h v List.mem_cons_self
      simp [this]
theorem bindL_get {kindOf : Str → Option NameKind} {x : Str} {v : Value} : ∀ {P : List Str} {vs : List Value} {i : Nat} {m : Str → Option Value}, P.Nodup → P[i]? = some x → vs[i]? = some v → kindOf x = some .local →
    bindL kindOf (P.zip vs) m x = some v
  | [], _, _, _, _, h, _, _ => by simp at h
  | _ :: _, [], _, _, _, _, h, _ => by simp at h
  | p :: P, w :: vs, 0, m, nd, h1, h2, hk => by
    simp at h1 h2; subst h1; subst h2
    show bindL kindOf ((p, w) :: P.zip vs) m p = _
    unfold bindL
    rw [bindL_out fun v hv => (List.nodup_cons.mp nd).1 (List.of_mem_zip hv).1, if_pos hk]
    simp
  | p :: P, w :: vs, i + 1, m, nd, h1, h2, hk => by
    show bindL kindOf ((p, w) :: P.zip vs) m x = _
    unfold bindL
    exact bindL_get (i := i) (List.nodup_cons.mp nd).2 (by simpa using h1) (by simpa using h2) hk
theorem bindC_get {kindOf : Str → Option NameKind} {x : Str} {v : Value} : ∀ {P : List Str} {vs : List Value} {i : Nat} {m : Str → Option Value}, P.Nodup → P[i]? = some x → vs[i]? = some v → kindOf x ≠ some .local →
    bindC kindOf (P.zip vs) m x = some v
  | [], _, _, _, _, h, _, _ => by simp at h
  | _ :: _, [], _, _, _, _, h, _ => by simp at h
  | p :: P, w :: vs, 0, m, nd, h1, h2, hk => by
    simp at h1 h2; subst h1; subst h2
    show bindC kindOf ((p, w) :: P.zip vs) m p = _
    unfold bindC
    rw [bindC_out fun v hv => (List.nodup_cons.mp nd).1 (List.of_mem_zip hv).1, if_neg hk]
    simp
  | p :: P, w :: vs, i + 1, m, nd, h1, h2, hk => by
    show bindC kindOf ((p, w) :: P.zip vs) m x = _
    unfold bindC
    exact bindC_get (i := i) (List.nodup_cons.mp nd).2 (by simpa using h1) (by simpa using h2) hk

noncomputable def start (N : List Str) (vs : List V) : St := vs.map some ++ List.replicate (N.length - vs.length) none

noncomputable def cxOf (CX : CXT) (P : Program) (w : World) (K : PySem.W.Frag) (mg : Str → Option Value) (base : Heap) (N : List Str) (qual : Str) (scope : Scope) (f : Addr) (cd : Value) (A : Around) (outer : List Env) (s : Shared) (H : Hp) (E : XK) : Cx where
  prog := P
  w := w
  K := K
  mg := mg
  base := base
  A := A.deeper (envOfC qual scope s.heap.objs.size f cd)
  N := N
  s₀ := s
  H₀ := H
  env := envOfC qual scope s.heap.objs.size f cd
  outer := outer
  stack := envOfC qual scope s.heap.objs.size f cd :: outer
  ex := []
  calm := true
  fn := fun _ => true
  pn := []
  xe := fun e s' => wpAny (model P w) (A.deeper (envOfC qual scope s.heap.objs.size f cd)) (leaving (envOfC qual scope s.heap.objs.size f cd) e) (fun _ s'' => CX outer H s E e s'') (fun e' s'' => CX outer H s E e' s'') s'

theorem cell_has {sc : Scope} {n : Nat} {x : Str} (h : sc.names.lookup x = some .cell) : ∃ c, (cellsFrom n sc.names []).lookup x = some c := by
  have q := PySem.W.cellsFrom_some sc.names n [] (.inl h)
  exact Option.isSome_iff_exists.mp q

theorem inv_start {CX : CXT} {P : Program} {w : World} {K : PySem.W.Frag} {mg : Str → Option Value} {base : Heap} {N ps : List Str} {qual : Str} {scope : Scope} {f : Addr} {cd : Value} {A : Around} {outer : List Env} {s s1 : Shared} {H : Hp} {E : XK} {us : List Value} {vs : List V}
    (S : FnScope N ps scope) (hd : A.handled = none) (e0 : Env0 P w K mg base A outer s H) (hl : vs.length = ps.length) (r : Vals vs us)
    (x : InCallC s s.heap.objs.size (bindL (envOfC qual scope s.heap.objs.size f cd).kindOf (ps.zip us) fun _ => none) (cellsFrom (s.heap.objs.size + 1) scope.names []) (bindC (envOfC qual scope s.heap.objs.size f cd).kindOf (ps.zip us) fun _ => none) s1) :
    Inv (cxOf CX P w K mg base N qual scope f cd A outer s H E) [] (start N vs) H s1 := by
  have hpl : ps.length ≤ N.length := by have := congrArg List.length S.pre; rw [List.length_take] at this; omega
  obtain ⟨h1, tk, rfl, hk⟩ := x.done
  have noA : ∀ b : Addr, b ∉ (cxOf CX P w K mg base N qual scope f cd A outer s H E).ex := fun b z => absurd (show b ∈ ([] : List Addr) from z) (by simp)
  refine ⟨⟨e0.mod, S.kind, rfl, rfl, Nat.le_refl _, fun y z c h1 h2 => ?_, fun y hy => ?_, fun y c _ h => ?_, fun _ => hd, Around.frames_deeper e0.frames, .inr ⟨rfl, rfl⟩, fun b z => absurd z (noA b), e0.bs, e0.bsz, fun b _ _ => noA b, fun b z => absurd z (noA b), e0.funs, e0.frf⟩,
    rfl, e0.bare, Un.kept hk, ⟨_, x.toInCall.ns, fun i y v h1 h2 h3 => ?_⟩, fun y c h => ⟨_, x.cell y c h⟩, e0.hok.fresh (Nat.le_refl _), fun y c h => ?_, fun p hp => absurd (show p ∈ ([] : List (Addr × Obj)) from hp) (by simp), e0.hok.kept hk, ?_⟩
  · exact name_of_addr x.apart (PySem.mem_of_lookup h1) (PySem.mem_of_lookup h2)
  · have hy : scope.names.lookup y = some .cell ∨ scope.names.lookup y = some .free := hy
    rcases hy with hy | hy
    · exact cell_has hy
    · exact absurd rfl (S.nofree _ (PySem.mem_of_lookup hy))
  · exact Nat.le_of_lt (x.above y c (PySem.mem_of_lookup h))
  · have hi : i < vs.length := by
      unfold start at h2
      by_cases hi : i < vs.length
      · exact hi
      · rw [List.getElem?_append_right (by simpa using hi)] at h2
        rw [List.getElem?_replicate] at h2
        split at h2 <;> cases h2
    have ha : vs[i]? = some v := by
      unfold start at h2
      rw [List.getElem?_append_left (by simpa using hi), List.getElem?_map] at h2
      cases e : vs[i]? with
      | none => rw [e] at h2; cases h2
      | some a => rw [e] at h2; cases h2; rfl
    obtain ⟨u, hu, rv⟩ := r.get ha
    have hp : ps[i]? = some y := by
      rw [← S.pre, List.getElem?_take_of_lt (by omega)]; exact h1
    have ndP : ps.Nodup := by rw [← S.pre]; exact S.nd.sublist (List.take_sublist _ _)
    refine ⟨u, rv, ?_⟩
    rcases S.par y (List.mem_of_getElem? hp) with k | k
    · exact .inl ⟨k, bindL_get ndP hp hu k⟩
    · obtain ⟨c, e⟩ := cell_has (n := s.heap.objs.size + 1) k
      refine .inr ⟨.inl k, c, e, ?_⟩
      have q := x.cell y c e
      rw [bindC_get ndP hp hu (by show scope.names.lookup y ≠ _; rw [k]; decide)] at q
      exact q
  · exact e0.hok.fresh (Nat.le_of_lt (x.above y c (PySem.mem_of_lookup h)))
  · unfold start
    show _ = N.length
    rw [List.length_append, List.length_map, List.length_replicate]
    omega

theorem fn_of {CX : CXT} {P : Program} {w : World} {K : PySem.W.Frag} {mg : Str → Option Value} {base : Heap} {k : Nat} {f : Addr} {name qual : Str} {params : Arguments} {body : List Stmt} {scope : Scope} {dV kV doc pm cdv ct oc : Value} {an od : Option Addr}
    {osl : Array (Option Value)} {N ps : List Str} {sp : Sp} (lk : K.lookup f = some ⟨oc, od, .func (PySem.W.fnOf name qual params body scope dV kV doc pm an cdv ct), osl⟩) (hcd : PySem.W.codeIn K cdv qual = true) (S : FnScope N ps scope)
    (len : ∀ vs H Q E, sp vs H Q E → vs.length = ps.length)
    (hbody : ∀ (A : Around) (outer : List Env) (s : Shared) (H : Hp) (vs : List V) (Q : VK) (E : XK), Room k (A.deeper (envOfC qual scope s.heap.objs.size f cdv)) → sp vs H Q E →
      ∃ t, PSs (cxOf CX P w K mg base N qual scope f cdv A outer s H E) body t ∧ t { nx := fun _ H' => Q .non H', rt := Q } (start N vs) H) :
    FnOk P w K mg base CX (k + 1) f (PySem.W.fnOf name qual params body scope dV kV doc pm an cdv ct) ps sp := by
  refine ⟨len, fun A outer s H args us vs Q E hr e0 hb r hsp => ?_⟩
  have hl := len _ _ _ _ hsp
  have KX : K.In s.heap := e0.mod.kin.keeps fun b o e => (e0.bs b o e).1
  have lim : s.heap.NoLimit := e0.mod.nolimit.keeps fun b o e => (e0.bs b o e).1
  have hkind : ∀ y ∈ ps.zip us, scope.names.lookup y.1 = some .local ∨ (scope.names.lookup y.1 = some .cell ∧ ((cellsFrom (s.heap.objs.size + 1) scope.names []).lookup y.1).isSome = true) := fun ⟨n, v⟩ hy => by
    rcases S.par n (List.of_mem_zip hy).1 with q | q
    · exact .inl q
    · exact .inr ⟨q, PySem.W.cellsFrom_some _ _ _ (.inl q)⟩
  refine codeAny_call_function hr.depth (KX _ _ lk) rfl S.co S.gen rfl (PySem.W.codeRec_of KX hcd) (hb _ _ _ _ ?_)
  refine wpAny_newFunctionEnv_cells S.kind hkind fun env he s1 x => ?_
  subst he
  refine ⟨lim.keeps x.toInCall.keep, codeAny_func ?_⟩
  obtain ⟨t, ht, hq⟩ := hbody A outer s H vs Q E (hr.deeper _) hsp
  have I : Inv (cxOf CX P w K mg base N qual scope f cdv A outer s H E) [] (start N vs) H s1 := inv_start S hr.hd e0 hl r x
  refine wpAny_mono (ht [] s1 (start N vs) H _ I hq) (fun fl s' hs => ?_) fun e s' hs => hs
  have fin : ∀ {σ' : St} {H' : Hp} {v : V} {u : Value}, Inv (cxOf CX P w K mg base N qual scope f cdv A outer s H E) [] σ' H' s' → RelV v u → Q v H' → CE outer P w H s Q u s' :=
    fun {σ' H' v u} J rv q => ⟨v, H', J.os, J.bare, J.base, J.hok, rv, q⟩
  cases fl with
  | ret u =>
    obtain ⟨v, σ', H', J, rv, q⟩ := hs
    exact fin J rv q
  | next =>
    obtain ⟨σ', H', J, q⟩ := hs
    exact fin (v := V.non) (u := Value.none) J rfl q
  | brk =>
    obtain ⟨_, _, _, q⟩ := hs
    exact False.elim q
  | cont =>
    obtain ⟨_, _, _, q⟩ := hs
    exact False.elim q
end L2

namespace L2
open PySem PySem.Spec PyProof.Rows
section
variable {X : Cx} {x : Str} {p pos : Pos} {e : Expr} {es : List Expr} {t : TA} {id T : String} {r : List V → Hp → VK → Prop}

noncomputable def tCB (r : List V → Hp → VK → Prop) (t : TA) : TE := fun σ H Q => t σ H fun vs H1 => r vs H1 Q
theorem pe_callB (hc : CallR X (.builtin id) r) (hg : Gl X x) (hm : X.mg x = none) (hv : bootBuiltins x = some (.builtin id)) (ha : PA X (e :: es) t) (hn : x ≠ "__name__" := by decide) (hdb : (x == ("__debug__" : Str)) = false := by decide)
    (he : starEach (e :: es) X.env = (false, eval e X.env) :: starEach es X.env := by rfl) (hpl : (backTo pos (starEach es X.env)).any (·.1) = false := by rfl) : PE X (.Call (.Name x p) (e :: es) [] pos) (tCB r t) := by
  intro pins s σ H Q I h
  refine wpAny_Call_Name_kw (ld_blt I hg hm hv ?_ hn hdb)
  exact PyProof.Rows.callWith_builtin1 (thn (ha pos pins s σ H _ I h) fun us s1 ⟨vs, H1, I1, r1, q1⟩ => hc pins s1 σ H1 vs us Q I1 r1 q1) he hpl
theorem pe_callTy (hc : CallR X (.type T) r) (hg : Gl X x) (hm : X.mg x = none) (hv : bootBuiltins x = some (.type T)) (ha : PA X (e :: es) t) (hn : x ≠ "__name__" := by decide) (hdb : (x == ("__debug__" : Str)) = false := by decide)
    (he : starEach (e :: es) X.env = (false, eval e X.env) :: starEach es X.env := by rfl) (hpl : (backTo pos (starEach es X.env)).any (·.1) = false := by rfl) : PE X (.Call (.Name x p) (e :: es) [] pos) (tCB r t) := by
  intro pins s σ H Q I h
  refine wpAny_Call_Name_kw (ld_blt I hg hm hv ?_ hn hdb)
  exact PyProof.Rows.callWith_type1 (thn (ha pos pins s σ H _ I h) fun us s1 ⟨vs, H1, I1, r1, q1⟩ => hc pins s1 σ H1 vs us Q I1 r1 q1) he hpl
end
end L2

namespace HT
open PySem PyProof.Rows



section
open PySem.SeqAt
open PySem.AutoSeq1 (wpAny_loadPart')
open PySem.MeetsSeq PySem.MeetsSeq2 PySem.MeetsSeq3

end

section
variable {prog : Program} {w : World} {A : Around} {E : Value → Shared → Prop} {s : Shared}



/-! ### t[a:b], not the whole -/
noncomputable def sIx (n d : Nat) : Option Int → Nat
  | none => d
  | some v => if v < 0 then (v + (n : Int)).toNat else min v.toNat n
theorem sIx_nat (n d k : Nat) : sIx n d (some (k : Int)) = min k n := by
  show (if (k : Int) < 0 then ((k : Int) + (n : Int)).toNat else min (k : Int).toNat n) = min k n
  rw [if_neg (by omega), Int.toNat_natCast]

end
end HT

namespace L2
open PySem PySem.Spec PyProof.Rows

/-! ### the parts of a slice -/
noncomputable abbrev TO := St → Hp → (Option Int → Hp → Prop) → Prop
noncomputable def PO (X : Cx) (e : Option Expr) (t : TO) : Prop :=
  ∀ (pins : List (Addr × Obj)) (s : Shared) (σ : St) (H : Hp) (Q : Option Int → Hp → Prop), Inv X pins σ H s → t σ H Q →
    wpAny (model X.prog X.w) X.A (evalPart e X.env) (fun u s' => ∃ o H', Inv X pins σ H' s' ∧ IsPart u o ∧ Q o H') X.xe s
noncomputable def tNoPart : TO := fun _ H Q => Q none H
noncomputable def tPart (t : TE) : TO := fun σ H Q => t σ H fun x H1 => ∃ i, x = .int i ∧ Q (some i) H1


section
variable {X : Cx} {e : Expr} {te : TE} {lo hi : Option Expr} {tl th : TO} {pos p2 : Pos}

theorem po_none : PO X none tNoPart := by
  intro pins s σ H Q I h
  rw [evalPart_none]
  exact wpAny_pure ⟨none, H, I, .none, h⟩
theorem po_some (h : PE X e te) : PO X (some e) (tPart te) := by
  intro pins s σ H Q I hw
  rw [evalPart_some]
  refine thn (h pins s σ H _ I hw) fun u s1 ⟨x, H1, I1, r1, q1⟩ => ?_
  obtain ⟨i, rfl, q⟩ := q1
  obtain ⟨t, rfl⟩ := r1
  exact ⟨some i, H1, I1, .int i t, q⟩

noncomputable def SlR (X : Cx) (r : V → Option Int → Option Int → Hp → VK → Prop) : Prop :=
  ∀ (pins : List (Addr × Obj)) (s : Shared) (σ : St) (H : Hp) (x : V) (v vl vu : Value) (lo hi : Option Int) (sl : Addr) (Q : VK), Inv X pins σ H s → RelV x v → s.heap.IsSliceOf sl vl vu .none → IsPart vl lo → IsPart vu hi → r x lo hi H Q →
    ∃ T id, typeLookup (.type T) "__getitem__" = pure (some (.builtin id)) ∧ s.TypeIs v T ∧ wpAny (model X.prog X.w) X.A (getItem v (.ref sl)) (EP X pins σ Q) X.xe s
noncomputable def tSl (r : V → Option Int → Option Int → Hp → VK → Prop) (te : TE) (tl th : TO) : TE := fun σ H Q => te σ H fun x H1 => tl σ H1 fun l H2 => th σ H2 fun u H3 => r x l u H3 Q
theorem pe_slice {r : V → Option Int → Option Int → Hp → VK → Prop} (hr : SlR X r) (he : PE X e te) (hl : PO X lo tl) (hu : PO X hi th) : PE X (.Subscript e (.Slice lo hi none p2) pos) (tSl r te tl th) := by
  intro pins s σ H Q I h
  refine Subscript_ (thn (he pins s σ H _ I h) fun v s1 ⟨x, H1, I1, r1, q1⟩ => ?_)
  refine wpAny_Slice (thn (hl pins s1 σ H1 _ I1 q1) fun vl s2 ⟨l, H2, I2, pl, q2⟩ => thn (hu pins s2 σ H2 _ I2 q2) fun vu s3 ⟨u, H3, I3, pu, q3⟩ => ?_)
  rw [evalPart_none]
  refine wpAny_pure ?_
  have I4 : Inv X pins σ H3 { s3 with heap := s3.heap.push { cls := .type "slice", data := .fields #[vl, vu, .none] } } := I3.kept (t' := s3.toks) fun b ob q => Heap.get?_push_of_some _ q
  obtain ⟨T, id, hT, ht, hg⟩ := hr pins { s3 with heap := s3.heap.push { cls := .type "slice", data := .fields #[vl, vu, .none] } } σ H3 x v vl vu l u s3.heap.objs.size Q I4 r1 (Heap.IsSliceOf.new ..) pl pu q3
  show wpAny (model X.prog X.w) X.A (subscriptTail e (.Slice lo hi none p2) v (.ref s3.heap.objs.size)) (EP X pins σ Q) X.xe { s3 with heap := s3.heap.push { cls := .type "slice", data := .fields #[vl, vu, .none] } }
  exact tail_any (ops := [.ref s3.heap.objs.size, v]) ht hT hg (by with_unfolding_all rfl)

noncomputable def cutV (xs : List V) (lo hi : Option Int) : List V := (xs.drop (HT.sIx xs.length 0 lo)).take (HT.sIx xs.length xs.length hi - HT.sIx xs.length 0 lo)
theorem cutV_length (xs : List V) (lo hi : Option Int) : (cutV xs lo hi).length ≤ xs.length := by
  unfold cutV
  rw [List.length_take, List.length_drop]
  omega
noncomputable def rSlT (K : PySem.W.Frag) : V → Option Int → Option Int → Hp → VK → Prop := fun x lo hi H Q => ∃ a xs, x = .ref a ∧ SqT K H a xs ∧
  ¬ (HT.sIx xs.length 0 lo = 0 ∧ HT.sIx xs.length xs.length hi = xs.length) ∧ ∀ p, H p = none → Q (.ref p) (upd H p (.tup (cutV xs lo hi)))

/-! ### t < u, t + u -/
noncomputable def rCatT (K : PySem.W.Frag) : R2 := fun x y H Q => ∃ a b xs ys, x = .ref a ∧ y = .ref b ∧ SqT K H a xs ∧ SqT K H b ys ∧ xs ≠ [] ∧ xs.length + ys.length ≤ sizeLine ∧
  (ys = [] → Q (.ref a) H) ∧ (ys ≠ [] → ∀ p, H p = none → Q (.ref p) (upd H p (.tup (xs ++ ys))))
end
end L2

namespace L2
open PySem PySem.Spec PyProof.Rows

/-! ### places -/
noncomputable def ixN (n : Nat) (i : Int) : Option Nat := if 0 ≤ i then (if i < n then some i.toNat else none) else if -(n : Int) ≤ i then some (i + n).toNat else none
noncomputable def atI {α : Type} (xs : List α) (i : Int) : Option α := (ixN xs.length i).bind fun j => xs[j]?
theorem ixN_seq {n : Nat} {i : Int} {j : Nat} (h : ixN n i = some j) : seqIndex? i n = some j ∧ j < n ∧ -(n : Int) ≤ i ∧ i < n := by
  unfold ixN at h
  by_cases h0 : 0 ≤ i
  · rw [if_pos h0] at h
    by_cases h1 : i < n
    · rw [if_pos h1] at h
      have e : i.toNat = j := Option.some.inj h
      exact ⟨by rw [seqIndex_of h0 h1, e], by omega, by omega, h1⟩
    · rw [if_neg h1] at h; cases h
  · rw [if_neg h0] at h
    by_cases h1 : -(n : Int) ≤ i
    · rw [if_pos h1] at h
      have e : (i + n).toNat = j := Option.some.inj h
      exact ⟨by rw [seqIndex_neg (by omega) h1, e], by omega, h1, by omega⟩
    · rw [if_neg h1] at h; cases h
theorem atI_get {α : Type} {xs : List α} {i : Int} {v : α} (h : atI xs i = some v) : ∃ j, seqIndex? i xs.length = some j ∧ xs[j]? = some v ∧ j < xs.length ∧ -(xs.length : Int) ≤ i ∧ i < xs.length := by
  unfold atI at h
  cases e : ixN xs.length i with
  | none => rw [e] at h; cases h
  | some j =>
    rw [e] at h
    obtain ⟨h1, h2, h3, h4⟩ := ixN_seq e
    exact ⟨j, h1, h, h2, h3, h4⟩
theorem atI_nat {α : Type} {xs : List α} {j : Nat} {v : α} (h : xs[j]? = some v) : atI xs (j : Int) = some v := by
  have hj : j < xs.length := (List.getElem?_eq_some_iff.mp h).1
  have e : ixN xs.length (j : Int) = some j := by
    unfold ixN
    rw [if_pos (by omega), if_pos (by omega)]; simp
  unfold atI; rw [e]; exact h
theorem atI_last {α : Type} (xs : List α) (v : α) : atI (xs ++ [v]) (-1) = some v := by
  have hl : (xs ++ [v]).length = xs.length + 1 := by simp
  have e : ixN (xs ++ [v]).length (-1) = some xs.length := by
    unfold ixN
    rw [hl, if_neg (by decide), if_pos (by omega)]
    congr 1
    omega
  unfold atI
  rw [e]
  show (xs ++ [v])[xs.length]? = some v
  simp

/-! ### what may be subscripted -/
noncomputable def PlainIx (b : Expr) : Prop := ∀ o i, subscripted b false o i = operate [o, i] (getItem o i)
noncomputable def IxR (X : Cx) (r : R2) : Prop :=
  ∀ (value slice : Expr) (pins : List (Addr × Obj)) (s : Shared) (σ : St) (H : Hp) (x y : V) (v u : Value) (Q : VK), Inv X pins σ H s → RelV x v → RelV y u → r x y H Q →
    subscripted slice false v u = operate [v, u] (getItem v u) → wpAny (model X.prog X.w) X.A (subscriptTail value slice v u) (EP X pins σ Q) X.xe s
noncomputable def MtR (X : Cx) (id : String) (r : V → List V → Hp → VK → Prop) : Prop :=
  ∀ (pins : List (Addr × Obj)) (s : Shared) (σ : St) (H : Hp) (x : V) (xs : List V) (v : Value) (us : List Value) (Q : VK), Inv X pins σ H s → RelV x v → Vals xs us → r x xs H Q →
    wpAny (model X.prog X.w) X.A (call (.builtin id) (v :: us)) (EP X pins σ Q) X.xe s
section
variable {X : Cx} {a b : Expr} {ta tb : TE} {pos : Pos}
theorem pe_ix {r : R2} (hr : IxR X r) (ha : PE X a ta) (hb : PE X b tb) (hs : PlainIx b) : PE X (.Subscript a b pos) (tOp r ta tb) := by
  intro pins s σ H Q I h
  exact Subscript_ (binT ha hb I h fun v u s2 x y H2 I2 rx ry q => hr a b pins s2 σ H2 x y v u Q I2 rx ry q (hs _ _))

noncomputable def rIxL (K : PySem.W.Frag) : R2 := fun x y H Q => ∃ p xs i v, x = .ref p ∧ y = .int i ∧ SqL K H p xs ∧ atI xs i = some v ∧ Q v H
noncomputable def rIxT (K : PySem.W.Frag) : R2 := fun x y H Q => ∃ p xs i v, x = .ref p ∧ y = .int i ∧ SqT K H p xs ∧ atI xs i = some v ∧ Q v H
noncomputable def rIxS : R2 := fun x y H Q => ∃ z i c, x = .str z ∧ y = .int i ∧ z.length ≤ sizeLine ∧ atI z.cps.toList i = some c ∧ Q (.str ⟨#[c]⟩) H
theorem ix_list : IxR X (rIxL X.K) := by
  intro value slice pins s σ H x y v u Q I rx ry h hs
  obtain ⟨p, xs, i, z, rfl, rfl, hq, he, q⟩ := h
  cases rx
  obtain ⟨t, rfl⟩ := ry
  obtain ⟨its, r, pl, hz⟩ := I.list hq
  obtain ⟨j, h1, h2, h3, h4, h5⟩ := atI_get he
  obtain ⟨w, ew, rw'⟩ := r.get h2
  have hl := r.length
  have hn := line63
  have fin : EP X pins σ Q w s := ⟨z, H, I, rw', q⟩
  by_cases h0 : 0 ≤ i
  · have hj : i.toNat = j := by
      rw [seqIndex_of h0 h5] at h1
      exact Option.some.inj h1
    exact item_listR pl.isList h0 (by omega) (by rw [hj]; simpa using ew) fin hs
  · have hj : (i + (its.toArray.size : Int)).toNat = j := by
      rw [seqIndex_neg (by omega) h4] at h1
      rw [List.size_toArray, ← hl]
      exact Option.some.inj h1
    exact subscriptTail_builtinR (x := w) pl.isList.typeIs slot_list_getitem.lookup
      (wpAny_getItem_list_neg (Q := fun r s' => r = w ∧ EP X pins σ Q r s') pl.isList (by omega) (by rw [List.size_toArray] <;> omega) (by omega) (by rw [hj]; simpa using ew) ⟨rfl, fin⟩) hs
theorem ix_tup : IxR X (rIxT X.K) := by
  intro value slice pins s σ H x y v u Q I rx ry h hs
  obtain ⟨p, xs, i, z, rfl, rfl, hq, he, q⟩ := h
  cases rx
  obtain ⟨t, rfl⟩ := ry
  obtain ⟨its, r, pl, hz⟩ := I.tuple hq
  obtain ⟨j, h1, h2, h3, h4, h5⟩ := atI_get he
  obtain ⟨w, ew, rw'⟩ := r.get h2
  have hl := r.length
  have hn := line63
  have fin : EP X pins σ Q w s := ⟨z, H, I, rw', q⟩
  exact subscriptTail_builtinR (x := w) pl.typeIs slot_tuple_getitem.lookup
    (getItem_tuple (j := j) (Q := fun r s' => r = w ∧ EP X pins σ Q r s') pl (by omega) (by omega) (by rw [List.size_toArray, ← hl]; exact h1) (by simpa using ew) ⟨rfl, fin⟩) hs
theorem ix_str : IxR X rIxS := by
  intro value slice pins s σ H x y v u Q I rx ry h hs
  obtain ⟨z, i, c, rfl, rfl, hz, he, q⟩ := h
  obtain ⟨t, rfl⟩ := rx
  obtain ⟨t', rfl⟩ := ry
  obtain ⟨j, h1, h2, h3, h4, h5⟩ := atI_get he
  have hl : z.cps.toList.length = z.length := by simp [Str.length]
  rw [hl] at h1 h4 h5
  have hn := line63
  exact tail_any (typeIs_str s z t) slot_str_getitem.lookup (getItem_str (c := c) (by
    have e1 : decide (i < -(2 ^ 63 : Int)) = false := decide_eq_false (by omega)
    have e2 : decide (i ≥ 2 ^ 63) = false := decide_eq_false (by omega)
    rw [e1, e2, Bool.or_false]) (by rw [h1]; simpa using h2) ⟨.str ⟨#[c]⟩, H, I.tok _, ⟨_, rfl⟩, q⟩) hs

/-! ### xs[i] = v, any sign -/
noncomputable def rSetL : V → V → V → Hp → (Hp → Prop) → Prop := fun o i v H Q => ∃ p xs k j, o = .ref p ∧ i = .int k ∧ H p = some (.lst xs) ∧ ixN xs.length k = some j ∧ Q (upd H p (.lst (xs.set j v)))

/-! ### slices -/
theorem slice_bounds (lo hi : Option Int) (n : Nat) : (sliceBounds lo hi none n).1 = ((HT.sIx n 0 lo : Nat) : Int) ∧ (sliceBounds lo hi none n).2.1 = ((HT.sIx n n hi : Nat) : Int) ∧ (sliceBounds lo hi none n).2.2 = 1 := by
  refine ⟨?_, ?_, rfl⟩
  · cases lo with
    | none => simp [sliceBounds, HT.sIx]
    | some i =>
      simp only [sliceBounds, HT.sIx, Option.getD_none, show (1 : Int) > 0 by decide, if_true]
      by_cases h : i < 0
      · simp only [h, if_true] <;> omega
      · simp only [h, if_false] <;> omega
  · cases hi with
    | none => simp [sliceBounds, HT.sIx]
    | some i =>
      simp only [sliceBounds, HT.sIx, Option.getD_none, show (1 : Int) > 0 by decide, if_true]
      by_cases h : i < 0
      · simp only [h, if_true] <;> omega
      · simp only [h, if_false] <;> omega
theorem slicePick_cut (its : List Value) (lo hi : Option Int) : slicePick its.toArray lo hi none = ((its.drop (HT.sIx its.length 0 lo)).take (HT.sIx its.length its.length hi - HT.sIx its.length 0 lo)).toArray := by
  obtain ⟨h1, h2, h3⟩ := slice_bounds lo hi its.toArray.size
  unfold slicePick
  rw [h1, h2, h3]
  simp only [sliceRange_one, pick_run, List.size_toArray] <;> rfl
noncomputable def rSlL (K : PySem.W.Frag) : V → Option Int → Option Int → Hp → VK → Prop := fun x lo hi H Q => ∃ a xs, x = .ref a ∧ SqL K H a xs ∧ ∀ p, H p = none → Q (.ref p) (upd H p (.lst (cutV xs lo hi)))
theorem sl_list : SlR X (rSlL X.K) := by
  intro pins s σ H x v vl vu lo hi sl Q I rx hs pl pu h
  obtain ⟨a, xs, rfl, hx, q⟩ := h
  cases rx
  obtain ⟨its, r, ht, hz⟩ := I.list hx
  have hlen := r.length
  refine ⟨"list", _, slot_list_getitem.lookup, ht.isList.typeIs, ?_⟩
  refine wpAny_getItem_list_slice ht.isList hs pl pu .none (by simp) ?_ (by rw [List.size_toArray] <;> omega)
  rw [slicePick_cut, ← hlen]
  refine ⟨.ref s.heap.objs.size, _, I.laid (t' := s.toks) (o := .lst (cutV xs lo hi)) (fun b ob q => Heap.get?_push_of_some _ q) (Nat.le_refl _) ?_, rfl, q _ (I.hok.fresh (Nat.le_refl _))⟩
  exact ⟨Nat.le_trans (cutV_length xs lo hi) hz, _, 0, (r.drop (HT.sIx xs.length 0 lo)).take (HT.sIx xs.length xs.length hi - HT.sIx xs.length 0 lo), Heap.get?_push_size _ rfl⟩

/-! ### in, not in: flat items -/
noncomputable def flatV : V → Bool
  | .non => true
  | .bl _ => true
  | .int _ => true
  | .str _ => true
  | _ => false
noncomputable def eqV : V → V → Bool
  | .non, .non => true
  | .bl a, .bl b => a == b
  | .bl a, .int b => (if a then 1 else 0) == b
  | .int a, .bl b => a == (if b then 1 else 0)
  | .int a, .int b => a == b
  | .str a, .str b => a == b
  | _, _ => false
noncomputable def inV (x : V) (xs : List V) : Bool := xs.any fun y => eqV y x
noncomputable def rIn (K : PySem.W.Frag) (neg : Bool) : R2 := fun x y H Q => ∃ p xs, y = .ref p ∧ (SqL K H p xs ∨ SqT K H p xs) ∧ flatV x = true ∧ xs.all flatV = true ∧ Q (.bl (if neg then !inV x xs else inV x xs)) H

/-! ### len, list(x), tuple(x) of any list or tuple that is read -/
theorem call_list_of : CallR X (.type "list") (fun xs H Q => ∃ p ys, xs = [.ref p] ∧ (SqL X.K H p ys ∨ SqT X.K H p ys) ∧ ∀ l, H l = none → Q (.ref l) (upd H l (.lst ys))) := by
  intro pins s σ H xs us Q I r h
  obtain ⟨p, ys, rfl, hq, q⟩ := h
  obtain ⟨u, rfl, rx⟩ := vals1 r
  cases rx
  have fin : ∀ (its : List Value), Vals ys its → ys.length ≤ sizeLine → ∀ (h' : Heap) (c' : Nat), (∀ b o', s.heap.get? b = some o' → h'.get? b = some o') →
      h'.get? s.heap.objs.size = some { cls := .type "list", dict := none, data := .seq its.toArray c', slots := #[] } → EP X pins σ Q (.ref s.heap.objs.size) { s with heap := h' } := fun its r' hz h' c' kp e =>
    ⟨.ref s.heap.objs.size, _, I.laid (t' := s.toks) kp (Nat.le_refl _) (show ObjOk X.prog X.w _ h' _ (.lst ys) from ⟨hz, its, c', r', e⟩), rfl, q _ (I.hok.fresh (Nat.le_refl _))⟩
  rcases hq with hq | hq
  · obtain ⟨its, r', pl, hz⟩ := I.list hq
    have hlen := r'.length
    obtain ⟨o, ho, hc, n, hd⟩ := pl.isList
    exact call_list_seq p (.inl rfl) ho hc hd (fun h' c' kp e => fin its r' hz h' c' kp e) (by simp only [List.size_toArray] <;> omega)
  · obtain ⟨its, r', pl, hz⟩ := I.tuple hq
    have hlen := r'.length
    obtain ⟨o, ho, hc, n, hd⟩ := pl
    exact call_list_seq p (.inr rfl) ho hc hd (fun h' c' kp e => fin its r' hz h' c' kp e) (by simp only [List.size_toArray] <;> omega)

/-! ### the call of a builtin's method: o.m(..) -/
noncomputable def tyV (K : PySem.W.Frag) (T : String) (x : V) (H : Hp) : Prop := match x with
  | .str _ => T = "str"
  | .int _ => T = "int"
  | .ref p => (T = "list" ∧ ∃ xs, SqL K H p xs) ∨ (T = "tuple" ∧ ∃ o, K.lookup p = some o ∧ o.cls = .type "tuple" ∧ o.dict = none) ∨
      (T = "dict" ∧ ((∃ kvs, H p = some (.dK kvs)) ∨ ∃ kvs, H p = some (.dT kvs))) ∨ (T = "set" ∧ ∃ S n, H p = some (.set S n))
  | _ => False
theorem tyV_is {pins : List (Addr × Obj)} {σ : St} {H : Hp} {s : Shared} {T : String} {x : V} {v : Value} (I : Inv X pins σ H s) (r : RelV x v) (ty : tyV X.K T x H) :
    s.TypeIs v T ∧ ∀ a, v = .ref a → ∃ ob, s.heap.get? a = some ob ∧ ob.dict = none := by
  cases x with
  | str z =>
    obtain ⟨t, rfl⟩ := r
    cases (show T = "str" from ty)
    exact ⟨typeIs_str s z t, fun _ e => nomatch e⟩
  | int i =>
    obtain ⟨t, rfl⟩ := r
    cases (show T = "int" from ty)
    exact ⟨typeIs_int s i t, fun _ e => nomatch e⟩
  | ref p =>
    cases r
    rcases ty with ⟨rfl, xs, hq⟩ | ⟨rfl, o, hk, hc, hd⟩ | ⟨rfl, hk⟩ | ⟨rfl, S, n, hk⟩
    · obtain ⟨its, _, pl, _⟩ := I.list hq
      refine ⟨pl.isList.typeIs, fun a e => ?_⟩
      cases e
      obtain ⟨o, n, e, c, hd, _⟩ := pl
      exact ⟨o, e, hd⟩
    · refine ⟨⟨o, I.kIn p o hk, hc⟩, fun a e => ?_⟩
      cases e
      exact ⟨o, I.kIn _ o hk, hd⟩
    · have z : ∃ o, s.heap.get? p = some o ∧ o.ExactDict := by
        rcases hk with ⟨kvs, hk⟩ | ⟨kvs, hk⟩
        · obtain ⟨_, _, _, _, o, _, _, e, ex, _⟩ := I.hok p _ hk
          exact ⟨o, e, ex⟩
        · obtain ⟨_, _, _, _, o, _, _, e, ex, _⟩ := I.hok p _ hk
          exact ⟨o, e, ex⟩
      obtain ⟨o, e, ex⟩ := z
      refine ⟨⟨o, e, ex.1⟩, fun a e2 => ?_⟩
      cases e2
      exact ⟨o, e, ex.2.1⟩
    · obtain ⟨o, _, _, _, e, ex, _⟩ := I.hok p _ hk
      refine ⟨⟨o, e, ex.1⟩, fun a e2 => ?_⟩
      cases e2
      exact ⟨o, e, ex.2.1⟩
  | _ => exact False.elim ty
noncomputable def tBM0 (K : PySem.W.Frag) (T : String) (r : V → List V → Hp → VK → Prop) (to : TE) : TE := fun σ H Q => to σ H fun x H1 => tyV K T x H1 ∧ r x [] H1 Q
noncomputable def tBM (K : PySem.W.Frag) (T : String) (r : V → List V → Hp → VK → Prop) (to : TE) (t : TA) : TE := fun σ H Q => to σ H fun x H1 => tyV K T x H1 ∧ t σ H1 fun xs H2 => r x xs H2 Q
variable {o e : Expr} {es : List Expr} {to : TE} {t : TA} {name : Str} {apos cpos : Pos} {T id : String} {r : V → List V → Hp → VK → Prop}
theorem pe_bm0 (pa : PlainAttrs T) (slot : Slot T name id) (hty : typeOf (.builtin id) = pure (.type "method_descriptor")) (hm : MtR X id r) (ho : PE X o to)
    (hbase : attributeBase o name X.env (eval o X.env) = eval o X.env := by rfl) (hline : (apos.endLine == cpos.line) = true := by rfl) : PE X (.Call (.Attribute o name apos) [] [] cpos) (tBM0 X.K T r to) := by
  intro pins s σ H Q I h
  refine wpAny_Call_method0_late hbase hline (thn (ho pins s σ H _ I h) fun v s1 ⟨x, H1, I1, r1, ty, q1⟩ => ?_)
  obtain ⟨h1, h2⟩ := tyV_is I1 r1 ty
  exact ⟨T, id, pa, slot, hty, h1, h2, Calls.callWith_builtin rfl (PySem.evalArgs_none (hm pins s1 σ H1 x [] v [] Q I1 r1 .nil q1))⟩
theorem pe_bm (pa : PlainAttrs T) (slot : Slot T name id) (hty : typeOf (.builtin id) = pure (.type "method_descriptor")) (hm : MtR X id r) (ho : PE X o to) (ha : PA X (e :: es) t)
    (hbase : attributeBase o name X.env (eval o X.env) = eval o X.env := by rfl)
    (hfew : ((backTo cpos (starEach (e :: es) X.env)).all (fun x => !x.1) && (backToKw cpos (keywordEach [] X.env)).all (fun x => x.1.isSome)
      && decide ((e :: es).length + ([] : List Keyword).length + (if ([] : List Keyword).isEmpty then 0 else 1) < 30)) = true := by rfl)
    (hline : (apos.endLine == cpos.line) = true := by rfl) (hs : starEach (e :: es) X.env = (false, eval e X.env) :: starEach es X.env := by rfl) (hplain : (backTo cpos (starEach es X.env)).any (·.1) = false := by rfl) :
    PE X (.Call (.Attribute o name apos) (e :: es) [] cpos) (tBM X.K T r to t) := by
  intro pins s σ H Q I h
  refine wpAny_Call_method_late hbase hfew hline rfl (thn (ho pins s σ H _ I h) fun v s1 ⟨x, H1, I1, r1, ty, q1⟩ => ?_)
  obtain ⟨h1, h2⟩ := tyV_is I1 r1 ty
  refine ⟨T, id, pa, slot, hty, h1, h2, ?_⟩
  have hA := ha cpos pins s1 σ H1 _ I1 q1
  rw [hs] at hA ⊢
  refine Calls.callWith_builtin (by show (false || (backTo cpos (starEach es X.env)).any (·.1)) = false; rw [hplain] <;> rfl) (Calls.evalArgs_plain ?_)
  exact thn hA fun us s2 ⟨vs, H2, I2, r2, q2⟩ => hm pins s2 σ H2 x vs v us Q I2 r1 r2 q2
/- xs.append(e), list.index on a module's tuple .. are MtR facts of 06m -/
end
end L2

namespace L2
open PySem PySem.Spec PyProof.Rows

noncomputable def MtM (X : Cx) (id : String) (r : V → List V → Hp → VK → Prop) : Prop :=
  ∀ (pins : List (Addr × Obj)) (s : Shared) (σ : St) (H : Hp) (x : V) (xs : List V) (v : Value) (us : List Value) (Q : VK), Inv X pins σ H s → RelV x v → Vals xs us → r x xs H Q →
    wpAny (model X.prog X.w) X.A (call (.builtin id) (v :: us)) (EP X pins σ Q) X.xe s

/-! ### lists of values -/
theorem Vals.one : ∀ {x : V} {us : List Value}, Vals [x] us → ∃ u, us = [u] ∧ RelV x u
  | _, _, .cons r .nil => ⟨_, rfl, r⟩
theorem Vals.zero : ∀ {us : List Value}, Vals [] us → us = []
  | _, .nil => rfl
theorem Vals.rep {xs : List V} {us : List Value} (h : Vals xs us) : ∀ k : Nat, Vals (List.replicate k xs).flatten (List.replicate k us).flatten
  | 0 => .nil
  | k + 1 => by
    rw [List.replicate_succ, List.replicate_succ, List.flatten_cons, List.flatten_cons]
    exact Vals.append h (Vals.rep h k)
theorem foldl_rep (its : List Value) : ∀ (k : Nat) (acc : List Value),
    List.foldl (fun x1 x2 => x1 ++ x2) acc.toArray (List.replicate k its.toArray) = (acc ++ (List.replicate k its).flatten).toArray
  | 0, acc => by simp
  | k + 1, acc => by
    have e : acc.toArray ++ its.toArray = (acc ++ its).toArray := by simp
    have e2 : (acc ++ its) ++ (List.replicate k its).flatten = acc ++ (List.replicate (k + 1) its).flatten := by
      rw [List.replicate_succ, List.flatten_cons, List.append_assoc]
    rw [← e2, ← foldl_rep its k (acc ++ its), ← e, List.replicate_succ, List.foldl_cons]

section
variable {X : Cx} {pins : List (Addr × Obj)} {σ : St} {H : Hp} {s : Shared} {l b : Addr} {xs ys zs : List V}

/-! ### the two steps: a tracked list is rewritten, a new list is laid -/
theorem Inv.lset {its its' : List Value} {n : Nat} {f : Array Value → Array Value} {t' : Nat} (I : Inv X pins σ H s) (hH : H l = some (.lst xs))
    (e : s.heap.get? l = some { cls := .type "list", data := .seq its.toArray n }) (hf : f its.toArray = its'.toArray) (hv : Vals ys its') (hz : ys.length ≤ sizeLine) :
    Inv X pins σ (upd H l (.lst ys)) { s with heap := s.heap.update l (Obj.mapSeq f), toks := t' } := by
  have q := PySem.IsL.update e f
  rw [hf] at q
  refine I.write (x := l) (e := l) (by rw [hH]; exact trivial) (.inl rfl) (fun b' u hb hu => (Heap.get?_update_other s.heap (Obj.mapSeq f) (Ne.symm hb)).trans hu) ⟨_, q⟩ ?_
  exact ⟨hz, its', _, hv, q⟩
theorem Inv.lnew {its : List Value} {t' : Nat} (I : Inv X pins σ H s) (hv : Vals ys its) (hz : ys.length ≤ sizeLine) :
    Inv X pins σ (upd H s.heap.objs.size (.lst ys)) { s with heap := s.heap.push { cls := .type "list", data := .seq its.toArray }, toks := t' } :=
  I.laid (fun _ _ q => Heap.get?_push_of_some _ q) (Nat.le_refl _) ⟨hz, its, 0, hv, Heap.get?_push_size _ rfl⟩
theorem Inv.fresh (I : Inv X pins σ H s) : H s.heap.objs.size = none := I.hok.fresh (Nat.le_refl _)
theorem Inv.lstM (I : Inv X pins σ H s) (hH : H l = some (.lst xs)) : xs.length ≤ sizeLine ∧ ∃ (its : List Value) (n : Nat), Vals xs its ∧ xs.length = its.length ∧ s.heap.get? l = some { cls := .type "list", data := .seq its.toArray n } := by
  obtain ⟨z, its, n, r, e⟩ := I.hok l _ hH
  exact ⟨z, its, n, r, r.length, e⟩

theorem notLongL {n : Nat} (h : n ≤ sizeLine) : Builtin.List.listTooLong n = false := by
  unfold Builtin.List.listTooLong
  exact decide_eq_false (by omega)
end

section
variable {X : Cx}

/-! ### methods -/
noncomputable def rAppend : V → List V → Hp → VK → Prop := fun x vs H Q => ∃ l xs y, x = .ref l ∧ vs = [y] ∧ H l = some (.lst xs) ∧ xs.length < sizeLine ∧ Q .non (upd H l (.lst (xs ++ [y])))
theorem mt_append : MtM X "list.append" rAppend := by
  intro pins s σ H x vs v us Q I rx rv h
  obtain ⟨l, xs, y, rfl, rfl, hH, hz, q⟩ := h
  cases rx
  obtain ⟨u, rfl, ru⟩ := rv.one
  obtain ⟨z, its, n, r, hl, e⟩ := I.lstM hH
  refine call_meets F.slot_list_append ⟨_, e, rfl⟩ F.entry_list_append (F.args_list_append_2 _ _) (PySem.list_append l its.toArray n u (by rw [List.size_toArray]; omega)) ⟨e, ?_⟩
  refine ⟨.non, _, I.lset (its' := its ++ [u]) hH e (by simp) (r.append (.cons ru .nil)) ?_, rfl, q⟩
  rw [List.length_append, List.length_singleton]
  omega

noncomputable def rExtend : V → List V → Hp → VK → Prop := fun x vs H Q => ∃ l b xs zs, x = .ref l ∧ vs = [.ref b] ∧ H l = some (.lst xs) ∧ H b = some (.lst zs) ∧ xs.length + zs.length ≤ sizeLine ∧ Q .non (upd H l (.lst (xs ++ zs)))




noncomputable def rClear : V → List V → Hp → VK → Prop := fun x vs H Q => ∃ l xs, x = .ref l ∧ vs = [] ∧ H l = some (.lst xs) ∧ Q .non (upd H l (.lst []))
theorem mt_clear : MtM X "list.clear" rClear := by
  intro pins s σ H x vs v us Q I rx rv h
  obtain ⟨l, xs, rfl, rfl, hH, q⟩ := h
  cases rx
  have hus := rv.zero
  subst hus
  obtain ⟨z, its, n, r, hl, e⟩ := I.lstM hH
  refine call_meets F.slot_list_clear ⟨_, e, rfl⟩ F.entry_list_clear (F.args_list_clear_1 _) (AutoSeq1.list_clear_list_0 l its.toArray n (by rw [List.size_toArray]; omega)) ⟨e, ?_⟩
  exact ⟨.non, _, I.lset (its' := []) (ys := []) hH e rfl .nil (Nat.zero_le _), rfl, q⟩

/-! ### list + list, list += list, list * int -/
noncomputable def rRep : R2 := fun x y H Q => ∃ l k xs, x = .ref l ∧ y = .int k ∧ H l = some (.lst xs) ∧ -(2 ^ 63) ≤ k ∧ k < 2 ^ 63 ∧ xs.length * k.toNat ≤ sizeLine ∧
  ∀ p, H p = none → Q (.ref p) (upd H p (.lst (List.replicate k.toNat xs).flatten))
theorem len_rep {α : Type} (xs : List α) (k : Nat) : (List.replicate k xs).flatten.length = k * xs.length := by
  induction k with
  | zero => simp
  | succ k ih => rw [List.replicate_succ, List.flatten_cons, List.length_append, ih, Nat.succ_mul, Nat.add_comm]
theorem op_rep : OpR X (binaryOp .Mult) rRep := by
  intro pins s σ H x y v u Q I rx ry h
  obtain ⟨l, k, xs, rfl, rfl, hH, h1, h2, hz, q⟩ := h
  cases rx
  obtain ⟨t, rfl⟩ := ry
  obtain ⟨z, its, n, r, hl, e⟩ := I.lstM hH
  have hlen : its.toArray.size * k.toNat ≤ sizeLine := by rw [List.size_toArray, ← hl]; exact hz
  have hcap : ¬ its.toArray.size * k.toNat > (2 ^ 63 - 1) / 8 := by
    have : (sizeLine : Nat) ≤ (2 ^ 63 - 1) / 8 := by decide
    omega
  have hfit : ¬ (!Builtin.List.listFitsIndex k) = true := by
    rw [fitsIndex_both h1 h2]
    exact Bool.false_ne_true
  have hlong : ¬ Builtin.List.listTooLong (its.toArray.size * k.toNat) = true := by
    rw [notLongL hlen]
    exact Bool.false_ne_true
  have hnew : List.foldl (fun x1 x2 => x1 ++ x2) #[] (List.replicate (if its.toArray.isEmpty = true then 0 else k.toNat) its.toArray) = (List.replicate k.toNat its).flatten.toArray := by
    have f0 : ∀ m : Nat, List.foldl (fun x1 x2 => x1 ++ x2) #[] (List.replicate m its.toArray) = (List.replicate m its).flatten.toArray := fun m => by
      have := foldl_rep its m []
      rw [List.nil_append] at this
      exact this
    rw [f0]
    cases its with
    | nil => simp
    | cons a r' => rw [if_neg (by simp)]
  refine wpAny_binaryOp_repeat_ref (T := "list") (U := "int") (by decide) ⟨_, e, rfl⟩ (fun s' => typeIs_int s' k t) noFill_list_mul F.fills_int_mul F.slot_int_rmul repeat_list F.slot_int_index.lookup
    (call_meets F.slot_int_rmul (typeIs_int s k t) F.entry_int_rmul (F.args_int_rmul_2 _ _) (int___rmul___int_list k t l its.toArray n)
      ⟨e, rfl, ⟨_, e, rfl⟩, call_meets F.slot_list_mul ⟨_, e, rfl⟩ F.entry_list_mul (F.args_list_mul_2 _ _) (AutoListH.list___mul___list_int_3 l its.toArray n k t hfit hcap hlong) ⟨e, ?_⟩⟩)
  rw [hnew]
  exact ⟨.ref _, _, I.lnew (t' := s.toks) (r.rep k.toNat) (by rw [len_rep, Nat.mul_comm]; exact hz), rfl, q _ I.fresh⟩

/-! ### del xs[i] -/
end

/-! ### xs[a:b] = ys -/
section
variable {prog : Program} {w : World} {A : Around} {E : Value → Shared → Prop} {s : Shared}
set_option maxRecDepth 100000 in
end

section
variable {X : Cx}
end
end L2

namespace L2
open PySem PySem.Spec PyProof.Rows

/-! ### lists of pairs as tables -/
section
variable {κ : Type} [DecidableEq κ]
noncomputable def valV (kvs : List (κ × V)) (k : κ) : Option V := (kvs.find? fun kv => decide (kv.1 = k)).map (·.2)
noncomputable def putK (kvs : List (κ × V)) (k : κ) (v : V) : List (κ × V) :=
  if (kvs.any fun kv => decide (kv.1 = k)) = true then kvs.map (fun kv => if kv.1 = k then (kv.1, v) else kv) else kvs ++ [(k, v)]

theorem valV_pos {p : κ × V} {r : List (κ × V)} {k : κ} (e : p.1 = k) : valV (p :: r) k = some p.2 := by simp [valV, List.find?_cons, e]
theorem valV_neg {p : κ × V} {r : List (κ × V)} {k : κ} (e : ¬ p.1 = k) : valV (p :: r) k = valV r k := by simp [valV, List.find?_cons, e]
theorem valV_any (k : κ) : ∀ kvs : List (κ × V), (kvs.any fun kv => decide (kv.1 = k)) = (valV kvs k).isSome
  | [] => rfl
  | p :: r => by
    rw [List.any_cons]
    by_cases e : p.1 = k
    · simp only [valV_pos e, decide_eq_true e, Bool.true_or, Option.isSome_some]
    · rw [valV_neg e, decide_eq_false e, Bool.false_or]; exact valV_any k r
theorem valV_map (k j : κ) (y : V) : ∀ kvs : List (κ × V), valV (kvs.map fun kv => if kv.1 = k then (kv.1, y) else kv) j = (valV kvs j).map fun x => if j = k then y else x
  | [] => rfl
  | p :: r => by
    have ih := valV_map k j y r
    rw [List.map_cons]
    by_cases h : p.1 = k
    · rw [if_pos h]
      by_cases e : p.1 = j
      · rw [valV_pos (p := (p.1, y)) e, valV_pos e, Option.map_some, if_pos (e.symm.trans h)]
      · rw [valV_neg (p := (p.1, y)) e, valV_neg e, ih]
    · rw [if_neg h]
      by_cases e : p.1 = j
      · rw [valV_pos (p := p) e, valV_pos e, Option.map_some, if_neg (fun z => h (e.trans z))]
      · rw [valV_neg (p := p) e, valV_neg e, ih]
theorem valV_snoc (k j : κ) (y : V) : ∀ kvs : List (κ × V), valV kvs k = none → valV (kvs ++ [(k, y)]) j = if j = k then some y else valV kvs j
  | [], _ => by
    by_cases e : k = j
    · rw [if_pos e.symm]; exact valV_pos (p := (k, y)) e
    · rw [if_neg (fun z => e z.symm)]; exact valV_neg (p := (k, y)) e
  | p :: r, hn => by
    rw [List.cons_append]
    have hk : ¬ p.1 = k := fun z => by rw [valV_pos z] at hn; cases hn
    rw [valV_neg hk] at hn
    have ih := valV_snoc k j y r hn
    by_cases e : p.1 = j
    · rw [valV_pos e, valV_pos e, if_neg (fun z => hk (e.trans z))]
    · rw [valV_neg e, valV_neg e, ih]
theorem valV_put (kvs : List (κ × V)) (k j : κ) (y : V) : valV (putK kvs k y) j = if j = k then some y else valV kvs j := by
  unfold putK
  by_cases a : (kvs.any fun kv => decide (kv.1 = k)) = true
  · rw [if_pos a, valV_map]
    rw [valV_any] at a
    by_cases e : j = k
    · obtain ⟨x, hx⟩ := Option.isSome_iff_exists.mp a
      rw [if_pos e, e, hx, Option.map_some, if_pos rfl]
    · rw [if_neg e]
      cases valV kvs j with
      | none => rfl
      | some x => rw [Option.map_some, if_neg e]
  · rw [if_neg a]
    refine valV_snoc k j y kvs ?_
    rw [valV_any] at a
    cases q : valV kvs k with
    | none => rfl
    | some x => rw [q] at a; exact (a rfl).elim
theorem length_putK (kvs : List (κ × V)) (k : κ) (v : V) : (putK kvs k v).length ≤ kvs.length + 1 := by
  unfold putK
  split
  · rw [List.length_map]; omega
  · rw [List.length_append, List.length_cons, List.length_nil]; omega

theorem RelO.isSome_eq {o : Option V} {u : Option Value} (r : RelO o u) : o.isSome = u.isSome := by
  cases o with
  | none => cases u with
    | none => rfl
    | some _ => exact (show False from r).elim
  | some _ => cases u with
    | none => exact (show False from r).elim
    | some _ => rfl

theorem KV.val {kvs : List (κ × V)} {vs : List (κ × Value)} (r : KV kvs vs) (k : κ) : RelO (valV kvs k) (valueAt vs k) := by
  unfold KV at r
  induction r with
  | nil => exact True.intro
  | @cons p q ps qs h t ih =>
    obtain ⟨h1, h2⟩ := h
    by_cases e : p.1 = k
    · have e' : q.1 = k := h1.symm.trans e
      have b : valueAt (q :: qs) k = some q.2 := by simp [valueAt, List.find?_cons, e']
      rw [valV_pos e, b]; exact h2
    · have e' : ¬ q.1 = k := fun z => e (h1.trans z)
      have b : valueAt (q :: qs) k = valueAt qs k := by simp [valueAt, List.find?_cons, e']
      rw [valV_neg e, b]; exact ih
theorem KV.any {kvs : List (κ × V)} {vs : List (κ × Value)} (r : KV kvs vs) (k : κ) : (kvs.any fun kv => decide (kv.1 = k)) = vs.any fun kv => decide (kv.1 = k) := by
  unfold KV at r
  induction r with
  | nil => rfl
  | cons h t ih => rw [List.any_cons, List.any_cons, ih, h.1]
theorem KV.repl {kvs : List (κ × V)} {vs : List (κ × Value)} (r : KV kvs vs) (k : κ) {y : V} {u : Value} (ry : RelV y u) :
    KV (kvs.map fun kv => if kv.1 = k then (kv.1, y) else kv) (vs.map fun kv => if kv.1 = k then (kv.1, u) else kv) := by
  unfold KV at r ⊢
  induction r with
  | nil => exact .nil
  | @cons p q ps qs h t ih =>
    rw [List.map_cons, List.map_cons]
    refine .cons ?_ ih
    obtain ⟨h1, h2⟩ := h
    by_cases e : p.1 = k
    · rw [if_pos e, if_pos (h1.symm.trans e)]; exact ⟨h1, ry⟩
    · rw [if_neg e, if_neg (fun z => e (h1.trans z))]; exact ⟨h1, h2⟩
theorem KV.put {kvs : List (κ × V)} {vs : List (κ × Value)} (r : KV kvs vs) (k : κ) {y : V} {u : Value} (ry : RelV y u) : KV (putK kvs k y) (stored vs k u) := by
  unfold putK stored
  rw [r.any k]
  by_cases e : (vs.any fun kv => decide (kv.1 = k)) = true
  · rw [if_pos e, if_pos e]; exact r.repl k ry
  · rw [if_neg e, if_neg e]; exact Paired.snoc r ⟨rfl, ry⟩
theorem KV.length {kvs : List (κ × V)} {vs : List (κ × Value)} (r : KV kvs vs) : kvs.length = vs.length := Paired.length r
end


/-! ### a tracked dict, its keys ints and texts or tuples of these -/
theorem kV_is {P : Program} {w : World} {k : Key} {u : Value} (r : RelV (kV k) u) : (mixKind P w).is k u = true := by
  cases k with
  | inl i => obtain ⟨t, e⟩ := (show ∃ t, u = Value.int i t from r); subst e; exact mixKind_int P w i t
  | inr x => obtain ⟨t, e⟩ := (show ∃ t, u = Value.str x t from r); subst e; exact mixKind_str P w x t
theorem items_are {P : Program} {w : World} : ∀ {ks : List Key} {us : List Value}, Vals (ks.map kV) us → ItemsAre (mixKind P w) ks us
  | [], _, r => by rw [List.map_nil] at r; cases r; exact .nil
  | k :: ks, _, r => by
    rw [List.map_cons] at r
    cases r with
    | cons h t => exact .cons (kV_is h) (items_are t)

noncomputable abbrev KT (H : Hp) : List (List Key × V) → List (List Key × Addr × Value) → Prop := Paired fun p q => p.1 = q.1 ∧ H q.2.1 = some (.tup (p.1.map kV)) ∧ RelV p.2 q.2.2
theorem KT.val {H : Hp} {kvs : List (List Key × V)} {xs : List (List Key × Addr × Value)} (r : KT H kvs xs) (k : List Key) : RelO (valV kvs k) ((atKey xs k).map (·.2)) := by
  induction r with
  | nil => exact True.intro
  | @cons p q ps qs h t ih =>
    obtain ⟨h1, _, h2⟩ := h
    by_cases e : p.1 = k
    · have e' : q.1 = k := h1.symm.trans e
      have b : atKey (q :: qs) k = some q.2 := by simp [atKey, List.find?_cons, e']
      rw [valV_pos e, b]; exact h2
    · have e' : ¬ q.1 = k := fun z => e (h1.trans z)
      have b : atKey (q :: qs) k = atKey qs k := by simp [atKey, List.find?_cons, e']
      rw [valV_neg e, b]; exact ih
theorem KT.repl {H : Hp} {kvs : List (List Key × V)} {xs : List (List Key × Addr × Value)} (r : KT H kvs xs) (k : List Key) {y : V} {u : Value} (ry : RelV y u) :
    KT H (kvs.map fun kv => if kv.1 = k then (kv.1, y) else kv) (xs.map (putAt k u)) := by
  induction r with
  | nil => exact .nil
  | @cons p q ps qs h t ih =>
    rw [List.map_cons, List.map_cons]
    refine .cons ?_ ih
    obtain ⟨h1, h2, h3⟩ := h
    unfold putAt
    by_cases e : p.1 = k
    · rw [if_pos e, if_pos (h1.symm.trans e)]; exact ⟨h1, h2, ry⟩
    · rw [if_neg e, if_neg (fun z => e (h1.trans z))]; exact ⟨h1, h2, h3⟩
theorem KT.put {H : Hp} {kvs : List (List Key × V)} {xs : List (List Key × Addr × Value)} (r : KT H kvs xs) (k : List Key) {b : Addr} {y : V} {u : Value} (hb : H b = some (.tup (k.map kV))) (ry : RelV y u) :
    KT H (putK kvs k y) (storedH xs k b u) := by
  have e : (kvs.any fun kv => decide (kv.1 = k)) = (atKey xs k).isSome := by
    rw [valV_any, (r.val k).isSome_eq, Option.isSome_map]
  unfold putK storedH
  rw [e]
  by_cases q : (atKey xs k).isSome = true
  · rw [if_pos q, if_pos q]; exact r.repl k ry
  · rw [if_neg q, if_neg q]; exact Paired.snoc r ⟨rfl, hb, ry⟩
theorem KT.keeps {H H' : Hp} {kvs : List (List Key × V)} {xs : List (List Key × Addr × Value)} (r : KT H kvs xs) (ht : ∀ b ys, H b = some (.tup ys) → H' b = some (.tup ys)) : KT H' kvs xs :=
  Paired.mapP r fun _ _ z => ⟨z.1, ht _ _ z.2.1, z.2.2⟩

section
variable {P : Program} {w : World} {H : Hp} {h : Heap} {a : Addr}
theorem rd_of {u : HO} (ok : HOk P w H h) (e : Rd H a u) : ObjOk P w H h a u := e.ok ok
theorem dk_rd {kvs : List (Key × V)} (ok : HOk P w H h) (e : Rd H a (.dK kvs)) : kvs.length ≤ sizeLine ∧ (a == sysModules) = false ∧ ∃ vs, KV kvs vs ∧ h.DictOf (mixKind P w) a vs :=
  show ObjOk P w H h a (.dK kvs) from rd_of ok e
theorem dk_of {kvs : List (Key × V)} (ok : HOk P w H h) (e : H a = some (.dK kvs)) : kvs.length ≤ sizeLine ∧ (a == sysModules) = false ∧ ∃ vs, KV kvs vs ∧ h.DictOf (mixKind P w) a vs := dk_rd ok (.inl e)
theorem key_of {ks : List Key} (ok : HOk P w H h) (e : H a = some (.tup (ks.map kV))) : (tupleKind (mixKind P w)).is h ks a := by
  obtain ⟨_, its, r, o, h1, h2, n, h3⟩ := (show ObjOk P w H h a (.tup (ks.map kV)) from ok a _ e)
  exact ⟨o, its.toArray, n, h1, h2, h3, by simpa using items_are r⟩
theorem dt_rd {kvs : List (List Key × V)} (ok : HOk P w H h) (e : Rd H a (.dT kvs)) : kvs.length ≤ sizeLine ∧ (a == sysModules) = false ∧
    ∃ xs, KT H kvs xs ∧ h.DictOfH (tupleKind (mixKind P w)) a xs := by
  obtain ⟨z, y, xs, r, o, es, ep, h1, h2, h3, h4, h5⟩ := (show ObjOk P w H h a (.dT kvs) from rd_of ok e)
  refine ⟨z, y, xs, r, o, es, ep, h1, h2, h3, h4, fun x hx => ?_, h5⟩
  have all : ∀ {l : List (List Key × V)} {m : List (List Key × Addr × Value)}, KT H l m → ∀ x ∈ m, (tupleKind (mixKind P w)).is h x.1 x.2.1 := by
    intro l m q
    induction q with
    | nil => intro x hx; exact nomatch hx
    | @cons p q ps qs hq t ih =>
      intro x hx
      rcases List.mem_cons.mp hx with e | hx
      · subst e
        exact key_of ok (by rw [← hq.1]; exact hq.2.1)
      · exact ih x hx
  exact all r x hx
theorem dt_of {kvs : List (List Key × V)} (ok : HOk P w H h) (e : H a = some (.dT kvs)) : kvs.length ≤ sizeLine ∧ (a == sysModules) = false ∧
    ∃ xs, KT H kvs xs ∧ h.DictOfH (tupleKind (mixKind P w)) a xs := dt_rd ok (.inl e)
end

noncomputable def DGet (H : Hp) (a : Addr) (y : V) (r : Option V) : Prop :=
  (∃ kvs k, Rd H a (.dK kvs) ∧ y = kV k ∧ r = valV kvs k) ∨ ∃ kvs k b, Rd H a (.dT kvs) ∧ y = .ref b ∧ H b = some (.tup (k.map kV)) ∧ r = valV kvs k
noncomputable def DPut (H : Hp) (a : Addr) (y v : V) (H' : Hp) : Prop :=
  (∃ kvs k, H a = some (.dK kvs) ∧ y = kV k ∧ kvs.length < sizeLine ∧ H' = upd H a (.dK (putK kvs k v))) ∨
  ∃ kvs k b, H a = some (.dT kvs) ∧ y = .ref b ∧ H b = some (.tup (k.map kV)) ∧ kvs.length < sizeLine ∧ H' = upd H a (.dT (putK kvs k v))
theorem DGet.k {H : Hp} {a : Addr} {kvs : List (Key × V)} {k : Key} (e : H a = some (.dK kvs)) : DGet H a (kV k) (valV kvs k) := .inl ⟨kvs, k, .inl e, rfl, rfl⟩


section
variable {X : Cx} {pins : List (Addr × Obj)} {σ : St} {H : Hp} {s : Shared} {a : Addr} {y v : V} {u r : Value} {o : Option V} {A : Around} {E : Value → Shared → Prop}

theorem Inv.big (I : Inv X pins σ H s) : sysModules < s.heap.objs.size := by
  have h : mainGlobals < s.heap.objs.size := (I.mod.glob.keeps I.bk).lt
  exact Nat.lt_trans (by decide) h

theorem d_getItem {Q : Value → Shared → Prop} (hu : A.units + 1 < cLine) (I : Inv X pins σ H s) (g : DGet H a y (some v)) (ry : RelV y u) (h : ∀ w' s', Inv X pins σ H s' → RelV v w' → Q w' s') :
    wpAny (model X.prog X.w) A (getItem (.ref a) u) Q E s := by
  rcases g with ⟨kvs, k, e, ey, l⟩ | ⟨kvs, k, b, e, ey, eb, l⟩
  · subst ey
    obtain ⟨z, hd, vs, rel, dd⟩ := dk_rd I.hok e
    obtain ⟨w', hw, rw'⟩ := RelO.some_of (v := v) (o := valueAt vs k) (by rw [l]; exact rel.val k)
    exact wpAny_getItem_of (kV_is ry) dd.mapOf hw (h w' _ (I.tok _) rw')
  · subst ey
    cases (show u = Value.ref b from ry)
    obtain ⟨z, hd, xs, rel, dd⟩ := dt_rd I.hok e
    obtain ⟨w', hw, rw'⟩ := RelO.some_of (v := v) (o := (atKey xs k).map (·.2)) (by rw [l]; exact rel.val k)
    obtain ⟨p, hp, hp2⟩ := Option.map_eq_some_iff.mp hw
    refine wpAny_getItem_heap (tupleKind_room_in1 hu) (key_of I.hok eb) dd hp ?_
    rw [hp2]
    exact h w' _ (I.tok _) rw'
theorem d_write {h' : Heap} {t' : Nat} {ob : HO} (I : Inv X pins σ H s) (mu : Mut (H a)) (hs : Heap.SameBut a s.heap h') (he : ∃ q, h'.get? a = some q) (new : ObjOk X.prog X.w (upd H a ob) h' a ob) :
    Inv X pins σ (upd H a ob) { s with heap := h', toks := t' } :=
  I.write (x := a) (e := a) mu (.inl rfl) (fun b q hb z => (hs.2 b hb).trans z) he new
theorem dk_new {P : Program} {w : World} {H' : Hp} {h' : Heap} {kvs : List (Key × V)} {vs : List (Key × Value)} (z : kvs.length ≤ sizeLine) (hd : (a == sysModules) = false) (rel : KV kvs vs) (dd : h'.DictOf (mixKind P w) a vs) :
    ObjOk P w H' h' a (.dK kvs) := ⟨z, hd, vs, rel, dd⟩
theorem d_setItem {H' : Hp} {Q : Unit → Shared → Prop} (hu : A.units + 1 < cLine) (I : Inv X pins σ H s) (g : DPut H a y v H') (ry : RelV y u) (rv : RelV v r) (h : ∀ s', Inv X pins σ H' s' → Q () s') :
    wpAny (model X.prog X.w) A (setItem (.ref a) u r) Q E s := by
  rcases g with ⟨kvs, k, e, ey, l, eH⟩ | ⟨kvs, k, b, e, ey, eb, l, eH⟩
  · subst ey eH
    obtain ⟨z, hd, vs, rel, dd⟩ := dk_of I.hok e
    have hz : vs.length ≤ sizeLine := by rw [← rel.length]; exact z
    have hl : (putK kvs k v).length ≤ sizeLine := by have := length_putK kvs k v; omega
    refine wpAny_setItem_pairs (hsz := hz) (kV_is ry) dd fun h' dd' hs => h _ ?_
    have he : ∃ q, h'.get? a = some q := let ⟨q, _, _, hq, _⟩ := dd'; ⟨q, hq⟩
    exact d_write I (by rw [e]; exact True.intro) hs he (dk_new hl hd (rel.put k rv) dd')
  · subst ey eH
    cases (show u = Value.ref b from ry)
    obtain ⟨z, hd, xs, rel, dd⟩ := dt_of I.hok e
    have hz : xs.length ≤ sizeLine := by rw [← Paired.length rel]; exact z
    have hl : (putK kvs k v).length ≤ sizeLine := by have := length_putK kvs k v; omega
    refine wpAny_setItem_heap (hsz := hz) (tupleKind_room_in1 hu) (key_of I.hok eb) dd fun h' dd' hs => h _ ?_
    obtain ⟨q, es, ep, hq, h2, h3, h4, _, h5⟩ := dd'
    refine d_write I (by rw [e]; exact True.intro) hs ⟨q, hq⟩ ⟨hl, hd, _, (rel.put k eb rv).keeps fun c ys ec => ?_, q, es, ep, hq, h2, h3, h4, h5⟩
    rw [upd_ne (ne_of ec e (fun z => nomatch z))]
    exact ec
end

section
variable {X : Cx} {pins : List (Addr × Obj)} {σ : St} {H : Hp} {s : Shared} {a : Addr} {kvs : List (Key × V)} {k : Key} {u : Value} {A : Around} {E : Value → Shared → Prop}
end


/-! ### readings and rules -/
noncomputable def NoSl (i : Expr) : Prop := ∀ ov iv, subscripted i false ov iv = operate [ov, iv] (getItem ov iv)
theorem subD_of {prog : Program} {w : World} {A : Around} {E : Value → Shared → Prop} {s : Shared} {env : Env} {value slice : Expr} {pos : Pos} {T id : String} {Q : Value → Shared → Prop}
    (hl : typeLookup (.type T) "__getitem__" = pure (some (.builtin id))) (hs : NoSl slice)
    (h : wpAny (model prog w) A (eval value env) (fun o s₁ => wpAny (model prog w) A (eval slice env) (fun i s₂ => s₂.TypeIs o T ∧ wpAny (model prog w) A (getItem o i) Q E s₂) E s₁) E s) :
    wpAny (model prog w) A (eval (.Subscript value slice pos) env) Q E s := by
  refine Subscript_ (wpAny_mono h (fun o s₁ h₁ => wpAny_mono h₁ (fun i s₂ h₂ => ?_) fun _ _ x => x) fun _ _ x => x)
  obtain ⟨hT, h₂⟩ := h₂
  unfold subscriptTail
  refine wpAny_bind ?_
  rw [getitemInPython_of_ne hT.not_modules]
  refine wpAny_bind (wpAny_specialOf hT hl ?_)
  have fin : wpAny (model prog w) A (subscripted slice false o i) (fun r s₃ => wpAny (model prog w) A (letTemporaryGo value o r >>= fun _ => pure r) Q E s₃) E s₂ := by
    rw [hs o i]
    exact wpAny_operating (wpAny_mono h₂ (fun r s₃ h₃ => wpAny_bind (wpAny_letTemporaryGo (wpAny_pure h₃))) fun _ _ x => x)
  first
    | exact wpAny_pure (wpAny_bind fin)
    | exact wpAny_bind (wpAny_pure (wpAny_bind fin))
    | exact wpAny_bind fin

theorem dict_typeIs {X : Cx} {pins : List (Addr × Obj)} {σ : St} {H : Hp} {s : Shared} {a : Addr} {y : V} {o : Option V} (I : Inv X pins σ H s) (g : DGet H a y o) : s.TypeIs (.ref a) "dict" := by
  rcases g with ⟨kvs, k, e, _, _⟩ | ⟨kvs, k, b, e, _, _, _⟩
  · obtain ⟨_, _, vs, _, dd⟩ := dk_rd I.hok e
    exact dd.typeIs
  · obtain ⟨_, _, xs, _, dd⟩ := dt_rd I.hok e
    exact dd.typeIs

noncomputable def tDGet (td ty : TE) : TE := fun σ H Q => td σ H fun x H1 => ty σ H1 fun y H2 => ∃ a v, x = .ref a ∧ DGet H2 a y (some v) ∧ Q v H2
noncomputable def tDIn (ty td : TE) : TE := fun σ H Q => ty σ H fun y H1 => td σ H1 fun x H2 => ∃ a o, x = .ref a ∧ DGet H2 a y o ∧ Q (.bl o.isSome) H2
noncomputable def tDNotIn (ty td : TE) : TE := fun σ H Q => ty σ H fun y H1 => td σ H1 fun x H2 => ∃ a o, x = .ref a ∧ DGet H2 a y o ∧ Q (.bl (!o.isSome)) H2
noncomputable def sDPut (td ty tv : TE) : TS := fun D σ H => tv σ H fun v H1 => td σ H1 fun x H2 => ty σ H2 fun y H3 => ∃ a H4, x = .ref a ∧ DPut H3 a y v H4 ∧ D.nx σ H4

section
variable {X : Cx} {o i e value : Expr} {pos pos' tpos : Pos} {td ty tv : TE}
theorem pe_dget (hu : X.A.units + 1 < cLine) (ho : PE X o td) (hi : PE X i ty) (hs : NoSl i) : PE X (.Subscript o i pos) (tDGet td ty) := by
  intro pins s σ H Q I h
  refine subD_of PySem.F.slot_dict_getitem.lookup hs (thn (ho pins s σ H _ I h) fun u s1 ⟨x, H1, I1, rx, q1⟩ => thn (hi pins s1 σ H1 _ I1 q1) fun iv s2 ⟨y, H2, I2, ry, a, v, ex, g, q2⟩ => ?_)
  subst ex
  obtain rfl : u = Value.ref a := rx
  exact ⟨dict_typeIs I2 g, d_getItem hu I2 g ry fun w' s3 I3 rw' => ⟨v, H2, I3, rw', q2⟩⟩
theorem ps_dput (hu : X.A.units + 1 < cLine) (ho : PE X o td) (hi : PE X i ty) (hv : PE X value tv) (hs : swapsWith value (some (.Subscript o i pos')) pos.line X.env = pure false) :
    PS X (.Assign [.Subscript o i pos'] value pos) (sDPut td ty tv) := by
  intro pins s σ H D I h
  refine wpAny_Assign_Subscript (thn (hv pins s σ H _ I h) fun r s1 ⟨v, H1, I1, rv, q1⟩ => thn (ho pins s1 σ H1 _ I1 q1) fun u s2 ⟨x, H2, I2, rx, q2⟩ => thn (hi pins s2 σ H2 _ I2 q2) fun iv s3 ⟨y, H3, I3, ry, a, H4, ex, g, q3⟩ => ?_) hs
  subst ex
  obtain rfl : u = Value.ref a := rx
  exact d_setItem hu I3 g ry rv fun s4 I4 => ⟨σ, H4, I4, q3⟩
end


/-! ### displays -/
theorem dt_empty {P : Program} {w : World} {H : Hp} (h : Heap) (hb : sysModules < h.objs.size) : ObjOk P w H (h.push { cls := .type "dict", data := .dict #[] }) h.objs.size (.dT []) :=
  ⟨Nat.zero_le _, beq_eq_false_iff_ne.mpr (Ne.symm (Nat.ne_of_lt hb)), [], .nil, _, #[], 0, Heap.get?_push_size _ rfl, ⟨rfl, rfl, rfl⟩, rfl, rfl, List.nodup_nil⟩
noncomputable def tDNewK : TE := fun _ H Q => ∀ p, H p = none → Q (.ref p) (upd H p (.dK []))
noncomputable def tDNewT : TE := fun _ H Q => ∀ p, H p = none → Q (.ref p) (upd H p (.dT []))
section
variable {X : Cx} {pos : Pos}
theorem pe_dnewT : PE X (.Dict [] [] pos) tDNewT := fun pins s σ H Q I h =>
  wpAny_Dict_empty ⟨.ref s.heap.objs.size, _, I.laid (a := s.heap.objs.size) (o := .dT []) (t' := s.toks) (fun _ _ q => Heap.get?_push_of_some _ q) (Nat.le_refl _) (dt_empty s.heap I.big), rfl, h _ (I.hok.fresh (Nat.le_refl _))⟩
end


noncomputable def mergeK (kvs more : List (Key × V)) : List (Key × V) := more.foldl (fun acc kv => putK acc kv.1 kv.2) kvs
theorem KV.merge : ∀ {more : List (Key × V)} {rs : List (Key × Value)} {kvs : List (Key × V)} {vs : List (Key × Value)}, KV more rs → KV kvs vs → KV (mergeK kvs more) (merged vs rs) := by
  intro more rs kvs vs r
  unfold KV at r
  induction r generalizing kvs vs with
  | nil => intro q; exact q
  | @cons p q ps qs h t ih =>
    intro r0
    have e : KV (putK kvs p.1 p.2) (stored vs q.1 q.2) := by
      have := r0.put p.1 h.2
      rw [← h.1]; exact this
    exact ih e


/-! ### methods -/

noncomputable def IsD (H : Hp) (a : Addr) : Prop := (∃ kvs, Rd H a (.dK kvs)) ∨ ∃ kvs, Rd H a (.dT kvs)

section
variable {X : Cx} {pins : List (Addr × Obj)} {σ : St} {H : Hp} {s : Shared} {a : Addr} {y d : V} {u r : Value} {o : Option V} {A : Around} {E : Value → Shared → Prop}
end

noncomputable def tDGet1 (td ty : TE) : TE := fun σ H Q => td σ H fun x H1 => ∃ a, x = .ref a ∧ IsD H1 a ∧ ty σ H1 fun y H2 => ∃ o, DGet H2 a y o ∧ Q (o.getD .non) H2
noncomputable def tDGet2 (td ty tx : TE) : TE := fun σ H Q => td σ H fun x H1 => ∃ a, x = .ref a ∧ IsD H1 a ∧ ty σ H1 fun y H2 => tx σ H2 fun z H3 => ∃ o, DGet H3 a y o ∧ Q (o.getD z) H3
section
variable {X : Cx} {o e f : Expr} {apos cpos : Pos} {td ty tx : TE}
end

/-! ### dict(d): a copy -/
section
variable {X : Cx} {pins : List (Addr × Obj)} {σ : St} {H : Hp} {s : Shared} {a : Addr} {kvs : List (Key × V)} {A : Around} {E : Value → Shared → Prop}
end


section
variable {X : Cx} {pins : List (Addr × Obj)} {σ : St} {H : Hp} {s : Shared} {a : Addr} {y : V} {u : Value} {A : Around} {E : Value → Shared → Prop}
end
end L2

namespace Att
open PySem PySem.W PySem.Calls PyProof.Rows

/-! ### the script -/
theorem ints_of_wellAll {P : Params} {h : Heap} : ∀ (ns : List Int) (vs : List Value), WellAll P h vs (ns.map WData.int) → IntsAre vs ns := by
  intro ns
  induction ns with
  | nil =>
    intro vs w
    rw [List.map_nil] at w
    cases w
    exact .nil
  | cons n ns ih =>
    intro vs w
    rw [List.map_cons] at w
    cases w with
    | cons a b =>
      cases a
      exact .cons _ _ (ih _ b)

theorem script_of {l : OpenLaw} {n : Nat} (hn : l.most = some n) {P : Params} {h : Heap} {args : List WData} {vals : List Value}
    (hpre : l.row.toRowW.claim.pre args = true) (hwl : WellAll P h vals args) :
    ∃ a vs ns, vals = [Value.ref a] ∧ args = [WData.list (ns.map WData.int)] ∧ h.get? a = some { cls := .type "list", data := .seq vs.toArray } ∧ IntsAre vs ns ∧ ns.length ≤ n := by
  have hsh : WShape.hasAll [] args [.list .int] = true := (pre_splitW hpre).1
  have hc : l.pre.holds [] { args := args } = true := (pre_splitW hpre).2
  obtain ⟨d, r, rfl, h1, h2⟩ := hasAllW_cons hsh
  obtain rfl := hasAllW_nil h2
  obtain ⟨xs, rfl, h3⟩ := hasW_list h1
  obtain ⟨ns, rfl⟩ := items_int h3
  have hlen : ns.length ≤ n := by
    unfold OpenLaw.pre at hc
    have h4 : (WTm.not (.lt (.lit (.int (n : Int))) (.len (.arg 0)))).holds [] { args := [.list (ns.map .int)] } = true := by
      have h4 := (holds_andW hc).1
      rw [hn] at h4
      exact h4
    have h5 := condW_of h4 (w_not (w_lt w_lit (w_len_list (w_arg rfl))))
    rw [List.length_map] at h5
    refine Nat.le_of_not_lt fun q => ?_
    have q' : (n : Int) < ((ns.length : Nat) : Int) := by omega
    first
      | (rw [decide_eq_true q'] at h5; exact absurd h5 (by decide))
      | (simp at h5; omega)
  cases hwl with
  | cons w1 w2 =>
    cases w2
    cases w1 with
    | list ho hall => exact ⟨_, _, ns, rfl, rfl, ho, ints_of_wellAll ns _ hall, hlen⟩

theorem post_true (l : OpenLaw) (args : List WData) : l.row.toRowW.claim.post args (.bool true) args = true :=
  postW_of (r := l.row.toRowW) (X := (true == true))
    (show WShape.has [] (.bool true) .bool = true by first | rfl | decide | simp [WShape.has, WShape.arms, WShape.armsAll])
    (show (WTm.eq .res (.lit (.bool true))).value [] { args := args, res := some (.bool true), after := args } = some (.bool (true == true)) from w_eq_bool (w_res rfl) w_lit) rfl

/-! ### the attachment: holds_open's last premise (the goal 'hc' behind k_head) from a wpAny of the law's body -/

theorem attach_call {l : OpenLaw} {n : Nat} {q : Program} {loose : List Str} {XP : (Str → Option Value) → Heap → Prop} {YP : World → Heap → Prop} {d : DefRec}
    (hn : l.most = some n) (hdf : d.params.defaults = [])
    (call : ∀ (w : World) (s₀ s₁ : Shared) (mg mb : Str → Option Value) (fa : Addr) (o : Obj) (pm cd doc : Value) (a : Addr) (vs : List Value) (ns : List Int),
      Ground q loose [] XP w s₀ mg mb s₁.heap → YP w s₁.heap →
      s₁.heap.get? fa = some o → o.data = .func (docDef d.name d.params d.body d.scope pm cd doc) → s₁.heap.CodeRec cd d.name → mg d.name = some (.ref fa) →
      s₁.heap.get? a = some { cls := .type "list", data := .seq vs.toArray } → IntsAre vs ns → ns.length ≤ n → s₁.gens = #[] →
      codeAny (model l.prog w) callerA (.call (.ref fa) ⟨[.ref a], []⟩) (fun r s' => r = .ok (.ret (.bool true)) ∧ OldK s₁.heap s'.heap ∧ s'.os = s₁.os ∧ AllBare s'.gens) s₁) :
    WalkO q loose XP YP l.row.toRowW d [] (fun f vs => PySem.call f vs) := by
  intro w s₀ s₁ mg mb G Y fa o pm cd doc dV kV ho hd hcd hD hmg hg args vals as hpre hlay hrd hwl hlo
  obtain rfl : dV = .none := Dflts.none hD hdf
  obtain rfl : kV = .none := Dflts.noKw hD
  obtain ⟨a, vs, ns, rfl, rfl, hobj, hints, hlen⟩ := script_of hn hpre hwl
  refine enter_call (codeAny_mono (call w s₀ s₁ mg mb fa o pm cd doc a vs ns G Y ho (fd_plain hd) hcd hmg hobj hints hlen hg) fun r s' hq => ?_)
  obtain ⟨rfl, h2, h3, h4⟩ := hq
  exact ⟨.inl ⟨.bool true, .bool true, [], rfl, fun _ => rfl, .bool true, post_true l _, fun _ => ⟨List.Pairwise.nil, fun _ hm => (nomatch hm)⟩⟩, h2, h3, h4⟩


/-! ### rules over ANY heap (no ledger) from facts about the written part K: the library's own take a ledger (News) for what they write -/
section
variable {prog : Program} {w : World} {A : Around} {E : Value → Shared → Prop} {s : Shared} {K : Frag}





/-! the whole heap as the ledger: makes every rule that writes through a ledger a rule over any heap -/
noncomputable def ledger (h : Heap) (L d : Addr) : List (Addr × Obj) := (List.range h.objs.size).filterMap fun a => if a = L ∨ a = d then none else (h.get? a).map fun o => (a, o)

end
end Att

namespace L2
open PySem PySem.Spec PyProof.Rows

theorem vals_ints : ∀ {vs : List Value} {ns : List Int}, IntsAre vs ns → Vals (ns.map V.int) vs
  | _, _, .nil => .nil
  | _, _, .cons n t h => .cons ⟨t, rfl⟩ (vals_ints h)

noncomputable def Only (H : Hp) : Prop := ∀ b, H b = none ∨ ∃ o xs, H b = some (.frz o (.lst xs))

theorem law_call {P : Program} {w : World} {K : PySem.W.Frag} {mg mb : Str → Option Value} {CX : CXT} {k : Nat} {fa a : Addr} {fd : FuncData} {x : Str} {sp : Sp} {s₁ : Shared} {vs : List Value} {ns : List Int}
    (KX : K.In s₁.heap) (hns : s₁.heap.Ns mainGlobals mg) (hb : s₁.heap.Ns builtinsNs mb) (hbb : ∀ x : Str, x ≠ "__name__" → mb x = bootBuiltins x) (hlim : s₁.heap.NoLimit) (hg : s₁.gens = #[])
    (ha : s₁.heap.get? a = some { cls := .type "list", data := .seq vs.toArray }) (hi : IntsAre vs ns) (hl : ns.length ≤ sizeLine) (hr : Room k callerA)
    (F : ∀ base : Heap, K.In base → base.Ns mainGlobals mg → FnOk P w K mg base CX k fa fd [x] sp) (hbind : ∀ (s : Shared) (u : Value), BindsTo s fd ⟨[u], []⟩ [(x, u)])
    (hsp : ∀ H : Hp, Only H → SqL K H a (ns.map V.int) → sp [.ref a] H (fun v _ => v = .bl true) fun _ _ _ => False)
    (hCX : ∀ H e s', CX [] H s₁ (fun _ _ _ => False) e s' → False) :
    codeAny (model P w) callerA (.call (.ref fa) ⟨[.ref a], []⟩) (fun r s' => r = .ok (.ret (.bool true)) ∧ OldK s₁.heap s'.heap ∧ s'.os = s₁.os ∧ AllBare s'.gens) s₁ := by
  have rv := vals_ints hi
  have lenV := hi.length
  -- from an abstract heap in which nothing but the script may be tracked
  have core : ∀ H : Hp, Only H → SqL K H a (ns.map V.int) → HOk P w H s₁.heap → (∀ b, H b ≠ none → b = a) → (H a ≠ none → K.lookup a = none) →
      codeAny (model P w) callerA (.call (.ref fa) ⟨[.ref a], []⟩) (fun r s' => r = .ok (.ret (.bool true)) ∧ OldK s₁.heap s'.heap ∧ s'.os = s₁.os ∧ AllBare s'.gens) s₁ := by
    intro H hO hS hok hA hK
    have base_of : ∀ {b : Addr} {o : Obj}, s₁.heap.get? b = some o → H b = none → (hidT s₁.heap H).get? b = some o := fun e n => hidT_get e n
    have noA : ∀ {b : Addr} {o : Obj} {es : Array DictEntry} {ep : Nat}, s₁.heap.get? b = some o → o.data = .dict es ep → H b = none := fun {b o es ep} e d => by
      cases q : H b with
      | none => rfl
      | some u =>
        have e' : b = a := hA b (by rw [q]; simp)
        subst e'
        rw [ha] at e; cases e
        have d' : Data.seq vs.toArray _ = Data.dict es ep := d
        cases d'
    have nsK : ∀ {b : Addr} {m : Str → Option Value}, s₁.heap.Ns b m → (hidT s₁.heap H).Ns b m := fun {b m} ⟨o, es, ep, e, d, r⟩ => ⟨o, es, ep, base_of e (noA e d), d, r⟩
    have hKb : K.In (hidT s₁.heap H) := fun b o e => base_of (KX b o e) (by
      cases q : H b with
      | none => rfl
      | some u =>
        have e' : b = a := hA b (by rw [q]; simp)
        subst e'
        rw [hK (by rw [q]; simp)] at e; cases e)
    have hM : Mod K mg (hidT s₁.heap H) := ⟨hKb, nsK hns, ⟨mb, nsK hb, hbb⟩, let ⟨mc, h1, h2⟩ := hlim; ⟨mc, nsK h1, h2⟩⟩
    have e0 : Env0 P w K mg (hidT s₁.heap H) callerA [] s₁ H := ⟨rfl, hM, fun b o e => of_hidT e, Nat.le_of_eq (hidT_size _ _), trivial, fun b hb => absurd (show b ∈ ([] : List Addr) from hb) (by simp), hok, .of_eq hg⟩
    refine codeAny_mono ((F _ hKb (nsK hns)).run callerA [] s₁ H ⟨[.ref a], []⟩ [.ref a] [.ref a] _ _ hr e0 (hbind s₁ (.ref a)) (.cons rfl .nil) (hsp H hO hS)) fun r s' h => ?_
    cases r with
    | error e => exact (hCX H e s' h).elim
    | ok fl =>
      cases fl with
      | next => exact False.elim h
      | brk => exact False.elim h
      | cont => exact False.elim h
      | ret u =>
        obtain ⟨v, H', os, bare, un, hok', r', q⟩ := h
        have q' : v = .bl true := q
        subst q'
        obtain rfl : u = Value.bool true := r'
        refine ⟨rfl, OldK.of_keep fun b o e => ?_, os, bare⟩
        cases q : H b with
        | none => exact un.keep b o e q (by intro z; exact absurd (show b ∈ ([] : List Addr) from z) (by simp)) (by simp)
        | some u =>
          rcases hO b with z | ⟨ob, xs, z⟩
          · rw [q] at z; cases z
          · have z2 := un.frzs b ob _ z
            obtain ⟨e1, _⟩ := hok b _ z
            obtain ⟨e2, _⟩ := hok' b _ z2
            rw [e] at e1; cases e1
            exact e2
  cases hk : K.lookup a with
  | some o =>
    -- the script is one of the module's own objects
    have e := KX a o hk
    rw [ha] at e
    cases e
    refine core (fun _ => none) (fun _ => .inl rfl) (.inr ⟨_, vs.toArray, _, hk, rfl, rfl, rfl, by rw [List.size_toArray, lenV]; exact hl, by simpa using rv⟩) (fun b u z => by have z' : (none : Option HO) = some u := z; cases z') (fun b z => absurd rfl z) fun z => absurd rfl z
  | none =>
    refine core (fun b => if b = a then some (.frz { cls := .type "list", data := .seq vs.toArray } (.lst (ns.map V.int))) else none) (fun b => ?_) (.inl (.inr ⟨{ cls := .type "list", data := .seq vs.toArray }, if_pos rfl⟩)) (fun b u z => ?_) (fun b z => ?_) fun _ => hk
    · by_cases hb : b = a
      · exact .inr ⟨_, _, if_pos hb⟩
      · exact .inl (if_neg hb)
    · by_cases hb : b = a
      · have z' := (if_pos hb).symm.trans z
        cases z'
        subst hb
        exact ⟨ha, by rw [List.length_map]; exact hl, vs, _, rv, ha⟩
      · have z' := (if_neg hb).symm.trans z
        cases z'
    · by_cases hb : b = a
      · exact hb
      · exact absurd (if_neg hb) z
end L2

namespace L2
open PySem PySem.Spec PyProof.Rows


theorem walk_of {l : PySem.W.OpenLaw} {n k : Nat} {q : Program} {loose : List Str} {XP : (Str → Option Value) → Heap → Prop} {YP : World → Heap → Prop} {d : DefRec} {K : Params → PySem.W.Frag} {CX : World → CXT} {sp : World → Sp} {x : Str}
    (hn : l.most = some n) (hn2 : n ≤ sizeLine) (hdf : d.params.defaults = []) (hr : Room k callerA)
    (hY : ∀ (w : World) (h : Heap), YP w h → (K w.params).In h)
    (F : ∀ (w : World) (mg : Str → Option Value) (fa : Addr) (h : Heap), (K w.params).In h → h.Ns mainGlobals mg → mg d.name = some (.ref fa) →
      ∃ fd : FuncData, (∀ (s : Shared) (u : Value), BindsTo s fd ⟨[u], []⟩ [(x, u)]) ∧
        ∀ base : Heap, (K w.params).In base → base.Ns mainGlobals mg → FnOk l.prog w (K w.params) mg base (CX w) k fa fd [x] (sp w))
    (hsp : ∀ (w : World) (H : Hp) (a : Addr) (ns : List Int), ns.length ≤ n → Only H → SqL (K w.params) H a (ns.map V.int) → sp w [.ref a] H (fun v _ => v = .bl true) fun _ _ _ => False)
    (hCX : ∀ (w : World) (H : Hp) (s : Shared) (e : Value) (s' : Shared), CX w [] H s (fun _ _ _ => False) e s' → False) :
    PySem.W.WalkO q loose XP YP l.row.toRowW d [] (fun f vs => PySem.call f vs) := by
  refine Att.attach_call hn hdf fun w s₀ s₁ mg mb fa o pm cd doc a vs ns G Y ho hd hcd hmg hobj hints hlen hg => ?_
  have KX := hY w _ Y
  obtain ⟨fd, hb, hF⟩ := F w mg fa _ KX G.T.g hmg
  exact law_call KX G.T.g G.T.b G.T.builtins G.T.nolimit hg hobj hints (Nat.le_trans hlen hn2) hr hF hb (fun H hO hS => hsp w H a ns hlen hO hS) fun H e s' => hCX w H s₁ e s'
end L2

/-! SHORT WORDS over the layer: a def of the text, its body, what a loop and a test want. -/
namespace L2
open PySem PySem.Spec PyProof.Rows

/-! ### the text by places -/
noncomputable def inClass (s : Stmt) (j : Nat) : Stmt := match s with
  | .ClassDef _ _ _ body _ _ _ _ _ _ _ => body.getD j (.Pass ⟨0, 0, 0, 0⟩)
  | _ => .Pass ⟨0, 0, 0, 0⟩
noncomputable def defArgs (s : Stmt) : Arguments := match s with
  | .FunctionDef _ a _ _ _ _ _ _ _ _ => a
  | _ => { posonlyargs := [], args := [], vararg := none, kwonlyargs := [], kw_defaults := [], kwarg := none, defaults := [] }
noncomputable def defBody (s : Stmt) : List Stmt := match s with
  | .FunctionDef _ _ b _ _ _ _ _ _ _ => b
  | _ => []
noncomputable def defScope (s : Stmt) : Scope := match s with
  | .FunctionDef _ _ _ _ _ _ sc _ _ _ => sc
  | _ => { kind := .function, names := [], isGenerator := false, isCoroutine := false }

/-! ### no exception leaves a def -/
noncomputable abbrev CX0 : CXT := fun _ _ _ _ _ _ => False
noncomputable abbrev E0 : XK := fun _ _ _ => False
theorem pass0 {X : Cx} : Passes CX0 X E0 := fun _ _ _ _ _ _ _ h => h.elim

/-! ### a def (or method) of the text as it stands behind the top -/
set_option genInjectivity false in
structure Fun (K : PySem.W.Frag) (x qual : Str) (st : Stmt) (f : Addr) (fd : FuncData) : Prop where
  ex : ∃ (oc : Value) (od : Option Addr) (kV doc pm : Value) (an : Option Addr) (cdv ct : Value) (osl : Array (Option Value)),
    fd = PySem.W.fnOf x qual (defArgs st) (defBody st) (defScope st) .none kV doc pm an cdv ct ∧ K.lookup f = some ⟨oc, od, .func fd, osl⟩ ∧ PySem.W.codeIn K cdv qual = true
  kp : PySem.W.keepIn K (.ref f) = true
section
variable {P : Program} {w : World} {K : PySem.W.Frag} {mg : Str → Option Value} {base : Heap}
theorem Fun.ok {x qual : Str} {st : Stmt} {f : Addr} {fd : FuncData} {N ps : List Str} {k : Nat} {sp : Sp} (F : Fun K x qual st f fd) (S : FnScope N ps (defScope st)) (len : ∀ vs H Q E, sp vs H Q E → vs.length = ps.length)
    (hbody : ∀ (cdv : Value) (A : Around) (outer : List Env) (s : Shared) (H : Hp) (vs : List V) (Q : VK) (E : XK), Room k (A.deeper (envOfC qual (defScope st) s.heap.objs.size f cdv)) → sp vs H Q E →
      ∃ t, PSs (cxOf CX0 P w K mg base N qual (defScope st) f cdv A outer s H E).nox (defBody st) t ∧ t { nx := fun _ H' => Q .non H', rt := Q } (start N vs) H) : FnOk P w K mg base CX0 (k + 1) f fd ps sp := by
  obtain ⟨oc, od, kV, doc, pm, an, cdv, ct, osl, rfl, lk, hcd⟩ := F.ex
  refine fn_of lk hcd S len fun A outer s H vs Q E hr hsp => ?_
  obtain ⟨t, h, q⟩ := hbody cdv A outer s H vs Q E hr hsp
  exact ⟨t, h.nox, q⟩
theorem Fun.binds {x qual : Str} {st : Stmt} {f : Addr} {fd : FuncData} {ps : List Str} (F : Fun K x qual st f fd)
    (h : ∀ (kV doc pm : Value) (an : Option Addr) (cdv ct : Value) (us : List Value), us.length = ps.length → bindArgs (PySem.W.fnOf x qual (defArgs st) (defBody st) (defScope st) .none kV doc pm an cdv ct) ⟨us, []⟩ = pure (ps.zip us)) : Binds K fd ps [] := by
  obtain ⟨oc, od, kV, doc, pm, an, cdv, ct, osl, rfl, lk, hcd⟩ := F.ex
  exact .all (h kV doc pm an cdv ct)
theorem fun_mk {x qual : Str} {st : Stmt} {f : Addr} {oc : Value} {od an : Option Addr} {osl : Array (Option Value)} {kV doc pm cdv ct : Value} (l : K.lookup f = some ⟨oc, od, .func (PySem.W.fnOf x qual (defArgs st) (defBody st) (defScope st) .none kV doc pm an cdv ct), osl⟩)
    (c : PySem.W.codeIn K cdv qual = true) (k : PySem.W.keepIn K (.ref f) = true) : Fun K x qual st f (PySem.W.fnOf x qual (defArgs st) (defBody st) (defScope st) .none kV doc pm an cdv ct) := ⟨⟨oc, od, kV, doc, pm, an, cdv, ct, osl, rfl, l, c⟩, k⟩
end
theorem hu_of {A : Around} {k : Nat} (hr : Room k A) : A.units + 1 < cLine := Nat.lt_of_le_of_lt (Nat.add_le_add_left (by decide : 1 ≤ 64) _) hr.units

/-! ### expressions in short: the name that stands in the i-th slot -/
section
variable {X : Cx}
theorem pv (i : Nat) {x : Str} {pos : Pos} (hN : X.N[i]? = some x := by rfl) (hv : Vis X.env.scope x := by first | exact Or.inl rfl | exact Or.inr (Or.inl rfl) | exact Or.inr (Or.inr rfl)) (hd : (x == ("__debug__" : Str)) = false := by decide)
    (hcd : (x == ("__classdict__" : Str)) = false := by decide) : PE X (.Name x pos) (tVar i) := pe_var hN hv hd hcd
end

/-! ### tests -/
theorem iteT {A B : Prop} (h : A) : if true = true then A else B := by
  rw [if_pos rfl]
  exact h
theorem ite2 {c A B : Prop} [Decidable c] (h1 : c → A) (h2 : ¬ c → B) : if c then A else B := by
  by_cases h : c
  · rw [if_pos h]
    exact h1 h
  · rw [if_neg h]
    exact h2 h

/-! ### heaps -/
noncomputable def Same (H H' : Hp) : Prop := ∀ b o, H b = some o → H' b = some o
theorem Same.refl (H : Hp) : Same H H := fun _ _ h => h
theorem Same.trans {H H1 H2 : Hp} (a : Same H H1) (b : Same H1 H2) : Same H H2 := fun c o h => b c o (a c o h)
theorem Same.free {H H' : Hp} (e : Same H H') {l : Addr} (h : H' l = Option.none) : H l = Option.none := by
  cases q : H l with
  | none => rfl
  | some o =>
    rw [e l o q] at h
    cases h
theorem Same.seq {K : PySem.W.Frag} {H H' : Hp} {a : Addr} {xs : List V} (e : Same H H') (h : SqL K H a xs) : SqL K H' a xs := by
  rcases h with (h | ⟨o, h⟩) | h
  · exact .inl (.inl (e _ _ h))
  · exact .inl (.inr ⟨o, e _ _ h⟩)
  · exact .inr h

end L2

namespace L2
open PySem PySem.Spec PyProof.Rows
section
variable {X : Cx}
end
/-! ### a dict's pairs: keys that differ -/
section
variable {κ : Type} [DecidableEq κ]
end
end L2

namespace L2
open PySem PySem.Spec PyProof.Rows

/-! ### a comprehension's cells: those of the names that it takes from around it -/
noncomputable def clOf (env : Env) : List (Str × NameKind) → List (Str × Addr) → List (Str × Addr)
  | [], acc => acc
  | (n, k) :: r, acc => clOf env r (if (k == NameKind.free) = true then (n, (env.cells.lookup n).getD 0) :: acc else acc)
theorem clOf_ok {env : Env} : ∀ (ns : List (Str × NameKind)) (acc : List (Str × Addr)), (∀ x ∈ ns, x.2 = .free → ∃ c, env.cells.lookup x.1 = some c) →
    (∀ x c, acc.lookup x = some c → env.cells.lookup x = some c) → ∀ x c, (clOf env ns acc).lookup x = some c → env.cells.lookup x = some c
  | [], acc, _, ha => ha
  | (n, k) :: r, acc, hn, ha => by
    refine clOf_ok r _ (fun x hx => hn x (List.mem_cons_of_mem _ hx)) ?_
    intro x c e
    by_cases hk : (k == NameKind.free) = true
    · rw [if_pos hk] at e
      have hk' : k = .free := by simpa using hk
      obtain ⟨c', ec⟩ := hn (n, k) List.mem_cons_self hk'
      rw [List.lookup_cons] at e
      cases hx : x == n with
      | true =>
        rw [hx] at e
        have : x = n := by simpa using hx
        subst this
        have ec' : List.lookup x env.cells = some c' := ec
        rw [ec'] at e
        simp at e
        rw [← e]; exact ec'
      | false => rw [hx] at e; exact ha x c e
    · rw [if_neg hk] at e; exact ha x c e
theorem clOf_keep {env : Env} : ∀ (ns : List (Str × NameKind)) (acc : List (Str × Addr)) (x : Str), (∃ c, acc.lookup x = some c) → ∃ c, (clOf env ns acc).lookup x = some c
  | [], acc, x, h => h
  | (n, k) :: r, acc, x, h => by
    refine clOf_keep r _ x ?_
    by_cases hk : (k == NameKind.free) = true
    · rw [if_pos hk, List.lookup_cons]
      cases hx : x == n with
      | true => exact ⟨_, rfl⟩
      | false => exact h
    · rw [if_neg hk]; exact h
theorem clOf_has {env : Env} : ∀ (ns : List (Str × NameKind)) (acc : List (Str × Addr)) (x : Str), (x, NameKind.free) ∈ ns → ∃ c, (clOf env ns acc).lookup x = some c
  | [], acc, x, h => absurd h (by simp)
  | (n, k) :: r, acc, x, h => by
    rcases List.mem_cons.mp h with e | e
    · injection e with e1 e2
      subst e1 e2
      refine clOf_keep r _ x ⟨(env.cells.lookup x).getD 0, ?_⟩
      rw [if_pos (by decide)]
      simp
    · exact clOf_has r _ x e
theorem closureFor_eq {scope : Scope} {env : Env} (h : ∀ x ∈ scope.names, x.2 = .free → ∃ c, env.cells.lookup x.1 = some c) : closureFor scope env = pure (clOf env scope.names []) := by
  have key : ∀ (ns : List (Str × NameKind)) (acc : List (Str × Addr)), (∀ x ∈ ns, x.2 = .free → ∃ c, env.cells.lookup x.1 = some c) →
      (do let r ← forIn (m := Sem) ns acc (fun x r => if (x.2 == NameKind.free) = true then do let c ← cellOf env x.1; pure (ForInStep.yield ((x.1, c) :: r)) else pure (ForInStep.yield r)); pure r : Sem (List (Str × Addr))) = pure (clOf env ns acc) := by
    intro ns
    induction ns with
    | nil => intro acc _; rfl
    | cons y r ih =>
      intro acc hy
      obtain ⟨n, k⟩ := y
      rw [List.forIn_cons]
      by_cases hk : (k == NameKind.free) = true
      · have hk' : k = .free := by simpa using hk
        obtain ⟨c, ec⟩ := hy (n, k) List.mem_cons_self hk'
        have ec' : List.lookup n env.cells = some c := ec
        have e1 : cellOf env n = pure c := by unfold cellOf; rw [ec']
        simp only [hk, if_true, e1]
        have := ih ((n, c) :: acc) fun x hx => hy x (List.mem_cons_of_mem _ hx)
        show _ = pure (clOf env r (if (k == NameKind.free) = true then (n, (List.lookup n env.cells).getD 0) :: acc else acc))
        rw [if_pos hk, ec']
        exact this
      · simp only [hk]
        have := ih acc fun x hx => hy x (List.mem_cons_of_mem _ hx)
        show _ = pure (clOf env r (if (k == NameKind.free) = true then (n, (List.lookup n env.cells).getD 0) :: acc else acc))
        rw [if_neg hk]
        exact this
  simp only [closureFor]
  rw [key scope.names [] h]
  rfl
/-! ### the turns of a comprehension -/
section
variable {prog : Program} {w : World} {A : Around} {R : Result → Shared → Prop} {s : Shared}
theorem compLoop_any {elt target iter : Expr} {ifs : List Expr} {scope : Scope} {pos : Pos} {it acc : Value} {env : Env} (I : Nat → Shared → Prop)
    (turn : ∀ n s, I n s → wpAny (model prog w) A (pyNext it) (fun r s₁ => match r with
      | none => R (.ok .next) s₁
      | some v => wpAny (model prog w) A (letOwnedTupleGo target it v) (fun _ s₁' => wpAny (model prog w) A (assign target env v) (fun _ s₂ =>
          wpAny (model prog w) A (forIn ifs true fun c r => if r = true then do let ok ← isTrue c env (eval c env); pure (ForInStep.yield ok) else pure (ForInStep.yield r)) (fun ok s₃ =>
            if ok = true then wpAny (model prog w) A (eval elt env) (fun x s₄ =>
              wpAny (model prog w) A (call (.builtin "list.append") [acc, x]) (fun _ s₅ => ∃ m, m < n ∧ I m s₅) (fun _ _ => False) s₄) (fun _ _ => False) s₃
            else ∃ m, m < n ∧ I m s₃) (fun _ _ => False) s₂) (fun _ _ => False) s₁') (fun _ _ => False) s₁) (fun _ _ => False) s)
    (n : Nat) (h : I n s) :
    codeAny (model prog w) A (.compLoop (.ListComp elt [⟨target, iter, ifs, 0⟩] scope pos) 0 it acc env) R s := by
  refine codeAny_loop rfl I (fun n s hI => ?_) n h
  show wpAny _ A ((compTurn (.ListComp elt [⟨target, iter, ifs, 0⟩] scope pos) 0 it acc env).onRaise (fun x => do noteFrame x env; theTreesLotGoes x)) _ _ s
  refine wpAny_noted ?_
  rw [compTurn_list]
  refine wpAny_bind (wpAny_standAt (wpAny_bind (wpAny_mono (turn n s hI) (fun r s₁ h₁ => ?_) fun _ _ h' => h'.elim)))
  cases r with
  | none => exact wpAny_pure h₁
  | some v =>
    refine wpAny_bind (wpAny_mono h₁ (fun _ s₁' h₁' => ?_) fun _ _ h' => h'.elim)
    refine wpAny_bind (wpAny_mono h₁' (fun _ s₂ h₂ => wpAny_bind (wpAny_mono h₂ (fun ok s₃ h₃ => ?_) fun _ _ h' => h'.elim)) fun _ _ h' => h'.elim)
    cases ok with
    | false => exact wpAny_pure ⟨rfl, h₃⟩
    | true =>
      exact wpAny_bind (wpAny_bind (wpAny_mono h₃ (fun x s₄ h₄ => wpAny_bind (wpAny_mono h₄ (fun _ s₅ h₅ => wpAny_pure (wpAny_pure ⟨rfl, h₅⟩)) fun _ _ h' => h'.elim)) fun _ _ h' => h'.elim))
end

/-! ### the block's context -/
noncomputable def blk (X : Cx) (N' : List Str) (scope : Scope) (fp : List Addr) (s : Shared) (H : Hp) : Cx :=
  { X with N := N', s₀ := s, H₀ := H, env := compEnvC scope (clOf X.env scope.names []) s.heap.objs.size X.env, outer := X.stack, stack := X.stack, ex := fp, fn := fun _ => false, xe := fun _ _ => False }
noncomputable def PTs (X : Cx) (ifs : List Expr) (t : TT) : Prop :=
  ∀ (pins : List (Addr × Obj)) (s : Shared) (σ : St) (H : Hp) (Q : Bool → Hp → Prop), Inv X pins σ H s → t σ H Q →
    wpAny (model X.prog X.w) X.A (forIn ifs true fun c r => if r = true then do let ok ← isTrue c X.env (eval c X.env); pure (ForInStep.yield ok) else pure (ForInStep.yield r)) (TP X pins σ Q) X.xe s
noncomputable def tYes : TT := fun _ H Q => Q true H
theorem pts_nil {X : Cx} : PTs X [] tYes := fun _ _ _ H _ I h => wpAny_tests_nil ⟨H, I, h⟩
theorem pts_one {X : Cx} {c : Expr} {t : TT} (h : PT X c t) : PTs X [c] t := fun pins s σ H Q I q => wpAny_tests_one (h pins s σ H Q I q)
inductive Ext : St → St → Prop
  | nil : Ext [] []
  | no {σ τ : St} {a : Option V} : Ext σ τ → Ext (none :: σ) (a :: τ)
  | yes {σ τ : St} {v : V} : Ext σ τ → Ext (some v :: σ) (some v :: τ)
theorem Ext.len : ∀ {σ τ : St}, Ext σ τ → σ.length = τ.length
  | _, _, .nil => rfl
  | _, _, .no h => by simp [h.len]
  | _, _, .yes h => by simp [h.len]
theorem Ext.get : ∀ {σ τ : St}, Ext σ τ → ∀ (i : Nat) (v : V), σ[i]? = some (some v) → τ[i]? = some (some v)
  | _, _, .nil, i, v, e => e
  | _, _, .no h, 0, v, e => by simp at e
  | _, _, .no h, i + 1, v, e => by simpa using h.get i v (by simpa using e)
  | _, _, .yes h, 0, v, e => by simpa using e
  | _, _, .yes h, i + 1, v, e => by simpa using h.get i v (by simpa using e)
noncomputable def blkSt (k : Nat) (fm : List Nat) (σ : St) : St := List.replicate k none ++ fm.map fun j => (σ[j]?).join
noncomputable def tComp (k : Nat) (fm : List Nat) (wi : TI) (g : TG) (tt : TT) (te : TE) : TE := fun σ H Q => wi σ H fun J H1 => ∀ D, H1 D = none → ∃ W : Nat → Nat → List V → Hp → Prop,
  (∃ m, W 0 m [] (upd H1 D (.lst []))) ∧ ∀ i m ys H2, W i m ys H2 → H2 D = some (.lst ys) ∧ ys.length < sizeLine ∧ ((J.stop i H2 ∧ Q (.ref D) H2) ∨ (J.go i H2 ∧ ∃ N : List V → Hp → Prop, (∀ ys' H', N ys' H' → ∃ m', m' < m ∧ W (i + 1) m' ys' H') ∧ ∀ x H3, J.yld i H2 x H3 →
    g x (blkSt k fm σ) H3 fun σ3 H4 => Ext (blkSt k fm σ) σ3 ∧ tt σ3 H4 fun b H5 => if b = true then te σ3 H5 fun y H6 => H6 D = some (.lst ys) ∧ N (ys ++ [y]) (upd H6 D (.lst (ys ++ [y]))) else N ys H5))
theorem Un.tail {fs ex : List Addr} {H H' : Hp} {h h1 h2 : Heap} {C : Addr} (u : Un fs ex H H' h h1) (k : ∀ b o, b ≠ C → h1.get? b = some o → h2.get? b = some o) (hC : h.get? C = none) : Un fs ex H H' h h2 := by
  have ne : ∀ b o, h.get? b = some o → b ≠ C := fun b o e z => by rw [z, hC] at e; cases e
  exact ⟨fun b o e n hf hx => k b o (ne b o e) (u.keep b o e n hf hx), fun b o e n hf hx => let ⟨sl, q⟩ := u.slot b o e n hf hx; ⟨sl, k b _ (ne b o e) q⟩, u.free,
    fun b o e hx => let ⟨o', q⟩ := u.there b o e hx; ⟨o', k b _ (ne b o e) q⟩, u.tups, u.frzs, u.tbls⟩
theorem HOk.tail {P : Program} {w : World} {H : Hp} {h1 h2 : Heap} {C : Addr} (ok : HOk P w H h1) (k : ∀ b o, b ≠ C → h1.get? b = some o → h2.get? b = some o) (hC : H C = none) : HOk P w H h2 := fun a o e => by
  have ne : ∀ b u, H b = some u → b ≠ C := fun b u q z => by rw [z, hC] at q; cases q
  refine (ok a o e).stay (fun b u hb q => k b u ?_ q) (fun _ q => q) fun _ _ q => q
  rcases hb with z | z
  · rw [z]; exact ne a o e
  · exact ne b _ z
theorem lookup_relabel {env : Env} : ∀ {names : List (Str × NameKind)} {x : Str} {k : NameKind},
    (names.map fun (n, k) => if (k == NameKind.free && env.scope.kind == .function && env.kindOf n == some .cell) then (n, NameKind.cell) else (n, k)).lookup x = some k → ∃ k', names.lookup x = some k' ∧ (k = k' ∨ (k' = .free ∧ k = .cell))
  | [], _, _, h => by simp at h
  | (n, k0) :: r, x, k, h => by
    have ih := @lookup_relabel env r x k
    have h : List.lookup x ((if (k0 == NameKind.free && env.scope.kind == .function && env.kindOf n == some .cell) = true then (n, NameKind.cell) else (n, k0)) :: (r.map fun (n, k) => if (k == NameKind.free && env.scope.kind == .function && env.kindOf n == some .cell) then (n, NameKind.cell) else (n, k))) = some k := h
    by_cases hc : (k0 == NameKind.free && env.scope.kind == .function && env.kindOf n == some .cell) = true
    · rw [if_pos hc, List.lookup_cons] at h
      have k0f : k0 = .free := by
        simp only [Bool.and_eq_true] at hc
        simpa using hc.1.1
      rw [List.lookup_cons]
      cases hx : x == n with
      | true => rw [hx] at h; injection h with h; exact ⟨k0, rfl, .inr ⟨k0f, h.symm⟩⟩
      | false => rw [hx] at h; exact ih h
    · rw [if_neg hc, List.lookup_cons] at h
      rw [List.lookup_cons]
      cases hx : x == n with
      | true => rw [hx] at h; injection h with h; exact ⟨k0, rfl, .inl h.symm⟩
      | false => rw [hx] at h; exact ih h
set_option genInjectivity false in
structure BlkScope (X : Cx) (N' : List Str) (k : Nat) (fm : List Nat) (scope : Scope) : Prop where
  kind : scope.kind = .function
  nocell : ∀ y ∈ scope.names, y.2 ≠ .cell
  names : ∀ y ∈ scope.names, y.2 = .local → scope.names.lookup y.1 = some .local
  free : ∀ y ∈ scope.names, y.2 = .free → X.env.kindOf y.1 = some .cell ∨ X.env.kindOf y.1 = some .free
  len : N'.length = k + fm.length
  slots : ∀ i x, k ≤ i → N'[i]? = some x → scope.names.lookup x = some .free ∧ ∃ j, fm[i - k]? = some j ∧ X.N[j]? = some x
section
variable {X : Cx} {pins : List (Addr × Obj)} {σ : St} {H : Hp} {s : Shared}
theorem Inv.block {N' : List Str} {k : Nat} {fm : List Nat} {scope : Scope} {fp : List Addr} {h' : Heap} {tk : Nat} (B : BlkScope X N' k fm scope) (I : Inv X pins σ H s) (hf : ∀ b ∈ fp, FpOk X pins H b) (ho : ∀ b ∈ fp, ∃ o, s.heap.get? b = some o)
    (ns : h'.Ns s.heap.objs.size (fun _ => none)) (kp : ∀ b o, s.heap.get? b = some o → h'.get? b = some o) : Inv (blk X N' scope fp s H) [] (blkSt k fm σ) H { s with heap := h', toks := tk } := by
  have hfree : ∀ x ∈ scope.names, x.2 = .free → ∃ c, X.env.cells.lookup x.1 = some c := fun x hx hk => I.ok.has x.1 (B.free x hx hk)
  have hcl : ∀ x c, (clOf X.env scope.names []).lookup x = some c → X.env.cells.lookup x = some c := clOf_ok scope.names [] hfree fun x c e => by simp at e
  have stk : ∀ b ∈ frs X.stack, b ∈ X.env.locals :: X.fs := I.stkSub
  have hC : H s.heap.objs.size = none := I.hok.fresh (Nat.le_refl _)
  have ok : (blk X N' scope fp s H).Ok := {
    mod := I.ok.mod
    kind := B.kind
    glob := I.ok.glob
    blt := I.ok.blt
    above := Nat.le_refl _
    inj := fun x y c h1 h2 => I.ok.inj x y c (hcl x c h1) (hcl y c h2)
    has := fun x hx => by
      have hx : (relabel scope X.env).names.lookup x = some .cell ∨ (relabel scope X.env).names.lookup x = some .free := hx
      have : scope.names.lookup x = some .free := by
        rcases hx with e | e
        · obtain ⟨k', e1, e2⟩ := lookup_relabel e
          rcases e2 with e2 | ⟨e2, _⟩
          · subst e2; exact absurd rfl (B.nocell _ (PySem.mem_of_lookup e1))
          · rw [e1, e2]
        · obtain ⟨k', e1, e2⟩ := lookup_relabel e
          rcases e2 with e2 | ⟨e2, e3⟩
          · rw [e1, e2]
          · rw [e1, e2]
      exact clOf_has scope.names [] x (PySem.mem_of_lookup this)
    cab := fun x c e => by cases e
    hd := I.ok.hd
    frames := I.ok.frames
    stk := .inl rfl
    exf := fun b hb => ⟨fun z => by
        obtain ⟨o, e⟩ := ho b hb
        have hlt := Heap.lt_size e
        rw [z] at hlt
        exact Nat.lt_irrefl _ hlt, fun x c e => (hf b hb).2.2.2.2.1 x c (hcl x c e)⟩
    bs := I.bs
    bsz := Nat.le_trans I.ok.bsz I.sz
    noex := fun b o e hb => by
      rcases (hf b hb).2.2.2.1 with z | z
      · exact I.ok.noex b o e z
      · exact absurd (Nat.lt_of_lt_of_le (Heap.lt_size e) (Nat.le_trans I.ok.bsz z)) (Nat.lt_irrefl _)
    exfs := fun b hb z => (List.mem_cons.mp (stk b z)).elim (hf b hb).2.1 (hf b hb).2.2.1
    funs := I.stack
    frf := I.stkFree }
  refine ⟨ok, rfl, I.bare, Un.kept kp, ⟨_, ns, fun i x v h1 h2 h3 => ?_⟩, fun x c e => ?_, hC, fun x c e => I.freeC x c (hcl x c e), fun p hp => ?_, I.hok.kept kp, ?_⟩
  · have hk : k ≤ i := by
      refine Nat.le_of_not_lt fun z => ?_
      unfold blkSt at h2
      rw [List.getElem?_append_left (by simpa using z), List.getElem?_replicate, if_pos z] at h2
      cases h2
    obtain ⟨e1, j, e2, e3⟩ := B.slots i x hk h1
    have e4 : σ[j]? = some (some v) := by
      unfold blkSt at h2
      rw [List.getElem?_append_right (by simpa using hk), List.length_replicate, List.getElem?_map, e2] at h2
      have h2 : some (σ[j]?).join = some (some v) := h2
      injection h2 with h2
      cases e : σ[j]? with
      | none => rw [e] at h2; cases h2
      | some o => rw [e] at h2; rw [show o = some v from h2]
    have kf := B.free (x, .free) (PySem.mem_of_lookup e1) rfl
    obtain ⟨m, hn, hl⟩ := I.loc
    obtain ⟨u, ru, lk⟩ := hl j x v e3 e4 (.inr kf)
    refine ⟨u, ru, .inr ⟨?_, ?_⟩⟩
    · have h3 : (relabel scope X.env).names.lookup x = some .local ∨ (relabel scope X.env).names.lookup x = some .cell ∨ (relabel scope X.env).names.lookup x = some .free := h3
      rcases h3 with z | z
      · obtain ⟨k', q1, q2⟩ := lookup_relabel z
        rw [e1] at q1
        injection q1 with q1
        subst q1
        rcases q2 with q2 | ⟨_, q2⟩ <;> cases q2
      · exact z
    · obtain ⟨c, hc⟩ := clOf_has (env := X.env) scope.names [] x (PySem.mem_of_lookup e1)
      refine ⟨c, hc, ?_⟩
      rcases lk with ⟨z, _⟩ | ⟨_, c', ec, ic⟩
      · rcases kf with y | y <;> (rw [z] at y; cases y)
      · rw [hcl x c hc] at ec
        injection ec with ec
        subst ec
        exact ic.keeps kp
  · obtain ⟨v, q⟩ := I.cell x c (hcl x c e)
    exact ⟨v, q.keeps kp⟩
  · obtain ⟨p1, p2, p3, p4, p5⟩ := I.pin p ((List.mem_append.mp hp).elim (fun z => List.mem_append_left _ z) fun z => absurd z (by simp))
    refine ⟨kp _ _ p1, p2, fun z => ?_, fun z => (List.mem_cons.mp (stk _ z)).elim p3 p4, p5⟩
    have hlt := Heap.lt_size p1
    rw [z] at hlt
    exact Nat.lt_irrefl _ hlt
  · show (blkSt k fm σ).length = N'.length
    unfold blkSt
    rw [List.length_append, List.length_replicate, List.length_map, B.len]
theorem blk_loop {X : Cx} {elt iter tg : Expr} {ifs : List Expr} {scope : Scope} {pos : Pos} {g : TG} {tt : TT} {te : TE} {J : It} {fp : List Addr} {it D : Addr} {tn : Nat → Heap → Prop} {σ0 : St} {H3 : Hp} {s4 : Shared} {Q : VK} {R : Result → Shared → Prop} {W : Nat → Nat → List V → Hp → Prop} {m0 : Nat}
    (hx : X.xe = fun _ _ => False) (hc : X.calm = true) (T : Turn X.prog X.w X.K tg J fp it tn) (stat : ∀ {H' : Hp}, (∀ b ∈ fp, H' b = none) → ∀ b ∈ fp, FpOk X [] H' b) (hg : PG X tg g) (ht : PTs X ifs tt) (he : PE X elt te)
    (turn : ∀ i m ys H2, W i m ys H2 → H2 D = some (.lst ys) ∧ ys.length < sizeLine ∧ ((J.stop i H2 ∧ Q (.ref D) H2) ∨ (J.go i H2 ∧ ∃ N : List V → Hp → Prop, (∀ ys' H', N ys' H' → ∃ m', m' < m ∧ W (i + 1) m' ys' H') ∧ ∀ x H3, J.yld i H2 x H3 →
      g x σ0 H3 fun σ3 H4 => Ext σ0 σ3 ∧ tt σ3 H4 fun b H5 => if b = true then te σ3 H5 fun y H6 => H6 D = some (.lst ys) ∧ N (ys ++ [y]) (upd H6 D (.lst (ys ++ [y]))) else N ys H5)))
    (I4 : Inv X [] σ0 H3 s4) (st4 : tn 0 s4.heap) (fr4 : ∀ b ∈ fp, H3 b = none) (w4 : W 0 m0 [] H3)
    (hR : ∀ H' s', Inv X [] σ0 H' s' → Q (.ref D) H' → R (.ok .next) s') :
    codeAny (model X.prog X.w) X.A (.compLoop (.ListComp elt [⟨tg, iter, ifs, 0⟩] scope pos) 0 (.ref it) (.ref D) X.env) R s4 := by
  refine compLoop_any (fun n s' => ∃ i ys H', Inv X [] σ0 H' s' ∧ tn i s'.heap ∧ (∀ b ∈ fp, H' b = none) ∧ W i n ys H') ?_ m0 ⟨0, [], H3, I4, st4, fr4, w4⟩
  rintro n s5 ⟨i, ys, H5, I5, st5, fr5, w5⟩
  obtain ⟨hD, hl, cs⟩ := turn i n ys H5 w5
  rcases cs with ⟨stop, q⟩ | ⟨go, N, hN, step⟩
  · refine thn (T.done X rfl rfl rfl hc i [] s5 σ0 H5 _ I5 (stat fr5) st5 stop) fun r s6 ⟨hr, I6⟩ => ?_
    subst hr
    exact hR H5 s6 I6 q
  · refine thn (T.item X rfl rfl rfl hc i [] s5 σ0 H5 _ I5 (stat fr5) st5 go) fun r s6 ⟨u, hr, h6⟩ => ?_
    subst hr
    refine thn h6 fun _ s7 ⟨x, H7, I7, r7, y7, st7, fr7⟩ => ?_
    have I7' := I7.pinned (stat fr7) (T.obj _ _ st7)
    have again : ∀ {σ' : St} {H' : Hp} {s' : Shared}, Ext σ0 σ' → Inv X ([] ++ pinsAt fp s7.heap) σ' H' s' → Inv X [] σ0 H' s' ∧ tn (i + 1) s'.heap ∧ ∀ b ∈ fp, H' b = none := fun {σ' H' s'} ex I' => by
      refine ⟨I'.unpinned.weak ex.len ex.get, T.keep _ _ _ st7 fun b hb o e => (I'.pin (b, o) (List.mem_append_right _ (List.mem_append_right _ (mem_pinsAt hb e)))).1, fun b hb => ?_⟩
      obtain ⟨o, e, d⟩ := T.obj _ _ st7 b hb
      exact (I'.pin (b, o) (List.mem_append_right _ (List.mem_append_right _ (mem_pinsAt hb e)))).2.1
    have w8 := hg _ s7 σ0 H7 x u _ I7' r7 (step x H7 y7)
    rw [hx] at w8
    refine thn w8 fun _ s8 ⟨σ8, H8, I8, ex8, q8⟩ => ?_
    have w9 := ht _ s8 σ8 H8 _ I8 q8
    rw [hx] at w9
    refine thn w9 fun ok s9 ⟨H9, I9, q9⟩ => ?_
    cases ok with
    | false =>
      obtain ⟨m', hm, w'⟩ := hN _ _ q9
      obtain ⟨a1, a2, a3⟩ := again ex8 I9
      exact ⟨m', hm, i + 1, ys, H9, a1, a2, a3, w'⟩
    | true =>
      have w10 := he _ s9 σ8 H9 _ I9 q9
      rw [hx] at w10
      refine thn w10 fun y s10 ⟨yv, H10, I10, r10, hD10, n10⟩ => ?_
      obtain ⟨m', hm, w'⟩ := hN _ _ n10
      have w11 := mt_append (X := X) _ s10 σ8 H10 (.ref D) [yv] (.ref D) [y] (fun v H' => v = .non ∧ H' = upd H10 D (.lst (ys ++ [yv]))) I10 rfl (.cons r10 .nil) ⟨D, ys, yv, rfl, rfl, hD10, hl, rfl, rfl⟩
      rw [hx] at w11
      refine thn w11 fun _ s11 ⟨_, H11, I11, _, _, e11⟩ => ?_
      subst e11
      obtain ⟨a1, a2, a3⟩ := again ex8 I11
      exact ⟨m', hm, i + 1, _, _, a1, a2, a3, w'⟩
theorem pe_comp {elt iter tg : Expr} {ifs : List Expr} {scope : Scope} {pos : Pos} {N' : List Str} {k : Nat} {fm : List Nat} {wi : TI} {g : TG} {tt : TT} {te : TE} (B : BlkScope X N' k fm scope) (hc : X.calm = true) (hi : PI X tg iter wi)
    (hb : ∀ fp s H, PG (blk X N' scope fp s H) tg g ∧ PTs (blk X N' scope fp s H) ifs tt ∧ PE (blk X N' scope fp s H) elt te)
    (hs : ∀ x, foldedSetIterable iter X.env x = pure x := by intro _; rfl) : PE X (.ListComp elt [⟨tg, iter, ifs, 0⟩] scope pos) (tComp k fm wi g tt te) := by
  intro pins s σ H Q I h
  have hfree : ∀ x ∈ scope.names, x.2 = .free → ∃ c, X.env.cells.lookup x.1 = some c := fun x hx hk => I.ok.has x.1 (B.free x hx hk)
  rw [eval_ListComp]
  refine wpAny_comprehension_free (use := none) rfl hs (closureFor_eq hfree) B.kind B.names (thn (hi pins s σ H _ I h) fun v s1 h1 => thn h1 fun itv s2 h2 => ?_)
  obtain ⟨it, fp, tn, J, H2, e, I2, T, st2, f2, h2⟩ := h2
  subst e
  obtain ⟨W, ⟨m0, w0⟩, turn⟩ := h2 s2.heap.objs.size I2.fresh
  refine wpAny_newObj_type (wpAny_newFunctionEnv B.nocell (by intro y hy; simp at hy) (fun h4 hns4 hsb4 => ?_) B.kind)
  have I3 := I2.lnew (its := []) (ys := []) (t' := s2.toks) .nil (Nat.zero_le _)
  have hf3 : ∀ b ∈ fp, FpOk X pins (upd H2 s2.heap.objs.size (.lst [])) b := fun b hb => by
    obtain ⟨o, e, _⟩ := T.obj _ _ st2 b hb
    refine ⟨?_, (f2 b hb).2⟩
    rw [upd_ne (fun z => Nat.lt_irrefl _ (z ▸ Heap.lt_size e))]
    exact (f2 b hb).1
  have ho3 : ∀ b ∈ fp, ∃ o, (s2.heap.push { cls := .type "list", data := .seq ([] : List Value).toArray }).get? b = some o := fun b hb => by
    obtain ⟨o, e, _⟩ := T.obj _ _ st2 b hb
    exact ⟨o, Heap.get?_push_of_some _ e⟩
  have kp4 : ∀ b o, (s2.heap.push { cls := .type "list", data := .seq ([] : List Value).toArray }).get? b = some o → h4.get? b = some o := fun b o e =>
    hsb4.extBut b o (fun z => Nat.lt_irrefl _ (z ▸ Heap.lt_size e)) (Heap.get?_push_of_some _ e)
  have I4 := I3.block (fp := fp) (h' := h4) (tk := s2.toks + ([] : List (Str × Value)).length) B hf3 ho3 hns4 kp4
  generalize hs3 : ({ s2 with heap := s2.heap.push { cls := .type "list", data := .seq ([] : List Value).toArray }, toks := s2.toks } : Shared) = s3 at *
  obtain ⟨hg, ht, he⟩ := hb fp s3 (upd H2 s2.heap.objs.size (.lst []))
  have st4 : tn 0 h4 := T.keep _ _ _ st2 fun b hb o e => kp4 b o (Heap.get?_push_of_some _ e)
  have stat : ∀ {H' : Hp}, (∀ b ∈ fp, H' b = none) → ∀ b ∈ fp, FpOk (blk X N' scope fp s3 (upd H2 s2.heap.objs.size (.lst []))) [] H' b := fun {H'} hn b hb => by
    obtain ⟨f0, f1, f3, f4, f5, f6⟩ := hf3 b hb
    obtain ⟨g1, g2⟩ := I4.ok.exf b hb
    exact ⟨hn b hb, g1, I4.ok.exfs b hb, .inl hb, g2, fun p hp => f6 p ((List.mem_append.mp hp).elim (fun z => List.mem_append_left _ z) fun z => absurd z (by simp))⟩
  have loop : codeAny (model X.prog X.w) X.A (.compLoop (.ListComp elt [⟨tg, iter, ifs, 0⟩] scope pos) 0 (.ref it) (.ref s2.heap.objs.size) (compEnvC scope (clOf X.env scope.names []) s3.heap.objs.size X.env))
      (compPost (model X.prog X.w) X.A X.xe none (EP X pins σ Q) (.ref s2.heap.objs.size) s3.heap.objs.size) { s3 with heap := h4, toks := s2.toks + ([] : List (Str × Value)).length } := by
    refine blk_loop (X := blk X N' scope fp s3 (upd H2 s2.heap.objs.size (.lst []))) (D := s2.heap.objs.size) (Q := Q) (W := W) (m0 := m0) rfl hc T stat hg ht he turn I4 st4 (fun b hb => (hf3 b hb).1) w0 ?_
    intro H' s' I' q
    obtain ⟨m, hn, _⟩ := I'.loc
    refine ⟨m, hn, fun h'' hs'' => ?_⟩
    have hC : s3.heap.get? s3.heap.objs.size = none := by
      cases e : s3.heap.get? s3.heap.objs.size with
      | none => rfl
      | some o => exact absurd (Heap.lt_size e) (Nat.lt_irrefl _)
    have u : Un (frs X.stack) fp (upd H2 s2.heap.objs.size (.lst [])) H' s3.heap h'' := Un.tail I'.base (fun b o hb e => hs''.extBut b o hb e) hC
    refine ⟨.ref s2.heap.objs.size, H', ?_, rfl, q⟩
    refine I3.call' (s' := { s' with heap := h'' }) (ch := fp) I'.os u (I'.hok.tail (fun b o hb e => hs''.extBut b o hb e) I'.free) I'.bare fun b hb => ?_
    obtain ⟨f0, f1, f3, f4, f5, f6⟩ := hf3 b hb
    exact ⟨f4, f1, f5, f6⟩
  subst hs3
  exact codeAny_compStart_list loop (T.self X.A 0 _ _ _ st4 loop)
end
end L2

namespace L2
open PySem PySem.Spec PyProof.Rows

/-! ### the signs of a text, walked -/
noncomputable def Its (z : Str) : It := ⟨fun i _ => i < z.cps.size, fun i H x H' => H' = H ∧ ∃ c, z.cps[i]? = some c ∧ x = .str ⟨#[c]⟩, fun i _ => z.cps.size ≤ i⟩
section
variable {X : Cx} {tg : Expr}
noncomputable def iStr (tl : TE) : TI := fun σ H R => tl σ H fun x H1 => ∃ z, x = .str z ∧ R (Its z) H1
end

/-! ### a part of a text -/
section
variable {X : Cx}
noncomputable def rSlS : V → Option Int → Option Int → Hp → VK → Prop := fun x lo hi H Q => ∃ z, x = .str z ∧ z.length ≤ sizeLine ∧ Q (.str (Txt.slice z lo hi)) H
theorem sl_str : SlR X rSlS := by
  intro pins s σ H x v vl vu lo hi sl Q I rx hs pl pu h
  obtain ⟨z, rfl, hz, q⟩ := h
  obtain ⟨t, rfl⟩ := rx
  refine ⟨"str", _, F.slot_str_getitem.lookup, typeIs_str _ _ _, ?_⟩
  have fin : ∀ t' k, EP X pins σ Q (.str (Txt.slice z lo hi) t') { s with toks := k } := fun t' k => ⟨.str (Txt.slice z lo hi), H, I.tok k, ⟨t', rfl⟩, q⟩
  obtain ⟨o, ho, hc, hd⟩ := hs
  cases pl with
  | none =>
    cases pu with
    | none => exact wpAny_getItem_str_slice (l := none) (u := none) (st := none) ⟨o, ho, hc, hd⟩ rfl (post_val_or_str ⟨Nat.le_trans (Txt.slice_le z _ _) hz, fun t' k => fin t' k⟩)
    | int j uj => exact wpAny_getItem_str_slice (l := none) (u := some (j, uj)) (st := none) ⟨o, ho, hc, hd⟩ rfl (post_val_or_str ⟨Nat.le_trans (Txt.slice_le z _ _) hz, fun t' k => fin t' k⟩)
  | int i ui =>
    cases pu with
    | none => exact wpAny_getItem_str_slice (l := some (i, ui)) (u := none) (st := none) ⟨o, ho, hc, hd⟩ rfl (post_val_or_str ⟨Nat.le_trans (Txt.slice_le z _ _) hz, fun t' k => fin t' k⟩)
    | int j uj => exact wpAny_getItem_str_slice (l := some (i, ui)) (u := some (j, uj)) (st := none) ⟨o, ho, hc, hd⟩ rfl (post_val_or_str ⟨Nat.le_trans (Txt.slice_le z _ _) hz, fun t' k => fin t' k⟩)

/-! ### all of a list of truths -/
noncomputable def rAll (K : PySem.W.Frag) : List V → Hp → VK → Prop := fun xs H Q => ∃ (a : Addr) (bs : List Bool), xs = [.ref a] ∧ SqL K H a (bs.map V.bl) ∧ Q (.bl (bs.all id)) H

/-! ### isinstance -/
noncomputable def rIsi (K : PySem.W.Frag) : List V → Hp → VK → Prop := fun xs H Q => ∃ x n t b, xs = [x, .ty n] ∧ TyOf K H x t ∧ PySem.W.kitOne K t (.type n) = some b ∧ Q (.bl b) H
theorem call_isi : CallR X (.builtin "isinstance") (rIsi X.K) := by
  intro pins s σ H xs us Q I r h
  obtain ⟨x, n, t, b, rfl, ty, e, q⟩ := h
  obtain ⟨u, u2, rfl, ru, ru2⟩ := vals2 r
  cases ru2
  exact isinst_ok I ru ty e fun tk => ⟨.bl b, H, I.tok tk, rfl, q⟩

/-! ### list + list, lists that are read -/
noncomputable def rCatS (K : PySem.W.Frag) : R2 := fun x y H Q => ∃ l b xs zs, x = .ref l ∧ y = .ref b ∧ SqL K H l xs ∧ SqL K H b zs ∧ xs.length + zs.length ≤ sizeLine ∧ ∀ p, H p = none → Q (.ref p) (upd H p (.lst (xs ++ zs)))
theorem op_catS : OpR X (binaryOp .Add) (rCatS X.K) := by
  intro pins s σ H x y v u Q I rx ry h
  obtain ⟨l, b, xs, zs, rfl, rfl, hH, hB, hz, q⟩ := h
  cases rx
  cases ry
  obtain ⟨vs, r, p, z⟩ := I.list hH
  obtain ⟨ws, r2, p2, z2⟩ := I.list hB
  have l1 := r.length
  have l2 := r2.length
  obtain ⟨⟨cls, dd, data, sl⟩, n, ho, hc, hdd, hd⟩ := p
  obtain ⟨⟨cls2, dd2, data2, sl2⟩, n2, ho2, hc2, hdd2, hd2⟩ := p2
  simp only at hc hd hc2 hd2
  subst hc hd hc2 hd2
  have e : vs.toArray ++ ws.toArray = (vs ++ ws).toArray := by simp
  refine concat_meets ⟨_, ho, rfl⟩ ⟨_, ho2, rfl⟩ noFill_list_add seq_list_add PySem.F.slot_list_add PySem.F.entry_list_add (PySem.F.args_list_add_2 _ _) (list_addW l b vs.toArray ws.toArray n n2 dd dd2 sl sl2 (by simp; omega)) ⟨ho, ho2, ?_⟩
  rw [e]
  exact ⟨.ref _, _, I.lnew (t' := s.toks) (r.append r2) (by rw [List.length_append]; omega), rfl, q _ I.fresh⟩
end
end L2

namespace L2
open PySem PySem.Spec PyProof.Rows
/-! ### a comprehension's scope, by lists -/
inductive Slots (X : Cx) (scope : Scope) : List Str → List Nat → Prop
  | nil : Slots X scope [] []
  | cons {x : Str} {j : Nat} {xs : List Str} {js : List Nat} (h1 : scope.names.lookup x = some .free) (h2 : X.env.kindOf x = some .cell ∨ X.env.kindOf x = some .free) (h3 : X.N[j]? = some x) (r : Slots X scope xs js) : Slots X scope (x :: xs) (j :: js)
theorem Slots.len {X : Cx} {scope : Scope} : ∀ {xs : List Str} {js : List Nat}, Slots X scope xs js → xs.length = js.length
  | _, _, .nil => rfl
  | _, _, .cons _ _ _ r => by simp [r.len]
theorem Slots.kind {X : Cx} {scope : Scope} : ∀ {xs : List Str} {js : List Nat}, Slots X scope xs js → ∀ x ∈ xs, X.env.kindOf x = some .cell ∨ X.env.kindOf x = some .free
  | _, _, .nil, x, h => absurd h (by simp)
  | _, _, .cons _ h2 _ r, x, h => by
    rcases List.mem_cons.mp h with e | e
    · subst e; exact h2
    · exact r.kind x e
theorem Slots.get {X : Cx} {scope : Scope} : ∀ {xs : List Str} {js : List Nat}, Slots X scope xs js → ∀ (i : Nat) (x : Str), xs[i]? = some x → scope.names.lookup x = some .free ∧ ∃ j, js[i]? = some j ∧ X.N[j]? = some x
  | _, _, .nil, i, x, h => by simp at h
  | _, _, .cons h1 _ h3 r, 0, x, h => by
    simp only [List.getElem?_cons_zero, Option.some.injEq] at h
    subst h
    exact ⟨h1, _, by simp, h3⟩
  | _, _, .cons _ _ _ r, i + 1, x, h => by simpa using r.get i x (by simpa using h)
theorem blk_mk {X : Cx} {own fr : List Str} {fm : List Nat} {scope : Scope} (kind : scope.kind = .function) (h1 : ∀ y ∈ scope.names, y.2 ≠ .cell) (h2 : ∀ y ∈ scope.names, y.2 = .local → scope.names.lookup y.1 = some .local)
    (h3 : ∀ y ∈ scope.names, y.2 = .free → y.1 ∈ fr) (S : Slots X scope fr fm) : BlkScope X (own ++ fr) own.length fm scope :=
  ⟨kind, h1, h2, fun y hy hk => S.kind y.1 (h3 y hy hk), by rw [List.length_append, S.len], fun i x hi h => by
    rw [List.getElem?_append_right hi] at h
    exact S.get _ x h⟩
section
variable {X : Cx}
/-! ### rules that serve several kinds at once -/
end
/-! ### a comprehension, by what its turns keep -/
theorem comp_list {K : PySem.W.Frag} {a : Addr} {xs : List V} {g : TG} {tt : TT} {te : TE} {σ0 : St} {H : Hp} {D : Addr} {Q : VK} (hz : xs.length < sizeLine) (Pv : Nat → List V → Hp → Prop) (h0 : Pv 0 [] (upd H D (.lst [])))
    (hl : ∀ i ys H, i ≤ xs.length → Pv i ys H → SqL K H a xs ∧ H D = some (.lst ys) ∧ ys.length ≤ i)
    (hs : ∀ i x ys H, xs[i]? = some x → Pv i ys H → g x σ0 H fun σ3 H4 => Ext σ0 σ3 ∧ tt σ3 H4 fun b H5 => if b = true then te σ3 H5 fun y H6 => H6 D = some (.lst ys) ∧ Pv (i + 1) (ys ++ [y]) (upd H6 D (.lst (ys ++ [y]))) else Pv (i + 1) ys H5)
    (hd : ∀ ys H, Pv xs.length ys H → Q (.ref D) H) :
    ∃ W : Nat → Nat → List V → Hp → Prop, (∃ m, W 0 m [] (upd H D (.lst []))) ∧ ∀ i m ys H2, W i m ys H2 → H2 D = some (.lst ys) ∧ ys.length < sizeLine ∧ (((Itl K a).stop i H2 ∧ Q (.ref D) H2) ∨ ((Itl K a).go i H2 ∧ ∃ N : List V → Hp → Prop, (∀ ys' H', N ys' H' → ∃ m', m' < m ∧ W (i + 1) m' ys' H') ∧ ∀ x H3, (Itl K a).yld i H2 x H3 →
      g x σ0 H3 fun σ3 H4 => Ext σ0 σ3 ∧ tt σ3 H4 fun b H5 => if b = true then te σ3 H5 fun y H6 => H6 D = some (.lst ys) ∧ N (ys ++ [y]) (upd H6 D (.lst (ys ++ [y]))) else N ys H5)) := by
  refine ⟨fun i m ys H => m = xs.length - i ∧ i ≤ xs.length ∧ Pv i ys H, ⟨xs.length, by simp, Nat.zero_le _, h0⟩, ?_⟩
  rintro i m ys H2 ⟨rfl, hi, p⟩
  obtain ⟨l0, l1, l2⟩ := hl i ys H2 hi p
  refine ⟨l1, by omega, ?_⟩
  by_cases hlt : i < xs.length
  · refine .inr ⟨⟨xs, xs[i], l0, by simp [hlt]⟩, Pv (i + 1), fun ys' H' p' => ⟨_, (by omega : xs.length - (i + 1) < xs.length - i), rfl, hlt, p'⟩, fun x H3 y => ?_⟩
    obtain ⟨e, y⟩ := y
    subst e
    exact hs i x ys _ (y xs l0) p
  · have e : i = xs.length := by omega
    subst e
    exact .inl ⟨⟨xs, l0, Nat.le_refl _⟩, hd ys H2 p⟩
/-! ### the same, with what is walked reckoned first -/
noncomputable def ForW (g : TG) (tb : TS) (D : Ends) (σ : St) (J : It) (H1 : Hp) : Prop := ∃ W : Nat → Nat → St → Hp → Prop, (∃ m, W 0 m σ H1) ∧ ∀ i m σ H, W i m σ H →
  (J.stop i H ∧ D.nx σ H) ∨ (J.go i H ∧ ∃ N : St → Hp → Prop, (∀ σ' H', N σ' H' → ∃ m', m' < m ∧ W (i + 1) m' σ' H') ∧ ∀ x H', J.yld i H x H' → g x σ H' fun σ2 H2 => tb { D with nx := N, ct := N, bk := D.nx } σ2 H2)
noncomputable def ForL (K : PySem.W.Frag) (g : TG) (tb : TS) (D : Ends) (σ : St) : VK := fun x H1 => ∃ a, x = .ref a ∧ (∃ xs, SqL K H1 a xs) ∧ ForW g tb D σ (Itl K a) H1
noncomputable def ForT (K : PySem.W.Frag) (g : TG) (tb : TS) (D : Ends) (σ : St) : VK := fun x H1 => ∃ a, x = .ref a ∧ (∃ xs, SqT K H1 a xs) ∧ ForW g tb D σ (Itt K a) H1
noncomputable def ForS (g : TG) (tb : TS) (D : Ends) (σ : St) : VK := fun x H1 => ∃ z, x = .str z ∧ ForW g tb D σ (Its z) H1
noncomputable def ForR (g : TG) (tb : TS) (D : Ends) (σ : St) : List V → Hp → Prop := fun vs H1 => ∃ j : Int, vs = [.int j] ∧ -(2 ^ 62) ≤ j ∧ j < 2 ^ 62 ∧ ForW g tb D σ (Itr 0 j.toNat) H1
noncomputable def ForR2 (g : TG) (tb : TS) (D : Ends) (σ : St) : List V → Hp → Prop := fun vs H1 => ∃ i j : Int, vs = [.int i, .int j] ∧ (-(2 ^ 62) ≤ i ∧ i < 2 ^ 62 ∧ -(2 ^ 62) ≤ j ∧ j < 2 ^ 62) ∧ ForW g tb D σ (Itr i (j - i).toNat) H1
section
variable {K : PySem.W.Frag} {te : TE} {ta : TA} {g : TG} {tb : TS} {D : Ends} {σ : St} {H : Hp}
theorem tFor_list : tFor (iList K te) g tb D σ H = te σ H (ForL K g tb D σ) := rfl
theorem tFor_tup : tFor (iTup K te) g tb D σ H = te σ H (ForT K g tb D σ) := rfl
theorem tFor_str : tFor (iStr te) g tb D σ H = te σ H (ForS g tb D σ) := rfl
theorem tFor_rng1 : tFor (iRng1 ta) g tb D σ H = ta σ H (ForR g tb D σ) := rfl
theorem tFor_rng2 : tFor (iRng2 ta) g tb D σ H = ta σ H (ForR2 g tb D σ) := rfl
theorem ForL.of {a : Addr} {xs : List V} (Pv : Nat → St → Hp → Prop) (h0 : Pv 0 σ H) (hl : ∀ i σ H, i ≤ xs.length → Pv i σ H → SqL K H a xs)
    (hs : ∀ i x σ H, xs[i]? = some x → Pv i σ H → g x σ H fun σ2 H2 => tb { D with nx := Pv (i + 1), ct := Pv (i + 1), bk := D.nx } σ2 H2) (hd : ∀ σ H, Pv xs.length σ H → D.nx σ H) : ForL K g tb D σ (.ref a) H :=
  ⟨a, rfl, ⟨xs, hl 0 _ _ (Nat.zero_le _) h0⟩, for_list Pv h0 hl hs hd⟩
theorem ForR.of {n : Int} (h1 : n < 2 ^ 62) (h2 : -(2 ^ 62) ≤ n) (Pv : Nat → St → Hp → Prop) (h0 : Pv 0 σ H)
    (hs : ∀ i σ H, i < n.toNat → Pv i σ H → g (.int (i : Int)) σ H fun σ2 H2 => tb { D with nx := Pv (i + 1), ct := Pv (i + 1), bk := D.nx } σ2 H2) (hd : ∀ σ H, Pv n.toNat σ H → D.nx σ H) : ForR g tb D σ [.int n] H :=
  ⟨n, rfl, h2, h1, for_range (n := n.toNat) Pv h0 (fun i σ H hi p => by
    have e : (0 : Int) + (i : Int) = i := by omega
    rw [e]; exact hs i σ H hi p) hd⟩
end
noncomputable def CompW (g : TG) (tt : TT) (te : TE) (σ0 : St) (Q : VK) (J : It) (H1 : Hp) : Prop := ∀ DD, H1 DD = none → ∃ W : Nat → Nat → List V → Hp → Prop,
  (∃ m, W 0 m [] (upd H1 DD (.lst []))) ∧ ∀ i m ys H2, W i m ys H2 → H2 DD = some (.lst ys) ∧ ys.length < sizeLine ∧ ((J.stop i H2 ∧ Q (.ref DD) H2) ∨ (J.go i H2 ∧ ∃ N : List V → Hp → Prop, (∀ ys' H', N ys' H' → ∃ m', m' < m ∧ W (i + 1) m' ys' H') ∧ ∀ x H3, J.yld i H2 x H3 →
    g x σ0 H3 fun σ3 H4 => Ext σ0 σ3 ∧ tt σ3 H4 fun b H5 => if b = true then te σ3 H5 fun y H6 => H6 DD = some (.lst ys) ∧ N (ys ++ [y]) (upd H6 DD (.lst (ys ++ [y]))) else N ys H5))
noncomputable def CompL (K : PySem.W.Frag) (g : TG) (tt : TT) (te : TE) (σ0 : St) (Q : VK) : VK := fun x H1 => ∃ a, x = .ref a ∧ (∃ xs, SqL K H1 a xs) ∧ CompW g tt te σ0 Q (Itl K a) H1
noncomputable def CompT (K : PySem.W.Frag) (g : TG) (tt : TT) (te : TE) (σ0 : St) (Q : VK) : VK := fun x H1 => ∃ a, x = .ref a ∧ (∃ xs, SqT K H1 a xs) ∧ CompW g tt te σ0 Q (Itt K a) H1
noncomputable def CompS (g : TG) (tt : TT) (te : TE) (σ0 : St) (Q : VK) : VK := fun x H1 => ∃ z, x = .str z ∧ CompW g tt te σ0 Q (Its z) H1
noncomputable def CompR (g : TG) (tt : TT) (te : TE) (σ0 : St) (Q : VK) : List V → Hp → Prop := fun vs H1 => ∃ j : Int, vs = [.int j] ∧ -(2 ^ 62) ≤ j ∧ j < 2 ^ 62 ∧ CompW g tt te σ0 Q (Itr 0 j.toNat) H1
section
variable {K : PySem.W.Frag} {k : Nat} {fm : List Nat} {tl te : TE} {ta : TA} {g : TG} {tt : TT} {σ σ0 : St} {H H1 : Hp} {Q : VK}
theorem tComp_list : tComp k fm (iList K tl) g tt te σ H Q = tl σ H (CompL K g tt te (blkSt k fm σ) Q) := rfl
theorem tComp_tup : tComp k fm (iTup K tl) g tt te σ H Q = tl σ H (CompT K g tt te (blkSt k fm σ) Q) := rfl
theorem tComp_str : tComp k fm (iStr tl) g tt te σ H Q = tl σ H (CompS g tt te (blkSt k fm σ) Q) := rfl
theorem tComp_rng1 : tComp k fm (iRng1 ta) g tt te σ H Q = ta σ H (CompR g tt te (blkSt k fm σ) Q) := rfl
theorem CompL.of {a : Addr} {xs : List V} (hz : xs.length < sizeLine) (hx : SqL K H1 a xs) (Pv : Addr → Nat → List V → Hp → Prop) (h0 : ∀ D, H1 D = none → Pv D 0 [] (upd H1 D (.lst [])))
    (hl : ∀ D i ys H', H1 D = none → i ≤ xs.length → Pv D i ys H' → SqL K H' a xs ∧ H' D = some (.lst ys) ∧ ys.length ≤ i)
    (hs : ∀ D i x ys H', H1 D = none → xs[i]? = some x → Pv D i ys H' → g x σ0 H' fun σ3 H4 => Ext σ0 σ3 ∧ tt σ3 H4 fun b H5 => if b = true then te σ3 H5 fun y H6 => H6 D = some (.lst ys) ∧ Pv D (i + 1) (ys ++ [y]) (upd H6 D (.lst (ys ++ [y]))) else Pv D (i + 1) ys H5)
    (hd : ∀ D ys H', H1 D = none → Pv D xs.length ys H' → Q (.ref D) H') : CompL K g tt te σ0 Q (.ref a) H1 :=
  ⟨a, rfl, ⟨xs, hx⟩, fun D hD => comp_list hz (Pv D) (h0 D hD) (fun i ys H' => hl D i ys H' hD) (fun i x ys H' => hs D i x ys H' hD) fun ys H' => hd D ys H' hD⟩
end
end L2

namespace L2
open PySem PySem.Spec PyProof.Rows
/-! ### plain data, as trees -/
inductive D where
  | non | bl (b : Bool) | int (i : Int) | str (z : Str) | lst (xs : List D) | tup (xs : List D)
mutual
noncomputable def Rep (K : PySem.W.Frag) (H : Hp) : D → V → Prop
  | .non, v => v = .non
  | .bl b, v => v = .bl b
  | .int i, v => v = .int i
  | .str z, v => v = .str z
  | .lst ds, v => ∃ a xs, v = .ref a ∧ SqL K H a xs ∧ RepL K H ds xs
  | .tup ds, v => ∃ a xs, v = .ref a ∧ SqT K H a xs ∧ RepL K H ds xs
noncomputable def RepL (K : PySem.W.Frag) (H : Hp) : List D → List V → Prop
  | [], xs => xs = []
  | d :: ds, xs => ∃ y ys, xs = y :: ys ∧ Rep K H d y ∧ RepL K H ds ys
end
mutual
noncomputable def deq : D → D → Bool
  | .non, .non => true
  | .bl a, .bl b => a == b
  | .bl a, .int b => (if a then 1 else 0) == b
  | .int a, .bl b => a == (if b then 1 else 0)
  | .int a, .int b => a == b
  | .str a, .str b => a == b
  | .lst a, .lst b => deqL a b
  | .tup a, .tup b => deqL a b
  | _, _ => false
noncomputable def deqL : List D → List D → Bool
  | [], [] => true
  | a :: as, b :: bs => deq a b && deqL as bs
  | _, _ => false
end
mutual
noncomputable def dep : D → Nat
  | .lst ds => depL ds + 1
  | .tup ds => depL ds + 1
  | _ => 0
noncomputable def depL : List D → Nat
  | [] => 0
  | d :: ds => max (dep d) (depL ds)
end
mutual
theorem deq_refl : ∀ d : D, deq d d = true
  | .non => rfl
  | .bl a => by simp [deq]
  | .int a => by simp [deq]
  | .str a => by simp [deq]
  | .lst a => by simp only [deq]; exact deqL_refl a
  | .tup a => by simp only [deq]; exact deqL_refl a
theorem deqL_refl : ∀ ds : List D, deqL ds ds = true
  | [] => rfl
  | d :: ds => by simp only [deqL, deq_refl d, deqL_refl ds, Bool.and_self]
end
theorem RepL.len {K : PySem.W.Frag} {H : Hp} : ∀ {ds : List D} {xs : List V}, RepL K H ds xs → ds.length = xs.length
  | [], xs, h => by simp only [RepL] at h; subst h; rfl
  | d :: ds, xs, h => by
    simp only [RepL] at h
    obtain ⟨y, ys, rfl, _, r⟩ := h
    simp [r.len]
noncomputable def eAt (ds es : List D) (j : Nat) : Bool := match ds[j]?, es[j]? with
  | some d, some e => deq d e
  | _, _ => true
theorem eAt_all : ∀ (ds es : List D), ((List.range (min ds.length es.length)).all (eAt ds es) && ds.length == es.length) = deqL ds es
  | [], [] => by simp [deqL]
  | [], e :: es => by simp [deqL]
  | d :: ds, [] => by simp [deqL]
  | d :: ds, e :: es => by
    have ih := eAt_all ds es
    have h1 : min (d :: ds).length (e :: es).length = min ds.length es.length + 1 := by simp only [List.length_cons]; omega
    rw [h1, List.range_succ_eq_map, List.all_cons, List.all_map]
    have h2 : (eAt (d :: ds) (e :: es) ∘ Nat.succ) = eAt ds es := by funext j; simp [eAt]
    have h3 : eAt (d :: ds) (e :: es) 0 = deq d e := by simp [eAt]
    rw [h2, h3]
    simp only [deqL, ← ih, List.length_cons, Bool.and_assoc]
    congr 2
    simp
section
variable {X : Cx} {pins : List (Addr × Obj)} {σ : St} {H : Hp} {s : Shared}
mutual
theorem rep_inj (I : Inv X pins σ H s) : ∀ (d e : D) (x : V), Rep X.K H d x → Rep X.K H e x → d = e
  | d, e, x, hd, he => by
    cases d with
    | non =>
      simp only [Rep] at hd; subst hd
      cases e <;> simp only [Rep] at he <;> first | rfl | (obtain ⟨a, xs, z, _⟩ := he; cases z; done) | (cases he; done)
    | bl b =>
      simp only [Rep] at hd; subst hd
      cases e <;> simp only [Rep] at he <;> first | (obtain ⟨a, xs, z, _⟩ := he; cases z; done) | (cases he; rfl) | (cases he; done)
    | int b =>
      simp only [Rep] at hd; subst hd
      cases e <;> simp only [Rep] at he <;> first | (obtain ⟨a, xs, z, _⟩ := he; cases z; done) | (cases he; rfl) | (cases he; done)
    | str b =>
      simp only [Rep] at hd; subst hd
      cases e <;> simp only [Rep] at he <;> first | (obtain ⟨a, xs, z, _⟩ := he; cases z; done) | (cases he; rfl) | (cases he; done)
    | lst ds =>
      simp only [Rep] at hd
      obtain ⟨a, xs, rfl, hx, r⟩ := hd
      cases e with
      | lst es =>
        simp only [Rep] at he
        obtain ⟨a', xs', z, hx', r'⟩ := he
        cases z
        have := I.list_inj hx hx'
        subst this
        rw [repL_inj I ds es xs r r']
      | tup es =>
        simp only [Rep] at he
        obtain ⟨a', xs', z, hx', r'⟩ := he
        cases z
        exfalso
        obtain ⟨_, _, p, _⟩ := I.list hx
        obtain ⟨_, _, q, _⟩ := I.tuple hx'
        obtain ⟨o, n, e1, e2, _⟩ := p
        obtain ⟨o', e1', e2', _⟩ := q
        rw [e1] at e1'; cases e1'
        rw [e2] at e2'; exact absurd e2' (by decide)
      | _ => simp only [Rep] at he; cases he
    | tup ds =>
      simp only [Rep] at hd
      obtain ⟨a, xs, rfl, hx, r⟩ := hd
      cases e with
      | tup es =>
        simp only [Rep] at he
        obtain ⟨a', xs', z, hx', r'⟩ := he
        cases z
        have := I.tuple_inj hx hx'
        subst this
        rw [repL_inj I ds es xs r r']
      | lst es =>
        simp only [Rep] at he
        obtain ⟨a', xs', z, hx', r'⟩ := he
        cases z
        exfalso
        obtain ⟨_, _, p, _⟩ := I.list hx'
        obtain ⟨_, _, q, _⟩ := I.tuple hx
        obtain ⟨o, n, e1, e2, _⟩ := p
        obtain ⟨o', e1', e2', _⟩ := q
        rw [e1] at e1'; cases e1'
        rw [e2] at e2'; exact absurd e2' (by decide)
      | _ => simp only [Rep] at he; cases he
theorem repL_inj (I : Inv X pins σ H s) : ∀ (ds es : List D) (xs : List V), RepL X.K H ds xs → RepL X.K H es xs → ds = es
  | [], es, xs, hd, he => by
    simp only [RepL] at hd
    subst hd
    cases es with
    | nil => rfl
    | cons e es => simp only [RepL] at he; obtain ⟨y, ys, z, _⟩ := he; cases z
  | d :: ds, es, xs, hd, he => by
    simp only [RepL] at hd
    obtain ⟨y, ys, rfl, r, rs⟩ := hd
    cases es with
    | nil => simp only [RepL] at he; cases he
    | cons e es =>
      simp only [RepL] at he
      obtain ⟨y', ys', z, r', rs'⟩ := he
      cases z
      rw [rep_inj I d e y r r', repL_inj I ds es ys rs rs']
end
theorem isTuple_of {h : Heap} {a : Addr} {its : Array Value} (p : IsTup h a its) : h.IsTuple a its := by
  obtain ⟨o, e, c, n, d⟩ := p
  exact ⟨o, e, c, n, d⟩
mutual
theorem eq_deep (I : Inv X pins σ H s) : ∀ (d e : D) (x y : V) (u v : Value) (A : Around), A.units + dep d < cLine → Rep X.K H d x → Rep X.K H e y → RelV x u → RelV y v → SeqAt.EqAt A s u v (deq d e)
  | .non, e, x, y, u, v, A, hu, hd, he, rx, ry => by
    have hu : A.units < cLine := by omega
    simp only [Rep] at hd; subst hd; cases rx
    cases e <;> simp only [Rep] at he
    · subst he; cases ry; exact SeqAt.EqAt.same _
    · subst he; cases ry; exact SeqAt.EqAt.none_bool _
    · subst he; obtain ⟨t, rfl⟩ := ry; exact SeqAt.EqAt.none_int _ _
    · subst he; obtain ⟨t, rfl⟩ := ry; exact SeqAt.EqAt.none_str _ _
    · obtain ⟨a, xs, rfl, hx, _⟩ := he; cases ry; obtain ⟨_, _, p, _⟩ := I.list hx; exact SeqAt.EqAt.none_list p.isList hu
    · obtain ⟨a, xs, rfl, hx, _⟩ := he; cases ry; obtain ⟨_, _, p, _⟩ := I.tuple hx; exact SeqAt.EqAt.none_tuple (isTuple_of p) hu
  | .bl b, e, x, y, u, v, A, hu, hd, he, rx, ry => by
    have hu : A.units < cLine := by omega
    simp only [Rep] at hd; subst hd; cases rx
    cases e <;> simp only [Rep] at he
    · subst he; cases ry; exact SeqAt.EqAt.bool_none _
    · subst he; cases ry; exact SeqAt.EqAt.bool_bool _ _
    · subst he; obtain ⟨t, rfl⟩ := ry; exact SeqAt.EqAt.bool_int _ _ _
    · subst he; obtain ⟨t, rfl⟩ := ry; exact SeqAt.EqAt.bool_str _ _ _
    · obtain ⟨a, xs, rfl, hx, _⟩ := he; cases ry; obtain ⟨_, _, p, _⟩ := I.list hx; exact SeqAt.EqAt.bool_list _ p.isList hu
    · obtain ⟨a, xs, rfl, hx, _⟩ := he; cases ry; obtain ⟨_, _, p, _⟩ := I.tuple hx; exact SeqAt.EqAt.bool_tuple _ (isTuple_of p) hu
  | .int b, e, x, y, u, v, A, hu, hd, he, rx, ry => by
    have hu : A.units < cLine := by omega
    simp only [Rep] at hd; subst hd; obtain ⟨t0, rfl⟩ := rx
    cases e <;> simp only [Rep] at he
    · subst he; cases ry; exact SeqAt.EqAt.int_none _ _
    · subst he; cases ry; exact SeqAt.EqAt.int_bool _ _ _
    · subst he; obtain ⟨t, rfl⟩ := ry; exact SeqAt.EqAt.int_int _ _ _ _
    · subst he; obtain ⟨t, rfl⟩ := ry; exact SeqAt.EqAt.int_str _ _ _ _
    · obtain ⟨a, xs, rfl, hx, _⟩ := he; cases ry; obtain ⟨_, _, p, _⟩ := I.list hx; exact SeqAt.EqAt.int_list _ _ p.isList hu
    · obtain ⟨a, xs, rfl, hx, _⟩ := he; cases ry; obtain ⟨_, _, p, _⟩ := I.tuple hx; exact SeqAt.EqAt.int_tuple _ _ (isTuple_of p) hu
  | .str b, e, x, y, u, v, A, hu, hd, he, rx, ry => by
    have hu : A.units < cLine := by omega
    simp only [Rep] at hd; subst hd; obtain ⟨t0, rfl⟩ := rx
    cases e <;> simp only [Rep] at he
    · subst he; cases ry; exact SeqAt.EqAt.str_none _ _
    · subst he; cases ry; exact SeqAt.EqAt.str_bool _ _ _
    · subst he; obtain ⟨t, rfl⟩ := ry; exact SeqAt.EqAt.str_int _ _ _ _
    · subst he; obtain ⟨t, rfl⟩ := ry; exact SeqAt.EqAt.str_str _ _ _ _
    · obtain ⟨a, xs, rfl, hx, _⟩ := he; cases ry; obtain ⟨_, _, p, _⟩ := I.list hx; exact SeqAt.EqAt.str_list _ _ p.isList hu
    · obtain ⟨a, xs, rfl, hx, _⟩ := he; cases ry; obtain ⟨_, _, p, _⟩ := I.tuple hx; exact SeqAt.EqAt.str_tuple _ _ (isTuple_of p) hu
  | .lst ds, e, x, y, u, v, A, hu, hd, he, rx, ry => by
    have hu0 : A.units < cLine := by omega
    simp only [dep] at hu
    simp only [Rep] at hd; obtain ⟨a, xs, rfl, hx, r⟩ := hd; cases rx
    obtain ⟨its, rv, p, hz⟩ := I.list hx
    cases e <;> simp only [Rep] at he
    · subst he; cases ry; exact SeqAt.EqAt.list_none p.isList hu0
    · subst he; cases ry; exact SeqAt.EqAt.list_bool _ p.isList hu0
    · subst he; obtain ⟨t, rfl⟩ := ry; exact SeqAt.EqAt.list_int _ _ p.isList hu0
    · subst he; obtain ⟨t, rfl⟩ := ry; exact SeqAt.EqAt.list_str _ _ p.isList hu0
    · rename_i es
      obtain ⟨b, ys, rfl, hy, r'⟩ := he; cases ry
      obtain ⟨its', rv', p', hz'⟩ := I.list hy
      by_cases hab : a = b
      · subst hab
        have := I.list_inj hx hy
        subst this
        rw [repL_inj I ds es xs r r', deq_refl]
        exact SeqAt.EqAt.same _
      · have l1 := r.len
        have l2 := rv.length
        have l3 := r'.len
        have l4 := rv'.length
        have key := eAt_all ds es
        simp only [deq]
        rw [← key]
        by_cases hl : its.length = its'.length
        · have := SeqAt.EqAt.of_refs hab (SeqAt.RcAt.lists (e := eAt ds es) p.isList p'.isList (by simpa using hl) hu0 (fun j h1 h2 => by
            have q := eq_deepL I ds es xs ys its its' A.in1 (by show A.units + 1 + depL ds < cLine; omega) r r' rv rv' j (by simpa using h1) (by simpa using h2)
            simpa using q))
          have e1 : its.toArray.size = min ds.length es.length := by rw [List.size_toArray]; omega
          rw [e1] at this
          have e2 : (ds.length == es.length) = true := by simp; omega
          rw [e2, Bool.and_true]
          exact this
        · have e2 : (ds.length == es.length) = false := by simp; omega
          rw [e2, Bool.and_false]
          exact SeqAt.EqAt.of_refs hab (SeqAt.RcAt.lists_lengths p.isList p'.isList (by simpa using hl) hu0)
    · obtain ⟨b, ys, rfl, hy, r'⟩ := he; cases ry
      obtain ⟨_, _, q, _⟩ := I.tuple hy
      exact SeqAt.EqAt.list_tuple p.isList (isTuple_of q) hu0
  | .tup ds, e, x, y, u, v, A, hu, hd, he, rx, ry => by
    have hu0 : A.units < cLine := by omega
    simp only [dep] at hu
    simp only [Rep] at hd; obtain ⟨a, xs, rfl, hx, r⟩ := hd; cases rx
    obtain ⟨its, rv, p, hz⟩ := I.tuple hx
    cases e <;> simp only [Rep] at he
    · subst he; cases ry; exact SeqAt.EqAt.tuple_none (isTuple_of p) hu0
    · subst he; cases ry; exact SeqAt.EqAt.tuple_bool _ (isTuple_of p) hu0
    · subst he; obtain ⟨t, rfl⟩ := ry; exact SeqAt.EqAt.tuple_int _ _ (isTuple_of p) hu0
    · subst he; obtain ⟨t, rfl⟩ := ry; exact SeqAt.EqAt.tuple_str _ _ (isTuple_of p) hu0
    · obtain ⟨b, ys, rfl, hy, r'⟩ := he; cases ry
      obtain ⟨_, _, q, _⟩ := I.list hy
      exact SeqAt.EqAt.tuple_list (isTuple_of p) q.isList hu0
    · rename_i es
      obtain ⟨b, ys, rfl, hy, r'⟩ := he; cases ry
      obtain ⟨its', rv', p', hz'⟩ := I.tuple hy
      by_cases hab : a = b
      · subst hab
        have := I.tuple_inj hx hy
        subst this
        rw [repL_inj I ds es xs r r', deq_refl]
        exact SeqAt.EqAt.same _
      · have l1 := r.len
        have l2 := rv.length
        have l3 := r'.len
        have l4 := rv'.length
        have key := eAt_all ds es
        simp only [deq]
        rw [← key]
        have := SeqAt.EqAt.of_refs hab (SeqAt.RcAt.tuples (e := eAt ds es) (isTuple_of p) (isTuple_of p') hu0 (fun j h1 h2 => by
            have q := eq_deepL I ds es xs ys its its' A.in1 (by show A.units + 1 + depL ds < cLine; omega) r r' rv rv' j (by simpa using h1) (by simpa using h2)
            simpa using q))
        have e1 : its.toArray.size = ds.length := by rw [List.size_toArray]; omega
        have e2 : its'.toArray.size = es.length := by rw [List.size_toArray]; omega
        rw [e1, e2] at this
        exact this
theorem eq_deepL (I : Inv X pins σ H s) : ∀ (ds es : List D) (xs ys : List V) (us vs : List Value) (A : Around), A.units + depL ds < cLine → RepL X.K H ds xs → RepL X.K H es ys → Vals xs us → Vals ys vs →
    ∀ (j : Nat) (h1 : j < us.length) (h2 : j < vs.length), SeqAt.EqAt A s us[j] vs[j] (eAt ds es j)
  | [], es, xs, ys, us, vs, A, hu, hd, he, rx, ry, j, h1, h2 => by
    simp only [RepL] at hd
    subst hd
    cases rx
    exact absurd h1 (by simp)
  | d :: ds, es, xs, ys, us, vs, A, hu, hd, he, rx, ry, j, h1, h2 => by
    simp only [depL] at hu
    simp only [RepL] at hd
    obtain ⟨x, xs', rfl, rd, rds⟩ := hd
    cases rx with
    | cons r0 rr =>
      cases es with
      | nil =>
        simp only [RepL] at he
        subst he
        cases ry
        exact absurd h2 (by simp)
      | cons e es =>
        simp only [RepL] at he
        obtain ⟨y, ys', rfl, re, res⟩ := he
        cases ry with
        | cons q0 qr =>
          cases j with
          | zero =>
            have : eAt (d :: ds) (e :: es) 0 = deq d e := by simp [eAt]
            rw [this]
            exact eq_deep I d e x y _ _ A (by omega) rd re r0 q0
          | succ j =>
            have : eAt (d :: ds) (e :: es) (j + 1) = eAt ds es j := by simp [eAt]
            rw [this]
            exact eq_deepL I ds es xs' ys' _ _ A (by omega) rds res rr qr j (by simpa using h1) (by simpa using h2)
end
noncomputable def rEqD (K : PySem.W.Frag) : R2 := fun x y H Q => ∃ ds es, ((Rep K H (.lst ds) x ∧ Rep K H (.lst es) y) ∨ (Rep K H (.tup ds) x ∧ Rep K H (.tup es) y)) ∧ depL ds ≤ 20 ∧ Q (.bl (deqL ds es)) H
theorem op_eqD (hu : X.A.units + 64 < cLine) : OpR X (compareOp .Eq) (rEqD X.K) := by
  intro pins s σ H x y v u Q I rx ry h
  obtain ⟨ds, es, h, hdep, q⟩ := h
  have hu0 : X.A.units < cLine := by omega
  have hin : X.A.in1.units + depL ds < cLine := by show X.A.units + 1 + depL ds < cLine; omega
  have key := eAt_all ds es
  rcases h with ⟨h1, h2⟩ | ⟨h1, h2⟩
  · simp only [Rep] at h1 h2
    obtain ⟨a, xs, rfl, hx, r⟩ := h1
    obtain ⟨b, ys, rfl, hy, r'⟩ := h2
    cases rx
    cases ry
    obtain ⟨its, rv, p, hz⟩ := I.list hx
    obtain ⟨its', rv', p', hz'⟩ := I.list hy
    have l1 := r.len
    have l2 := rv.length
    have l3 := r'.len
    have l4 := rv'.length
    by_cases hl : its.length = its'.length
    · refine SeqAt.eq_listAt (e := eAt ds es) p.isList p'.isList (by simpa using hl) hu0 (fun j h1 h2 => ?_) ?_
      · have q := eq_deepL I ds es xs ys its its' X.A.in1 hin r r' rv rv' j (by simpa using h1) (by simpa using h2)
        simpa using q
      · have e1 : its.toArray.size = min ds.length es.length := by rw [List.size_toArray]; omega
        have e2 : (ds.length == es.length) = true := by simp; omega
        rw [e2, Bool.and_true] at key
        rw [e1, key]
        exact ⟨.bl (deqL ds es), H, I, rfl, q⟩
    · have e2 : (ds.length == es.length) = false := by simp; omega
      rw [e2, Bool.and_false] at key
      rw [← key] at q
      exact SeqAt.eq_list_lengthsAt p.isList p'.isList (by simpa using hl) hu0 ⟨.bl false, H, I, rfl, q⟩
  · simp only [Rep] at h1 h2
    obtain ⟨a, xs, rfl, hx, r⟩ := h1
    obtain ⟨b, ys, rfl, hy, r'⟩ := h2
    cases rx
    cases ry
    obtain ⟨its, rv, p, hz⟩ := I.tuple hx
    obtain ⟨its', rv', p', hz'⟩ := I.tuple hy
    have l1 := r.len
    have l2 := rv.length
    have l3 := r'.len
    have l4 := rv'.length
    refine SeqAt.eq_tupleAt (e := eAt ds es) (isTuple_of p) (isTuple_of p') hu0 (fun j h1 h2 => ?_) ?_
    · have q := eq_deepL I ds es xs ys its its' X.A.in1 hin r r' rv rv' j (by simpa using h1) (by simpa using h2)
      simpa using q
    · have e1 : its.toArray.size = ds.length := by rw [List.size_toArray]; omega
      have e2 : its'.toArray.size = es.length := by rw [List.size_toArray]; omega
      rw [e1, e2, key]
      exact ⟨.bl (deqL ds es), H, I, rfl, q⟩
noncomputable def rNeD (K : PySem.W.Frag) : R2 := fun x y H Q => ∃ ds es, ((Rep K H (.lst ds) x ∧ Rep K H (.lst es) y) ∨ (Rep K H (.tup ds) x ∧ Rep K H (.tup es) y)) ∧ depL ds ≤ 20 ∧ Q (.bl (!deqL ds es)) H
theorem op_neD (hu : X.A.units + 64 < cLine) : OpR X (compareOp .NotEq) (rNeD X.K) := by
  intro pins s σ H x y v u Q I rx ry h
  obtain ⟨ds, es, h, hdep, q⟩ := h
  have hu0 : X.A.units < cLine := by omega
  have hin : X.A.in1.units + depL ds < cLine := by show X.A.units + 1 + depL ds < cLine; omega
  have key := eAt_all ds es
  rcases h with ⟨h1, h2⟩ | ⟨h1, h2⟩
  · simp only [Rep] at h1 h2
    obtain ⟨a, xs, rfl, hx, r⟩ := h1
    obtain ⟨b, ys, rfl, hy, r'⟩ := h2
    cases rx
    cases ry
    obtain ⟨its, rv, p, hz⟩ := I.list hx
    obtain ⟨its', rv', p', hz'⟩ := I.list hy
    have l1 := r.len
    have l2 := rv.length
    have l3 := r'.len
    have l4 := rv'.length
    by_cases hl : its.length = its'.length
    · refine SeqAt.RcNeAt.lists (e := eAt ds es) p.isList p'.isList (by simpa using hl) hu0 (fun j h1 h2 => ?_) X.prog X.w X.xe _ ?_
      · have q := eq_deepL I ds es xs ys its its' X.A.in1 hin r r' rv rv' j (by simpa using h1) (by simpa using h2)
        simpa using q
      · have e1 : its.toArray.size = min ds.length es.length := by rw [List.size_toArray]; omega
        have e2 : (ds.length == es.length) = true := by simp; omega
        rw [e2, Bool.and_true] at key
        rw [e1, key]
        exact ⟨.bl (!deqL ds es), H, I, rfl, q⟩
    · have e2 : (ds.length == es.length) = false := by simp; omega
      rw [e2, Bool.and_false] at key
      rw [← key] at q
      exact SeqAt.RcNeAt.lists_lengths p.isList p'.isList (by simpa using hl) hu0 X.prog X.w X.xe _ ⟨.bl true, H, I, rfl, q⟩
  · simp only [Rep] at h1 h2
    obtain ⟨a, xs, rfl, hx, r⟩ := h1
    obtain ⟨b, ys, rfl, hy, r'⟩ := h2
    cases rx
    cases ry
    obtain ⟨its, rv, p, hz⟩ := I.tuple hx
    obtain ⟨its', rv', p', hz'⟩ := I.tuple hy
    have l1 := r.len
    have l2 := rv.length
    have l3 := r'.len
    have l4 := rv'.length
    refine SeqAt.RcNeAt.tuples (e := eAt ds es) (isTuple_of p) (isTuple_of p') hu0 (fun j h1 h2 => ?_) X.prog X.w X.xe _ ?_
    · have q := eq_deepL I ds es xs ys its its' X.A.in1 hin r r' rv rv' j (by simpa using h1) (by simpa using h2)
      simpa using q
    · have e1 : its.toArray.size = ds.length := by rw [List.size_toArray]; omega
      have e2 : its'.toArray.size = es.length := by rw [List.size_toArray]; omega
      rw [e1, e2, key]
      exact ⟨.bl (!deqL ds es), H, I, rfl, q⟩
theorem RepL.ints {K : PySem.W.Frag} {H : Hp} : ∀ ns : List Int, RepL K H (ns.map D.int) (ns.map V.int)
  | [] => by simp only [List.map_nil, RepL]
  | n :: ns => by simp only [List.map_cons, RepL]; exact ⟨_, _, rfl, by simp only [Rep], RepL.ints ns⟩
end
/-! ### the same rules with the written part named -/
section
variable {X : Cx} {K : PySem.W.Frag}
theorem ix_listK (e : X.K = K) : IxR X (rIxL K) := e ▸ ix_list
theorem ix_tupK (e : X.K = K) : IxR X (rIxT K) := e ▸ ix_tup
theorem sl_listK (e : X.K = K) : SlR X (rSlL K) := e ▸ sl_list
theorem op_catSK (e : X.K = K) : OpR X (binaryOp .Add) (rCatS K) := e ▸ op_catS
theorem op_eqDK (hu : X.A.units + 64 < cLine) (e : X.K = K) : OpR X (compareOp .Eq) (rEqD K) := e ▸ op_eqD hu
theorem op_neDK (hu : X.A.units + 64 < cLine) (e : X.K = K) : OpR X (compareOp .NotEq) (rNeD K) := e ▸ op_neD hu
theorem call_lenK (e : X.K = K) : CallR X (.builtin "len") (fun xs H Q => ∃ x n, xs = [x] ∧ LenV K x H n ∧ Q (.int n) H) := e ▸ call_len
theorem call_isiK (e : X.K = K) : CallR X (.builtin "isinstance") (rIsi K) := e ▸ call_isi
theorem call_list_ofK (e : X.K = K) : CallR X (.type "list") (fun xs H Q => ∃ p ys, xs = [.ref p] ∧ (SqL K H p ys ∨ SqT K H p ys) ∧ ∀ l, H l = none → Q (.ref l) (upd H l (.lst ys))) := e ▸ call_list_of
theorem pi_listK {tg l : Expr} {tl : TE} (e : X.K = K) (hl : PE X l tl) : PI X tg l (iList K tl) := e ▸ pi_list hl
theorem pg_tupK {es : List Expr} {k : Nat} {t : TGs} {n : Nat} {pos : Pos} (e : X.K = K) (hc : X.calm = true) (h : PGs X es t)
    (hn : (assignEach es X.env).length = n := by rfl) (hst : (assignEach es X.env).findIdx? (·.1) = none := by rfl) : PG X (.Tuple es k pos) (gTup K n t) := e ▸ pg_tup hc h hn hst
end
end L2

namespace L2
open PySem PySem.Spec PyProof.Rows
section
variable {X : Cx}
noncomputable def rStarts : V → List V → Hp → VK → Prop := fun x vs H Q => ∃ z y, x = .str z ∧ vs = [.str y] ∧ Q (.bl (Txt.startswith z y)) H
noncomputable def rIndex : V → List V → Hp → VK → Prop := fun x vs H Q => ∃ z y i, x = .str z ∧ vs = [.str y] ∧ (∃ rest, Builtin.Str.occurrences z y 0 z.length 1 = i :: rest) ∧ Q (.int (i : Nat)) H
end
end L2

namespace L2
open PySem PySem.Spec PyProof.Rows
/-! ### an exception on its way: its object at e, the head of its traces at T -/
noncomputable def ExcIs (h : Heap) (e : Addr) (cls : Value) (dx : Option Addr) (fl : Value) (T : Addr) : Prop :=
  ∃ oe vs oT ts, h.get? e = some oe ∧ oe.cls = cls ∧ oe.dict = dx ∧ oe.data = .fields vs ∧ vs[1]? = some (.ref T) ∧ T ≠ e ∧ h.get? T = some oT ∧ oT.data = .fields ts ∧ ts[3]? = some fl
section
variable {M : Model} {A : Around} {E : Value → Shared → Prop} {s : Shared}
end
/-! ### how an exception lies behind a call -/
noncomputable def CXE (P : Program) (w : World) : CXT := fun outer H s E e s' => ∃ (a T : Addr) (cls : Value) (dx : Option Addr) (H' : Hp), e = .ref a ∧ s'.os = s.os ∧ AllBare s'.gens ∧ Un (frs outer) [] H H' s.heap s'.heap ∧ HOk P w H' s'.heap ∧
  s.heap.get? a = none ∧ s.heap.get? T = none ∧ H' a = none ∧ H' T = none ∧ ExcIs s'.heap a cls dx .none T ∧ E cls dx H'
end L2

namespace L2
open PySem PySem.Spec PyProof.Rows
theorem own_obj {K : PySem.W.Frag} {h : Heap} {C : Addr} {bmB : List Value} {newId : String} (X : K.In h) (q : PySem.W.excIn K C bmB newId = true) :
    ∃ bm N nm q bs hdct sn sub ab col dd k0 k1 k2 k3 k5 mN, h.get? C = some (excClassObj nm q C N bs bm hdct sn sub ab col dd k0 k1 k2 k3 k5 newId) ∧ h.Ns N mN ∧ mN "__init__" = none ∧ OwnTail h bmB bm := by
  unfold PySem.W.excIn at q
  split at q
  · rename_i dd cd sl ho
    split at q
    · rename_i C' bm k0 k1 k2 k3 n k5 hm hs
      simp only [Bool.and_eq_true, beq_iff_eq, Bool.not_eq_true'] at q
      obtain ⟨⟨⟨⟨⟨rfl, rfl⟩, hdel⟩, ht⟩, hok⟩, hni⟩ := q
      obtain ⟨nm, bs, mro, ns, qn, hd, sn, sub, ab, col, del⟩ := cd
      dsimp only at hm hdel hok hni
      subst hm hdel
      have hsl : sl = #[k0, k1, k2, k3, some (.builtin n), k5] := by
        obtain ⟨l⟩ := sl
        simp only at hs
        rw [hs]
      subst hsl
      exact ⟨bm, ns, nm, qn, bs, hd, sn, sub, ab, col, dd, k0, k1, k2, k3, k5, _, X _ _ ho, .of_isNs (PySem.W.isNs_of_in X hok), PySem.W.nsMap_none_of_in X hok hni, PySem.W.tail_of_in X ht⟩
    · cases q
  · cases q
section
variable {X : Cx}
noncomputable def tRaise (C : Addr) (E : XK) (t : TA) : TS := fun _ σ H => t σ H fun vs H1 => vs.length ≤ sizeLine ∧ E (.ref C) none H1
end
end L2

/-! an own error as a value: its class, its attributes, isinstance of it -/
namespace L2
open PySem PySem.Spec PyProof.Rows PySem.W
set_option genInjectivity false in
structure XCls (K : Frag) (C : Addr) : Prop where
  ga : findIn K (.ref C) "__getattribute__" = some (some (.builtin "BaseException.__getattribute__"))
  gn : findIn K (.ref C) "__getattr__" = some none
  cl : findIn K (.ref C) "__class__" = some (some (.builtin "object.__class__"))
  sg : specialIn K (.builtin "object.__class__") "__get__" = some (some (.builtin "getset_descriptor.__get__"))
  tk : takesIn K (.builtin "object.__class__") = some true
  mo : mroIn K C (.type "object") = some true
  mb : mroIn K C (.type "BaseException") = some true
section
variable {prog : Program} {w : World} {A : Around} {E : Value → Shared → Prop} {s : Shared} {K : Frag} {x C : Addr} {ox : Obj} {od : Option Obj} {name : Str}
end
end L2

/-! try: a call; except: a suite that raises nothing -/
namespace L2
open PySem PySem.Spec PyProof.Rows
set_option genInjectivity false in
structure Catch (K : PySem.W.Frag) (B C : Addr) : Prop where
  ty : PySem.W.instIn K (.ref B) (.type "tuple") = some false
  bb : PySem.W.mroIn K B (.type "BaseException") = some true
  sub : PySem.W.mroIn K C (.ref B) = some true
/-! ### the context of an except suite -/
section
variable {X : Cx} {pins : List (Addr × Obj)} {σ : St} {H : Hp} {s : Shared} {a : Addr}
end
/-! ### an error that was caught, as a tracked thing -/
noncomputable def XO (a C : Addr) (dx : Option Addr) : HO := .ext fun h => ∃ ob vs, h.get? a = some ob ∧ ob.cls = .ref C ∧ ob.dict = dx ∧ ob.data = .fields vs
noncomputable abbrev XS := St → XK
noncomputable def XP (X : Cx) (pins : List (Addr × Obj)) (E : XS) (e : Value) (s' : Shared) : Prop := ∃ σ H s, Inv X pins σ H s ∧ CXE X.prog X.w X.stack H s (E σ) e s'
noncomputable abbrev TEX := St → Hp → VK → XK → Prop
noncomputable abbrev TSX := Ends → XS → St → Hp → Prop
section
variable {X : Cx} {k : Nat} {f C : Addr} {fd : FuncData} {ps : List Str} {sp : Sp} {dvs : List V} {ds : List Value} {x m : Str} {p pos apos : Pos} {e o : Expr} {es : List Expr} {ta : TE} {t : TA}
noncomputable def xCall (sp : Sp) (dvs : List V) (t : TA) : TEX := fun σ H Q E => t σ H fun vs H1 => sp (vs ++ dvs) H1 Q E
noncomputable def xMeth (C : Addr) (m : Str) (sp : Sp) (dvs : List V) (ta : TE) (t : TA) : TEX := fun σ H Q E => ta σ H fun x H1 => ∃ a dx fs, x = .ref a ∧ H1 a = some (.ins C dx fs) ∧ fs.lookup m = none ∧
  t σ H1 fun vs H2 => sp (x :: (vs ++ dvs)) H2 Q E
end
section
variable {X : Cx} {st : Stmt} {rest : List Stmt} {t : TS} {tx ux : TSX} {e : Expr} {te : TEX} {pos : Pos}
noncomputable def xDrop (te : TEX) : TSX := fun D E σ H => te σ H (fun _ H1 => D.nx σ H1) (E σ)
noncomputable def xSet (i : Nat) (te : TEX) : TSX := fun D E σ H => te σ H (fun v H1 => D.nx (σ.set i (some v)) H1) (E σ)
noncomputable def xRet (te : TEX) : TSX := fun D E σ H => te σ H D.rt (E σ)
noncomputable def xOf (t : TS) : TSX := fun D _ σ H => t D σ H
noncomputable def xSeq (t u : TSX) : TSX := fun D E σ H => t { D with nx := u D E } E σ H
end
/-! ### the exception lands -/
section
variable {X : Cx} {pins : List (Addr × Obj)} {σ : St} {H H' : Hp} {s s' : Shared} {a T : Addr} {cls : Value} {dx : Option Addr} {M : Model} {A : Around} {E : Value → Shared → Prop}
noncomputable def DxOk (dx : Option Addr) (H : Hp) : Prop := dx = none ∨ ∃ d fs, dx = some d ∧ H d = some (.xd fs)
end
/-! ### the rule -/
noncomputable def un1 (i : Nat) (D : Ends) : Ends := { nx := fun σ H => D.nx (σ.set i none) H, rt := D.rt, bk := fun σ H => D.bk (σ.set i none) H, ct := fun σ H => D.ct (σ.set i none) H }
noncomputable def tTryAs (K : PySem.W.Frag) (B : Addr) (i : Nat) (tb : TSX) (th : TS) : TS := fun D σ H =>
  tb D (fun σ' cls dx H' => ∃ C, cls = .ref C ∧ Catch K B C ∧ DxOk dx H' ∧ ∀ a, H' a = none → th (un1 i D) (σ'.set i (some (.ref a))) (upd H' a (XO a C dx))) σ H
noncomputable def tTry0 (K : PySem.W.Frag) (B : Addr) (tb : TSX) (th : TS) : TS := fun D σ H =>
  tb D (fun σ' cls dx H' => ∃ C, cls = .ref C ∧ Catch K B C ∧ DxOk dx H' ∧ th D σ' H') σ H
section
variable {X : Cx} {body suite : List Stmt} {b₀ : Stmt} {x n : Str} {B : Addr} {i : Nat} {np hpos pos : Pos} {tb : TSX} {th : TS}
end
end L2

/-! texts put together: f"..", join; isinstance of a caught error, of a tuple of classes -/
namespace L2
open PySem PySem.Spec PyProof.Rows
section
variable {X : Cx}
noncomputable def tRepr (t : TE) : TE := fun σ H Q => t σ H fun x H1 => ∃ z, x = .str z ∧ (reprText z).length ≤ sizeLine ∧ Q (.str (reprText z)) H1
noncomputable def tFmt (t : TE) : TE := fun σ H Q => t σ H fun x H1 => (∃ z, x = .str z ∧ z.length ≤ sizeLine ∧ Q (.str z) H1) ∨ ∃ i : Int, x = .int i ∧ i.natAbs.log2 < 1920 ∧ Q (.str (toString i)) H1
noncomputable abbrev TJ := Str → St → Hp → VK → Prop
noncomputable def jNil : TJ := fun acc _ H Q => acc.length ≤ sizeLine ∧ Q (.str acc) H
noncomputable def jCons (t : TE) (u : TJ) : TJ := fun acc σ H Q => t σ H fun x H1 => ∃ y, x = .str y ∧ (acc ++ y).length ≤ sizeLine ∧ u (acc ++ y) σ H1 Q
noncomputable def tJoined (t : TJ) : TE := fun σ H Q => t Str.empty σ H Q
/-! ### sep.join(list) -/
noncomputable def rJoin (K : PySem.W.Frag) : V → List V → Hp → VK → Prop := fun x vs H Q => ∃ z a zs, x = .str z ∧ vs = [.ref a] ∧ SqL K H a (zs.map V.str) ∧ JoinOk z zs = true ∧ Q (.str (Txt.join z zs)) H
/-! ### isinstance -/
noncomputable def TyX (K : PySem.W.Frag) (H : Hp) (x : V) (t : Value) : Prop := TyOf K H x t ∨ ∃ a C dx, x = .ref a ∧ t = .ref C ∧ H a = some (XO a C dx) ∧ DxOk dx H ∧ XCls K C
noncomputable def vOf : V → Value
  | .ref a => .ref a
  | .ty n => .type n
  | _ => .none
noncomputable def isCl : V → Bool
  | .ref _ => true
  | .ty _ => true
  | _ => false
noncomputable def rIsx (K : PySem.W.Frag) : List V → Hp → VK → Prop := fun xs H Q => ∃ x c t b, xs = [x, c] ∧ isCl c = true ∧ TyX K H x t ∧ PySem.W.kitOne K t (vOf c) = some b ∧ Q (.bl b) H
noncomputable def rIst (K : PySem.W.Frag) : List V → Hp → VK → Prop := fun xs H Q => ∃ x tp cs t b, xs = [x, .ref tp] ∧ H tp = some (.tup cs) ∧ cs.all isCl = true ∧ TyX K H x t ∧ PySem.W.kitAny K t (cs.map vOf) = some b ∧ Q (.bl b) H
end
section
variable {P : Program} {w : World} {K : PySem.W.Frag} {mg : Str → Option Value} {base : Heap}
end
end L2
namespace L2
end L2
namespace L2
open PySem PySem.Spec PyProof.Rows
end L2

/-! pieces that lie in the heap: (name, stretches, names); what is done to the last one -/
namespace L2
open PySem PySem.Spec PyProof.Rows
set_option genInjectivity false in
structure FillM where
  a : Addr
  at_ : Int
  rule : Str
  name : Str
  add : Int
  soft : Bool
set_option genInjectivity false in
structure StM where
  t : Addr
  lw : Addr
  lf : Addr
  kind : Str
  step : Int
  words : List Int
  fills : List FillM
set_option genInjectivity false in
structure ToldM where
  a : Addr
  name : Str
  sort : Str
  st : Int
  off : Int
set_option genInjectivity false in
structure PcM where
  t : Addr
  ls : Addr
  ln : Addr
  name : Str
  sts : List StM
  nms : List ToldM
noncomputable abbrev FillM.v (f : FillM) : V := .ref f.a
noncomputable abbrev StM.v (s : StM) : V := .ref s.t
noncomputable abbrev ToldM.v (n : ToldM) : V := .ref n.a
noncomputable abbrev PcM.v (p : PcM) : V := .ref p.t
noncomputable def FillM.At (H : Hp) (f : FillM) : Prop := H f.a = some (.tup [.int f.at_, .str f.rule, .str f.name, .int f.add, .bl f.soft])
noncomputable def ToldM.At (H : Hp) (n : ToldM) : Prop := H n.a = some (.tup [.str n.name, .str n.sort, .int n.st, .int n.off])
set_option genInjectivity false in
structure StM.At (H : Hp) (s : StM) : Prop where
  top : H s.t = some (.tup [.str s.kind, .int s.step, .ref s.lw, .ref s.lf])
  wd : H s.lw = some (.lst (s.words.map V.int))
  fl : H s.lf = some (.lst (s.fills.map FillM.v))
  fs : ∀ f ∈ s.fills, f.At H
set_option genInjectivity false in
structure PcM.At (H : Hp) (p : PcM) : Prop where
  top : H p.t = some (.tup [.str p.name, .ref p.ls, .ref p.ln])
  sl : H p.ls = some (.lst (p.sts.map StM.v))
  nl : H p.ln = some (.lst (p.nms.map ToldM.v))
  ss : ∀ s ∈ p.sts, s.At H
  ns : ∀ n ∈ p.nms, n.At H
noncomputable def StM.lists (s : StM) : List Addr := [s.lw, s.lf]
noncomputable def PcM.lists (p : PcM) : List Addr := p.ls :: p.ln :: p.sts.flatMap StM.lists
noncomputable def listsOf (ps : List PcM) : List Addr := ps.flatMap PcM.lists
set_option genInjectivity false in
structure Pcs (H : Hp) (L : Addr) (ps : List PcM) : Prop where
  top : H L = some (.lst (ps.map PcM.v))
  at_ : ∀ p ∈ ps, p.At H
  nd : (L :: listsOf ps).Nodup
/-! ### kept -/
theorem FillM.At.mono {H H' : Hp} {f : FillM} (h : f.At H) (e : Same H H') : f.At H' := e _ _ h
theorem ToldM.At.mono {H H' : Hp} {n : ToldM} (h : n.At H) (e : Same H H') : n.At H' := e _ _ h
theorem StM.At.mono {H H' : Hp} {s : StM} (h : s.At H) (e : Same H H') : s.At H' := ⟨e _ _ h.top, e _ _ h.wd, e _ _ h.fl, fun f hf => (h.fs f hf).mono e⟩
theorem PcM.At.mono {H H' : Hp} {p : PcM} (h : p.At H) (e : Same H H') : p.At H' := ⟨e _ _ h.top, e _ _ h.sl, e _ _ h.nl, fun s hs => (h.ss s hs).mono e, fun n hn => (h.ns n hn).mono e⟩
theorem Pcs.mono {H H' : Hp} {L : Addr} {ps : List PcM} (h : Pcs H L ps) (e : Same H H') : Pcs H' L ps := ⟨e _ _ h.top, fun p hp => (h.at_ p hp).mono e, h.nd⟩
noncomputable def But (H H' : Hp) (l : Addr) : Prop := (∃ xs, H l = some (.lst xs)) ∧ ∀ b o, H b = some o → b ≠ l → H' b = some o
theorem But.upd {H : Hp} {l : Addr} {xs : List V} {o : HO} (h : H l = some (.lst xs)) : But H (L2.upd H l o) l := ⟨⟨xs, h⟩, fun b u e n => by rw [upd_ne n]; exact e⟩
theorem But.tup {H H' : Hp} {l a : Addr} {xs : List V} (b : But H H' l) (h : H a = some (.tup xs)) : H' a = some (.tup xs) := by
  obtain ⟨ys, hl⟩ := b.1
  exact b.2 _ _ h fun e => by rw [e, hl] at h; cases h
theorem FillM.At.but {H H' : Hp} {l : Addr} {f : FillM} (h : f.At H) (b : But H H' l) : f.At H' := b.tup h
theorem ToldM.At.but {H H' : Hp} {l : Addr} {n : ToldM} (h : n.At H) (b : But H H' l) : n.At H' := b.tup h
theorem StM.At.but {H H' : Hp} {l : Addr} {s : StM} (h : s.At H) (b : But H H' l) (n : l ∉ s.lists) : s.At H' :=
  ⟨b.tup h.top, b.2 _ _ h.wd fun e => n (by simp [StM.lists, e]), b.2 _ _ h.fl fun e => n (by simp [StM.lists, e]), fun f hf => (h.fs f hf).but b⟩
theorem PcM.At.but {H H' : Hp} {l : Addr} {p : PcM} (h : p.At H) (b : But H H' l) (n : l ∉ p.lists) : p.At H' :=
  ⟨b.tup h.top, b.2 _ _ h.sl fun e => n (by simp [PcM.lists, e]), b.2 _ _ h.nl fun e => n (by simp [PcM.lists, e]),
    fun s hs => (h.ss s hs).but b fun z => n (by simp only [PcM.lists, List.mem_cons]; exact .inr (.inr (List.mem_flatMap.mpr ⟨s, hs, z⟩))), fun m hm => (h.ns m hm).but b⟩
/-! ### the lists are tracked -/
theorem StM.At.list {H : Hp} {s : StM} (h : s.At H) {b : Addr} (hb : b ∈ s.lists) : ∃ xs, H b = some (.lst xs) := by
  simp only [StM.lists, List.mem_cons, List.not_mem_nil, or_false] at hb
  rcases hb with e | e
  · rw [e]; exact ⟨_, h.wd⟩
  · rw [e]; exact ⟨_, h.fl⟩
theorem PcM.At.list {H : Hp} {p : PcM} (h : p.At H) {b : Addr} (hb : b ∈ p.lists) : ∃ xs, H b = some (.lst xs) := by
  simp only [PcM.lists, List.mem_cons] at hb
  rcases hb with e | e | e
  · rw [e]; exact ⟨_, h.sl⟩
  · rw [e]; exact ⟨_, h.nl⟩
  · obtain ⟨s, hs, z⟩ := List.mem_flatMap.mp e
    exact (h.ss s hs).list z
theorem Pcs.list {H : Hp} {L : Addr} {ps : List PcM} (h : Pcs H L ps) {b : Addr} (hb : b ∈ L :: listsOf ps) : ∃ xs, H b = some (.lst xs) := by
  rcases List.mem_cons.mp hb with e | e
  · rw [e]; exact ⟨_, h.top⟩
  · obtain ⟨p, hp, z⟩ := List.mem_flatMap.mp e
    exact (h.at_ p hp).list z
theorem Pcs.fresh {H : Hp} {L : Addr} {ps : List PcM} (h : Pcs H L ps) {b : Addr} (hb : H b = none) : b ∉ L :: listsOf ps := fun z => by
  obtain ⟨xs, e⟩ := h.list z
  rw [hb] at e; cases e
theorem listsOf_snoc (ps : List PcM) (p : PcM) : listsOf (ps ++ [p]) = listsOf ps ++ p.lists := by simp [listsOf, List.flatMap_append]
theorem Pcs.apart {H : Hp} {L : Addr} {ps : List PcM} {p : PcM} (h : Pcs H L (ps ++ [p])) : (∀ q ∈ ps, ∀ b ∈ p.lists, b ∉ q.lists) ∧ p.lists.Nodup ∧ L ∉ p.lists ∧ ∀ q ∈ ps, L ∉ q.lists := by
  have n := h.nd
  rw [listsOf_snoc] at n
  obtain ⟨n1, n2⟩ := List.nodup_cons.mp n
  obtain ⟨n3, n4, n5⟩ := List.nodup_append.mp n2
  refine ⟨fun q hq b hb z => n5 b (List.mem_flatMap.mpr ⟨q, hq, z⟩) b hb rfl, n4, fun z => n1 (List.mem_append_right _ z), fun q hq z => n1 (List.mem_append_left _ (List.mem_flatMap.mpr ⟨q, hq, z⟩))⟩
/-! ### what is done -/
theorem Pcs.nil {H : Hp} {L : Addr} (h : H L = some (.lst [])) : Pcs H L [] := ⟨h, fun p hp => absurd hp (by simp), by simp [listsOf]⟩
theorem Pcs.newPiece {H : Hp} {L t ls ln : Addr} {nm : Str} {ps : List PcM} (h : Pcs H L ps) (h1 : H t = some (.tup [.str nm, .ref ls, .ref ln])) (h2 : H ls = some (.lst [])) (h3 : H ln = some (.lst [])) (n1 : ls ≠ ln)
    (n2 : ls ∉ L :: listsOf ps) (n3 : ln ∉ L :: listsOf ps) : Pcs (upd H L (.lst (ps.map PcM.v ++ [.ref t]))) L (ps ++ [⟨t, ls, ln, nm, [], []⟩]) := by
  have b : But H (upd H L (.lst (ps.map PcM.v ++ [.ref t]))) L := But.upd h.top
  have nL := (List.nodup_cons.mp h.nd).1
  refine ⟨by rw [upd_same]; simp, fun p hp => ?_, ?_⟩
  · rcases List.mem_append.mp hp with z | z
    · exact (h.at_ p z).but b fun q => nL (List.mem_flatMap.mpr ⟨p, z, q⟩)
    · have e := List.mem_singleton.mp z
      subst e
      refine ⟨b.tup h1, b.2 _ _ h2 fun (e : ls = L) => n2 (e ▸ List.mem_cons_self), b.2 _ _ h3 fun (e : ln = L) => n3 (e ▸ List.mem_cons_self), fun s hs => absurd hs (by simp), fun n hn => absurd hn (by simp)⟩
  · rw [listsOf_snoc]
    show (L :: (listsOf ps ++ [ls, ln])).Nodup
    rw [← List.cons_append]
    refine List.nodup_append.mpr ⟨h.nd, by simp [n1], fun x hx y hy e => ?_⟩
    subst e
    simp only [List.mem_cons, List.not_mem_nil, or_false] at hy
    rcases hy with e | e
    · subst e; exact n2 hx
    · subst e; exact n3 hx
theorem Pcs.last {H : Hp} {L l : Addr} {ps : List PcM} {p p' : PcM} {o : HO} (h : Pcs H L (ps ++ [p])) (hl : l ∈ p.lists) (ht : p'.t = p.t) (hp : p'.At (upd H l o)) (hn : (L :: listsOf (ps ++ [p'])).Nodup) : Pcs (upd H l o) L (ps ++ [p']) := by
  obtain ⟨a1, a2, a3, a4⟩ := h.apart
  obtain ⟨xs, hx⟩ := (h.at_ p (by simp)).list hl
  have b : But H (upd H l o) l := But.upd hx
  refine ⟨?_, fun q hq => ?_, hn⟩
  · rw [b.2 _ _ h.top fun e => a3 (by rw [e]; exact hl)]
    simp [PcM.v, ht]
  · rcases List.mem_append.mp hq with z | z
    · exact (h.at_ q (List.mem_append_left _ z)).but b (a1 q z l hl)
    · rw [List.mem_singleton.mp z]; exact hp
theorem Pcs.newStretch {H : Hp} {L t lw lf : Addr} {kind : Str} {step : Int} {ps : List PcM} {p : PcM} (h : Pcs H L (ps ++ [p])) (h1 : H t = some (.tup [.str kind, .int step, .ref lw, .ref lf])) (h2 : H lw = some (.lst [])) (h3 : H lf = some (.lst []))
    (n1 : lw ≠ lf) (n2 : lw ∉ L :: listsOf (ps ++ [p])) (n3 : lf ∉ L :: listsOf (ps ++ [p])) :
    Pcs (upd H p.ls (.lst (p.sts.map StM.v ++ [.ref t]))) L (ps ++ [{ p with sts := p.sts ++ [⟨t, lw, lf, kind, step, [], []⟩] }]) := by
  have hp := h.at_ p (by simp)
  obtain ⟨a1, a2, a3, a4⟩ := h.apart
  have b : But H (upd H p.ls (.lst (p.sts.map StM.v ++ [.ref t]))) p.ls := But.upd hp.sl
  have in1 : ∀ x, x ∈ p.lists → x ∈ L :: listsOf (ps ++ [p]) := fun x hx => List.mem_cons_of_mem _ (by rw [listsOf_snoc]; exact List.mem_append_right _ hx)
  have hls : p.ls ∈ p.lists := by simp [PcM.lists]
  have nd : p.ls ≠ p.ln ∧ p.ls ∉ p.sts.flatMap StM.lists := by
    have := a2
    simp only [PcM.lists, List.nodup_cons, List.mem_cons, not_or] at this
    exact this.1
  refine h.last hls rfl ⟨b.tup hp.top, by rw [upd_same]; simp, b.2 _ _ hp.nl (Ne.symm nd.1), fun s hs => ?_, fun n hn => (hp.ns n hn).but b⟩ ?_
  · rcases List.mem_append.mp hs with z | z
    · exact (hp.ss s z).but b fun q => nd.2 (List.mem_flatMap.mpr ⟨s, z, q⟩)
    · have e := List.mem_singleton.mp z
      subst e
      exact ⟨b.tup h1, b.2 _ _ h2 fun (e : lw = p.ls) => n2 (in1 _ (e ▸ hls)), b.2 _ _ h3 fun (e : lf = p.ls) => n3 (in1 _ (e ▸ hls)), fun f hf => absurd hf (by simp)⟩
  · have e : L :: listsOf (ps ++ [{ p with sts := p.sts ++ [⟨t, lw, lf, kind, step, [], []⟩] }]) = (L :: listsOf (ps ++ [p])) ++ [lw, lf] := by
      rw [listsOf_snoc, listsOf_snoc]
      simp [PcM.lists, StM.lists, List.flatMap_append]
    rw [e]
    refine List.nodup_append.mpr ⟨h.nd, by simp [n1], fun x hx y hy e => ?_⟩
    subst e
    simp only [List.mem_cons, List.not_mem_nil, or_false] at hy
    rcases hy with e | e
    · subst e; exact n2 hx
    · subst e; exact n3 hx
end L2
namespace L2
open PySem PySem.Spec PyProof.Rows
/-! ### as data -/
noncomputable def FillM.d (f : FillM) : D := .tup [.int f.at_, .str f.rule, .str f.name, .int f.add, .bl f.soft]
noncomputable def StM.d (s : StM) : D := .tup [.str s.kind, .int s.step, .lst (s.words.map D.int), .lst (s.fills.map FillM.d)]
noncomputable def ToldM.d (n : ToldM) : D := .tup [.str n.name, .str n.sort, .int n.st, .int n.off]
noncomputable def PcM.d (p : PcM) : D := .tup [.str p.name, .lst (p.sts.map StM.d), .lst (p.nms.map ToldM.d)]
theorem RepL.map {K : PySem.W.Frag} {H : Hp} {α : Type} {f : α → D} {g : α → V} : ∀ {xs : List α}, (∀ x ∈ xs, Rep K H (f x) (g x)) → RepL K H (xs.map f) (xs.map g)
  | [], _ => by simp [RepL]
  | x :: xs, h => by
    simp only [List.map_cons, RepL]
    exact ⟨_, _, rfl, h x (List.mem_cons_self ..), RepL.map fun y hy => h y (List.mem_cons_of_mem _ hy)⟩
theorem FillM.At.rep {K : PySem.W.Frag} {H : Hp} {f : FillM} (h : f.At H) : Rep K H f.d f.v := by
  simp only [FillM.d, Rep]
  exact ⟨_, _, rfl, SqT.of h, by simp [RepL, Rep]⟩
theorem ToldM.At.rep {K : PySem.W.Frag} {H : Hp} {n : ToldM} (h : n.At H) : Rep K H n.d n.v := by
  simp only [ToldM.d, Rep]
  exact ⟨_, _, rfl, SqT.of h, by simp [RepL, Rep]⟩
theorem StM.At.rep {K : PySem.W.Frag} {H : Hp} {s : StM} (h : s.At H) : Rep K H s.d s.v := by
  simp only [StM.d, Rep]
  refine ⟨_, _, rfl, SqT.of h.top, ?_⟩
  simp only [RepL, Rep]
  exact ⟨_, _, rfl, rfl, _, _, rfl, rfl, _, _, rfl, ⟨_, _, rfl, SqL.of h.wd, RepL.ints _⟩, _, _, rfl, ⟨_, _, rfl, SqL.of h.fl, RepL.map fun f hf => (h.fs f hf).rep⟩, rfl⟩
theorem PcM.At.rep {K : PySem.W.Frag} {H : Hp} {p : PcM} (h : p.At H) : Rep K H p.d p.v := by
  simp only [PcM.d, Rep]
  refine ⟨_, _, rfl, SqT.of h.top, ?_⟩
  simp only [RepL, Rep]
  exact ⟨_, _, rfl, rfl, _, _, rfl, ⟨_, _, rfl, SqL.of h.sl, RepL.map fun s hs => (h.ss s hs).rep⟩, _, _, rfl, ⟨_, _, rfl, SqL.of h.nl, RepL.map fun n hn => (h.ns n hn).rep⟩, rfl⟩
theorem depL_le {α : Type} {f : α → D} {n : Nat} : ∀ {xs : List α}, (∀ x ∈ xs, dep (f x) ≤ n) → depL (xs.map f) ≤ n
  | [], _ => by simp [depL]
  | x :: xs, h => by
    simp only [List.map_cons, depL]
    exact Nat.max_le.mpr ⟨h x (List.mem_cons_self ..), depL_le fun y hy => h y (List.mem_cons_of_mem _ hy)⟩
theorem dep_fill (f : FillM) : dep f.d ≤ 1 := by simp [FillM.d, dep, depL]
theorem dep_told (n : ToldM) : dep n.d ≤ 1 := by simp [ToldM.d, dep, depL]
theorem dep_st (s : StM) : dep s.d ≤ 3 := by
  have h1 : depL (s.words.map D.int) ≤ 0 := depL_le fun x _ => by simp [dep]
  have h2 : depL (s.fills.map FillM.d) ≤ 1 := depL_le fun x _ => dep_fill x
  simp only [StM.d, dep, depL]
  omega
theorem dep_pc (p : PcM) : dep p.d ≤ 5 := by
  have h1 : depL (p.sts.map StM.d) ≤ 3 := depL_le fun x _ => dep_st x
  have h2 : depL (p.nms.map ToldM.d) ≤ 1 := depL_le fun x _ => dep_told x
  simp only [PcM.d, dep, depL]
  omega
theorem Pcs.rep {K : PySem.W.Frag} {H : Hp} {L : Addr} {ps : List PcM} (h : Pcs H L ps) : Rep K H (.lst (ps.map PcM.d)) (.ref L) := by
  simp only [Rep]
  exact ⟨_, _, rfl, SqL.of h.top, RepL.map fun p hp => (h.at_ p hp).rep⟩
noncomputable def StM.core (s : StM) : Str × Int × List Int × List FillM := (s.kind, s.step, s.words, s.fills)
end L2

/-! own errors with an __init__ of their own -/
namespace L2
open PySem PySem.Spec PyProof.Rows PySem.W
noncomputable abbrev VE : List Value := [.type "ValueError", .type "Exception", .type "BaseException", .type "object"]
noncomputable def ownInit (K : Frag) (C fI : Addr) : Bool :=
  match K.lookup C with
  | none => false
  | some ob =>
    match ob.cls, ob.data, ob.slots.toList with
    | .type "type", .cls cd, [_, _, _, _, some (.builtin n), _] =>
      (match cd.mro with
       | .ref C' :: bm => C' == C && (n == "ValueError.__new__" && (!cd.hasDel && (tailIn K VE bm && (nsOkIn K cd.ns && (cd.hasDict && nsIn K cd.ns "__init__" == some (some (.ref fI)))))))
       | _ => false)
    | _, _, _ => false
section
variable {prog : Program} {w : World} {A : Around} {E : Value → Shared → Prop} {h : Heap} {g : Array GenState} {d : Drawn} {t : Nat} {os : OsState}
variable {nm q : Str} {C N : Addr} {bs bm bmB : List Value} {hdct : Bool} {sn : List Str} {sub : List Value} {ab : Bool} {col : Option Bool} {dd : Option Addr} {k0 k1 k2 k3 k5 : Option Value} {B newId initId : String}
end
/-! ### self.f = v of an error that is being made -/
noncomputable def onlyErr : List Value → Bool
  | .ref _ :: r => onlyErr r
  | l => l == VE
noncomputable def errIn (K : Frag) (C : Addr) : Bool := (clsIn K C).any fun cd => cd.hasDict && onlyErr cd.mro
section
variable {prog : Program} {w : World} {A : Around} {E : Value → Shared → Prop} {s : Shared} {K : Frag} {x C : Addr} {R : Result → Shared → Prop}
end
end L2

namespace L2
open PySem PySem.Spec PyProof.Rows PySem.W
section
variable {M : Model} {A : Around} {E : Value → Shared → Prop} {env : Env}
variable {nm q : Str} {C N : Addr} {bs bm : List Value} {hdct : Bool} {sn : List Str} {sub : List Value} {ab : Bool} {col : Option Bool} {dd : Option Addr} {k0 k1 k2 k3 k5 : Option Value} {newId : String}
end
section
variable {prog : Program} {w : World} {A : Around} {E : Value → Shared → Prop} {s : Shared} {env : Env}
variable {nm q : Str} {C N : Addr} {bs bm bmB : List Value} {hdct : Bool} {sn : List Str} {sub : List Value} {ab : Bool} {col : Option Bool} {dd : Option Addr} {k0 k1 k2 k3 k5 : Option Value} {B newId initId : String}
end
/-! ### an error that is being made -/
noncomputable def XN (a C : Addr) (dx : Option Addr) : HO := .ext fun h => ∃ ob vs v0, h.get? a = some ob ∧ ob.cls = .ref C ∧ ob.dict = dx ∧ ob.data = .fields vs ∧ vs[0]? = some v0 ∧ vs[1]? = some .none
noncomputable def XD (d : Addr) (fs : List (Str × V)) : HO := .ext fun h => ∃ mA, h.Ns1 d mA ∧ (∀ f, RelO (fs.lookup f) (mA f)) ∧ PySem.Within mA (fs.map (·.1))
noncomputable def del (H : Hp) (a : Addr) : Hp := fun b => if b = a then none else H b
section
variable {X : Cx} {pins : List (Addr × Obj)} {σ : St} {H : Hp} {s : Shared} {a C : Addr} {φ : Heap → Prop}
end
end L2

namespace L2
open PySem PySem.Spec PyProof.Rows PySem.W
set_option genInjectivity false in
structure ErrC (K : Frag) (C f : Addr) : Prop where
  ini : ownInit K C f = true
  ei : errIn K C = true
  sa : findIn K (.ref C) "__setattr__" = some (some (.builtin "object.__setattr__"))
  fn : isFn K (.ref f) = true
noncomputable def tRaiseI (C : Addr) (sp : Sp) (E : XK) (t : TA) : TS := fun _ σ H => t σ H fun vs H1 => vs.length ≤ sizeLine ∧ ∀ x, H1 x = none → sp (.ref x :: vs) (upd H1 x (XN x C none)) (fun v H2 => v = .non ∧
  ((H2 x = some (XN x C none) ∧ E (.ref C) none (del H2 x)) ∨ ∃ d fs, d ≠ x ∧ H2 x = some (XN x C (some d)) ∧ H2 d = some (XD d fs) ∧ E (.ref C) (some d) (del (upd H2 d (.xd fs)) x))) E0
noncomputable def tXInit (K : Frag) (t : TA) : TE := fun σ H Q => t σ H fun vs H1 => ∃ a C dx rest f, vs = .ref a :: rest ∧ H1 a = some (XN a C dx) ∧ ErrC K C f ∧ rest.length ≤ sizeLine ∧ Q .non H1
noncomputable def sXFld (K : Frag) (ta tv : TE) (f : Str) : TS := fun D σ H => tv σ H fun y H1 => ta σ H1 fun x H2 => ∃ a C fI dx, x = .ref a ∧ H2 a = some (XN a C dx) ∧ ErrC K C fI ∧ NoAttr K C f ∧
  ((dx = none ∧ ∀ d, H2 d = none → D.nx σ (upd (upd H2 d (XD d [(f, y)])) a (XN a C (some d)))) ∨ ∃ d fs, dx = some d ∧ H2 d = some (XD d fs) ∧ fs.length < 1000 ∧ D.nx σ (upd H2 d (XD d (putF f y fs))))
noncomputable def tXFld (K : Frag) (ta : TE) (f : Str) : TE := fun σ H Q => ta σ H fun x H1 => ∃ a C d fs v, x = .ref a ∧ H1 a = some (XO a C (some d)) ∧ H1 d = some (.xd fs) ∧ XCls K C ∧ hasDictIn K C = true ∧ NoAttr K C f ∧ fs.lookup f = some v ∧ Q v H1
section
variable {X : Cx} {x f : Str} {B C fI : Addr} {k : Nat} {fd : FuncData} {ps : List Str} {sp : Sp} {E : XK} {e o value : Expr} {es : List Expr} {p np apos cpos pos pos' : Pos} {t : TA} {ta tv : TE}
end
end L2

namespace L2
open PySem PySem.Spec PyProof.Rows
section
variable {X : Cx}
theorem pss_weak {b : List Stmt} {t u : TS} (h : PSs X b t) (w : ∀ D σ H, u D σ H → t D σ H) : PSs X b u := fun pins s σ H D I q => h pins s σ H D I (w D σ H q)
end
end L2

/-! x = [.. for ..]: the store is done while the comprehension's frame stands yet -/
namespace L2
open PySem PySem.Spec PyProof.Rows
section
variable {X : Cx}
theorem ps_setC {elt iter tg : Expr} {ifs : List Expr} {scope : Scope} {pos spos py : Pos} {y : Str} {i : Nat} {N' : List Str} {k : Nat} {fm : List Nat} {wi : TI} {g : TG} {tt : TT} {te : TE} (hN : X.N.Nodup) (hi' : X.N[i]? = some y) (hy : Loc X.env.scope y) (B : BlkScope X N' k fm scope) (hc : X.calm = true) (hi : PI X tg iter wi)
    (hb : ∀ fp s H, PG (blk X N' scope fp s H) tg g ∧ PTs (blk X N' scope fp s H) ifs tt ∧ PE (blk X N' scope fp s H) elt te)
    (hsw : swapsWith (.ListComp elt [⟨tg, iter, ifs, 0⟩] scope pos) (some (.Name y py)) spos.line X.env = pure true := by rfl)
    (hs : ∀ x, foldedSetIterable iter X.env x = pure x := by intro _; rfl) (hfn : X.fn y = true ∨ X.env.scope.names.lookup y = some .local := by first | exact .inl rfl | exact .inr rfl | assumption) :
    PS X (.Assign [.Name y py] (.ListComp elt [⟨tg, iter, ifs, 0⟩] scope pos) spos) (tAsg (tComp k fm wi g tt te) (gName i)) := by
  intro pins s σ H DD I h
  have hfree : ∀ x ∈ scope.names, x.2 = .free → ∃ c, X.env.cells.lookup x.1 = some c := fun x hx hk => I.ok.has x.1 (B.free x hx hk)
  rw [exec_Assign_Name_used _ _ _ _ hsw]
  refine wpAny_bind (wpAny_standAt (wpAny_bind ?_))
  show wpAny _ X.A (do let _ ← comprehension (.ListComp elt [⟨tg, iter, ifs, 0⟩] scope pos) scope X.env _ (newList []) false (eval iter X.env) (some (assign (.Name y py) X.env))) _ _ s
  refine wpAny_bind (wpAny_mono (wpAny_comprehension_free (use := some (assign (.Name y py) X.env)) (Q := fun _ s' => SP X pins DD .next s') rfl hs (closureFor_eq hfree) B.kind B.names (thn (hi pins s σ H _ I h) fun v s1 h1 => thn h1 fun itv s2 h2 => ?_)) (fun _ s' hq => wpAny_pure (wpAny_pure hq)) fun _ _ e => e)
  obtain ⟨it, fp, tn, J, H2, e, I2, T, st2, f2, h2⟩ := h2
  subst e
  obtain ⟨W, ⟨m0, w0⟩, turn⟩ := h2 s2.heap.objs.size I2.fresh
  refine wpAny_newObj_type (wpAny_newFunctionEnv B.nocell (by intro y hy; simp at hy) (fun h4 hns4 hsb4 => ?_) B.kind)
  have I3 := I2.lnew (its := []) (ys := []) (t' := s2.toks) .nil (Nat.zero_le _)
  have hf3 : ∀ b ∈ fp, FpOk X pins (upd H2 s2.heap.objs.size (.lst [])) b := fun b hb => by
    obtain ⟨o, e, _⟩ := T.obj _ _ st2 b hb
    refine ⟨?_, (f2 b hb).2⟩
    rw [upd_ne (fun z => Nat.lt_irrefl _ (z ▸ Heap.lt_size e))]
    exact (f2 b hb).1
  have ho3 : ∀ b ∈ fp, ∃ o, (s2.heap.push { cls := .type "list", data := .seq ([] : List Value).toArray }).get? b = some o := fun b hb => by
    obtain ⟨o, e, _⟩ := T.obj _ _ st2 b hb
    exact ⟨o, Heap.get?_push_of_some _ e⟩
  have kp4 : ∀ b o, (s2.heap.push { cls := .type "list", data := .seq ([] : List Value).toArray }).get? b = some o → h4.get? b = some o := fun b o e =>
    hsb4.extBut b o (fun z => Nat.lt_irrefl _ (z ▸ Heap.lt_size e)) (Heap.get?_push_of_some _ e)
  have I4 := I3.block (fp := fp) (h' := h4) (tk := s2.toks + ([] : List (Str × Value)).length) B hf3 ho3 hns4 kp4
  generalize hs3 : ({ s2 with heap := s2.heap.push { cls := .type "list", data := .seq ([] : List Value).toArray }, toks := s2.toks } : Shared) = s3 at *
  obtain ⟨hg, ht, he⟩ := hb fp s3 (upd H2 s2.heap.objs.size (.lst []))
  have st4 : tn 0 h4 := T.keep _ _ _ st2 fun b hb o e => kp4 b o (Heap.get?_push_of_some _ e)
  have stat : ∀ {H' : Hp}, (∀ b ∈ fp, H' b = none) → ∀ b ∈ fp, FpOk (blk X N' scope fp s3 (upd H2 s2.heap.objs.size (.lst []))) [] H' b := fun {H'} hn b hb => by
    obtain ⟨f0, f1, f3, f4, f5, f6⟩ := hf3 b hb
    obtain ⟨g1, g2⟩ := I4.ok.exf b hb
    exact ⟨hn b hb, g1, I4.ok.exfs b hb, .inl hb, g2, fun p hp => f6 p ((List.mem_append.mp hp).elim (fun z => List.mem_append_left _ z) fun z => absurd z (by simp))⟩
  have loop : codeAny (model X.prog X.w) X.A (.compLoop (.ListComp elt [⟨tg, iter, ifs, 0⟩] scope pos) 0 (.ref it) (.ref s2.heap.objs.size) (compEnvC scope (clOf X.env scope.names []) s3.heap.objs.size X.env))
      (compPost (model X.prog X.w) X.A X.xe (some (assign (.Name y py) X.env)) (fun _ s' => SP X pins DD .next s') (.ref s2.heap.objs.size) s3.heap.objs.size) { s3 with heap := h4, toks := s2.toks + ([] : List (Str × Value)).length } := by
    refine blk_loop (X := blk X N' scope fp s3 (upd H2 s2.heap.objs.size (.lst []))) (D := s2.heap.objs.size) (Q := fun v H' => DD.nx (σ.set i (some v)) H') (W := W) (m0 := m0) rfl hc T stat hg ht he turn I4 st4 (fun b hb => (hf3 b hb).1) w0 ?_
    intro H' s' I' q
    obtain ⟨m, hn, _⟩ := I'.loc
    have hCn : s3.heap.get? s3.heap.objs.size = none := by
      cases e : s3.heap.get? s3.heap.objs.size with
      | none => rfl
      | some o => exact absurd (Heap.lt_size e) (Nat.lt_irrefl _)
    have J : ∀ h'' : Heap, (∀ b o, b ≠ s3.heap.objs.size → s'.heap.get? b = some o → h''.get? b = some o) → Inv X pins σ H' { s' with heap := h'' } := fun h'' hk => by
      have u : Un (frs X.stack) fp (upd H2 s2.heap.objs.size (.lst [])) H' s3.heap h'' := Un.tail I'.base hk hCn
      refine I3.call' (s' := { s' with heap := h'' }) (ch := fp) I'.os u (I'.hok.tail hk I'.free) I'.bare fun b hb => ?_
      obtain ⟨f0, f1, f3, f4, f5, f6⟩ := hf3 b hb
      exact ⟨f4, f1, f5, f6⟩
    have J1 : Inv X pins σ H' s' := J s'.heap fun _ _ _ e => e
    obtain ⟨oC, es, ep, hoC, hdC, rC⟩ := hn
    have hCf : H' s3.heap.objs.size = none := I'.free
    have hCL : s3.heap.objs.size ≠ X.env.locals := Ne.symm (Nat.ne_of_lt I3.lt)
    have hCfs := I3.nofs (Nat.le_refl _)
    have J2 : Inv X (pins ++ [(s3.heap.objs.size, oC)]) σ H' s' := J1.pins_of fun p hp => by
      rcases List.mem_append.mp hp with z | z
      · exact J1.pin p (List.mem_append_right _ z)
      · rw [List.mem_singleton.mp z]
        exact ⟨hoC, hCf, hCL, hCfs, fun v e => by rw [hdC] at e; cases e⟩
    show wpAny _ X.A (assign (.Name y py) X.env (.ref s2.heap.objs.size)) _ _ _
    refine wpAny_assign_Name (store_ok J2 hN hi' hy (v := .ref s2.heap.objs.size) rfl (fun s5 I5 => ?_) hfn)
    have hC5 := (I5.pin (s3.heap.objs.size, oC) (List.mem_append_right _ (List.mem_append_right _ (List.mem_singleton.mpr rfl)))).1
    refine ⟨m, ⟨oC, es, ep, hC5, hdC, rC⟩, fun h'' hs'' => ?_⟩
    have I6 : Inv X pins (σ.set i (some (.ref s2.heap.objs.size))) H' s5 := I5.pins_of fun p hp => I5.pin p (List.mem_append_right _ (List.mem_append_left _ hp))
    refine ⟨_, H', I6.turned (t' := s5.toks) (it := s3.heap.objs.size) (fun b o hb e => hs''.extBut b o hb e) hCf hCL (.inr I3.sz) (fun x c e z => ?_) (fun p hp z => ?_), q⟩
    · obtain ⟨v, o, ho, _⟩ := I3.cell x c e
      rw [z] at ho
      exact absurd (Heap.lt_size ho) (Nat.lt_irrefl _)
    · have z' := (I3.pin p hp).1
      rw [z] at z'
      exact absurd (Heap.lt_size z') (Nat.lt_irrefl _)
  subst hs3
  exact codeAny_compStart_list loop (T.self X.A 0 _ _ _ st4 loop)
end
end L2

/-! dict(d), d == e, xs.count(x) -/
namespace L2
open PySem PySem.Spec PyProof.Rows
section
variable {prog : Program} {w : World} {K : Type} [DecidableEq K] {knd : KeyKind prog w K} {A : Around} {E : Value → Shared → Prop} {s : Shared}
end
section
variable {X : Cx}
noncomputable def rEqDict (K : PySem.W.Frag) : R2 := fun x y H Q => ∃ p q kvs, x = .ref p ∧ y = .ref q ∧ H p = some (.dK kvs) ∧ H q = some (.dK kvs) ∧ (∀ kv ∈ kvs, ∃ d, Rep K H d kv.2 ∧ dep d ≤ 20) ∧ Q (.bl true) H
noncomputable def rDictOf : List V → Hp → VK → Prop := fun xs H Q => ∃ p kvs, xs = [.ref p] ∧ H p = some (.dK kvs) ∧ ∀ q, H q = none → Q (.ref q) (upd H q (.dK kvs))
noncomputable def cntV (x : V) (xs : List V) : Nat := xs.countP fun y => eqV y x
noncomputable def rCount (K : PySem.W.Frag) : V → List V → Hp → VK → Prop := fun x vs H Q => ∃ p xs y, x = .ref p ∧ vs = [y] ∧ SqL K H p xs ∧ flatV y = true ∧ xs.all flatV = true ∧ Q (.int (cntV y xs : Nat)) H
end
end L2

/-! a comprehension whose element may raise -/
namespace L2
open PySem PySem.Spec PyProof.Rows
section
variable {M : Model} {A : Around} {E : Value → Shared → Prop} {s : Shared}
end
section
variable {prog : Program} {w : World} {A : Around} {R : Result → Shared → Prop} {s : Shared}
end
section
variable {X : Cx}
noncomputable def tCompX (E : XK) (k : Nat) (fm : List Nat) (wi : TI) (g : TG) (tt : TT) (te : TEX) : TE := fun σ H Q => wi σ H fun J H1 => ∀ D, H1 D = none → ∃ W : Nat → Nat → List V → Hp → Prop,
  (∃ m, W 0 m [] (upd H1 D (.lst []))) ∧ ∀ i m ys H2, W i m ys H2 → H2 D = some (.lst ys) ∧ ys.length < sizeLine ∧ ((J.stop i H2 ∧ Q (.ref D) H2) ∨ (J.go i H2 ∧ ∃ N : List V → Hp → Prop, (∀ ys' H', N ys' H' → ∃ m', m' < m ∧ W (i + 1) m' ys' H') ∧ ∀ x H3, J.yld i H2 x H3 →
    g x (blkSt k fm σ) H3 fun σ3 H4 => Ext (blkSt k fm σ) σ3 ∧ tt σ3 H4 fun b H5 => if b = true then te σ3 H5 (fun y H6 => H6 D = some (.lst ys) ∧ N (ys ++ [y]) (upd H6 D (.lst (ys ++ [y])))) E else N ys H5))
end
/-! ### the readings -/
noncomputable def CompWX (E : XK) (g : TG) (tt : TT) (te : TEX) (σ0 : St) (Q : VK) (J : It) (H1 : Hp) : Prop := ∀ DD, H1 DD = none → ∃ W : Nat → Nat → List V → Hp → Prop,
  (∃ m, W 0 m [] (upd H1 DD (.lst []))) ∧ ∀ i m ys H2, W i m ys H2 → H2 DD = some (.lst ys) ∧ ys.length < sizeLine ∧ ((J.stop i H2 ∧ Q (.ref DD) H2) ∨ (J.go i H2 ∧ ∃ N : List V → Hp → Prop, (∀ ys' H', N ys' H' → ∃ m', m' < m ∧ W (i + 1) m' ys' H') ∧ ∀ x H3, J.yld i H2 x H3 →
    g x σ0 H3 fun σ3 H4 => Ext σ0 σ3 ∧ tt σ3 H4 fun b H5 => if b = true then te σ3 H5 (fun y H6 => H6 DD = some (.lst ys) ∧ N (ys ++ [y]) (upd H6 DD (.lst (ys ++ [y])))) E else N ys H5))
noncomputable def CompLX (K : PySem.W.Frag) (E : XK) (g : TG) (tt : TT) (te : TEX) (σ0 : St) (Q : VK) : VK := fun x H1 => ∃ a, x = .ref a ∧ (∃ xs, SqL K H1 a xs) ∧ CompWX E g tt te σ0 Q (Itl K a) H1
section
variable {K : PySem.W.Frag} {k : Nat} {fm : List Nat} {tl : TE} {te : TEX} {g : TG} {tt : TT} {σ σ0 : St} {H H1 : Hp} {Q : VK} {E : XK}
theorem tCompX_list : tCompX E k fm (iList K tl) g tt te σ H Q = tl σ H (CompLX K E g tt te (blkSt k fm σ) Q) := rfl
end
section
variable {M : Model} {A : Around} {E : Value → Shared → Prop} {s : Shared}
end
end L2

/-! lists and dicts cleared -/
namespace L2
open PySem PySem.Spec PyProof.Rows
section
variable {X : Cx}
end
end L2

/-! sorted(..) of texts: of a list, of a dict's keys -/
namespace L2
open PySem PySem.Spec PyProof.Rows
section
variable {X : Cx}
theorem refs_of : ∀ {as : List Addr} {us : List Value}, Vals (as.map V.ref) us → us = as.map Value.ref
  | [], [], .nil => rfl
  | a :: as, u :: us, .cons r t => by
    cases r
    rw [refs_of t]; rfl
noncomputable def rInD (K : PySem.W.Frag) (neg : Bool) : R2 := fun x y H Q => ∃ (p : Addr) (as : List Addr) (g : Addr → D) (d : D), y = .ref p ∧ SqL K H p (as.map V.ref) ∧ (∀ a ∈ as, Rep K H (g a) (.ref a) ∧ dep (g a) ≤ 20) ∧ Rep K H d x ∧ Q (.bl (if neg then !(as.any fun a => deq (g a) d) else as.any fun a => deq (g a) d)) H
end
end L2

/-! dict(list of pairs) -/
namespace L2
open PySem
section
variable {prog : Program} {w : World} {A : Around} {E : Value → Shared → Prop} {s : Shared}
theorem lk_list_keys : typeLookup (.type "list") "keys" = pure none := by rw [typeLookup_type, builtinLookup_eq_fast]; kernel_rfl
set_option maxHeartbeats 3200000 in
theorem keys_miss_list {a : Addr} {xs : Array Value} {Q : Option Value → Shared → Prop} (hL : PlainL s.heap a xs) (hA : A.handled = none)
    (h : ∀ h' tk, (∀ b o, s.heap.get? b = some o → h'.get? b = some o) → Q none { s with heap := h', toks := tk }) :
    wpAny (model prog w) A (getAttr? (.ref a) "keys") Q E s := by
  obtain ⟨o, k, hx, hc, hd, hdat⟩ := hL
  obtain ⟨c, dct, dat, sl⟩ := o
  simp only at hc hdat hd
  subst hc hdat hd
  obtain ⟨hp, g, d, tk, os⟩ := s
  have hT : ∀ tk', (⟨hp, g, d, tk', os⟩ : Shared).TypeIs (.ref a) "list" := fun _ => ⟨_, hx, rfl⟩
  have f1 := sub_AttributeError
  have f3 := F.slot_list_getattribute.lookup
  have f4 := F.slot_list_getattribute.bind (.ref a)
  have f5 := am_list_getattr_none
  unfold getAttr? getAttrBy? getAttrBy
  repeat (any_goals (first | assumption | exact hT _ | ((with_reducible show wpAny _ _ (call (Value.builtin "list.__getattribute__") _ _) _ _ _); refine call_meets F.slot_list_getattribute (hT _) am_entry_list_getattribute (F.args_list_getattribute_2 _ _) (meets_getattribute_miss_list a xs k sl "keys" _ lk_list_keys (by decide +kernel)) ⟨hx, hA, fun h' tk' e hx' => ?_⟩) | wp_step))
  obtain ⟨t', u', he⟩ := hx'.there
  show wpAny _ _ (getattributeRaised _ _ _ _ _ _ _) _ _ _
  unfold getattributeRaised
  repeat (any_goals (first | assumption | wp_step))
  exact h h' tk' hx'.keeps
theorem entry_dul : entryFor table "dict.update.loop" = some Builtin.«dict.update.loop» := entryFor_of_tree (by kernel_rfl)
theorem plain_dul : plainId "dict.update.loop" = true := by decide +kernel
noncomputable def PairAt (h : Heap) (a : Addr) (u v : Value) : Prop := ∃ o n, h.get? a = some o ∧ o.cls = .type "tuple" ∧ o.data = .seq #[u, v] n
theorem dict_keep {K : Type} [DecidableEq K] {knd : KeyKind prog w K} {h h' : Heap} {S : Addr} {kvs : List (K × Value)} (d : h.DictOf knd S kvs) (k : ∀ o, h.get? S = some o → h'.get? S = some o) : h'.DictOf knd S kvs := by
  obtain ⟨o, es, ep, ho, r⟩ := d
  exact ⟨o, es, ep, k o ho, r⟩
set_option maxHeartbeats 3200000 in
theorem dul_loop {K : Type} [DecidableEq K] {knd : KeyKind prog w K} {R : Result → Shared → Prop} {I : Addr} {fp wr : List Addr} {G : Array GenState → Array GenState → Prop} {n : Nat} {P : Nat → Value → Prop} {St : Nat → Shared → Prop} (W : WalksS prog w A.in1 I fp wr G n P St) (S : Addr) (hSf : S ∉ fp)
    (at_ : Nat → Addr) (us vs : Nat → Value) (ks : Nat → K) (hval : ∀ i v, P i v → v = .ref (at_ i)) (hk : ∀ i, i < n → knd.is (ks i) (us i) = true) (hne : ∀ i, i < n → at_ i ≠ S ∧ at_ i ∉ wr) (hb : n + 1 < sizeLine) :
    ∀ (k i : Nat) (s : Shared) (kvs : List (K × Value)), n - i = k → i ≤ n → St i s → s.heap.DictOf knd S kvs → kvs.length ≤ i → (∀ j, j < n → PairAt s.heap (at_ j) (us j) (vs j)) → kvs = merged [] ((List.range i).map fun j => (ks j, vs j)) → ∀ t : Tok,
      (∀ s', Moved (S :: wr) G s s' → s'.heap.DictOf knd S (merged [] ((List.range n).map fun j => (ks j, vs j))) → R (.ok (.ret .none)) s') →
      codeAny (model prog w) A (.builtin "dict.update.loop" ⟨[.ref S, .ref I, .int i t, .none], []⟩) R s := by
  have hSw : S ∉ wr := fun h => hSf (W.sub _ h)
  have sub : ∀ b ∈ wr, b ∈ S :: wr := fun b hb => List.mem_cons_of_mem _ hb
  intro k
  induction k with
  | zero =>
    intro i s kvs hk' hi st hS hl hp em t hR
    obtain rfl : i = n := by omega
    refine codeAny_builtin entry_dul ?_; rw [Around.under_plainId plain_dul _]
    show wpAny _ A.in1 (pyNext (.ref I) >>= _) _ _ s
    refine wpAny_bind (W.done s _ _ st fun s' mv => ?_)
    show wpAny _ _ (Builtin.Dict.addKeywords S [] >>= fun _ => ret Value.none) _ _ _
    refine wpAny_bind (wpAny_pure (wpAny_pure ?_))
    exact hR s' (mv.mono sub) (em ▸ dict_keep hS fun o z => mv.heap S o hSw z)
  | succ k ih =>
    intro i s kvs hk' hi st hS hl hp em t hR
    have lt : i < n := by omega
    refine codeAny_builtin entry_dul ?_; rw [Around.under_plainId plain_dul _]
    show wpAny _ A.in1 (pyNext (.ref I) >>= _) _ _ s
    refine wpAny_bind (W.item i s _ _ lt st fun v s' hP st' mv => ?_)
    obtain rfl := hval i v hP
    have hS' : s'.heap.DictOf knd S kvs := dict_keep hS fun o z => mv.heap S o hSw z
    have hp' : ∀ j, j < n → PairAt s'.heap (at_ j) (us j) (vs j) := fun j hj => by
      obtain ⟨o, m, e, c, d⟩ := hp j hj
      exact ⟨o, m, mv.heap _ o (hne j hj).2 e, c, d⟩
    obtain ⟨o, m, ho, hc, hd⟩ := hp' i lt
    show wpAny _ A.in1 (holding [Value.ref (at_ i)] (Sem.tryCatch (Builtin.Dict.pairItems (Value.ref (at_ i))) _ >>= _) >>= _) _ _ s'
    refine wpAny_bind (wpAny_holding (wpAny_bind (wpAny_tryCatch ?_)))
    unfold Builtin.Dict.pairItems
    refine wpAny_bind (wpAny_typeOf_ref ho ?_)
    rw [hc, if_pos (by decide)]
    refine wpAny_bind (wpAny_seqItems ho hd (wpAny_pure ?_))
    show wpAny _ A.in1 (holding [us i, vs i] (dictSet S (us i) (vs i))) _ _ s'
    refine wpAny_holding (wpAny_dictSet_pairs (hk i lt) hS' (fun h' dd sb => ?_) )
    have er : rawInt ((i : Int) + 1) = Value.int ((i + 1 : Nat) : Int) 0 := rfl
    rw [er]
    refine wpAny_pure ⟨plainId_quiet plain_dul _, ih (i + 1) _ _ (by omega) lt (W.frame _ s' _ _ st' (Nat.le_succ _) fun b hb o e => ?_) dd (Nat.le_trans (stored_length_le kvs (ks i) (vs i)) (by omega)) (fun j hj => ?_) ?_ _ fun s'' mv' dd' => ?_⟩
    · rw [sb.2 b (fun h : b = S => hSf (by rw [← h]; exact hb))]; exact e
    · obtain ⟨o, m, e, c, d⟩ := hp' j hj
      exact ⟨o, m, (sb.2 _ (hne j hj).1).trans e, c, d⟩
    · rw [em, List.range_succ, List.map_append]
      unfold merged
      rw [List.foldl_append]
      rfl
    · refine hR s'' (Moved.trans W.gtrans ((mv.mono sub).then_heap (Nat.le_succ _) fun b o hb e => ?_) mv') dd'
      rw [sb.2 b (fun h : b = S => hb (by rw [h]; exact List.mem_cons_self))]; exact e
set_option maxHeartbeats 3200000 in
theorem call_dictL {K : Type} [DecidableEq K] {knd : KeyKind prog w K} {s : Shared} {l : Addr} {items : Array Value} {at_ : Nat → Addr} {us vs : Nat → Value} {ks : Nat → K} {Q : Value → Shared → Prop} (hh : A.handled = none) (hl : PlainL s.heap l items)
    (hi : ∀ (i : Nat) (v : Value), items[i]? = some v → v = .ref (at_ i)) (hk : ∀ i, i < items.size → knd.is (ks i) (us i) = true) (hp : ∀ j, j < items.size → PairAt s.heap (at_ j) (us j) (vs j)) (hb : items.size + 1 < sizeLine)
    (h : ∀ (h' : Heap) (tk : Nat), h'.DictOf knd s.heap.objs.size (merged [] ((List.range items.size).map fun j => (ks j, vs j))) → (∀ b o, s.heap.get? b = some o → h'.get? b = some o) → Q (.ref s.heap.objs.size) { s with heap := h', toks := tk }) :
    wpAny (model prog w) A (call (.type "dict") [.ref l]) Q E s := by
  refine callType_codes (Q₁ := fun obj s₁ => obj = .ref s.heap.objs.size ∧ s₁ = { s with heap := s.heap.push { cls := .type "dict", data := .dict #[] } }) F.kt_called_dict (F.kt_typeCall_dict_1 _) F.entry_dict_init (kt_code_dict_new _ ⟨rfl, rfl⟩) ?_
  rintro obj s₁ ⟨rfl, rfl⟩
  have hnew : (s.heap.push { cls := .type "dict", data := .dict #[] }).DictOf knd s.heap.objs.size [] := Heap.DictOf.new s.heap
  refine ⟨hnew.typeIs, F.args_dict_init_2 _ _, ?_⟩
  unfold Builtin.«dict.__init__»
  refine wpAny_bind ?_
  unfold Builtin.Dict.selfAndRest
  refine wpAny_bind (wpAny_notOrdered_dict hnew.typeIs ?_)
  show wpAny _ _ (pure (s.heap.objs.size, [Value.ref l])) _ _ _
  refine wpAny_pure ?_
  show wpAny _ _ (Builtin.Dict.updateFrom "dict.__init__" s.heap.objs.size (.ref l) [] .none) _ _ _
  unfold Builtin.Dict.updateFrom
  have hl1 : PlainL (s.heap.push { cls := .type "dict", data := .dict #[] }) l items := hl.keeps fun b o e => Heap.get?_push_of_some _ e
  obtain ⟨ol, nl, hol, hcl, _⟩ := id hl1
  refine wpAny_bind (wpAny_typeOf_ref hol ?_)
  rw [hcl, if_pos (by decide)]
  refine wpAny_bind (keys_miss_list hl1 (by simp [hh]) fun h2 tk2 kp => ?_)
  rw [if_pos (show (none : Option Value).isNone = true from rfl)]
  have hl2 : PlainL h2 l items := hl1.keeps kp
  have hn2 : h2.DictOf knd s.heap.objs.size [] := dict_keep hnew fun o e => kp _ o e
  refine wpAny_bind (wpAny_rule ?_)
  refine wpAny_bind (wpAny_pyIter_list hl2.isList ?_)
  have keep2 : ∀ b o, s.heap.get? b = some o → h2.get? b = some o := fun b o e => kp b o (Heap.get?_push_of_some _ e)
  have lS : s.heap.objs.size < h2.objs.size := by
    obtain ⟨o, _, _, ho, _⟩ := hn2
    exact Heap.lt_size ho
  have lL : l < h2.objs.size := hl2.lt
  have h3 : A.in1.in1.handled = none := by simp [hh]
  have nI : l ≠ h2.objs.size := Nat.ne_of_lt lL
  have lt0 : ∀ j, j < items.size → at_ j < s.heap.objs.size := fun j hj => by
    obtain ⟨o, m, e, _⟩ := hp j hj
    exact Heap.lt_size e
  have hSf : s.heap.objs.size ∉ [h2.objs.size, l] := by
    simp only [List.mem_cons, List.not_mem_nil, or_false, not_or]
    exact ⟨Nat.ne_of_lt lS, Nat.ne_of_gt hl.lt⟩
  refine wpAny_pure ⟨plainId_quiet plain_dul _, ?_⟩
  refine dul_loop (knd := knd) ((Walks.list h3 _ l nI items).toS) s.heap.objs.size hSf at_ us vs ks hi hk (fun j hj => ⟨Nat.ne_of_lt (lt0 j hj), ?_⟩) hb (items.size - 0) 0 _ [] (by omega) (Nat.zero_le _) ⟨⟨_, Heap.get?_push_size _ rfl, rfl, rfl⟩, hl2.isList.push _⟩ (dict_keep hn2 fun o z => Heap.get?_push_of_some _ z) (Nat.zero_le _) (fun j hj => ?_) rfl 0 fun s' mv dd => ?_
  · simp only [List.mem_cons, List.not_mem_nil, or_false]
    exact Nat.ne_of_lt (Nat.lt_trans (lt0 j hj) lS)
  · obtain ⟨o, m, e, c, d⟩ := hp j hj
    exact ⟨o, m, Heap.get?_push_of_some _ (keep2 _ _ e), c, d⟩
  · obtain ⟨h', g', d', tk', os'⟩ := s'
    obtain rfl : g' = s.gens := mv.gens
    obtain rfl : d' = s.drawn := mv.drawn
    obtain rfl : os' = s.os := mv.os
    refine ⟨rfl, h h' tk' dd fun b o e => ?_⟩
    have lt := Heap.lt_size e
    refine mv.heap b o ?_ (Heap.get?_push_of_some _ (keep2 _ _ e))
    simp only [List.mem_cons, List.not_mem_nil, or_false, not_or]
    exact ⟨Nat.ne_of_lt lt, Nat.ne_of_lt (Nat.lt_trans lt lS)⟩
end
section
open PyProof.Rows PySem.Spec
variable {X : Cx}
theorem paired_map {α β γ : Type} {R : α → β → Prop} {f : γ → α} {g : γ → β} : ∀ (l : List γ), (∀ j ∈ l, R (f j) (g j)) → Paired R (l.map f) (l.map g)
  | [], _ => .nil
  | x :: l, h => .cons (h x (by simp)) (paired_map l fun j hj => h j (by simp [hj]))
theorem map_range {α β : Type} (xs : List α) (d : α) (f : α → β) : xs.map f = (List.range xs.length).map fun j => f (xs.getD j d) := by
  refine List.ext_getElem (by simp) fun i h1 h2 => ?_
  have hi : i < xs.length := by simpa using h1
  simp [List.getD_eq_getElem?_getD, List.getElem?_eq_getElem hi]
noncomputable def rDictP (K : PySem.W.Frag) : List V → Hp → VK → Prop := fun xs H Q => ∃ (p : Addr) (ps : List (Addr × Key × V)), xs = [.ref p] ∧ SqL K H p (ps.map fun t => V.ref t.1) ∧ (∀ t ∈ ps, H t.1 = some (.tup [kV t.2.1, t.2.2])) ∧ ps.length < 4000 ∧ ∀ d, H d = none → Q (.ref d) (upd H d (.dK (mergeK [] (ps.map (·.2)))))
theorem call_dictP (hc : X.calm = true) : CallR X (.type "dict") (rDictP X.K) := by
  intro pins s σ H xs us Q I r h
  obtain ⟨p, ps, rfl, hq, hp, hz, q⟩ := h
  obtain ⟨u, rfl, rx⟩ := vals1 r
  cases rx
  obtain ⟨its, r', pl, _⟩ := I.list hq
  have hl : its.length = ps.length := by rw [← r'.length, List.length_map]
  have tp : ∀ i (hi : i < ps.length), ∃ u v, PairAt s.heap ps[i].1 u v ∧ RelV (kV ps[i].2.1) u ∧ RelV ps[i].2.2 v := fun i hi => by
    obtain ⟨ts, rt, it, _⟩ := I.tuple (SqT.of (hp ps[i] (List.getElem_mem hi)))
    obtain ⟨o, ho, hcl, n, hd⟩ := it
    cases rt with
    | cons r1 t1 =>
      cases t1 with
      | cons r2 t2 =>
        cases t2
        exact ⟨_, _, ⟨o, n, ho, hcl, hd⟩, r1, r2⟩
  obtain ⟨f, hf⟩ : ∃ f : Nat → Value × Value, ∀ i (hi : i < ps.length), PairAt s.heap ps[i].1 (f i).1 (f i).2 ∧ RelV (kV ps[i].2.1) (f i).1 ∧ RelV ps[i].2.2 (f i).2 :=
    ⟨fun i => if hi : i < ps.length then ⟨Classical.choose (tp i hi), Classical.choose (Classical.choose_spec (tp i hi))⟩ else ⟨.none, .none⟩, fun i hi => by
      simp only [dif_pos hi]
      exact Classical.choose_spec (Classical.choose_spec (tp i hi))⟩
  have gd : ∀ i (hi : i < ps.length), ps.getD i (0, .inl 0, .non) = ps[i] := fun i hi => by rw [List.getD_eq_getElem?_getD, List.getElem?_eq_getElem hi]; rfl
  have sz : its.toArray.size = ps.length := by rw [List.size_toArray, hl]
  refine call_dictL (knd := mixKind X.prog X.w) (at_ := fun i => (ps.getD i (0, .inl 0, .non)).1) (us := fun i => (f i).1) (vs := fun i => (f i).2) (ks := fun i => (ps.getD i (0, .inl 0, .non)).2.1) (I.ok.hd hc) pl (fun i v hv => ?_) (fun i hi => ?_) (fun i hi => ?_) (by rw [sz, sizeLine_eq]; omega) fun h' tk dd kp => ?_
  · rw [List.getElem?_toArray] at hv
    have hi : i < ps.length := by rw [← hl]; exact (List.getElem?_eq_some_iff.mp hv).1
    obtain ⟨u, hu, ru⟩ := r'.get (i := i) (x := .ref ps[i].1) (by rw [List.getElem?_map, List.getElem?_eq_getElem hi]; rfl)
    rw [hv] at hu; cases hu
    show v = Value.ref (ps.getD i (0, .inl 0, .non)).1
    rw [gd i hi]
    exact ru
  · rw [sz] at hi
    show (mixKind X.prog X.w).is (ps.getD i (0, .inl 0, .non)).2.1 (f i).1 = true
    rw [gd i hi]
    exact kV_is (hf i hi).2.1
  · rw [sz] at hi
    show PairAt s.heap (ps.getD i (0, .inl 0, .non)).1 _ _
    rw [gd i hi]
    exact (hf i hi).1
  · rw [sz] at dd
    have rel : KV (ps.map (·.2)) ((List.range ps.length).map fun j => ((ps.getD j (0, .inl 0, .non)).2.1, (f j).2)) := by
      rw [map_range ps (0, .inl 0, .non)]
      refine paired_map _ fun j hj => ?_
      have hj := List.mem_range.mp hj
      rw [gd j hj]
      exact ⟨rfl, (hf j hj).2.2⟩
    have rm : KV (mergeK [] (ps.map (·.2))) _ := KV.merge rel (.nil)
    have z : (mergeK [] (ps.map (·.2))).length ≤ sizeLine := by
      have := merged_length_le ([] : List (Key × Value)) ((List.range ps.length).map fun j => ((ps.getD j (0, .inl 0, .non)).2.1, (f j).2))
      rw [List.length_nil, List.length_map, List.length_range] at this
      rw [KV.length rm, sizeLine_eq]
      omega
    exact ⟨.ref s.heap.objs.size, _, I.laid (a := s.heap.objs.size) (o := .dK (mergeK [] (ps.map (·.2)))) (t' := tk) kp (Nat.le_refl _) (dk_new z (beq_eq_false_iff_ne.mpr (Ne.symm (Nat.ne_of_lt I.big))) rm dd), rfl, q _ (I.hok.fresh (Nat.le_refl _))⟩
end
end L2

/-! two lists walked side by side -/
namespace L2
open PySem PySem.Spec PyProof.Rows
section
variable {X : Cx} {pins : List (Addr × Obj)} {σ : List (Option V)} {H H' : Hp} {s : Shared} {h' : Heap}
end
noncomputable def Itz (K : PySem.W.Frag) (a b : Addr) : It :=
  ⟨fun i H => ∃ xs ys x y, SqL K H a xs ∧ SqL K H b ys ∧ xs[i]? = some x ∧ ys[i]? = some y,
   fun i H v H' => ∃ q x y, v = .ref q ∧ H q = none ∧ (∀ xs, SqL K H a xs → xs[i]? = some x) ∧ (∀ ys, SqL K H b ys → ys[i]? = some y) ∧ H' = upd H q (.tup [x, y]),
   fun i H => ∃ xs ys, SqL K H a xs ∧ SqL K H b ys ∧ (xs.length ≤ i ∨ ys.length ≤ i)⟩
section
variable {X : Cx}
noncomputable def iZip (K : PySem.W.Frag) (ta : TA) : TI := fun σ H R => ta σ H fun vs H1 => ∃ a b xs ys, vs = [.ref a, .ref b] ∧ SqL K H1 a xs ∧ SqL K H1 b ys ∧ R (Itz K a b) H1
end
noncomputable def CompZ (K : PySem.W.Frag) (g : TG) (tt : TT) (te : TE) (σ0 : St) (Q : VK) : List V → Hp → Prop := fun vs H1 => ∃ a b xs ys, vs = [.ref a, .ref b] ∧ SqL K H1 a xs ∧ SqL K H1 b ys ∧ CompW g tt te σ0 Q (Itz K a b) H1
section
variable {K : PySem.W.Frag} {k : Nat} {fm : List Nat} {te : TE} {ta : TA} {g : TG} {tt : TT} {σ σ0 : St} {H H1 : Hp} {Q : VK}
theorem tComp_zip : tComp k fm (iZip K ta) g tt te σ H Q = ta σ H (CompZ K g tt te (blkSt k fm σ) Q) := rfl
end
noncomputable def tDispT (tk tv : TE) : TE := fun σ H Q => ∀ p, H p = none → tk σ (upd H p (.dT [])) fun x H1 => tv σ H1 fun y H2 => H2 p = some (.dT []) ∧ ∃ b ks, x = .ref b ∧ H2 b = some (.tup (ks.map kV)) ∧ Q (.ref p) (upd H2 p (.dT [(ks, y)]))
end L2

/-! a list walked with its numbers -/
namespace L2
open PySem PySem.Spec PyProof.Rows
section
variable {X : Cx}
end
section
variable {K : PySem.W.Frag} {te : TE} {ta : TA} {g : TG} {tb : TS} {D : Ends} {σ : St} {H : Hp}
end
end L2

/-! a dict's keys walked: the dict stands still from there on -/
namespace L2
open PySem PySem.Spec PyProof.Rows
section
variable {X : Cx}
end
section
variable {te : TE} {g : TG} {tb : TS} {D : Ends} {σ : St} {H : Hp}
end
end L2

namespace L2
open PySem PySem.Spec PyProof.Rows
/-! text.split(sep) -/
section
variable {X : Cx}
end
/-! the split of what was joined -/
end L2

namespace L2
open PySem PySem.Spec PyProof.Rows
/-! numbers in texts: what number_of reads -/
noncomputable def valD (cs : List Nat) : Nat := cs.foldl (fun acc c => acc * 10 + (c - 48)) 0
end L2

/-! enumerate(a list, start=i) -/
namespace L2
open PySem PySem.Spec PyProof.Rows
section
variable {M : Model} {A : Around} {E : Value → Shared → Prop} {s : Shared} {env : Env}
end
section
variable {prog : Program} {w : World} {A : Around} {E : Value → Shared → Prop} {s : Shared}
end
end L2

namespace L2
open PySem PySem.Spec PyProof.Rows
section
variable {prog : Program} {w : World} {A : Around} {E : Value → Shared → Prop} {s : Shared}
end
section
variable {prog : Program} {w : World} {A : Around} {E : Value → Shared → Prop} {s : Shared}
end
section
variable {X : Cx}
end
section
variable {K : PySem.W.Frag} {te : TE} {ta : TA} {g : TG} {tb : TS} {D : Ends} {σ : St} {H : Hp}
end
end L2

/-! a dict of the top, with texts as keys: get -/
namespace L2
open PySem PySem.Spec PyProof.Rows
section
variable {X : Cx} {o e : Expr} {ty : TE} {a : Addr} {kvs : List (Key × V)} {apos cpos : Pos}
end
section
variable {K : PySem.W.Frag} {te : TE} {g : TG} {tt : TT} {σ0 : St} {H1 : Hp} {Q : VK}
end
end L2

/-! a for loop whose body may raise -/
namespace L2
open PySem PySem.Spec PyProof.Rows
section
variable {M : Model} {A : Around} {E : Value → Shared → Prop} {s : Shared}
end
section
variable {X : Cx} {tg : Expr} {E : XK}
end
end L2

/-! sets of texts: made, added to, walked in whatever order -/
namespace L2
open PySem
section
variable {prog : Program} {w : World} {A : Around} {E : Value → Shared → Prop} {s : Shared} {a : Addr} {L : List Str}
end
end L2
namespace L2
open PySem
section
variable {prog : Program} {w : World} {A : Around} {E : Value → Shared → Prop} {s : Shared} {it a : Addr} {i n ep slot next : Nat} {es : Array (Int × Value)} {t : SetTable} {Q : Option Value → Shared → Prop} {x : Value}
end
end L2
namespace L2
open PySem
section
variable {prog : Program} {w : World} {A : Around} {E : Value → Shared → Prop} {s : Shared} {I a : Addr} {n ep : Nat} {es : Array (Int × Value)} {t : SetTable}
end
end L2
namespace L2
open PySem
section
variable {prog : Program} {w : World} {A : Around} {E : Value → Shared → Prop} {s : Shared} {a : Addr} {L : List Str}
end
end L2
namespace L2
open PySem PySem.Spec
section
variable {prog : Program} {w : World} {A : Around} {E : Value → Shared → Prop}
set_option maxHeartbeats 3200000 in
end
section
open PyProof.Rows
variable {X : Cx}
end
end L2

/-! text.zfill(n) -/
namespace L2
open PySem PySem.Spec PyProof.Rows
section
variable {X : Cx}
noncomputable def rZfill : V → List V → Hp → VK → Prop := fun x vs H Q => ∃ (z : Str) (n : Int), x = .str z ∧ vs = [.int n] ∧ 0 ≤ n ∧ n ≤ 1000 ∧ Q (.str (Txt.zfill z n)) H
theorem mt_zfill : MtM X "str.zfill" rZfill := by
  intro pins s σ H x vs v us Q I rx rv h
  obtain ⟨z, n, rfl, rfl, h0, h1, q⟩ := h
  obtain ⟨t, rfl⟩ := rx
  obtain ⟨u, rfl, ru⟩ := rv.one
  obtain ⟨t', rfl⟩ := ru
  have hp : PadOk n = true := by
    unfold PadOk fitsSsize Builtin.Str.tooLong
    rw [show sizeLine = 16777216 from sizeLine_eq]
    simp
    omega
  exact call_gives F.slot_str_zfill (typeIs_str _ _ _) F.entry_str_zfill (F.args_str_zfill_2 _ _) (gives_str_zfill z n t t' (PadOk.parts hp).1 (PadOk.parts hp).2) (post_val_or_made (fits_zfilled (PadOk.parts hp).2) fun t2 k => ⟨.str (Txt.zfill z n), H, I.tok _, ⟨_, rfl⟩, q⟩)
end
end L2

/-! one piece under way: its lists, without the tuple -/
namespace L2
open PySem PySem.Spec PyProof.Rows
end L2

/-! d.setdefault(k, x) -/
namespace L2
open PySem PySem.Spec PyProof.Rows
section
variable {prog : Program} {w : World} {K : Type} [DecidableEq K] {knd : HeapKind prog w K} {A : Around} {E : Value → Shared → Prop} {s : Shared}
end
section
variable {X : Cx} {pins : List (Addr × Obj)} {σ : St} {H : Hp} {s : Shared} {a : Addr} {y d : V} {u r : Value} {o : Option V} {A : Around} {E : Value → Shared → Prop}
end
section
variable {X : Cx} {o e f : Expr} {apos cpos : Pos} {td ty tx : TE}
end
end L2

/-! sorted(..) of fewer than 64 things of any kind that are told apart by ranks: every comparison answers which rank is the lower one -/
namespace L2
open PySem PySem.Spec PyProof.Rows
section
variable {prog : Program} {w : World} {A : Around} {E : Value → Shared → Prop} {s : Shared} {kd : SortKind} {r : Keyed → Nat} {base : Array Keyed}
noncomputable def rk (r : Keyed → Nat) (xs : Array Keyed) (i : Nat) : Nat := (xs[i]?.map r).getD 0
noncomputable def Rise (r : Keyed → Nat) (xs : Array Keyed) (n : Nat) : Prop := ∀ i j, i ≤ j → j < n → rk r xs i ≤ rk r xs j
noncomputable def Fall (r : Keyed → Nat) (xs : Array Keyed) (n : Nat) : Prop := ∀ i j, i ≤ j → j < n → rk r xs j ≤ rk r xs i
noncomputable def Flat (r : Keyed → Nat) (xs : Array Keyed) (n q : Nat) : Prop := q + 1 ≤ n ∧ ∀ i, n ≤ i + (q + 1) → i < n → rk r xs i = rk r xs (n - 1)
theorem Rise.one (xs : Array Keyed) : Rise r xs 1 := fun i j a b => by rw [show i = j by omega]; exact Nat.le_refl _
theorem Fall.one (xs : Array Keyed) : Fall r xs 1 := fun i j a b => by rw [show i = j by omega]; exact Nat.le_refl _
theorem Rise.more {xs : Array Keyed} {n : Nat} (h : Rise r xs n) (h1 : 1 ≤ n) (hn : rk r xs (n - 1) ≤ rk r xs n) : Rise r xs (n + 1) := fun i j a b => by
  by_cases z : j < n
  · exact h i j a z
  · rw [show j = n by omega]
    by_cases y : i = n
    · rw [y]; exact Nat.le_refl _
    · exact Nat.le_trans (h i (n - 1) (by omega) (by omega)) hn
theorem Fall.more {xs : Array Keyed} {n : Nat} (h : Fall r xs n) (h1 : 1 ≤ n) (hn : rk r xs n ≤ rk r xs (n - 1)) : Fall r xs (n + 1) := fun i j a b => by
  by_cases z : j < n
  · exact h i j a z
  · rw [show j = n by omega]
    by_cases y : i = n
    · rw [y]; exact Nat.le_refl _
    · exact Nat.le_trans hn (h i (n - 1) (by omega) (by omega))
theorem rk_turn {xs : Array Keyed} {i j : Nat} (hj : j ≤ xs.size) (k : Nat) : rk r (mirror xs i j ((j - i) / 2)) k = if i ≤ k ∧ k < j then rk r xs (i + j - 1 - k) else rk r xs k := by
  unfold rk
  rw [getElem?_mirror_all hj k]
  by_cases z : i ≤ k ∧ k < j
  · rw [if_pos z, if_pos z]
  · rw [if_neg z, if_neg z]
theorem rk_flat {xs : Array Keyed} {n q : Nat} (h : Flat r xs n q) (hn : n ≤ xs.size) (k : Nat) : rk r (mirror xs (n - (q + 1)) n ((n - (n - (q + 1))) / 2)) k = rk r xs k := by
  rw [rk_turn hn]
  by_cases z : n - (q + 1) ≤ k ∧ k < n
  · rw [if_pos z, h.2 _ (by omega) (by omega), h.2 k (by omega) (by omega)]
  · rw [if_neg z]
theorem Fall.turned {xs : Array Keyed} {n : Nat} (h : Fall r xs n) (hn : n ≤ xs.size) : Rise r (mirror xs 0 n ((n - 0) / 2)) n := fun i j a b => by
  rw [rk_turn hn, rk_turn hn, if_pos (by omega), if_pos (by omega)]
  exact h _ _ (by omega) (by omega)
set_option genInjectivity false in
structure Srt (kd : SortKind) (base : Array Keyed) (st : SortSt) : Prop where
  pm : (arrOf st).Perm base
  kd : kindOf st = kd
  ok : failedOf st = none
  pn : pendingOf st = #[]
theorem Srt.len {st : SortSt} (h : Srt kd base st) : (arrOf st).size = base.size := h.pm.size_eq
theorem Srt.put {st : SortSt} (h : Srt kd base st) {xs : Array Keyed} (p : xs.Perm (arrOf st)) : Srt kd base (setArr st xs) := ⟨p.trans h.pm, h.kd, h.ok, h.pn⟩
noncomputable def Asks (prog : Program) (w : World) (A : Around) (E : Value → Shared → Prop) (s : Shared) (kd : SortKind) (r : Keyed → Nat) (base : Array Keyed) : Prop :=
  ∀ x ∈ base.toList, ∀ y ∈ base.toList, ∀ Q : Bool → Shared → Prop, Q (decide (r x < r y)) s → wpAny (model prog w) A (keyLt' kd x.1 y.1) Q (fun _ _ => False) s
theorem asked {st : SortSt} {i j : Nat} {Q : Option Bool → SortSt → Prop} (ask : Asks prog w A E s kd r base) (S : Srt kd base st) (hi : i < base.size) (hj : j < base.size)
    (q : Q (some (decide (rk r (arrOf st) i < rk r (arrOf st) j))) st) : wpS (model prog w) A E s (ltAt' i j) Q st := by
  have li : i < (arrOf st).size := by rw [S.len]; exact hi
  have lj : j < (arrOf st).size := by rw [S.len]; exact hj
  have ei : (arrOf st)[i]? = some (arrOf st)[i] := getElem?_pos _ i li
  have ej : (arrOf st)[j]? = some (arrOf st)[j] := getElem?_pos _ j lj
  have mem : ∀ {k : Nat} (h : k < (arrOf st).size), (arrOf st)[k] ∈ base.toList := fun {k} h => (Array.perm_iff_toList_perm.mp S.pm).mem_iff.mp (Array.getElem_mem_toList h)
  unfold rk at q
  rw [ei, ej] at q
  rw [ltAt'_eq]
  refine wpS_bind (wpS_get ?_)
  dsimp only
  rw [elem'_eq, elem'_eq, ei, ej]
  refine wpS_bind (wpS_pure (wpS_bind (wpS_pure ?_)))
  rw [lt'_eq]
  refine wpS_bind (wpS_get (wpS_bind (wpS_lift (wpAny_attempt ?_))))
  rw [S.kd]
  exact wpAny_mono (ask _ (mem li) _ (mem lj) (fun b s' => b = decide (r (arrOf st)[i] < r (arrOf st)[j]) ∧ s' = s) ⟨rfl, rfl⟩) (fun b s' ⟨e1, e2⟩ => ⟨e2, by subst e1; exact wpS_pure q⟩) fun _ _ z => z.elim
theorem asc_loop {st : SortSt} {a n : Nat} {Q : AscSt → SortSt → Prop} (ask : Asks prog w A E s kd r base) (S : Srt kd base st) (ha : 1 ≤ a) (han : a ≤ n) (hn : n ≤ base.size) (up : Rise r (arrOf st) a)
    (k : ∀ m, a ≤ m → m ≤ n → Rise r (arrOf st) m → (m = n ∨ rk r (arrOf st) m < rk r (arrOf st) (m - 1)) → Q (none, m) st) : wpS (model prog w) A E s (ascLoop a n) Q st := by
  refine wpS_forRange (I := fun m c st' => st' = st ∧ c = (none, m) ∧ Rise r (arrOf st) m) (fun m c st' am mn ⟨e1, e2, up'⟩ => ?_) (fun c st' ⟨e1, e2, up'⟩ => ?_) ⟨rfl, rfl, up⟩
  · subst e1 e2
    refine wpS_bind (asked ask S (by omega) (by show m - 1 < _; omega) ?_)
    by_cases lt : rk r (arrOf st') m < rk r (arrOf st') (m - 1)
    · simp only [decide_eq_true lt, if_true]
      exact wpS_pure (k m am (by omega) up' (.inr lt))
    · simp only [decide_eq_false lt, Bool.false_eq_true, if_false]
      exact wpS_pure ⟨rfl, rfl, up'.more (by omega) (by omega)⟩
  · subst e1 e2
    have e : max a n = n := by omega
    rw [e] at up' ⊢
    exact k n han (Nat.le_refl _) up' (.inl rfl)
theorem fall_tail {st : SortSt} {m n : Nat} {Q : Option Nat → SortSt → Prop} (ask : Asks prog w A E s kd r base) (S : Srt kd base st) (h1 : 1 ≤ m) (hm : m ≤ n) (hn : n ≤ base.size) (dn : Fall r (arrOf st) m)
    (k : ∀ j st', Srt kd base st' → 1 ≤ j → j ≤ n → Rise r (arrOf st') j → Q (some j) st') : wpS (model prog w) A E s (tail3 m n) Q st := by
  have up := dn.turned (by rw [S.len]; omega)
  have S' := S.put (mirror_perm (arrOf st) 0 m ((m - 0) / 2))
  exact wpS_bind (wpS_reverse (wpS_bind (asc_loop ask S' h1 hm hn up fun j mj jn up' _ => wpS_pure (k j _ S' (by omega) jn up'))))
theorem desc_loop {st : SortSt} {a n : Nat} {Q : DescSt → SortSt → Prop} (ask : Asks prog w A E s kd r base) (S : Srt kd base st) (ha : 1 ≤ a) (han : a ≤ n) (hn : n ≤ base.size) (dn : Fall r (arrOf st) a)
    (k : ∀ m q st', Srt kd base st' → a ≤ m → m ≤ n → Fall r (arrOf st') m → Flat r (arrOf st') m q → Q (none, m, q) st') : wpS (model prog w) A E s (descLoop a n) Q st := by
  refine wpS_forRange (I := fun m c st' => Srt kd base st' ∧ ∃ q, c = (none, m, q) ∧ Fall r (arrOf st') m ∧ Flat r (arrOf st') m q) (fun m c st' am mn ⟨S', q, e, dn', fl⟩ => ?_) (fun c st' ⟨S', q, e, dn', fl⟩ => ?_)
    ⟨S, 0, rfl, dn, ha, fun i p1 p2 => by rw [show i = a - 1 by omega]⟩
  · subst e
    have sz : m < (arrOf st').size := by rw [S'.len]; omega
    have one : ∀ xs : Array Keyed, Flat r xs (m + 1) 0 := fun xs => ⟨by omega, fun i a b => by rw [show i = m by omega]; rfl⟩
    refine wpS_bind (asked ask S' (by show m < _; omega) (by show m - 1 < _; omega) ?_)
    by_cases lt : rk r (arrOf st') m < rk r (arrOf st') (m - 1)
    · simp only [decide_eq_true lt, if_true]
      by_cases q0 : q > 0
      · rw [if_pos q0]
        have same := rk_flat fl (Nat.le_of_lt sz)
        refine wpS_bind (wpS_reverse (wpS_pure ⟨S'.put (mirror_perm ..), 0, rfl, Fall.more (fun i j a b => ?_) (by omega) ?_, one _⟩))
        · show rk r (mirror _ _ _ _) j ≤ rk r (mirror _ _ _ _) i
          rw [same, same]; exact dn' i j a b
        · show rk r (mirror _ _ _ _) m ≤ rk r (mirror _ _ _ _) (m - 1)
          rw [same, same]; exact Nat.le_of_lt lt
      · rw [if_neg q0]
        exact wpS_pure ⟨S', 0, rfl, dn'.more (by omega) (Nat.le_of_lt lt), one _⟩
    · simp only [decide_eq_false lt, Bool.false_eq_true, if_false]
      refine wpS_bind (asked ask S' (by show m - 1 < _; omega) (by show m < _; omega) ?_)
      by_cases gt : rk r (arrOf st') (m - 1) < rk r (arrOf st') m
      · simp only [decide_eq_true gt, if_true]
        exact wpS_pure (k m q st' S' am (by omega) dn' fl)
      · simp only [decide_eq_false gt, Bool.false_eq_true, if_false]
        refine wpS_pure ⟨S', q + 1, rfl, dn'.more (by omega) (by omega), by have := fl.1; omega, fun i a b => ?_⟩
        show _ = rk r (arrOf st') m
        by_cases z : i = m
        · rw [z]
        · have := fl.2 i (by omega) (by omega); omega
  · subst e
    have e : max a n = n := by omega
    rw [e] at dn' fl ⊢
    exact k n q st' S' han (Nat.le_refl _) dn' fl
theorem desc_part {st : SortSt} {m n : Nat} {Q : Option Nat → SortSt → Prop} (ask : Asks prog w A E s kd r base) (S : Srt kd base st) (hm : m + 1 ≤ n) (hn : n ≤ base.size) (dn : Fall r (arrOf st) (m + 1))
    (k : ∀ j st', Srt kd base st' → 1 ≤ j → j ≤ n → Rise r (arrOf st') j → Q (some j) st') : wpS (model prog w) A E s (descPart m n) Q st := by
  refine wpS_bind (wpS_lift (wpAny_rule ⟨rfl, wpS_bind (desc_loop ask S (by omega) hm hn dn fun j q st' S' mj jn dn' fl => ?_)⟩))
  by_cases q0 : q > 0
  · have same := rk_flat fl (by rw [S'.len]; omega)
    simp only [q0, if_true]
    exact wpS_bind (wpS_reverse (fall_tail ask (S'.put (mirror_perm ..)) (by omega) jn hn (fun i l a b => by show rk r (mirror _ _ _ _) l ≤ rk r (mirror _ _ _ _) i; rw [same, same]; exact dn' i l a b) k))
  · simp only [q0, if_false]
    exact fall_tail ask S' (by omega) jn hn dn' k
theorem first_run {st : SortSt} {n : Nat} {Q : Option Nat → SortSt → Prop} (ask : Asks prog w A E s kd r base) (S : Srt kd base st) (h1 : 1 ≤ n) (hn : n ≤ base.size)
    (k : ∀ j st', Srt kd base st' → 1 ≤ j → j ≤ n → Rise r (arrOf st') j → Q (some j) st') : wpS (model prog w) A E s (countRun' 0 n) Q st := by
  rw [countRun0_eq]
  refine wpS_bind (asc_loop ask S (Nat.le_refl 1) h1 hn (Rise.one _) fun m m1 mn up why => ?_)
  by_cases z : m = n
  · simp only [beq_iff_eq, z, if_true]
    exact wpS_pure (k n st S h1 (Nat.le_refl _) (z ▸ up))
  · have lt := why.resolve_left z
    simp only [beq_iff_eq, z, if_false]
    by_cases m2 : m > 1
    · rw [if_pos m2]
      refine wpS_bind (asked ask S (by omega) (by show m - 1 < _; omega) ?_)
      by_cases rose : rk r (arrOf st) 0 < rk r (arrOf st) (m - 1)
      · simp only [decide_eq_true rose, if_true]
        exact wpS_pure (k m st S m1 mn up)
      · simp only [decide_eq_false rose, Bool.false_eq_true, if_false]
        have eq : ∀ i, i < m → rk r (arrOf st) i = rk r (arrOf st) (m - 1) := fun i hi => by
          have a := up 0 i (by omega) hi
          have b := up i (m - 1) (by omega) (by omega)
          omega
        have sz : m ≤ (arrOf st).size := by rw [S.len]; omega
        have same : ∀ i, rk r (mirror (arrOf st) 0 m ((m - 0) / 2)) i = rk r (arrOf st) i := fun i => by
          rw [rk_turn sz]
          by_cases y : 0 ≤ i ∧ i < m
          · rw [if_pos y, eq _ (by omega), eq i y.2]
          · rw [if_neg y]
        refine wpS_bind (wpS_reverse (desc_part ask (S.put (mirror_perm ..)) (by omega) hn (fun i j a b => ?_) k))
        show rk r (mirror (arrOf st) 0 m ((m - 0) / 2)) j ≤ rk r (mirror (arrOf st) 0 m ((m - 0) / 2)) i
        rw [same, same]
        by_cases jm : j = m
        · by_cases im : i = m
          · rw [jm, im]; exact Nat.le_refl _
          · have := eq i (by omega); rw [jm]; omega
        · have a1 := eq i (by omega); have a2 := eq j (by omega); omega
    · rw [if_neg m2]
      have e : m = 1 := by omega
      subst e
      exact desc_part ask S (by omega) hn ((Fall.one _).more (Nat.le_refl _) (Nat.le_of_lt lt)) k
theorem rk_moved {xs : Array Keyed} {k l : Nat} (hk : k < xs.size) (hl : l ≤ k) (i : Nat) : rk r (bubble xs k (k - l)) i = if i = l then rk r xs k else if l < i ∧ i ≤ k then rk r xs (i - 1) else rk r xs i := by
  have e := getElem?_bubble hk (k - l) (by omega) i
  rw [show k - (k - l) = l by omega] at e
  unfold rk
  rw [e]
  by_cases a : i = l
  · rw [if_pos a, if_pos a]
  · rw [if_neg a, if_neg a]
    by_cases b : l < i ∧ i ≤ k
    · rw [if_pos b, if_pos b]
    · rw [if_neg b, if_neg b]
theorem put_in {st : SortSt} {n ok : Nat} {Q : Bool → SortSt → Prop} (ask : Asks prog w A E s kd r base) (S : Srt kd base st) (h1 : 1 ≤ ok) (hok : ok ≤ n) (hn : n ≤ base.size) (up : Rise r (arrOf st) ok)
    (q : ∀ st', Srt kd base st' → Rise r (arrOf st') n → Q true st') : wpS (model prog w) A E s (binarySort' 0 n ok) Q st := by
  rw [binarySort'_eq]
  simp only [Nat.zero_add]
  have e1 : max ok 1 = ok := by omega
  rw [e1]
  refine wpS_bind (wpS_mono (wpS_forRange (I := fun k c st' => c = (none, ()) ∧ Srt kd base st' ∧ Rise r (arrOf st') k) (Q := fun c st' => c = (none, ()) ∧ Srt kd base st' ∧ Rise r (arrOf st') n) (fun k c st' ak kn ⟨e, S', up'⟩ => ?step) (fun c st' ⟨e, S', up'⟩ => ?fin) ⟨rfl, S, up⟩) ?post)
  case step =>
    subst e
    have hk : k < (arrOf st').size := by rw [S'.len]; omega
    refine wpS_bind (wpS_mono (wpS_forRange (I := fun x c st2 => st2 = st' ∧ ∃ l u, c = (none, l, u) ∧ l ≤ u ∧ u ≤ k ∧ u - l + x ≤ k ∧ (∀ i, i < l → rk r (arrOf st') i ≤ rk r (arrOf st') k) ∧ ∀ i, u ≤ i → i < k → rk r (arrOf st') k < rk r (arrOf st') i)
      (Q := fun c st2 => st2 = st' ∧ ∃ l u, c = (none, l, u) ∧ l ≤ k ∧ (∀ i, i < l → rk r (arrOf st') i ≤ rk r (arrOf st') k) ∧ ∀ i, l ≤ i → i < k → rk r (arrOf st') k < rk r (arrOf st') i)
      (fun x c st2 _ xk ⟨e, l, u, ec, lu, uk, small, lo, hi⟩ => ?look) (fun c st2 ⟨e, l, u, ec, lu, uk, small, lo, hi⟩ => ⟨e, l, u, ec, by omega, lo, fun i a b => hi i (by omega) b⟩) ⟨rfl, 0, k, rfl, by omega, by omega, by omega, fun i a => by omega, fun i a b => by omega⟩) ?move)
    case look =>
      subst e ec
      dsimp only
      by_cases z : l ≥ u
      · rw [if_pos z]
        exact wpS_pure ⟨rfl, l, u, rfl, by omega, lo, fun i a b => hi i (by omega) b⟩
      · rw [if_neg z]
        refine wpS_bind (asked ask S' (by omega) (by omega) ?_)
        by_cases lt : rk r (arrOf st2) k < rk r (arrOf st2) ((l + u) / 2)
        · simp only [decide_eq_true lt, if_true]
          exact wpS_pure ⟨rfl, l, (l + u) / 2, rfl, by omega, by omega, by omega, lo, fun i a b => Nat.lt_of_lt_of_le lt (up' _ _ a b)⟩
        · simp only [decide_eq_false lt, Bool.false_eq_true, if_false]
          exact wpS_pure ⟨rfl, (l + u) / 2 + 1, u, rfl, by omega, by omega, by omega, fun i a => Nat.le_trans (up' i ((l + u) / 2) (by omega) (by omega)) (by omega), hi⟩
    case move =>
      rintro c st2 ⟨rfl, l, u, rfl, lk, lo, hi⟩
      dsimp only
      rw [moveDown'_eq]
      refine wpS_bind (wpS_modify (wpS_pure ⟨rfl, S'.put (bubble_perm ..), fun i j a b => ?_⟩))
      show rk r (bubble (arrOf st2) k (k - l)) i ≤ rk r (bubble (arrOf st2) k (k - l)) j
      rw [rk_moved hk lk, rk_moved hk lk]
      have U := fun x y (p : x ≤ y) (q : y < k) => up' x y p q
      by_cases c1 : i = l
      · rw [if_pos c1]
        by_cases c2 : j = l
        · rw [if_pos c2]; exact Nat.le_refl _
        · rw [if_neg c2, if_pos (by omega)]; exact Nat.le_of_lt (hi _ (by omega) (by omega))
      · rw [if_neg c1]
        by_cases c3 : l < i ∧ i ≤ k
        · rw [if_pos c3, if_neg (by omega), if_pos (by omega)]; exact U _ _ (by omega) (by omega)
        · rw [if_neg c3]
          by_cases c2 : j = l
          · rw [if_pos c2]; exact lo i (by omega)
          · rw [if_neg c2]
            by_cases c4 : l < j ∧ j ≤ k
            · rw [if_pos c4]; exact U _ _ (by omega) (by omega)
            · rw [if_neg c4]; exact U _ _ (by omega) (by omega)
  case fin =>
    have e2 : max ok n = n := by omega
    rw [e2] at up'
    exact ⟨e, S', up'⟩
  case post =>
    rintro c st' ⟨rfl, S', up'⟩
    exact wpS_pure (q st' S' up')
theorem by_ranks {st : SortSt} {Q : Unit → SortSt → Prop} (ask : Asks prog w A E s kd r base) (S : Srt kd base st) (h2 : 2 ≤ base.size) (h64 : base.size < 64)
    (k : ∀ st', (arrOf st').Perm base → failedOf st' = none → Rise r (arrOf st') base.size → Q () st') : wpS (model prog w) A E s sortRuns' Q st := by
  have run : minRun' base.size base.size 0 = base.size := by
    generalize base.size = n at h2 h64
    cases n with
    | zero => omega
    | succ f => rw [minRun'_succ, if_pos h64]
  rw [sortRuns'_eq]
  refine wpS_bind (wpS_get ?_)
  simp only [S.len, run]
  refine wpS_bind (wpS_mono (wpS_forRange (I := fun x c st' => if x = 0 then c = (none, 0) ∧ Srt kd base st' else c = (none, base.size) ∧ (arrOf st').Perm base ∧ failedOf st' = none ∧ (pendingOf st').size = 1 ∧ Rise r (arrOf st') base.size)
    (Q := fun c st' => c = (none, base.size) ∧ (arrOf st').Perm base ∧ failedOf st' = none ∧ (pendingOf st').size = 1 ∧ Rise r (arrOf st') base.size) (fun x c st' _ xn h => ?turn) (fun c st' h => ?end_) ?start) ?rest)
  case start => rw [if_pos rfl]; exact ⟨rfl, S⟩
  case end_ => rwa [if_neg (by omega)] at h
  case turn =>
    by_cases x0 : x = 0
    · rw [if_pos x0] at h
      obtain ⟨rfl, S'⟩ := h
      have pend : ∀ {st2 : SortSt}, Srt kd base st2 → Rise r (arrOf st2) base.size → (arrOf (setPending st2 ((pendingOf st2).push (0, base.size, 0)))).Perm base ∧ failedOf (setPending st2 ((pendingOf st2).push (0, base.size, 0))) = none ∧ (pendingOf (setPending st2 ((pendingOf st2).push (0, base.size, 0)))).size = 1 ∧ Rise r (arrOf (setPending st2 ((pendingOf st2).push (0, base.size, 0)))) base.size := fun {st2} S2 up => by
        refine ⟨S2.pm, S2.ok, ?_, up⟩
        show ((pendingOf st2).push (0, base.size, 0)).size = 1
        rw [S2.pn]; rfl
      dsimp only
      rw [if_neg (by omega)]
      simp only [Nat.sub_zero, Nat.min_self, Nat.zero_add]
      refine wpS_bind (first_run ask S' (by omega) (Nat.le_refl _) fun m st2 S2 m1 mn up => ?_)
      have last : ∀ {st3 : SortSt}, Srt kd base st3 → (pendingOf st3).back? = none := fun {st3} S3 => by rw [S3.pn]; rfl
      dsimp only
      by_cases lt : m < base.size
      · rw [if_pos lt]
        refine wpS_bind (wpS_lift (wpAny_rule ⟨rfl, wpS_bind (put_in ask S2 m1 mn (Nat.le_refl _) up fun st3 S3 up3 => ?_)⟩))
        simp only [Bool.not_true, Bool.false_eq_true, if_false]
        refine wpS_bind (wpS_get ?_)
        rw [last S3]
        refine wpS_bind (wpS_modify (wpS_pure ?_))
        dsimp only
        rw [if_neg (by omega)]
        exact ⟨rfl, pend S3 up3⟩
      · rw [if_neg lt]
        have e : m = base.size := by omega
        subst e
        refine wpS_bind (wpS_get ?_)
        rw [last S2]
        refine wpS_bind (wpS_modify (wpS_pure ?_))
        dsimp only
        rw [if_neg (by omega)]
        exact ⟨rfl, pend S2 up⟩
    · rw [if_neg x0] at h
      obtain ⟨rfl, h⟩ := h
      dsimp only
      rw [if_pos (Nat.le_refl _)]
      exact wpS_pure ⟨rfl, h⟩
  case rest =>
    rintro c st' ⟨rfl, p1, p2, p3, p4⟩
    refine wpS_bind (wpS_mono (wpS_forRange (I := fun _ c st2 => c = (none, ()) ∧ st2 = st') (Q := fun c st2 => c = (none, ()) ∧ st2 = st') (fun x c st2 _ _ ⟨e1, e2⟩ => ?stay) (fun _ _ h => h) ⟨rfl, rfl⟩) ?done)
    case stay =>
      subst e1 e2
      refine wpS_bind (wpS_get ?_)
      rw [if_pos (Nat.le_of_eq p3)]
      exact wpS_pure ⟨rfl, rfl⟩
    case done =>
      rintro c st2 ⟨rfl, rfl⟩
      exact wpS_pure (k st2 p1 p2 p4)
end
end L2

/-! sorted(..) of a list of pairs (text, number) -/
namespace L2
open PySem PySem.Spec PyProof.Rows
noncomputable abbrev PairD := Str × Int
noncomputable def ltP (a b : PairD) : Bool := if a.1 = b.1 then decide (a.2 < b.2) else decide (a.1.cps.toList < b.1.cps.toList)
noncomputable def leP (a b : PairD) : Prop := ltP b a = false
theorem cps_inj {a b : Str} (h : a.cps.toList = b.cps.toList) : a = b := by
  cases a; cases b; congr 1; exact Array.toList_inj.mp h
theorem ltP_irr (a : PairD) : ltP a a = false := by unfold ltP; rw [if_pos rfl]; simp
theorem ltP_cases (a b : PairD) : ltP a b = true ↔ a.1.cps.toList < b.1.cps.toList ∨ (a.1 = b.1 ∧ a.2 < b.2) := by
  unfold ltP
  by_cases h : a.1 = b.1
  · rw [if_pos h, decide_eq_true_eq]
    exact ⟨fun q => .inr ⟨h, q⟩, fun q => q.elim (fun z => absurd z (by rw [h]; exact List.lt_irrefl _)) (·.2)⟩
  · rw [if_neg h, decide_eq_true_eq]
    exact ⟨.inl, fun q => q.elim id fun z => absurd z.1 h⟩
theorem ltP_trans {a b c : PairD} (h1 : ltP a b = true) (h2 : ltP b c = true) : ltP a c = true := by
  rw [ltP_cases] at *
  rcases h1 with h1 | ⟨e1, h1⟩ <;> rcases h2 with h2 | ⟨e2, h2⟩
  · exact .inl (List.lt_trans h1 h2)
  · exact .inl (by rw [← e2]; exact h1)
  · exact .inl (by rw [e1]; exact h2)
  · exact .inr ⟨e1.trans e2, by omega⟩
theorem ltP_total {a b : PairD} (h1 : ltP a b = false) (h2 : ltP b a = false) : a = b := by
  have n1 : ¬ (a.1.cps.toList < b.1.cps.toList ∨ (a.1 = b.1 ∧ a.2 < b.2)) := fun q => by rw [(ltP_cases a b).mpr q] at h1; cases h1
  have n2 : ¬ (b.1.cps.toList < a.1.cps.toList ∨ (b.1 = a.1 ∧ b.2 < a.2)) := fun q => by rw [(ltP_cases b a).mpr q] at h2; cases h2
  have e : a.1 = b.1 := cps_inj (List.le_antisymm (List.not_lt.mp fun q => n2 (.inl q)) (List.not_lt.mp fun q => n1 (.inl q)))
  have e2 : a.2 = b.2 := by
    have m1 : ¬ a.2 < b.2 := fun q => n1 (.inr ⟨e, q⟩)
    have m2 : ¬ b.2 < a.2 := fun q => n2 (.inr ⟨e.symm, q⟩)
    omega
  exact Prod.ext e e2
theorem leP_trans {a b c : PairD} (h1 : leP a b) (h2 : leP b c) : leP a c := by
  unfold leP at *
  cases h : ltP c a with
  | false => rfl
  | true =>
    exfalso
    cases hb : ltP b a with
    | true => rw [hb] at h1; cases h1
    | false =>
      cases ha : ltP a b with
      | true => rw [ltP_trans h ha] at h2; cases h2
      | false => rw [ltP_total ha hb] at h; rw [h] at h2; cases h2
theorem leP_anti {a b : PairD} (h1 : leP a b) (h2 : leP b a) : a = b := ltP_total h2 h1
theorem sortedP_one {a b : List PairD} (p : a.Perm b) (ha : a.Pairwise leP) (hb : b.Pairwise leP) : a = b := p.eq_of_pairwise (le := leP) (fun _ _ _ _ x y => leP_anti x y) ha hb
noncomputable def rankP (ds : List PairD) (d : PairD) : Nat := ds.countP fun e => ltP e d
theorem countP_lt {α : Type} {p q : α → Bool} : ∀ {l : List α}, (∀ x ∈ l, p x = true → q x = true) → (∃ x ∈ l, q x = true ∧ p x = false) → l.countP p < l.countP q
  | [], _, ⟨x, hx, _⟩ => nomatch hx
  | y :: l, h, ⟨x, hx, h1, h2⟩ => by
    have le : l.countP p ≤ l.countP q := List.countP_mono_left fun z hz hp => h z (.tail _ hz) hp
    rw [List.countP_cons, List.countP_cons]
    rcases List.mem_cons.mp hx with rfl | hx
    · rw [if_pos h1, if_neg (by rw [h2]; simp)]; omega
    · have := countP_lt (fun z hz => h z (.tail _ hz)) ⟨x, hx, h1, h2⟩
      by_cases z : p y = true
      · rw [if_pos z, if_pos (h y (.head _) z)]; omega
      · rw [if_neg z]; split <;> omega
theorem rankP_lt {ds : List PairD} {a b : PairD} (ha : a ∈ ds) : decide (rankP ds a < rankP ds b) = ltP a b := by
  cases h : ltP a b with
  | true => exact decide_eq_true (countP_lt (fun x _ q => ltP_trans q h) ⟨a, ha, h, ltP_irr a⟩)
  | false =>
    refine decide_eq_false (Nat.not_lt.mpr (List.countP_mono_left fun x _ q => ?_))
    have le : leP x a := leP_trans (a := x) (b := b) (c := a) (by
      unfold leP
      cases z : ltP b x with
      | false => rfl
      | true => have := ltP_trans q z; rw [ltP_irr] at this; cases this) h
    cases z : ltP x a with
    | true => rfl
    | false =>
      have e : x = a := ltP_total z le
      rw [e] at q; rw [q] at h; cases h
section
variable {prog : Program} {w : World} {A : Around} {E : Value → Shared → Prop} {s : Shared}
noncomputable def PrAt (h : Heap) (b : Addr) (d : PairD) : Prop := ∃ t u, PairAt h b (.str d.1 t) (.int d.2 u)
theorem lt_pairs_eq (f : Bool) (x y : Value) : keyLt' (tuples' f) x y = (do
    let xs ← Builtin.List.listItems x
    let ys ← Builtin.List.listItems y
    for ((p, q), i) in (xs.toList.zip ys.toList).zipIdx do
      if !(← eqBool p q) then return ← oneLt' (f && i == 0) p q
    return decide (xs.size < ys.size)) := rfl
theorem lt_num {a b : Int} {t u : Tok} {Q : Bool → Shared → Prop} (q : Q (decide (a < b)) s) : wpAny (model prog w) A (oneLt' false (.int a t) (.int b u)) Q E s :=
  wpAny_bind (wpAny_lt_int (wpAny_truthy_bool q))
theorem lt_pairs {b c : Addr} {x y : PairD} {Q : Bool → Shared → Prop} (hb : PrAt s.heap b x) (hc : PrAt s.heap c y) (q : Q (ltP x y) s) : wpAny (model prog w) A (keyLt' (tuples' true) (.ref b) (.ref c)) Q E s := by
  obtain ⟨t, u, o1, n1, g1, _, d1⟩ := hb
  obtain ⟨t', u', o2, n2, g2, _, d2⟩ := hc
  rw [lt_pairs_eq]
  refine wpAny_bind (listItems_at g1 d1 (wpAny_bind (listItems_at g2 d2 ?_)))
  simp only [List.zip_cons_cons, List.zipIdx_cons, List.zip_nil_left, List.zipIdx_nil, List.forIn_cons, List.forIn_nil]
  unfold ltP at q
  refine wpAny_bind (wpAny_bind (wpAny_bind (wpAny_eqBool_str ?_)))
  by_cases h : x.1 = y.1
  · rw [if_pos h] at q
    simp only [decide_eq_true h, Bool.not_true, Bool.false_eq_true, if_false]
    refine wpAny_pure (wpAny_bind (wpAny_bind (wpAny_eqBool_int ?_)))
    by_cases h2 : x.2 = y.2
    · rw [decide_eq_false (by omega)] at q
      simp only [beq_iff_eq.mpr h2, Bool.not_true, Bool.false_eq_true, if_false]
      exact wpAny_pure (wpAny_pure (wpAny_pure q))
    · have e : (x.2 == y.2) = false := by simpa using h2
      simp only [e, Bool.not_false, if_true]
      exact wpAny_bind (lt_num (wpAny_pure (wpAny_pure (wpAny_pure q))))
  · rw [if_neg h] at q
    simp only [decide_eq_false h, Bool.not_false, if_true]
    exact wpAny_bind (oneLt_str (wpAny_pure (wpAny_pure (wpAny_pure q))))
noncomputable def frst (h : Heap) (b : Addr) : Option Value := match h.get? b with
  | some o => (match o.data with | .seq xs _ => xs[0]? | _ => none)
  | none => none
theorem frst_of {h : Heap} {b : Addr} {o : Obj} {u v : Value} {n : Nat} (g : h.get? b = some o) (e : o.data = .seq #[u, v] n) : frst h b = some u := by unfold frst; rw [g]; dsimp only; rw [e]; rfl
theorem wp_mapM {α β : Type} {f : α → Sem β} {g : α → β} : ∀ {l : List α} {Q : List β → Shared → Prop}, (∀ x ∈ l, ∀ Q : β → Shared → Prop, Q (g x) s → wpAny (model prog w) A (f x) Q E s) → Q (l.map g) s → wpAny (model prog w) A (l.mapM f) Q E s
  | [], Q, _, q => by rw [List.mapM_nil]; exact wpAny_pure q
  | x :: l, Q, h, q => by
    rw [List.mapM_cons]
    exact wpAny_bind (h x (.head _) _ (wpAny_bind (wp_mapM (fun y hy => h y (.tail _ hy)) (wpAny_pure q))))
theorem kind_pairs {bs : List Addr} {d : Addr → PairD} (h2 : bs ≠ []) (hd : ∀ b ∈ bs, PrAt s.heap b (d b)) {Q : SortKind → Shared → Prop} (q : Q (tuples' true) s) : wpAny (model prog w) A (keyKind' (bs.map Value.ref).toArray) Q E s := by
  have firsts : ∃ g : Value → Option Value, (∀ v ∈ bs.map Value.ref, ∃ z t, g v = some (Value.str z t)) ∧ ∀ v ∈ bs.map Value.ref, ∀ Q : Option Value → Shared → Prop, Q (g v) s → wpAny (model prog w) A (firstOfTuple' v) Q E s := by
    refine ⟨fun v => match v with | .ref b => frst s.heap b | _ => none, fun v hv => ?_, fun v hv Q q => ?_⟩
    · obtain ⟨b, hb, rfl⟩ := List.mem_map.mp hv
      obtain ⟨t, u, o, n, g, c, e⟩ := hd b hb
      exact ⟨(d b).1, t, frst_of g e⟩
    · obtain ⟨b, hb, rfl⟩ := List.mem_map.mp hv
      obtain ⟨t, u, o, n, g, c, e⟩ := hd b hb
      have q : Q (frst s.heap b) s := q
      rw [frst_of g e] at q
      refine wpAny_bind (wpAny_typeOf_ref g ?_)
      rw [c]
      exact wpAny_bind (listItems_at g e (wpAny_pure q))
  obtain ⟨g, g1, g2⟩ := firsts
  rw [keyKind'_eq, List.mapM_toArray]
  refine wpAny_bind ?_
  show wpAny _ _ (List.toArray <$> (bs.map Value.ref).mapM firstOfTuple') _ _ s
  rw [map_eq_pure_bind]
  refine wpAny_bind (wp_mapM g2 (wpAny_pure ?_))
  have all : (((bs.map Value.ref).map g).toArray.all fun x => x.isSome) = true := by
    rw [List.all_toArray, List.all_eq_true]
    intro x hx
    obtain ⟨v, hv, rfl⟩ := List.mem_map.mp hx
    obtain ⟨z, t, e⟩ := g1 v hv
    rw [e]; rfl
  rw [if_pos all]
  refine wpAny_bind (wpAny_rule (wpAny_bind ?_))
  have fm : (((bs.map Value.ref).map g).toArray.filterMap id) = ((bs.map Value.ref).filterMap g).toArray := by
    rw [List.filterMap_toArray, List.filterMap_map]; rfl
  rw [fm, oneTypeOnly'_eq, List.mapM_toArray]
  refine wpAny_bind ?_
  rw [map_eq_pure_bind]
  refine wpAny_bind (wp_mapM (g := fun _ => Value.type "str") (fun v hv Q q => ?_) (wpAny_pure ?_))
  · obtain ⟨r, hr, e⟩ := List.mem_filterMap.mp hv
    obtain ⟨z, t, e2⟩ := g1 r hr
    rw [e2] at e; cases e
    exact wpAny_typeOf (typeIs_str s z t) q
  · have ne : (bs.map Value.ref).filterMap g ≠ [] := by
      obtain ⟨b, r, e⟩ : ∃ b r, bs = b :: r := by cases bs with | nil => exact absurd rfl h2 | cons b r => exact ⟨b, r, rfl⟩
      obtain ⟨z, t, e2⟩ := g1 (.ref b) (List.mem_map.mpr ⟨b, by rw [e]; exact .head _, rfl⟩)
      intro z0
      have : Value.str z t ∈ (bs.map Value.ref).filterMap g := List.mem_filterMap.mpr ⟨.ref b, List.mem_map.mpr ⟨b, by rw [e]; exact .head _, rfl⟩, e2⟩
      rw [z0] at this; cases this
    generalize (bs.map Value.ref).filterMap g = l at ne
    cases l with
    | nil => exact absurd rfl ne
    | cons v l =>
      have e0 : (((v :: l).map fun _ => Value.type "str").toArray)[0]? = some (Value.type "str") := rfl
      rw [e0]
      have al : ((((v :: l).map fun _ => Value.type "str").toArray).all fun x => x == Value.type "str") = true := by
        rw [List.all_toArray, List.all_eq_true]
        intro x hx
        obtain ⟨_, _, rfl⟩ := List.mem_map.mp hx
        rfl
      simp only [al, if_true]
      exact wpAny_pure (wpAny_pure q)
end
end L2

/-! sorted(..) of a list of pairs: the call -/
namespace L2
open PySem PySem.Spec PyProof.Rows
section
variable {prog : Program} {w : World} {A : Around} {E : Value → Shared → Prop} {s : Shared}
noncomputable def adr : Value → Addr
  | .ref b => b
  | _ => 0
noncomputable def twice (bs : List Addr) : List Keyed := bs.map fun b => (Value.ref b, Value.ref b)
theorem pairsOf_refs (bs : List Addr) : (pairsOf (bs.map Value.ref)).toList = twice bs := by
  rw [pairsOf_toList]
  induction bs with
  | nil => rfl
  | cons b r ih => rw [List.map_cons, List.zip_cons_cons, ih]; rfl
theorem twice_back {l : List Keyed} {bs : List Addr} (p : l.Perm (twice bs)) : ∃ bs' : List Addr, l = twice bs' ∧ bs'.Perm bs := by
  refine ⟨l.map fun x => adr x.2, ?_, ?_⟩
  · unfold twice
    rw [List.map_map]
    have e : ∀ x ∈ l, ((fun b => (Value.ref b, Value.ref b)) ∘ fun x : Keyed => adr x.2) x = x := fun x hx => by
      obtain ⟨b, _, rfl⟩ := List.mem_map.mp (p.mem_iff.mp hx)
      rfl
    rw [List.map_congr_left e, List.map_id']
  · have q := p.map fun x : Keyed => adr x.2
    unfold twice at q
    rw [List.map_map] at q
    have e : ((fun x : Keyed => adr x.2) ∘ fun b : Addr => (Value.ref b, Value.ref b)) = id := rfl
    rwa [e, List.map_id] at q
noncomputable def rnk (bs : List Addr) (d : Addr → PairD) (x : Keyed) : Nat := rankP (bs.map d) (d (adr x.1))
theorem rise_pairs {bs bs' : List Addr} {d : Addr → PairD} {xs : Array Keyed} (e : xs.toList = twice bs') (p : bs'.Perm bs) (up : Rise (rnk bs d) xs bs'.length) : (bs'.map d).Pairwise leP := by
  rw [List.pairwise_iff_getElem]
  intro i j hi hj lt
  rw [List.length_map] at hi hj
  have at_ : ∀ k (hk : k < bs'.length), rk (rnk bs d) xs k = rankP (bs.map d) (d bs'[k]) := fun k hk => by
    unfold rk
    rw [← Array.getElem?_toList, e]
    unfold twice
    rw [List.getElem?_map, List.getElem?_eq_getElem hk]
    rfl
  have h := up i j (Nat.le_of_lt lt) hj
  rw [at_ i hi, at_ j hj] at h
  rw [List.getElem_map, List.getElem_map]
  unfold leP
  rw [← rankP_lt (ds := bs.map d) (List.mem_map.mpr ⟨_, p.mem_iff.mp (List.getElem_mem hj), rfl⟩)]
  exact decide_eq_false (Nat.not_lt.mpr h)
theorem sort_pairs {a : Addr} {bs : List Addr} {d : Addr → PairD} {n : Nat} {P : Fin → Shared → Prop} (ho : s.heap.get? a = some (seqObj "list" (bs.map Value.ref).toArray n)) (hd : ∀ b ∈ bs, PrAt s.heap b (d b)) (h64 : bs.length < 64)
    (k : ∀ bs' : List Addr, bs'.Perm bs → (bs'.map d).Pairwise leP → P (.done (.ret .none)) { s with heap := sortedHeap s.heap a (bs.map Value.ref) (bs'.map Value.ref).toArray }) : wpAny (model prog w) A (Builtin.«list.sort» ⟨[.ref a], []⟩) P E s := by
  have la : a < s.heap.objs.size := Heap.lt_size ho
  have e1 := get?_update_seq ho fun _ => #[]
  generalize (if (#[] : Array Value).size == (bs.map Value.ref).toArray.size then n else n + 1) = n1 at e1
  have off : ∀ {b : Addr} {o : Obj}, b ≠ a → s.heap.get? b = some o → ((((s.heap.update a (Obj.mapSeq fun _ => #[])).push (seqObj "tuple" (bs.map Value.ref).toArray 0)).push (seqObj "list" #[] 0)).get? b = some o) := fun {b o} ne g =>
    Heap.get?_push_of_some _ (Heap.get?_push_of_some _ (by rw [Heap.get?_update_ne _ _ _ _ ne]; exact g))
  have at_ : (((s.heap.update a (Obj.mapSeq fun _ => #[])).push (seqObj "tuple" (bs.map Value.ref).toArray 0)).push (seqObj "list" #[] 0)).get? a = some (seqObj "list" #[] n1) :=
    Heap.get?_push_of_some _ (Heap.get?_push_of_some _ e1)
  have pr : ∀ b ∈ bs, PrAt (((s.heap.update a (Obj.mapSeq fun _ => #[])).push (seqObj "tuple" (bs.map Value.ref).toArray 0)).push (seqObj "list" #[] 0)) b (d b) := fun b hb => by
    obtain ⟨t, u, o, m, g, c, e⟩ := hd b hb
    refine ⟨t, u, o, m, off (fun z => ?_) g, c, e⟩
    rw [z, ho] at g
    cases g
    exact absurd (Value.type.inj c) (by decide)
  have sz : (bs.map Value.ref).toArray.size = bs.length := by simp
  rw [list_sort_plain]
  refine wpAny_bind (listItems_at ho rfl (wpAny_bind (listUpdate_at ho rfl (wpAny_bind (seqEpoch_at e1 rfl (wpAny_bind (wpAny_newTuple (wpAny_bind (wpAny_newList (wpAny_holding ?_) ?_)) ?_)))))))
  · have out : ∀ bs' : List Addr, (sortedHeap s.heap a (bs.map Value.ref) (bs'.map Value.ref).toArray) = (((s.heap.update a (Obj.mapSeq fun _ => #[])).push (seqObj "tuple" (bs.map Value.ref).toArray 0)).push (seqObj "list" #[] 0)).update a (Obj.mapSeq fun _ => (bs'.map Value.ref).toArray) := fun _ => rfl
    simp only [out] at k
    generalize ((s.heap.update a (Obj.mapSeq fun _ => #[])).push (seqObj "tuple" (bs.map Value.ref).toArray 0)).push (seqObj "list" #[] 0) = h6 at at_ pr k ⊢
    dsimp only
    have epi : ∀ (st : SortSt) (bs' : List Addr), failedOf st = none → (arrOf st).toList = twice bs' → bs'.Perm bs → (bs'.map d).Pairwise leP →
        wpAny (model prog w) A (seqEpoch a >>= fun e => Builtin.List.listUpdate (.ref a) (fun _ => (arrOf st).map fun x => x.2) >>= fun _ => if (e != n1) = true then rule "list.sort.modified" >>= fun _ => (raiseError "ValueError" "list modified during sort" : Sem Unit) >>= fun _ => ret .none else ret .none) P E { s with heap := h6 } := fun st bs' f e p pw => by
      have ea : ((arrOf st).map fun x => x.2) = (bs'.map Value.ref).toArray := by
        apply Array.ext'
        rw [Array.toList_map, e]
        unfold twice
        rw [List.map_map]; rfl
      rw [ea]
      refine wpAny_bind (seqEpoch_at at_ rfl (wpAny_bind (listUpdate_at at_ rfl ?_ (hsz2 := ?_))))
      · simp only [bne_self_eq_false, Bool.false_eq_true, if_false]
        exact wpAny_pure (k bs' p pw)
      · rw [List.size_toArray, List.length_map, p.length_eq, sizeLine_eq]; omega
    rw [sz]
    by_cases few : bs.length < 2
    · rw [if_pos few, if_pos few]
      refine wpAny_bind (wpAny_pure ?_)
      rw [StateT.run_pure]
      refine wpAny_bind (wpAny_pure ?_)
      refine epi (SortSt.mk' general' (pairsOf (bs.map Value.ref)) #[] 7 none) bs rfl (pairsOf_refs bs) (.refl _) ?_
      rw [List.pairwise_iff_getElem]
      intro i j hi hj lt
      rw [List.length_map] at hj
      omega
    · rw [if_neg few, if_neg few]
      refine wpAny_bind (kind_pairs (d := d) (fun z => few (by rw [z]; decide)) pr ?_)
      have bz : (pairsOf (bs.map Value.ref)).size = bs.length := by rw [pairsOf_size, List.length_map]
      have ask : Asks prog w A E { s with heap := h6 } (tuples' true) (rnk bs d) (pairsOf (bs.map Value.ref)) := fun x hx y hy Q q => by
        rw [pairsOf_refs] at hx hy
        obtain ⟨b, hb, rfl⟩ := List.mem_map.mp hx
        obtain ⟨c, hc, rfl⟩ := List.mem_map.mp hy
        refine lt_pairs (pr b hb) (pr c hc) ?_
        rw [← rankP_lt (ds := bs.map d) (List.mem_map.mpr ⟨b, hb, rfl⟩)]; exact q
      refine wpAny_bind (wpAny_mono (by_ranks (Q := fun _ st => (arrOf st).Perm (pairsOf (bs.map Value.ref)) ∧ failedOf st = none ∧ Rise (rnk bs d) (arrOf st) bs.length) ask (st := SortSt.mk' (tuples' true) (pairsOf (bs.map Value.ref)) #[] 7 none) ⟨.refl _, rfl, rfl, rfl⟩ (by rw [bz]; omega) (by rw [bz]; exact h64) fun st p f up => ⟨p, f, by rw [bz] at up; exact up⟩) ?_ fun _ _ z => z)
      rintro ⟨⟨⟩, st⟩ s' ⟨rfl, p, f, up⟩
      have p' := Array.perm_iff_toList_perm.mp p
      rw [pairsOf_refs] at p'
      obtain ⟨bs', e, pb⟩ := twice_back p'
      dsimp only
      rw [f]
      refine epi st bs' f e pb (rise_pairs e pb ?_)
      rw [pb.length_eq]; exact up
  · exact Nat.zero_le _
  · rw [List.toList_toArray, List.length_map, sizeLine_eq]; omega
theorem sorted_pairs {l : Addr} {bs : List Addr} {d : Addr → PairD} {Q : Value → Shared → Prop} (hl : s.heap.IsList l (bs.map Value.ref).toArray) (hd : ∀ b ∈ bs, PrAt s.heap b (d b)) (h64 : bs.length < 64)
    (k : ∀ bs' : List Addr, bs'.Perm bs → (bs'.map d).Pairwise leP → Q (.ref (s.heap.objs.size + 1)) { s with heap := sortedAll s.heap (bs.map Value.ref) (bs'.map Value.ref).toArray }) : wpAny (model prog w) A (call (.builtin "sorted") [.ref l]) Q E s := by
  have one : ((s.heap.push (seqObj "list" #[] 0)).update s.heap.objs.size (Obj.mapSeq (· ++ (bs.map Value.ref).toArray))).objs.size = s.heap.objs.size + 1 := by rw [Heap.size_update, size_push']
  have keep : ∀ {b : Addr} {o : Obj}, s.heap.get? b = some o → (((s.heap.push (seqObj "list" #[] 0)).update s.heap.objs.size (Obj.mapSeq (· ++ (bs.map Value.ref).toArray))).push (seqObj "list" (bs.map Value.ref).toArray 0)).get? b = some o := fun {b o} g =>
    Heap.get?_push_of_some _ (by rw [Heap.get?_update_ne _ _ _ _ (Nat.ne_of_lt (Heap.lt_size g))]; exact Heap.get?_push_of_some _ g)
  have new : (((s.heap.push (seqObj "list" #[] 0)).update s.heap.objs.size (Obj.mapSeq (· ++ (bs.map Value.ref).toArray))).push (seqObj "list" (bs.map Value.ref).toArray 0)).get? (s.heap.objs.size + 1) = some (seqObj "list" (bs.map Value.ref).toArray 0) := by
    have := Heap.get?_push_size ((s.heap.push (seqObj "list" #[] 0)).update s.heap.objs.size (Obj.mapSeq (· ++ (bs.map Value.ref).toArray))) (o := seqObj "list" (bs.map Value.ref).toArray 0) rfl
    rwa [one] at this
  have fit : (bs.map Value.ref).length ≤ sizeLine := by rw [List.length_map, sizeLine_eq]; omega
  refine Calls.call_function_entry kind_sorted plain_sorted entry_sorted (args_sorted1 _) (wpAny_bind (m := checkCount "sorted" 1 1 _) (wpAny_pure (wpAny_bind (collect_list hl (wpAny_bind (wpAny_newList ?_ fit)) fit))))
  dsimp only
  rw [one]
  refine wpAny_bind (wpAny_holding (wpAny_call_entry slot_list_sort ⟨_, new, rfl⟩ entry_list_sort (sort_pairs new (fun b hb => ?_) h64 fun bs' p pw => ⟨_, rfl, wpAny_pure ⟨_, rfl, k bs' p pw⟩⟩) (args_list_sort _)))
  obtain ⟨t, u, o, m, g, c, e⟩ := hd b hb
  exact ⟨t, u, o, m, keep g, c, e⟩
end
section
variable {X : Cx}
noncomputable def rSortP (K : PySem.W.Frag) : List V → Hp → VK → Prop := fun xs H Q => ∃ (p : Addr) (bs : List Addr) (d : Addr → PairD), xs = [.ref p] ∧ SqL K H p (bs.map V.ref) ∧ (∀ b ∈ bs, H b = some (.tup [.str (d b).1, .int (d b).2])) ∧ bs.length < 64 ∧
  ∀ (l : Addr) (bs' : List Addr), H l = none → bs'.Perm bs → (bs'.map d).Pairwise leP → Q (.ref l) (upd H l (.lst (bs'.map V.ref)))
theorem vals_refs : ∀ {as : List Addr}, Vals (as.map V.ref) (as.map Value.ref)
  | [] => .nil
  | _ :: _ => .cons rfl vals_refs
theorem call_sortP : CallR X (.builtin "sorted") (rSortP X.K) := by
  intro pins s σ H xs us Q I r h
  obtain ⟨p, bs, d, rfl, hq, hd, hz, q⟩ := h
  obtain ⟨u, rfl, rx⟩ := vals1 r
  cases rx
  obtain ⟨its, r', pl, _⟩ := I.list hq
  have e := refs_of r'
  subst e
  refine sorted_pairs (d := d) pl.isList (fun b hb => ?_) hz fun bs' pb pw => ?_
  · obtain ⟨_, its, r2, o, h1, h2, n, h3⟩ := (show ObjOk X.prog X.w H s.heap b (.tup [.str (d b).1, .int (d b).2]) from I.hok b _ (hd b hb))
    cases r2 with
    | cons ra rb =>
      cases rb with
      | cons rc rd =>
        cases rd
        obtain ⟨t1, rfl⟩ := ra
        obtain ⟨t2, rfl⟩ := rc
        exact ⟨t1, t2, o, n, h1, h2, h3⟩
  · obtain ⟨e, he⟩ := sortedAll_at s.heap (bs.map Value.ref) (bs'.map Value.ref).toArray
    refine ⟨.ref (s.heap.objs.size + 1), _, I.laid (a := s.heap.objs.size + 1) (o := .lst (bs'.map V.ref)) (t' := s.toks) (fun b o => sortedAll_old) (Nat.le_succ _) ⟨?_, bs'.map Value.ref, e, vals_refs, he⟩, rfl, q _ bs' (I.hok.fresh (Nat.le_succ _)) pb pw⟩
    rw [List.length_map, pb.length_eq, sizeLine_eq]; omega
theorem call_sortPK {K : PySem.W.Frag} (e : X.K = K) : CallR X (.builtin "sorted") (rSortP K) := e ▸ call_sortP
end
end L2

/-! text.partition(sep) -/
namespace L2
open PySem PySem.Spec PyProof.Rows
section
variable {X : Cx}
end
end L2

/-! list(reversed(a list)) -/
namespace L2
open PySem PySem.Spec PyProof.Rows
section
variable {prog : Program} {w : World} {A : Around} {E : Value → Shared → Prop} {s : Shared}
theorem semN {α : Type} {c : Prop} [Decidable c] {x y : Sem α} {Q : α → Shared → Prop} (hc : ¬ c) (h : wpAny (model prog w) A y Q E s) : wpAny (model prog w) A (if c then x else y) Q E s := by
  rw [if_neg hc]; exact h
theorem semY {α : Type} {c : Prop} [Decidable c] {x y : Sem α} {Q : α → Shared → Prop} (hc : c) (h : wpAny (model prog w) A x Q E s) : wpAny (model prog w) A (if c then x else y) Q E s := by
  rw [if_pos hc]; exact h
theorem no_len_lri : typeLookup (.type "list_reverseiterator") "__len__" = pure none := by rw [typeLookup_type, builtinLookup_eq_fast]; kernel_rfl
theorem hint_lri : typeLookup (.type "list_reverseiterator") "__length_hint__" = pure (some (.builtin "list_reverseiterator.__length_hint__")) := by rw [typeLookup_type, builtinLookup_eq_fast]; kernel_rfl
theorem hint_rev {it : Addr} {Q : Bool → Shared → Prop} (hT : s.TypeIs (.ref it) "list_reverseiterator") (h : Q false s) : wpAny (model prog w) A (Builtin.List.listLengthHint (.ref it)) Q E s := by
  unfold Builtin.List.listLengthHint
  refine wpAny_bind (wpAny_specialOf hT no_len_lri ?_)
  dsimp only
  refine semN (by decide) (semN (by decide) ?_)
  refine wpAny_bind (wpAny_specialOf hT hint_lri ?_)
  generalize hid : ("list_reverseiterator.__length_hint__" : String) = id0
  wp_delta
  rw [show splitId id0 = some ("list_reverseiterator", "__length_hint__") from by subst hid; decide +kernel]
  subst hid
  refine wpAny_bind (wpAny_isInstance (T := "list_reverseiterator") (b := true) hT (by rw [isSubtype_type]; kernel_rfl) ?_)
  refine semN (by decide) (semY (by decide +kernel) (semN (by decide +kernel) ?_))
  exact wpAny_pure h
theorem fill_rev {it l S : Addr} {items : Array Value} {c : Nat} {R : Result → Shared → Prop} (hh : A.handled = none) (hn : items.size ≤ sizeLine) (hi : s.heap.IsRevIter it l ((items.size : Int) - 1)) (hl : s.heap.IsList l items) (n1 : l ≠ it) (n2 : S ≠ it) (n3 : S ≠ l)
    (hS : s.heap.get? S = some { cls := .type "list", dict := none, data := .seq #[] c, slots := #[] })
    (hR : ∀ (h' : Heap) (tk : Nat) (xs : Array Value) (c' : Nat), (∀ b o, b ≠ S → b ≠ it → s.heap.get? b = some o → h'.get? b = some o) → h'.get? S = some { cls := .type "list", dict := none, data := .seq xs c', slots := #[] } → xs.toList = items.toList.reverse → R (.ok (.ret .none)) { s with heap := h', toks := tk }) :
    wpAny (model prog w) A.in1 (Builtin.List.listExtendWith (.ref S) (.ref it) .none)
      (fun fin s' => match fin with | .done f => R (.ok f) s' | .again c' => c'.quiet = true ∧ codeAny (model prog w) A c' R s') (fun e s' => R (.error e) s') s := by
  unfold Builtin.List.listExtendWith
  refine wpAny_bind (wpAny_typeOf hi.typeIs ?_)
  have h1 : Builtin.List.listSameRef (.ref S) (.ref it) = false := by simp [Builtin.List.listSameRef]; exact n2
  refine semN (by rw [h1]; decide) ?_
  refine wpAny_bind (wpAny_pyIter_revIter hi (wpAny_bind (wpAny_holding (hint_rev hi.typeIs ?_))))
  refine semN (by decide +kernel) ?_
  have W := Walks.listRev (prog := prog) (w := w) (A := A.in1) hh it l n1 items
  have hSf : S ∉ [it, l] := fun z => by
    simp at z
    exact z.elim n2 n3
  refine wpAny_pure ⟨plainId_quiet PySem.F.plain_extend_loop _, codeAny_extend_loopS W.toS hn _ hSf _ items.size 0 _ #[] _ rfl (Nat.zero_le _) ⟨Nat.zero_le _, by simpa using hi, hl⟩ hS (ItemsOf.nil _) fun s2 acc c2 hm hS2 hacc => ?_⟩
  rw [hm.eq_with]
  refine hR s2.heap s2.toks acc c2 (fun b o b1 b2 z => hm.heap b o (by simp [b1, b2]) z) hS2 (List.ext_getElem? fun j => ?_)
  obtain ⟨z1, z2⟩ := hacc
  have rl : items.toList.reverse.length = items.size := by rw [List.length_reverse, Array.length_toList]
  rw [Array.getElem?_toList]
  by_cases q : j < items.size
  · have e1 : acc[j]? = some (acc[j]'(by omega)) := Array.getElem?_eq_getElem (by omega)
    have e2 := z2 j _ e1
    rw [e1, List.getElem?_reverse (by rw [Array.length_toList]; exact q), Array.length_toList, Array.getElem?_toList]
    exact e2.symm
  · rw [Array.getElem?_eq_none (by omega), List.getElem?_eq_none (by omega)]
theorem list_rev {it l : Addr} {items : Array Value} {Q : Value → Shared → Prop} (hh : A.handled = none) (hn : items.size ≤ sizeLine) (hi : s.heap.IsRevIter it l ((items.size : Int) - 1)) (hl : s.heap.IsList l items) (n1 : l ≠ it)
    (hQ : ∀ (h' : Heap) (tk : Nat) (xs : Array Value) (c' : Nat), (∀ b o, b ≠ it → s.heap.get? b = some o → h'.get? b = some o) → h'.get? s.heap.objs.size = some { cls := .type "list", dict := none, data := .seq xs c', slots := #[] } → xs.toList = items.toList.reverse → Q (.ref s.heap.objs.size) { s with heap := h', toks := tk }) :
    wpAny (model prog w) A (call (.type "list") [.ref it]) Q E s := by
  have li : it < s.heap.objs.size := let ⟨o, ho, _⟩ := hi; Heap.lt_size ho
  have ll : l < s.heap.objs.size := let ⟨o, ho, _⟩ := hl; Heap.lt_size ho
  refine callType_codes (Q₁ := fun obj s₁ => obj = .ref s.heap.objs.size ∧ s₁ = { s with heap := s.heap.push { cls := .type "list", data := .seq #[] } }) PySem.F.called_list (PySem.F.typeCall_list_1 _) PySem.F.entry_list_init (code_list_new _ ⟨rfl, rfl⟩) fun obj s₁ h₁ => ?_
  obtain ⟨rfl, rfl⟩ := h₁
  generalize hH : s.heap.push { cls := .type "list", data := .seq (#[] : Array Value) } = H
  have hS : H.get? s.heap.objs.size = some { cls := .type "list", data := .seq #[] } := hH ▸ Heap.get?_push_size _ rfl
  have kp : ∀ b o, s.heap.get? b = some o → H.get? b = some o := fun b o z => hH ▸ Heap.get?_push_of_some _ z
  refine ⟨⟨_, hS, rfl⟩, PySem.F.args_list_init_2 _ _, ?_⟩
  show wpAny _ _ (Builtin.List.listItems (.ref s.heap.objs.size) >>= fun old => updateSeq s.heap.objs.size (fun _ => #[]) >>= fun _ => letGo old.toList.reverse >>= fun _ => Builtin.List.listExtendWith (.ref s.heap.objs.size) (.ref it) .none) _ _ _
  refine wpAny_bind (wpAny_listItems hS rfl (wpAny_bind (wpAny_updateSeq hS rfl (wpAny_bind (wpAny_letGo ?_)))))
  have hS2 := Heap.get?_update_self (Obj.mapSeq (fun _ => (#[] : Array Value))) hS rfl
  have k2 : ∀ b o, b ≠ s.heap.objs.size → H.get? b = some o → (H.update s.heap.objs.size (Obj.mapSeq fun _ => #[])).get? b = some o := fun b o hb z => (Heap.get?_update_other _ _ (Ne.symm hb)).trans z
  refine fill_rev (s := { s with heap := H.update s.heap.objs.size (Obj.mapSeq fun _ => #[]) }) (l := l) (items := items) hh hn (hi.at fun o e => k2 _ _ (Nat.ne_of_lt li) (kp _ _ e)) (hl.at fun o e => k2 _ _ (Nat.ne_of_lt ll) (kp _ _ e)) n1 (Ne.symm (Nat.ne_of_lt li)) (Ne.symm (Nat.ne_of_lt ll)) hS2 fun h' tk xs c' k3 e1 e2 => ?_
  exact ⟨rfl, hQ h' tk xs c' (fun b o hb z => k3 b o (Nat.ne_of_lt (Heap.lt_size z)) hb (k2 b o (Nat.ne_of_lt (Heap.lt_size z)) (kp b o z))) e1 e2⟩
end
section
variable {X : Cx} {e : Expr} {te : TE} {p1 p2 pos1 pos2 : Pos}
theorem vals_rev : ∀ {xs : List V} {us : List Value}, Vals xs us → Vals xs.reverse us.reverse
  | _, _, .nil => .nil
  | _, _, .cons h r => by rw [List.reverse_cons, List.reverse_cons]; exact (vals_rev r).append (.cons h .nil)
noncomputable def tLRev (K : PySem.W.Frag) (te : TE) : TE := fun σ H Q => te σ H fun x H1 => ∃ p ys, x = .ref p ∧ SqL K H1 p ys ∧ ys.length < sizeLine ∧ ∀ l, H1 l = none → Q (.ref l) (upd H1 l (.lst ys.reverse))
theorem pe_lrev {K : PySem.W.Frag} (hc : X.calm = true) (eK : X.K = K) (he : PE X e te) (hg1 : Gl X "list") (hm1 : X.mg "list" = none) (hg2 : Gl X "reversed") (hm2 : X.mg "reversed" = none)
    (s1 : starEach [e] X.env = [(false, eval e X.env)] := by rfl) (s2 : starEach [Expr.Call (.Name "reversed" p2) [e] [] pos2] X.env = [(false, eval (Expr.Call (.Name "reversed" p2) [e] [] pos2) X.env)] := by rfl) :
    PE X (.Call (.Name "list" p1) [.Call (.Name "reversed" p2) [e] [] pos2] [] pos1) (tLRev K te) := by
  subst eK
  intro pins s σ H Q I h
  refine wpAny_Call_Name_kw (ld_blt I hg1 hm1 (show bootBuiltins "list" = some (.type "list") by kernel_rfl) ?_)
  refine PyProof.Rows.callWith_type1 ?_ (by rw [s2]; rfl) rfl
  rw [s2]
  show wpAny _ _ (spliced ((false, eval (Expr.Call (.Name "reversed" p2) [e] [] pos2) X.env) :: [])) _ _ s
  refine Calls.spliced_cons ?_
  refine wpAny_Call_Name_kw (ld_blt I hg2 hm2 (show bootBuiltins "reversed" = some (.type "reversed") by kernel_rfl) ?_)
  refine PyProof.Rows.callWith_type1 ?_ (by rw [s1]; rfl) rfl
  rw [s1]
  show wpAny _ _ (spliced ((false, eval e X.env) :: [])) _ _ s
  refine Calls.spliced_cons (thn (he pins s σ H _ I h) fun u s1 ⟨x, H1, I1, r1, p, ys, ex, hq, hz, q⟩ => Calls.spliced_nil ?_)
  subst ex
  cases r1
  obtain ⟨its, r', pl, hz'⟩ := I1.list hq
  refine call_reversed_list pl.isList ?_
  refine Calls.spliced_nil ?_
  have hp := pl.isList
  have lp : p < s1.heap.objs.size := let ⟨o, ho, _⟩ := hp; Heap.lt_size ho
  have sz : (s1.heap.push (revObj p ((its.toArray.size : Int) - 1))).objs.size = s1.heap.objs.size + 1 := Heap.size_push ..
  refine list_rev (s := { s1 with heap := s1.heap.push (revObj p ((its.toArray.size : Int) - 1)) }) (items := its.toArray) (I1.ok.hd hc) (by have := r'.length; simp only [List.size_toArray]; omega) ⟨_, Heap.get?_push_size _ rfl, rfl, rfl⟩ (hp.at fun o e => Heap.get?_push_of_some _ e) (Nat.ne_of_lt lp) fun h' tk xs c' k e1 e2 => ?_
  have e2 : xs.toList = its.reverse := e2
  refine ⟨.ref (s1.heap.push (revObj p ((its.toArray.size : Int) - 1))).objs.size, _, I1.laid (t' := tk) (fun b o z => k b o (Nat.ne_of_lt (Heap.lt_size z)) (Heap.get?_push_of_some _ z)) (by rw [sz]; omega) (show ObjOk X.prog X.w _ h' _ (.lst ys.reverse) from ⟨by rw [List.length_reverse]; exact hz', its.reverse, c', vals_rev r', by rw [← e2]; exact e1⟩), rfl, q _ (I1.hok.fresh (by rw [sz]; omega))⟩
end
end L2

/-! max(a list of numbers, default=n) -/
namespace L2
open PySem PySem.Spec PyProof.Rows
section
variable {prog : Program} {w : World} {A : Around} {R : Result → Shared → Prop} {I S : Addr} {fp wr : List Addr} {n : Nat} {P : Nat → Value → Prop} {St : Nat → Heap → Prop} {d : Value} {f : Nat → Int}
end
section
variable {prog : Program} {w : World} {A : Around} {E : Value → Shared → Prop} {s : Shared}
end
section
variable {X : Cx} {e : Expr} {te : TE} {p pos cp kp : Pos} {n : Int} {j : Nat}
noncomputable def Greatest (ns : List Int) (n m : Int) : Prop := (ns = [] ∧ m = n) ∨ (m ∈ ns ∧ ∀ x ∈ ns, x ≤ m)
noncomputable def tMaxD (K : PySem.W.Frag) (n : Int) (te : TE) : TE := fun σ H Q => te σ H fun x H1 => ∃ a ns, x = .ref a ∧ SqL K H1 a (ns.map V.int) ∧ ∀ m, Greatest ns n m → Q (.int m) H1
end
end L2

/-! a op b op c op d, as a test -/
namespace L2
open PySem PySem.Spec PyProof.Rows
section
variable {X : Cx} {a b c d : Expr} {ta tb tc td : TE} {pos : Pos}
noncomputable def lnk (r : R2) (x y : V) (go : (Bool → Hp → Prop) → Hp → Prop) : (Bool → Hp → Prop) → Hp → Prop := fun Q H => r x y H fun z H' => ∃ k, z = .bl k ∧ if k = true then go Q H' else Q false H'
noncomputable def tChain3 (r r' r'' : R2) (ta tb tc td : TE) : TT := fun σ H Q => ta σ H fun x H1 => tb σ H1 fun y H2 => lnk r x y (fun Q H3 => tc σ H3 fun z H4 => lnk r' y z (fun Q H5 => td σ H5 fun u H6 => r'' z u H6 fun v H7 => ∃ k, v = .bl k ∧ Q k H7) Q H4) Q H2
end
end L2

/-! less, of tuples of two within tuples of two, which differ -/
namespace L2
open PySem PySem.Spec PyProof.Rows
noncomputable def LtAt (A : Around) (s : Shared) (u v : Value) (r : Bool) : Prop := ∀ (prog : Program) (w : World) (E Q : Value → Shared → Prop), Q (.bool r) s → wpAny (model prog w) A (richCompare .Lt u v) Q E s
section
open PySem.SeqAt
open PySem.AutoSeq1 (wpAny_loadPart')
open PySem.MeetsSeq PySem.MeetsSeq2 PySem.MeetsSeq3
theorem two_lt (l b : Addr) (x1 x2 y1 y2 : Value) (n n2 : Nat) (dd dd2 : Option Addr) (sl sl2 : Array (Option Value)) (e1 r : Bool) :
    Meets (Builtin.«tuple.__lt__» ⟨[.ref l, .ref b], []⟩)
      (fun A R s => s.heap.get? l = some { cls := .type "tuple", dict := dd, data := .seq #[x1, x2] n, slots := sl } ∧ s.heap.get? b = some { cls := .type "tuple", dict := dd2, data := .seq #[y1, y2] n2, slots := sl2 } ∧
        EqAt A.in1 s x1 y1 e1 ∧ (e1 = false → LtAt A.in1 s x1 y1 r) ∧ (e1 = true → EqAt A.in1 s x2 y2 false ∧ LtAt A.in1 s x2 y2 r) ∧ R (.ok (.ret (.bool r))) s) :=
  .of_wp fun prog w A R s h => by
    obtain ⟨hp, g, d, tk, os⟩ := s
    obtain ⟨hl, hb, q1, q2, q3, hR⟩ := h
    have f2 := AutoSeq1.sub_tuple_tuple
    have w1 : ∀ (E : Value → Shared → Prop) (Q : Bool → Shared → Prop), Q e1 ⟨hp, g, d, tk, os⟩ → wpAny (model prog w) A.in1 (eqBool x1 y1) Q E ⟨hp, g, d, tk, os⟩ := fun E Q h => q1 prog w E Q h
    cases e1 with
    | false =>
      have w2 : ∀ (E Q : Value → Shared → Prop), Q (.bool r) ⟨hp, g, d, tk, os⟩ → wpAny (model prog w) A.in1 (richCompare .Lt x1 y1) Q E ⟨hp, g, d, tk, os⟩ := fun E Q h => q2 rfl prog w E Q h
      wp_walk using wpAny_loadPart' hl, wpAny_loadPart' hb, w1, w2
      exact ⟨_, rfl, hR⟩
    | true =>
      obtain ⟨q3, q4⟩ := q3 rfl
      have w3 : ∀ (E : Value → Shared → Prop) (Q : Bool → Shared → Prop), Q false ⟨hp, g, d, tk, os⟩ → wpAny (model prog w) A.in1 (eqBool x2 y2) Q E ⟨hp, g, d, tk, os⟩ := fun E Q h => q3 prog w E Q h
      have w4 : ∀ (E Q : Value → Shared → Prop), Q (.bool r) ⟨hp, g, d, tk, os⟩ → wpAny (model prog w) A.in1 (richCompare .Lt x2 y2) Q E ⟨hp, g, d, tk, os⟩ := fun E Q h => q4 prog w E Q h
      wp_walk using wpAny_loadPart' hl, wpAny_loadPart' hb, w1, w3, w4
      exact ⟨_, rfl, hR⟩
end
theorem lt_two {A : Around} {s : Shared} {l b : Addr} {x1 x2 y1 y2 : Value} {e1 r : Bool} (hl : IsTup s.heap l #[x1, x2]) (hb : IsTup s.heap b #[y1, y2]) (hu : A.units < cLine)
    (h1 : SeqAt.EqAt A.in1 s x1 y1 e1) (h2 : e1 = false → LtAt A.in1 s x1 y1 r) (h3 : e1 = true → SeqAt.EqAt A.in1 s x2 y2 false ∧ LtAt A.in1 s x2 y2 r) : LtAt A s (.ref l) (.ref b) r := by
  intro prog w E Q q
  obtain ⟨⟨cls, dd, data, sl⟩, ho, hc, n, hd⟩ := id hl
  obtain ⟨⟨cls2, dd2, data2, sl2⟩, ho2, hc2, n2, hd2⟩ := id hb
  simp only at hc hd hc2 hd2
  subst hc hd hc2 hd2
  exact richCompare_meets_room (op := .Lt) ⟨_, ho, rfl⟩ ⟨_, ho2, rfl⟩ PySem.F.slot_tuple_lt PySem.F.entry_tuple_lt (PySem.F.args_tuple_lt_2 _ _) (two_lt l b x1 x2 y1 y2 n n2 dd dd2 sl sl2 e1 r)
    ⟨ho, ho2, h1, h2, h3, show Value.bool r ≠ Value.notImplemented ∧ Q (.bool r) s from ⟨(fun x => nomatch x), q⟩⟩ hu
noncomputable def rLtN : R2 := fun x y H Q => ∃ (a b a' b' : Addr) (z z' : Str) (k k' : PairD), x = .ref a ∧ y = .ref b ∧ H a = some (.tup [.str z, .ref a']) ∧ H b = some (.tup [.str z', .ref b']) ∧ H a' = some (.tup [.str k.1, .int k.2]) ∧ H b' = some (.tup [.str k'.1, .int k'.2]) ∧
  (z.cps.toList < z'.cps.toList ∨ (z = z' ∧ ltP k k' = true)) ∧ Q (.bl true) H
theorem lt_strA {A : Around} {s : Shared} {z z' : Str} {t t' : Tok} (h : z.cps.toList < z'.cps.toList) : LtAt A s (.str z t) (.str z' t') true := by
  intro prog w E Q q
  exact (lt_str (by rw [decide_eq_true h]; exact q) : wpAny (model prog w) A (compareOp .Lt (.str z t) (.str z' t')) Q E s)
theorem lt_intA {A : Around} {s : Shared} {z z' : Int} {t t' : Tok} (h : z < z') : LtAt A s (.int z t) (.int z' t') true := by
  intro prog w E Q q
  exact (lt_int (by rw [decide_eq_true h]; exact q) : wpAny (model prog w) A (compareOp .Lt (.int z t) (.int z' t')) Q E s)
theorem op_ltN {X : Cx} (hu : X.A.units + 64 < cLine) : OpR X (compareOp .Lt) rLtN := by
  intro pins s σ H x y v u Q I rx ry h
  obtain ⟨a, b, a', b', z, z', k, k', rfl, rfl, ha, hb, ha', hb', hlt, q⟩ := h
  cases rx
  cases ry
  have get : ∀ {c : Addr} {x y : V}, H c = some (.tup [x, y]) → ∃ v w, RelV x v ∧ RelV y w ∧ IsTup s.heap c #[v, w] := fun {c x y} h => by
    obtain ⟨its, r1, p1, _⟩ := I.tuple (SqT.of h)
    cases r1 with
    | cons r1 r2 => cases r2 with
      | cons r2 r3 => cases r3; exact ⟨_, _, r1, r2, p1⟩
  obtain ⟨v1, v2, ⟨t1, rfl⟩, r2, p1⟩ := get ha
  obtain ⟨u1, u2, ⟨t2, rfl⟩, r4, p2⟩ := get hb
  cases r2
  cases r4
  obtain ⟨_, _, ⟨t3, rfl⟩, ⟨t4, rfl⟩, p3⟩ := get ha'
  obtain ⟨_, _, ⟨t5, rfl⟩, ⟨t6, rfl⟩, p4⟩ := get hb'
  have deep : ∀ A : Around, A.units + 2 < cLine → ∀ k k' : PairD, H a' = some (.tup [.str k.1, .int k.2]) → H b' = some (.tup [.str k'.1, .int k'.2]) → ltP k k' = true → SeqAt.EqAt A s (.ref a') (.ref b') false := fun A hA k k' ha' hb' hlt => by
    have := eq_deep I (.tup [.str k.1, .int k.2]) (.tup [.str k'.1, .int k'.2]) (.ref a') (.ref b') (.ref a') (.ref b') A (by simpa [dep, depL] using Nat.lt_of_le_of_lt (by omega) hA) (by simp only [Rep]; exact ⟨_, _, rfl, SqT.of ha', by simp [RepL, Rep]⟩) (by simp only [Rep]; exact ⟨_, _, rfl, SqT.of hb', by simp [RepL, Rep]⟩) rfl rfl
    have e : deq (.tup [.str k.1, .int k.2]) (.tup [.str k'.1, .int k'.2]) = false := by
      cases h : deq (.tup [.str k.1, .int k.2]) (.tup [.str k'.1, .int k'.2]) with
      | false => rfl
      | true =>
        simp [deq, deqL] at h
        have : k = k' := Prod.ext h.1 h.2
        rw [this, ltP_irr] at hlt
        cases hlt
    rwa [e] at this
  have main : ∀ A : Around, A.units + 64 < cLine → LtAt A s (.ref a) (.ref b) true := fun A hA => by
    refine lt_two p1 p2 (by omega) (SeqAt.EqAt.str_str _ _ _ _) (fun h => ?_) fun h => ?_
    · rcases hlt with h1 | ⟨h1, _⟩
      · exact lt_strA h1
      · rw [h1] at h; simp at h
    · have ez : z = z' := by simpa using h
      rcases hlt with h1 | ⟨_, h1⟩
      · rw [ez] at h1; exact absurd h1 (List.lt_irrefl _)
      · refine ⟨deep A.in1 (by show A.units + 1 + 2 < cLine; omega) k k' ha' hb' h1, lt_two p3 p4 (by show A.units + 1 < cLine; omega) (SeqAt.EqAt.str_str _ _ _ _) (fun h => ?_) fun h => ?_⟩
        · rcases (ltP_cases k k').mp h1 with h2 | ⟨h2, _⟩
          · exact lt_strA h2
          · rw [h2] at h; simp at h
        · have e2 : k.1 = k'.1 := by simpa using h
          rcases (ltP_cases k k').mp h1 with h2 | ⟨_, h2⟩
          · rw [e2] at h2; exact absurd h2 (List.lt_irrefl _)
          · refine ⟨?_, lt_intA h2⟩
            have := SeqAt.EqAt.int_int (A := A.in1.in1) (s := s) k.2 t4 k'.2 t6
            rwa [show (k.2 == k'.2) = false by simpa using Int.ne_of_lt h2] at this
  exact main X.A hu X.prog X.w X.xe _ ⟨.bl true, H, I, rfl, q⟩
end L2

set_option maxHeartbeats 0
set_option pp.deepTerms true
set_option pp.maxSteps 100000
namespace My
open PySem PySem.Spec PyProof.Rows L2
noncomputable def top (i : Nat) : Stmt := PySem.Challenge.pw_joinload_k30_laid_by_steps.main.body.getD i (.Pass ⟨0, 0, 0, 0⟩)
noncomputable abbrev s_pieces_by_name : Stmt := top 1
noncomputable abbrev s_laid : Stmt := top 3
noncomputable abbrev s_laid_with_ends : Stmt := top 4
noncomputable abbrev s_in_order : Stmt := top 5
noncomputable abbrev s_multiple_from : Stmt := top 6
noncomputable abbrev s__law_whole : Stmt := top 8
noncomputable abbrev s__law_cell_at : Stmt := top 9
noncomputable abbrev s__law_name_by : Stmt := top 10
noncomputable abbrev s__law_many_by : Stmt := top 11
noncomputable abbrev s__law_drawn : Stmt := top 12
noncomputable abbrev s__law_known : Stmt := top 13
noncomputable abbrev s__law_copies : Stmt := top 14
noncomputable abbrev s__law_kinds : Stmt := top 15
noncomputable abbrev s__law_laid_so : Stmt := top 16
noncomputable abbrev s_law : Stmt := top 17
theorem bt_bool : bootBuiltins "bool" = some (.type "bool") := by decide +kernel
theorem bt_dict : bootBuiltins "dict" = some (.type "dict") := by decide +kernel
theorem bt_int : bootBuiltins "int" = some (.type "int") := by decide +kernel
theorem bt_isinstance : bootBuiltins "isinstance" = some (.builtin "isinstance") := by decide +kernel
theorem bt_len : bootBuiltins "len" = some (.builtin "len") := by decide +kernel
theorem bt_list : bootBuiltins "list" = some (.type "list") := by decide +kernel
theorem bt_sorted : bootBuiltins "sorted" = some (.builtin "sorted") := by decide +kernel
theorem bt_str : bootBuiltins "str" = some (.type "str") := by decide +kernel
theorem bt_tuple : bootBuiltins "tuple" = some (.type "tuple") := by decide +kernel
theorem relT {n : String} : RelV (.ty n) (.type n) := rfl
set_option genInjectivity false in
structure Ad where
  pieces_by_name : Addr
  fd_pieces_by_name : FuncData
  laid : Addr
  fd_laid : FuncData
  laid_with_ends : Addr
  fd_laid_with_ends : FuncData
  in_order : Addr
  fd_in_order : FuncData
  multiple_from : Addr
  fd_multiple_from : FuncData
  _law_whole : Addr
  fd__law_whole : FuncData
  _law_cell_at : Addr
  fd__law_cell_at : FuncData
  _law_name_by : Addr
  fd__law_name_by : FuncData
  _law_many_by : Addr
  fd__law_many_by : FuncData
  _law_drawn : Addr
  fd__law_drawn : FuncData
  _law_known : Addr
  fd__law_known : FuncData
  _law_copies : Addr
  fd__law_copies : FuncData
  _law_kinds : Addr
  fd__law_kinds : FuncData
  _law_laid_so : Addr
  fd__law_laid_so : FuncData
  law : Addr
  fd_law : FuncData
set_option genInjectivity false in
structure Txt (K : PySem.W.Frag) (mg : Str → Option Value) (A : Ad) : Prop where
  m_pieces_by_name : mg "pieces_by_name" = some (.ref A.pieces_by_name)
  k_pieces_by_name : PySem.W.keepIn K (.ref A.pieces_by_name) = true
  b_pieces_by_name : Binds K A.fd_pieces_by_name ["pieces"] []
  F_pieces_by_name : Fun K "pieces_by_name" "pieces_by_name" s_pieces_by_name A.pieces_by_name A.fd_pieces_by_name
  m_laid : mg "laid" = some (.ref A.laid)
  k_laid : PySem.W.keepIn K (.ref A.laid) = true
  b_laid : Binds K A.fd_laid ["pieces", "keys"] []
  F_laid : Fun K "laid" "laid" s_laid A.laid A.fd_laid
  m_laid_with_ends : mg "laid_with_ends" = some (.ref A.laid_with_ends)
  k_laid_with_ends : PySem.W.keepIn K (.ref A.laid_with_ends) = true
  b_laid_with_ends : Binds K A.fd_laid_with_ends ["pieces", "keys"] []
  F_laid_with_ends : Fun K "laid_with_ends" "laid_with_ends" s_laid_with_ends A.laid_with_ends A.fd_laid_with_ends
  m_in_order : mg "in_order" = some (.ref A.in_order)
  k_in_order : PySem.W.keepIn K (.ref A.in_order) = true
  b_in_order : Binds K A.fd_in_order ["by_name", "keys"] []
  F_in_order : Fun K "in_order" "in_order" s_in_order A.in_order A.fd_in_order
  m_multiple_from : mg "multiple_from" = some (.ref A.multiple_from)
  k_multiple_from : PySem.W.keepIn K (.ref A.multiple_from) = true
  b_multiple_from : Binds K A.fd_multiple_from ["number", "step"] []
  F_multiple_from : Fun K "multiple_from" "multiple_from" s_multiple_from A.multiple_from A.fd_multiple_from
  m__law_whole : mg "_law_whole" = some (.ref A._law_whole)
  k__law_whole : PySem.W.keepIn K (.ref A._law_whole) = true
  b__law_whole : Binds K A.fd__law_whole ["_law_found"] []
  F__law_whole : Fun K "_law_whole" "_law_whole" s__law_whole A._law_whole A.fd__law_whole
  m__law_cell_at : mg "_law_cell_at" = some (.ref A._law_cell_at)
  k__law_cell_at : PySem.W.keepIn K (.ref A._law_cell_at) = true
  b__law_cell_at : Binds K A.fd__law_cell_at ["_law_script", "_law_k"] []
  F__law_cell_at : Fun K "_law_cell_at" "_law_cell_at" s__law_cell_at A._law_cell_at A.fd__law_cell_at
  m__law_name_by : mg "_law_name_by" = some (.ref A._law_name_by)
  k__law_name_by : PySem.W.keepIn K (.ref A._law_name_by) = true
  b__law_name_by : Binds K A.fd__law_name_by ["_law_cell", "_law_k"] []
  F__law_name_by : Fun K "_law_name_by" "_law_name_by" s__law_name_by A._law_name_by A.fd__law_name_by
  m__law_many_by : mg "_law_many_by" = some (.ref A._law_many_by)
  k__law_many_by : PySem.W.keepIn K (.ref A._law_many_by) = true
  b__law_many_by : Binds K A.fd__law_many_by ["_law_number"] []
  F__law_many_by : Fun K "_law_many_by" "_law_many_by" s__law_many_by A._law_many_by A.fd__law_many_by
  m__law_drawn : mg "_law_drawn" = some (.ref A._law_drawn)
  k__law_drawn : PySem.W.keepIn K (.ref A._law_drawn) = true
  b__law_drawn : Binds K A.fd__law_drawn ["_law_script", "_law_most"] []
  F__law_drawn : Fun K "_law_drawn" "_law_drawn" s__law_drawn A._law_drawn A.fd__law_drawn
  m__law_known : mg "_law_known" = some (.ref A._law_known)
  k__law_known : PySem.W.keepIn K (.ref A._law_known) = true
  b__law_known : Binds K A.fd__law_known ["_law_pieces"] []
  F__law_known : Fun K "_law_known" "_law_known" s__law_known A._law_known A.fd__law_known
  m__law_copies : mg "_law_copies" = some (.ref A._law_copies)
  k__law_copies : PySem.W.keepIn K (.ref A._law_copies) = true
  b__law_copies : Binds K A.fd__law_copies ["_law_pieces"] []
  F__law_copies : Fun K "_law_copies" "_law_copies" s__law_copies A._law_copies A.fd__law_copies
  m__law_kinds : mg "_law_kinds" = some (.ref A._law_kinds)
  k__law_kinds : PySem.W.keepIn K (.ref A._law_kinds) = true
  b__law_kinds : Binds K A.fd__law_kinds ["_law_found", "_law_count"] []
  F__law_kinds : Fun K "_law_kinds" "_law_kinds" s__law_kinds A._law_kinds A.fd__law_kinds
  m__law_laid_so : mg "_law_laid_so" = some (.ref A._law_laid_so)
  k__law_laid_so : PySem.W.keepIn K (.ref A._law_laid_so) = true
  b__law_laid_so : Binds K A.fd__law_laid_so ["_law_found", "_law_known_here"] []
  F__law_laid_so : Fun K "_law_laid_so" "_law_laid_so" s__law_laid_so A._law_laid_so A.fd__law_laid_so
  m_law : mg "law" = some (.ref A.law)
  k_law : PySem.W.keepIn K (.ref A.law) = true
  b_law : Binds K A.fd_law ["_law_script"] []
  F_law : Fun K "law" "law" s_law A.law A.fd_law
  n_bool : mg "bool" = none
  n_dict : mg "dict" = none
  n_int : mg "int" = none
  n_isinstance : mg "isinstance" = none
  n_len : mg "len" = none
  n_list : mg "list" = none
  n_range : mg "range" = none
  n_reversed : mg "reversed" = none
  n_sorted : mg "sorted" = none
  n_str : mg "str" = none
  n_tuple : mg "tuple" = none
theorem sc_pieces_by_name : FnScope ["pieces"] ["pieces"] (defScope s_pieces_by_name) := ⟨rfl, rfl, rfl, by decide +kernel, rfl, by decide +kernel, by decide +kernel⟩
theorem sc_laid : FnScope ["pieces", "keys"] ["pieces", "keys"] (defScope s_laid) := ⟨rfl, rfl, rfl, by decide +kernel, rfl, by decide +kernel, by decide +kernel⟩
theorem sc_laid_with_ends : FnScope ["pieces", "keys", "by_name", "rows", "end", "key", "stretch", "place"] ["pieces", "keys"] (defScope s_laid_with_ends) := ⟨rfl, rfl, rfl, by decide +kernel, rfl, by decide +kernel, by decide +kernel⟩
theorem sc_in_order : FnScope ["by_name", "keys", "ordered", "code", "data"] ["by_name", "keys"] (defScope s_in_order) := ⟨rfl, rfl, rfl, by decide +kernel, rfl, by decide +kernel, by decide +kernel⟩
theorem sc_multiple_from : FnScope ["number", "step"] ["number", "step"] (defScope s_multiple_from) := ⟨rfl, rfl, rfl, by decide +kernel, rfl, by decide +kernel, by decide +kernel⟩
theorem sc__law_whole : FnScope ["_law_found"] ["_law_found"] (defScope s__law_whole) := ⟨rfl, rfl, rfl, by decide +kernel, rfl, by decide +kernel, by decide +kernel⟩
theorem sc__law_cell_at : FnScope ["_law_script", "_law_k"] ["_law_script", "_law_k"] (defScope s__law_cell_at) := ⟨rfl, rfl, rfl, by decide +kernel, rfl, by decide +kernel, by decide +kernel⟩
theorem sc__law_name_by : FnScope ["_law_cell", "_law_k", "_law_signs", "_law_base", "_law_j", "_law_at", "_law_figures"] ["_law_cell", "_law_k"] (defScope s__law_name_by) := ⟨rfl, rfl, rfl, by decide +kernel, rfl, by decide +kernel, by decide +kernel⟩
theorem sc__law_many_by : FnScope ["_law_number"] ["_law_number"] (defScope s__law_many_by) := ⟨rfl, rfl, rfl, by decide +kernel, rfl, by decide +kernel, by decide +kernel⟩
theorem sc__law_drawn : FnScope ["_law_script", "_law_most", "_law_pieces", "_law_keys", "_law_cell", "_law_number", "_law_rows", "_law_kind", "_law_at"] ["_law_script", "_law_most"] (defScope s__law_drawn) := ⟨rfl, rfl, rfl, by decide +kernel, rfl, by decide +kernel, by decide +kernel⟩
theorem sc__law_known : FnScope ["_law_pieces", "_law_known_here", "_law_title", "_law_rows", "_law_told", "_law_k"] ["_law_pieces"] (defScope s__law_known) := ⟨rfl, rfl, rfl, by decide +kernel, rfl, by decide +kernel, by decide +kernel⟩
theorem sc__law_copies : FnScope ["_law_pieces", "_law_copies_here", "_law_title", "_law_rows", "_law_told", "_law_stretches"] ["_law_pieces"] (defScope s__law_copies) := ⟨rfl, rfl, rfl, by decide +kernel, rfl, by decide +kernel, by decide +kernel⟩
theorem sc__law_kinds : FnScope ["_law_found", "_law_count", "_law_row"] ["_law_found", "_law_count"] (defScope s__law_kinds) := ⟨rfl, rfl, rfl, by decide +kernel, rfl, by decide +kernel, by decide +kernel⟩
theorem sc__law_laid_so : FnScope ["_law_found", "_law_known_here", "_law_end", "_law_last", "_law_key", "_law_place", "_law_kind", "_law_step", "_law_words", "_law_fills"] ["_law_found", "_law_known_here"] (defScope s__law_laid_so) := ⟨rfl, rfl, rfl, by decide +kernel, rfl, by decide +kernel, by decide +kernel⟩
theorem sc_law : FnScope ["_law_script", "_law_pieces", "_law_keys", "_law_handed", "_law_asked", "_law_found", "_law_kept", "_law_other"] ["_law_script"] (defScope s_law) := ⟨rfl, rfl, rfl, by decide +kernel, rfl, by decide +kernel, by decide +kernel⟩
theorem cK {CX P w K mg base N qual scope f cd Ar outer s H E} : (cxOf CX P w K mg base N qual scope f cd Ar outer s H E).K = K := rfl
theorem bK {X : Cx} {N' : List Str} {scope : Scope} {fp : List Addr} {s : Shared} {H : Hp} : (blk X N' scope fp s H).K = X.K := rfl
theorem slen (a b : Str) : (a ++ b).length = a.length + b.length := Array.size_append
noncomputable def sp_byname : Sp := fun vs H Q _ => ∃ (L : Addr) (ps : List PcM), vs = [.ref L] ∧ Pcs H L ps ∧ ps.length ≤ 100 ∧ ∀ (d : Addr) (H' : Hp), Same H H' → H' d = some (.dK (mergeK [] (ps.map fun p => (.inr p.name, p.v)))) → H d = none → Q (.ref d) H'
noncomputable def pcAt (ps : List PcM) (n : Str) : Option PcM := ps.find? fun p => decide (p.name = n)
noncomputable def stF (ps : List PcM) (k : PairD) : Option StM := (pcAt ps k.1).bind fun p => if 0 ≤ k.2 then p.sts[k.2.toNat]? else none
set_option genInjectivity false in
structure Shelf (H : Hp) (ps : List PcM) : Prop where
  at_ : ∀ p ∈ ps, p.At H
  nd : (ps.map PcM.name).Nodup
  st : ∀ p ∈ ps, ∀ s ∈ p.sts, 1 ≤ s.step ∧ s.step ≤ 65536 ∧ (s.kind = Str.ofString "code" ∨ s.kind = Str.ofString "data") ∧ s.words.length ≤ 1000
noncomputable def KsAt (H : Hp) (a : Addr) (qs : List (Addr × PairD)) : Prop := H a = some (.lst (qs.map fun q => V.ref q.1)) ∧ ∀ q ∈ qs, H q.1 = some (.tup [.str q.2.1, .int q.2.2])
noncomputable def multF (n st : Int) : Int := (n + st - 1) / st * st
noncomputable def sp_mult : Sp := fun vs H Q _ => ∃ n st : Int, vs = [.int n, .int st] ∧ 0 ≤ n ∧ n ≤ 10 ^ 12 ∧ 1 ≤ st ∧ st ≤ 65536 ∧ Q (.int (multF n st)) H
noncomputable def isKd (ps : List PcM) (kd : Str) (k : PairD) : Bool := decide ((stF ps k).map StM.kind = some kd)
noncomputable def InOrd (ps : List PcM) (ks ls : List PairD) : Prop := ∃ ss : List PairD, ss.Perm ks ∧ ss.Pairwise leP ∧ ls = ss.filter (isKd ps (Str.ofString "code")) ++ ss.filter (isKd ps (Str.ofString "data"))
noncomputable def sp_inord : Sp := fun vs H Q _ => ∃ (d a : Addr) (ps : List PcM) (qs : List (Addr × PairD)), vs = [.ref d, .ref a] ∧ H d = some (.dK (mergeK [] (ps.map fun p => (.inr p.name, p.v)))) ∧ Shelf H ps ∧ KsAt H a qs ∧ qs.length < 64 ∧ (∀ q ∈ qs, (stF ps q.2).isSome = true) ∧
  ∀ (l : Addr) (rs : List (Addr × PairD)) (H' : Hp), Same H H' → H l = none → KsAt H' l rs → InOrd ps (qs.map (·.2)) (rs.map (·.2)) → Q (.ref l) H'
noncomputable def rowsF : Int → List StM → List (Int × Int)
  | _, [] => []
  | e, s :: r => (multF e s.step, multF e s.step + (s.words.length : Int)) :: rowsF (multF e s.step + (s.words.length : Int)) r
set_option genInjectivity false in
structure RowL where
  t : Addr
  b : Addr
  k : PairD
  p : Int
  e : Int
noncomputable def RowL.vs (r : RowL) (full : Bool) : List V := if full = true then [.ref r.b, .int r.p, .int r.e] else [.ref r.b, .int r.p]
set_option genInjectivity false in
structure LaidAt (H : Hp) (full : Bool) (l : Addr) (ps : List PcM) (ks : List PairD) (rs : List RowL) : Prop where
  top : H l = some (.lst (rs.map fun r => V.ref r.t))
  row : ∀ r ∈ rs, H r.t = some (.tup (r.vs full))
  key : ∀ r ∈ rs, H r.b = some (.tup [.str r.k.1, .int r.k.2])
  ord : InOrd ps ks (rs.map (·.k))
  lay : ∃ ss : List StM, rs.map (fun r => stF ps r.k) = ss.map some ∧ rs.map (fun r => (r.p, r.e)) = rowsF 0 ss
noncomputable def sp_lwe : Sp := fun vs H Q _ => ∃ (L a : Addr) (ps : List PcM) (qs : List (Addr × PairD)), vs = [.ref L, .ref a] ∧ Pcs H L ps ∧ ps.length ≤ 100 ∧ Shelf H ps ∧ KsAt H a qs ∧ qs.length < 64 ∧ (∀ q ∈ qs, (stF ps q.2).isSome = true) ∧
  ∀ (l : Addr) (rs : List RowL) (H' : Hp), Same H H' → H l = none → LaidAt H' true l ps (qs.map (·.2)) rs → Q (.ref l) H'
noncomputable def LyP (H : Hp) (vs : List V) (ps : List PcM) (ks : List PairD) : Prop := ∃ (L a : Addr) (qs : List (Addr × PairD)), vs = [.ref L, .ref a] ∧ ks = qs.map (·.2) ∧ Pcs H L ps ∧ ps.length ≤ 100 ∧ Shelf H ps ∧ KsAt H a qs ∧ qs.length < 64 ∧ ∀ q ∈ qs, (stF ps q.2).isSome = true
noncomputable def sp_laid : Sp := fun vs H Q _ => ∃ (ps : List PcM) (ks : List PairD), LyP H vs ps ks ∧ ∀ (l : Addr) (rs : List RowL) (H' : Hp), Same H H' → H l = none → LaidAt H' false l ps ks rs → Q (.ref l) H'
noncomputable def sp_sizeof : Sp := fun vs H Q _ => ∃ (ps : List PcM) (ks : List PairD), LyP H vs ps ks ∧ ∀ (m : Int) (H' : Hp), Same H H' → (∃ (ls : List PairD) (ss : List StM), InOrd ps ks ls ∧ ls.map (stF ps) = ss.map some ∧ Greatest ((rowsF 0 ss).map (·.2)) 0 m) → Q (.int m) H'
noncomputable def sp_stepof : Sp := fun vs H Q _ => ∃ (ps : List PcM) (ks : List PairD), LyP H vs ps ks ∧ ∀ (m : Int) (H' : Hp), Same H H' → (∃ ss : List StM, ks.map (stF ps) = ss.map some ∧ Greatest (ss.map StM.step) 1 m) → Q (.int m) H'
noncomputable def SIGNS : Str := Str.ofString "abcdefghijklmnopqrstuvwxyz0123456789_"
noncomputable def sgA (i : Int) : Str := match atI SIGNS.cps.toList i with | some c => ⟨#[c]⟩ | none => Str.ofString ""
noncomputable def baseF (c : Int) : Nat → Str
  | 0 => Str.ofString ""
  | n + 1 => baseF c n ++ sgA ((c / ((n : Int) + 3) + (n : Int) * (n : Int)) % (37 - 11 * (if decide ((n : Int) = 0) = true then (1 : Int) else 0)))
noncomputable def figF (c k : Int) : Str := if c / 169 % 2 = 1 then Txt.zfill (Str.ofString (toString (k % 400))) 3 else Str.ofString (toString (k % 400))
noncomputable def atF (c : Int) : Int := 1 + c / 13 % ((baseF c (1 + c % 13).toNat).length : Int)
noncomputable def nameF (c k : Int) : Str := Txt.slice (baseF c (1 + c % 13).toNat) none (some (atF c)) ++ figF c k ++ Txt.slice (baseF c (1 + c % 13).toNat) (some (atF c)) none
noncomputable def sp_nameL : Sp := fun vs H Q _ => ∃ c k : Int, vs = [.int c, .int k] ∧ Q (.str (nameF c k)) H
noncomputable def sp_cellat (K : PySem.W.Frag) : Sp := fun vs H Q _ => ∃ (a : Addr) (ns : List Int) (k : Int), vs = [.ref a, .int k] ∧ SqL K H a (ns.map V.int) ∧ 0 ≤ k ∧ Q (.int (ns.getD k.toNat 0)) H
noncomputable def sp_many : Sp := fun vs H Q _ => ∃ n : Int, vs = [.int n] ∧ 0 ≤ n ∧ ∀ m : Int, 0 ≤ m → m ≤ 1000 → Q (.int m) H
set_option genInjectivity false in
structure StOk (s : StM) : Prop where
  step : ∃ e : Nat, e ≤ 16 ∧ s.step = 2 ^ e
  kind : s.kind = Str.ofString "code" ∨ s.kind = Str.ofString "data"
  words : s.words.length ≤ 1000
set_option genInjectivity false in
structure DrS (H0 H : Hp) (L a : Addr) (c : Int) (ps : List PcM) (qs : List (Addr × PairD)) (i : Nat) : Prop where
  sm : Same H0 H
  pc : Pcs H L ps
  ks : KsAt H a qs
  fr : ∀ b ∈ L :: listsOf ps, H0 b = none
  fa : H0 a = none
  aL : a ∉ L :: listsOf ps
  nm : ps.map PcM.name = Str.ofString "none" :: (List.range (ps.length - 1)).map fun j : Nat => nameF c (((j : Int) + 1) * 37 % 101)
  n1 : 1 ≤ ps.length ∧ ps.length ≤ 100
  n2 : ∀ p ∈ ps, p.sts.length ≤ i
  n3 : qs.length ≤ i
  st : ∀ p ∈ ps, ∀ s ∈ p.sts, StOk s
  inn : ∀ q ∈ qs, ∃ (j : Nat) (p : PcM), ps[j]? = some p ∧ p.name = q.2.1 ∧ 0 ≤ q.2.2 ∧ q.2.2 < (p.sts.length : Int)
  nk : (qs.map (·.2)).Nodup
noncomputable def rB1 : TS := fun D σ H => ∃ (H0 : Hp) (sc L a : Addr) (c cell : Int) (ps : List PcM) (p : PcM) (qs : List (Addr × PairD)) (i : Nat) (mo b6 b7 b8 : Option V), σ = [some (.ref sc), mo, some (.ref L), some (.ref a), some (.int cell), some (.int (cell * 1583458089 % 2147483647)), b6, b7, b8] ∧ DrS H0 H L a c (ps ++ [p]) qs i ∧ i < 63 ∧
  ∀ (ps' : List PcM) (qs' : List (Addr × PairD)) (b5 b6 b7 : Option V) (H' : Hp), DrS H0 H' L a c ps' qs' (i + 1) → (∀ x o, x ∉ a :: L :: listsOf (ps ++ [p]) → H x = some o → H' x = some o ∧ x ∉ a :: L :: listsOf ps') → D.nx [some (.ref sc), mo, some (.ref L), some (.ref a), some (.int cell), b5, b6, b7, b8] H'
noncomputable def rB2 : TS := fun D σ H => ∃ (H0 : Hp) (sc L a : Addr) (c cell : Int) (ps : List PcM) (p : PcM) (qs : List (Addr × PairD)) (i : Nat) (mo b5 b7 b8 : Option V), σ = [some (.ref sc), mo, some (.ref L), some (.ref a), some (.int cell), b5, some (.ref p.ls), b7, b8] ∧ DrS H0 H L a c (ps ++ [p]) qs (i + 1) ∧ qs.length ≤ i ∧ p.sts ≠ [] ∧ i < 63 ∧ (∀ q ∈ qs, q.2 ≠ (p.name, (p.sts.length : Int) - 1)) ∧
  ∀ (ps' : List PcM) (qs' : List (Addr × PairD)) (b5 b6 b7 : Option V) (H' : Hp), DrS H0 H' L a c ps' qs' (i + 1) → (∀ x o, x ∉ a :: L :: listsOf (ps ++ [p]) → H x = some o → H' x = some o ∧ x ∉ a :: L :: listsOf ps') → D.nx [some (.ref sc), mo, some (.ref L), some (.ref a), some (.int cell), b5, b6, b7, b8] H'
noncomputable def DrQ (H0 : Hp) (Q : VK) : Prop := ∀ (t L a : Addr) (ps : List PcM) (qs : List (Addr × PairD)) (c : Int) (H' : Hp), Same H0 H' → H' t = some (.tup [.ref L, .ref a]) → DrS H0 H' L a c ps qs 63 → Q (.ref t) H'
noncomputable def rE (K : PySem.W.Frag) : TS := fun D σ H => ∃ (H0 : Hp) (sc L a : Addr) (ns : List Int) (c : Int) (ps : List PcM) (qs : List (Addr × PairD)) (mo b4 b5 b6 b7 b8 : Option V), σ = [some (.ref sc), mo, some (.ref L), some (.ref a), b4, b5, b6, b7, b8] ∧ SqL K H sc (ns.map V.int) ∧ DrS H0 H L a c ps qs 63 ∧ DrQ H0 D.rt
noncomputable def rF (K : PySem.W.Frag) : TS := rE K
noncomputable def sp_drawnL (K : PySem.W.Frag) : Sp := fun vs H Q _ => ∃ (a : Addr) (ns : List Int) (n : Int), vs = [.ref a, .int n] ∧ SqL K H a (ns.map V.int) ∧ ns.length ≤ 63 ∧ 0 ≤ n ∧ n ≤ 1000 ∧ DrQ H Q
noncomputable def KnownP (ps : List PcM) (kvs : List (List Key × V)) : Prop := ∀ (k : PairD) (s : StM), stF ps k = some s → valV kvs [.inr k.1, .inl k.2] = some s.v
noncomputable def sp_known : Sp := fun vs H Q _ => ∃ (L : Addr) (ps : List PcM), vs = [.ref L] ∧ Pcs H L ps ∧ ps.length ≤ 100 ∧ (ps.map PcM.name).Nodup ∧ (∀ p ∈ ps, p.sts.length ≤ 100) ∧ ∀ (d : Addr) (kvs : List (List Key × V)) (H' : Hp), Same H H' → H' d = some (.dT kvs) → KnownP ps kvs → Q (.ref d) H'
noncomputable def sp_whole : Sp := fun vs H Q _ => ∃ n : Int, vs = [.int n] ∧ Q (.bl true) H
noncomputable def pcAll (p : PcM) : Str × List ToldM × List (Str × Int × List Int × List FillM) := (p.name, p.nms, p.sts.map StM.core)
noncomputable def CopyL (ps qs : List PcM) : Prop := qs.map pcAll = ps.map pcAll
noncomputable def sp_copies : Sp := fun vs H Q _ => ∃ (L : Addr) (ps : List PcM), vs = [.ref L] ∧ Pcs H L ps ∧ ps.length ≤ 100 ∧ (∀ p ∈ ps, p.sts.length ≤ 100) ∧ ∀ (L' : Addr) (ps' : List PcM) (H' : Hp), Same H H' → Pcs H' L' ps' → CopyL ps ps' → Q (.ref L') H'
noncomputable def sp_kinds : Sp := fun vs H Q _ => ∃ (l : Addr) (ps : List PcM) (ks : List PairD) (rs : List RowL), vs = [.ref l, .int (rs.length : Int)] ∧ LaidAt H false l ps ks rs ∧ ∀ H', Same H H' → Q (.bl true) H'
noncomputable def sp_laidso : Sp := fun vs H Q _ => ∃ (l d : Addr) (ps ps' : List PcM) (ks : List PairD) (rs : List RowL) (kvs : List (List Key × V)), vs = [.ref l, .ref d] ∧ LaidAt H false l ps' ks rs ∧ CopyL ps ps' ∧ Shelf H ps ∧ H d = some (.dT kvs) ∧ KnownP ps kvs ∧ ks.Nodup ∧ ∀ H', Same H H' → Q (.bl true) H'
noncomputable def sp_law (K : PySem.W.Frag) : Sp := fun vs H Q _ => ∃ (a : Addr) (ns : List Int), vs = [.ref a] ∧ SqL K H a (ns.map V.int) ∧ ns.length ≤ 63 ∧ ∀ H', Q (.bl true) H'
local macro_rules | `(tactic| walk_at "rdd") => `(tactic| (try dsimp only [tSeq, tAsg, gName, tC, tOp, tUn, tVar, tRet, tIfS, tOr, tAnd, tNot, tTest, tB, tChain, tCB, tCons, tNil, tCall, tSl, tNoPart, tPart, tNext, tDrop, tLst, tTup, tYes, tNotV, tAndV, tOrV, L2.start, List.set, List.map, List.length, List.replicate, List.cons_append, List.nil_append, List.append_nil, cK, bK, rI0, rI, rU, rIxS, rIxL, rIxT, tRetN, rSlL, rIn, rCatT, gTup, gCons, gNil, tRaiseI, tXInit, tDGet, tDGet1, tDGet2, tDIn, tDNotIn, sDPut, tDNewK, rDictOf, rEqDict, rCount, tCompX_list, xCall, sXFld, tXFld, rSlS, rEq, rNe, sc0, sc1, sc2, sc3, sc4, sc5, sc6, sc7, sc8, sc9, sc10, sc11, sc12, sc13, rCatS, rIsi, LenV, rAll, tFor_list, tFor_tup, tFor_str, tFor_rng1, tFor_rng2, tComp_list, tComp_tup, tComp_str, tComp_rng1, blkSt, tBM, rAppend, rStarts, rIndex, tIf, tMake, tMeth, sFld, tFld, tRepr, tFmt, jNil, jCons, tJoined, rJoin, rIsx, rIst, tRaise, tTryAs, tTry0, un1, xMeth, xDrop, xSet, xRet, xOf, xSeq, List.getElem?_cons_zero, List.getElem?_cons_succ, Option.some.injEq, V.int.injEq, V.str.injEq, V.bl.injEq, V.ref.injEq, V.ty.injEq, List.cons.injEq, exists_eq_left', exists_eq_left, exists_eq', and_assoc, if_true, if_false, Bool.not_false, Bool.not_true, Bool.not_not, Bool.false_eq_true, exists_and_left, and_true, true_and, List.set_cons_zero, List.set_cons_succ, Option.join_some, false_and, or_false, false_or, exists_false, sp_byname, sp_mult, sp_inord, sp_lwe, sp_laid, sp_sizeof, sp_stepof, sp_cellat, sp_nameL, sp_many, sp_drawnL, sp_known, sp_whole, sp_copies, sp_kinds, sp_laidso, tChain3, lnk, rRep, rDictP, rSortP, tLRev, tMaxD, tDispT, tDNewT, rZfill, rExtend, gSub, rSetL, rInD, rDictOf, tComp_zip, rSlT, rLtN, tBM0, rClear, Ends.nx, Nat.reduceSub, Nat.reduceAdd]))
local macro_rules | `(tactic| walk_at "rd") => `(tactic| (walk_at "rdd"; (try simp only [tSeq, tAsg, gName, tC, tOp, tUn, tVar, tRet, tIfS, tOr, tAnd, tNot, tTest, tB, tChain, tCB, tCons, tNil, tCall, tSl, tNoPart, tPart, tNext, tDrop, tLst, tTup, tYes, tNotV, tAndV, tOrV, L2.start, List.set, List.map, List.length, List.replicate, List.cons_append, List.nil_append, List.append_nil, cK, bK, rI0, rI, rU, rIxS, rIxL, rIxT, tRetN, rSlL, rIn, rCatT, gTup, gCons, gNil, tRaiseI, tXInit, tDGet, tDGet1, tDGet2, tDIn, tDNotIn, sDPut, tDNewK, rDictOf, rEqDict, rCount, tCompX_list, xCall, sXFld, tXFld, rSlS, rEq, rNe, sc0, sc1, sc2, sc3, sc4, sc5, sc6, sc7, sc8, sc9, sc10, sc11, sc12, sc13, rCatS, rIsi, LenV, rAll, tFor_list, tFor_tup, tFor_str, tFor_rng1, tFor_rng2, tComp_list, tComp_tup, tComp_str, tComp_rng1, blkSt, tBM, rAppend, rStarts, rIndex, tIf, tMake, tMeth, sFld, tFld, tRepr, tFmt, jNil, jCons, tJoined, rJoin, rIsx, rIst, tRaise, tTryAs, tTry0, un1, xMeth, xDrop, xSet, xRet, xOf, xSeq, List.getElem?_cons_zero, List.getElem?_cons_succ, Option.some.injEq, V.int.injEq, V.str.injEq, V.bl.injEq, V.ref.injEq, V.ty.injEq, List.cons.injEq, exists_eq_left', exists_eq_left, exists_eq', and_assoc, if_true, if_false, Bool.not_false, Bool.not_true, Bool.not_not, Bool.false_eq_true, exists_and_left, and_true, true_and, List.set_cons_zero, List.set_cons_succ, Option.join_some, false_and, or_false, false_or, exists_false, sp_byname, sp_mult, sp_inord, sp_lwe, sp_laid, sp_sizeof, sp_stepof, sp_cellat, sp_nameL, sp_many, sp_drawnL, sp_known, sp_whole, sp_copies, sp_kinds, sp_laidso, tChain3, lnk, rRep, rDictP, rSortP, tLRev, tMaxD, tDispT, tDNewT, rZfill, rExtend, gSub, rSetL, rInD, rDictOf, tComp_zip, rSlT, rLtN, tBM0, rClear, Ends.nx, Nat.reduceSub, Nat.reduceAdd, reduceCtorEq])))
local macro_rules | `(tactic| walk_at "rdi") => `(tactic| (walk_at "rdd"; (try simp only [tSeq, tAsg, gName, tC, tOp, tUn, tVar, tRet, tIfS, tOr, tAnd, tNot, tTest, tB, tChain, tCB, tCons, tNil, tCall, tSl, tNoPart, tPart, tNext, tDrop, tLst, tTup, tYes, tNotV, tAndV, tOrV, L2.start, List.set, List.map, List.length, List.replicate, List.cons_append, List.nil_append, List.append_nil, cK, bK, rI0, rI, rU, rIxS, rIxL, rIxT, tRetN, rSlL, rIn, rCatT, gTup, gCons, gNil, tRaiseI, tXInit, tDGet, tDGet1, tDGet2, tDIn, tDNotIn, sDPut, tDNewK, rDictOf, rEqDict, rCount, tCompX_list, xCall, sXFld, tXFld, rSlS, rEq, rNe, sc0, sc1, sc2, sc3, sc4, sc5, sc6, sc7, sc8, sc9, sc10, sc11, sc12, sc13, rCatS, rIsi, LenV, rAll, tFor_list, tFor_tup, tFor_str, tFor_rng1, tFor_rng2, tComp_list, tComp_tup, tComp_str, tComp_rng1, blkSt, tBM, rAppend, rStarts, rIndex, tIf, tMake, tMeth, sFld, tFld, tRepr, tFmt, jNil, jCons, tJoined, rJoin, rIsx, rIst, tRaise, tTryAs, tTry0, un1, xMeth, xDrop, xSet, xRet, xOf, xSeq, List.getElem?_cons_zero, List.getElem?_cons_succ, Option.some.injEq, V.int.injEq, V.str.injEq, V.bl.injEq, V.ref.injEq, V.ty.injEq, List.cons.injEq, exists_eq_left', exists_eq_left, exists_eq', and_assoc, if_true, if_false, Bool.not_false, Bool.not_true, Bool.not_not, Bool.false_eq_true, exists_and_left, and_true, true_and, List.set_cons_zero, List.set_cons_succ, Option.join_some, false_and, or_false, false_or, exists_false, sp_byname, sp_mult, sp_inord, sp_lwe, sp_laid, sp_sizeof, sp_stepof, sp_cellat, sp_nameL, sp_many, sp_drawnL, sp_known, sp_whole, sp_copies, sp_kinds, sp_laidso, tChain3, lnk, rRep, rDictP, rSortP, tLRev, tMaxD, tDispT, tDNewT, rZfill, rExtend, gSub, rSetL, rInD, rDictOf, tComp_zip, rSlT, rLtN, tBM0, rClear, Ends.nx, Nat.reduceSub, Nat.reduceAdd, reduceCtorEq, decide_true, decide_false, ↓reduceIte])))

section
variable {P : Program} {w : World} {K : PySem.W.Frag} {mg : Str → Option Value} {base : Heap} {A : Ad}
theorem same_new {H : Hp} {p : Addr} {o : HO} (h : H p = none) : Same H (upd H p o) := fun b u e => by rw [upd_ne (ne_of_none e h)]; exact e
theorem same_upd {H0 H : Hp} {L : Addr} {o : HO} (h : H0 L = none) (e : Same H0 H) : Same H0 (upd H L o) := fun b u q => by rw [upd_ne (ne_of_none q h)]; exact e b u q
theorem same_no {H H' : Hp} {l : Addr} (e : Same H H') (h : H' l = none) : H l = none := by
  cases q : H l with
  | none => rfl
  | some o => rw [e _ _ q] at h; cases h
theorem mergeK_nd : ∀ (l pre : List (Key × V)), ((pre ++ l).map (·.1)).Nodup → mergeK pre l = pre ++ l
  | [], pre, _ => by unfold mergeK; simp
  | x :: l, pre, h => by
    show mergeK (putK pre x.1 x.2) l = _
    have e : putK pre x.1 x.2 = pre ++ [x] := by
      unfold putK
      rw [if_neg]
      intro z
      obtain ⟨y, hy, e⟩ := List.any_eq_true.mp z
      rw [List.map_append, List.map_cons] at h
      exact (List.nodup_append.mp h).2.2 y.1 (List.mem_map.mpr ⟨y, hy, rfl⟩) x.1 (by simp) (of_decide_eq_true e)
    rw [e, mergeK_nd l (pre ++ [x]) (by rw [List.append_assoc]; exact h), List.append_assoc]; rfl
theorem pcAt_of {ps : List PcM} {p : PcM} (nd : (ps.map PcM.name).Nodup) (hp : p ∈ ps) : pcAt ps p.name = some p := by
  unfold pcAt
  induction ps with
  | nil => cases hp
  | cons q ps ih =>
    rw [List.map_cons, List.nodup_cons] at nd
    rcases List.mem_cons.mp hp with rfl | hp
    · simp
    · have : q.name ≠ p.name := fun e => nd.1 (e ▸ List.mem_map.mpr ⟨p, hp, rfl⟩)
      rw [List.find?_cons_of_neg (by simpa using this)]
      exact ih nd.2 hp
theorem byname_at {ps : List PcM} {p : PcM} (nd : (ps.map PcM.name).Nodup) (hp : p ∈ ps) : valV (mergeK [] (ps.map fun p => ((.inr p.name : Key), p.v))) (.inr p.name) = some p.v := by
  have e : mergeK [] (ps.map fun p => ((.inr p.name : Key), p.v)) = ps.map fun p => ((.inr p.name : Key), p.v) := by
    refine mergeK_nd _ [] ?_
    rw [List.nil_append, List.map_map]
    have e : (Prod.fst ∘ fun p : PcM => ((.inr p.name : Key), p.v)) = (Sum.inr : Str → Key) ∘ PcM.name := rfl
    rw [e, ← List.map_map]
    exact List.Pairwise.map _ (fun _ _ h z => h (Sum.inr.inj z)) nd
  rw [e]
  unfold valV
  rw [List.find?_map, Option.map_map]
  have h := pcAt_of nd hp
  unfold pcAt at h
  have e2 : ((fun kv : Key × V => decide (kv.1 = (.inr p.name : Key))) ∘ fun p : PcM => ((.inr p.name : Key), p.v)) = fun q : PcM => decide (q.name = p.name) := by
    funext q; simp
  rw [e2, h]; rfl
theorem G_pieces_by_name (T : Txt K mg A) : FnOk P w K mg base CX0 1 A.pieces_by_name A.fd_pieces_by_name ["pieces"] sp_byname := by
  refine T.F_pieces_by_name.ok sc_pieces_by_name (fun vs H Q E h => ?_) (fun cdv Ar outer s H vs Q E hr h => ?_)
  · obtain ⟨L, ps, rfl, _⟩ := h
    rfl
  · obtain ⟨L, ps, rfl, hP, hn, k⟩ := h
    refine ⟨_, (@pss_one _ _ _ (@ps_ret _ _ _ _ (@pe_callTy _ _ _ _ _ _ _ _ _ (call_dictP rfl) (by rfl) T.n_dict bt_dict (@pa_cons _ _ _ _ _ (@pe_comp _ _ _ _ _ _ _ _ _ _ _ _ _ _ (blk_mk (own := ["piece"]) (fr := []) (fm := []) rfl (by decide +kernel) (by decide +kernel) (by decide +kernel) .nil) rfl (@pi_listK _ K _ _ _ rfl (@pv _ 0 _ _ (by rfl) (by first  |  exact  Or.inl  rfl  |  exact  Or.inr  (    Or.inl  rfl  )  |  exact  Or.inr  (    Or.inr  rfl  )) (by decide) (by decide))) (fun _ _ _ => ⟨(@pg_name _ _ 0 _ (by show List.Nodup (["piece"] : List Str) ; decide +kernel) rfl (by first | exact Or.inl rfl | exact Or.inr rfl) (by first  |  exact  .inl  rfl  |  exact  .inr  rfl  |  assumption)) , pts_nil, (@pe_tup _ _ _ _ _ (@pa_cons _ _ _ _ _ (@pe_ix _ _ _ _ _ _ _ (ix_tupK (K := K) rfl) (@pv _ 0 _ _ (by rfl) (by first  |  exact  Or.inl  rfl  |  exact  Or.inr  (    Or.inl  rfl  )  |  exact  Or.inr  (    Or.inr  rfl  )) (by decide) (by decide)) (@pe_int _ _ _ _) (fun _ _ => rfl)) (@pa_cons _ _ _ _ _ (@pv _ 0 _ _ (by rfl) (by first  |  exact  Or.inl  rfl  |  exact  Or.inr  (    Or.inl  rfl  )  |  exact  Or.inr  (    Or.inr  rfl  )) (by decide) (by decide)) (@pa_nil _) (by rfl)) (by rfl)))⟩) (by intro  _  ;  rfl)) (@pa_nil _) (by rfl)) (by decide) (by decide) (by rfl) (by rfl)))), ?_⟩
    walk_at "rd"
    refine CompL.of (xs := ps.map PcM.v) (by rw [List.length_map, sizeLine_eq]; omega) (SqL.of hP.top) (fun D i ys H2 => Same H H2 ∧ H2 D = some (.lst ys) ∧ ∃ ts : List (Addr × Key × V), ys = ts.map (fun t => V.ref t.1) ∧ ts.map (·.2) = (ps.take i).map (fun p => ((.inr p.name : Key), p.v)) ∧ ∀ t ∈ ts, H2 t.1 = some (.tup [kV t.2.1, t.2.2]))
      (fun D hD => ⟨same_new hD, upd_same, [], rfl, rfl, fun t h => (nomatch h)⟩) ?_ ?_ ?_
    · rintro D i ys H2 hD hi ⟨s2, hDD, ts, rfl, e, _⟩
      have hl := congrArg List.length e
      rw [List.length_map, List.length_map, List.length_take] at hl
      exact ⟨SqL.of (s2 _ _ hP.top), hDD, by rw [List.length_map]; omega⟩
    · rintro D i x ys H2 hD hx ⟨s2, hDD, ts, rfl, e, ht⟩
      rw [List.getElem?_map] at hx
      obtain ⟨p, hp, rfl⟩ := Option.map_eq_some_iff.mp hx
      have pa := hP.at_ p (List.mem_of_getElem? hp)
      walk_at "rd"
      refine ⟨.no .nil, _, SqT.of (s2 _ _ pa.top), _, rfl, by rw [sizeLine_eq]; decide, fun q hq => ?_⟩
      have hqD : D ≠ q := ne_of_none hDD hq
      refine ⟨by rw [upd_ne hqD]; exact hDD, same_upd hD (s2.trans (same_new hq)), upd_same, ts ++ [(q, .inr p.name, p.v)], by simp, ?_, fun t h => ?_⟩
      · rw [List.take_succ, hp, List.map_append, List.map_append, e]; rfl
      · rcases List.mem_append.mp h with z | z
        · have := ht t z
          rw [upd_ne (ne_of this hDD (by intro z; cases z)), upd_ne (ne_of_none this hq)]; exact this
        · rw [List.mem_singleton.mp z, upd_ne (Ne.symm hqD), upd_same]; rfl
    · rintro D ys H2 hD ⟨s2, hDD, ts, rfl, e, ht⟩
      rw [List.length_map, List.take_length] at e
      have hl := congrArg List.length e
      rw [List.length_map, List.length_map] at hl
      refine ⟨D, rfl, ts, SqL.of hDD, ht, by omega, fun d hd => ?_⟩
      rw [e]
      exact k d _ (s2.trans (same_new hd)) upd_same (same_no s2 hd)
theorem G_multiple_from (T : Txt K mg A) : FnOk P w K mg base CX0 1 A.multiple_from A.fd_multiple_from ["number", "step"] sp_mult := by
  refine T.F_multiple_from.ok sc_multiple_from (fun vs H Q E h => ?_) (fun cdv Ar outer s H vs Q E hr h => ?_)
  · obtain ⟨n, st, rfl, _⟩ := h
    rfl
  · obtain ⟨n, st, rfl, h0, h1, h2, h3, k⟩ := h
    refine ⟨_, (@pss_one _ _ _ (@ps_ret _ _ _ _ (@pe_op _ _ _ _ _ _ _ _ op_mul (@pe_op _ _ _ _ _ _ _ _ op_fdiv (@pe_op _ _ _ _ _ _ _ _ op_sub (@pe_op _ _ _ _ _ _ _ _ op_add (@pv _ 0 _ _ (by rfl) (by first  |  exact  Or.inl  rfl  |  exact  Or.inr  (    Or.inl  rfl  )  |  exact  Or.inr  (    Or.inr  rfl  )) (by decide) (by decide)) (@pv _ 1 _ _ (by rfl) (by first  |  exact  Or.inl  rfl  |  exact  Or.inr  (    Or.inl  rfl  )  |  exact  Or.inr  (    Or.inr  rfl  )) (by decide) (by decide))) (@pe_int _ _ _ _)) (@pv _ 1 _ _ (by rfl) (by first  |  exact  Or.inl  rfl  |  exact  Or.inr  (    Or.inl  rfl  )  |  exact  Or.inr  (    Or.inr  rfl  )) (by decide) (by decide))) (@pv _ 1 _ _ (by rfl) (by first  |  exact  Or.inl  rfl  |  exact  Or.inr  (    Or.inl  rfl  )  |  exact  Or.inr  (    Or.inr  rfl  )) (by decide) (by decide))))), ?_⟩
    walk_at "rd"
    exact ⟨⟨by omega, by omega⟩, .inr ⟨by omega, by omega⟩, k⟩
theorem stF_some {ps : List PcM} {k : PairD} (h : (stF ps k).isSome = true) : ∃ p s, p ∈ ps ∧ p.name = k.1 ∧ 0 ≤ k.2 ∧ p.sts[k.2.toNat]? = some s ∧ stF ps k = some s := by
  unfold stF at h ⊢
  cases hp : pcAt ps k.1 with
  | none => rw [hp] at h; cases h
  | some p =>
    rw [hp] at h
    have e : (if 0 ≤ k.2 then p.sts[k.2.toNat]? else none).isSome = true := h
    by_cases z : 0 ≤ k.2
    · rw [if_pos z] at e
      obtain ⟨s, hs⟩ := Option.isSome_iff_exists.mp e
      refine ⟨p, s, List.mem_of_find?_eq_some hp, by have := List.find?_some hp; simpa using this, z, hs, ?_⟩
      show (if 0 ≤ k.2 then p.sts[k.2.toNat]? else none) = some s
      rw [if_pos z, hs]
    · rw [if_neg z] at e; cases e
theorem rd_key {H : Hp} {d : Addr} {ps : List PcM} {k : PairD} (hd : H d = some (.dK (mergeK [] (ps.map fun p => (.inr p.name, p.v))))) (hS : Shelf H ps) (h : (stF ps k).isSome = true) :
    ∃ (p : PcM) (s : StM), stF ps k = some s ∧ p ∈ ps ∧ s ∈ p.sts ∧ valV (mergeK [] (ps.map fun p => ((.inr p.name : Key), p.v))) (.inr k.1) = some p.v ∧ H p.t = some (.tup [.str p.name, .ref p.ls, .ref p.ln]) ∧ H p.ls = some (.lst (p.sts.map StM.v)) ∧ atI (p.sts.map StM.v) k.2 = some s.v ∧ s.At H := by
  obtain ⟨p, s, hp, e, z, hs, es⟩ := stF_some h
  have pa := hS.at_ p hp
  have hm := List.mem_of_getElem? hs
  refine ⟨p, s, es, hp, hm, by rw [← e]; exact byname_at hS.nd hp, pa.top, pa.sl, ?_, pa.ss s hm⟩
  obtain ⟨i, hi⟩ := Int.eq_ofNat_of_zero_le z
  rw [hi] at hs ⊢
  exact atI_nat (by rw [List.getElem?_map]; exact congrArg (Option.map StM.v) hs)
noncomputable def dF (H : Hp) (b : Addr) : PairD := match H b with | some (.tup [.str z, .int n]) => (z, n) | _ => (Str.ofString "", 0)
theorem dF_of {H : Hp} {b : Addr} {k : PairD} (h : H b = some (.tup [.str k.1, .int k.2])) : dF H b = k := by unfold dF; rw [h]
theorem flt_kd {H : Hp} {d l : Addr} {ps : List PcM} {kd : Str} {qs : List (Addr × PairD)} {R : VK} (hd : H d = some (.dK (mergeK [] (ps.map fun p => (.inr p.name, p.v))))) (hS : Shelf H ps) (hK : KsAt H l qs) (hl : qs.length < 64) (hin : ∀ q ∈ qs, (stF ps q.2).isSome = true)
    (k : ∀ (D : Addr) (H' : Hp), Same H H' → KsAt H' D (qs.filter fun q => isKd ps kd q.2) → R (.ref D) H') :
    CompL K (gName 0) (tTest (tOp rEq (tOp (rIxT K) (tOp (rIxL K) (tOp (rIxT K) (tDGet (tVar 1) (tOp (rIxT K) (tVar 0) (tC (V.int 0)))) (tC (V.int 1))) (tOp (rIxT K) (tVar 0) (tC (V.int 1)))) (tC (V.int 0))) (tC (V.str kd)))) (tVar 0) [none, some (V.ref d)] R (V.ref l) H := by
  refine CompL.of (xs := qs.map fun q => V.ref q.1) (by rw [sizeLine_eq, List.length_map]; omega) (SqL.of hK.1) (fun D i ys H' => Same H H' ∧ H' D = some (.lst ys) ∧ ys = ((qs.take i).filter fun q => isKd ps kd q.2).map fun q => V.ref q.1) (fun D hD => ⟨same_new hD, upd_same, rfl⟩) ?_ ?_ ?_
  · rintro D i ys H' hD hi ⟨s1, hDD, rfl⟩
    refine ⟨SqL.of (s1 _ _ hK.1), hDD, ?_⟩
    rw [List.length_map]
    exact Nat.le_trans (List.length_filter_le _ _) (by rw [List.length_take]; omega)
  · rintro D i x ys H' hD hx ⟨s1, hDD, rfl⟩
    rw [List.getElem?_map] at hx
    obtain ⟨q, hq, rfl⟩ := Option.map_eq_some_iff.mp hx
    have hm := List.mem_of_getElem? hq
    obtain ⟨p, st, es, hp, hst, e1, e2, e3, e4, sa⟩ := rd_key hd hS (hin q hm)
    have qa := hK.2 q hm
    have sa' := sa.mono s1
    have dg : DGet H' d (V.str q.2.1) (some p.v) := by
      have := DGet.k (k := (.inr q.2.1 : Key)) (s1 _ _ hd)
      rw [e1] at this; exact this
    walk_at "rd"
    refine ⟨.no (.yes .nil), _, SqT.of (s1 _ _ qa), _, rfl, _, dg, _, rfl, _, SqT.of (s1 _ _ e2), _, rfl, _, SqT.of (s1 _ _ qa), _, rfl, _, rfl, _, _, rfl, SqL.of (s1 _ _ e3), _, e4, _, rfl, _, SqT.of sa'.top, _, rfl, rfl, ?_⟩
    have ek : isKd ps kd q.2 = decide (st.kind = kd) := by unfold isKd; rw [es]; simp
    have et : (qs.take (i + 1)).filter (fun q => isKd ps kd q.2) = (qs.take i).filter (fun q => isKd ps kd q.2) ++ if st.kind = kd then [q] else [] := by
      rw [List.take_succ, hq, List.filter_append]
      refine congrArg (fun z => List.filter (fun q : Addr × PairD => isKd ps kd q.2) (List.take i qs) ++ z) ?_
      show List.filter _ [q] = _
      rw [List.filter_cons, ek]
      by_cases z : st.kind = kd <;> simp [z]
    by_cases z : st.kind = kd
    · rw [decide_eq_true (congrArg V.str z), if_pos rfl]
      rw [if_pos z] at et
      refine ⟨hDD, same_upd hD s1, upd_same, ?_⟩
      rw [et, List.map_append]; rfl
    · rw [decide_eq_false (fun e => z (V.str.inj e)), if_neg (by decide)]
      rw [if_neg z, List.append_nil] at et
      exact ⟨s1, hDD, by rw [et]⟩
  · rintro D ys H' hD ⟨s1, hDD, rfl⟩
    rw [List.length_map, List.take_length] at hDD
    exact k D H' s1 ⟨hDD, fun q hq => s1 _ _ (hK.2 q ((List.mem_filter.mp hq).1))⟩
theorem G_in_order (T : Txt K mg A) : FnOk P w K mg base CX0 1 A.in_order A.fd_in_order ["by_name", "keys"] sp_inord := by
  refine T.F_in_order.ok sc_in_order (fun vs H Q E h => ?_) (fun cdv Ar outer s H vs Q E hr h => ?_)
  · obtain ⟨d, a, ps, qs, rfl, _⟩ := h
    rfl
  · obtain ⟨d, a, ps, qs, rfl, hd, hS, hK, hl, hin, k⟩ := h
    refine ⟨_, (@pss_cons _ _ _ _ _ (@ps_set _ _ 2 _ _ _ _ sc_in_order.nd rfl (by first | exact Or.inl rfl | exact Or.inr rfl) (@pe_callB _ _ _ _ _ _ _ _ _ (call_sortPK (K := K) rfl) (by rfl) T.n_sorted bt_sorted (@pa_cons _ _ _ _ _ (@pe_comp _ _ _ _ _ _ _ _ _ _ _ _ _ _ (blk_mk (own := ["name", "number"]) (fr := []) (fm := []) rfl (by decide +kernel) (by decide +kernel) (by decide +kernel) .nil) rfl (@pi_listK _ K _ _ _ rfl (@pv _ 1 _ _ (by rfl) (by first  |  exact  Or.inl  rfl  |  exact  Or.inr  (    Or.inl  rfl  )  |  exact  Or.inr  (    Or.inr  rfl  )) (by decide) (by decide))) (fun _ _ _ => ⟨(@pg_tupK _ K _ _ _ 2 _ rfl rfl (@pgs_cons _ _ _ _ _ (@pg_name _ _ 0 _ (by show List.Nodup (["name", "number"] : List Str) ; decide +kernel) rfl (by first | exact Or.inl rfl | exact Or.inr rfl) (by first  |  exact  .inl  rfl  |  exact  .inr  rfl  |  assumption)) (@pgs_cons _ _ _ _ _ (@pg_name _ _ 1 _ (by show List.Nodup (["name", "number"] : List Str) ; decide +kernel) rfl (by first | exact Or.inl rfl | exact Or.inr rfl) (by first  |  exact  .inl  rfl  |  exact  .inr  rfl  |  assumption)) (@pgs_nil _) (by rfl)) (by rfl)) (by rfl) (by rfl)) , pts_nil, (@pe_tup _ _ _ _ _ (@pa_cons _ _ _ _ _ (@pv _ 0 _ _ (by rfl) (by first  |  exact  Or.inl  rfl  |  exact  Or.inr  (    Or.inl  rfl  )  |  exact  Or.inr  (    Or.inr  rfl  )) (by decide) (by decide)) (@pa_cons _ _ _ _ _ (@pv _ 1 _ _ (by rfl) (by first  |  exact  Or.inl  rfl  |  exact  Or.inr  (    Or.inl  rfl  )  |  exact  Or.inr  (    Or.inr  rfl  )) (by decide) (by decide)) (@pa_nil _) (by rfl)) (by rfl)))⟩) (by intro  _  ;  rfl)) (@pa_nil _) (by rfl)) (by decide) (by decide) (by rfl) (by rfl)) (by rfl) (by first  |  exact  .inl  rfl  |  exact  .inr  rfl  |  assumption)) (@pss_cons _ _ _ _ _ (@ps_setC _ _ _ _ _ _ _ _ _ _ 3 _ _ _ _ _ _ _ sc_in_order.nd rfl (by first | exact Or.inl rfl | exact Or.inr rfl) (blk_mk (own := ["key"]) (fr := ["by_name"]) (fm := [0]) rfl (by decide +kernel) (by decide +kernel) (by decide +kernel) (.cons rfl (by first | exact Or.inl rfl | exact Or.inr rfl) rfl .nil)) rfl (@pi_listK _ K _ _ _ rfl (@pv _ 2 _ _ (by rfl) (by first  |  exact  Or.inl  rfl  |  exact  Or.inr  (    Or.inl  rfl  )  |  exact  Or.inr  (    Or.inr  rfl  )) (by decide) (by decide))) (fun _ _ _ => ⟨(@pg_name _ _ 0 _ (by show List.Nodup (["key", "by_name"] : List Str) ; decide +kernel) rfl (by first | exact Or.inl rfl | exact Or.inr rfl) (by first  |  exact  .inl  rfl  |  exact  .inr  rfl  |  assumption)) , (@pts_one _ _ _ (@pt_cmpR _ _ _ _ _ _ _ _ op_eq (@pe_ix _ _ _ _ _ _ _ (ix_tupK (K := K) rfl) (@pe_ix _ _ _ _ _ _ _ (ix_listK (K := K) rfl) (@pe_ix _ _ _ _ _ _ _ (ix_tupK (K := K) rfl) (@pe_dget _ _ _ _ _ _ (hu_of hr) (@pv _ 1 _ _ (by rfl) (by first  |  exact  Or.inl  rfl  |  exact  Or.inr  (    Or.inl  rfl  )  |  exact  Or.inr  (    Or.inr  rfl  )) (by decide) (by decide)) (@pe_ix _ _ _ _ _ _ _ (ix_tupK (K := K) rfl) (@pv _ 0 _ _ (by rfl) (by first  |  exact  Or.inl  rfl  |  exact  Or.inr  (    Or.inl  rfl  )  |  exact  Or.inr  (    Or.inr  rfl  )) (by decide) (by decide)) (@pe_int _ _ _ _) (fun _ _ => rfl)) (fun _ _ => rfl)) (@pe_int _ _ _ _) (fun _ _ => rfl)) (@pe_ix _ _ _ _ _ _ _ (ix_tupK (K := K) rfl) (@pv _ 0 _ _ (by rfl) (by first  |  exact  Or.inl  rfl  |  exact  Or.inr  (    Or.inl  rfl  )  |  exact  Or.inr  (    Or.inr  rfl  )) (by decide) (by decide)) (@pe_int _ _ _ _) (fun _ _ => rfl)) (fun _ _ => rfl)) (@pe_int _ _ _ _) (fun _ _ => rfl)) (@pe_str _ _ _ _) (nomark _))) , (@pv _ 0 _ _ (by rfl) (by first  |  exact  Or.inl  rfl  |  exact  Or.inr  (    Or.inl  rfl  )  |  exact  Or.inr  (    Or.inr  rfl  )) (by decide) (by decide))⟩) (by rfl) (by intro  _  ;  rfl) (by first  |  exact  .inl  rfl  |  exact  .inr  rfl  |  assumption)) (@pss_cons _ _ _ _ _ (@ps_setC _ _ _ _ _ _ _ _ _ _ 4 _ _ _ _ _ _ _ sc_in_order.nd rfl (by first | exact Or.inl rfl | exact Or.inr rfl) (blk_mk (own := ["key"]) (fr := ["by_name"]) (fm := [0]) rfl (by decide +kernel) (by decide +kernel) (by decide +kernel) (.cons rfl (by first | exact Or.inl rfl | exact Or.inr rfl) rfl .nil)) rfl (@pi_listK _ K _ _ _ rfl (@pv _ 2 _ _ (by rfl) (by first  |  exact  Or.inl  rfl  |  exact  Or.inr  (    Or.inl  rfl  )  |  exact  Or.inr  (    Or.inr  rfl  )) (by decide) (by decide))) (fun _ _ _ => ⟨(@pg_name _ _ 0 _ (by show List.Nodup (["key", "by_name"] : List Str) ; decide +kernel) rfl (by first | exact Or.inl rfl | exact Or.inr rfl) (by first  |  exact  .inl  rfl  |  exact  .inr  rfl  |  assumption)) , (@pts_one _ _ _ (@pt_cmpR _ _ _ _ _ _ _ _ op_eq (@pe_ix _ _ _ _ _ _ _ (ix_tupK (K := K) rfl) (@pe_ix _ _ _ _ _ _ _ (ix_listK (K := K) rfl) (@pe_ix _ _ _ _ _ _ _ (ix_tupK (K := K) rfl) (@pe_dget _ _ _ _ _ _ (hu_of hr) (@pv _ 1 _ _ (by rfl) (by first  |  exact  Or.inl  rfl  |  exact  Or.inr  (    Or.inl  rfl  )  |  exact  Or.inr  (    Or.inr  rfl  )) (by decide) (by decide)) (@pe_ix _ _ _ _ _ _ _ (ix_tupK (K := K) rfl) (@pv _ 0 _ _ (by rfl) (by first  |  exact  Or.inl  rfl  |  exact  Or.inr  (    Or.inl  rfl  )  |  exact  Or.inr  (    Or.inr  rfl  )) (by decide) (by decide)) (@pe_int _ _ _ _) (fun _ _ => rfl)) (fun _ _ => rfl)) (@pe_int _ _ _ _) (fun _ _ => rfl)) (@pe_ix _ _ _ _ _ _ _ (ix_tupK (K := K) rfl) (@pv _ 0 _ _ (by rfl) (by first  |  exact  Or.inl  rfl  |  exact  Or.inr  (    Or.inl  rfl  )  |  exact  Or.inr  (    Or.inr  rfl  )) (by decide) (by decide)) (@pe_int _ _ _ _) (fun _ _ => rfl)) (fun _ _ => rfl)) (@pe_int _ _ _ _) (fun _ _ => rfl)) (@pe_str _ _ _ _) (nomark _))) , (@pv _ 0 _ _ (by rfl) (by first  |  exact  Or.inl  rfl  |  exact  Or.inr  (    Or.inl  rfl  )  |  exact  Or.inr  (    Or.inr  rfl  )) (by decide) (by decide))⟩) (by rfl) (by intro  _  ;  rfl) (by first  |  exact  .inl  rfl  |  exact  .inr  rfl  |  assumption)) (@pss_one _ _ _ (@ps_ret _ _ _ _ (@pe_op _ _ _ _ _ _ _ _ (op_catSK (K := K) rfl) (@pv _ 3 _ _ (by rfl) (by first  |  exact  Or.inl  rfl  |  exact  Or.inr  (    Or.inl  rfl  )  |  exact  Or.inr  (    Or.inr  rfl  )) (by decide) (by decide)) (@pv _ 4 _ _ (by rfl) (by first  |  exact  Or.inl  rfl  |  exact  Or.inr  (    Or.inl  rfl  )  |  exact  Or.inr  (    Or.inr  rfl  )) (by decide) (by decide)))))))), ?_⟩
    walk_at "rd"
    refine CompL.of (xs := qs.map fun q => V.ref q.1) (by rw [sizeLine_eq, List.length_map]; omega) (SqL.of hK.1) (fun D i ys H' => Same H H' ∧ H' D = some (.lst ys) ∧ ∃ rs : List (Addr × PairD), ys = rs.map (fun r => V.ref r.1) ∧ rs.map (·.2) = (qs.take i).map (·.2) ∧ ∀ r ∈ rs, H' r.1 = some (.tup [.str r.2.1, .int r.2.2]))
      (fun D hD => ⟨same_new hD, upd_same, [], rfl, rfl, fun r h => nomatch h⟩) ?_ ?_ ?_
    · rintro D i ys H' hD hi ⟨s1, hDD, rs, rfl, e, _⟩
      have hl := congrArg List.length e
      rw [List.length_map, List.length_map, List.length_take] at hl
      exact ⟨SqL.of (s1 _ _ hK.1), hDD, by rw [List.length_map]; omega⟩
    · rintro D i x ys H' hD hx ⟨s1, hDD, rs, rfl, e, ht⟩
      rw [List.getElem?_map] at hx
      obtain ⟨q, hq, rfl⟩ := Option.map_eq_some_iff.mp hx
      have qa := s1 _ _ (hK.2 q (List.mem_of_getElem? hq))
      walk_at "rd"
      refine ⟨_, SqT.of qa, rfl, _, _, rfl, _, _, rfl, rfl, .no (.no .nil), by rw [sizeLine_eq]; decide, fun p hp => ?_⟩
      have hpD : D ≠ p := ne_of_none hDD hp
      refine ⟨by rw [upd_ne hpD]; exact hDD, same_upd hD (s1.trans (same_new hp)), upd_same, rs ++ [(p, q.2)], by simp, ?_, fun r h => ?_⟩
      · rw [List.take_succ, hq, List.map_append, List.map_append, e]; rfl
      · rcases List.mem_append.mp h with z | z
        · have := ht r z
          rw [upd_ne (ne_of this hDD (by intro z; cases z)), upd_ne (ne_of_none this hp)]; exact this
        · rw [List.mem_singleton.mp z, upd_ne (Ne.symm hpD), upd_same]
    · rintro D ys H1 hD ⟨s1, hDD, rs, rfl, e, ht⟩
      rw [List.length_map, List.take_length] at e
      have el : rs.length = qs.length := by have := congrArg List.length e; rwa [List.length_map, List.length_map] at this
      walk_at "rd"
      refine ⟨rs.map (·.1), by rw [List.map_map]; exact SqL.of hDD, dF H1, fun b hb => ?_, by rw [List.length_map]; omega, fun l bs' hl0 pm pw => ?_⟩
      · obtain ⟨r, hr, rfl⟩ := List.mem_map.mp hb
        rw [dF_of (ht r hr)]; exact ht r hr
      · have s2 := s1.trans (same_new (o := HO.lst (bs'.map V.ref)) hl0)
        have hb : ∀ b ∈ bs', ∃ r ∈ rs, r.1 = b := fun b hb => by
          obtain ⟨r, hr, e⟩ := List.mem_map.mp (pm.mem_iff.mp hb)
          exact ⟨r, hr, e⟩
        have K1 : KsAt (upd H1 l (HO.lst (bs'.map V.ref))) l (bs'.map fun b => (b, dF H1 b)) := by
          refine ⟨by rw [upd_same, List.map_map]; rfl, fun q hq => ?_⟩
          obtain ⟨b, hb', rfl⟩ := List.mem_map.mp hq
          obtain ⟨r, hr, rfl⟩ := hb b hb'
          rw [dF_of (ht r hr)]
          exact same_new hl0 _ _ (ht r hr)
        have pk : (bs'.map (dF H1)).Perm (qs.map (·.2)) := by
          have := pm.map (dF H1)
          rw [List.map_map] at this
          have e3 : rs.map (dF H1 ∘ fun r => r.1) = rs.map (·.2) := List.map_congr_left fun r hr => dF_of (ht r hr)
          rw [e3, e] at this
          exact this
        have in1 : ∀ q ∈ bs'.map (fun b => (b, dF H1 b)), (stF ps q.2).isSome = true := fun q hq => by
          obtain ⟨b, hb', rfl⟩ := List.mem_map.mp hq
          obtain ⟨q', h1, h2⟩ := List.mem_map.mp (pk.mem_iff.mp (List.mem_map.mpr ⟨b, hb', rfl⟩))
          show (stF ps (dF H1 b)).isSome = true
          rw [← h2]; exact hin q' h1
        have l1 : (bs'.map fun b => (b, dF H1 b)).length < 64 := by rw [List.length_map]; have := pm.length_eq; rw [List.length_map] at this; omega
        have sh : ∀ H', Same H H' → Shelf H' ps := fun H' s => ⟨fun p hp => (hS.at_ p hp).mono s, hS.nd, hS.st⟩
        refine flt_kd (s2 _ _ hd) (sh _ s2) K1 l1 in1 fun D1 H2 s3 K2 => flt_kd (s3 _ _ (s2 _ _ hd)) (sh _ (s2.trans s3)) ⟨s3 _ _ K1.1, fun q hq => s3 _ _ (K1.2 q hq)⟩ l1 in1 fun D2 H3 s4 K3 => ?_
        refine ⟨_, rfl, _, rfl, _, SqL.of (s4 _ _ K2.1), _, SqL.of K3.1, ?_, fun l2 hl2 => ?_⟩
        · rw [sizeLine_eq, List.length_map, List.length_map]
          have a1 := List.length_filter_le (fun q : Addr × PairD => isKd ps (Str.ofString "code") q.2) (bs'.map fun b => (b, dF H1 b))
          have a2 := List.length_filter_le (fun q : Addr × PairD => isKd ps (Str.ofString "data") q.2) (bs'.map fun b => (b, dF H1 b))
          omega
        · refine k l2 _ _ ((s2.trans s3).trans (s4.trans (same_new hl2))) (same_no ((s2.trans s3).trans s4) hl2) ⟨by rw [upd_same, ← List.map_append], fun q hq => same_new hl2 _ _ ?_⟩ ⟨bs'.map (dF H1), pk, pw, ?_⟩
          · rcases List.mem_append.mp hq with z | z
            · exact s4 _ _ (K2.2 q z)
            · exact K3.2 q z
          · rw [List.map_append, List.filter_map, List.filter_map, List.filter_map, List.filter_map, List.map_map, List.map_map]; rfl
theorem mult_lo {e st : Int} (h : 1 ≤ st) : e ≤ multF e st ∧ multF e st < e + st ∧ multF e st % st = 0 := by
  unfold multF
  have h1 := Int.emod_def (e + st - 1) st
  have h2 := Int.emod_nonneg (e + st - 1) (show st ≠ 0 by omega)
  have h3 := Int.emod_lt_of_pos (e + st - 1) (show 0 < st by omega)
  have h4 : (e + st - 1) / st * st = st * ((e + st - 1) / st) := Int.mul_comm _ _
  refine ⟨by omega, by omega, Int.mul_emod_left _ _⟩
theorem rows_snoc : ∀ (e : Int) (ss : List StM) (s : StM), rowsF e (ss ++ [s]) = rowsF e ss ++ [(multF (((rowsF e ss).getLast?.map (·.2)).getD e) s.step, multF (((rowsF e ss).getLast?.map (·.2)).getD e) s.step + (s.words.length : Int))]
  | e, [], s => rfl
  | e, y :: ss, s => by
    have ih := rows_snoc (multF e y.step + (y.words.length : Int)) ss s
    show (_ :: rowsF _ (ss ++ [s])) = _
    rw [ih]
    have g : ((rowsF e (y :: ss)).getLast?.map (·.2)).getD e = ((rowsF (multF e y.step + (y.words.length : Int)) ss).getLast?.map (·.2)).getD (multF e y.step + (y.words.length : Int)) := by
      show (((multF e y.step, multF e y.step + (y.words.length : Int)) :: rowsF (multF e y.step + (y.words.length : Int)) ss).getLast?.map (·.2)).getD e = _
      rw [List.getLast?_cons]
      cases hg : (rowsF (multF e y.step + (y.words.length : Int)) ss).getLast? <;> rfl
    rw [g]; rfl
theorem G_laid_with_ends (T : Txt K mg A) : FnOk P w K mg base CX0 2 A.laid_with_ends A.fd_laid_with_ends ["pieces", "keys"] sp_lwe := by
  refine T.F_laid_with_ends.ok sc_laid_with_ends (fun vs H Q E h => ?_) (fun cdv Ar outer s H vs Q E hr h => ?_)
  · obtain ⟨L, a, ps, qs, rfl, _⟩ := h
    rfl
  · obtain ⟨L, a, ps, qs, rfl, hP, hn, hS, hK, hl, hin, k⟩ := h
    refine ⟨_, (@pss_cons _ _ _ _ _ (@ps_set _ _ 2 _ _ _ _ sc_laid_with_ends.nd rfl (by first | exact Or.inl rfl | exact Or.inr rfl) (@pe_call _ _ _ _ _ _ _ _ _ _ _ _ _ _ _ _ (G_pieces_by_name T) (hr.mono (by decide)) rfl T.m_pieces_by_name T.k_pieces_by_name T.b_pieces_by_name .nil (@pass0 _) (@pa_cons _ _ _ _ _ (@pv _ 0 _ _ (by rfl) (by first  |  exact  Or.inl  rfl  |  exact  Or.inr  (    Or.inl  rfl  )  |  exact  Or.inr  (    Or.inr  rfl  )) (by decide) (by decide)) (@pa_nil _) (by rfl)) (by decide) (by rfl) (by rfl)) (by rfl) (by first  |  exact  .inl  rfl  |  exact  .inr  rfl  |  assumption)) (@pss_cons _ _ _ _ _ (@ps_set _ _ 3 _ _ _ _ sc_laid_with_ends.nd rfl (by first | exact Or.inl rfl | exact Or.inr rfl) (@pe_lst _ _ _ _ (@pa_nil _)) (by rfl) (by first  |  exact  .inl  rfl  |  exact  .inr  rfl  |  assumption)) (@pss_cons _ _ _ _ _ (@ps_set _ _ 4 _ _ _ _ sc_laid_with_ends.nd rfl (by first | exact Or.inl rfl | exact Or.inr rfl) (@pe_int _ _ _ _) (by rfl) (by first  |  exact  .inl  rfl  |  exact  .inr  rfl  |  assumption)) (@pss_cons _ _ _ _ _ (@ps_for _ _ _ _ _ _ _ _ PassesOwn.never rfl (@pi_listK _ K _ _ _ rfl (@pe_call _ _ _ _ _ _ _ _ _ _ _ _ _ _ _ _ (G_in_order T) (hr.mono (by decide)) rfl T.m_in_order T.k_in_order T.b_in_order .nil (@pass0 _) (@pa_cons _ _ _ _ _ (@pv _ 2 _ _ (by rfl) (by first  |  exact  Or.inl  rfl  |  exact  Or.inr  (    Or.inl  rfl  )  |  exact  Or.inr  (    Or.inr  rfl  )) (by decide) (by decide)) (@pa_cons _ _ _ _ _ (@pv _ 1 _ _ (by rfl) (by first  |  exact  Or.inl  rfl  |  exact  Or.inr  (    Or.inl  rfl  )  |  exact  Or.inr  (    Or.inr  rfl  )) (by decide) (by decide)) (@pa_nil _) (by rfl)) (by rfl)) (by decide) (by rfl) (by rfl))) (@pg_name _ _ 5 _ sc_laid_with_ends.nd rfl (by first | exact Or.inl rfl | exact Or.inr rfl) (by first  |  exact  .inl  rfl  |  exact  .inr  rfl  |  assumption)) (@pss_cons _ _ _ _ _ (@ps_set _ _ 6 _ _ _ _ sc_laid_with_ends.nd rfl (by first | exact Or.inl rfl | exact Or.inr rfl) (@pe_ix _ _ _ _ _ _ _ (ix_listK (K := K) rfl) (@pe_ix _ _ _ _ _ _ _ (ix_tupK (K := K) rfl) (@pe_dget _ _ _ _ _ _ (hu_of hr) (@pv _ 2 _ _ (by rfl) (by first  |  exact  Or.inl  rfl  |  exact  Or.inr  (    Or.inl  rfl  )  |  exact  Or.inr  (    Or.inr  rfl  )) (by decide) (by decide)) (@pe_ix _ _ _ _ _ _ _ (ix_tupK (K := K) rfl) (@pv _ 5 _ _ (by rfl) (by first  |  exact  Or.inl  rfl  |  exact  Or.inr  (    Or.inl  rfl  )  |  exact  Or.inr  (    Or.inr  rfl  )) (by decide) (by decide)) (@pe_int _ _ _ _) (fun _ _ => rfl)) (fun _ _ => rfl)) (@pe_int _ _ _ _) (fun _ _ => rfl)) (@pe_ix _ _ _ _ _ _ _ (ix_tupK (K := K) rfl) (@pv _ 5 _ _ (by rfl) (by first  |  exact  Or.inl  rfl  |  exact  Or.inr  (    Or.inl  rfl  )  |  exact  Or.inr  (    Or.inr  rfl  )) (by decide) (by decide)) (@pe_int _ _ _ _) (fun _ _ => rfl)) (fun _ _ => rfl)) (by rfl) (by first  |  exact  .inl  rfl  |  exact  .inr  rfl  |  assumption)) (@pss_cons _ _ _ _ _ (@ps_set _ _ 7 _ _ _ _ sc_laid_with_ends.nd rfl (by first | exact Or.inl rfl | exact Or.inr rfl) (@pe_call _ _ _ _ _ _ _ _ _ _ _ _ _ _ _ _ (G_multiple_from T) (hr.mono (by decide)) rfl T.m_multiple_from T.k_multiple_from T.b_multiple_from .nil (@pass0 _) (@pa_cons _ _ _ _ _ (@pv _ 4 _ _ (by rfl) (by first  |  exact  Or.inl  rfl  |  exact  Or.inr  (    Or.inl  rfl  )  |  exact  Or.inr  (    Or.inr  rfl  )) (by decide) (by decide)) (@pa_cons _ _ _ _ _ (@pe_ix _ _ _ _ _ _ _ (ix_tupK (K := K) rfl) (@pv _ 6 _ _ (by rfl) (by first  |  exact  Or.inl  rfl  |  exact  Or.inr  (    Or.inl  rfl  )  |  exact  Or.inr  (    Or.inr  rfl  )) (by decide) (by decide)) (@pe_int _ _ _ _) (fun _ _ => rfl)) (@pa_nil _) (by rfl)) (by rfl)) (by decide) (by rfl) (by rfl)) (by rfl) (by first  |  exact  .inl  rfl  |  exact  .inr  rfl  |  assumption)) (@pss_cons _ _ _ _ _ (@ps_set _ _ 4 _ _ _ _ sc_laid_with_ends.nd rfl (by first | exact Or.inl rfl | exact Or.inr rfl) (@pe_op _ _ _ _ _ _ _ _ op_add (@pv _ 7 _ _ (by rfl) (by first  |  exact  Or.inl  rfl  |  exact  Or.inr  (    Or.inl  rfl  )  |  exact  Or.inr  (    Or.inr  rfl  )) (by decide) (by decide)) (@pe_callB _ _ _ _ _ _ _ _ _ (call_lenK (K := K) rfl) (by rfl) T.n_len bt_len (@pa_cons _ _ _ _ _ (@pe_ix _ _ _ _ _ _ _ (ix_tupK (K := K) rfl) (@pv _ 6 _ _ (by rfl) (by first  |  exact  Or.inl  rfl  |  exact  Or.inr  (    Or.inl  rfl  )  |  exact  Or.inr  (    Or.inr  rfl  )) (by decide) (by decide)) (@pe_int _ _ _ _) (fun _ _ => rfl)) (@pa_nil _) (by rfl)) (by decide) (by decide) (by rfl) (by rfl))) (by rfl) (by first  |  exact  .inl  rfl  |  exact  .inr  rfl  |  assumption)) (@pss_one _ _ _ (@ps_expr _ _ _ _ (@pe_bm _ _ _ _ _ _ _ _ _ _ _ _ PySem.F.plainAttrs_list PySem.F.slot_list_append PySem.F.type_list_append mt_append (@pv _ 3 _ _ (by rfl) (by first  |  exact  Or.inl  rfl  |  exact  Or.inr  (    Or.inl  rfl  )  |  exact  Or.inr  (    Or.inr  rfl  )) (by decide) (by decide)) (@pa_cons _ _ _ _ _ (@pe_tup _ _ _ _ _ (@pa_cons _ _ _ _ _ (@pv _ 5 _ _ (by rfl) (by first  |  exact  Or.inl  rfl  |  exact  Or.inr  (    Or.inl  rfl  )  |  exact  Or.inr  (    Or.inr  rfl  )) (by decide) (by decide)) (@pa_cons _ _ _ _ _ (@pv _ 7 _ _ (by rfl) (by first  |  exact  Or.inl  rfl  |  exact  Or.inr  (    Or.inl  rfl  )  |  exact  Or.inr  (    Or.inr  rfl  )) (by decide) (by decide)) (@pa_cons _ _ _ _ _ (@pv _ 4 _ _ (by rfl) (by first  |  exact  Or.inl  rfl  |  exact  Or.inr  (    Or.inl  rfl  )  |  exact  Or.inr  (    Or.inr  rfl  )) (by decide) (by decide)) (@pa_nil _) (by rfl)) (by rfl)) (by rfl))) (@pa_nil _) (by rfl)) (by rfl) (by rfl) (by rfl) (by rfl) (by rfl)) (by rfl)))))) (by intro  _  ;  rfl)) (@pss_one _ _ _ (@ps_ret _ _ _ _ (@pv _ 3 _ _ (by rfl) (by first  |  exact  Or.inl  rfl  |  exact  Or.inr  (    Or.inl  rfl  )  |  exact  Or.inr  (    Or.inr  rfl  )) (by decide) (by decide)))))))), ?_⟩
    walk_at "rd"
    refine ⟨ps, hP, hn, fun d H1 s1 hd _ => ⟨Nat.zero_le _, fun p hp => ?_⟩⟩
    have s2 := s1.trans (same_new (o := HO.lst []) hp)
    have sh : ∀ H', Same H H' → Shelf H' ps := fun H' s => ⟨fun p hp => (hS.at_ p hp).mono s, hS.nd, hS.st⟩
    refine ⟨ps, same_new hp _ _ hd, sh _ s2, qs, ⟨s2 _ _ hK.1, fun q hq => s2 _ _ (hK.2 q hq)⟩, hl, hin, fun l ls H2 s3 hlf hL hO => ?_⟩
    have hln : ls.length < 64 := by
      obtain ⟨ss, pm, _, e⟩ := hO
      have := congrArg List.length e
      rw [List.length_map, List.length_append] at this
      have f : ∀ xs : List PairD, (xs.filter (isKd ps (Str.ofString "code"))).length + (xs.filter (isKd ps (Str.ofString "data"))).length ≤ xs.length := fun xs => by
        induction xs with
        | nil => exact Nat.le_refl _
        | cons x xs ih =>
          have ne : ¬ (isKd ps (Str.ofString "code") x = true ∧ isKd ps (Str.ofString "data") x = true) := fun ⟨h1, h2⟩ => by
            unfold isKd at h1 h2
            rw [of_decide_eq_true h1] at h2
            exact absurd (Option.some.inj (of_decide_eq_true h2)) (by decide +kernel)
          rw [List.filter_cons, List.filter_cons]
          by_cases a1 : isKd ps (Str.ofString "code") x = true <;> by_cases a2 : isKd ps (Str.ofString "data") x = true
          · exact absurd ⟨a1, a2⟩ ne
          · rw [if_pos a1, if_neg a2, List.length_cons, List.length_cons]; omega
          · rw [if_neg a1, if_pos a2, List.length_cons, List.length_cons]; omega
          · rw [if_neg a1, if_neg a2, List.length_cons]; omega
      have := f ss
      have := pm.length_eq
      rw [List.length_map] at this
      omega
    have inl : ∀ q ∈ ls, (stF ps q.2).isSome = true := fun q hq => by
      obtain ⟨ss, pm, _, e⟩ := hO
      have : q.2 ∈ ls.map (·.2) := List.mem_map.mpr ⟨q, hq, rfl⟩
      rw [e] at this
      have : q.2 ∈ ss := by
        rcases List.mem_append.mp this with z | z
        · exact (List.mem_filter.mp z).1
        · exact (List.mem_filter.mp z).1
      obtain ⟨q', h1, h2⟩ := List.mem_map.mp (pm.mem_iff.mp this)
      rw [← h2]; exact hin q' h1
    refine ForL.of (xs := ls.map fun q => V.ref q.1) (fun i σ H' => ∃ (rs : List RowL) (ss : List StM) (en : Int) (b5 b6 b7 : Option V), σ = [some (.ref L), some (.ref a), some (.ref d), some (.ref p), some (.int en), b5, b6, b7] ∧ (∀ x o, x ≠ p → H2 x = some o → H' x = some o) ∧ H' p = some (.lst (rs.map fun r => V.ref r.t)) ∧ (∀ r ∈ rs, H' r.t = some (.tup [.ref r.b, .int r.p, .int r.e])) ∧ (∀ r ∈ rs, H' r.b = some (.tup [.str r.k.1, .int r.k.2])) ∧
      rs.map (·.k) = (ls.take i).map (·.2) ∧ rs.map (fun r => stF ps r.k) = ss.map some ∧ rs.map (fun r => (r.p, r.e)) = rowsF 0 ss ∧ en = ((rowsF 0 ss).getLast?.map (·.2)).getD 0 ∧ 0 ≤ en ∧ en ≤ (i : Int) * 70000) ?_ ?_ ?_ ?_
    · exact ⟨[], [], 0, _, _, _, rfl, fun x o _ e => e, s3 _ _ upd_same, (fun r h => by cases h), (fun r h => by cases h), rfl, rfl, rfl, rfl, Int.le_refl _, by omega⟩
    · rintro i σ H' hi ⟨rs, ss, en, b5, b6, b7, rfl, fr, _⟩
      exact SqL.of (fr _ _ (fun z => by rw [z, upd_same] at hlf; cases hlf) hL.1)
    · rintro i v σ H' hv ⟨rs, ss, en, b5, b6, b7, rfl, fr, hp', hr1, hr2, e1, e2, e3, e4, e5, e6⟩
      have hi : i < ls.length := by have := (List.getElem?_eq_some_iff.mp hv).1; rwa [List.length_map] at this
      rw [List.getElem?_map] at hv
      obtain ⟨q, hq, rfl⟩ := Option.map_eq_some_iff.mp hv
      have hm := List.mem_of_getElem? hq
      have h2p : H2 p = some (.lst []) := s3 _ _ upd_same
      have old : Same H H' := fun x o e => fr x o (ne_of_none (s1 _ _ e) hp) ((s2.trans s3) _ _ e)
      have hd' := fr d _ (ne_of_none hd hp) (s3 _ _ (same_new hp _ _ hd))
      have qa := fr q.1 _ (ne_of (hL.2 q hm) h2p (by intro z; cases z)) (hL.2 q hm)
      obtain ⟨pc, st, es, hpc, hst, g1, g2, g3, g4, sa⟩ := rd_key hd' (sh _ old) (inl q hm)
      obtain ⟨c1, c2, _, c4⟩ := hS.st pc hpc st hst
      have dg : DGet H' d (V.str q.2.1) (some pc.v) := by
        have := DGet.k (k := (.inr q.2.1 : Key)) hd'
        rw [g1] at this; exact this
      have ml := mult_lo (e := en) c1
      walk_at "rd"
      refine ⟨_, SqT.of qa, _, rfl, _, dg, _, rfl, _, SqT.of g2, _, rfl, _, SqT.of qa, _, rfl, _, rfl, _, _, rfl, SqL.of g3, _, g4, _, rfl, ?_⟩
      have rl : rs.length = i := by have := congrArg List.length e1; rw [List.length_map, List.length_map, List.length_take] at this; omega
      refine ⟨_, SqT.of sa.top, _, rfl, _, rfl, e5, by omega, c1, c2, _, rfl, _, SqT.of sa.top, _, rfl, st.words.length, .inl ⟨_, SqL.of sa.wd, by rw [List.length_map]⟩, .inl ⟨rfl, _, SqL.of hp'⟩, by rw [sizeLine_eq]; decide, fun t ht => ?_⟩
      have ntp : t ≠ p := fun z => by rw [z, hp'] at ht; cases ht
      have up : ∀ {x : Addr} {o : HO}, x ≠ p → H' x = some o → upd (upd H' t (HO.tup [V.ref q.fst, V.int (multF en st.step), V.int (multF en st.step + (st.words.length : Int))])) p (HO.lst (rs.map (fun r => V.ref r.t) ++ [V.ref t])) x = some o := fun h1 h2 => by
        rw [upd_ne h1]; exact same_new ht _ _ h2
      have np : ∀ {x : Addr} {xs : List V}, H' x = some (.tup xs) → x ≠ p := fun h => ne_of h hp' (by intro z; cases z)
      refine ⟨_, same_new ht _ _ hp', by rw [sizeLine_eq, List.length_map]; omega, fun x o h1 h2 => up h1 (fr x o h1 h2), rs ++ [⟨t, q.1, q.2, multF en st.step, multF en st.step + (st.words.length : Int)⟩], by rw [upd_same, List.map_append]; rfl, fun r hr => ?_, fun r hr => ?_, ?_, ss ++ [st], ?_, ?_, ?_, by omega, by omega⟩
      · rcases List.mem_append.mp hr with z | z
        · exact up (np (hr1 r z)) (hr1 r z)
        · rw [List.mem_singleton.mp z]
          show upd _ p _ t = _
          rw [upd_ne ntp, upd_same]
      · rcases List.mem_append.mp hr with z | z
        · exact up (np (hr2 r z)) (hr2 r z)
        · rw [List.mem_singleton.mp z]
          exact up (np qa) qa
      · rw [List.map_append, e1, List.take_succ, hq, List.map_append]; rfl
      · rw [List.map_append, List.map_append, e2]
        exact congrArg (fun z => ss.map some ++ [z]) es
      · rw [List.map_append, e3, rows_snoc, ← e4]; rfl
      · rw [rows_snoc, ← e4, List.getLast?_concat]; rfl
    · rintro σ H' ⟨rs, ss, en, b5, b6, b7, rfl, fr, hp', hr1, hr2, e1, e2, e3, e4, e5, e6⟩
      walk_at "rd"
      rw [List.length_map, List.take_length] at e1
      exact k p rs H' (fun x o e => fr x o (ne_of_none (s1 _ _ e) hp) ((s2.trans s3) _ _ e)) (same_no s1 hp) ⟨hp', hr1, hr2, by rw [e1]; exact hO, ss, e2, e3⟩
noncomputable def RowL.core (r : RowL) : Addr × PairD × Int × Int := (r.b, r.k, r.p, r.e)
theorem core_map {α : Type} {f : RowL → α} {g : Addr × PairD × Int × Int → α} (e : ∀ r, f r = g r.core) {xs ys : List RowL} (h : xs.map RowL.core = ys.map RowL.core) : xs.map f = ys.map f := by
  have e1 : f = g ∘ RowL.core := funext e
  rw [e1, ← List.map_map, ← List.map_map, h]
theorem LaidAt.len {H : Hp} {b : Bool} {l : Addr} {ps : List PcM} {ks : List PairD} {rs : List RowL} (h : LaidAt H b l ps ks rs) : rs.length ≤ ks.length := by
  obtain ⟨ss, pm, _, e⟩ := h.ord
  have := congrArg List.length e
  rw [List.length_map, List.length_append] at this
  have f : ∀ xs : List PairD, (xs.filter (isKd ps (Str.ofString "code"))).length + (xs.filter (isKd ps (Str.ofString "data"))).length ≤ xs.length := fun xs => by
    induction xs with
    | nil => exact Nat.le_refl _
    | cons x xs ih =>
      have ne : ¬ (isKd ps (Str.ofString "code") x = true ∧ isKd ps (Str.ofString "data") x = true) := fun ⟨h1, h2⟩ => by
        unfold isKd at h1 h2
        rw [of_decide_eq_true h1] at h2
        exact absurd (Option.some.inj (of_decide_eq_true h2)) (by decide +kernel)
      rw [List.filter_cons, List.filter_cons]
      by_cases a1 : isKd ps (Str.ofString "code") x = true <;> by_cases a2 : isKd ps (Str.ofString "data") x = true
      · exact absurd ⟨a1, a2⟩ ne
      · rw [if_pos a1, if_neg a2, List.length_cons, List.length_cons]; omega
      · rw [if_neg a1, if_pos a2, List.length_cons, List.length_cons]; omega
      · rw [if_neg a1, if_neg a2, List.length_cons]; omega
  have := f ss
  have := pm.length_eq
  omega
theorem G_laid (T : Txt K mg A) : FnOk P w K mg base CX0 3 A.laid A.fd_laid ["pieces", "keys"] sp_laid := by
  refine T.F_laid.ok sc_laid (fun vs H Q E h => ?_) (fun cdv Ar outer s H vs Q E hr h => ?_)
  · obtain ⟨ps, ks, ⟨L, a, qs, rfl, _⟩, _⟩ := h
    rfl
  · obtain ⟨ps, ks, ⟨L, a, qs, rfl, rfl, hP, hn, hS, hK, hl, hin⟩, k⟩ := h
    refine ⟨_, (@pss_one _ _ _ (@ps_ret _ _ _ _ (@pe_comp _ _ _ _ _ _ _ _ _ _ _ _ _ _ (blk_mk (own := ["key", "place", "end"]) (fr := []) (fm := []) rfl (by decide +kernel) (by decide +kernel) (by decide +kernel) .nil) rfl (@pi_listK _ K _ _ _ rfl (@pe_call _ _ _ _ _ _ _ _ _ _ _ _ _ _ _ _ (G_laid_with_ends T) (hr.mono (by decide)) rfl T.m_laid_with_ends T.k_laid_with_ends T.b_laid_with_ends .nil (@pass0 _) (@pa_cons _ _ _ _ _ (@pv _ 0 _ _ (by rfl) (by first  |  exact  Or.inl  rfl  |  exact  Or.inr  (    Or.inl  rfl  )  |  exact  Or.inr  (    Or.inr  rfl  )) (by decide) (by decide)) (@pa_cons _ _ _ _ _ (@pv _ 1 _ _ (by rfl) (by first  |  exact  Or.inl  rfl  |  exact  Or.inr  (    Or.inl  rfl  )  |  exact  Or.inr  (    Or.inr  rfl  )) (by decide) (by decide)) (@pa_nil _) (by rfl)) (by rfl)) (by decide) (by rfl) (by rfl))) (fun _ _ _ => ⟨(@pg_tupK _ K _ _ _ 3 _ rfl rfl (@pgs_cons _ _ _ _ _ (@pg_name _ _ 0 _ (by show List.Nodup (["key", "place", "end"] : List Str) ; decide +kernel) rfl (by first | exact Or.inl rfl | exact Or.inr rfl) (by first  |  exact  .inl  rfl  |  exact  .inr  rfl  |  assumption)) (@pgs_cons _ _ _ _ _ (@pg_name _ _ 1 _ (by show List.Nodup (["key", "place", "end"] : List Str) ; decide +kernel) rfl (by first | exact Or.inl rfl | exact Or.inr rfl) (by first  |  exact  .inl  rfl  |  exact  .inr  rfl  |  assumption)) (@pgs_cons _ _ _ _ _ (@pg_name _ _ 2 _ (by show List.Nodup (["key", "place", "end"] : List Str) ; decide +kernel) rfl (by first | exact Or.inl rfl | exact Or.inr rfl) (by first  |  exact  .inl  rfl  |  exact  .inr  rfl  |  assumption)) (@pgs_nil _) (by rfl)) (by rfl)) (by rfl)) (by rfl) (by rfl)) , pts_nil, (@pe_tup _ _ _ _ _ (@pa_cons _ _ _ _ _ (@pv _ 0 _ _ (by rfl) (by first  |  exact  Or.inl  rfl  |  exact  Or.inr  (    Or.inl  rfl  )  |  exact  Or.inr  (    Or.inr  rfl  )) (by decide) (by decide)) (@pa_cons _ _ _ _ _ (@pv _ 1 _ _ (by rfl) (by first  |  exact  Or.inl  rfl  |  exact  Or.inr  (    Or.inl  rfl  )  |  exact  Or.inr  (    Or.inr  rfl  )) (by decide) (by decide)) (@pa_nil _) (by rfl)) (by rfl)))⟩) (by intro  _  ;  rfl)))), ?_⟩
    walk_at "rd"
    refine ⟨ps, hP, hn, hS, qs, hK, hl, hin, fun l rs H1 s1 _ LA => ?_⟩
    have rl := LA.len
    rw [List.length_map] at rl
    refine CompL.of (xs := rs.map fun r => V.ref r.t) (by rw [sizeLine_eq, List.length_map]; omega) (SqL.of LA.top) (fun D i ys H' => Same H1 H' ∧ H' D = some (.lst ys) ∧ ∃ us : List RowL, ys = us.map (fun r => V.ref r.t) ∧ us.map RowL.core = (rs.take i).map RowL.core ∧ ∀ r ∈ us, H' r.t = some (.tup (r.vs false)))
      (fun D hD => ⟨same_new hD, upd_same, [], rfl, rfl, fun r h => by cases h⟩) ?_ ?_ ?_
    · rintro D i ys H' hD hi ⟨s2, hDD, us, rfl, e, _⟩
      have hl := congrArg List.length e
      rw [List.length_map, List.length_map, List.length_take] at hl
      exact ⟨SqL.of (s2 _ _ LA.top), hDD, by rw [List.length_map]; omega⟩
    · rintro D i x ys H' hD hx ⟨s2, hDD, us, rfl, e, ht⟩
      rw [List.getElem?_map] at hx
      obtain ⟨r, hr, rfl⟩ := Option.map_eq_some_iff.mp hx
      have ra : H' r.t = some (.tup [.ref r.b, .int r.p, .int r.e]) := s2 _ _ (LA.row r (List.mem_of_getElem? hr))
      walk_at "rd"
      refine ⟨_, SqT.of ra, rfl, _, _, rfl, _, _, rfl, _, _, rfl, rfl, .no (.no (.no .nil)), by rw [sizeLine_eq]; decide, fun p hp => ?_⟩
      have hpD : D ≠ p := ne_of_none hDD hp
      refine ⟨by rw [upd_ne hpD]; exact hDD, same_upd hD (s2.trans (same_new hp)), upd_same, us ++ [⟨p, r.b, r.k, r.p, r.e⟩], by simp, ?_, fun u h => ?_⟩
      · rw [List.take_succ, hr, List.map_append, List.map_append, e]; rfl
      · rcases List.mem_append.mp h with z | z
        · have := ht u z
          rw [upd_ne (ne_of this hDD (by intro z; cases z)), upd_ne (ne_of_none this hp)]; exact this
        · rw [List.mem_singleton.mp z, upd_ne (Ne.symm hpD), upd_same]; rfl
    · rintro D ys H' hD ⟨s2, hDD, us, rfl, e, ht⟩
      rw [List.length_map, List.take_length] at e
      refine k D us H' (s1.trans s2) (same_no s1 hD) ⟨hDD, ht, fun r hr => ?_, ?_, ?_⟩
      · have : r.core ∈ rs.map RowL.core := by rw [← e]; exact List.mem_map.mpr ⟨r, hr, rfl⟩
        obtain ⟨r', h1, h2⟩ := List.mem_map.mp this
        have a1 : r'.b = r.b := congrArg (·.1) h2
        have a2 : r'.k = r.k := congrArg (·.2.1) h2
        rw [← a1, ← a2]; exact s2 _ _ (LA.key r' h1)
      · rw [core_map (f := RowL.k) (g := fun c => c.2.1) (fun r => rfl) e]; exact LA.ord
      · obtain ⟨ss, h1, h2⟩ := LA.lay
        refine ⟨ss, ?_, ?_⟩
        · rw [core_map (f := fun r => stF ps r.k) (g := fun c => stF ps c.2.1) (fun r => rfl) e]; exact h1
        · rw [core_map (f := fun r => (r.p, r.e)) (g := fun c => c.2.2) (fun r => rfl) e]; exact h2
theorem sgA_at {i : Int} (h0 : 0 ≤ i) (h1 : i < 37) : ∃ c, atI SIGNS.cps.toList i = some c ∧ sgA i = ⟨#[c]⟩ := by
  obtain ⟨n, rfl⟩ := Int.eq_ofNat_of_zero_le h0
  have l : SIGNS.cps.toList.length = 37 := by decide +kernel
  have e : atI SIGNS.cps.toList (n : Int) = some (SIGNS.cps.toList[n]'(by omega)) := atI_nat (List.getElem?_eq_getElem (by omega))
  exact ⟨_, e, by unfold sgA; rw [e]⟩
theorem fig_len {m : Nat} (h : m < 400) : (Str.ofString (toString (m : Int))).length ≤ 3 ∧ (Txt.zfill (Str.ofString (toString (m : Int))) 3).length ≤ 3 := by
  have : ∀ m : Nat, m < 400 → (Str.ofString (toString (m : Int))).length ≤ 3 ∧ (Txt.zfill (Str.ofString (toString (m : Int))) 3).length ≤ 3 := by decide +kernel
  exact this m h
theorem G__law_name_by (T : Txt K mg A) : FnOk P w K mg base CX0 1 A._law_name_by A.fd__law_name_by ["_law_cell", "_law_k"] sp_nameL := by
  refine T.F__law_name_by.ok sc__law_name_by (fun vs H Q E h => ?_) (fun cdv Ar outer s H vs Q E hr h => ?_)
  · obtain ⟨c, k, rfl, _⟩ := h
    rfl
  · obtain ⟨c, i, rfl, k⟩ := h
    refine ⟨_, (@pss_cons _ _ _ _ _ (@ps_set _ _ 2 _ _ _ _ sc__law_name_by.nd rfl (by first | exact Or.inl rfl | exact Or.inr rfl) (@pe_str _ _ _ _) (by rfl) (by first  |  exact  .inl  rfl  |  exact  .inr  rfl  |  assumption)) (@pss_cons _ _ _ _ _ (@ps_set _ _ 3 _ _ _ _ sc__law_name_by.nd rfl (by first | exact Or.inl rfl | exact Or.inr rfl) (@pe_str _ _ _ _) (by rfl) (by first  |  exact  .inl  rfl  |  exact  .inr  rfl  |  assumption)) (@pss_cons _ _ _ _ _ (@ps_for _ _ _ _ _ _ _ _ PassesOwn.never rfl (@pi_range1 _ _ _ _ _ _ rfl T.n_range (@pa_cons _ _ _ _ _ (@pe_op _ _ _ _ _ _ _ _ op_add (@pe_int _ _ _ _) (@pe_op _ _ _ _ _ _ _ _ op_mod (@pv _ 0 _ _ (by rfl) (by first  |  exact  Or.inl  rfl  |  exact  Or.inr  (    Or.inl  rfl  )  |  exact  Or.inr  (    Or.inr  rfl  )) (by decide) (by decide)) (@pe_int _ _ _ _))) (@pa_nil _) (by rfl)) (by rfl)) (@pg_name _ _ 4 _ sc__law_name_by.nd rfl (by first | exact Or.inl rfl | exact Or.inr rfl) (by first  |  exact  .inl  rfl  |  exact  .inr  rfl  |  assumption)) (@pss_one _ _ _ (@ps_set _ _ 3 _ _ _ _ sc__law_name_by.nd rfl (by first | exact Or.inl rfl | exact Or.inr rfl) (@pe_op _ _ _ _ _ _ _ _ op_add_str (@pv _ 3 _ _ (by rfl) (by first  |  exact  Or.inl  rfl  |  exact  Or.inr  (    Or.inl  rfl  )  |  exact  Or.inr  (    Or.inr  rfl  )) (by decide) (by decide)) (@pe_ix _ _ _ _ _ _ _ ix_str (@pv _ 2 _ _ (by rfl) (by first  |  exact  Or.inl  rfl  |  exact  Or.inr  (    Or.inl  rfl  )  |  exact  Or.inr  (    Or.inr  rfl  )) (by decide) (by decide)) (@pe_op _ _ _ _ _ _ _ _ op_mod (@pe_op _ _ _ _ _ _ _ _ op_add (@pe_op _ _ _ _ _ _ _ _ op_fdiv (@pv _ 0 _ _ (by rfl) (by first  |  exact  Or.inl  rfl  |  exact  Or.inr  (    Or.inl  rfl  )  |  exact  Or.inr  (    Or.inr  rfl  )) (by decide) (by decide)) (@pe_op _ _ _ _ _ _ _ _ op_add (@pv _ 4 _ _ (by rfl) (by first  |  exact  Or.inl  rfl  |  exact  Or.inr  (    Or.inl  rfl  )  |  exact  Or.inr  (    Or.inr  rfl  )) (by decide) (by decide)) (@pe_int _ _ _ _))) (@pe_op _ _ _ _ _ _ _ _ op_mul (@pv _ 4 _ _ (by rfl) (by first  |  exact  Or.inl  rfl  |  exact  Or.inr  (    Or.inl  rfl  )  |  exact  Or.inr  (    Or.inr  rfl  )) (by decide) (by decide)) (@pv _ 4 _ _ (by rfl) (by first  |  exact  Or.inl  rfl  |  exact  Or.inr  (    Or.inl  rfl  )  |  exact  Or.inr  (    Or.inr  rfl  )) (by decide) (by decide)))) (@pe_op _ _ _ _ _ _ _ _ op_sub (@pe_int _ _ _ _) (@pe_op _ _ _ _ _ _ _ _ op_mul (@pe_int _ _ _ _) (@pe_callTy _ _ _ _ _ _ _ _ _ call_int1 (by rfl) T.n_int bt_int (@pa_cons _ _ _ _ _ (@pe_cmpR _ _ _ _ _ _ _ _ op_eq (@pv _ 4 _ _ (by rfl) (by first  |  exact  Or.inl  rfl  |  exact  Or.inr  (    Or.inl  rfl  )  |  exact  Or.inr  (    Or.inr  rfl  )) (by decide) (by decide)) (@pe_int _ _ _ _) (nomark _)) (@pa_nil _) (by rfl)) (by decide) (by decide) (by rfl) (by rfl))))) (fun _ _ => rfl))) (by rfl) (by first  |  exact  .inl  rfl  |  exact  .inr  rfl  |  assumption))) (by intro  _  ;  rfl)) (@pss_cons _ _ _ _ _ (@ps_set _ _ 5 _ _ _ _ sc__law_name_by.nd rfl (by first | exact Or.inl rfl | exact Or.inr rfl) (@pe_op _ _ _ _ _ _ _ _ op_add (@pe_int _ _ _ _) (@pe_op _ _ _ _ _ _ _ _ op_mod (@pe_op _ _ _ _ _ _ _ _ op_fdiv (@pv _ 0 _ _ (by rfl) (by first  |  exact  Or.inl  rfl  |  exact  Or.inr  (    Or.inl  rfl  )  |  exact  Or.inr  (    Or.inr  rfl  )) (by decide) (by decide)) (@pe_int _ _ _ _)) (@pe_callB _ _ _ _ _ _ _ _ _ (call_lenK (K := K) rfl) (by rfl) T.n_len bt_len (@pa_cons _ _ _ _ _ (@pv _ 3 _ _ (by rfl) (by first  |  exact  Or.inl  rfl  |  exact  Or.inr  (    Or.inl  rfl  )  |  exact  Or.inr  (    Or.inr  rfl  )) (by decide) (by decide)) (@pa_nil _) (by rfl)) (by decide) (by decide) (by rfl) (by rfl)))) (by rfl) (by first  |  exact  .inl  rfl  |  exact  .inr  rfl  |  assumption)) (@pss_cons _ _ _ _ _ (@ps_set _ _ 6 _ _ _ _ sc__law_name_by.nd rfl (by first | exact Or.inl rfl | exact Or.inr rfl) (@pe_callTy _ _ _ _ _ _ _ _ _ call_str_int (by rfl) T.n_str bt_str (@pa_cons _ _ _ _ _ (@pe_op _ _ _ _ _ _ _ _ op_mod (@pv _ 1 _ _ (by rfl) (by first  |  exact  Or.inl  rfl  |  exact  Or.inr  (    Or.inl  rfl  )  |  exact  Or.inr  (    Or.inr  rfl  )) (by decide) (by decide)) (@pe_int _ _ _ _)) (@pa_nil _) (by rfl)) (by decide) (by decide) (by rfl) (by rfl)) (by rfl) (by first  |  exact  .inl  rfl  |  exact  .inr  rfl  |  assumption)) (@pss_cons _ _ _ _ _ (@ps_if _ _ _ _ _ _ _ _ (@pt_cmpR _ _ _ _ _ _ _ _ op_eq (@pe_op _ _ _ _ _ _ _ _ op_mod (@pe_op _ _ _ _ _ _ _ _ op_fdiv (@pv _ 0 _ _ (by rfl) (by first  |  exact  Or.inl  rfl  |  exact  Or.inr  (    Or.inl  rfl  )  |  exact  Or.inr  (    Or.inr  rfl  )) (by decide) (by decide)) (@pe_int _ _ _ _)) (@pe_int _ _ _ _)) (@pe_int _ _ _ _) (nomark _)) (@pss_one _ _ _ (@ps_set _ _ 6 _ _ _ _ sc__law_name_by.nd rfl (by first | exact Or.inl rfl | exact Or.inr rfl) (@pe_bm _ _ _ _ _ _ _ _ _ _ _ _ PySem.F.plainAttrs_str PySem.F.slot_str_zfill PySem.F.type_str_zfill mt_zfill (@pv _ 6 _ _ (by rfl) (by first  |  exact  Or.inl  rfl  |  exact  Or.inr  (    Or.inl  rfl  )  |  exact  Or.inr  (    Or.inr  rfl  )) (by decide) (by decide)) (@pa_cons _ _ _ _ _ (@pe_int _ _ _ _) (@pa_nil _) (by rfl)) (by rfl) (by rfl) (by rfl) (by rfl) (by rfl)) (by rfl) (by first  |  exact  .inl  rfl  |  exact  .inr  rfl  |  assumption))) (@pss_nil _)) (@pss_one _ _ _ (@ps_ret _ _ _ _ (@pe_op _ _ _ _ _ _ _ _ op_add_str (@pe_op _ _ _ _ _ _ _ _ op_add_str (@pe_slice _ _ _ _ _ _ _ _ _ _ sl_str (@pv _ 3 _ _ (by rfl) (by first  |  exact  Or.inl  rfl  |  exact  Or.inr  (    Or.inl  rfl  )  |  exact  Or.inr  (    Or.inr  rfl  )) (by decide) (by decide)) (@po_none _) (@po_some _ _ _ (@pv _ 5 _ _ (by rfl) (by first  |  exact  Or.inl  rfl  |  exact  Or.inr  (    Or.inl  rfl  )  |  exact  Or.inr  (    Or.inr  rfl  )) (by decide) (by decide)))) (@pv _ 6 _ _ (by rfl) (by first  |  exact  Or.inl  rfl  |  exact  Or.inr  (    Or.inl  rfl  )  |  exact  Or.inr  (    Or.inr  rfl  )) (by decide) (by decide))) (@pe_slice _ _ _ _ _ _ _ _ _ _ sl_str (@pv _ 3 _ _ (by rfl) (by first  |  exact  Or.inl  rfl  |  exact  Or.inr  (    Or.inl  rfl  )  |  exact  Or.inr  (    Or.inr  rfl  )) (by decide) (by decide)) (@po_some _ _ _ (@pv _ 5 _ _ (by rfl) (by first  |  exact  Or.inl  rfl  |  exact  Or.inr  (    Or.inl  rfl  )  |  exact  Or.inr  (    Or.inr  rfl  )) (by decide) (by decide))) (@po_none _))))))))))), ?_⟩
    walk_at "rd"
    refine ⟨by decide, ?_⟩
    refine ForR.of (by omega) (by omega) (fun n σ H' => H' = H ∧ ∃ (b4 b5 b6 : Option V), σ = [some (.int c), some (.int i), some (.str (Str.ofString "abcdefghijklmnopqrstuvwxyz0123456789_")), some (.str (baseF c n)), b4, b5, b6] ∧ (baseF c n).length = n) ⟨rfl, _, _, _, rfl, show (Str.ofString "").length = 0 by decide +kernel⟩ ?_ ?_
    · rintro n σ H' hn ⟨rfl, b4, b5, b6, rfl, hl⟩
      have h13 : n < 13 := by omega
      walk_at "rd"
      have em : 0 < (37 - 11 * (if decide ((n : Int) = 0) = true then (1 : Int) else 0)) ∧ (37 - 11 * (if decide ((n : Int) = 0) = true then (1 : Int) else 0)) ≤ 37 := by
        by_cases h : (n : Int) = 0
        · rw [decide_eq_true h]; decide
        · rw [decide_eq_false h]; decide
      have lo := Int.emod_nonneg (c / ((n : Int) + 3) + (n : Int) * (n : Int)) (show (37 - 11 * (if decide ((n : Int) = 0) = true then (1 : Int) else 0)) ≠ 0 by omega)
      have hi := Int.emod_lt_of_pos (c / ((n : Int) + 3) + (n : Int) * (n : Int)) em.1
      obtain ⟨x, ex, es⟩ := sgA_at lo (by omega)
      have eb : baseF c (n + 1) = baseF c n ++ ⟨#[x]⟩ := by rw [← es]; rfl
      have l1 : (⟨#[x]⟩ : Str).length = 1 := rfl
      refine ⟨⟨by omega, by omega⟩, .inl ⟨by omega, by omega⟩, .inl ⟨by decide, by decide⟩, em.1, by rw [sizeLine_eq]; decide +kernel, x, ex, by rw [sizeLine_eq]; omega, eb.symm, by rw [eb, slen, hl, l1]⟩
    · rintro σ H' ⟨rfl, b4, b5, b6, rfl, hl⟩
      have h1 : 1 ≤ (baseF c (1 + c % 13).toNat).length ∧ (baseF c (1 + c % 13).toNat).length ≤ 13 := by omega
      walk_at "rd"
      obtain ⟨m, em⟩ := Int.eq_ofNat_of_zero_le (show 0 ≤ i % 400 by omega)
      have m4 : m < 400 := by omega
      obtain ⟨g1, g3⟩ := fig_len m4
      have kk : Q (V.str (Txt.slice (baseF c (1 + c % 13).toNat) none (some (1 + c / 13 % ((baseF c (1 + c % 13).toNat).length : Int))) ++ figF c i ++ Txt.slice (baseF c (1 + c % 13).toNat) (some (1 + c / 13 % ((baseF c (1 + c % 13).toNat).length : Int))) none)) H' := k
      unfold figF at kk
      generalize baseF c (1 + c % 13).toNat = z at h1 hl kk ⊢
      have s1 := Txt.slice_le z none (some (1 + c / 13 % (z.length : Int)))
      have s2 := Txt.slice_le z (some (1 + c / 13 % (z.length : Int))) none
      rw [em] at kk ⊢
      have lg : (m : Int).natAbs.log2 < 1920 := by
        by_cases h : m = 0
        · subst h; decide
        · exact (Nat.log2_lt (n := m) (k := 1920) h).mpr (Nat.lt_trans m4 (Nat.lt_of_lt_of_le (by decide : 400 < 2 ^ 9) (Nat.pow_le_pow_right (by decide) (by decide))))
      have sz : ∀ m : Nat, m ≤ 2000 → m ≤ sizeLine := fun m h => by rw [sizeLine_eq]; omega
      refine ⟨⟨by decide, by decide⟩, sz _ (by omega), by omega, by decide, lg, ⟨by decide, by decide⟩, by decide, ite2 (fun q => ?_) fun q => ?_⟩
      · rw [if_pos (of_decide_eq_true q)] at kk
        exact ⟨rfl, by decide, by decide, sz _ (by omega), sz _ (by omega), sz _ (by omega), sz _ (by rw [slen]; omega), kk⟩
      · rw [if_neg (fun h => q (decide_eq_true h))] at kk
        exact ⟨sz _ (by omega), sz _ (by omega), sz _ (by omega), sz _ (by rw [slen]; omega), kk⟩
theorem fig_val {c : Int} {m : Nat} (h : m < 101) : valD (figF c (m : Int)).cps.toList = m ∧ ∃ x r, (figF c (m : Int)).cps.toList = x :: r ∧ 48 ≤ x ∧ x ≤ 57 := by
  have key : ∀ m : Nat, m < 101 → (valD (Txt.zfill (Str.ofString (toString ((m : Int) % 400))) 3).cps.toList = m ∧ ((Txt.zfill (Str.ofString (toString ((m : Int) % 400))) 3).cps.toList.head?.any fun x => 48 ≤ x ∧ x ≤ 57) = true) ∧ valD (Str.ofString (toString ((m : Int) % 400))).cps.toList = m ∧ ((Str.ofString (toString ((m : Int) % 400))).cps.toList.head?.any fun x => 48 ≤ x ∧ x ≤ 57) = true := by decide +kernel
  have hd : ∀ z : List Nat, (z.head?.any fun x => 48 ≤ x ∧ x ≤ 57) = true → ∃ x r, z = x :: r ∧ 48 ≤ x ∧ x ≤ 57 := fun z hz => by
    cases z with
    | nil => cases hz
    | cons x r => exact ⟨x, r, rfl, by simpa using hz⟩
  have k := key m h
  unfold figF
  by_cases q : c / 169 % 2 = 1
  · rw [if_pos q]; exact ⟨k.1.1, hd _ k.1.2⟩
  · rw [if_neg q]; exact ⟨k.2.1, hd _ k.2.2⟩
theorem name_cps (c k : Int) : (nameF c k).cps.toList = (Txt.slice (baseF c (1 + c % 13).toNat) none (some (atF c))).cps.toList ++ (figF c k).cps.toList ++ (Txt.slice (baseF c (1 + c % 13).toNat) (some (atF c)) none).cps.toList := by
  unfold nameF
  rw [show ∀ a b : Str, (a ++ b).cps = a.cps ++ b.cps from fun _ _ => rfl, Array.toList_append, show ∀ a b : Str, (a ++ b).cps = a.cps ++ b.cps from fun _ _ => rfl, Array.toList_append]
theorem name_inj {c : Int} {m n : Nat} (hm : m < 101) (hn : n < 101) (h : nameF c (m : Int) = nameF c (n : Int)) : m = n := by
  have e : (nameF c (m : Int)).cps.toList = (nameF c (n : Int)).cps.toList := congrArg (fun z : Str => z.cps.toList) h
  rw [name_cps, name_cps] at e
  have e := List.append_cancel_left (List.append_cancel_right e)
  have a := (fig_val (c := c) hm).1
  rw [e, (fig_val (c := c) hn).1] at a
  exact a.symm
theorem name_none {c : Int} {m : Nat} (hm : m < 101) : nameF c (m : Int) ≠ Str.ofString "none" := fun h => by
  obtain ⟨x, r, e, h1, h2⟩ := (fig_val (c := c) hm).2
  have : x ∈ (nameF c (m : Int)).cps.toList := by rw [name_cps, e]; simp
  rw [h, show (Str.ofString "none").cps.toList = [110, 111, 110, 101] by decide +kernel] at this
  simp at this
  omega
theorem G__law_many_by (T : Txt K mg A) : FnOk P w K mg base CX0 1 A._law_many_by A.fd__law_many_by ["_law_number"] sp_many := by
  refine T.F__law_many_by.ok sc__law_many_by (fun vs H Q E h => ?_) (fun cdv Ar outer s H vs Q E hr h => ?_)
  · obtain ⟨n, rfl, _⟩ := h
    rfl
  · obtain ⟨n, rfl, n0, k⟩ := h
    refine ⟨_, (@pss_cons _ _ _ _ _ (@ps_if _ _ _ _ _ _ _ _ (@pt_cmpR _ _ _ _ _ _ _ _ op_eq (@pe_op _ _ _ _ _ _ _ _ op_mod (@pv _ 0 _ _ (by rfl) (by first  |  exact  Or.inl  rfl  |  exact  Or.inr  (    Or.inl  rfl  )  |  exact  Or.inr  (    Or.inr  rfl  )) (by decide) (by decide)) (@pe_int _ _ _ _)) (@pe_int _ _ _ _) (nomark _)) (@pss_one _ _ _ (@ps_ret _ _ _ _ (@pe_op _ _ _ _ _ _ _ _ op_mod (@pe_op _ _ _ _ _ _ _ _ op_fdiv (@pv _ 0 _ _ (by rfl) (by first  |  exact  Or.inl  rfl  |  exact  Or.inr  (    Or.inl  rfl  )  |  exact  Or.inr  (    Or.inr  rfl  )) (by decide) (by decide)) (@pe_int _ _ _ _)) (@pe_int _ _ _ _)))) (@pss_nil _)) (@pss_one _ _ _ (@ps_ret _ _ _ _ (@pe_op _ _ _ _ _ _ _ _ op_mod (@pe_op _ _ _ _ _ _ _ _ op_fdiv (@pv _ 0 _ _ (by rfl) (by first  |  exact  Or.inl  rfl  |  exact  Or.inr  (    Or.inl  rfl  )  |  exact  Or.inr  (    Or.inr  rfl  )) (by decide) (by decide)) (@pe_int _ _ _ _)) (@pe_int _ _ _ _))))), ?_⟩
    walk_at "rd"
    refine ⟨by decide, ite2 (fun _ => ⟨⟨by decide, by decide⟩, by decide, k _ (by omega) (by omega)⟩) fun _ => ⟨⟨by decide, by decide⟩, by decide, k _ (by omega) (by omega)⟩⟩
theorem G__law_known (T : Txt K mg A) : FnOk P w K mg base CX0 1 A._law_known A.fd__law_known ["_law_pieces"] sp_known := by
  refine T.F__law_known.ok sc__law_known (fun vs H Q E h => ?_) (fun cdv Ar outer s H vs Q E hr h => ?_)
  · obtain ⟨L, ps, rfl, _⟩ := h
    rfl
  · obtain ⟨L, ps, rfl, hP, hn, nd, hs, k⟩ := h
    refine ⟨_, (@pss_cons _ _ _ _ _ (@ps_set _ _ 1 _ _ _ _ sc__law_known.nd rfl (by first | exact Or.inl rfl | exact Or.inr rfl) (@pe_dnewT _ _) (by rfl) (by first  |  exact  .inl  rfl  |  exact  .inr  rfl  |  assumption)) (@pss_cons _ _ _ _ _ (@ps_for _ _ _ _ _ _ _ _ PassesOwn.never rfl (@pi_listK _ K _ _ _ rfl (@pv _ 0 _ _ (by rfl) (by first  |  exact  Or.inl  rfl  |  exact  Or.inr  (    Or.inl  rfl  )  |  exact  Or.inr  (    Or.inr  rfl  )) (by decide) (by decide))) (@pg_tupK _ K _ _ _ 3 _ rfl rfl (@pgs_cons _ _ _ _ _ (@pg_name _ _ 2 _ sc__law_known.nd rfl (by first | exact Or.inl rfl | exact Or.inr rfl) (by first  |  exact  .inl  rfl  |  exact  .inr  rfl  |  assumption)) (@pgs_cons _ _ _ _ _ (@pg_name _ _ 3 _ sc__law_known.nd rfl (by first | exact Or.inl rfl | exact Or.inr rfl) (by first  |  exact  .inl  rfl  |  exact  .inr  rfl  |  assumption)) (@pgs_cons _ _ _ _ _ (@pg_name _ _ 4 _ sc__law_known.nd rfl (by first | exact Or.inl rfl | exact Or.inr rfl) (by first  |  exact  .inl  rfl  |  exact  .inr  rfl  |  assumption)) (@pgs_nil _) (by rfl)) (by rfl)) (by rfl)) (by rfl) (by rfl)) (@pss_one _ _ _ (@ps_for _ _ _ _ _ _ _ _ PassesOwn.never rfl (@pi_range1 _ _ _ _ _ _ rfl T.n_range (@pa_cons _ _ _ _ _ (@pe_callB _ _ _ _ _ _ _ _ _ (call_lenK (K := K) rfl) (by rfl) T.n_len bt_len (@pa_cons _ _ _ _ _ (@pv _ 3 _ _ (by rfl) (by first  |  exact  Or.inl  rfl  |  exact  Or.inr  (    Or.inl  rfl  )  |  exact  Or.inr  (    Or.inr  rfl  )) (by decide) (by decide)) (@pa_nil _) (by rfl)) (by decide) (by decide) (by rfl) (by rfl)) (@pa_nil _) (by rfl)) (by rfl)) (@pg_name _ _ 5 _ sc__law_known.nd rfl (by first | exact Or.inl rfl | exact Or.inr rfl) (by first  |  exact  .inl  rfl  |  exact  .inr  rfl  |  assumption)) (@pss_one _ _ _ (@ps_dput _ _ _ _ _ _ _ _ _ (hu_of hr) (@pv _ 1 _ _ (by rfl) (by first  |  exact  Or.inl  rfl  |  exact  Or.inr  (    Or.inl  rfl  )  |  exact  Or.inr  (    Or.inr  rfl  )) (by decide) (by decide)) (@pe_tup _ _ _ _ _ (@pa_cons _ _ _ _ _ (@pv _ 2 _ _ (by rfl) (by first  |  exact  Or.inl  rfl  |  exact  Or.inr  (    Or.inl  rfl  )  |  exact  Or.inr  (    Or.inr  rfl  )) (by decide) (by decide)) (@pa_cons _ _ _ _ _ (@pv _ 5 _ _ (by rfl) (by first  |  exact  Or.inl  rfl  |  exact  Or.inr  (    Or.inl  rfl  )  |  exact  Or.inr  (    Or.inr  rfl  )) (by decide) (by decide)) (@pa_nil _) (by rfl)) (by rfl))) (@pe_ix _ _ _ _ _ _ _ (ix_listK (K := K) rfl) (@pv _ 3 _ _ (by rfl) (by first  |  exact  Or.inl  rfl  |  exact  Or.inr  (    Or.inl  rfl  )  |  exact  Or.inr  (    Or.inr  rfl  )) (by decide) (by decide)) (@pv _ 5 _ _ (by rfl) (by first  |  exact  Or.inl  rfl  |  exact  Or.inr  (    Or.inl  rfl  )  |  exact  Or.inr  (    Or.inr  rfl  )) (by decide) (by decide)) (fun _ _ => rfl)) rfl)) (by intro  _  ;  rfl))) (by intro  _  ;  rfl)) (@pss_one _ _ _ (@ps_ret _ _ _ _ (@pv _ 1 _ _ (by rfl) (by first  |  exact  Or.inl  rfl  |  exact  Or.inr  (    Or.inl  rfl  )  |  exact  Or.inr  (    Or.inr  rfl  )) (by decide) (by decide)))))), ?_⟩
    walk_at "rd"
    intro d hd
    have nm : ∀ {i j : Nat} {p q : PcM}, ps[i]? = some p → ps[j]? = some q → p.name = q.name → i = j := fun {i j p q} h1 h2 e => by
      have a1 := (List.getElem?_eq_some_iff.mp h1).1
      have a2 := (List.getElem?_eq_some_iff.mp h2).1
      have b1 : (ps.map PcM.name)[i]? = some q.name := by rw [List.getElem?_map, h1, ← e]; rfl
      have b2 : (ps.map PcM.name)[j]? = some q.name := by rw [List.getElem?_map, h2]; rfl
      obtain ⟨c1, d1⟩ := List.getElem?_eq_some_iff.mp b1
      obtain ⟨c2, d2⟩ := List.getElem?_eq_some_iff.mp b2
      rcases Nat.lt_trichotomy i j with z | z | z
      · exact absurd (d1.trans d2.symm) (List.pairwise_iff_getElem.mp nd i j c1 c2 z)
      · exact z
      · exact absurd (d2.trans d1.symm) (List.pairwise_iff_getElem.mp nd j i c2 c1 z)
    refine ForL.of (xs := ps.map PcM.v) (fun i σ H' => ∃ (kvs : List (List Key × V)) (b2 b3 b4 b5 : Option V), σ = [some (.ref L), some (.ref d), b2, b3, b4, b5] ∧ Same H H' ∧ H' d = some (.dT kvs) ∧ kvs.length ≤ 100 * i ∧ ∀ (i' : Nat) (p : PcM) (j : Nat) (s : StM), i' < i → ps[i']? = some p → p.sts[j]? = some s → valV kvs [.inr p.name, .inl (j : Int)] = some s.v)
      ⟨[], _, _, _, _, rfl, same_new hd, upd_same, by simp, fun i' p j s h => by omega⟩ ?_ ?_ ?_
    · rintro i σ H' hi ⟨kvs, b2, b3, b4, b5, rfl, s1, _⟩
      exact SqL.of (s1 _ _ hP.top)
    · rintro i v σ H' hv ⟨kvs, b2, b3, b4, b5, rfl, s1, hd', hk, kn⟩
      have hi : i < ps.length := by have := (List.getElem?_eq_some_iff.mp hv).1; rwa [List.length_map] at this
      rw [List.getElem?_map] at hv
      obtain ⟨p, hp, rfl⟩ := Option.map_eq_some_iff.mp hv
      have hm := List.mem_of_getElem? hp
      have pa := (hP.at_ p hm).mono s1
      have ls := hs p hm
      walk_at "rd"
      refine ⟨_, SqT.of pa.top, rfl, _, _, rfl, _, _, rfl, _, _, rfl, rfl, p.sts.length, .inl ⟨_, SqL.of pa.sl, by rw [List.length_map]⟩, ?_⟩
      refine ForR.of (by omega) (by omega) (fun m σ H2 => ∃ (kvs' : List (List Key × V)) (b5 : Option V), σ = [some (.ref L), some (.ref d), some (.str p.name), some (.ref p.ls), some (.ref p.ln), b5] ∧ Same H H2 ∧ H2 d = some (.dT kvs') ∧ kvs'.length ≤ 100 * i + m ∧ (∀ (i' : Nat) (p : PcM) (j : Nat) (s : StM), i' < i → ps[i']? = some p → p.sts[j]? = some s → valV kvs' [.inr p.name, .inl (j : Int)] = some s.v) ∧ ∀ (j : Nat) (s : StM), j < m → p.sts[j]? = some s → valV kvs' [.inr p.name, .inl (j : Int)] = some s.v)
        ⟨kvs, _, rfl, s1, hd', hk, kn, fun j s h => by omega⟩ ?_ ?_
      · rintro m σ H2 hm2 ⟨kvs', b5, rfl, s2, hd2, hk2, kn2, kn3⟩
        have hm2 : m < p.sts.length := by omega
        have pa2 := (hP.at_ p hm).mono s2
        have hst : p.sts[m]? = some p.sts[m] := List.getElem?_eq_getElem hm2
        generalize p.sts[m] = st at hst
        walk_at "rd"
        refine ⟨_, SqL.of pa2.sl, st.v, atI_nat (by rw [List.getElem?_map, hst]; rfl), by rw [sizeLine_eq]; decide, fun t ht => ⟨_, .inr ⟨kvs', [.inr p.name, .inl (m : Int)], t, same_new ht _ _ hd2, rfl, upd_same, by rw [sizeLine_eq]; omega, rfl⟩, same_upd hd (s2.trans (same_new ht)), putK kvs' [.inr p.name, .inl (m : Int)] st.v, upd_same, ?_, fun i' q j s h1 h2 h3 => ?_, fun j s h1 h2 => ?_⟩⟩
        · have := length_putK kvs' [(.inr p.name : Key), .inl (m : Int)] st.v; omega
        · rw [valV_put, if_neg (fun e => ?_)]
          · exact kn2 i' q j s h1 h2 h3
          · have : q.name = p.name := by injection e with e1 e2; exact Sum.inr.inj e1
            exact absurd (nm h2 hp this) (by omega)
        · rw [valV_put]
          by_cases z : j = m
          · rw [z, hst] at h2
            cases h2
            rw [z, if_pos rfl]
          · rw [if_neg (fun e => z ?_)]
            · exact kn3 j s (by omega) h2
            · injection e with e1 e2
              injection e2 with e3 e4
              have := Sum.inl.inj e3
              omega
      · rintro σ H2 ⟨kvs', b5, rfl, s2, hd2, hk2, kn2, kn3⟩
        refine ⟨kvs', _, _, _, _, rfl, s2, hd2, by have : ((p.sts.length : Int)).toNat = p.sts.length := rfl; omega, fun i' q j s h1 h2 h3 => ?_⟩
        by_cases z : i' < i
        · exact kn2 i' q j s z h2 h3
        · rw [show i' = i by omega, hp] at h2
          cases h2
          exact kn3 j s (List.getElem?_eq_some_iff.mp h3).1 h3
    · rintro σ H' ⟨kvs, b2, b3, b4, b5, rfl, s1, hd', hk, kn⟩
      walk_at "rd"
      refine k d kvs H' s1 hd' fun key st hst => ?_
      obtain ⟨p, s', hp, e1, e2, e3, e4⟩ := stF_some (by rw [hst]; rfl)
      rw [hst] at e4
      cases e4
      obtain ⟨i', hi'⟩ := List.getElem?_of_mem hp
      have := kn i' p key.2.toNat st (by rw [List.length_map]; exact (List.getElem?_eq_some_iff.mp hi').1) hi' e3
      rw [e1, show ((key.2.toNat : Nat) : Int) = key.2 by omega] at this
      exact this
theorem cut_to {xs : List V} {i : Nat} (h : i ≤ xs.length) : cutV xs none (some (i : Int)) = xs.take i := by
  unfold cutV
  have e : HT.sIx xs.length xs.length (some (i : Int)) = i := by rw [HT.sIx_nat]; omega
  have e0 : HT.sIx xs.length 0 none = 0 := rfl
  rw [e, e0, List.drop_zero, Nat.sub_zero]
theorem cut_from {xs : List V} {i : Nat} (h : i ≤ xs.length) : cutV xs (some (i : Int)) none = xs.drop i := by
  unfold cutV
  have e : HT.sIx xs.length 0 (some (i : Int)) = i := by rw [HT.sIx_nat]; omega
  have e0 : HT.sIx xs.length xs.length none = xs.length := rfl
  rw [e, e0, List.take_of_length_le (by rw [List.length_drop]; exact Nat.le_refl _)]
theorem newStW {H : Hp} {L t lw lf : Addr} {kind : Str} {step : Int} {ws : List Int} {ps : List PcM} {p : PcM} (h : Pcs H L (ps ++ [p])) (h1 : H t = some (.tup [.str kind, .int step, .ref lw, .ref lf])) (h2 : H lw = some (.lst (ws.map V.int))) (h3 : H lf = some (.lst []))
    (n1 : lw ≠ lf) (n2 : lw ∉ L :: listsOf (ps ++ [p])) (n3 : lf ∉ L :: listsOf (ps ++ [p])) :
    Pcs (upd H p.ls (.lst (p.sts.map StM.v ++ [.ref t]))) L (ps ++ [{ p with sts := p.sts ++ [⟨t, lw, lf, kind, step, ws, []⟩] }]) := by
  have hp := h.at_ p (by simp)
  obtain ⟨a1, a2, a3, a4⟩ := h.apart
  have b : But H (upd H p.ls (.lst (p.sts.map StM.v ++ [.ref t]))) p.ls := But.upd hp.sl
  have in1 : ∀ x, x ∈ p.lists → x ∈ L :: listsOf (ps ++ [p]) := fun x hx => List.mem_cons_of_mem _ (by rw [listsOf_snoc]; exact List.mem_append_right _ hx)
  have hls : p.ls ∈ p.lists := by simp [PcM.lists]
  have nd : p.ls ≠ p.ln ∧ p.ls ∉ p.sts.flatMap StM.lists := by
    have := a2
    simp only [PcM.lists, List.nodup_cons, List.mem_cons, not_or] at this
    exact this.1
  refine h.last hls rfl ⟨b.tup hp.top, by rw [upd_same]; simp, b.2 _ _ hp.nl (Ne.symm nd.1), fun s hs => ?_, fun n hn => (hp.ns n hn).but b⟩ ?_
  · rcases List.mem_append.mp hs with z | z
    · exact (hp.ss s z).but b fun q => nd.2 (List.mem_flatMap.mpr ⟨s, z, q⟩)
    · have e := List.mem_singleton.mp z
      subst e
      exact ⟨b.tup h1, b.2 _ _ h2 fun (e : lw = p.ls) => n2 (in1 _ (e ▸ hls)), b.2 _ _ h3 fun (e : lf = p.ls) => n3 (in1 _ (e ▸ hls)), fun f hf => absurd hf (by simp)⟩
  · have e : L :: listsOf (ps ++ [{ p with sts := p.sts ++ [⟨t, lw, lf, kind, step, ws, []⟩] }]) = (L :: listsOf (ps ++ [p])) ++ [lw, lf] := by
      rw [listsOf_snoc, listsOf_snoc]
      simp [PcM.lists, StM.lists, List.flatMap_append]
    rw [e]
    refine List.nodup_append.mpr ⟨h.nd, by simp [n1], fun x hx y hy e => ?_⟩
    subst e
    simp only [List.mem_cons, List.not_mem_nil, or_false] at hy
    rcases hy with e | e
    · subst e; exact n2 hx
    · subst e; exact n3 hx

theorem DrS.up {H0 H : Hp} {L a : Addr} {c : Int} {ps : List PcM} {qs : List (Addr × PairD)} {i j : Nat} (h : DrS H0 H L a c ps qs i) (hij : i ≤ j) : DrS H0 H L a c ps qs j :=
  { h with n2 := fun p hp => Nat.le_trans (h.n2 p hp) hij, n3 := Nat.le_trans h.n3 hij }
theorem DrS.mono {H0 H H' : Hp} {L a : Addr} {c : Int} {ps : List PcM} {qs : List (Addr × PairD)} {i : Nat} (h : DrS H0 H L a c ps qs i) (s : Same H H') : DrS H0 H' L a c ps qs i :=
  { h with sm := h.sm.trans s, pc := h.pc.mono s, ks := ⟨s _ _ h.ks.1, fun q hq => s _ _ (h.ks.2 q hq)⟩ }
theorem DrS.keys {H0 H H' : Hp} {L a a' : Addr} {c : Int} {ps : List PcM} {qs qs' : List (Addr × PairD)} {i : Nat} (h : DrS H0 H L a c ps qs i) (s : Same H H') (ha : H' a' = some (.lst (qs'.map fun q => V.ref q.1))) (fa : H a' = none) (mem : ∀ q ∈ qs', q ∈ qs) (len : qs'.length ≤ i) (nk : (qs'.map (·.2)).Nodup) : DrS H0 H' L a' c ps qs' i :=
  { h with sm := h.sm.trans s, pc := h.pc.mono s, ks := ⟨ha, fun q hq => s _ _ (h.ks.2 q (mem q hq))⟩, fa := same_no h.sm fa, aL := h.pc.fresh fa, n3 := len, inn := fun q hq => h.inn q (mem q hq), nk := nk }
theorem DrS.addKey {H0 H : Hp} {L a t : Addr} {c : Int} {ps : List PcM} {p : PcM} {qs : List (Addr × PairD)} {i : Nat} (h : DrS H0 H L a c (ps ++ [p]) qs i) (ht : H t = some (.tup [.str p.name, .int ((p.sts.length : Int) - 1)])) (hne : p.sts ≠ []) (hq : qs.length + 1 ≤ i) (new : ∀ q ∈ qs, q.2 ≠ (p.name, (p.sts.length : Int) - 1)) :
    DrS H0 (upd H a (.lst (qs.map (fun q => V.ref q.1) ++ [V.ref t]))) L a c (ps ++ [p]) (qs ++ [(t, (p.name, (p.sts.length : Int) - 1))]) i := by
  have b : But H (upd H a (.lst (qs.map (fun q => V.ref q.1) ++ [V.ref t]))) a := But.upd h.ks.1
  have aL := h.aL
  have l0 := List.length_pos_iff.mpr hne
  refine { h with sm := same_upd h.fa h.sm, pc := ⟨b.2 _ _ h.pc.top (fun e => aL (e ▸ List.mem_cons_self)), fun q hq => (h.pc.at_ q hq).but b fun z => aL (List.mem_cons_of_mem _ (List.mem_flatMap.mpr ⟨q, hq, z⟩)), h.pc.nd⟩, ks := ⟨by rw [upd_same, List.map_append]; rfl, fun q hq => ?_⟩, n3 := by rw [List.length_append, List.length_singleton]; exact hq, inn := fun q hq => ?_, nk := ?_ }
  · rcases List.mem_append.mp hq with z | z
    · exact b.tup (h.ks.2 q z)
    · rw [List.mem_singleton.mp z]; exact b.tup ht
  · rcases List.mem_append.mp hq with z | z
    · exact h.inn q z
    · rw [List.mem_singleton.mp z]
      exact ⟨ps.length, p, by rw [List.getElem?_append_right (Nat.le_refl _), Nat.sub_self]; rfl, rfl, by show (0 : Int) ≤ (p.sts.length : Int) - 1; omega, by show (p.sts.length : Int) - 1 < _; omega⟩
  · rw [List.map_append]
    refine List.nodup_append.mpr ⟨h.nk, by simp, fun x hx y hy e => ?_⟩
    obtain ⟨q, hq, rfl⟩ := List.mem_map.mp hx
    rw [List.mem_singleton.mp hy] at e
    exact new q hq e
theorem DrS.addSt {H0 H : Hp} {L a t lw lf : Addr} {c step : Int} {kind : Str} {ws : List Int} {ps : List PcM} {p : PcM} {qs : List (Addr × PairD)} {i : Nat} (h : DrS H0 H L a c (ps ++ [p]) qs i) (h1 : H t = some (.tup [.str kind, .int step, .ref lw, .ref lf])) (h2 : H lw = some (.lst (ws.map V.int))) (h3 : H lf = some (.lst []))
    (n1 : lw ≠ lf) (f1 : H0 lw = none) (f2 : H0 lf = none) (n2 : lw ∉ a :: L :: listsOf (ps ++ [p])) (n3 : lf ∉ a :: L :: listsOf (ps ++ [p])) (ok : StOk ⟨t, lw, lf, kind, step, ws, []⟩) :
    DrS H0 (upd H p.ls (.lst (p.sts.map StM.v ++ [.ref t]))) L a c (ps ++ [{ p with sts := p.sts ++ [⟨t, lw, lf, kind, step, ws, []⟩] }]) qs (i + 1) := by
  have hp := h.pc.at_ p (by simp)
  have b : But H (upd H p.ls (.lst (p.sts.map StM.v ++ [.ref t]))) p.ls := But.upd hp.sl
  have mls : p.ls ∈ L :: listsOf (ps ++ [p]) := List.mem_cons_of_mem _ (by rw [listsOf_snoc]; exact List.mem_append_right _ (by simp [PcM.lists]))
  have npa : a ≠ p.ls := fun e => h.aL (e ▸ mls)
  have el : L :: listsOf (ps ++ [{ p with sts := p.sts ++ [⟨t, lw, lf, kind, step, ws, []⟩] }]) = (L :: listsOf (ps ++ [p])) ++ [lw, lf] := by
    rw [listsOf_snoc, listsOf_snoc]
    simp [PcM.lists, StM.lists, List.flatMap_append]
  have n4 : lw ≠ a ∧ lf ≠ a := ⟨fun e => n2 (e ▸ List.mem_cons_self), fun e => n3 (e ▸ List.mem_cons_self)⟩
  refine ⟨same_upd (h.fr _ mls) h.sm, newStW h.pc h1 h2 h3 n1 (fun z => n2 (List.mem_cons_of_mem _ z)) (fun z => n3 (List.mem_cons_of_mem _ z)), ⟨b.2 _ _ h.ks.1 npa, fun q hq => b.tup (h.ks.2 q hq)⟩, fun x hx => ?_, h.fa, fun z => ?_, ?_, ?_, fun q hq => ?_, Nat.le_succ_of_le h.n3, fun q hq s hs => ?_, fun q hq => ?_, h.nk⟩
  · rw [el] at hx
    rcases List.mem_append.mp hx with z | z
    · exact h.fr x z
    · simp only [List.mem_cons, List.not_mem_nil, or_false] at z
      rcases z with rfl | rfl
      · exact f1
      · exact f2
  · rw [el] at z
    rcases List.mem_append.mp z with z | z
    · exact h.aL z
    · simp only [List.mem_cons, List.not_mem_nil, or_false] at z
      rcases z with z | z
      · exact n4.1 z.symm
      · exact n4.2 z.symm
  · have := h.nm
    rw [List.map_append, List.length_append] at this ⊢
    exact this
  · have := h.n1
    rw [List.length_append] at this ⊢
    exact this
  · rcases List.mem_append.mp hq with z | z
    · exact Nat.le_succ_of_le (h.n2 q (List.mem_append_left _ z))
    · rw [List.mem_singleton.mp z]
      have := h.n2 p (by simp)
      show (p.sts ++ [_]).length ≤ i + 1
      rw [List.length_append, List.length_singleton]; omega
  · rcases List.mem_append.mp hq with z | z
    · exact h.st q (List.mem_append_left _ z) s hs
    · rw [List.mem_singleton.mp z] at hs
      rcases List.mem_append.mp hs with y | y
      · exact h.st p (by simp) s y
      · rw [List.mem_singleton.mp y]; exact ok
  · obtain ⟨j, r, e1, e2, e3, e4⟩ := h.inn q hq
    rcases Nat.lt_or_ge j ps.length with z | z
    · rw [List.getElem?_append_left z] at e1
      exact ⟨j, r, by rw [List.getElem?_append_left z]; exact e1, e2, e3, e4⟩
    · rw [List.getElem?_append_right z] at e1
      have hj : j - ps.length = 0 := by
        have := (List.getElem?_eq_some_iff.mp e1).1
        simpa using this
      rw [hj] at e1
      cases e1
      refine ⟨ps.length, { p with sts := p.sts ++ [⟨t, lw, lf, kind, step, ws, []⟩] }, by rw [List.getElem?_append_right (Nat.le_refl _), Nat.sub_self]; rfl, e2, e3, ?_⟩
      show q.2.2 < ((p.sts ++ [_]).length : Int)
      rw [List.length_append, List.length_singleton]; omega
theorem DrS.addPc {H0 H : Hp} {L a t ls ln : Addr} {c : Int} {ps : List PcM} {qs : List (Addr × PairD)} {i : Nat} (h : DrS H0 H L a c ps qs i) (h1 : H t = some (.tup [.str (nameF c ((ps.length : Int) * 37 % 101)), .ref ls, .ref ln])) (h2 : H ls = some (.lst [])) (h3 : H ln = some (.lst []))
    (n1 : ls ≠ ln) (f1 : H0 ls = none) (f2 : H0 ln = none) (n2 : ls ∉ a :: L :: listsOf ps) (n3 : ln ∉ a :: L :: listsOf ps) (hl : ps.length < 100) :
    DrS H0 (upd H L (.lst (ps.map PcM.v ++ [.ref t]))) L a c (ps ++ [⟨t, ls, ln, nameF c ((ps.length : Int) * 37 % 101), [], []⟩]) qs i := by
  have b : But H (upd H L (.lst (ps.map PcM.v ++ [.ref t]))) L := But.upd h.pc.top
  have nLa : a ≠ L := fun e => h.aL (e ▸ List.mem_cons_self)
  have el : L :: listsOf (ps ++ [⟨t, ls, ln, nameF c ((ps.length : Int) * 37 % 101), [], []⟩]) = (L :: listsOf ps) ++ [ls, ln] := by
    rw [listsOf_snoc]; simp [PcM.lists]
  refine ⟨same_upd (h.fr L List.mem_cons_self) h.sm, h.pc.newPiece h1 h2 h3 n1 (fun z => n2 (List.mem_cons_of_mem _ z)) (fun z => n3 (List.mem_cons_of_mem _ z)), ⟨b.2 _ _ h.ks.1 nLa, fun q hq => b.tup (h.ks.2 q hq)⟩, fun x hx => ?_, h.fa, fun z => ?_, ?_, ⟨by rw [List.length_append]; simp, by rw [List.length_append, List.length_singleton]; omega⟩, fun q hq => ?_, h.n3, fun q hq s hs => ?_, fun q hq => ?_, h.nk⟩
  · rw [el] at hx
    rcases List.mem_append.mp hx with z | z
    · exact h.fr x z
    · simp only [List.mem_cons, List.not_mem_nil, or_false] at z
      rcases z with rfl | rfl
      · exact f1
      · exact f2
  · rw [el] at z
    rcases List.mem_append.mp z with z | z
    · exact h.aL z
    · simp only [List.mem_cons, List.not_mem_nil, or_false] at z
      rcases z with z | z
      · exact n2 (z ▸ List.mem_cons_self)
      · exact n3 (z ▸ List.mem_cons_self)
  · have l1 := h.n1.1
    obtain ⟨m, hm⟩ : ∃ m, ps.length = m + 1 := ⟨ps.length - 1, by omega⟩
    rw [List.map_append, h.nm, List.length_append, List.length_singleton, hm, Nat.add_sub_cancel, Nat.add_sub_cancel, List.range_succ, List.map_append]
    rfl
  · rcases List.mem_append.mp hq with z | z
    · exact h.n2 q z
    · rw [List.mem_singleton.mp z]; exact Nat.zero_le _
  · rcases List.mem_append.mp hq with z | z
    · exact h.st q z s hs
    · rw [List.mem_singleton.mp z] at hs; cases hs
  · obtain ⟨j, r, e1, e2⟩ := h.inn q hq
    exact ⟨j, r, by rw [List.getElem?_append_left (List.getElem?_eq_some_iff.mp e1).1]; exact e1, e2⟩
theorem DrS.names {H0 H : Hp} {L a : Addr} {c : Int} {ps : List PcM} {qs : List (Addr × PairD)} {i : Nat} (h : DrS H0 H L a c ps qs i) : (ps.map PcM.name).Nodup := by
  have n1 := h.n1
  have ek : ∀ j : Nat, nameF c (((j : Int) + 1) * 37 % 101) = nameF c (((((j + 1) * 37) % 101 : Nat) : Int)) := fun j => by
    refine congrArg (nameF c) ?_
    omega
  rw [h.nm]
  refine List.nodup_cons.mpr ⟨fun z => ?_, ?_⟩
  · obtain ⟨j, hj, e⟩ := List.mem_map.mp z
    rw [ek] at e
    exact name_none (Nat.mod_lt _ (by decide)) e
  · refine List.pairwise_map.mpr (List.Pairwise.imp_of_mem (fun {x y} hx hy ne e => ?_) List.nodup_range)
    rw [ek, ek] at e
    have := name_inj (Nat.mod_lt _ (by decide)) (Nat.mod_lt _ (by decide)) e
    rw [List.mem_range] at hx hy
    omega
theorem G__law_cell_at (T : Txt K mg A) : FnOk P w K mg base CX0 1 A._law_cell_at A.fd__law_cell_at ["_law_script", "_law_k"] (sp_cellat K) := by
  refine T.F__law_cell_at.ok sc__law_cell_at (fun vs H Q E h => ?_) (fun cdv Ar outer s H vs Q E hr h => ?_)
  · obtain ⟨a, ns, c, rfl, _⟩ := h
    rfl
  · obtain ⟨a, ns, c, rfl, hS, h0, k⟩ := h
    refine ⟨_, (@pss_cons _ _ _ _ _ (@ps_if _ _ _ _ _ _ _ _ (@pt_cmpR _ _ _ _ _ _ _ _ op_lt (@pv _ 1 _ _ (by rfl) (by first  |  exact  Or.inl  rfl  |  exact  Or.inr  (    Or.inl  rfl  )  |  exact  Or.inr  (    Or.inr  rfl  )) (by decide) (by decide)) (@pe_callB _ _ _ _ _ _ _ _ _ (call_lenK (K := K) rfl) (by rfl) T.n_len bt_len (@pa_cons _ _ _ _ _ (@pv _ 0 _ _ (by rfl) (by first  |  exact  Or.inl  rfl  |  exact  Or.inr  (    Or.inl  rfl  )  |  exact  Or.inr  (    Or.inr  rfl  )) (by decide) (by decide)) (@pa_nil _) (by rfl)) (by decide) (by decide) (by rfl) (by rfl)) (nomark _)) (@pss_one _ _ _ (@ps_ret _ _ _ _ (@pe_ix _ _ _ _ _ _ _ (ix_listK (K := K) rfl) (@pv _ 0 _ _ (by rfl) (by first  |  exact  Or.inl  rfl  |  exact  Or.inr  (    Or.inl  rfl  )  |  exact  Or.inr  (    Or.inr  rfl  )) (by decide) (by decide)) (@pv _ 1 _ _ (by rfl) (by first  |  exact  Or.inl  rfl  |  exact  Or.inr  (    Or.inl  rfl  )  |  exact  Or.inr  (    Or.inr  rfl  )) (by decide) (by decide)) (fun _ _ => rfl)))) (@pss_nil _)) (@pss_one _ _ _ (@ps_ret _ _ _ _ (@pe_int _ _ _ _)))), ?_⟩
    walk_at "rd"
    obtain ⟨i, rfl⟩ := Int.eq_ofNat_of_zero_le h0
    refine ⟨ns.length, .inl ⟨_, hS, by rw [List.length_map]⟩, ite2 (fun q => ?_) fun q => ?_⟩
    · have q := of_decide_eq_true q
      have hx : ns[i]? = some ns[i] := List.getElem?_eq_getElem (by omega)
      refine ⟨_, hS, _, atI_nat (by rw [List.getElem?_map, hx]; rfl), ?_⟩
      rw [show ((i : Int)).toNat = i from rfl, List.getD_eq_getElem?_getD, hx] at k; exact k
    · have q : ns.length ≤ i := by have := of_decide_eq_false (by simpa using q : decide ((i : Int) < (ns.length : Int)) = false); omega
      rw [show ((i : Int)).toNat = i from rfl, List.getD_eq_getElem?_getD, List.getElem?_eq_none q] at k; exact k
theorem G__law_drawn (T : Txt K mg A) : FnOk P w K mg base CX0 2 A._law_drawn A.fd__law_drawn ["_law_script", "_law_most"] (sp_drawnL K) := by
  refine T.F__law_drawn.ok sc__law_drawn (fun vs H Q E h => ?_) (fun cdv Ar outer s H vs Q E hr h => ?_)
  · obtain ⟨a, ns, n, rfl, _⟩ := h
    rfl
  · obtain ⟨sc, ns, n, rfl, hS, hl, n0, n1, k⟩ := h
    refine ⟨_, (@pss_cons _ _ _ _ _ (@ps_set _ _ 2 _ _ _ _ sc__law_drawn.nd rfl (by first | exact Or.inl rfl | exact Or.inr rfl) (@pe_lst _ _ _ _ (@pa_cons _ _ _ _ _ (@pe_tup _ _ _ _ _ (@pa_cons _ _ _ _ _ (@pe_str _ _ _ _) (@pa_cons _ _ _ _ _ (@pe_lst _ _ _ _ (@pa_nil _)) (@pa_cons _ _ _ _ _ (@pe_lst _ _ _ _ (@pa_nil _)) (@pa_nil _) (by rfl)) (by rfl)) (by rfl))) (@pa_nil _) (by rfl))) (by rfl) (by first  |  exact  .inl  rfl  |  exact  .inr  rfl  |  assumption)) (@pss_cons _ _ _ _ _ (@ps_set _ _ 3 _ _ _ _ sc__law_drawn.nd rfl (by first | exact Or.inl rfl | exact Or.inr rfl) (@pe_lst _ _ _ _ (@pa_nil _)) (by rfl) (by first  |  exact  .inl  rfl  |  exact  .inr  rfl  |  assumption)) (@pss_cons _ _ _ _ _ (@ps_for _ _ _ _ _ _ _ _ PassesOwn.never rfl (@pi_listK _ K _ _ _ rfl (@pe_slice _ _ _ _ _ _ _ _ _ _ (sl_listK (K := K) rfl) (@pv _ 0 _ _ (by rfl) (by first  |  exact  Or.inl  rfl  |  exact  Or.inr  (    Or.inl  rfl  )  |  exact  Or.inr  (    Or.inr  rfl  )) (by decide) (by decide)) (@po_some _ _ _ (@pe_int _ _ _ _)) (@po_some _ _ _ (@pe_op _ _ _ _ _ _ _ _ op_add (@pe_int _ _ _ _) (@pv _ 1 _ _ (by rfl) (by first  |  exact  Or.inl  rfl  |  exact  Or.inr  (    Or.inl  rfl  )  |  exact  Or.inr  (    Or.inr  rfl  )) (by decide) (by decide)))))) (@pg_name _ _ 4 _ sc__law_drawn.nd rfl (by first | exact Or.inl rfl | exact Or.inr rfl) (by first  |  exact  .inl  rfl  |  exact  .inr  rfl  |  assumption)) (@pss_cons _ _ _ _ _ (@ps_set _ _ 5 _ _ _ _ sc__law_drawn.nd rfl (by first | exact Or.inl rfl | exact Or.inr rfl) (@pe_op _ _ _ _ _ _ _ _ op_mod (@pe_op _ _ _ _ _ _ _ _ op_mul (@pv _ 4 _ _ (by rfl) (by first  |  exact  Or.inl  rfl  |  exact  Or.inr  (    Or.inl  rfl  )  |  exact  Or.inr  (    Or.inr  rfl  )) (by decide) (by decide)) (@pe_int _ _ _ _)) (@pe_int _ _ _ _)) (by rfl) (by first  |  exact  .inl  rfl  |  exact  .inr  rfl  |  assumption)) (@pss_cons _ _ _ _ _ (@ps_if _ _ _ _ _ _ _ _ (@PW.pt _ _ _ (@pw_or _ _ _ _ _ _ _ (@pt_cmpR _ _ _ _ _ _ _ _ op_eq (@pe_callB _ _ _ _ _ _ _ _ _ (call_lenK (K := K) rfl) (by rfl) T.n_len bt_len (@pa_cons _ _ _ _ _ (@pv _ 2 _ _ (by rfl) (by first  |  exact  Or.inl  rfl  |  exact  Or.inr  (    Or.inl  rfl  )  |  exact  Or.inr  (    Or.inr  rfl  )) (by decide) (by decide)) (@pa_nil _) (by rfl)) (by decide) (by decide) (by rfl) (by rfl)) (@pe_int _ _ _ _) (nomark _)) (@pw_or1 _ _ _ _ (@PW.pt _ _ _ (@pw_and _ _ _ _ _ _ _ (@pt_cmpR _ _ _ _ _ _ _ _ op_eq (@pe_op _ _ _ _ _ _ _ _ op_mod (@pv _ 4 _ _ (by rfl) (by first  |  exact  Or.inl  rfl  |  exact  Or.inr  (    Or.inl  rfl  )  |  exact  Or.inr  (    Or.inr  rfl  )) (by decide) (by decide)) (@pe_int _ _ _ _)) (@pe_int _ _ _ _) (nomark _)) (@pw_and1 _ _ _ _ (@pt_cmpR _ _ _ _ _ _ _ _ op_lt (@pe_callB _ _ _ _ _ _ _ _ _ (call_lenK (K := K) rfl) (by rfl) T.n_len bt_len (@pa_cons _ _ _ _ _ (@pv _ 2 _ _ (by rfl) (by first  |  exact  Or.inl  rfl  |  exact  Or.inr  (    Or.inl  rfl  )  |  exact  Or.inr  (    Or.inr  rfl  )) (by decide) (by decide)) (@pa_nil _) (by rfl)) (by decide) (by decide) (by rfl) (by rfl)) (@pe_int _ _ _ _) (nomark _)))))))) (@pss_one _ _ _ (@ps_expr _ _ _ _ (@pe_bm _ _ _ _ _ _ _ _ _ _ _ _ PySem.F.plainAttrs_list PySem.F.slot_list_append PySem.F.type_list_append mt_append (@pv _ 2 _ _ (by rfl) (by first  |  exact  Or.inl  rfl  |  exact  Or.inr  (    Or.inl  rfl  )  |  exact  Or.inr  (    Or.inr  rfl  )) (by decide) (by decide)) (@pa_cons _ _ _ _ _ (@pe_tup _ _ _ _ _ (@pa_cons _ _ _ _ _ (@pe_call _ _ _ _ _ _ _ _ _ _ _ _ _ _ _ _ (G__law_name_by T) (hr.mono (by decide)) rfl T.m__law_name_by T.k__law_name_by T.b__law_name_by .nil (@pass0 _) (@pa_cons _ _ _ _ _ (@pe_call _ _ _ _ _ _ _ _ _ _ _ _ _ _ _ _ (G__law_cell_at T) (hr.mono (by decide)) rfl T.m__law_cell_at T.k__law_cell_at T.b__law_cell_at .nil (@pass0 _) (@pa_cons _ _ _ _ _ (@pv _ 0 _ _ (by rfl) (by first  |  exact  Or.inl  rfl  |  exact  Or.inr  (    Or.inl  rfl  )  |  exact  Or.inr  (    Or.inr  rfl  )) (by decide) (by decide)) (@pa_cons _ _ _ _ _ (@pe_int _ _ _ _) (@pa_nil _) (by rfl)) (by rfl)) (by decide) (by rfl) (by rfl)) (@pa_cons _ _ _ _ _ (@pe_op _ _ _ _ _ _ _ _ op_mod (@pe_op _ _ _ _ _ _ _ _ op_mul (@pe_callB _ _ _ _ _ _ _ _ _ (call_lenK (K := K) rfl) (by rfl) T.n_len bt_len (@pa_cons _ _ _ _ _ (@pv _ 2 _ _ (by rfl) (by first  |  exact  Or.inl  rfl  |  exact  Or.inr  (    Or.inl  rfl  )  |  exact  Or.inr  (    Or.inr  rfl  )) (by decide) (by decide)) (@pa_nil _) (by rfl)) (by decide) (by decide) (by rfl) (by rfl)) (@pe_int _ _ _ _)) (@pe_int _ _ _ _)) (@pa_nil _) (by rfl)) (by rfl)) (by decide) (by rfl) (by rfl)) (@pa_cons _ _ _ _ _ (@pe_lst _ _ _ _ (@pa_nil _)) (@pa_cons _ _ _ _ _ (@pe_lst _ _ _ _ (@pa_nil _)) (@pa_nil _) (by rfl)) (by rfl)) (by rfl))) (@pa_nil _) (by rfl)) (by rfl) (by rfl) (by rfl) (by rfl) (by rfl)) (by rfl))) (@pss_nil _)) (@pss_weak _ _ _ rB1 (@pss_cons _ _ _ _ _ (@ps_set _ _ 6 _ _ _ _ sc__law_drawn.nd rfl (by first | exact Or.inl rfl | exact Or.inr rfl) (@pe_ix _ _ _ _ _ _ _ (ix_tupK (K := K) rfl) (@pe_ix _ _ _ _ _ _ _ (ix_listK (K := K) rfl) (@pv _ 2 _ _ (by rfl) (by first  |  exact  Or.inl  rfl  |  exact  Or.inr  (    Or.inl  rfl  )  |  exact  Or.inr  (    Or.inr  rfl  )) (by decide) (by decide)) (@pe_un _ _ _ _ _ _ un_neg (@pe_int _ _ _ _)) (fun _ _ => rfl)) (@pe_int _ _ _ _) (fun _ _ => rfl)) (by rfl) (by first  |  exact  .inl  rfl  |  exact  .inr  rfl  |  assumption)) (@pss_cons _ _ _ _ _ (@ps_set _ _ 7 _ _ _ _ sc__law_drawn.nd rfl (by first | exact Or.inl rfl | exact Or.inr rfl) (@pe_ix _ _ _ _ _ _ _ (ix_listK (K := K) rfl) (@pe_lst _ _ _ _ (@pa_cons _ _ _ _ _ (@pe_str _ _ _ _) (@pa_cons _ _ _ _ _ (@pe_str _ _ _ _) (@pa_nil _) (by rfl)) (by rfl))) (@pe_op _ _ _ _ _ _ _ _ op_mod (@pe_op _ _ _ _ _ _ _ _ op_fdiv (@pv _ 5 _ _ (by rfl) (by first  |  exact  Or.inl  rfl  |  exact  Or.inr  (    Or.inl  rfl  )  |  exact  Or.inr  (    Or.inr  rfl  )) (by decide) (by decide)) (@pe_int _ _ _ _)) (@pe_int _ _ _ _)) (fun _ _ => rfl)) (by rfl) (by first  |  exact  .inl  rfl  |  exact  .inr  rfl  |  assumption)) (@pss_cons _ _ _ _ _ (@ps_expr _ _ _ _ (@pe_bm _ _ _ _ _ _ _ _ _ _ _ _ PySem.F.plainAttrs_list PySem.F.slot_list_append PySem.F.type_list_append mt_append (@pv _ 6 _ _ (by rfl) (by first  |  exact  Or.inl  rfl  |  exact  Or.inr  (    Or.inl  rfl  )  |  exact  Or.inr  (    Or.inr  rfl  )) (by decide) (by decide)) (@pa_cons _ _ _ _ _ (@pe_tup _ _ _ _ _ (@pa_cons _ _ _ _ _ (@pv _ 7 _ _ (by rfl) (by first  |  exact  Or.inl  rfl  |  exact  Or.inr  (    Or.inl  rfl  )  |  exact  Or.inr  (    Or.inr  rfl  )) (by decide) (by decide)) (@pa_cons _ _ _ _ _ (@pe_op _ _ _ _ _ _ _ _ op_shl (@pe_int _ _ _ _) (@pe_op _ _ _ _ _ _ _ _ op_mod (@pe_op _ _ _ _ _ _ _ _ op_fdiv (@pv _ 5 _ _ (by rfl) (by first  |  exact  Or.inl  rfl  |  exact  Or.inr  (    Or.inl  rfl  )  |  exact  Or.inr  (    Or.inr  rfl  )) (by decide) (by decide)) (@pe_int _ _ _ _)) (@pe_int _ _ _ _))) (@pa_cons _ _ _ _ _ (@pe_op _ _ _ _ _ _ _ _ op_rep (@pe_lst _ _ _ _ (@pa_cons _ _ _ _ _ (@pe_op _ _ _ _ _ _ _ _ op_fdiv (@pv _ 5 _ _ (by rfl) (by first  |  exact  Or.inl  rfl  |  exact  Or.inr  (    Or.inl  rfl  )  |  exact  Or.inr  (    Or.inr  rfl  )) (by decide) (by decide)) (@pe_int _ _ _ _)) (@pa_nil _) (by rfl))) (@pe_call _ _ _ _ _ _ _ _ _ _ _ _ _ _ _ _ (G__law_many_by T) (hr.mono (by decide)) rfl T.m__law_many_by T.k__law_many_by T.b__law_many_by .nil (@pass0 _) (@pa_cons _ _ _ _ _ (@pv _ 5 _ _ (by rfl) (by first  |  exact  Or.inl  rfl  |  exact  Or.inr  (    Or.inl  rfl  )  |  exact  Or.inr  (    Or.inr  rfl  )) (by decide) (by decide)) (@pa_nil _) (by rfl)) (by decide) (by rfl) (by rfl))) (@pa_cons _ _ _ _ _ (@pe_lst _ _ _ _ (@pa_nil _)) (@pa_nil _) (by rfl)) (by rfl)) (by rfl)) (by rfl))) (@pa_nil _) (by rfl)) (by rfl) (by rfl) (by rfl) (by rfl) (by rfl)) (by rfl)) (@pss_weak _ _ _ rB2 (@pss_one _ _ _ (@ps_if _ _ _ _ _ _ _ _ (@pt_cmpR _ _ _ _ _ _ _ _ op_gt (@pe_op _ _ _ _ _ _ _ _ op_mod (@pe_op _ _ _ _ _ _ _ _ op_fdiv (@pv _ 4 _ _ (by rfl) (by first  |  exact  Or.inl  rfl  |  exact  Or.inr  (    Or.inl  rfl  )  |  exact  Or.inr  (    Or.inr  rfl  )) (by decide) (by decide)) (@pe_int _ _ _ _)) (@pe_int _ _ _ _)) (@pe_int _ _ _ _) (nomark _)) (@pss_one _ _ _ (@ps_expr _ _ _ _ (@pe_bm _ _ _ _ _ _ _ _ _ _ _ _ PySem.F.plainAttrs_list PySem.F.slot_list_append PySem.F.type_list_append mt_append (@pv _ 3 _ _ (by rfl) (by first  |  exact  Or.inl  rfl  |  exact  Or.inr  (    Or.inl  rfl  )  |  exact  Or.inr  (    Or.inr  rfl  )) (by decide) (by decide)) (@pa_cons _ _ _ _ _ (@pe_tup _ _ _ _ _ (@pa_cons _ _ _ _ _ (@pe_ix _ _ _ _ _ _ _ (ix_tupK (K := K) rfl) (@pe_ix _ _ _ _ _ _ _ (ix_listK (K := K) rfl) (@pv _ 2 _ _ (by rfl) (by first  |  exact  Or.inl  rfl  |  exact  Or.inr  (    Or.inl  rfl  )  |  exact  Or.inr  (    Or.inr  rfl  )) (by decide) (by decide)) (@pe_un _ _ _ _ _ _ un_neg (@pe_int _ _ _ _)) (fun _ _ => rfl)) (@pe_int _ _ _ _) (fun _ _ => rfl)) (@pa_cons _ _ _ _ _ (@pe_op _ _ _ _ _ _ _ _ op_sub (@pe_callB _ _ _ _ _ _ _ _ _ (call_lenK (K := K) rfl) (by rfl) T.n_len bt_len (@pa_cons _ _ _ _ _ (@pv _ 6 _ _ (by rfl) (by first  |  exact  Or.inl  rfl  |  exact  Or.inr  (    Or.inl  rfl  )  |  exact  Or.inr  (    Or.inr  rfl  )) (by decide) (by decide)) (@pa_nil _) (by rfl)) (by decide) (by decide) (by rfl) (by rfl)) (@pe_int _ _ _ _)) (@pa_nil _) (by rfl)) (by rfl))) (@pa_nil _) (by rfl)) (by rfl) (by rfl) (by rfl) (by rfl) (by rfl)) (by rfl))) (@pss_nil _))) ?rb2)))) ?rb1))) (by intro  _  ;  rfl)) (@pss_weak _ _ _ (rE K) (@pss_cons _ _ _ _ _ (@ps_set _ _ 8 _ _ _ _ sc__law_drawn.nd rfl (by first | exact Or.inl rfl | exact Or.inr rfl) (@pe_op _ _ _ _ _ _ _ _ op_mod (@pe_op _ _ _ _ _ _ _ _ op_fdiv (@pe_call _ _ _ _ _ _ _ _ _ _ _ _ _ _ _ _ (G__law_cell_at T) (hr.mono (by decide)) rfl T.m__law_cell_at T.k__law_cell_at T.b__law_cell_at .nil (@pass0 _) (@pa_cons _ _ _ _ _ (@pv _ 0 _ _ (by rfl) (by first  |  exact  Or.inl  rfl  |  exact  Or.inr  (    Or.inl  rfl  )  |  exact  Or.inr  (    Or.inr  rfl  )) (by decide) (by decide)) (@pa_cons _ _ _ _ _ (@pe_int _ _ _ _) (@pa_nil _) (by rfl)) (by rfl)) (by decide) (by rfl) (by rfl)) (@pe_int _ _ _ _)) (@pe_op _ _ _ _ _ _ _ _ op_add (@pe_callB _ _ _ _ _ _ _ _ _ (call_lenK (K := K) rfl) (by rfl) T.n_len bt_len (@pa_cons _ _ _ _ _ (@pv _ 3 _ _ (by rfl) (by first  |  exact  Or.inl  rfl  |  exact  Or.inr  (    Or.inl  rfl  )  |  exact  Or.inr  (    Or.inr  rfl  )) (by decide) (by decide)) (@pa_nil _) (by rfl)) (by decide) (by decide) (by rfl) (by rfl)) (@pe_int _ _ _ _))) (by rfl) (by first  |  exact  .inl  rfl  |  exact  .inr  rfl  |  assumption)) (@pss_cons _ _ _ _ _ (@ps_set _ _ 3 _ _ _ _ sc__law_drawn.nd rfl (by first | exact Or.inl rfl | exact Or.inr rfl) (@pe_op _ _ _ _ _ _ _ _ (op_catSK (K := K) rfl) (@pe_slice _ _ _ _ _ _ _ _ _ _ (sl_listK (K := K) rfl) (@pv _ 3 _ _ (by rfl) (by first  |  exact  Or.inl  rfl  |  exact  Or.inr  (    Or.inl  rfl  )  |  exact  Or.inr  (    Or.inr  rfl  )) (by decide) (by decide)) (@po_some _ _ _ (@pv _ 8 _ _ (by rfl) (by first  |  exact  Or.inl  rfl  |  exact  Or.inr  (    Or.inl  rfl  )  |  exact  Or.inr  (    Or.inr  rfl  )) (by decide) (by decide))) (@po_none _)) (@pe_slice _ _ _ _ _ _ _ _ _ _ (sl_listK (K := K) rfl) (@pv _ 3 _ _ (by rfl) (by first  |  exact  Or.inl  rfl  |  exact  Or.inr  (    Or.inl  rfl  )  |  exact  Or.inr  (    Or.inr  rfl  )) (by decide) (by decide)) (@po_none _) (@po_some _ _ _ (@pv _ 8 _ _ (by rfl) (by first  |  exact  Or.inl  rfl  |  exact  Or.inr  (    Or.inl  rfl  )  |  exact  Or.inr  (    Or.inr  rfl  )) (by decide) (by decide))))) (by rfl) (by first  |  exact  .inl  rfl  |  exact  .inr  rfl  |  assumption)) (@pss_weak _ _ _ (rF K) (@pss_cons _ _ _ _ _ (@ps_if _ _ _ _ _ _ _ _ (@pt_cmpR _ _ _ _ _ _ _ _ op_eq (@pe_op _ _ _ _ _ _ _ _ op_mod (@pe_call _ _ _ _ _ _ _ _ _ _ _ _ _ _ _ _ (G__law_cell_at T) (hr.mono (by decide)) rfl T.m__law_cell_at T.k__law_cell_at T.b__law_cell_at .nil (@pass0 _) (@pa_cons _ _ _ _ _ (@pv _ 0 _ _ (by rfl) (by first  |  exact  Or.inl  rfl  |  exact  Or.inr  (    Or.inl  rfl  )  |  exact  Or.inr  (    Or.inr  rfl  )) (by decide) (by decide)) (@pa_cons _ _ _ _ _ (@pe_int _ _ _ _) (@pa_nil _) (by rfl)) (by rfl)) (by decide) (by rfl) (by rfl)) (@pe_int _ _ _ _)) (@pe_int _ _ _ _) (nomark _)) (@pss_one _ _ _ (@ps_set _ _ 3 _ _ _ _ sc__law_drawn.nd rfl (by first | exact Or.inl rfl | exact Or.inr rfl) (@pe_lrev _ _ _ _ _ _ _ K rfl rfl (@pv _ 3 _ _ (by rfl) (by first  |  exact  Or.inl  rfl  |  exact  Or.inr  (    Or.inl  rfl  )  |  exact  Or.inr  (    Or.inr  rfl  )) (by decide) (by decide)) (by rfl) T.n_list (by rfl) T.n_reversed (by rfl) (by rfl)) (by rfl) (by first  |  exact  .inl  rfl  |  exact  .inr  rfl  |  assumption))) (@pss_nil _)) (@pss_one _ _ _ (@ps_ret _ _ _ _ (@pe_tup _ _ _ _ _ (@pa_cons _ _ _ _ _ (@pv _ 2 _ _ (by rfl) (by first  |  exact  Or.inl  rfl  |  exact  Or.inr  (    Or.inl  rfl  )  |  exact  Or.inr  (    Or.inr  rfl  )) (by decide) (by decide)) (@pa_cons _ _ _ _ _ (@pv _ 3 _ _ (by rfl) (by first  |  exact  Or.inl  rfl  |  exact  Or.inr  (    Or.inl  rfl  )  |  exact  Or.inr  (    Or.inr  rfl  )) (by decide) (by decide)) (@pa_nil _) (by rfl)) (by rfl)))))) ?rf))) ?re)))), ?main⟩
    case main =>
      walk_at "rd"
      refine ⟨Nat.zero_le _, fun ls h1 => ⟨Nat.zero_le _, fun ln h2 => ⟨by rw [sizeLine_eq]; decide, fun t h3 => ⟨by rw [sizeLine_eq]; decide, fun L h4 => ⟨Nat.zero_le _, fun a h5 => ?_⟩⟩⟩⟩⟩
      have nl : ls ≠ ln := fun e => by rw [← e, upd_same] at h2; cases h2
      have s1 := same_new (o := HO.lst []) h1
      have s2 := same_new (o := HO.lst []) h2
      have s3 := same_new (o := HO.tup [V.str (Str.ofString "none"), V.ref ls, V.ref ln]) h3
      have s4 := same_new (o := HO.lst [V.ref t]) h4
      have s5 := same_new (o := HO.lst []) h5
      have hL : H L = none := same_no ((s1.trans s2).trans s3) h4
      have ha : H a = none := same_no (((s1.trans s2).trans s3).trans s4) h5
      have a1 := (s2.trans (s3.trans (s4.trans s5))) _ _ (upd_same (H := H) (a := ls) (o := HO.lst []))
      have a2 := (s3.trans (s4.trans s5)) _ _ (upd_same (H := upd H ls (HO.lst [])) (a := ln) (o := HO.lst []))
      have a3 := (s4.trans s5) _ _ (upd_same (H := upd (upd H ls (HO.lst [])) ln (HO.lst [])) (a := t) (o := HO.tup [V.str (Str.ofString "none"), V.ref ls, V.ref ln]))
      have a4 := s5 _ _ (upd_same (H := upd (upd (upd H ls (HO.lst [])) ln (HO.lst [])) t (HO.tup [V.str (Str.ofString "none"), V.ref ls, V.ref ln])) (a := L) (o := HO.lst [V.ref t]))
      have sAll := (s1.trans (s2.trans (s3.trans (s4.trans s5))))
      have n1' : ∀ {x y : Addr} {o : HO} {G : Hp}, G x = some o → G y = none → x ≠ y := fun e1 e2 z => by rw [z, e2] at e1; cases e1
      have nlL : ls ≠ L := n1' ((s2.trans s3) _ _ (upd_same (H := H) (a := ls) (o := HO.lst []))) h4
      have nnL : ln ≠ L := n1' (s3 _ _ (upd_same (H := upd H ls (HO.lst [])) (a := ln) (o := HO.lst []))) h4
      have nla : ls ≠ a := n1' ((s2.trans (s3.trans s4)) _ _ (upd_same (H := H) (a := ls) (o := HO.lst []))) h5
      have nna : ln ≠ a := n1' ((s3.trans s4) _ _ (upd_same (H := upd H ls (HO.lst [])) (a := ln) (o := HO.lst []))) h5
      have nLa : L ≠ a := n1' upd_same h5
      have a5 : upd (upd (upd (upd (upd H ls (HO.lst [])) ln (HO.lst [])) t (HO.tup [V.str (Str.ofString "none"), V.ref ls, V.ref ln])) L (HO.lst [V.ref t])) a (HO.lst []) a = some (HO.lst []) := upd_same
      generalize upd (upd (upd (upd (upd H ls (HO.lst [])) ln (HO.lst [])) t (HO.tup [V.str (Str.ofString "none"), V.ref ls, V.ref ln])) L (HO.lst [V.ref t])) a (HO.lst []) = H5 at *
      have B0 : ∀ c, DrS H H5 L a c [⟨t, ls, ln, Str.ofString "none", [], []⟩] [] 0 := fun c => by
        refine ⟨sAll, ⟨a4, fun p hp => ?_, ?_⟩, ⟨a5, fun q hq => by cases hq⟩, fun b hb => ?_, ha, fun z => ?_, rfl, ⟨by simp, by simp⟩, fun p hp => ?_, Nat.le_refl _, fun p hp s hs => ?_, (fun q hq => by cases hq), List.nodup_nil⟩
        · rw [List.mem_singleton.mp hp]
          exact ⟨a3, a1, a2, (fun s hs => by cases hs), fun n hn => by cases hn⟩
        · simp [listsOf, PcM.lists, nl, Ne.symm nlL, Ne.symm nnL]
        · simp [listsOf, PcM.lists] at hb
          rcases hb with rfl | rfl | rfl
          · exact hL
          · exact h1
          · exact same_no s1 h2
        · simp [listsOf, PcM.lists] at z
          rcases z with z | z | z
          · exact nLa z.symm
          · exact nla z.symm
          · exact nna z.symm
        · rw [List.mem_singleton.mp hp]; exact Nat.le_refl _
        · rw [List.mem_singleton.mp hp] at hs; cases hs
      refine ⟨_, sAll.seq hS, fun cl h6 => ?_⟩
      obtain ⟨ms, em, lm⟩ : ∃ ms : List Int, cutV (ns.map V.int) (some 2) (some (2 + n)) = ms.map V.int ∧ ms.length ≤ 63 := by
        refine ⟨(ns.drop (HT.sIx (ns.map V.int).length 0 (some 2))).take (HT.sIx (ns.map V.int).length (ns.map V.int).length (some (2 + n)) - HT.sIx (ns.map V.int).length 0 (some 2)), ?_, ?_⟩
        · unfold cutV
          rw [List.map_take, List.map_drop]
        · rw [List.length_take, List.length_drop]; omega
      rw [em]
      have s6 := same_new (o := HO.lst (ms.map V.int)) h6
      have cl6 : upd H5 cl (HO.lst (ms.map V.int)) cl = some (HO.lst (ms.map V.int)) := upd_same
      have B6 := (B0 (ns.getD 0 0)).mono s6
      have ncl : cl ∉ a :: L :: listsOf [⟨t, ls, ln, Str.ofString "none", [], []⟩] := fun z => by
        rcases List.mem_cons.mp z with e | e
        · rw [e, a5] at h6; cases h6
        · exact (B0 0).pc.fresh h6 e
      generalize upd H5 cl (HO.lst (ms.map V.int)) = H6 at *
      refine ForL.of (xs := ms.map V.int) (fun i σ H' => ∃ (ps : List PcM) (qs : List (Addr × PairD)) (b4 b5 b6 b7 : Option V), σ = [some (.ref sc), some (.int n), some (.ref L), some (.ref a), b4, b5, b6, b7, none] ∧ DrS H H' L a (ns.getD 0 0) ps qs i ∧ H' cl = some (.lst (ms.map V.int)) ∧ cl ∉ a :: L :: listsOf ps ∧ i ≤ 63) ⟨_, _, _, _, _, _, rfl, B6, cl6, ncl, by omega⟩ ?_ ?_ ?_
      · rintro i σ H' hi ⟨ps, qs, b4, b5, b6, b7, rfl, B, hc, _⟩
        exact SqL.of hc
      · rintro i v σ H' hv ⟨ps, qs, b4, b5, b6, b7, rfl, B, hc, nc, hi⟩
        have hi : i < ms.length := by have := (List.getElem?_eq_some_iff.mp hv).1; rwa [List.length_map] at this
        rw [List.getElem?_map] at hv
        obtain ⟨cell, _, rfl⟩ := Option.map_eq_some_iff.mp hv
        obtain ⟨pre, p, rfl⟩ : ∃ pre p, ps = pre ++ [p] := ⟨ps.dropLast, ps.getLast (fun e => by have := B.n1.1; rw [e] at this; simp at this), (List.dropLast_concat_getLast _).symm⟩
        have pl := B.n1
        have skip : ∀ {D : Ends} {b6 b7 : Option V}, (∀ σ H', (∃ (ps : List PcM) (qs : List (Addr × PairD)) (b4 b5 b6 b7 : Option V), σ = [some (V.ref sc), some (V.int n), some (V.ref L), some (V.ref a), b4, b5, b6, b7, none] ∧ DrS H H' L a (ns.getD 0 0) ps qs (i + 1) ∧ H' cl = some (HO.lst (ms.map V.int)) ∧ cl ∉ a :: L :: listsOf ps ∧ i + 1 ≤ 63) → D.nx σ H') → rB1 D [some (V.ref sc), some (V.int n), some (V.ref L), some (V.ref a), some (V.int cell), some (V.int (cell * 1583458089 % 2147483647)), b6, b7, none] H' := fun {D b6 b7} h =>
          ⟨H, sc, L, a, ns.getD 0 0, cell, pre, p, qs, i, _, _, _, _, rfl, B, by omega, fun ps' qs' b5 b6 b7 H2 B2 fr => h _ _ ⟨ps', qs', _, _, _, _, rfl, B2, (fr cl _ nc hc).1, (fr cl _ nc hc).2, by omega⟩⟩
        walk_at "rd"
        refine ⟨.inr ⟨by decide, by decide⟩, by decide, (pre ++ [p]).length, .inl ⟨_, SqL.of B.pc.top, by rw [List.length_map]⟩, ite2 (fun q => ?a1) fun _ => ⟨by decide, ite2 (fun _ => ⟨(pre ++ [p]).length, .inl ⟨_, SqL.of B.pc.top, by rw [List.length_map]⟩, ite2 (fun q => ?a2) fun _ => skip fun _ _ h => h⟩) fun _ => skip fun _ _ h => h⟩⟩
        case a1 | a2 =>
          have q := of_decide_eq_true q
          refine ⟨.inl ⟨rfl, _, SqL.of B.pc.top⟩, ns, B.sm.seq hS, by decide, (pre ++ [p]).length, .inl ⟨_, SqL.of B.pc.top, by rw [List.length_map]⟩, .inr ⟨by decide, by decide⟩, by decide, Nat.zero_le _, fun ls' g1 => ⟨Nat.zero_le _, fun ln' g2 => ⟨by rw [sizeLine_eq]; decide, fun t' g3 => ?_⟩⟩⟩
          have nl' : ls' ≠ ln' := fun e => by rw [← e, upd_same] at g2; cases g2
          have ntl : t' ≠ ln' := fun e => by rw [e, upd_same] at g3; cases g3
          have nts : t' ≠ ls' := fun e => by rw [e, upd_ne nl', upd_same] at g3; cases g3
          have r1 := same_new (o := HO.lst []) g1
          have r2 := same_new (o := HO.lst []) g2
          have r3 := same_new (o := HO.tup [V.str (nameF (ns.getD (Int.toNat 0) 0) (((pre ++ [p]).length : Int) * 37 % 101)), V.ref ls', V.ref ln']) g3
          have Bm := B.mono (r1.trans (r2.trans r3))
          have na : ∀ {x : Addr}, H' x = none → x ∉ a :: L :: listsOf (pre ++ [p]) := fun {x} hx z => by
            rcases List.mem_cons.mp z with e | e
            · rw [e, B.ks.1] at hx; cases hx
            · exact B.pc.fresh hx e
          have lnf : H' ln' = none := same_no r1 g2
          refine ⟨_, (r1.trans (r2.trans r3)) _ _ B.pc.top, by rw [sizeLine_eq, List.length_map]; omega, ?_⟩
          have B2 := Bm.addPc (t := t') (ls := ls') (ln := ln') upd_same (by rw [upd_ne (Ne.symm nts), upd_ne nl', upd_same]) (by rw [upd_ne (Ne.symm ntl), upd_same]) nl' (same_no B.sm g1) (same_no B.sm lnf) (na g1) (na lnf) (by omega)
          refine ⟨H, sc, L, a, ns.getD 0 0, cell, pre ++ [p], ⟨t', ls', ln', _, [], []⟩, qs, i, _, _, _, _, rfl, B2, by omega, fun ps' qs' b5 b6 b7 H2 B3 fr => ?_⟩
          have ncl' : cl ∉ a :: L :: listsOf ((pre ++ [p]) ++ [⟨t', ls', ln', nameF (ns.getD 0 0) (((pre ++ [p]).length : Int) * 37 % 101), [], []⟩]) := fun z => by
            have el : a :: L :: listsOf ((pre ++ [p]) ++ [⟨t', ls', ln', nameF (ns.getD 0 0) (((pre ++ [p]).length : Int) * 37 % 101), [], []⟩]) = (a :: L :: listsOf (pre ++ [p])) ++ [ls', ln'] := by
              rw [listsOf_snoc (pre ++ [p])]; simp [PcM.lists]
            rw [el] at z
            rcases List.mem_append.mp z with z | z
            · exact nc z
            · simp only [List.mem_cons, List.not_mem_nil, or_false] at z
              rcases z with e | e
              · rw [e, g1] at hc; cases hc
              · rw [e, lnf] at hc; cases hc
          have hcl : cl ≠ L := fun e => nc (by rw [e]; exact List.mem_cons_of_mem _ List.mem_cons_self)
          have := fr cl _ ncl' (by rw [upd_ne hcl]; exact (r1.trans (r2.trans r3)) _ _ hc)
          exact ⟨ps', qs', _, _, _, _, rfl, B3, this.1, this.2, by omega⟩
      · rintro σ H' ⟨ps, qs, b4, b5, b6, b7, rfl, B, hc, nc, hi⟩
        exact ⟨H, sc, L, a, ns, ns.getD 0 0, ps, qs, _, _, _, _, _, _, rfl, B.sm.seq hS, B.up (by rw [List.length_map]; exact lm), k⟩
    case rb1 =>
      rintro D σ H ⟨H0, sc, L, a, c, cell, ps, p, qs, i, mo, b6, b7, b8, rfl, B, hi, k⟩
      walk_at "rd"
      have hp := B.pc.at_ p (by simp)
      have g0 : 0 ≤ cell * 1583458089 % 2147483647 := by omega
      generalize cell * 1583458089 % 2147483647 = nn at g0
      obtain ⟨kd, hk, hk'⟩ : ∃ kd, atI [V.str (Str.ofString "code"), V.str (Str.ofString "data")] (nn / 64 % 2) = some (V.str kd) ∧ (kd = Str.ofString "code" ∨ kd = Str.ofString "data") := by
        have : nn / 64 % 2 = 0 ∨ nn / 64 % 2 = 1 := by omega
        rcases this with e | e <;> rw [e]
        · exact ⟨_, rfl, .inl rfl⟩
        · exact ⟨_, rfl, .inr rfl⟩
      refine ⟨_, SqL.of B.pc.top, V.ref p.t, by rw [List.map_append]; exact atI_last _ _, p.t, rfl, _, SqT.of hp.top, _, rfl, by rw [sizeLine_eq]; decide, fun q1 h1 => ⟨⟨by decide, by decide⟩, by decide, _, SqL.of upd_same, _, hk, .inl ⟨rfl, _, SqL.of (same_new h1 _ _ hp.sl)⟩, ⟨by decide, by decide⟩, by decide, ⟨by omega, by omega, by decide⟩, ⟨by decide, by decide⟩, by rw [sizeLine_eq]; decide, fun q2 h2 => ⟨g0, fun m m0 m1 => ⟨_, upd_same, by omega, by omega, by rw [sizeLine_eq]; show 1 * m.toNat ≤ _; omega, fun lw h3 => ⟨Nat.zero_le _, fun lf h4 => ⟨by rw [sizeLine_eq]; decide, fun t h5 => ?_⟩⟩⟩⟩⟩⟩
      have s2 := (same_new (o := HO.lst [V.str (Str.ofString "code"), V.str (Str.ofString "data")]) h1).trans (same_new (o := HO.lst [V.int (nn / 2176)]) h2)
      have ew : (List.replicate m.toNat [V.int (nn / 2176)]).flatten = (List.replicate m.toNat (nn / 2176)).map V.int := by
        generalize m.toNat = u
        induction u with
        | zero => rfl
        | succ u ih => rw [List.replicate_succ, List.flatten_cons, ih, List.replicate_succ]; rfl
      rw [ew] at h4 h5 ⊢
      generalize upd (upd H q1 (HO.lst [V.str (Str.ofString "code"), V.str (Str.ofString "data")])) q2 (HO.lst [V.int (nn / 2176)]) = H2 at *
      have s3 := same_new (o := HO.lst ((List.replicate m.toNat (nn / 2176)).map V.int)) h3
      have s4 := same_new (o := HO.lst []) h4
      have s5 := same_new (o := HO.tup [V.str kd, V.int (1 * 2 ^ (nn / 128 % 17).toNat), V.ref lw, V.ref lf]) h5
      have B2 := (B.mono s2).mono ((s3.trans s4).trans s5)
      have lwf : H lw = none := same_no s2 h3
      have lff : H lf = none := same_no (s2.trans s3) h4
      have nwf : lw ≠ lf := fun e => by rw [← e, upd_same] at h4; cases h4
      have na : ∀ {x : Addr}, H x = none → x ∉ a :: L :: listsOf (ps ++ [p]) := fun {x} hx z => by
        rcases List.mem_cons.mp z with e | e
        · rw [e, B.ks.1] at hx; cases hx
        · exact B.pc.fresh hx e
      refine ⟨_, rfl, _, ((s2.trans s3).trans (s4.trans s5)) _ _ hp.sl, by rw [sizeLine_eq, List.length_map]; have := B.n2 p (by simp); omega, ?_⟩
      have ok : StOk ⟨t, lw, lf, kd, 1 * 2 ^ (nn / 128 % 17).toNat, List.replicate m.toNat (nn / 2176), []⟩ := ⟨⟨(nn / 128 % 17).toNat, by omega, by show (1 : Int) * 2 ^ _ = _; rw [Int.one_mul]⟩, hk', by show (List.replicate _ _).length ≤ 1000; rw [List.length_replicate]; omega⟩
      have B3 := B2.addSt (kind := kd) (step := 1 * 2 ^ (nn / 128 % 17).toNat) upd_same (by rw [upd_ne (fun e => by rw [← e, upd_ne nwf, upd_same] at h5; cases h5), upd_ne nwf, upd_same]) (by rw [upd_ne (fun e => by rw [← e, upd_same] at h5; cases h5), upd_same]) nwf (same_no B.sm lwf) (same_no B.sm lff) (na lwf) (na lff) ok
      refine ⟨H0, sc, L, a, c, cell, ps, { p with sts := p.sts ++ [⟨t, lw, lf, kd, 1 * 2 ^ (nn / 128 % 17).toNat, List.replicate m.toNat (nn / 2176), []⟩] }, qs, i, mo, _, _, b8, rfl, B3, B.n3, by simp, hi, (fun q hq e => ?nw), fun ps' qs' b5 b6 b7 H' B4 fr => k ps' qs' b5 b6 b7 H' B4 fun x o hx e => fr x o (fun z => ?_) ?_⟩
      case nw =>
        obtain ⟨j, r, e1, e2, e3, e4⟩ := B.inn q hq
        have en : q.2.1 = p.name := congrArg (·.1) e
        have ek : q.2.2 = ((p.sts ++ [_]).length : Int) - 1 := congrArg (·.2) e
        rw [List.length_append, List.length_singleton] at ek
        have h1 := pcAt_of B.names (List.mem_of_getElem? e1)
        have h2 := pcAt_of B.names (p := p) (by simp)
        rw [e2, en, h2] at h1
        cases h1
        omega
      · have el : a :: L :: listsOf (ps ++ [{ p with sts := p.sts ++ [⟨t, lw, lf, kd, 1 * 2 ^ (nn / 128 % 17).toNat, List.replicate m.toNat (nn / 2176), []⟩] }]) = (a :: L :: listsOf (ps ++ [p])) ++ [lw, lf] := by
          rw [listsOf_snoc, listsOf_snoc]
          simp [PcM.lists, StM.lists, List.flatMap_append]
        rw [el] at z
        rcases List.mem_append.mp z with z | z
        · exact hx z
        · simp only [List.mem_cons, List.not_mem_nil, or_false] at z
          rcases z with rfl | rfl
          · rw [lwf] at e; cases e
          · rw [lff] at e; cases e
      · have mls : p.ls ∈ a :: L :: listsOf (ps ++ [p]) := List.mem_cons_of_mem _ (List.mem_cons_of_mem _ (by rw [listsOf_snoc]; exact List.mem_append_right _ (by simp [PcM.lists])))
        have nx : x ≠ p.ls := fun z => hx (by rw [z]; exact mls)
        rw [upd_ne nx]
        exact ((s2.trans s3).trans (s4.trans s5)) _ _ e
    case rb2 =>
      rintro D σ H ⟨H0, sc, L, a, c, cell, ps, p, qs, i, mo, b5, b7, b8, rfl, B, hq, hne, hi, new, k⟩
      walk_at "rd"
      have hp := B.pc.at_ p (by simp)
      refine ⟨⟨by decide, by decide⟩, by decide, ite2 (fun _ => ?_) fun _ => k _ _ _ _ _ _ B fun x o hx e => ⟨e, hx⟩⟩
      refine ⟨.inl ⟨rfl, _, SqL.of B.ks.1⟩, _, SqL.of B.pc.top, V.ref p.t, by rw [List.map_append]; exact atI_last _ _, p.t, rfl, _, SqT.of hp.top, _, rfl, p.sts.length, .inl ⟨_, SqL.of hp.sl, by rw [List.length_map]⟩, by rw [sizeLine_eq]; decide, fun t ht => ?_⟩
      have s1 := same_new (o := HO.tup [V.str p.name, V.int ((p.sts.length : Int) - 1)]) ht
      refine ⟨_, s1 _ _ B.ks.1, by rw [sizeLine_eq, List.length_map]; omega, ?_⟩
      exact k _ _ _ _ _ _ ((B.mono s1).addKey upd_same hne (by omega) new) fun x o hx e => by
        have nx : x ≠ a := fun z => hx (by rw [z]; exact List.mem_cons_self)
        exact ⟨by rw [upd_ne nx]; exact s1 _ _ e, hx⟩
    case re =>
      rintro D σ H ⟨H0, sc, L, a, ns, c, ps, qs, mo, b4, b5, b6, b7, b8, rfl, hS, B, k⟩
      walk_at "rd"
      have ql := B.n3
      refine ⟨ns, hS, by decide, ⟨by decide, by decide⟩, qs.length, .inl ⟨_, SqL.of B.ks.1, by rw [List.length_map]⟩, by omega, ?_⟩
      generalize ns.getD (Int.toNat 1) 0 / 2 = v
      have r0 := Int.emod_nonneg v (show (qs.length : Int) + 1 ≠ 0 by omega)
      have r1 := Int.emod_lt_of_pos v (show 0 < (qs.length : Int) + 1 by omega)
      generalize v % ((qs.length : Int) + 1) = u at r0 r1
      obtain ⟨u, rfl⟩ := Int.eq_ofNat_of_zero_le r0
      have hu : u ≤ qs.length := by omega
      refine ⟨_, SqL.of B.ks.1, fun p1 h1 => ⟨_, SqL.of (same_new h1 _ _ B.ks.1), fun p2 h2 => ⟨_, SqL.of (same_new h2 _ _ upd_same), _, SqL.of upd_same, ?_, fun p3 h3 => ?_⟩⟩⟩
      · have c1 := cutV_length (qs.map fun q => V.ref q.1) (some (u : Int)) none
        have c2 := cutV_length (qs.map fun q => V.ref q.1) none (some (u : Int))
        rw [List.length_map] at c1 c2
        rw [sizeLine_eq]; omega
      · have s3 := ((same_new (o := HO.lst (cutV (qs.map fun q => V.ref q.1) (some (u : Int)) none)) h1).trans (same_new (o := HO.lst (cutV (qs.map fun q => V.ref q.1) none (some (u : Int)))) h2)).trans (same_new (o := HO.lst (cutV (qs.map fun q => V.ref q.1) (some (u : Int)) none ++ cutV (qs.map fun q => V.ref q.1) none (some (u : Int)))) h3)
        refine ⟨H0, sc, L, p3, ns, c, ps, qs.drop u ++ qs.take u, mo, b4, b5, b6, b7, _, rfl, s3.seq hS, B.keys s3 ?_ (same_no ((same_new h1).trans (same_new h2)) h3) (fun q hq => ?_) ?_ ?_, k⟩
        · rw [upd_same, cut_from (by rw [List.length_map]; exact hu), cut_to (by rw [List.length_map]; exact hu), List.map_append, List.map_drop, List.map_take]
        · rcases List.mem_append.mp hq with z | z
          · exact List.mem_of_mem_drop z
          · exact List.mem_of_mem_take z
        · rw [List.length_append, List.length_drop, List.length_take]; omega
        · refine (List.Perm.nodup_iff ?_).mpr B.nk
          refine List.Perm.map _ ?_
          have := List.perm_append_comm (l₁ := qs.drop u) (l₂ := qs.take u)
          rwa [List.take_append_drop] at this
    case rf =>
      rintro D σ H ⟨H0, sc, L, a, ns, c, ps, qs, mo, b4, b5, b6, b7, b8, rfl, hS, B, k⟩
      walk_at "rd"
      have ql := B.n3
      refine ⟨ns, hS, by decide, by decide, ite2 (fun _ => ?_) fun _ => ?_⟩
      · refine ⟨_, SqL.of B.ks.1, by rw [sizeLine_eq, List.length_map]; omega, fun l hl0 => ⟨by rw [sizeLine_eq]; decide, fun p hp => ?_⟩⟩
        have s2 := (same_new (o := HO.lst (qs.map fun q => V.ref q.1).reverse) hl0).trans (same_new (o := HO.tup [V.ref L, V.ref l]) hp)
        exact k p L l ps qs.reverse c _ (B.sm.trans s2) upd_same (B.keys s2 (by rw [upd_ne (fun e => by rw [← e, upd_same] at hp; cases hp), upd_same, List.map_reverse]) hl0 (fun q hq => List.mem_reverse.mp hq) (by rw [List.length_reverse]; exact ql) ((List.Perm.nodup_iff (List.Perm.map _ (List.reverse_perm qs))).mpr B.nk))
      · refine ⟨by rw [sizeLine_eq]; decide, fun p hp => ?_⟩
        exact k p L a ps qs c _ (B.sm.trans (same_new hp)) upd_same (B.mono (same_new hp))
theorem pow_lo {e : Nat} (h : e ≤ 16) : (1 : Int) ≤ 2 ^ e ∧ (2 : Int) ^ e ≤ 65536 := by
  have : ∀ e : Nat, e ≤ 16 → (1 : Int) ≤ 2 ^ e ∧ (2 : Int) ^ e ≤ 65536 := by decide +kernel
  exact this e h
theorem DrS.shelf {H0 H : Hp} {L a : Addr} {c : Int} {ps : List PcM} {qs : List (Addr × PairD)} {i : Nat} (h : DrS H0 H L a c ps qs i) : Shelf H ps :=
  ⟨h.pc.at_, h.names, fun p hp s hs => by
    obtain ⟨⟨e, e1, e2⟩, k, w⟩ := h.st p hp s hs
    have := pow_lo e1
    rw [e2]; exact ⟨this.1, this.2, k, w⟩⟩
theorem DrS.ly {H0 H : Hp} {L a : Addr} {c : Int} {ps : List PcM} {qs : List (Addr × PairD)} (h : DrS H0 H L a c ps qs 63) : LyP H [.ref L, .ref a] ps (qs.map (·.2)) := by
  refine ⟨L, a, qs, rfl, rfl, h.pc, h.n1.2, h.shelf, h.ks, by have := h.n3; omega, fun q hq => ?_⟩
  obtain ⟨j, p, e1, e2, e3, e4⟩ := h.inn q hq
  unfold stF
  rw [← e2, pcAt_of h.names (List.mem_of_getElem? e1)]
  show (if 0 ≤ q.2.2 then p.sts[q.2.2.toNat]? else none).isSome = true
  rw [if_pos e3, List.getElem?_eq_getElem (by omega)]; rfl
theorem ord_one {ps : List PcM} {ks a b : List PairD} (h1 : InOrd ps ks a) (h2 : InOrd ps ks b) : a = b := by
  obtain ⟨s1, p1, w1, rfl⟩ := h1
  obtain ⟨s2, p2, w2, rfl⟩ := h2
  rw [sortedP_one (p1.trans p2.symm) w1 w2]
theorem some_map {α β : Type} {f : α → Option β} {xs : List α} {ys : List β} (h : xs.map f = ys.map some) {i : Nat} {x : α} (hx : xs[i]? = some x) : ∃ y, ys[i]? = some y ∧ f x = some y := by
  have : (xs.map f)[i]? = some (f x) := by rw [List.getElem?_map, hx]; rfl
  rw [h, List.getElem?_map] at this
  obtain ⟨y, h1, h2⟩ := Option.map_eq_some_iff.mp this
  exact ⟨y, h1, h2.symm⟩
theorem G__law_whole (T : Txt K mg A) : FnOk P w K mg base CX0 1 A._law_whole A.fd__law_whole ["_law_found"] sp_whole := by
  refine T.F__law_whole.ok sc__law_whole (fun vs H Q E h => ?_) (fun cdv Ar outer s H vs Q E hr h => ?_)
  · obtain ⟨c, rfl, _⟩ := h
    rfl
  · obtain ⟨c, rfl, k⟩ := h
    refine ⟨_, (@pss_one _ _ _ (@ps_ret _ _ _ _ (@pe_and _ _ _ _ _ _ _ (@pe_callB _ _ _ _ _ _ _ _ _ (call_isiK (K := K) rfl) (by rfl) T.n_isinstance bt_isinstance (@pa_cons _ _ _ _ _ (@pv _ 0 _ _ (by rfl) (by first  |  exact  Or.inl  rfl  |  exact  Or.inr  (    Or.inl  rfl  )  |  exact  Or.inr  (    Or.inr  rfl  )) (by decide) (by decide)) (@pa_cons _ _ _ _ _ (@pe_bltn _ _ _ _ _ rfl T.n_int bt_int relT (by decide) (by decide)) (@pa_nil _) (by rfl)) (by rfl)) (by decide) (by decide) (by rfl) (by rfl)) (@pe_one _ _ _ _ _ (@pe_not _ _ _ _ (@pe_callB _ _ _ _ _ _ _ _ _ (call_isiK (K := K) rfl) (by rfl) T.n_isinstance bt_isinstance (@pa_cons _ _ _ _ _ (@pv _ 0 _ _ (by rfl) (by first  |  exact  Or.inl  rfl  |  exact  Or.inr  (    Or.inl  rfl  )  |  exact  Or.inr  (    Or.inr  rfl  )) (by decide) (by decide)) (@pa_cons _ _ _ _ _ (@pe_bltn _ _ _ _ _ rfl T.n_bool bt_bool relT (by decide) (by decide)) (@pa_nil _) (by rfl)) (by rfl)) (by decide) (by decide) (by rfl) (by rfl))))))), ?_⟩
    walk_at "rd"
    exact ⟨_, .int c, true, rfl, iteT ⟨_, .int c, false, rfl, k⟩⟩
theorem ks_rep {H : Hp} {a : Addr} {qs : List (Addr × PairD)} (h : KsAt H a qs) : Rep K H (.lst (qs.map fun q => D.tup [.str q.2.1, .int q.2.2])) (.ref a) := by
  simp only [Rep]
  refine ⟨_, _, rfl, SqL.of h.1, RepL.map fun q hq => ?_⟩
  simp only [Rep]
  exact ⟨_, _, rfl, SqT.of (h.2 q hq), by simp [RepL, Rep]⟩
noncomputable def coreD (c : Str × Int × List Int × List FillM) : D := .tup [.str c.1, .int c.2.1, .lst (c.2.2.1.map D.int), .lst (c.2.2.2.map FillM.d)]
noncomputable def allD (c : Str × List ToldM × List (Str × Int × List Int × List FillM)) : D := .tup [.str c.1, .lst (c.2.2.map coreD), .lst (c.2.1.map ToldM.d)]
theorem all_d (p : PcM) : p.d = allD (pcAll p) := by
  have : p.sts.map StM.d = (p.sts.map StM.core).map coreD := by rw [List.map_map]; rfl
  unfold PcM.d allD
  rw [this]; rfl
theorem CopyL.d {ps qs : List PcM} (h : CopyL ps qs) : qs.map PcM.d = ps.map PcM.d := by
  have e : PcM.d = allD ∘ pcAll := funext all_d
  rw [e, ← List.map_map, ← List.map_map, h]
theorem CopyL.names {ps qs : List PcM} (h : CopyL ps qs) : qs.map PcM.name = ps.map PcM.name := by
  have := congrArg (List.map (·.1)) h
  rw [List.map_map, List.map_map] at this
  exact this
theorem CopyL.len {ps qs : List PcM} (h : CopyL ps qs) : qs.length = ps.length := by
  have := congrArg List.length h
  rwa [List.length_map, List.length_map] at this
theorem stF_core (ps : List PcM) (k : PairD) : (stF ps k).map StM.core = ((ps.map pcAll).find? fun c => decide (c.1 = k.1)).bind fun c => if 0 ≤ k.2 then c.2.2[k.2.toNat]? else none := by
  rw [List.find?_map]
  show _ = (Option.map pcAll (pcAt ps k.1)).bind _
  unfold stF
  cases pcAt ps k.1 with
  | none => rfl
  | some p =>
    show Option.map StM.core (if 0 ≤ k.2 then p.sts[k.2.toNat]? else none) = if 0 ≤ k.2 then (p.sts.map StM.core)[k.2.toNat]? else none
    split
    · rw [List.getElem?_map]
    · rfl
theorem CopyL.st {ps qs : List PcM} (h : CopyL ps qs) (k : PairD) : (stF qs k).map StM.core = (stF ps k).map StM.core := by rw [stF_core, stF_core, h]
theorem CopyL.st1 {ps qs : List PcM} (h : CopyL ps qs) {k : PairD} {s : StM} (hs : stF qs k = some s) : ∃ s', stF ps k = some s' ∧ s.kind = s'.kind ∧ s.step = s'.step ∧ s.words = s'.words := by
  have := h.st k
  rw [hs] at this
  obtain ⟨s', h1, h2⟩ := Option.map_eq_some_iff.mp this.symm
  refine ⟨s', h1, ?_⟩
  simp only [StM.core, Prod.mk.injEq] at h2
  exact ⟨h2.1.symm, h2.2.1.symm, h2.2.2.1.symm⟩
theorem CopyL.shelf {H H' : Hp} {ps qs : List PcM} (h : CopyL ps qs) (hS : Shelf H ps) (hq : ∀ q ∈ qs, q.At H') : Shelf H' qs := by
  refine ⟨hq, by rw [h.names]; exact hS.nd, fun q hq s hs => ?_⟩
  have m : pcAll q ∈ qs.map pcAll := List.mem_map.mpr ⟨q, hq, rfl⟩
  rw [h] at m
  obtain ⟨p, hp, e⟩ := List.mem_map.mp m
  have m2 : s.core ∈ (pcAll q).2.2 := List.mem_map.mpr ⟨s, hs, rfl⟩
  rw [← e] at m2
  obtain ⟨s0, h0, e0⟩ := List.mem_map.mp m2
  simp only [StM.core, Prod.mk.injEq] at e0
  have := hS.st p hp s0 h0
  rw [e0.1, e0.2.1, e0.2.2.1] at this
  exact this
theorem CopyL.isSome {ps qs : List PcM} (h : CopyL ps qs) (k : PairD) : (stF qs k).isSome = (stF ps k).isSome := by
  have := congrArg Option.isSome (h.st k)
  rwa [Option.isSome_map, Option.isSome_map] at this
theorem add_piece {H : Hp} {L : Addr} {ps : List PcM} {q : PcM} (h : Pcs H L ps) (hq : q.At H) (nq : q.lists.Nodup) (fr : ∀ b ∈ q.lists, b ∉ L :: listsOf ps) : Pcs (upd H L (.lst (ps.map PcM.v ++ [q.v]))) L (ps ++ [q]) := by
  have b : But H (upd H L (.lst (ps.map PcM.v ++ [q.v]))) L := But.upd h.top
  have nL := (List.nodup_cons.mp h.nd).1
  refine ⟨by rw [upd_same]; simp, fun p hp => ?_, ?_⟩
  · rcases List.mem_append.mp hp with z | z
    · exact (h.at_ p z).but b fun y => nL (List.mem_flatMap.mpr ⟨p, z, y⟩)
    · rw [List.mem_singleton.mp z]
      exact hq.but b fun y => fr _ y List.mem_cons_self
  · rw [listsOf_snoc, ← List.cons_append]
    exact List.nodup_append.mpr ⟨h.nd, nq, fun x hx y hy e => fr y hy (e ▸ hx)⟩
theorem free_of {H : Hp} {p q : Addr} {o : HO} (h : upd H p o q = none) : q ≠ p ∧ H q = none := by
  by_cases e : q = p
  · rw [e, upd_same] at h; cases h
  · exact ⟨e, by rwa [upd_ne e] at h⟩
theorem copy_rows {H : Hp} {ls : Addr} {sts : List StM} {R : VK} (hsl : H ls = some (.lst (sts.map StM.v))) (hss : ∀ s ∈ sts, s.At H) (b1 : sts.length ≤ 1000)
    (k : ∀ (D : Addr) (qs : List StM) (H' : Hp), qs.map StM.core = sts.map StM.core → Same H H' → H D = none → H' D = some (.lst (qs.map StM.v)) → (∀ q ∈ qs, q.At H') → (∀ b ∈ qs.flatMap StM.lists, H b = none ∧ b ≠ D) → (qs.flatMap StM.lists).Nodup → R (.ref D) H') :
    CompL K (gName 0) tYes (tTup (tCons (tOp (rIxT K) (tVar 0) (tC (V.int 0))) (tCons (tOp (rIxT K) (tVar 0) (tC (V.int 1))) (tCons (tCB (fun xs H Q => ∃ p, xs = [V.ref p] ∧ ∃ x, (SqL K H p x ∨ SqT K H p x) ∧ ∀ (l : Addr), H l = none → Q (V.ref l) (upd H l (HO.lst x))) (tCons (tOp (rIxT K) (tVar 0) (tC (V.int 2))) tNil)) (tCons (tCB (fun xs H Q => ∃ p, xs = [V.ref p] ∧ ∃ x, (SqL K H p x ∨ SqT K H p x) ∧ ∀ (l : Addr), H l = none → Q (V.ref l) (upd H l (HO.lst x))) (tCons (tOp (rIxT K) (tVar 0) (tC (V.int 3))) tNil)) tNil))))) [none] R (.ref ls) H := by
  refine CompL.of (by rw [List.length_map, sizeLine_eq]; omega) (SqL.of hsl) (fun D i ys H' => ∃ qs : List StM, ys = qs.map StM.v ∧ qs.map StM.core = (sts.take i).map StM.core ∧ Same H H' ∧ H' D = some (.lst ys) ∧ (∀ q ∈ qs, q.At H') ∧ (∀ b ∈ qs.flatMap StM.lists, H b = none ∧ b ≠ D) ∧ (qs.flatMap StM.lists).Nodup)
    (fun D hD => ⟨[], rfl, rfl, same_new hD, upd_same, by simp, by simp, by simp⟩) ?_ ?_ ?_
  · rintro D i ys H' hD hi ⟨qs, rfl, hc, sm, hDD, _⟩
    refine ⟨SqL.of (sm _ _ hsl), hDD, ?_⟩
    have e := congrArg List.length hc
    rw [List.length_map, List.length_map] at e
    rw [List.length_map, e]
    exact List.length_take_le ..
  · rintro D i x ys H' hD hx ⟨qs, rfl, hc, sm, hDD, hat, hnew, hnd⟩
    rw [List.getElem?_map] at hx
    obtain ⟨s, hs, rfl⟩ := Option.map_eq_some_iff.mp hx
    have hs' := hss s (List.mem_of_getElem? hs)
    walk_at "rd"
    refine ⟨.no .nil, _, SqT.of (sm _ _ hs'.top), _, rfl, _, SqT.of (sm _ _ hs'.top), _, rfl, _, SqT.of (sm _ _ hs'.top), _, rfl, s.lw, rfl, _, .inl (SqL.of (sm _ _ hs'.wd)), fun lw h1 => ⟨_, SqT.of (same_new h1 _ _ (sm _ _ hs'.top)), _, rfl, s.lf, rfl, _, .inl (SqL.of (same_new h1 _ _ (sm _ _ hs'.fl))), fun lf h2 => ⟨by rw [sizeLine_eq]; decide, fun t h3 => ?_⟩⟩⟩
    obtain ⟨n2, h2'⟩ := free_of h2
    obtain ⟨n3, h3a⟩ := free_of h3
    obtain ⟨n4, h3'⟩ := free_of h3a
    have s3 := ((same_new (o := HO.lst (s.words.map V.int)) h1).trans (same_new (o := HO.lst (s.fills.map FillM.v)) h2)).trans (same_new (o := HO.tup [V.str s.kind, V.int s.step, V.ref lw, V.ref lf]) h3)
    have e1 : upd (upd (upd H' lw (HO.lst (s.words.map V.int))) lf (HO.lst (s.fills.map FillM.v))) t (HO.tup [V.str s.kind, V.int s.step, V.ref lw, V.ref lf]) lw = some (HO.lst (s.words.map V.int)) := by rw [upd_ne (Ne.symm n4), upd_ne (Ne.symm n2), upd_same]
    have e2 : upd (upd (upd H' lw (HO.lst (s.words.map V.int))) lf (HO.lst (s.fills.map FillM.v))) t (HO.tup [V.str s.kind, V.int s.step, V.ref lw, V.ref lf]) lf = some (HO.lst (s.fills.map FillM.v)) := by rw [upd_ne (Ne.symm n3), upd_same]
    have e3 : upd (upd (upd H' lw (HO.lst (s.words.map V.int))) lf (HO.lst (s.fills.map FillM.v))) t (HO.tup [V.str s.kind, V.int s.step, V.ref lw, V.ref lf]) t = some (HO.tup [V.str s.kind, V.int s.step, V.ref lw, V.ref lf]) := upd_same
    generalize upd (upd (upd H' lw (HO.lst (s.words.map V.int))) lf (HO.lst (s.fills.map FillM.v))) t (HO.tup [V.str s.kind, V.int s.step, V.ref lw, V.ref lf]) = H3 at *
    have bt : But H3 (upd H3 D (HO.lst (qs.map StM.v ++ [V.ref t]))) D := But.upd (s3 _ _ hDD)
    have d1 : lw ≠ D := Ne.symm (ne_of_none hDD h1)
    have d2 : lf ≠ D := Ne.symm (ne_of_none hDD h2')
    refine ⟨s3 _ _ hDD, qs ++ [⟨t, lw, lf, s.kind, s.step, s.words, s.fills⟩], by simp, ?_, same_upd hD (sm.trans s3), upd_same, fun q hq => ?_, fun b hb => ?_, ?_⟩
    · rw [List.map_append, hc, List.take_succ, hs, List.map_append]; rfl
    · rcases List.mem_append.mp hq with z | z
      · exact ((hat q z).mono s3).but bt fun y => (hnew D (List.mem_flatMap.mpr ⟨q, z, y⟩)).2 rfl
      · rw [List.mem_singleton.mp z]
        exact ⟨bt.tup e3, bt.2 _ _ e1 d1, bt.2 _ _ e2 d2, fun f hf => (((hs'.fs f hf).mono sm).mono s3).but bt⟩
    · rw [List.flatMap_append] at hb
      rcases List.mem_append.mp hb with z | z
      · exact hnew b z
      · simp [StM.lists] at z
        rcases z with e | e
        · rw [e]; exact ⟨sm.free h1, d1⟩
        · rw [e]; exact ⟨sm.free h2', d2⟩
    · rw [List.flatMap_append]
      refine List.nodup_append.mpr ⟨hnd, by simp [StM.lists, Ne.symm n2], fun x hx y hy e => ?_⟩
      obtain ⟨q, hq, hb'⟩ := List.mem_flatMap.mp hx
      obtain ⟨xs, he⟩ := (hat q hq).list hb'
      simp [StM.lists] at hy
      rcases hy with z | z
      · rw [e, z, h1] at he; cases he
      · rw [e, z, h2'] at he; cases he
  · rintro D ys H' hD ⟨qs, rfl, hc, sm, hDD, hat, hnew, hnd⟩
    rw [List.length_map, List.take_length] at hc
    exact k D qs H' hc sm hD hDD hat hnew hnd
theorem G__law_copies (T : Txt K mg A) : FnOk P w K mg base CX0 1 A._law_copies A.fd__law_copies ["_law_pieces"] sp_copies := by
  refine T.F__law_copies.ok sc__law_copies (fun vs H Q E h => ?_) (fun cdv Ar outer s H vs Q E hr h => ?_)
  · obtain ⟨L, ps, rfl, _⟩ := h
    rfl
  · obtain ⟨L, ps, rfl, hP, hn, hs, k⟩ := h
    refine ⟨_, (@pss_cons _ _ _ _ _ (@ps_set _ _ 1 _ _ _ _ sc__law_copies.nd rfl (by first | exact Or.inl rfl | exact Or.inr rfl) (@pe_lst _ _ _ _ (@pa_nil _)) (by rfl) (by first  |  exact  .inl  rfl  |  exact  .inr  rfl  |  assumption)) (@pss_cons _ _ _ _ _ (@ps_for _ _ _ _ _ _ _ _ PassesOwn.never rfl (@pi_listK _ K _ _ _ rfl (@pv _ 0 _ _ (by rfl) (by first  |  exact  Or.inl  rfl  |  exact  Or.inr  (    Or.inl  rfl  )  |  exact  Or.inr  (    Or.inr  rfl  )) (by decide) (by decide))) (@pg_tupK _ K _ _ _ 3 _ rfl rfl (@pgs_cons _ _ _ _ _ (@pg_name _ _ 2 _ sc__law_copies.nd rfl (by first | exact Or.inl rfl | exact Or.inr rfl) (by first  |  exact  .inl  rfl  |  exact  .inr  rfl  |  assumption)) (@pgs_cons _ _ _ _ _ (@pg_name _ _ 3 _ sc__law_copies.nd rfl (by first | exact Or.inl rfl | exact Or.inr rfl) (by first  |  exact  .inl  rfl  |  exact  .inr  rfl  |  assumption)) (@pgs_cons _ _ _ _ _ (@pg_name _ _ 4 _ sc__law_copies.nd rfl (by first | exact Or.inl rfl | exact Or.inr rfl) (by first  |  exact  .inl  rfl  |  exact  .inr  rfl  |  assumption)) (@pgs_nil _) (by rfl)) (by rfl)) (by rfl)) (by rfl) (by rfl)) (@pss_cons _ _ _ _ _ (@ps_setC _ _ _ _ _ _ _ _ _ _ 5 _ _ _ _ _ _ _ sc__law_copies.nd rfl (by first | exact Or.inl rfl | exact Or.inr rfl) (blk_mk (own := ["_law_row"]) (fr := []) (fm := []) rfl (by decide +kernel) (by decide +kernel) (by decide +kernel) .nil) rfl (@pi_listK _ K _ _ _ rfl (@pv _ 3 _ _ (by rfl) (by first  |  exact  Or.inl  rfl  |  exact  Or.inr  (    Or.inl  rfl  )  |  exact  Or.inr  (    Or.inr  rfl  )) (by decide) (by decide))) (fun _ _ _ => ⟨(@pg_name _ _ 0 _ (by show List.Nodup (["_law_row"] : List Str) ; decide +kernel) rfl (by first | exact Or.inl rfl | exact Or.inr rfl) (by first  |  exact  .inl  rfl  |  exact  .inr  rfl  |  assumption)) , pts_nil, (@pe_tup _ _ _ _ _ (@pa_cons _ _ _ _ _ (@pe_ix _ _ _ _ _ _ _ (ix_tupK (K := K) rfl) (@pv _ 0 _ _ (by rfl) (by first  |  exact  Or.inl  rfl  |  exact  Or.inr  (    Or.inl  rfl  )  |  exact  Or.inr  (    Or.inr  rfl  )) (by decide) (by decide)) (@pe_int _ _ _ _) (fun _ _ => rfl)) (@pa_cons _ _ _ _ _ (@pe_ix _ _ _ _ _ _ _ (ix_tupK (K := K) rfl) (@pv _ 0 _ _ (by rfl) (by first  |  exact  Or.inl  rfl  |  exact  Or.inr  (    Or.inl  rfl  )  |  exact  Or.inr  (    Or.inr  rfl  )) (by decide) (by decide)) (@pe_int _ _ _ _) (fun _ _ => rfl)) (@pa_cons _ _ _ _ _ (@pe_callTy _ _ _ _ _ _ _ _ _ (call_list_ofK (K := K) rfl) (by rfl) T.n_list bt_list (@pa_cons _ _ _ _ _ (@pe_ix _ _ _ _ _ _ _ (ix_tupK (K := K) rfl) (@pv _ 0 _ _ (by rfl) (by first  |  exact  Or.inl  rfl  |  exact  Or.inr  (    Or.inl  rfl  )  |  exact  Or.inr  (    Or.inr  rfl  )) (by decide) (by decide)) (@pe_int _ _ _ _) (fun _ _ => rfl)) (@pa_nil _) (by rfl)) (by decide) (by decide) (by rfl) (by rfl)) (@pa_cons _ _ _ _ _ (@pe_callTy _ _ _ _ _ _ _ _ _ (call_list_ofK (K := K) rfl) (by rfl) T.n_list bt_list (@pa_cons _ _ _ _ _ (@pe_ix _ _ _ _ _ _ _ (ix_tupK (K := K) rfl) (@pv _ 0 _ _ (by rfl) (by first  |  exact  Or.inl  rfl  |  exact  Or.inr  (    Or.inl  rfl  )  |  exact  Or.inr  (    Or.inr  rfl  )) (by decide) (by decide)) (@pe_int _ _ _ _) (fun _ _ => rfl)) (@pa_nil _) (by rfl)) (by decide) (by decide) (by rfl) (by rfl)) (@pa_nil _) (by rfl)) (by rfl)) (by rfl)) (by rfl)))⟩) (by rfl) (by intro  _  ;  rfl) (by first  |  exact  .inl  rfl  |  exact  .inr  rfl  |  assumption)) (@pss_one _ _ _ (@ps_expr _ _ _ _ (@pe_bm _ _ _ _ _ _ _ _ _ _ _ _ PySem.F.plainAttrs_list PySem.F.slot_list_append PySem.F.type_list_append mt_append (@pv _ 1 _ _ (by rfl) (by first  |  exact  Or.inl  rfl  |  exact  Or.inr  (    Or.inl  rfl  )  |  exact  Or.inr  (    Or.inr  rfl  )) (by decide) (by decide)) (@pa_cons _ _ _ _ _ (@pe_tup _ _ _ _ _ (@pa_cons _ _ _ _ _ (@pv _ 2 _ _ (by rfl) (by first  |  exact  Or.inl  rfl  |  exact  Or.inr  (    Or.inl  rfl  )  |  exact  Or.inr  (    Or.inr  rfl  )) (by decide) (by decide)) (@pa_cons _ _ _ _ _ (@pv _ 5 _ _ (by rfl) (by first  |  exact  Or.inl  rfl  |  exact  Or.inr  (    Or.inl  rfl  )  |  exact  Or.inr  (    Or.inr  rfl  )) (by decide) (by decide)) (@pa_cons _ _ _ _ _ (@pe_callTy _ _ _ _ _ _ _ _ _ (call_list_ofK (K := K) rfl) (by rfl) T.n_list bt_list (@pa_cons _ _ _ _ _ (@pv _ 4 _ _ (by rfl) (by first  |  exact  Or.inl  rfl  |  exact  Or.inr  (    Or.inl  rfl  )  |  exact  Or.inr  (    Or.inr  rfl  )) (by decide) (by decide)) (@pa_nil _) (by rfl)) (by decide) (by decide) (by rfl) (by rfl)) (@pa_nil _) (by rfl)) (by rfl)) (by rfl))) (@pa_nil _) (by rfl)) (by rfl) (by rfl) (by rfl) (by rfl) (by rfl)) (by rfl)))) (by intro  _  ;  rfl)) (@pss_one _ _ _ (@ps_ret _ _ _ _ (@pv _ 1 _ _ (by rfl) (by first  |  exact  Or.inl  rfl  |  exact  Or.inr  (    Or.inl  rfl  )  |  exact  Or.inr  (    Or.inr  rfl  )) (by decide) (by decide)))))), ?_⟩
    walk_at "rd"
    refine ⟨Nat.zero_le _, fun L' hL' => ?_⟩
    refine ForL.of (xs := ps.map PcM.v) (fun i σ H' => ∃ (qs : List PcM) (b2 b3 b4 b5 : Option V), σ = [some (.ref L), some (.ref L'), b2, b3, b4, b5] ∧ Same H H' ∧ Pcs H' L' qs ∧ CopyL (ps.take i) qs ∧ ∀ b ∈ L' :: listsOf qs, H b = none)
      ⟨[], _, _, _, _, rfl, same_new hL', Pcs.nil upd_same, rfl, fun b hb => by simp [listsOf] at hb; rw [hb]; exact hL'⟩ ?_ ?_ ?_
    · rintro i σ H' hi ⟨qs, b2, b3, b4, b5, rfl, s1, _⟩
      exact SqL.of (s1 _ _ hP.top)
    · rintro i v σ H' hv ⟨qs, b2, b3, b4, b5, rfl, s1, hQ, hC, hF⟩
      rw [List.getElem?_map] at hv
      obtain ⟨p, hp, rfl⟩ := Option.map_eq_some_iff.mp hv
      have hm := List.mem_of_getElem? hp
      have pa := (hP.at_ p hm).mono s1
      have ls := hs p hm
      walk_at "rd"
      refine ⟨_, SqT.of pa.top, rfl, _, _, rfl, _, _, rfl, _, _, rfl, rfl, copy_rows pa.sl pa.ss (by omega) fun D rs H1 hc s2 hD hDD hat hnew hnd => ?_⟩
      have aL : tyV K "list" (V.ref L') H1 := .inl ⟨rfl, _, SqL.of (s2 _ _ hQ.top)⟩
      refine ⟨aL, p.ln, rfl, _, .inl (SqL.of (s2 _ _ pa.nl)), fun l hl => ⟨by rw [sizeLine_eq]; decide, fun t ht => ?_⟩⟩
      obtain ⟨n1, ht'⟩ := free_of ht
      have s3 := (same_new (o := HO.lst (p.nms.map ToldM.v)) hl).trans (same_new (o := HO.tup [V.str p.name, V.ref D, V.ref l]) ht)
      have e1 : upd (upd H1 l (HO.lst (p.nms.map ToldM.v))) t (HO.tup [V.str p.name, V.ref D, V.ref l]) t = some (HO.tup [V.str p.name, V.ref D, V.ref l]) := upd_same
      have e2 : upd (upd H1 l (HO.lst (p.nms.map ToldM.v))) t (HO.tup [V.str p.name, V.ref D, V.ref l]) l = some (HO.lst (p.nms.map ToldM.v)) := by rw [upd_ne (Ne.symm n1), upd_same]
      generalize upd (upd H1 l (HO.lst (p.nms.map ToldM.v))) t (HO.tup [V.str p.name, V.ref D, V.ref l]) = H3 at *
      have hQ3 := (hQ.mono s2).mono s3
      have ql : qs.length = i := by
        have := hC.len
        rw [List.length_take] at this
        have := (List.getElem?_eq_some_iff.mp hp).1
        omega
      have i1 := (List.getElem?_eq_some_iff.mp hp).1
      have qa : (PcM.mk t D l p.name rs p.nms).At H3 := ⟨e1, s3 _ _ hDD, e2, fun q hq => (hat q hq).mono s3, fun n hn => ((pa.ns n hn).mono s2).mono s3⟩
      have fr : ∀ b ∈ (PcM.mk t D l p.name rs p.nms).lists, H' b = none := fun b hb => by
        simp only [PcM.lists, List.mem_cons] at hb
        rcases hb with e | e | e
        · rw [e]; exact hD
        · rw [e]; exact s2.free hl
        · exact (hnew b e).1
      have nl : ∀ b ∈ rs.flatMap StM.lists, b ≠ l := fun b hb => by
        obtain ⟨q, hq, hb'⟩ := List.mem_flatMap.mp hb
        obtain ⟨xs, e⟩ := (hat q hq).list hb'
        exact ne_of_none e hl
      refine ⟨_, hQ3.top, by rw [List.length_map, sizeLine_eq]; omega, same_upd hL' ((s1.trans s2).trans s3), qs ++ [⟨t, D, l, p.name, rs, p.nms⟩], add_piece hQ3 qa ?_ (fun b hb => hQ.fresh (fr b hb)), ?_, fun b hb => ?_⟩
      · show (D :: l :: rs.flatMap StM.lists).Nodup
        refine List.nodup_cons.mpr ⟨fun z => ?_, List.nodup_cons.mpr ⟨fun z => nl l z rfl, hnd⟩⟩
        rcases List.mem_cons.mp z with e | e
        · exact ne_of_none hDD hl e
        · exact (hnew D e).2 rfl
      · unfold CopyL at hC ⊢
        rw [List.take_succ, hp, List.map_append, List.map_append, hC]
        simp [pcAll, hc]
      · rw [listsOf_snoc, ← List.cons_append] at hb
        rcases List.mem_append.mp hb with z | z
        · exact hF b z
        · exact s1.free (fr b z)
    · rintro σ H' ⟨qs, b2, b3, b4, b5, rfl, s1, hQ, hC, hF⟩
      walk_at "rd"
      rw [List.length_map, List.take_length] at hC
      exact k L' qs H' s1 hQ hC
theorem ks_mono {H H' : Hp} {a : Addr} {qs : List (Addr × PairD)} (h : KsAt H a qs) (s : Same H H') : KsAt H' a qs := ⟨s _ _ h.1, fun q hq => s _ _ (h.2 q hq)⟩
theorem G__law_kinds (T : Txt K mg A) : FnOk P w K mg base CX0 2 A._law_kinds A.fd__law_kinds ["_law_found", "_law_count"] sp_kinds := by
  refine T.F__law_kinds.ok sc__law_kinds (fun vs H Q E h => ?_) (fun cdv Ar outer s H vs Q E hr h => ?_)
  · obtain ⟨l, ps, ks, rs, rfl, _⟩ := h
    rfl
  · obtain ⟨l, ps, ks, rs, rfl, LA, k⟩ := h
    refine ⟨_, (@pss_cons _ _ _ _ _ (@ps_if _ _ _ _ _ _ _ _ (@PW.pt _ _ _ (@pw_or _ _ _ _ _ _ _ (@pt_not _ _ _ _ (@pt_val _ _ _ (@pe_callB _ _ _ _ _ _ _ _ _ (call_isiK (K := K) rfl) (by rfl) T.n_isinstance bt_isinstance (@pa_cons _ _ _ _ _ (@pv _ 0 _ _ (by rfl) (by first  |  exact  Or.inl  rfl  |  exact  Or.inr  (    Or.inl  rfl  )  |  exact  Or.inr  (    Or.inr  rfl  )) (by decide) (by decide)) (@pa_cons _ _ _ _ _ (@pe_bltn _ _ _ _ _ rfl T.n_list bt_list relT (by decide) (by decide)) (@pa_nil _) (by rfl)) (by rfl)) (by decide) (by decide) (by rfl) (by rfl)) (by intro  _  ;  rfl))) (@pw_or1 _ _ _ _ (@pt_cmpR _ _ _ _ _ _ _ _ op_ne (@pe_callB _ _ _ _ _ _ _ _ _ (call_lenK (K := K) rfl) (by rfl) T.n_len bt_len (@pa_cons _ _ _ _ _ (@pv _ 0 _ _ (by rfl) (by first  |  exact  Or.inl  rfl  |  exact  Or.inr  (    Or.inl  rfl  )  |  exact  Or.inr  (    Or.inr  rfl  )) (by decide) (by decide)) (@pa_nil _) (by rfl)) (by decide) (by decide) (by rfl) (by rfl)) (@pv _ 1 _ _ (by rfl) (by first  |  exact  Or.inl  rfl  |  exact  Or.inr  (    Or.inl  rfl  )  |  exact  Or.inr  (    Or.inr  rfl  )) (by decide) (by decide)) (nomark _))))) (@pss_one _ _ _ (@ps_ret _ _ _ _ (@pe_bl _ _ _ _))) (@pss_nil _)) (@pss_cons _ _ _ _ _ (@ps_for _ _ _ _ _ _ _ _ PassesOwn.never rfl (@pi_listK _ K _ _ _ rfl (@pv _ 0 _ _ (by rfl) (by first  |  exact  Or.inl  rfl  |  exact  Or.inr  (    Or.inl  rfl  )  |  exact  Or.inr  (    Or.inr  rfl  )) (by decide) (by decide))) (@pg_name _ _ 2 _ sc__law_kinds.nd rfl (by first | exact Or.inl rfl | exact Or.inr rfl) (by first  |  exact  .inl  rfl  |  exact  .inr  rfl  |  assumption)) (@pss_cons _ _ _ _ _ (@ps_if _ _ _ _ _ _ _ _ (@PW.pt _ _ _ (@pw_or _ _ _ _ _ _ _ (@pt_not _ _ _ _ (@pt_val _ _ _ (@pe_callB _ _ _ _ _ _ _ _ _ (call_isiK (K := K) rfl) (by rfl) T.n_isinstance bt_isinstance (@pa_cons _ _ _ _ _ (@pv _ 2 _ _ (by rfl) (by first  |  exact  Or.inl  rfl  |  exact  Or.inr  (    Or.inl  rfl  )  |  exact  Or.inr  (    Or.inr  rfl  )) (by decide) (by decide)) (@pa_cons _ _ _ _ _ (@pe_bltn _ _ _ _ _ rfl T.n_tuple bt_tuple relT (by decide) (by decide)) (@pa_nil _) (by rfl)) (by rfl)) (by decide) (by decide) (by rfl) (by rfl)) (by intro  _  ;  rfl))) (@pw_or _ _ _ _ _ _ _ (@pt_cmpR _ _ _ _ _ _ _ _ op_ne (@pe_callB _ _ _ _ _ _ _ _ _ (call_lenK (K := K) rfl) (by rfl) T.n_len bt_len (@pa_cons _ _ _ _ _ (@pv _ 2 _ _ (by rfl) (by first  |  exact  Or.inl  rfl  |  exact  Or.inr  (    Or.inl  rfl  )  |  exact  Or.inr  (    Or.inr  rfl  )) (by decide) (by decide)) (@pa_nil _) (by rfl)) (by decide) (by decide) (by rfl) (by rfl)) (@pe_int _ _ _ _) (nomark _)) (@pw_or1 _ _ _ _ (@pt_not _ _ _ _ (@pt_val _ _ _ (@pe_call _ _ _ _ _ _ _ _ _ _ _ _ _ _ _ _ (G__law_whole T) (hr.mono (by decide)) rfl T.m__law_whole T.k__law_whole T.b__law_whole .nil (@pass0 _) (@pa_cons _ _ _ _ _ (@pe_ix _ _ _ _ _ _ _ (ix_tupK (K := K) rfl) (@pv _ 2 _ _ (by rfl) (by first  |  exact  Or.inl  rfl  |  exact  Or.inr  (    Or.inl  rfl  )  |  exact  Or.inr  (    Or.inr  rfl  )) (by decide) (by decide)) (@pe_int _ _ _ _) (fun _ _ => rfl)) (@pa_nil _) (by rfl)) (by decide) (by rfl) (by rfl)) (by intro  _  ;  rfl))))))) (@pss_one _ _ _ (@ps_ret _ _ _ _ (@pe_bl _ _ _ _))) (@pss_nil _)) (@pss_cons _ _ _ _ _ (@ps_if _ _ _ _ _ _ _ _ (@PW.pt _ _ _ (@pw_or _ _ _ _ _ _ _ (@pt_not _ _ _ _ (@pt_val _ _ _ (@pe_callB _ _ _ _ _ _ _ _ _ (call_isiK (K := K) rfl) (by rfl) T.n_isinstance bt_isinstance (@pa_cons _ _ _ _ _ (@pe_ix _ _ _ _ _ _ _ (ix_tupK (K := K) rfl) (@pv _ 2 _ _ (by rfl) (by first  |  exact  Or.inl  rfl  |  exact  Or.inr  (    Or.inl  rfl  )  |  exact  Or.inr  (    Or.inr  rfl  )) (by decide) (by decide)) (@pe_int _ _ _ _) (fun _ _ => rfl)) (@pa_cons _ _ _ _ _ (@pe_bltn _ _ _ _ _ rfl T.n_tuple bt_tuple relT (by decide) (by decide)) (@pa_nil _) (by rfl)) (by rfl)) (by decide) (by decide) (by rfl) (by rfl)) (by intro  _  ;  rfl))) (@pw_or1 _ _ _ _ (@pt_cmpR _ _ _ _ _ _ _ _ op_ne (@pe_callB _ _ _ _ _ _ _ _ _ (call_lenK (K := K) rfl) (by rfl) T.n_len bt_len (@pa_cons _ _ _ _ _ (@pe_ix _ _ _ _ _ _ _ (ix_tupK (K := K) rfl) (@pv _ 2 _ _ (by rfl) (by first  |  exact  Or.inl  rfl  |  exact  Or.inr  (    Or.inl  rfl  )  |  exact  Or.inr  (    Or.inr  rfl  )) (by decide) (by decide)) (@pe_int _ _ _ _) (fun _ _ => rfl)) (@pa_nil _) (by rfl)) (by decide) (by decide) (by rfl) (by rfl)) (@pe_int _ _ _ _) (nomark _))))) (@pss_one _ _ _ (@ps_ret _ _ _ _ (@pe_bl _ _ _ _))) (@pss_nil _)) (@pss_one _ _ _ (@ps_if _ _ _ _ _ _ _ _ (@PW.pt _ _ _ (@pw_or _ _ _ _ _ _ _ (@pt_not _ _ _ _ (@pt_val _ _ _ (@pe_callB _ _ _ _ _ _ _ _ _ (call_isiK (K := K) rfl) (by rfl) T.n_isinstance bt_isinstance (@pa_cons _ _ _ _ _ (@pe_ix _ _ _ _ _ _ _ (ix_tupK (K := K) rfl) (@pe_ix _ _ _ _ _ _ _ (ix_tupK (K := K) rfl) (@pv _ 2 _ _ (by rfl) (by first  |  exact  Or.inl  rfl  |  exact  Or.inr  (    Or.inl  rfl  )  |  exact  Or.inr  (    Or.inr  rfl  )) (by decide) (by decide)) (@pe_int _ _ _ _) (fun _ _ => rfl)) (@pe_int _ _ _ _) (fun _ _ => rfl)) (@pa_cons _ _ _ _ _ (@pe_bltn _ _ _ _ _ rfl T.n_str bt_str relT (by decide) (by decide)) (@pa_nil _) (by rfl)) (by rfl)) (by decide) (by decide) (by rfl) (by rfl)) (by intro  _  ;  rfl))) (@pw_or1 _ _ _ _ (@pt_not _ _ _ _ (@pt_val _ _ _ (@pe_call _ _ _ _ _ _ _ _ _ _ _ _ _ _ _ _ (G__law_whole T) (hr.mono (by decide)) rfl T.m__law_whole T.k__law_whole T.b__law_whole .nil (@pass0 _) (@pa_cons _ _ _ _ _ (@pe_ix _ _ _ _ _ _ _ (ix_tupK (K := K) rfl) (@pe_ix _ _ _ _ _ _ _ (ix_tupK (K := K) rfl) (@pv _ 2 _ _ (by rfl) (by first  |  exact  Or.inl  rfl  |  exact  Or.inr  (    Or.inl  rfl  )  |  exact  Or.inr  (    Or.inr  rfl  )) (by decide) (by decide)) (@pe_int _ _ _ _) (fun _ _ => rfl)) (@pe_int _ _ _ _) (fun _ _ => rfl)) (@pa_nil _) (by rfl)) (by decide) (by rfl) (by rfl)) (by intro  _  ;  rfl)))))) (@pss_one _ _ _ (@ps_ret _ _ _ _ (@pe_bl _ _ _ _))) (@pss_nil _))))) (by intro  _  ;  rfl)) (@pss_one _ _ _ (@ps_ret _ _ _ _ (@pe_bl _ _ _ _))))), ?_⟩
    walk_at "rd"
    refine ⟨_, .lst LA.top, true, rfl, ?_⟩
    rw [if_neg (by decide)]
    refine ⟨rs.length, .inl ⟨_, SqL.of LA.top, by rw [List.length_map]⟩, ?_⟩
    rw [decide_eq_true rfl, if_neg (by decide)]
    refine ForL.of (xs := rs.map fun r => V.ref r.t) (fun i σ H' => ∃ b2 : Option V, σ = [some (.ref l), some (.int (rs.length : Int)), b2] ∧ Same H H') ⟨_, rfl, Same.refl _⟩ ?_ ?_ ?_
    · rintro i σ H' hi ⟨b2, rfl, s1⟩
      exact SqL.of (s1 _ _ LA.top)
    · rintro i v σ H' hv ⟨b2, rfl, s1⟩
      rw [List.getElem?_map] at hv
      obtain ⟨r, hr, rfl⟩ := Option.map_eq_some_iff.mp hv
      have hm := List.mem_of_getElem? hr
      have rT : H' r.t = some (.tup [.ref r.b, .int r.p]) := s1 _ _ (LA.row r hm)
      have rB : H' r.b = some (.tup [.str r.k.1, .int r.k.2]) := s1 _ _ (LA.key r hm)
      walk_at "rd"
      refine ⟨_, .tup rT, true, rfl, ?_⟩
      rw [if_neg (by decide)]
      refine ⟨2, .inr ⟨_, SqT.of rT, rfl⟩, ?_⟩
      rw [if_neg (by decide)]
      refine ⟨_, SqT.of rT, _, rfl, _, rfl, _, SqT.of rT, _, rfl, _, .tup rB, true, rfl, ?_⟩
      rw [if_neg (by decide)]
      refine ⟨_, SqT.of rT, _, rfl, 2, .inr ⟨_, SqT.of rB, rfl⟩, ?_⟩
      rw [if_neg (by decide)]
      refine ⟨_, SqT.of rT, _, rfl, _, rfl, _, SqT.of rB, _, rfl, _, .str _, true, rfl, ?_⟩
      rw [if_neg (by decide)]
      exact ⟨_, SqT.of rT, _, rfl, _, rfl, _, SqT.of rB, _, rfl, _, rfl, s1⟩
    · rintro σ H' ⟨b2, rfl, s1⟩
      walk_at "rd"
      exact k _ s1
theorem rows_next : ∀ {ss : List StM} {e : Int} {i : Nat} {x y : Int × Int} {s : StM}, (rowsF e ss)[i]? = some x → (rowsF e ss)[i + 1]? = some y → ss[i + 1]? = some s → y.1 = multF x.2 s.step
  | [], _, _, _, _, _, h, _, _ => by cases h
  | a :: ss, e, 0, x, y, s, h1, h2, h3 => by
    cases h1
    cases ss with
    | nil => cases h3
    | cons b ss => cases h3; cases h2; rfl
  | a :: ss, e, i + 1, x, y, s, h1, h2, h3 => rows_next (ss := ss) (i := i) h1 h2 h3
theorem ord_pw {ps : List PcM} {ks ls : List PairD} (h : InOrd ps ks ls) (nd : ks.Nodup) : ls.Pairwise fun x y => ∀ sx sy, stF ps x = some sx → stF ps y = some sy → sx.kind.cps.toList < sy.kind.cps.toList ∨ (sx.kind = sy.kind ∧ ltP x y = true) := by
  obtain ⟨ss, pm, pw, rfl⟩ := h
  have nd2 : ss.Nodup := pm.nodup_iff.mpr nd
  have lt : ss.Pairwise fun x y => ltP x y = true := (pw.and nd2).imp fun {x y} ⟨h1, h2⟩ => by
    cases z : ltP x y with
    | true => rfl
    | false => exact absurd (ltP_total z h1) h2
  have kd : ∀ {kd : Str} {x : PairD} {s : StM}, x ∈ ss.filter (isKd ps kd) → stF ps x = some s → s.kind = kd := fun {kd x s} hx hs => by
    have := (List.mem_filter.mp hx).2
    unfold isKd at this
    rw [hs] at this
    exact Option.some.inj (of_decide_eq_true this)
  refine List.pairwise_append.mpr ⟨(lt.filter _).imp_of_mem fun {x y} hx hy h sx sy h1 h2 => .inr ⟨by rw [kd hx h1, kd hy h2], h⟩, (lt.filter _).imp_of_mem fun {x y} hx hy h sx sy h1 h2 => .inr ⟨by rw [kd hx h1, kd hy h2], h⟩, fun x hx y hy sx sy h1 h2 => .inl ?_⟩
  rw [kd hx h1, kd hy h2]
  decide +kernel
theorem G__law_laid_so (T : Txt K mg A) : FnOk P w K mg base CX0 1 A._law_laid_so A.fd__law_laid_so ["_law_found", "_law_known_here"] sp_laidso := by
  refine T.F__law_laid_so.ok sc__law_laid_so (fun vs H Q E h => ?_) (fun cdv Ar outer s H vs Q E hr h => ?_)
  · obtain ⟨l, d, ps, ps', ks, rs, kvs, rfl, _⟩ := h
    rfl
  · obtain ⟨l, d, ps, ps', ks, rs, kvs, rfl, LA, hC, hS, hd, kn, nd, k⟩ := h
    refine ⟨_, (@pss_cons _ _ _ _ _ (@ps_set _ _ 2 _ _ _ _ sc__law_laid_so.nd rfl (by first | exact Or.inl rfl | exact Or.inr rfl) (@pe_int _ _ _ _) (by rfl) (by first  |  exact  .inl  rfl  |  exact  .inr  rfl  |  assumption)) (@pss_cons _ _ _ _ _ (@ps_set _ _ 3 _ _ _ _ sc__law_laid_so.nd rfl (by first | exact Or.inl rfl | exact Or.inr rfl) (@pe_tup _ _ _ _ _ (@pa_cons _ _ _ _ _ (@pe_str _ _ _ _) (@pa_cons _ _ _ _ _ (@pe_tup _ _ _ _ _ (@pa_cons _ _ _ _ _ (@pe_str _ _ _ _) (@pa_cons _ _ _ _ _ (@pe_int _ _ _ _) (@pa_nil _) (by rfl)) (by rfl))) (@pa_nil _) (by rfl)) (by rfl))) (by rfl) (by first  |  exact  .inl  rfl  |  exact  .inr  rfl  |  assumption)) (@pss_cons _ _ _ _ _ (@ps_for _ _ _ _ _ _ _ _ PassesOwn.never rfl (@pi_listK _ K _ _ _ rfl (@pv _ 0 _ _ (by rfl) (by first  |  exact  Or.inl  rfl  |  exact  Or.inr  (    Or.inl  rfl  )  |  exact  Or.inr  (    Or.inr  rfl  )) (by decide) (by decide))) (@pg_tupK _ K _ _ _ 2 _ rfl rfl (@pgs_cons _ _ _ _ _ (@pg_name _ _ 4 _ sc__law_laid_so.nd rfl (by first | exact Or.inl rfl | exact Or.inr rfl) (by first  |  exact  .inl  rfl  |  exact  .inr  rfl  |  assumption)) (@pgs_cons _ _ _ _ _ (@pg_name _ _ 5 _ sc__law_laid_so.nd rfl (by first | exact Or.inl rfl | exact Or.inr rfl) (by first  |  exact  .inl  rfl  |  exact  .inr  rfl  |  assumption)) (@pgs_nil _) (by rfl)) (by rfl)) (by rfl) (by rfl)) (@pss_cons _ _ _ _ _ (@ps_asg _ _ _ _ _ _ (@pe_dget _ _ _ _ _ _ (hu_of hr) (@pv _ 1 _ _ (by rfl) (by first  |  exact  Or.inl  rfl  |  exact  Or.inr  (    Or.inl  rfl  )  |  exact  Or.inr  (    Or.inr  rfl  )) (by decide) (by decide)) (@pv _ 4 _ _ (by rfl) (by first  |  exact  Or.inl  rfl  |  exact  Or.inr  (    Or.inl  rfl  )  |  exact  Or.inr  (    Or.inr  rfl  )) (by decide) (by decide)) (fun _ _ => rfl)) (@pg_tupK _ K _ _ _ 4 _ rfl rfl (@pgs_cons _ _ _ _ _ (@pg_name _ _ 6 _ sc__law_laid_so.nd rfl (by first | exact Or.inl rfl | exact Or.inr rfl) (by first  |  exact  .inl  rfl  |  exact  .inr  rfl  |  assumption)) (@pgs_cons _ _ _ _ _ (@pg_name _ _ 7 _ sc__law_laid_so.nd rfl (by first | exact Or.inl rfl | exact Or.inr rfl) (by first  |  exact  .inl  rfl  |  exact  .inr  rfl  |  assumption)) (@pgs_cons _ _ _ _ _ (@pg_name _ _ 8 _ sc__law_laid_so.nd rfl (by first | exact Or.inl rfl | exact Or.inr rfl) (by first  |  exact  .inl  rfl  |  exact  .inr  rfl  |  assumption)) (@pgs_cons _ _ _ _ _ (@pg_name _ _ 9 _ sc__law_laid_so.nd rfl (by first | exact Or.inl rfl | exact Or.inr rfl) (by first  |  exact  .inl  rfl  |  exact  .inr  rfl  |  assumption)) (@pgs_nil _) (by rfl)) (by rfl)) (by rfl)) (by rfl)) (by rfl) (by rfl)) (by rfl) (by rfl) (by rfl)) (@pss_cons _ _ _ _ _ (@ps_if _ _ _ _ _ _ _ _ (@pt_not _ _ _ _ (@pt_cmpR _ _ _ _ _ _ _ _ (op_ltN hr.units) (@pv _ 3 _ _ (by rfl) (by first  |  exact  Or.inl  rfl  |  exact  Or.inr  (    Or.inl  rfl  )  |  exact  Or.inr  (    Or.inr  rfl  )) (by decide) (by decide)) (@pe_tup _ _ _ _ _ (@pa_cons _ _ _ _ _ (@pv _ 6 _ _ (by rfl) (by first  |  exact  Or.inl  rfl  |  exact  Or.inr  (    Or.inl  rfl  )  |  exact  Or.inr  (    Or.inr  rfl  )) (by decide) (by decide)) (@pa_cons _ _ _ _ _ (@pv _ 4 _ _ (by rfl) (by first  |  exact  Or.inl  rfl  |  exact  Or.inr  (    Or.inl  rfl  )  |  exact  Or.inr  (    Or.inr  rfl  )) (by decide) (by decide)) (@pa_nil _) (by rfl)) (by rfl))) (nomark _))) (@pss_one _ _ _ (@ps_ret _ _ _ _ (@pe_bl _ _ _ _))) (@pss_nil _)) (@pss_cons _ _ _ _ _ (@ps_if _ _ _ _ _ _ _ _ (@PW.pt _ _ _ (@pw_or _ _ _ _ _ _ _ (@pt_cmpR _ _ _ _ _ _ _ _ op_ne (@pe_op _ _ _ _ _ _ _ _ op_mod (@pv _ 5 _ _ (by rfl) (by first  |  exact  Or.inl  rfl  |  exact  Or.inr  (    Or.inl  rfl  )  |  exact  Or.inr  (    Or.inr  rfl  )) (by decide) (by decide)) (@pv _ 7 _ _ (by rfl) (by first  |  exact  Or.inl  rfl  |  exact  Or.inr  (    Or.inl  rfl  )  |  exact  Or.inr  (    Or.inr  rfl  )) (by decide) (by decide))) (@pe_int _ _ _ _) (nomark _)) (@pw_or _ _ _ _ _ _ _ (@pt_cmpR _ _ _ _ _ _ _ _ op_lt (@pv _ 5 _ _ (by rfl) (by first  |  exact  Or.inl  rfl  |  exact  Or.inr  (    Or.inl  rfl  )  |  exact  Or.inr  (    Or.inr  rfl  )) (by decide) (by decide)) (@pv _ 2 _ _ (by rfl) (by first  |  exact  Or.inl  rfl  |  exact  Or.inr  (    Or.inl  rfl  )  |  exact  Or.inr  (    Or.inr  rfl  )) (by decide) (by decide)) (nomark _)) (@pw_or1 _ _ _ _ (@pt_cmpR _ _ _ _ _ _ _ _ op_ge (@pv _ 5 _ _ (by rfl) (by first  |  exact  Or.inl  rfl  |  exact  Or.inr  (    Or.inl  rfl  )  |  exact  Or.inr  (    Or.inr  rfl  )) (by decide) (by decide)) (@pe_op _ _ _ _ _ _ _ _ op_add (@pv _ 2 _ _ (by rfl) (by first  |  exact  Or.inl  rfl  |  exact  Or.inr  (    Or.inl  rfl  )  |  exact  Or.inr  (    Or.inr  rfl  )) (by decide) (by decide)) (@pv _ 7 _ _ (by rfl) (by first  |  exact  Or.inl  rfl  |  exact  Or.inr  (    Or.inl  rfl  )  |  exact  Or.inr  (    Or.inr  rfl  )) (by decide) (by decide))) (nomark _)))))) (@pss_one _ _ _ (@ps_ret _ _ _ _ (@pe_bl _ _ _ _))) (@pss_nil _)) (@pss_cons _ _ _ _ _ (@ps_set _ _ 3 _ _ _ _ sc__law_laid_so.nd rfl (by first | exact Or.inl rfl | exact Or.inr rfl) (@pe_tup _ _ _ _ _ (@pa_cons _ _ _ _ _ (@pv _ 6 _ _ (by rfl) (by first  |  exact  Or.inl  rfl  |  exact  Or.inr  (    Or.inl  rfl  )  |  exact  Or.inr  (    Or.inr  rfl  )) (by decide) (by decide)) (@pa_cons _ _ _ _ _ (@pv _ 4 _ _ (by rfl) (by first  |  exact  Or.inl  rfl  |  exact  Or.inr  (    Or.inl  rfl  )  |  exact  Or.inr  (    Or.inr  rfl  )) (by decide) (by decide)) (@pa_nil _) (by rfl)) (by rfl))) (by rfl) (by first  |  exact  .inl  rfl  |  exact  .inr  rfl  |  assumption)) (@pss_one _ _ _ (@ps_set _ _ 2 _ _ _ _ sc__law_laid_so.nd rfl (by first | exact Or.inl rfl | exact Or.inr rfl) (@pe_op _ _ _ _ _ _ _ _ op_add (@pv _ 5 _ _ (by rfl) (by first  |  exact  Or.inl  rfl  |  exact  Or.inr  (    Or.inl  rfl  )  |  exact  Or.inr  (    Or.inr  rfl  )) (by decide) (by decide)) (@pe_callB _ _ _ _ _ _ _ _ _ (call_lenK (K := K) rfl) (by rfl) T.n_len bt_len (@pa_cons _ _ _ _ _ (@pv _ 8 _ _ (by rfl) (by first  |  exact  Or.inl  rfl  |  exact  Or.inr  (    Or.inl  rfl  )  |  exact  Or.inr  (    Or.inr  rfl  )) (by decide) (by decide)) (@pa_nil _) (by rfl)) (by decide) (by decide) (by rfl) (by rfl))) (by rfl) (by first  |  exact  .inl  rfl  |  exact  .inr  rfl  |  assumption))))))) (by intro  _  ;  rfl)) (@pss_one _ _ _ (@ps_ret _ _ _ _ (@pe_bl _ _ _ _)))))), ?_⟩
    walk_at "rd"
    refine ⟨by rw [sizeLine_eq]; decide, fun p hp => ⟨by rw [sizeLine_eq]; decide, fun q hq => ?_⟩⟩
    have s1 := same_new (o := HO.tup [V.str (Str.ofString ""), V.int 0]) hp
    have s2 := same_new (o := HO.tup [V.str (Str.ofString ""), V.ref p]) hq
    have p2 := s2 _ _ (upd_same (H := H) (a := p) (o := HO.tup [V.str (Str.ofString ""), V.int 0]))
    have q2 : upd (upd H p (HO.tup [V.str (Str.ofString ""), V.int 0])) q (HO.tup [V.str (Str.ofString ""), V.ref p]) q = some (HO.tup [V.str (Str.ofString ""), V.ref p]) := upd_same
    have s0 := s1.trans s2
    generalize upd (upd H p (HO.tup [V.str (Str.ofString ""), V.int 0])) q (HO.tup [V.str (Str.ofString ""), V.ref p]) = H2 at *
    obtain ⟨ss, e1, e2⟩ := LA.lay
    have pw := ord_pw LA.ord nd
    have all : ∀ {i : Nat} {r : RowL}, rs[i]? = some r → ∃ s s' : StM, ss[i]? = some s ∧ stF ps' r.k = some s ∧ stF ps r.k = some s' ∧ s.kind = s'.kind ∧ s.step = s'.step ∧ s.words = s'.words ∧ 1 ≤ s'.step ∧ (s'.kind = Str.ofString "code" ∨ s'.kind = Str.ofString "data") ∧ s'.At H ∧ r.e = r.p + (s'.words.length : Int) := fun {i r} hr => by
      obtain ⟨s, h1, h2⟩ := some_map e1 hr
      obtain ⟨s', h3, h4, h5, h6⟩ := hC.st1 h2
      obtain ⟨pc, s3, hp, _, _, g1, g2⟩ := stF_some (ps := ps) (k := r.k) (by rw [h3]; rfl)
      rw [h3] at g2
      cases g2
      have hm := List.mem_of_getElem? g1
      have := hS.st pc hp s' hm
      refine ⟨s, s', h1, h2, h3, h4, h5, h6, this.1, this.2.2.1, (hS.at_ pc hp).ss s' hm, ?_⟩
      have rp : (rowsF 0 ss)[i]? = some (r.p, r.e) := by rw [← e2, List.getElem?_map, hr]; rfl
      have key : ∀ (ss : List StM) (e : Int) (i : Nat) (s : StM), ss[i]? = some s → ∀ x, (rowsF e ss)[i]? = some x → x.2 = x.1 + (s.words.length : Int) := by
        intro ss
        induction ss with
        | nil => intro e i s h; cases h
        | cons a ss ih =>
          intro e i s h x hx
          cases i with
          | zero => cases h; cases hx; rfl
          | succ i => exact ih _ i s h x hx
      rw [← h6]; exact key ss 0 i s h1 _ rp
    refine ForL.of (xs := rs.map fun r => V.ref r.t) (fun i σ H' => ∃ (en : Int) (la a' : Addr) (kd : Str) (kk : PairD) (b4 b5 b6 b7 b8 b9 : Option V), σ = [some (.ref l), some (.ref d), some (.int en), some (.ref la), b4, b5, b6, b7, b8, b9] ∧ Same H2 H' ∧ H' la = some (.tup [.str kd, .ref a']) ∧ H' a' = some (.tup [.str kk.1, .int kk.2]) ∧
      (∀ r s, rs[i]? = some r → stF ps' r.k = some s → r.p = multF en s.step ∧ (kd.cps.toList < s.kind.cps.toList ∨ (kd = s.kind ∧ ltP kk r.k = true)))) ⟨0, q, p, _, (Str.ofString "", 0), _, _, _, _, _, _, rfl, Same.refl _, q2, p2, fun r s hr hs => ?_⟩ ?_ ?_ ?_
    · obtain ⟨s', _, h1, h2, h3, h4, _, _, _, h5, _⟩ := all hr
      rw [h2] at hs
      cases hs
      refine ⟨?_, .inl ?_⟩
      · have rp : (rowsF 0 ss)[0]? = some (r.p, r.e) := by rw [← e2, List.getElem?_map, hr]; rfl
        cases ss with
        | nil => cases h1
        | cons a ss => cases h1; exact (congrArg Prod.fst (Option.some.inj rp)).symm
      · rw [h4]
        rcases h5 with h5 | h5 <;> rw [h5] <;> decide +kernel
    · rintro i σ H' hi ⟨en, la, a', kd, kk, b4, b5, b6, b7, b8, b9, rfl, s3, _⟩
      exact SqL.of (s3 _ _ (s0 _ _ LA.top))
    · rintro i v σ H' hv ⟨en, la, a', kd, kk, b4, b5, b6, b7, b8, b9, rfl, s3, g1, g2, g3⟩
      rw [List.getElem?_map] at hv
      obtain ⟨r, hr, rfl⟩ := Option.map_eq_some_iff.mp hv
      have hm := List.mem_of_getElem? hr
      have sA := s0.trans s3
      have rT : H' r.t = some (.tup [.ref r.b, .int r.p]) := sA _ _ (LA.row r hm)
      have rB : H' r.b = some (.tup [.str r.k.1, .int r.k.2]) := sA _ _ (LA.key r hm)
      obtain ⟨st, st', h1, h2, h3, h4, h5, h6, h7, h8, h9, h10⟩ := all hr
      have sa := h9.mono sA
      obtain ⟨m1, m2⟩ := g3 r st hr h2
      have dg : DGet H' d (V.ref r.b) (some st'.v) := .inr ⟨kvs, [.inr r.k.1, .inl r.k.2], r.b, .inl (sA _ _ hd), rfl, rB, (kn r.k st' h3).symm⟩
      have ml := mult_lo (e := en) (st := st'.step) h7
      rw [h5] at m1
      rw [← m1] at ml
      rw [h4] at m2
      walk_at "rd"
      refine ⟨_, SqT.of rT, rfl, _, _, rfl, _, _, rfl, rfl, _, dg, _, rfl, _, SqT.of sa.top, rfl, _, _, rfl, _, _, rfl, _, _, rfl, _, _, rfl, rfl, by rw [sizeLine_eq]; decide, fun t ht => ?_⟩
      have s4 := same_new (o := HO.tup [V.str st'.kind, V.ref r.b]) ht
      refine ⟨a', r.b, kd, s4 _ _ g1, st'.kind, upd_same, kk, s4 _ _ g2, r.k, s4 _ _ rB, m2, _, rfl, _, rfl, by omega, ?_⟩
      rw [decide_eq_true ml.2.2, if_neg (by decide)]
      refine ⟨_, rfl, ?_⟩
      rw [decide_eq_false (by omega), if_neg (by decide)]
      refine ⟨_, rfl, _, rfl, ?_⟩
      rw [decide_eq_false (by omega), if_neg (by decide)]
      refine ⟨by rw [sizeLine_eq]; decide, fun u hu => ?_⟩
      have s5 := same_new (o := HO.tup [V.str st'.kind, V.ref r.b]) hu
      refine ⟨st'.words.length, .inl ⟨_, SqL.of ((s4.trans s5) _ _ sa.wd), by rw [List.length_map]⟩, _, rfl, s3.trans (s4.trans s5), r.b, st'.kind, upd_same, r.k, (s4.trans s5) _ _ rB, fun r2 st2 hr2 hs2 => ?_⟩
      obtain ⟨y, y', i1, i2, i3, i4, i5, i6, _⟩ := all hr2
      rw [i2] at hs2
      cases hs2
      have rp : (rowsF 0 ss)[i]? = some (r.p, r.e) := by rw [← e2, List.getElem?_map, hr]; rfl
      have rp2 : (rowsF 0 ss)[i + 1]? = some (r2.p, r2.e) := by rw [← e2, List.getElem?_map, hr2]; rfl
      refine ⟨by rw [← h10]; exact rows_next rp rp2 i1, ?_⟩
      have l2 := (List.getElem?_eq_some_iff.mp hr2).1
      have b1 : (rs.map (·.k))[i]? = some r.k := by rw [List.getElem?_map, hr]; rfl
      have b2 : (rs.map (·.k))[i + 1]? = some r2.k := by rw [List.getElem?_map, hr2]; rfl
      obtain ⟨c1, d1⟩ := List.getElem?_eq_some_iff.mp b1
      obtain ⟨c2, d2⟩ := List.getElem?_eq_some_iff.mp b2
      have := List.pairwise_iff_getElem.mp pw i (i + 1) c1 c2 (by omega) st st2 (by rw [d1]; exact h2) (by rw [d2]; exact i2)
      rw [d1, d2, h4] at this
      exact this
    · rintro σ H' ⟨en, la, a', kd, kk, b4, b5, b6, b7, b8, b9, rfl, s3, _⟩
      walk_at "rd"
      exact k _ (s0.trans s3)
noncomputable def rowD (x : PairD × Int) : D := .tup [.tup [.str x.1.1, .int x.1.2], .int x.2]
theorem laid_rep {H : Hp} {l : Addr} {rs : List RowL} (top : H l = some (.lst (rs.map fun r => V.ref r.t))) (row : ∀ r ∈ rs, H r.t = some (.tup [.ref r.b, .int r.p])) (key : ∀ r ∈ rs, H r.b = some (.tup [.str r.k.1, .int r.k.2])) : Rep K H (.lst (rs.map fun r => rowD (r.k, r.p))) (.ref l) := by
  simp only [Rep]
  refine ⟨_, _, rfl, SqL.of top, RepL.map fun r hr => ?_⟩
  simp only [rowD, Rep]
  refine ⟨_, _, rfl, SqT.of (row r hr), ?_⟩
  simp only [RepL, Rep]
  exact ⟨_, _, rfl, ⟨_, _, rfl, SqT.of (key r hr), by simp⟩, _, _, rfl, rfl, rfl⟩
theorem laid_mono {H H' : Hp} {b : Bool} {l : Addr} {ps : List PcM} {ks : List PairD} {rs : List RowL} (h : LaidAt H b l ps ks rs) (s : Same H H') : LaidAt H' b l ps ks rs := ⟨s _ _ h.top, fun r hr => s _ _ (h.row r hr), fun r hr => s _ _ (h.key r hr), h.ord, h.lay⟩
theorem pcs_ne {H : Hp} {L L' : Addr} {ps ps' : List PcM} {Q : VK} (h : Pcs H L ps) (h' : Pcs H L' ps') (c : CopyL ps ps') (k : Q (.bl false) H) : rNeD K (V.ref L') (V.ref L) H Q :=
  ⟨_, _, .inl ⟨h'.rep, h.rep⟩, Nat.le_trans (depL_le (n := 5) fun x _ => dep_pc x) (by decide), by rw [c.d, deqL_refl]; exact k⟩
theorem ks_ne2 {H : Hp} {a b : Addr} {qs : List (Addr × PairD)} {Q : VK} (h : KsAt H a qs) (h' : KsAt H b qs) (k : Q (.bl false) H) : rNeD K (V.ref a) (V.ref b) H Q :=
  ⟨_, _, .inl ⟨ks_rep h, ks_rep h'⟩, Nat.le_trans (depL_le (n := 3) fun x _ => by simp [dep, depL]) (by decide), by rw [deqL_refl]; exact k⟩
theorem laid_dep (rs : List RowL) : depL (rs.map fun r => rowD (r.k, r.p)) ≤ 20 := Nat.le_trans (depL_le (n := 4) fun x _ => by simp [rowD, dep, depL]) (by decide)
theorem laid_one {H H' : Hp} {l l' : Addr} {ps : List PcM} {ks : List PairD} {rs rs' : List RowL} (h : LaidAt H false l ps ks rs) (h' : LaidAt H' false l' ps ks rs') : (rs.map fun r => rowD (r.k, r.p)) = rs'.map fun r => rowD (r.k, r.p) := by
  have ek := ord_one h.ord h'.ord
  obtain ⟨ss, e1, e2⟩ := h.lay
  obtain ⟨ss', e1', e2'⟩ := h'.lay
  have es : ss = ss' := by
    have a1 : (rs.map (·.k)).map (stF ps) = ss.map some := by rw [List.map_map]; exact e1
    have a2 : (rs'.map (·.k)).map (stF ps) = ss'.map some := by rw [List.map_map]; exact e1'
    rw [← ek, a1] at a2
    exact (List.map_inj_right (fun _ _ h => Option.some.inj h)).mp a2
  rw [← es, ← e2] at e2'
  have ln : rs.length = rs'.length := by have := congrArg List.length ek; rwa [List.length_map, List.length_map] at this
  refine List.ext_getElem? fun i => ?_
  have k1 := congrArg (fun l => l[i]?) ek
  have k2 := congrArg (fun l => l[i]?) e2'
  simp only [List.getElem?_map] at k1 k2 ⊢
  cases h1 : rs[i]? with
  | none =>
    have : rs'[i]? = none := by rw [List.getElem?_eq_none_iff] at h1 ⊢; omega
    rw [this]
  | some r =>
    cases h2 : rs'[i]? with
    | none => rw [List.getElem?_eq_none_iff] at h2; have := (List.getElem?_eq_some_iff.mp h1).1; omega
    | some r' =>
      rw [h1, h2] at k1 k2
      have k1 : r.k = r'.k := Option.some.inj k1
      have k2 : r'.p = r.p := congrArg Prod.fst (Option.some.inj k2)
      show some (rowD (r.k, r.p)) = some (rowD (r'.k, r'.p))
      rw [k1, k2]
theorem ord_perm {ps : List PcM} {ks ls : List PairD} (h : InOrd ps ks ls) (hk : ∀ k ∈ ks, isKd ps (Str.ofString "code") k = true ∨ isKd ps (Str.ofString "data") k = true) : ls.Perm ks := by
  obtain ⟨ss, pm, pw, rfl⟩ := h
  have hk : ∀ k ∈ ss, isKd ps (Str.ofString "code") k = true ∨ isKd ps (Str.ofString "data") k = true := fun k h => hk k (pm.mem_iff.mp h)
  refine List.Perm.trans ?_ pm
  have e : ss.filter (isKd ps (Str.ofString "data")) = ss.filter (fun x => !isKd ps (Str.ofString "code") x) := by
    refine List.filter_congr fun x hx => ?_
    have no : ¬ (isKd ps (Str.ofString "code") x = true ∧ isKd ps (Str.ofString "data") x = true) := fun ⟨a, b⟩ => by
      unfold isKd at a b
      rw [of_decide_eq_true a] at b
      exact absurd (Option.some.inj (of_decide_eq_true b)) (by decide +kernel)
    rcases hk x hx with z | z
    · cases y : isKd ps (Str.ofString "data") x with
      | true => exact absurd ⟨z, y⟩ no
      | false => rw [z]; rfl
    · cases y : isKd ps (Str.ofString "code") x with
      | true => exact absurd ⟨y, z⟩ no
      | false => rw [z]; rfl
  rw [e]
  exact List.filter_append_perm _ _
theorem G_law (T : Txt K mg A) : FnOk P w K mg base CX0 9 A.law A.fd_law ["_law_script"] (sp_law K) := by
  refine T.F_law.ok sc_law (fun vs H Q E h => ?_) (fun cdv Ar outer s H vs Q E hr h => ?_)
  · obtain ⟨a, ns, rfl, _⟩ := h
    rfl
  · obtain ⟨sc, ns, rfl, hS, hl, k⟩ := h
    refine ⟨_, (@pss_cons _ _ _ _ _ (@ps_asg _ _ _ _ _ _ (@pe_call _ _ _ _ _ _ _ _ _ _ _ _ _ _ _ _ (G__law_drawn T) (hr.mono (by decide)) rfl T.m__law_drawn T.k__law_drawn T.b__law_drawn .nil (@pass0 _) (@pa_cons _ _ _ _ _ (@pv _ 0 _ _ (by rfl) (by first  |  exact  Or.inl  rfl  |  exact  Or.inr  (    Or.inl  rfl  )  |  exact  Or.inr  (    Or.inr  rfl  )) (by decide) (by decide)) (@pa_cons _ _ _ _ _ (@pe_int _ _ _ _) (@pa_nil _) (by rfl)) (by rfl)) (by decide) (by rfl) (by rfl)) (@pg_tupK _ K _ _ _ 2 _ rfl rfl (@pgs_cons _ _ _ _ _ (@pg_name _ _ 1 _ sc_law.nd rfl (by first | exact Or.inl rfl | exact Or.inr rfl) (by first  |  exact  .inl  rfl  |  exact  .inr  rfl  |  assumption)) (@pgs_cons _ _ _ _ _ (@pg_name _ _ 2 _ sc_law.nd rfl (by first | exact Or.inl rfl | exact Or.inr rfl) (by first  |  exact  .inl  rfl  |  exact  .inr  rfl  |  assumption)) (@pgs_nil _) (by rfl)) (by rfl)) (by rfl) (by rfl)) (by rfl) (by rfl) (by rfl)) (@pss_cons _ _ _ _ _ (@ps_set _ _ 3 _ _ _ _ sc_law.nd rfl (by first | exact Or.inl rfl | exact Or.inr rfl) (@pe_call _ _ _ _ _ _ _ _ _ _ _ _ _ _ _ _ (G__law_copies T) (hr.mono (by decide)) rfl T.m__law_copies T.k__law_copies T.b__law_copies .nil (@pass0 _) (@pa_cons _ _ _ _ _ (@pv _ 1 _ _ (by rfl) (by first  |  exact  Or.inl  rfl  |  exact  Or.inr  (    Or.inl  rfl  )  |  exact  Or.inr  (    Or.inr  rfl  )) (by decide) (by decide)) (@pa_nil _) (by rfl)) (by decide) (by rfl) (by rfl)) (by rfl) (by first  |  exact  .inl  rfl  |  exact  .inr  rfl  |  assumption)) (@pss_cons _ _ _ _ _ (@ps_set _ _ 4 _ _ _ _ sc_law.nd rfl (by first | exact Or.inl rfl | exact Or.inr rfl) (@pe_callTy _ _ _ _ _ _ _ _ _ (call_list_ofK (K := K) rfl) (by rfl) T.n_list bt_list (@pa_cons _ _ _ _ _ (@pv _ 2 _ _ (by rfl) (by first  |  exact  Or.inl  rfl  |  exact  Or.inr  (    Or.inl  rfl  )  |  exact  Or.inr  (    Or.inr  rfl  )) (by decide) (by decide)) (@pa_nil _) (by rfl)) (by decide) (by decide) (by rfl) (by rfl)) (by rfl) (by first  |  exact  .inl  rfl  |  exact  .inr  rfl  |  assumption)) (@pss_cons _ _ _ _ _ (@ps_set _ _ 5 _ _ _ _ sc_law.nd rfl (by first | exact Or.inl rfl | exact Or.inr rfl) (@pe_call _ _ _ _ _ _ _ _ _ _ _ _ _ _ _ _ (G_laid T) (hr.mono (by decide)) rfl T.m_laid T.k_laid T.b_laid .nil (@pass0 _) (@pa_cons _ _ _ _ _ (@pv _ 3 _ _ (by rfl) (by first  |  exact  Or.inl  rfl  |  exact  Or.inr  (    Or.inl  rfl  )  |  exact  Or.inr  (    Or.inr  rfl  )) (by decide) (by decide)) (@pa_cons _ _ _ _ _ (@pv _ 4 _ _ (by rfl) (by first  |  exact  Or.inl  rfl  |  exact  Or.inr  (    Or.inl  rfl  )  |  exact  Or.inr  (    Or.inr  rfl  )) (by decide) (by decide)) (@pa_nil _) (by rfl)) (by rfl)) (by decide) (by rfl) (by rfl)) (by rfl) (by first  |  exact  .inl  rfl  |  exact  .inr  rfl  |  assumption)) (@pss_cons _ _ _ _ _ (@ps_if _ _ _ _ _ _ _ _ (@PW.pt _ _ _ (@pw_or _ _ _ _ _ _ _ (@pt_not _ _ _ _ (@pt_val _ _ _ (@pe_call _ _ _ _ _ _ _ _ _ _ _ _ _ _ _ _ (G__law_kinds T) (hr.mono (by decide)) rfl T.m__law_kinds T.k__law_kinds T.b__law_kinds .nil (@pass0 _) (@pa_cons _ _ _ _ _ (@pv _ 5 _ _ (by rfl) (by first  |  exact  Or.inl  rfl  |  exact  Or.inr  (    Or.inl  rfl  )  |  exact  Or.inr  (    Or.inr  rfl  )) (by decide) (by decide)) (@pa_cons _ _ _ _ _ (@pe_callB _ _ _ _ _ _ _ _ _ (call_lenK (K := K) rfl) (by rfl) T.n_len bt_len (@pa_cons _ _ _ _ _ (@pv _ 2 _ _ (by rfl) (by first  |  exact  Or.inl  rfl  |  exact  Or.inr  (    Or.inl  rfl  )  |  exact  Or.inr  (    Or.inr  rfl  )) (by decide) (by decide)) (@pa_nil _) (by rfl)) (by decide) (by decide) (by rfl) (by rfl)) (@pa_nil _) (by rfl)) (by rfl)) (by decide) (by rfl) (by rfl)) (by intro  _  ;  rfl))) (@pw_or1 _ _ _ _ (@pt_cmpR _ _ _ _ _ _ _ _ (op_neDK hr.units (K := K) rfl) (@pe_callB _ _ _ _ _ _ _ _ _ (call_sortPK (K := K) rfl) (by rfl) T.n_sorted bt_sorted (@pa_cons _ _ _ _ _ (@pe_comp _ _ _ _ _ _ _ _ _ _ _ _ _ _ (blk_mk (own := ["_law_row"]) (fr := []) (fm := []) rfl (by decide +kernel) (by decide +kernel) (by decide +kernel) .nil) rfl (@pi_listK _ K _ _ _ rfl (@pv _ 5 _ _ (by rfl) (by first  |  exact  Or.inl  rfl  |  exact  Or.inr  (    Or.inl  rfl  )  |  exact  Or.inr  (    Or.inr  rfl  )) (by decide) (by decide))) (fun _ _ _ => ⟨(@pg_name _ _ 0 _ (by show List.Nodup (["_law_row"] : List Str) ; decide +kernel) rfl (by first | exact Or.inl rfl | exact Or.inr rfl) (by first  |  exact  .inl  rfl  |  exact  .inr  rfl  |  assumption)) , pts_nil, (@pe_ix _ _ _ _ _ _ _ (ix_tupK (K := K) rfl) (@pv _ 0 _ _ (by rfl) (by first  |  exact  Or.inl  rfl  |  exact  Or.inr  (    Or.inl  rfl  )  |  exact  Or.inr  (    Or.inr  rfl  )) (by decide) (by decide)) (@pe_int _ _ _ _) (fun _ _ => rfl))⟩) (by intro  _  ;  rfl)) (@pa_nil _) (by rfl)) (by decide) (by decide) (by rfl) (by rfl)) (@pe_callB _ _ _ _ _ _ _ _ _ (call_sortPK (K := K) rfl) (by rfl) T.n_sorted bt_sorted (@pa_cons _ _ _ _ _ (@pv _ 2 _ _ (by rfl) (by first  |  exact  Or.inl  rfl  |  exact  Or.inr  (    Or.inl  rfl  )  |  exact  Or.inr  (    Or.inr  rfl  )) (by decide) (by decide)) (@pa_nil _) (by rfl)) (by decide) (by decide) (by rfl) (by rfl)) (nomark _))))) (@pss_one _ _ _ (@ps_ret _ _ _ _ (@pe_bl _ _ _ _))) (@pss_nil _)) (@pss_cons _ _ _ _ _ (@ps_if _ _ _ _ _ _ _ _ (@PW.pt _ _ _ (@pw_or _ _ _ _ _ _ _ (@pt_not _ _ _ _ (@pt_val _ _ _ (@pe_call _ _ _ _ _ _ _ _ _ _ _ _ _ _ _ _ (G__law_laid_so T) (hr.mono (by decide)) rfl T.m__law_laid_so T.k__law_laid_so T.b__law_laid_so .nil (@pass0 _) (@pa_cons _ _ _ _ _ (@pv _ 5 _ _ (by rfl) (by first  |  exact  Or.inl  rfl  |  exact  Or.inr  (    Or.inl  rfl  )  |  exact  Or.inr  (    Or.inr  rfl  )) (by decide) (by decide)) (@pa_cons _ _ _ _ _ (@pe_call _ _ _ _ _ _ _ _ _ _ _ _ _ _ _ _ (G__law_known T) (hr.mono (by decide)) rfl T.m__law_known T.k__law_known T.b__law_known .nil (@pass0 _) (@pa_cons _ _ _ _ _ (@pv _ 1 _ _ (by rfl) (by first  |  exact  Or.inl  rfl  |  exact  Or.inr  (    Or.inl  rfl  )  |  exact  Or.inr  (    Or.inr  rfl  )) (by decide) (by decide)) (@pa_nil _) (by rfl)) (by decide) (by rfl) (by rfl)) (@pa_nil _) (by rfl)) (by rfl)) (by decide) (by rfl) (by rfl)) (by intro  _  ;  rfl))) (@pw_or _ _ _ _ _ _ _ (@pt_cmpR _ _ _ _ _ _ _ _ (op_neDK hr.units (K := K) rfl) (@pv _ 3 _ _ (by rfl) (by first  |  exact  Or.inl  rfl  |  exact  Or.inr  (    Or.inl  rfl  )  |  exact  Or.inr  (    Or.inr  rfl  )) (by decide) (by decide)) (@pv _ 1 _ _ (by rfl) (by first  |  exact  Or.inl  rfl  |  exact  Or.inr  (    Or.inl  rfl  )  |  exact  Or.inr  (    Or.inr  rfl  )) (by decide) (by decide)) (nomark _)) (@pw_or1 _ _ _ _ (@pt_cmpR _ _ _ _ _ _ _ _ (op_neDK hr.units (K := K) rfl) (@pv _ 4 _ _ (by rfl) (by first  |  exact  Or.inl  rfl  |  exact  Or.inr  (    Or.inl  rfl  )  |  exact  Or.inr  (    Or.inr  rfl  )) (by decide) (by decide)) (@pv _ 2 _ _ (by rfl) (by first  |  exact  Or.inl  rfl  |  exact  Or.inr  (    Or.inl  rfl  )  |  exact  Or.inr  (    Or.inr  rfl  )) (by decide) (by decide)) (nomark _)))))) (@pss_one _ _ _ (@ps_ret _ _ _ _ (@pe_bl _ _ _ _))) (@pss_nil _)) (@pss_cons _ _ _ _ _ (@ps_set _ _ 6 _ _ _ _ sc_law.nd rfl (by first | exact Or.inl rfl | exact Or.inr rfl) (@pe_callTy _ _ _ _ _ _ _ _ _ (call_list_ofK (K := K) rfl) (by rfl) T.n_list bt_list (@pa_cons _ _ _ _ _ (@pv _ 5 _ _ (by rfl) (by first  |  exact  Or.inl  rfl  |  exact  Or.inr  (    Or.inl  rfl  )  |  exact  Or.inr  (    Or.inr  rfl  )) (by decide) (by decide)) (@pa_nil _) (by rfl)) (by decide) (by decide) (by rfl) (by rfl)) (by rfl) (by first  |  exact  .inl  rfl  |  exact  .inr  rfl  |  assumption)) (@pss_cons _ _ _ _ _ (@ps_set _ _ 7 _ _ _ _ sc_law.nd rfl (by first | exact Or.inl rfl | exact Or.inr rfl) (@pe_call _ _ _ _ _ _ _ _ _ _ _ _ _ _ _ _ (G_laid T) (hr.mono (by decide)) rfl T.m_laid T.k_laid T.b_laid .nil (@pass0 _) (@pa_cons _ _ _ _ _ (@pv _ 3 _ _ (by rfl) (by first  |  exact  Or.inl  rfl  |  exact  Or.inr  (    Or.inl  rfl  )  |  exact  Or.inr  (    Or.inr  rfl  )) (by decide) (by decide)) (@pa_cons _ _ _ _ _ (@pe_slice _ _ _ _ _ _ _ _ _ _ (sl_listK (K := K) rfl) (@pv _ 2 _ _ (by rfl) (by first  |  exact  Or.inl  rfl  |  exact  Or.inr  (    Or.inl  rfl  )  |  exact  Or.inr  (    Or.inr  rfl  )) (by decide) (by decide)) (@po_some _ _ _ (@pe_int _ _ _ _)) (@po_none _)) (@pa_nil _) (by rfl)) (by rfl)) (by decide) (by rfl) (by rfl)) (by rfl) (by first  |  exact  .inl  rfl  |  exact  .inr  rfl  |  assumption)) (@pss_cons _ _ _ _ _ (@ps_if _ _ _ _ _ _ _ _ (@PW.pt _ _ _ (@pw_or _ _ _ _ _ _ _ (@pt_not _ _ _ _ (@pt_val _ _ _ (@pe_call _ _ _ _ _ _ _ _ _ _ _ _ _ _ _ _ (G__law_kinds T) (hr.mono (by decide)) rfl T.m__law_kinds T.k__law_kinds T.b__law_kinds .nil (@pass0 _) (@pa_cons _ _ _ _ _ (@pv _ 7 _ _ (by rfl) (by first  |  exact  Or.inl  rfl  |  exact  Or.inr  (    Or.inl  rfl  )  |  exact  Or.inr  (    Or.inr  rfl  )) (by decide) (by decide)) (@pa_cons _ _ _ _ _ (@pe_callB _ _ _ _ _ _ _ _ _ (call_lenK (K := K) rfl) (by rfl) T.n_len bt_len (@pa_cons _ _ _ _ _ (@pe_slice _ _ _ _ _ _ _ _ _ _ (sl_listK (K := K) rfl) (@pv _ 2 _ _ (by rfl) (by first  |  exact  Or.inl  rfl  |  exact  Or.inr  (    Or.inl  rfl  )  |  exact  Or.inr  (    Or.inr  rfl  )) (by decide) (by decide)) (@po_some _ _ _ (@pe_int _ _ _ _)) (@po_none _)) (@pa_nil _) (by rfl)) (by decide) (by decide) (by rfl) (by rfl)) (@pa_nil _) (by rfl)) (by rfl)) (by decide) (by rfl) (by rfl)) (by intro  _  ;  rfl))) (@pw_or1 _ _ _ _ (@pt_cmpR _ _ _ _ _ _ _ _ (op_neDK hr.units (K := K) rfl) (@pv _ 5 _ _ (by rfl) (by first  |  exact  Or.inl  rfl  |  exact  Or.inr  (    Or.inl  rfl  )  |  exact  Or.inr  (    Or.inr  rfl  )) (by decide) (by decide)) (@pv _ 6 _ _ (by rfl) (by first  |  exact  Or.inl  rfl  |  exact  Or.inr  (    Or.inl  rfl  )  |  exact  Or.inr  (    Or.inr  rfl  )) (by decide) (by decide)) (nomark _))))) (@pss_one _ _ _ (@ps_ret _ _ _ _ (@pe_bl _ _ _ _))) (@pss_nil _)) (@pss_cons _ _ _ _ _ (@ps_expr _ _ _ _ (@pe_bm0 _ _ _ _ _ _ _ _ _ PySem.F.plainAttrs_list PySem.F.slot_list_clear PySem.F.type_list_clear mt_clear (@pv _ 5 _ _ (by rfl) (by first  |  exact  Or.inl  rfl  |  exact  Or.inr  (    Or.inl  rfl  )  |  exact  Or.inr  (    Or.inr  rfl  )) (by decide) (by decide)) (by rfl) (by rfl)) (by rfl)) (@pss_cons _ _ _ _ _ (@ps_expr _ _ _ _ (@pe_bm0 _ _ _ _ _ _ _ _ _ PySem.F.plainAttrs_list PySem.F.slot_list_clear PySem.F.type_list_clear mt_clear (@pv _ 7 _ _ (by rfl) (by first  |  exact  Or.inl  rfl  |  exact  Or.inr  (    Or.inl  rfl  )  |  exact  Or.inr  (    Or.inr  rfl  )) (by decide) (by decide)) (by rfl) (by rfl)) (by rfl)) (@pss_one _ _ _ (@ps_ret _ _ _ _ (@pe_cmpR _ _ _ _ _ _ _ _ (op_eqDK hr.units (K := K) rfl) (@pe_call _ _ _ _ _ _ _ _ _ _ _ _ _ _ _ _ (G_laid T) (hr.mono (by decide)) rfl T.m_laid T.k_laid T.b_laid .nil (@pass0 _) (@pa_cons _ _ _ _ _ (@pv _ 3 _ _ (by rfl) (by first  |  exact  Or.inl  rfl  |  exact  Or.inr  (    Or.inl  rfl  )  |  exact  Or.inr  (    Or.inr  rfl  )) (by decide) (by decide)) (@pa_cons _ _ _ _ _ (@pv _ 4 _ _ (by rfl) (by first  |  exact  Or.inl  rfl  |  exact  Or.inr  (    Or.inl  rfl  )  |  exact  Or.inr  (    Or.inr  rfl  )) (by decide) (by decide)) (@pa_nil _) (by rfl)) (by rfl)) (by decide) (by rfl) (by rfl)) (@pv _ 6 _ _ (by rfl) (by first  |  exact  Or.inl  rfl  |  exact  Or.inr  (    Or.inl  rfl  )  |  exact  Or.inr  (    Or.inr  rfl  )) (by decide) (by decide)) (nomark _))))))))))))))), ?_⟩
    walk_at "rd"
    refine ⟨ns, hS, hl, by decide, by decide, fun t L a ps qs c H1 s1 ht B => ?_⟩
    have n63 : ∀ p ∈ ps, p.sts.length ≤ 100 := fun p hp => Nat.le_trans (B.n2 p hp) (by decide)
    refine ⟨t, rfl, _, SqT.of ht, rfl, _, _, rfl, _, _, rfl, rfl, L, rfl, ps, B.pc, B.n1.2, n63, fun L' ps' H2 s2 hP' hC => ⟨a, rfl, _, .inl (SqL.of (s2 _ _ B.ks.1)), fun l hl1 => ?_⟩⟩
    have ql := B.n3
    have s3 := same_new (o := HO.lst (qs.map fun q => V.ref q.1)) hl1
    have hKa := ks_mono (ks_mono B.ks s2) s3
    have hKl : KsAt (upd H2 l (HO.lst (qs.map fun q => V.ref q.1))) l qs := ⟨upd_same, hKa.2⟩
    have hP3 := hP'.mono s3
    have hPo := B.pc.mono (s2.trans s3)
    have s13 := s2.trans s3
    have hS0 := B.shelf
    generalize upd H2 l (HO.lst (qs.map fun q => V.ref q.1)) = H3 at *
    have hS' : Shelf H3 ps' := hC.shelf hS0 hP3.at_
    have inS : ∀ q ∈ qs, (stF ps' q.2).isSome = true := by
      obtain ⟨_, _, qs0, e1, e2, _, _, _, _, _, h⟩ := B.ly
      intro q hq
      have : q.2 ∈ qs0.map (·.2) := by rw [← e2]; exact List.mem_map.mpr ⟨q, hq, rfl⟩
      obtain ⟨q0, h0, e0⟩ := List.mem_map.mp this
      rw [hC.isSome, ← e0]; exact h q0 h0
    have ly : ∀ (b : Addr) (zs : List (Addr × PairD)) (Hx : Hp), Same H3 Hx → KsAt Hx b zs → (∀ z ∈ zs, z ∈ qs) → zs.length ≤ qs.length → LyP Hx [.ref L', .ref b] ps' (zs.map (·.2)) := fun b zs Hx sx hb hz hzl =>
      ⟨L', b, zs, rfl, rfl, hP3.mono sx, by rw [hC.len]; exact B.n1.2, ⟨fun q hq => (hS'.at_ q hq).mono sx, hS'.nd, hS'.st⟩, hb, by omega, fun q hq => inS q (hz q hq)⟩
    have kd : ∀ z ∈ qs, isKd ps' (Str.ofString "code") z.2 = true ∨ isKd ps' (Str.ofString "data") z.2 = true := fun q hq => by
      obtain ⟨p, s', hp, _, _, g1, g2⟩ := stF_some (ps := ps') (k := q.2) (inS q hq)
      unfold isKd
      rw [g2]
      rcases (hS'.st p hp s' (List.mem_of_getElem? g1)).2.2.1 with z | z
      · exact .inl (by rw [← z]; simp)
      · exact .inr (by rw [← z]; simp)
    have kdL : ∀ zs : List (Addr × PairD), (∀ z ∈ zs, z ∈ qs) → ∀ k ∈ zs.map (·.2), isKd ps' (Str.ofString "code") k = true ∨ isKd ps' (Str.ofString "data") k = true := fun zs hz k hk => by
      obtain ⟨q, hq, rfl⟩ := List.mem_map.mp hk
      exact kd q (hz q hq)
    refine ⟨ps', _, ly l qs _ (Same.refl _) hKl (fun _ h => h) (Nat.le_refl _), fun l1 rs H4 s4 hl1f LA => ?_⟩
    have pm := ord_perm LA.ord (kdL qs fun _ h => h)
    have rl : rs.length = qs.length := by have := pm.length_eq; rwa [List.length_map, List.length_map] at this
    refine ⟨qs.length, .inl ⟨_, SqL.of (s4 _ _ hKa.1), by rw [List.length_map]⟩, ps', _, rs, by rw [rl], LA, fun H5 s5 => ?_⟩
    have rowT : ∀ r ∈ rs, H4 r.t = some (.tup [.ref r.b, .int r.p]) := fun r hr => LA.row r hr
    refine CompL.of (xs := rs.map fun r => V.ref r.t) (by rw [List.length_map, sizeLine_eq]; omega) (SqL.of (s5 _ _ LA.top)) (fun D i ys H' => Same H5 H' ∧ H' D = some (.lst ys) ∧ ys = (rs.take i).map fun r => V.ref r.b) (fun D hD => ⟨same_new hD, upd_same, rfl⟩) ?_ ?_ ?_
    · rintro D i ys H' hD hi ⟨t1, hDD, rfl⟩
      exact ⟨SqL.of (t1 _ _ (s5 _ _ LA.top)), hDD, by rw [List.length_map, List.length_take]; omega⟩
    · rintro D i x ys H' hD hx ⟨t1, hDD, rfl⟩
      rw [List.getElem?_map] at hx
      obtain ⟨r, hr, rfl⟩ := Option.map_eq_some_iff.mp hx
      walk_at "rd"
      refine ⟨.no .nil, _, SqT.of (t1 _ _ (s5 _ _ (rowT r (List.mem_of_getElem? hr)))), _, rfl, hDD, same_upd hD t1, upd_same, ?_⟩
      rw [List.take_succ, hr, List.map_append]; rfl
    · rintro Da ys H' hD ⟨t1, hDD, rfl⟩
      rw [List.length_map, List.take_length] at hDD
      have sAll := (s13.trans s4).trans (s5.trans t1)
      have sT := s5.trans t1
      have kb : ∀ b ∈ rs.map (·.b), H' b = some (.tup [.str (dF H' b).1, .int (dF H' b).2]) := fun b hb => by
        obtain ⟨r, hr, rfl⟩ := List.mem_map.mp hb
        have := sT _ _ (LA.key r hr)
        rw [dF_of this]; exact this
      have ka : ∀ b ∈ qs.map (·.1), H' b = some (.tup [.str (dF H' b).1, .int (dF H' b).2]) := fun b hb => by
        obtain ⟨r, hr, rfl⟩ := List.mem_map.mp hb
        have := sAll _ _ (B.ks.2 r hr)
        rw [dF_of this]; exact this
      have e1 : (rs.map (·.b)).map (dF H') = rs.map (·.k) := by
        rw [List.map_map]
        exact List.map_congr_left fun r hr => dF_of (sT _ _ (LA.key r hr))
      have e2 : (qs.map (·.1)).map (dF H') = qs.map (·.2) := by
        rw [List.map_map]
        exact List.map_congr_left fun r hr => dF_of (sAll _ _ (B.ks.2 r hr))
      refine ⟨Da, rfl, rs.map (·.b), by rw [List.map_map]; exact SqL.of hDD, dF H', kb, by rw [List.length_map]; omega, fun m1 bs1 f1 p1 w1 => ⟨a, rfl, qs.map (·.1), by rw [List.map_map]; exact SqL.of (same_new f1 _ _ (sAll _ _ B.ks.1)), dF H', fun b hb => same_new f1 _ _ (ka b hb), by rw [List.length_map]; omega, fun m2 bs2 f2 p2 w2 => ?_⟩⟩
      have eqd : bs1.map (dF H') = bs2.map (dF H') := by
        refine sortedP_one ?_ w1 w2
        refine (p1.map _).trans ?_
        rw [e1]
        refine pm.trans ?_
        rw [← e2]
        exact (p2.map _).symm
      have u1 := same_new (o := HO.lst (bs1.map V.ref)) f1
      have u2 := same_new (o := HO.lst (bs2.map V.ref)) f2
      have repB : ∀ {Hx : Hp} {m : Addr} {bs : List Addr}, Hx m = some (.lst (bs.map V.ref)) → (∀ b ∈ bs, Hx b = some (.tup [.str (dF H' b).1, .int (dF H' b).2])) → Rep K Hx (.lst ((bs.map (dF H')).map fun q => D.tup [.str q.1, .int q.2])) (.ref m) := fun {Hx m bs} h1 h2 => by
        rw [List.map_map]
        simp only [Rep]
        refine ⟨_, _, rfl, SqL.of h1, RepL.map fun b hb => ?_⟩
        simp only [Function.comp_apply, Rep]
        exact ⟨_, _, rfl, SqT.of (h2 b hb), by simp [RepL, Rep]⟩
      refine ⟨_, _, .inl ⟨repB (bs := bs1) (u2 _ _ upd_same) fun b hb => u2 _ _ (u1 _ _ (kb b (p1.mem_iff.mp hb))), repB (bs := bs2) upd_same fun b hb => u2 _ _ (u1 _ _ (ka b (p2.mem_iff.mp hb)))⟩, Nat.le_trans (depL_le (n := 3) fun x _ => by simp [dep, depL]) (by decide), false, by rw [eqd, deqL_refl]; rfl, ?_⟩
      rw [if_neg (by decide)]
      have sU := sAll.trans (u1.trans u2)
      have sL := sT.trans (u1.trans u2)
      generalize upd (upd H' m1 (HO.lst (bs1.map V.ref))) m2 (HO.lst (bs2.map V.ref)) = H6 at sU sL
      refine ⟨L, rfl, ps, B.pc.mono sU, B.n1.2, B.names, n63, fun d kvs H7 s7 hd kn => ⟨ps, ps', _, rs, laid_mono LA (sL.trans s7), hC, ⟨fun p hp => (hS0.at_ p hp).mono (sU.trans s7), hS0.nd, hS0.st⟩, kvs, hd, kn, B.nk, fun H8 s8 => ?_⟩⟩
      have s48 := sL.trans (s7.trans s8)
      have s18 := sU.trans (s7.trans s8)
      have s38 := s4.trans s48
      refine pcs_ne (B.pc.mono s18) (hP3.mono s38) hC ⟨false, rfl, ?_⟩
      rw [if_neg (by decide)]
      refine ks_ne2 (ks_mono hKl s38) (ks_mono B.ks s18) ⟨false, rfl, ?_⟩
      rw [if_neg (by decide)]
      have LA8 := laid_mono LA s48
      refine ⟨_, .inl (SqL.of LA8.top), fun l3 f3 => ?_⟩
      have s9 := same_new (o := HO.lst (rs.map fun r => V.ref r.t)) f3
      have n31 : l3 ≠ l1 := fun e => by rw [e, LA8.top] at f3; cases f3
      obtain ⟨zs, ez, zm, zl⟩ : ∃ zs : List (Addr × PairD), cutV (qs.map fun q => V.ref q.1) (some 1) none = (zs.map fun q => V.ref q.1) ∧ (∀ q ∈ zs, q ∈ qs) ∧ zs.length ≤ qs.length := by
        refine ⟨(qs.drop (HT.sIx qs.length 0 (some 1))).take (HT.sIx qs.length qs.length none - HT.sIx qs.length 0 (some 1)), ?_, fun q hq => List.mem_of_mem_drop (List.mem_of_mem_take hq), ?_⟩
        · unfold cutV
          rw [List.map_take, List.map_drop, List.length_map]
        · rw [List.length_take, List.length_drop]; omega
      refine ⟨a, rfl, _, SqL.of (s9 _ _ (s18 _ _ B.ks.1)), fun l4 f4 => ?_⟩
      rw [ez]
      have s10 := same_new (o := HO.lst (zs.map fun q => V.ref q.1)) f4
      have k3 : upd (upd H8 l3 (HO.lst (rs.map fun r => V.ref r.t))) l4 (HO.lst (zs.map fun q => V.ref q.1)) l3 = some (HO.lst (rs.map fun r => V.ref r.t)) := s10 _ _ upd_same
      have k4 : KsAt (upd (upd H8 l3 (HO.lst (rs.map fun r => V.ref r.t))) l4 (HO.lst (zs.map fun q => V.ref q.1))) l4 zs := ⟨upd_same, fun q hq => s10 _ _ (s9 _ _ (s18 _ _ (B.ks.2 q (zm q hq))))⟩
      have s8a := s9.trans s10
      generalize upd (upd H8 l3 (HO.lst (rs.map fun r => V.ref r.t))) l4 (HO.lst (zs.map fun q => V.ref q.1)) = H10 at *
      refine ⟨ps', _, ly l4 zs _ (s38.trans s8a) k4 zm zl, fun l5 rs2 H11 s11 f5 LA2 => ?_⟩
      have pm2 := ord_perm LA2.ord (kdL zs zm)
      have rl2 : rs2.length = zs.length := by have := pm2.length_eq; rwa [List.length_map, List.length_map] at this
      refine ⟨a, rfl, _, SqL.of (s11 _ _ (s8a _ _ (s18 _ _ B.ks.1))), fun l6 f6 => ?_⟩
      rw [ez]
      have s12 := same_new (o := HO.lst (zs.map fun q => V.ref q.1)) f6
      refine ⟨zs.length, .inl ⟨_, SqL.of upd_same, by rw [List.length_map]⟩, ps', _, rs2, by rw [rl2], laid_mono LA2 s12, fun H13 s13' => ?_⟩
      have sZ := s11.trans (s12.trans s13')
      have LA13 := laid_mono LA8 (s8a.trans sZ)
      have k3' := sZ _ _ k3
      refine ⟨_, _, .inl ⟨laid_rep LA13.top (fun r hr => LA13.row r hr) LA13.key, laid_rep (rs := rs) k3' (fun r hr => LA13.row r hr) LA13.key⟩, laid_dep _, false, by rw [deqL_refl]; rfl, ?_⟩
      rw [if_neg (by decide)]
      have t5 := (s12.trans s13') _ _ LA2.top
      have n51 : l5 ≠ l1 := fun e => by rw [e, s8a _ _ LA8.top] at f5; cases f5
      have n53 : l5 ≠ l3 := fun e => by rw [e, k3] at f5; cases f5
      refine ⟨.inl ⟨rfl, _, SqL.of LA13.top⟩, _, LA13.top, .inl ⟨rfl, _, SqL.of (by rw [upd_ne n51]; exact t5)⟩, _, by rw [upd_ne n51]; exact t5, ?_⟩
      have b1 : But H13 (upd H13 l1 (HO.lst [])) l1 := But.upd LA13.top
      have b2 : But (upd H13 l1 (HO.lst [])) (upd (upd H13 l1 (HO.lst [])) l5 (HO.lst [])) l5 := But.upd (by rw [upd_ne n51]; exact t5)
      have s3z := (s38.trans s8a).trans sZ
      have sE : Same H3 (upd (upd H13 l1 (HO.lst [])) l5 (HO.lst [])) := fun x o e => by
        have x1 : x ≠ l1 := ne_of_none e hl1f
        have x5 : x ≠ l5 := ne_of_none ((s38.trans s8a) _ _ e) f5
        rw [upd_ne x5, upd_ne x1]; exact s3z _ _ e
      have kE : upd (upd H13 l1 (HO.lst [])) l5 (HO.lst []) l3 = some (HO.lst (rs.map fun r => V.ref r.t)) := by rw [upd_ne (Ne.symm n53), upd_ne n31]; exact k3'
      have rE1 : ∀ r ∈ rs, upd (upd H13 l1 (HO.lst [])) l5 (HO.lst []) r.t = some (.tup [.ref r.b, .int r.p]) := fun r hr => b2.tup (b1.tup (LA13.row r hr))
      have rE2 : ∀ r ∈ rs, upd (upd H13 l1 (HO.lst [])) l5 (HO.lst []) r.b = some (.tup [.str r.k.1, .int r.k.2]) := fun r hr => b2.tup (b1.tup (LA13.key r hr))
      generalize upd (upd H13 l1 (HO.lst [])) l5 (HO.lst []) = H14 at *
      refine ⟨ps', _, ly l qs _ sE (ks_mono hKl sE) (fun _ h => h) (Nat.le_refl _), fun l7 rs3 H15 s15 f7 LA3 => ?_⟩
      refine ⟨_, _, .inl ⟨laid_rep LA3.top (fun r hr => LA3.row r hr) LA3.key, laid_rep (rs := rs) (s15 _ _ kE) (fun r hr => s15 _ _ (rE1 r hr)) fun r hr => s15 _ _ (rE2 r hr)⟩, laid_dep _, ?_⟩
      rw [laid_one LA3 LA, deqL_refl]
      exact k _
end
@[elab_as_elim] theorem len1 {α : Type} {p : List α → Prop} (us : List α) (h : us.length = 1) (f : ∀ a, p [a]) : p us := by
  match us, h with | [a], _ => exact f a
@[elab_as_elim] theorem len2 {α : Type} {p : List α → Prop} (us : List α) (h : us.length = 2) (f : ∀ a b, p [a, b]) : p us := by
  match us, h with | [a, b], _ => exact f a b
noncomputable def FO (K : PySem.W.Frag) (f : Addr) (st : Stmt) (x q : Str) : Prop := ∃ (oc : Value) (od an : Option Addr) (sl : Array (Option Value)) (kV dc pm cd ct : Value), K.lookup f = some ⟨oc, od, .func (PySem.W.fnOf x q (defArgs st) (defBody st) (defScope st) .none kV dc pm an cd ct), sl⟩ ∧ PySem.W.codeIn K cd q = true ∧ PySem.W.keepIn K (.ref f) = true
theorem all_mk {l : PySem.W.OpenLaw} {w : World} {K : PySem.W.Frag} {h : Heap} {mg : Str → Option Value} {fa f_pieces_by_name f_laid f_laid_with_ends f_in_order f_multiple_from f__law_whole f__law_cell_at f__law_name_by f__law_many_by f__law_drawn f__law_known f__law_copies f__law_kinds f__law_laid_so f_law : Addr} (X : K.In h) (G : h.Ns mainGlobals mg) (hfa : mg "law" = some (.ref fa))
    
    (a_pieces_by_name : PySem.W.nsIn K mainGlobals "pieces_by_name" = some (some (.ref f_pieces_by_name)))
    (l_pieces_by_name : FO K f_pieces_by_name s_pieces_by_name "pieces_by_name" "pieces_by_name")
    (a_laid : PySem.W.nsIn K mainGlobals "laid" = some (some (.ref f_laid)))
    (l_laid : FO K f_laid s_laid "laid" "laid")
    (a_laid_with_ends : PySem.W.nsIn K mainGlobals "laid_with_ends" = some (some (.ref f_laid_with_ends)))
    (l_laid_with_ends : FO K f_laid_with_ends s_laid_with_ends "laid_with_ends" "laid_with_ends")
    (a_in_order : PySem.W.nsIn K mainGlobals "in_order" = some (some (.ref f_in_order)))
    (l_in_order : FO K f_in_order s_in_order "in_order" "in_order")
    (a_multiple_from : PySem.W.nsIn K mainGlobals "multiple_from" = some (some (.ref f_multiple_from)))
    (l_multiple_from : FO K f_multiple_from s_multiple_from "multiple_from" "multiple_from")
    (a__law_whole : PySem.W.nsIn K mainGlobals "_law_whole" = some (some (.ref f__law_whole)))
    (l__law_whole : FO K f__law_whole s__law_whole "_law_whole" "_law_whole")
    (a__law_cell_at : PySem.W.nsIn K mainGlobals "_law_cell_at" = some (some (.ref f__law_cell_at)))
    (l__law_cell_at : FO K f__law_cell_at s__law_cell_at "_law_cell_at" "_law_cell_at")
    (a__law_name_by : PySem.W.nsIn K mainGlobals "_law_name_by" = some (some (.ref f__law_name_by)))
    (l__law_name_by : FO K f__law_name_by s__law_name_by "_law_name_by" "_law_name_by")
    (a__law_many_by : PySem.W.nsIn K mainGlobals "_law_many_by" = some (some (.ref f__law_many_by)))
    (l__law_many_by : FO K f__law_many_by s__law_many_by "_law_many_by" "_law_many_by")
    (a__law_drawn : PySem.W.nsIn K mainGlobals "_law_drawn" = some (some (.ref f__law_drawn)))
    (l__law_drawn : FO K f__law_drawn s__law_drawn "_law_drawn" "_law_drawn")
    (a__law_known : PySem.W.nsIn K mainGlobals "_law_known" = some (some (.ref f__law_known)))
    (l__law_known : FO K f__law_known s__law_known "_law_known" "_law_known")
    (a__law_copies : PySem.W.nsIn K mainGlobals "_law_copies" = some (some (.ref f__law_copies)))
    (l__law_copies : FO K f__law_copies s__law_copies "_law_copies" "_law_copies")
    (a__law_kinds : PySem.W.nsIn K mainGlobals "_law_kinds" = some (some (.ref f__law_kinds)))
    (l__law_kinds : FO K f__law_kinds s__law_kinds "_law_kinds" "_law_kinds")
    (a__law_laid_so : PySem.W.nsIn K mainGlobals "_law_laid_so" = some (some (.ref f__law_laid_so)))
    (l__law_laid_so : FO K f__law_laid_so s__law_laid_so "_law_laid_so" "_law_laid_so")
    (a_law : PySem.W.nsIn K mainGlobals "law" = some (some (.ref f_law)))
    (l_law : FO K f_law s_law "law" "law")
    (n_bool : PySem.W.nsIn K mainGlobals "bool" = some none)
    (n_dict : PySem.W.nsIn K mainGlobals "dict" = some none)
    (n_int : PySem.W.nsIn K mainGlobals "int" = some none)
    (n_isinstance : PySem.W.nsIn K mainGlobals "isinstance" = some none)
    (n_len : PySem.W.nsIn K mainGlobals "len" = some none)
    (n_list : PySem.W.nsIn K mainGlobals "list" = some none)
    (n_range : PySem.W.nsIn K mainGlobals "range" = some none)
    (n_reversed : PySem.W.nsIn K mainGlobals "reversed" = some none)
    (n_sorted : PySem.W.nsIn K mainGlobals "sorted" = some none)
    (n_str : PySem.W.nsIn K mainGlobals "str" = some none)
    (n_tuple : PySem.W.nsIn K mainGlobals "tuple" = some none) :
    ∃ fd : FuncData, (∀ (s : Shared) (v : Value), BindsTo s fd ⟨[v], []⟩ [("_law_script", v)]) ∧ ∀ base : Heap, K.In base → base.Ns mainGlobals mg → FnOk l.prog w K mg base CX0 9 fa fd ["_law_script"] (sp_law K) := by
  have e := hfa.symm.trans (PySem.W.mg_of X G a_law)
  cases e
  obtain ⟨_, _, _, _, _, _, _, _, _, l_pieces_by_name, e_pieces_by_name, k_pieces_by_name⟩ := l_pieces_by_name
  have F_pieces_by_name := fun_mk l_pieces_by_name e_pieces_by_name k_pieces_by_name
  have b_pieces_by_name := F_pieces_by_name.binds (ps := ["pieces"]) fun _ _ _ _ _ _ us hl => len1 us hl fun _ => rfl
  obtain ⟨_, _, _, _, _, _, _, _, _, l_laid, e_laid, k_laid⟩ := l_laid
  have F_laid := fun_mk l_laid e_laid k_laid
  have b_laid := F_laid.binds (ps := ["pieces", "keys"]) fun _ _ _ _ _ _ us hl => len2 us hl fun _ _ => rfl
  obtain ⟨_, _, _, _, _, _, _, _, _, l_laid_with_ends, e_laid_with_ends, k_laid_with_ends⟩ := l_laid_with_ends
  have F_laid_with_ends := fun_mk l_laid_with_ends e_laid_with_ends k_laid_with_ends
  have b_laid_with_ends := F_laid_with_ends.binds (ps := ["pieces", "keys"]) fun _ _ _ _ _ _ us hl => len2 us hl fun _ _ => rfl
  obtain ⟨_, _, _, _, _, _, _, _, _, l_in_order, e_in_order, k_in_order⟩ := l_in_order
  have F_in_order := fun_mk l_in_order e_in_order k_in_order
  have b_in_order := F_in_order.binds (ps := ["by_name", "keys"]) fun _ _ _ _ _ _ us hl => len2 us hl fun _ _ => rfl
  obtain ⟨_, _, _, _, _, _, _, _, _, l_multiple_from, e_multiple_from, k_multiple_from⟩ := l_multiple_from
  have F_multiple_from := fun_mk l_multiple_from e_multiple_from k_multiple_from
  have b_multiple_from := F_multiple_from.binds (ps := ["number", "step"]) fun _ _ _ _ _ _ us hl => len2 us hl fun _ _ => rfl
  obtain ⟨_, _, _, _, _, _, _, _, _, l__law_whole, e__law_whole, k__law_whole⟩ := l__law_whole
  have F__law_whole := fun_mk l__law_whole e__law_whole k__law_whole
  have b__law_whole := F__law_whole.binds (ps := ["_law_found"]) fun _ _ _ _ _ _ us hl => len1 us hl fun _ => rfl
  obtain ⟨_, _, _, _, _, _, _, _, _, l__law_cell_at, e__law_cell_at, k__law_cell_at⟩ := l__law_cell_at
  have F__law_cell_at := fun_mk l__law_cell_at e__law_cell_at k__law_cell_at
  have b__law_cell_at := F__law_cell_at.binds (ps := ["_law_script", "_law_k"]) fun _ _ _ _ _ _ us hl => len2 us hl fun _ _ => rfl
  obtain ⟨_, _, _, _, _, _, _, _, _, l__law_name_by, e__law_name_by, k__law_name_by⟩ := l__law_name_by
  have F__law_name_by := fun_mk l__law_name_by e__law_name_by k__law_name_by
  have b__law_name_by := F__law_name_by.binds (ps := ["_law_cell", "_law_k"]) fun _ _ _ _ _ _ us hl => len2 us hl fun _ _ => rfl
  obtain ⟨_, _, _, _, _, _, _, _, _, l__law_many_by, e__law_many_by, k__law_many_by⟩ := l__law_many_by
  have F__law_many_by := fun_mk l__law_many_by e__law_many_by k__law_many_by
  have b__law_many_by := F__law_many_by.binds (ps := ["_law_number"]) fun _ _ _ _ _ _ us hl => len1 us hl fun _ => rfl
  obtain ⟨_, _, _, _, _, _, _, _, _, l__law_drawn, e__law_drawn, k__law_drawn⟩ := l__law_drawn
  have F__law_drawn := fun_mk l__law_drawn e__law_drawn k__law_drawn
  have b__law_drawn := F__law_drawn.binds (ps := ["_law_script", "_law_most"]) fun _ _ _ _ _ _ us hl => len2 us hl fun _ _ => rfl
  obtain ⟨_, _, _, _, _, _, _, _, _, l__law_known, e__law_known, k__law_known⟩ := l__law_known
  have F__law_known := fun_mk l__law_known e__law_known k__law_known
  have b__law_known := F__law_known.binds (ps := ["_law_pieces"]) fun _ _ _ _ _ _ us hl => len1 us hl fun _ => rfl
  obtain ⟨_, _, _, _, _, _, _, _, _, l__law_copies, e__law_copies, k__law_copies⟩ := l__law_copies
  have F__law_copies := fun_mk l__law_copies e__law_copies k__law_copies
  have b__law_copies := F__law_copies.binds (ps := ["_law_pieces"]) fun _ _ _ _ _ _ us hl => len1 us hl fun _ => rfl
  obtain ⟨_, _, _, _, _, _, _, _, _, l__law_kinds, e__law_kinds, k__law_kinds⟩ := l__law_kinds
  have F__law_kinds := fun_mk l__law_kinds e__law_kinds k__law_kinds
  have b__law_kinds := F__law_kinds.binds (ps := ["_law_found", "_law_count"]) fun _ _ _ _ _ _ us hl => len2 us hl fun _ _ => rfl
  obtain ⟨_, _, _, _, _, _, _, _, _, l__law_laid_so, e__law_laid_so, k__law_laid_so⟩ := l__law_laid_so
  have F__law_laid_so := fun_mk l__law_laid_so e__law_laid_so k__law_laid_so
  have b__law_laid_so := F__law_laid_so.binds (ps := ["_law_found", "_law_known_here"]) fun _ _ _ _ _ _ us hl => len2 us hl fun _ _ => rfl
  obtain ⟨_, _, _, _, _, _, _, _, _, l_law, e_law, k_law⟩ := l_law
  have F_law := fun_mk l_law e_law k_law
  have b_law := F_law.binds (ps := ["_law_script"]) fun _ _ _ _ _ _ us hl => len1 us hl fun _ => rfl
  have T : Txt K mg { pieces_by_name := f_pieces_by_name, fd_pieces_by_name := _, laid := f_laid, fd_laid := _, laid_with_ends := f_laid_with_ends, fd_laid_with_ends := _, in_order := f_in_order, fd_in_order := _, multiple_from := f_multiple_from, fd_multiple_from := _, _law_whole := f__law_whole, fd__law_whole := _, _law_cell_at := f__law_cell_at, fd__law_cell_at := _, _law_name_by := f__law_name_by, fd__law_name_by := _, _law_many_by := f__law_many_by, fd__law_many_by := _, _law_drawn := f__law_drawn, fd__law_drawn := _, _law_known := f__law_known, fd__law_known := _, _law_copies := f__law_copies, fd__law_copies := _, _law_kinds := f__law_kinds, fd__law_kinds := _, _law_laid_so := f__law_laid_so, fd__law_laid_so := _, law := fa, fd_law := _ } := {
    m_pieces_by_name := PySem.W.mg_of X G a_pieces_by_name
    k_pieces_by_name := k_pieces_by_name
    b_pieces_by_name := b_pieces_by_name
    F_pieces_by_name := F_pieces_by_name
    m_laid := PySem.W.mg_of X G a_laid
    k_laid := k_laid
    b_laid := b_laid
    F_laid := F_laid
    m_laid_with_ends := PySem.W.mg_of X G a_laid_with_ends
    k_laid_with_ends := k_laid_with_ends
    b_laid_with_ends := b_laid_with_ends
    F_laid_with_ends := F_laid_with_ends
    m_in_order := PySem.W.mg_of X G a_in_order
    k_in_order := k_in_order
    b_in_order := b_in_order
    F_in_order := F_in_order
    m_multiple_from := PySem.W.mg_of X G a_multiple_from
    k_multiple_from := k_multiple_from
    b_multiple_from := b_multiple_from
    F_multiple_from := F_multiple_from
    m__law_whole := PySem.W.mg_of X G a__law_whole
    k__law_whole := k__law_whole
    b__law_whole := b__law_whole
    F__law_whole := F__law_whole
    m__law_cell_at := PySem.W.mg_of X G a__law_cell_at
    k__law_cell_at := k__law_cell_at
    b__law_cell_at := b__law_cell_at
    F__law_cell_at := F__law_cell_at
    m__law_name_by := PySem.W.mg_of X G a__law_name_by
    k__law_name_by := k__law_name_by
    b__law_name_by := b__law_name_by
    F__law_name_by := F__law_name_by
    m__law_many_by := PySem.W.mg_of X G a__law_many_by
    k__law_many_by := k__law_many_by
    b__law_many_by := b__law_many_by
    F__law_many_by := F__law_many_by
    m__law_drawn := PySem.W.mg_of X G a__law_drawn
    k__law_drawn := k__law_drawn
    b__law_drawn := b__law_drawn
    F__law_drawn := F__law_drawn
    m__law_known := PySem.W.mg_of X G a__law_known
    k__law_known := k__law_known
    b__law_known := b__law_known
    F__law_known := F__law_known
    m__law_copies := PySem.W.mg_of X G a__law_copies
    k__law_copies := k__law_copies
    b__law_copies := b__law_copies
    F__law_copies := F__law_copies
    m__law_kinds := PySem.W.mg_of X G a__law_kinds
    k__law_kinds := k__law_kinds
    b__law_kinds := b__law_kinds
    F__law_kinds := F__law_kinds
    m__law_laid_so := PySem.W.mg_of X G a__law_laid_so
    k__law_laid_so := k__law_laid_so
    b__law_laid_so := b__law_laid_so
    F__law_laid_so := F__law_laid_so
    m_law := PySem.W.mg_of X G a_law
    k_law := k_law
    b_law := b_law
    F_law := F_law
    n_bool := PySem.W.mg_none_of X G n_bool
    n_dict := PySem.W.mg_none_of X G n_dict
    n_int := PySem.W.mg_none_of X G n_int
    n_isinstance := PySem.W.mg_none_of X G n_isinstance
    n_len := PySem.W.mg_none_of X G n_len
    n_list := PySem.W.mg_none_of X G n_list
    n_range := PySem.W.mg_none_of X G n_range
    n_reversed := PySem.W.mg_none_of X G n_reversed
    n_sorted := PySem.W.mg_none_of X G n_sorted
    n_str := PySem.W.mg_none_of X G n_str
    n_tuple := PySem.W.mg_none_of X G n_tuple }
  exact ⟨_, fun s v => .of_eq rfl, fun base _ _ => G_law T⟩
theorem walk {l : PySem.W.OpenLaw} {q : Program} {loose : List Str} {XP : (Str → Option Value) → Heap → Prop} {YP : World → Heap → Prop} {d : DefRec} {K : Params → PySem.W.Frag} (hn : l.most = some 63) (hdf : d.params.defaults = [])
    (hY : ∀ (w : World) (h : Heap), YP w h → (K w.params).In h)
    (F : ∀ (w : World) (mg : Str → Option Value) (fa : Addr) (h : Heap), (K w.params).In h → h.Ns mainGlobals mg → mg d.name = some (.ref fa) →
      ∃ fd : FuncData, (∀ (s : Shared) (u : Value), BindsTo s fd ⟨[u], []⟩ [("_law_script", u)]) ∧ ∀ base : Heap, (K w.params).In base → base.Ns mainGlobals mg → FnOk l.prog w (K w.params) mg base CX0 9 fa fd ["_law_script"] (sp_law (K w.params))) :
    PySem.W.WalkO q loose XP YP l.row.toRowW d [] (fun f vs => PySem.call f vs) :=
  L2.walk_of (n := 63) (k := 9) (x := "_law_script") (CX := fun _ => CX0) (sp := fun w => sp_law (K w.params)) hn (by decide) hdf ⟨rfl, by decide, by decide⟩ hY F (fun _ _ a ns hl _ hS => ⟨a, ns, rfl, hS, hl, fun _ => rfl⟩) fun _ _ _ _ _ z => z
end My
namespace Hd
open PySem PySem.W PySem.Calls PyProof.Rows
noncomputable abbrev pw : Program := PySem.Challenge.pw_joinload_k30_laid_by_steps
noncomputable def T (i : Nat) : Stmt := My.top i
noncomputable def C (i j : Nat) : Stmt := L2.inClass (My.top i) j
noncomputable abbrev k (P : Params) (x : Str) (t : Tok) (v : Value) : DictEntry := ⟨PyData.keyHash P x, .str x t, v⟩
noncomputable abbrev fn (s : Stmt) (x q : Str) (dV kV doc pm : Value) (an : Option Addr) (cd ct : Value) : FuncData := fnOf x q (L2.defArgs s) (L2.defBody s) (L2.defScope s) dV kV doc pm an cd ct
noncomputable abbrev e1 : Obj := ⟨.type "tuple", none, .seq #[] 0, #[]⟩
noncomputable abbrev e2 : Obj := ⟨.none, none, .fields #[], #[]⟩
noncomputable abbrev tu (x : Array Value) : Obj := ⟨.type "tuple", none, .seq x 0, #[]⟩
noncomputable abbrev nf (x : Array Value) : Obj := ⟨.none, none, .fields x, #[]⟩
noncomputable abbrev bs (a : Addr) : Obj := ⟨.type "builtin_function_or_method", none, .fields #[.builtin "object.__init_subclass__", .ref a], #[]⟩
noncomputable abbrev co (x q : Str) (t : Nat) (l a b : Int) (r : Addr) (o : Bool) (r2 : Addr) (v : Value) (u : Nat) : Obj := ⟨.type "code", none, .fields #[.str x t, .str q (t + 1), .str "/claim/cut.py" (t + 2), .int l 0, .int a 0, .int 0 0, .int 0 0, .int b 0, .ref r, .bool o, .int 181 0, .ref r2, .none, .none, .none, v, .int (Int.ofNat u) 0, .int l 0, .str "/claim/cut.py" (u + 1)], #[]⟩
noncomputable abbrev fm (a b : Addr) (v : Value) : Obj := ⟨.type "frame", none, .plain, #[some (.ref a), some (.ref 3), some (.ref b), none, some v, none, some (.ref 0)]⟩
noncomputable abbrev fo (s : Stmt) (x q m : Str) (t : Nat) (c : Addr) : Obj := ⟨.type "function", none, .func (fn s x q .none .none .none (.str m t) none (.ref c) .none), #[]⟩
noncomputable abbrev ft (s : Stmt) (x q : Str) : Obj := ⟨.none, none, .func { fn s x q .none .none .none .none none .none .none with globals := 0, closure := [], builtins := 0 }, #[]⟩
noncomputable def od : List (Nat × Obj) → List (Nat × Obj)
  | [] => []
  | (i, o) :: r => match Nat.beq (i % 2) 1 with
    | true => (i / 2, o) :: od r
    | false => od r
noncomputable def ev : List (Nat × Obj) → List (Nat × Obj)
  | [] => []
  | (i, o) :: r => match Nat.beq i 0 with
    | true => ev r
    | false => match Nat.beq (i % 2) 1 with
      | true => ev r
      | false => (i / 2 - 1, o) :: ev r
noncomputable def at0 (v : Obj) : List (Nat × Obj) → Obj
  | [] => v
  | (i, o) :: r => match Nat.beq i 0 with
    | true => o
    | false => at0 v r
noncomputable def mg : Nat → BT → List (Nat × Obj) → BT
  | 0, t, _ => t
  | f + 1, t, d => match d with
    | [] => t
    | x :: r => match t with
      | .nil => .node (at0 default (x :: r)) (mg f .nil (od (x :: r))) (mg f .nil (ev (x :: r)))
      | .node v a b => .node (at0 v (x :: r)) (mg f a (od (x :: r))) (mg f b (ev (x :: r)))
noncomputable def bd : List Stmt := behindTheImports pw
noncomputable def en : Env := { scope := pw.main.scope, locals := mainNs, globals := mainNs, cells := [], code := (.ref 13), frame := some 14 }
noncomputable abbrev cE : Code := .body bd en
noncomputable abbrev B : List Frame := [topFrame ⟨0, 0, 0, 0⟩]
noncomputable def li : Life := { registered := [], finalised := [], alive := [], known := 0, ids := [], orphanDicts := [], counting := false, cnt := ⟨[]⟩, zero := [], soft := 0, below := false, collecting := false, loading := false, debug := 0, thresholds := [2000, 10, 10], woke := false, asked := 0, gcEnabled := true, old := [], middle := [], young := 0, intoMiddle := false }
noncomputable abbrev an : Option Value := (some (.ref 6))
noncomputable abbrev sT (t : BT) (n k : Nat) (os : OsState) : SharedT := ⟨t, n, li, ⟨[]⟩, boot_drawn, k, os⟩
noncomputable abbrev sR (w : World) (n : Nat) (S S' : World → OsState → SharedT) (l : List Stmt) (p p' : Pos) : Prop := (fun os => segRunT treeTable pw w 11 an 1 n (S w os) (piecesOf l en cE p B)) = fun os => some (.next, S' w os, cE, p')
noncomputable def o11_0 : Obj := e1
noncomputable def o12_0 : Obj := e2
noncomputable def o13_0 : Obj := co "<module>" "<module>" 182 1 0 0 11 false 12 .none 185
noncomputable def o14_0 : Obj := fm 13 3 (.str "__main__" 164)
noncomputable def Ha (P : Params) : Heap := ⟨⟨boot_o_0 P :: boot_o_1 P :: boot_o_2 P :: boot_o_3 P :: boot_o_4 P :: boot_o_5 P :: boot_o_6 P :: boot_o_7 P :: boot_o_8 P :: boot_o_9 P :: boot_o_10 P :: o11_0 :: o12_0 :: o13_0 :: o14_0 :: []⟩, li⟩
noncomputable def S0 (w : World) (os : OsState) : Shared := ⟨boot_heap w.params, ⟨[]⟩, boot_drawn, boot_toks, os⟩
noncomputable def Sa (w : World) (os : OsState) : Shared := ⟨Ha w.params, ⟨[]⟩, boot_drawn, 187, os⟩
noncomputable def Pre (w : World) : Prop := (fun os => topGo treeTable pw w 11 an 12 (S0 w os) (topStub pw)) = fun os => some (Sa w os, ⟨denote treeTable cE, cE, ⟨0, 0, 0, 0⟩, B⟩)
noncomputable def D0 (P : Params) : List (Nat × Obj) := (0, boot_o_0 P) :: (1, boot_o_1 P) :: (2, boot_o_2 P) :: (3, boot_o_3 P) :: (4, boot_o_4 P) :: (5, boot_o_5 P) :: (6, boot_o_6 P) :: (7, boot_o_7 P) :: (8, boot_o_8 P) :: (9, boot_o_9 P) :: (10, boot_o_10 P) :: (11, o11_0) :: (12, o12_0) :: (13, o13_0) :: (14, o14_0) :: []
noncomputable def T0 (P : Params) : BT := mg 14 .nil (D0 P)
noncomputable def S0T (w : World) : OsState → SharedT := sT (T0 w.params) 15 187
noncomputable def Blk (w : World) : Prop := (fun os => segRun treeTable pw w 11 an 1 1 (Sa w os) (blockOf bd en cE ⟨0, 0, 0, 0⟩ B)) = fun os => some (.next, (S0T w os).abs, cE, ⟨0, 0, 0, 0⟩)
noncomputable def g3_2 (P : Params) : List DictEntry := [k P "__name__" 165 (.str "law_joinload_k30_laid_by_steps" 231), k P "__doc__" 166 .none, k P "__package__" 167 .none, k P "__loader__" 168 (.builtin "__main__.__loader__#opaque"), k P "__spec__" 169 .none, k P "__annotations__" 170 (.ref 6), k P "__builtins__" 171 (.ref 4), k P "__file__" 173 (.str "/claim/cut.py" 172), k P "__cached__" 174 .none, k P "pieces_by_name" 194 (.ref 19), k P "laid" 202 (.ref 24), k P "laid_with_ends" 216 (.ref 31), k P "in_order" 222 (.ref 36), k P "multiple_from" 230 (.ref 43), k P "_law_whole" 239 (.ref 50), k P "_law_cell_at" 247 (.ref 57), k P "_law_name_by" 260 (.ref 64), k P "_law_many_by" 267 (.ref 71), k P "_law_drawn" 282 (.ref 78), k P "_law_known" 294 (.ref 85), k P "_law_copies" 300 (.ref 90), k P "_law_kinds" 309 (.ref 97), k P "_law_laid_so" 325 (.ref 104), k P "law" 331 (.ref 109)]
noncomputable def o3_2 (P : Params) : Obj := ⟨(.type "dict"), none, .dict (g3_2 P).toArray 24, #[]⟩
noncomputable def o12_2 : Obj := nf #[(.int (2) 0), (.int (0) 0), (.ref 18), (.int (5) 0), (.int (0) 0), (.ref 23), (.int (7) 0), (.int (0) 0), (.ref 30), (.int (17) 0), (.int (0) 0), (.ref 35), (.int (22) 0), (.int (0) 0), (.ref 42), (.int (25) 0), (.int (0) 0), (.ref 49), (.int (27) 0), (.int (0) 0), (.ref 56), (.int (31) 0), (.int (0) 0), (.ref 63), (.int (41) 0), (.int (0) 0), (.ref 70), (.int (45) 0), (.int (0) 0), (.ref 77), (.int (62) 0), (.int (0) 0), (.ref 84), (.int (68) 0), (.int (0) 0), (.ref 89), (.int (74) 0), (.int (0) 0), (.ref 96), (.int (85) 0), (.int (0) 0), (.ref 103), (.int (97) 0), (.int (0) 0), (.ref 108)]
noncomputable def o15_2 : Obj := e1
noncomputable def o16_2 : Obj := e2
noncomputable def o17_2 : Obj := ft (T 1) "pieces_by_name" "pieces_by_name"
noncomputable def o18_2 : Obj := co "pieces_by_name" "pieces_by_name" 189 2 1 3 15 true 16 (.ref 17) 192
noncomputable def o19_2 : Obj := fo (T 1) "pieces_by_name" "pieces_by_name" "joinload.pieces" 187 18
noncomputable def o20_2 : Obj := e1
noncomputable def o21_2 : Obj := e2
noncomputable def o22_2 : Obj := ft (T 3) "laid" "laid"
noncomputable def o23_2 : Obj := co "laid" "laid" 197 5 2 3 20 true 21 (.ref 22) 200
noncomputable def o24_2 : Obj := fo (T 3) "laid" "laid" "joinload.laying" 195 23
noncomputable def o25_2 : Obj := e1
noncomputable def o26_2 : Obj := e2
noncomputable def o27_2 : Obj := tu #[(.str "pieces" 206), (.str "keys" 207), (.str "by_name" 208), (.str "rows" 209), (.str "end" 210), (.str "key" 211), (.str "stretch" 212), (.str "place" 213)]
noncomputable def o28_2 : Obj := e1
noncomputable def o29_2 : Obj := ft (T 4) "laid_with_ends" "laid_with_ends"
noncomputable def o30_2 : Obj := ⟨(.type "code"), none, (.fields #[(.str "laid_with_ends" 203), (.str "laid_with_ends" 204), (.str "/claim/cut.py" 205), (.int (7) 0), (.int (2) 0), (.int (0) 0), (.int (0) 0), (.int (3) 0), (.ref 25), (.bool true), (.int (181) 0), (.ref 26), .none, (.ref 27), (.ref 28), (.ref 29), (.int (214) 0), (.int (7) 0), (.str "/claim/cut.py" 215)]), #[]⟩
noncomputable def o31_2 : Obj := fo (T 4) "laid_with_ends" "laid_with_ends" "joinload.laying" 195 30
noncomputable def o32_2 : Obj := e1
noncomputable def o33_2 : Obj := e2
noncomputable def o34_2 : Obj := ft (T 5) "in_order" "in_order"
noncomputable def o35_2 : Obj := co "in_order" "in_order" 217 17 2 3 32 true 33 (.ref 34) 220
noncomputable def o36_2 : Obj := fo (T 5) "in_order" "in_order" "joinload.laying" 195 35
noncomputable def o37_2 : Obj := e1
noncomputable def o38_2 : Obj := e2
noncomputable def o39_2 : Obj := tu #[(.str "number" 226), (.str "step" 227)]
noncomputable def o40_2 : Obj := e1
noncomputable def o41_2 : Obj := ft (T 6) "multiple_from" "multiple_from"
noncomputable def o42_2 : Obj := ⟨(.type "code"), none, (.fields #[(.str "multiple_from" 223), (.str "multiple_from" 224), (.str "/claim/cut.py" 225), (.int (22) 0), (.int (2) 0), (.int (0) 0), (.int (0) 0), (.int (3) 0), (.ref 37), (.bool true), (.int (181) 0), (.ref 38), .none, (.ref 39), (.ref 40), (.ref 41), (.int (228) 0), (.int (22) 0), (.str "/claim/cut.py" 229)]), #[]⟩
noncomputable def o43_2 : Obj := fo (T 6) "multiple_from" "multiple_from" "joinload.laying" 195 42
noncomputable def o44_2 : Obj := e1
noncomputable def o45_2 : Obj := e2
noncomputable def o46_2 : Obj := tu #[(.str "_law_found" 236)]
noncomputable def o47_2 : Obj := e1
noncomputable def o48_2 : Obj := ft (T 8) "_law_whole" "_law_whole"
noncomputable def o49_2 : Obj := ⟨(.type "code"), none, (.fields #[(.str "_law_whole" 233), (.str "_law_whole" 234), (.str "/claim/cut.py" 235), (.int (25) 0), (.int (1) 0), (.int (0) 0), (.int (0) 0), (.int (3) 0), (.ref 44), (.bool true), (.int (181) 0), (.ref 45), .none, (.ref 46), (.ref 47), (.ref 48), (.int (237) 0), (.int (25) 0), (.str "/claim/cut.py" 238)]), #[]⟩
noncomputable def o50_2 : Obj := fo (T 8) "_law_whole" "_law_whole" "law_joinload_k30_laid_by_steps" 231 49
noncomputable def o51_2 : Obj := e1
noncomputable def o52_2 : Obj := e2
noncomputable def o53_2 : Obj := tu #[(.str "_law_script" 243), (.str "_law_k" 244)]
noncomputable def o54_2 : Obj := e1
noncomputable def o55_2 : Obj := ft (T 9) "_law_cell_at" "_law_cell_at"
noncomputable def o56_2 : Obj := ⟨(.type "code"), none, (.fields #[(.str "_law_cell_at" 240), (.str "_law_cell_at" 241), (.str "/claim/cut.py" 242), (.int (27) 0), (.int (2) 0), (.int (0) 0), (.int (0) 0), (.int (3) 0), (.ref 51), (.bool true), (.int (181) 0), (.ref 52), .none, (.ref 53), (.ref 54), (.ref 55), (.int (245) 0), (.int (27) 0), (.str "/claim/cut.py" 246)]), #[]⟩
noncomputable def o57_2 : Obj := fo (T 9) "_law_cell_at" "_law_cell_at" "law_joinload_k30_laid_by_steps" 231 56
noncomputable def o58_2 : Obj := e1
noncomputable def o59_2 : Obj := e2
noncomputable def o60_2 : Obj := tu #[(.str "_law_cell" 251), (.str "_law_k" 252), (.str "_law_signs" 253), (.str "_law_base" 254), (.str "_law_j" 255), (.str "_law_at" 256), (.str "_law_figures" 257)]
noncomputable def o61_2 : Obj := e1
noncomputable def o62_2 : Obj := ft (T 10) "_law_name_by" "_law_name_by"
noncomputable def o63_2 : Obj := ⟨(.type "code"), none, (.fields #[(.str "_law_name_by" 248), (.str "_law_name_by" 249), (.str "/claim/cut.py" 250), (.int (31) 0), (.int (2) 0), (.int (0) 0), (.int (0) 0), (.int (3) 0), (.ref 58), (.bool true), (.int (181) 0), (.ref 59), .none, (.ref 60), (.ref 61), (.ref 62), (.int (258) 0), (.int (31) 0), (.str "/claim/cut.py" 259)]), #[]⟩
noncomputable def o64_2 : Obj := fo (T 10) "_law_name_by" "_law_name_by" "law_joinload_k30_laid_by_steps" 231 63
noncomputable def o65_2 : Obj := e1
noncomputable def o66_2 : Obj := e2
noncomputable def o67_2 : Obj := tu #[(.str "_law_number" 264)]
noncomputable def o68_2 : Obj := e1
noncomputable def o69_2 : Obj := ft (T 11) "_law_many_by" "_law_many_by"
noncomputable def o70_2 : Obj := ⟨(.type "code"), none, (.fields #[(.str "_law_many_by" 261), (.str "_law_many_by" 262), (.str "/claim/cut.py" 263), (.int (41) 0), (.int (1) 0), (.int (0) 0), (.int (0) 0), (.int (3) 0), (.ref 65), (.bool true), (.int (181) 0), (.ref 66), .none, (.ref 67), (.ref 68), (.ref 69), (.int (265) 0), (.int (41) 0), (.str "/claim/cut.py" 266)]), #[]⟩
noncomputable def o71_2 : Obj := fo (T 11) "_law_many_by" "_law_many_by" "law_joinload_k30_laid_by_steps" 231 70
noncomputable def o72_2 : Obj := e1
noncomputable def o73_2 : Obj := e2
noncomputable def o74_2 : Obj := tu #[(.str "_law_script" 271), (.str "_law_most" 272), (.str "_law_pieces" 273), (.str "_law_keys" 274), (.str "_law_cell" 275), (.str "_law_number" 276), (.str "_law_rows" 277), (.str "_law_kind" 278), (.str "_law_at" 279)]
noncomputable def o75_2 : Obj := e1
noncomputable def o76_2 : Obj := ft (T 12) "_law_drawn" "_law_drawn"
noncomputable def o77_2 : Obj := ⟨(.type "code"), none, (.fields #[(.str "_law_drawn" 268), (.str "_law_drawn" 269), (.str "/claim/cut.py" 270), (.int (45) 0), (.int (2) 0), (.int (0) 0), (.int (0) 0), (.int (3) 0), (.ref 72), (.bool true), (.int (181) 0), (.ref 73), .none, (.ref 74), (.ref 75), (.ref 76), (.int (280) 0), (.int (45) 0), (.str "/claim/cut.py" 281)]), #[]⟩
noncomputable def o78_2 : Obj := fo (T 12) "_law_drawn" "_law_drawn" "law_joinload_k30_laid_by_steps" 231 77
noncomputable def o79_2 : Obj := e1
noncomputable def o80_2 : Obj := e2
noncomputable def o81_2 : Obj := tu #[(.str "_law_pieces" 286), (.str "_law_known_here" 287), (.str "_law_title" 288), (.str "_law_rows" 289), (.str "_law_told" 290), (.str "_law_k" 291)]
noncomputable def o82_2 : Obj := e1
noncomputable def o83_2 : Obj := ft (T 13) "_law_known" "_law_known"
noncomputable def o84_2 : Obj := ⟨(.type "code"), none, (.fields #[(.str "_law_known" 283), (.str "_law_known" 284), (.str "/claim/cut.py" 285), (.int (62) 0), (.int (1) 0), (.int (0) 0), (.int (0) 0), (.int (3) 0), (.ref 79), (.bool true), (.int (181) 0), (.ref 80), .none, (.ref 81), (.ref 82), (.ref 83), (.int (292) 0), (.int (62) 0), (.str "/claim/cut.py" 293)]), #[]⟩
noncomputable def o85_2 : Obj := fo (T 13) "_law_known" "_law_known" "law_joinload_k30_laid_by_steps" 231 84
noncomputable def o86_2 : Obj := e1
noncomputable def o87_2 : Obj := e2
noncomputable def o88_2 : Obj := ft (T 14) "_law_copies" "_law_copies"
noncomputable def o89_2 : Obj := co "_law_copies" "_law_copies" 295 68 1 3 86 true 87 (.ref 88) 298
noncomputable def o90_2 : Obj := fo (T 14) "_law_copies" "_law_copies" "law_joinload_k30_laid_by_steps" 231 89
noncomputable def o91_2 : Obj := e1
noncomputable def o92_2 : Obj := e2
noncomputable def o93_2 : Obj := tu #[(.str "_law_found" 304), (.str "_law_count" 305), (.str "_law_row" 306)]
noncomputable def o94_2 : Obj := e1
noncomputable def o95_2 : Obj := ft (T 15) "_law_kinds" "_law_kinds"
noncomputable def o96_2 : Obj := ⟨(.type "code"), none, (.fields #[(.str "_law_kinds" 301), (.str "_law_kinds" 302), (.str "/claim/cut.py" 303), (.int (74) 0), (.int (2) 0), (.int (0) 0), (.int (0) 0), (.int (3) 0), (.ref 91), (.bool true), (.int (181) 0), (.ref 92), .none, (.ref 93), (.ref 94), (.ref 95), (.int (307) 0), (.int (74) 0), (.str "/claim/cut.py" 308)]), #[]⟩
noncomputable def o97_2 : Obj := fo (T 15) "_law_kinds" "_law_kinds" "law_joinload_k30_laid_by_steps" 231 96
noncomputable def o98_2 : Obj := e1
noncomputable def o99_2 : Obj := e2
noncomputable def o100_2 : Obj := tu #[(.str "_law_found" 313), (.str "_law_known_here" 314), (.str "_law_end" 315), (.str "_law_last" 316), (.str "_law_key" 317), (.str "_law_place" 318), (.str "_law_kind" 319), (.str "_law_step" 320), (.str "_law_words" 321), (.str "_law_fills" 322)]
noncomputable def o101_2 : Obj := e1
noncomputable def o102_2 : Obj := ft (T 16) "_law_laid_so" "_law_laid_so"
noncomputable def o103_2 : Obj := ⟨(.type "code"), none, (.fields #[(.str "_law_laid_so" 310), (.str "_law_laid_so" 311), (.str "/claim/cut.py" 312), (.int (85) 0), (.int (2) 0), (.int (0) 0), (.int (0) 0), (.int (3) 0), (.ref 98), (.bool true), (.int (181) 0), (.ref 99), .none, (.ref 100), (.ref 101), (.ref 102), (.int (323) 0), (.int (85) 0), (.str "/claim/cut.py" 324)]), #[]⟩
noncomputable def o104_2 : Obj := fo (T 16) "_law_laid_so" "_law_laid_so" "law_joinload_k30_laid_by_steps" 231 103
noncomputable def o105_2 : Obj := e1
noncomputable def o106_2 : Obj := e2
noncomputable def o107_2 : Obj := ft (T 17) "law" "law"
noncomputable def o108_2 : Obj := co "law" "law" 326 97 1 3 105 true 106 (.ref 107) 329
noncomputable def o109_2 : Obj := fo (T 17) "law" "law" "law_joinload_k30_laid_by_steps" 231 108
noncomputable def d1_0 (P : Params) (r : List (Nat × Obj)) : List (Nat × Obj) := (3, o3_2 P) :: (12, o12_2) :: (15, o15_2) :: (16, o16_2) :: (17, o17_2) :: (18, o18_2) :: (19, o19_2) :: (20, o20_2) :: (21, o21_2) :: (22, o22_2) :: (23, o23_2) :: (24, o24_2) :: (25, o25_2) :: (26, o26_2) :: (27, o27_2) :: (28, o28_2) :: (29, o29_2) :: (30, o30_2) :: (31, o31_2) :: (32, o32_2) :: (33, o33_2) :: (34, o34_2) :: (35, o35_2) :: (36, o36_2) :: r
noncomputable def d1_1 (P : Params) (r : List (Nat × Obj)) : List (Nat × Obj) := (37, o37_2) :: (38, o38_2) :: (39, o39_2) :: (40, o40_2) :: (41, o41_2) :: (42, o42_2) :: (43, o43_2) :: (44, o44_2) :: (45, o45_2) :: (46, o46_2) :: (47, o47_2) :: (48, o48_2) :: (49, o49_2) :: (50, o50_2) :: (51, o51_2) :: (52, o52_2) :: (53, o53_2) :: (54, o54_2) :: (55, o55_2) :: (56, o56_2) :: (57, o57_2) :: (58, o58_2) :: (59, o59_2) :: (60, o60_2) :: r
noncomputable def d1_2 (P : Params) (r : List (Nat × Obj)) : List (Nat × Obj) := (61, o61_2) :: (62, o62_2) :: (63, o63_2) :: (64, o64_2) :: (65, o65_2) :: (66, o66_2) :: (67, o67_2) :: (68, o68_2) :: (69, o69_2) :: (70, o70_2) :: (71, o71_2) :: (72, o72_2) :: (73, o73_2) :: (74, o74_2) :: (75, o75_2) :: (76, o76_2) :: (77, o77_2) :: (78, o78_2) :: (79, o79_2) :: (80, o80_2) :: (81, o81_2) :: (82, o82_2) :: (83, o83_2) :: (84, o84_2) :: r
noncomputable def d1_3 (P : Params) (r : List (Nat × Obj)) : List (Nat × Obj) := (85, o85_2) :: (86, o86_2) :: (87, o87_2) :: (88, o88_2) :: (89, o89_2) :: (90, o90_2) :: (91, o91_2) :: (92, o92_2) :: (93, o93_2) :: (94, o94_2) :: (95, o95_2) :: (96, o96_2) :: (97, o97_2) :: (98, o98_2) :: (99, o99_2) :: (100, o100_2) :: (101, o101_2) :: (102, o102_2) :: (103, o103_2) :: (104, o104_2) :: (105, o105_2) :: (106, o106_2) :: (107, o107_2) :: (108, o108_2) :: r
noncomputable def d1_4 (P : Params) (r : List (Nat × Obj)) : List (Nat × Obj) := (109, o109_2) :: r
noncomputable def T1 (P : Params) : BT := mg 14 (T0 P) (d1_0 P (d1_1 P (d1_2 P (d1_3 P (d1_4 P ([]))))))
noncomputable def S1T (w : World) : OsState → SharedT := sT (T1 w.params) 110 332
noncomputable def L0 : List Stmt := My.top 0 :: My.top 1 :: My.top 2 :: My.top 3 :: My.top 4 :: My.top 5 :: My.top 6 :: My.top 7 :: My.top 8 :: My.top 9 :: My.top 10 :: My.top 11 :: My.top 12 :: My.top 13 :: My.top 14 :: My.top 15 :: My.top 16 :: My.top 17 :: []
noncomputable def P0 (w : World) : Prop := sR w 487 S0T S1T L0 ⟨0, 0, 0, 0⟩ ⟨97, 0, 112, 53⟩
noncomputable def h_0 (P : Params) (r : List Obj) : List Obj := boot_o_0 P :: boot_o_1 P :: boot_o_2 P :: o3_2 P :: boot_o_4 P :: boot_o_5 P :: boot_o_6 P :: boot_o_7 P :: boot_o_8 P :: boot_o_9 P :: boot_o_10 P :: o11_0 :: o12_2 :: o13_0 :: o14_0 :: o15_2 :: o16_2 :: o17_2 :: o18_2 :: o19_2 :: o20_2 :: o21_2 :: o22_2 :: o23_2 :: r
noncomputable def h_1 (P : Params) (r : List Obj) : List Obj := o24_2 :: o25_2 :: o26_2 :: o27_2 :: o28_2 :: o29_2 :: o30_2 :: o31_2 :: o32_2 :: o33_2 :: o34_2 :: o35_2 :: o36_2 :: o37_2 :: o38_2 :: o39_2 :: o40_2 :: o41_2 :: o42_2 :: o43_2 :: o44_2 :: o45_2 :: o46_2 :: o47_2 :: r
noncomputable def h_2 (P : Params) (r : List Obj) : List Obj := o48_2 :: o49_2 :: o50_2 :: o51_2 :: o52_2 :: o53_2 :: o54_2 :: o55_2 :: o56_2 :: o57_2 :: o58_2 :: o59_2 :: o60_2 :: o61_2 :: o62_2 :: o63_2 :: o64_2 :: o65_2 :: o66_2 :: o67_2 :: o68_2 :: o69_2 :: o70_2 :: o71_2 :: r
noncomputable def h_3 (P : Params) (r : List Obj) : List Obj := o72_2 :: o73_2 :: o74_2 :: o75_2 :: o76_2 :: o77_2 :: o78_2 :: o79_2 :: o80_2 :: o81_2 :: o82_2 :: o83_2 :: o84_2 :: o85_2 :: o86_2 :: o87_2 :: o88_2 :: o89_2 :: o90_2 :: o91_2 :: o92_2 :: o93_2 :: o94_2 :: o95_2 :: r
noncomputable def h_4 (P : Params) (r : List Obj) : List Obj := o96_2 :: o97_2 :: o98_2 :: o99_2 :: o100_2 :: o101_2 :: o102_2 :: o103_2 :: o104_2 :: o105_2 :: o106_2 :: o107_2 :: o108_2 :: o109_2 :: r
noncomputable def Hf (P : Params) : Heap := ⟨⟨h_0 P (h_1 P (h_2 P (h_3 P (h_4 P ([])))))⟩, li⟩
noncomputable def Sf (w : World) (os : OsState) : Shared := ⟨Hf w.params, ⟨[]⟩, boot_drawn, 332, os⟩
noncomputable def Fin (w : World) : Prop := (fun os => topRun treeTable pw w 11 an 2 (S1T w os).abs ⟨doneF .next, cE, ⟨97, 0, 112, 53⟩, B⟩) = fun os => some (Sf w os)
noncomputable def q : Program := { pw with main := { pw.main with body := My.top 1 :: My.top 3 :: My.top 4 :: My.top 5 :: My.top 6 :: My.top 8 :: My.top 9 :: My.top 10 :: My.top 11 :: My.top 12 :: My.top 13 :: My.top 14 :: My.top 15 :: My.top 16 :: My.top 17 :: [] } }
noncomputable def K (P : Params) : Frag := (nat_lit 2, boot_o_2 P) :: (nat_lit 3, o3_2 P) :: (nat_lit 6, boot_o_6 P) :: (nat_lit 15, o15_2) :: (nat_lit 18, o18_2) :: (nat_lit 19, o19_2) :: (nat_lit 20, o20_2) :: (nat_lit 23, o23_2) :: (nat_lit 24, o24_2) :: (nat_lit 25, o25_2) :: (nat_lit 27, o27_2) :: (nat_lit 28, o28_2) :: (nat_lit 30, o30_2) :: (nat_lit 31, o31_2) :: (nat_lit 32, o32_2) :: (nat_lit 35, o35_2) :: (nat_lit 36, o36_2) :: (nat_lit 37, o37_2) :: (nat_lit 39, o39_2) :: (nat_lit 40, o40_2) :: (nat_lit 42, o42_2) :: (nat_lit 43, o43_2) :: (nat_lit 44, o44_2) :: (nat_lit 46, o46_2) :: (nat_lit 47, o47_2) :: (nat_lit 49, o49_2) :: (nat_lit 50, o50_2) :: (nat_lit 51, o51_2) :: (nat_lit 53, o53_2) :: (nat_lit 54, o54_2) :: (nat_lit 56, o56_2) :: (nat_lit 57, o57_2) :: (nat_lit 58, o58_2) :: (nat_lit 60, o60_2) :: (nat_lit 61, o61_2) :: (nat_lit 63, o63_2) :: (nat_lit 64, o64_2) :: (nat_lit 65, o65_2) :: (nat_lit 67, o67_2) :: (nat_lit 68, o68_2) :: (nat_lit 70, o70_2) :: (nat_lit 71, o71_2) :: (nat_lit 72, o72_2) :: (nat_lit 74, o74_2) :: (nat_lit 75, o75_2) :: (nat_lit 77, o77_2) :: (nat_lit 78, o78_2) :: (nat_lit 79, o79_2) :: (nat_lit 81, o81_2) :: (nat_lit 82, o82_2) :: (nat_lit 84, o84_2) :: (nat_lit 85, o85_2) :: (nat_lit 86, o86_2) :: (nat_lit 89, o89_2) :: (nat_lit 90, o90_2) :: (nat_lit 91, o91_2) :: (nat_lit 93, o93_2) :: (nat_lit 94, o94_2) :: (nat_lit 96, o96_2) :: (nat_lit 97, o97_2) :: (nat_lit 98, o98_2) :: (nat_lit 100, o100_2) :: (nat_lit 101, o101_2) :: (nat_lit 103, o103_2) :: (nat_lit 104, o104_2) :: (nat_lit 105, o105_2) :: (nat_lit 108, o108_2) :: (nat_lit 109, o109_2) :: []
noncomputable def f_0 (P : Params) (r : List (Nat × Obj)) : List (Nat × Obj) := (2, boot_o_2 P) :: (3, o3_2 P) :: (6, boot_o_6 P) :: (15, o15_2) :: (18, o18_2) :: (19, o19_2) :: (20, o20_2) :: (23, o23_2) :: (24, o24_2) :: (25, o25_2) :: (27, o27_2) :: (28, o28_2) :: (30, o30_2) :: (31, o31_2) :: (32, o32_2) :: (35, o35_2) :: (36, o36_2) :: (37, o37_2) :: (39, o39_2) :: (40, o40_2) :: (42, o42_2) :: (43, o43_2) :: (44, o44_2) :: (46, o46_2) :: r
noncomputable def f_1 (P : Params) (r : List (Nat × Obj)) : List (Nat × Obj) := (47, o47_2) :: (49, o49_2) :: (50, o50_2) :: (51, o51_2) :: (53, o53_2) :: (54, o54_2) :: (56, o56_2) :: (57, o57_2) :: (58, o58_2) :: (60, o60_2) :: (61, o61_2) :: (63, o63_2) :: (64, o64_2) :: (65, o65_2) :: (67, o67_2) :: (68, o68_2) :: (70, o70_2) :: (71, o71_2) :: (72, o72_2) :: (74, o74_2) :: (75, o75_2) :: (77, o77_2) :: (78, o78_2) :: (79, o79_2) :: r
noncomputable def f_2 (P : Params) (r : List (Nat × Obj)) : List (Nat × Obj) := (81, o81_2) :: (82, o82_2) :: (84, o84_2) :: (85, o85_2) :: (86, o86_2) :: (89, o89_2) :: (90, o90_2) :: (91, o91_2) :: (93, o93_2) :: (94, o94_2) :: (96, o96_2) :: (97, o97_2) :: (98, o98_2) :: (100, o100_2) :: (101, o101_2) :: (103, o103_2) :: (104, o104_2) :: (105, o105_2) :: (108, o108_2) :: (109, o109_2) :: r
noncomputable def K2 (P : Params) : Frag := f_0 P (f_1 P (f_2 P ([])))
noncomputable def as : List Addr := nat_lit 2 :: nat_lit 3 :: nat_lit 6 :: nat_lit 15 :: nat_lit 18 :: nat_lit 19 :: nat_lit 20 :: nat_lit 23 :: nat_lit 24 :: nat_lit 25 :: nat_lit 27 :: nat_lit 28 :: nat_lit 30 :: nat_lit 31 :: nat_lit 32 :: nat_lit 35 :: nat_lit 36 :: nat_lit 37 :: nat_lit 39 :: nat_lit 40 :: nat_lit 42 :: nat_lit 43 :: nat_lit 44 :: nat_lit 46 :: nat_lit 47 :: nat_lit 49 :: nat_lit 50 :: nat_lit 51 :: nat_lit 53 :: nat_lit 54 :: nat_lit 56 :: nat_lit 57 :: nat_lit 58 :: nat_lit 60 :: nat_lit 61 :: nat_lit 63 :: nat_lit 64 :: nat_lit 65 :: nat_lit 67 :: nat_lit 68 :: nat_lit 70 :: nat_lit 71 :: nat_lit 72 :: nat_lit 74 :: nat_lit 75 :: nat_lit 77 :: nat_lit 78 :: nat_lit 79 :: nat_lit 81 :: nat_lit 82 :: nat_lit 84 :: nat_lit 85 :: nat_lit 86 :: nat_lit 89 :: nat_lit 90 :: nat_lit 91 :: nat_lit 93 :: nat_lit 94 :: nat_lit 96 :: nat_lit 97 :: nat_lit 98 :: nat_lit 100 :: nat_lit 101 :: nat_lit 103 :: nat_lit 104 :: nat_lit 105 :: nat_lit 108 :: nat_lit 109 :: []
noncomputable def H : Hook := kHook K as (fun _ => by kernel_rfl)
noncomputable abbrev R : WRecords := RowW.records (OpenRow.toRowW (OpenLaw.row PySem.Challenge.rw_joinload_k30_laid_by_steps))
noncomputable abbrev Xt (s : Shared) : Bool := xlAt q [] s && recOk R s
noncomputable def Size (w : World) : Prop := ((boot_heap w.params).isNs mainGlobals && (⟨[]⟩ : Array GenState).size == 0, (boot_heap w.params).objs.size, (boot_heap w.params).nsMap mainGlobals "__annotations__") = (true, 11, an)
noncomputable def LA (w : World) : Prop := (fun os => staticsOk (importedModules pw.main.body) (boot_heap w.params) (Hf w.params) && namesBound pw (Hf w.params) && gensDone (Sf w os) && laidKept (boot_heap w.params) (Hf w.params)) = fun _ => true
noncomputable def Ls1 (w : World) : Prop := (fun os => seen ((recsOf q).map (·.name)) (ownsOf q) [] { Sf w os with gens := #[] }) = fun _ => expectedOf q
noncomputable def Ls2 (w : World) : Prop := (fun os => (Sf w os).heap.bltView) = fun _ => bltViewBooted
noncomputable def Ls3 (w : World) : Prop := (fun os => (Sf w os).heap.keysOk (looseW q []) ((recsOf q).map (·.name)) ((litsOf q).map (·.1)) ((clssOf q (looseW q [])).map (·.name)) && (Sf w os).heap.accountedOkI (importedModules pw.main.body) && (Sf w os).heap.isNs mainGlobals && (Sf w os).heap.isNs builtinsNs && tablesOk q (Sf w os).heap && Xt (Sf w os) && (if true then (Sf w os).gens.size == 0 else !leftWithCleanup (Sf w os).gens)) = fun _ => true
noncomputable def Ls4 (w : World) : Prop := (fun os => tabsOk q (Sf w os)) = fun _ => true
noncomputable def Ls5 (w : World) : Prop := (fun os => pinSeenD q (drecsOf q) (Sf w os)) = fun _ => pinGoodD (drecsOf q)
noncomputable def Ls6 (w : World) : Prop := (fun os => plainSeenE q (looseW q []) (Sf w os)) = fun _ => plainGoodE q (looseW q [])
noncomputable def Ls7 (w : World) : Prop := (fun os => plainSeenD q [] (Sf w os)) = fun _ => plainGoodD q []
noncomputable def Ls8 (w : World) : Prop := (fun os => wideSeen q (Sf w os)) = fun _ => wideGood q
noncomputable def Ls9 (w : World) : Prop := (fun os => clsSeenW q [] (Sf w os)) = fun _ => clsGoodW q []
noncomputable def Yk (w : World) : Prop := (fun os => as.map (Sf w os).heap.get?) = fun _ => (K2 w.params).map fun p => some p.2
theorem K_is : K = K2 := by kernel_rfl
theorem Pre_r : Pre = Pre := rfl
theorem Blk_r : Blk = Blk := rfl
theorem P0_r : P0 = P0 := rfl
theorem Fin_r : Fin = Fin := rfl
theorem Size_r : Size = Size := rfl
theorem LA_r : LA = LA := rfl
theorem Ls1_r : Ls1 = Ls1 := rfl
theorem Ls2_r : Ls2 = Ls2 := rfl
theorem Ls3_r : Ls3 = Ls3 := rfl
theorem Ls4_r : Ls4 = Ls4 := rfl
theorem Ls5_r : Ls5 = Ls5 := rfl
theorem Ls6_r : Ls6 = Ls6 := rfl
theorem Ls7_r : Ls7 = Ls7 := rfl
theorem Ls8_r : Ls8 = Ls8 := rfl
theorem Ls9_r : Ls9 = Ls9 := rfl
theorem Yk_r : Yk = Yk := rfl
end Hd
name_quick hdPre for Hd.Pre by Hd.Pre_r
name_quick hdBlk for Hd.Blk by Hd.Blk_r
name_quick hdP0 for Hd.P0 by Hd.P0_r
name_quick hdFin for Hd.Fin by Hd.Fin_r
name_quick hdSize for Hd.Size by Hd.Size_r
name_quick hdLA for Hd.LA by Hd.LA_r
name_quick hdLs1 for Hd.Ls1 by Hd.Ls1_r
name_quick hdLs2 for Hd.Ls2 by Hd.Ls2_r
name_quick hdLs3 for Hd.Ls3 by Hd.Ls3_r
name_quick hdLs4 for Hd.Ls4 by Hd.Ls4_r
name_quick hdLs5 for Hd.Ls5 by Hd.Ls5_r
name_quick hdLs6 for Hd.Ls6 by Hd.Ls6_r
name_quick hdLs7 for Hd.Ls7 by Hd.Ls7_r
name_quick hdLs8 for Hd.Ls8 by Hd.Ls8_r
name_quick hdLs9 for Hd.Ls9 by Hd.Ls9_r
name_quick hdYk for Hd.Yk by Hd.Yk_r
namespace Hd
open PySem PySem.W PySem.Calls PyProof.Rows
theorem Pre_h (w : World) : Pre w := by
  rw [show Pre w = PySem.W.Fast.hdPre w from congrFun PySem.W.Fast.hdPre_eq _]
  delta PySem.W.Fast.hdPre PySem.W.Fast.tw7651035101826984186
  kernel_rfl
theorem Blk_h (w : World) : Blk w := by
  rw [show Blk w = PySem.W.Fast.hdBlk w from congrFun PySem.W.Fast.hdBlk_eq _]
  delta PySem.W.Fast.hdBlk PySem.W.Fast.tw10272554187927912860
  kernel_rfl
theorem P0_h (w : World) : P0 w := by
  rw [show P0 w = PySem.W.Fast.hdP0 w from congrFun PySem.W.Fast.hdP0_eq _]
  delta PySem.W.Fast.hdP0 PySem.W.Fast.tw2223480372460268926 PySem.W.Fast.tw16301345103801407739
  kernel_rfl
theorem Fin_h (w : World) : Fin w := by
  rw [show Fin w = PySem.W.Fast.hdFin w from congrFun PySem.W.Fast.hdFin_eq _]
  delta PySem.W.Fast.hdFin PySem.W.Fast.tw4976735305809376593
  kernel_rfl
theorem Size_h (w : World) : Size w := by
  rw [show Size w = PySem.W.Fast.hdSize w from congrFun PySem.W.Fast.hdSize_eq _]
  delta PySem.W.Fast.hdSize PySem.W.Fast.tw14461627914784175761
  kernel_rfl
theorem LA_h (w : World) : LA w := by
  rw [show LA w = PySem.W.Fast.hdLA w from congrFun PySem.W.Fast.hdLA_eq _]
  delta PySem.W.Fast.hdLA PySem.W.Fast.tw11134583137455730433
  kernel_rfl
theorem Ls1_h (w : World) : Ls1 w := by
  rw [show Ls1 w = PySem.W.Fast.hdLs1 w from congrFun PySem.W.Fast.hdLs1_eq _]
  delta PySem.W.Fast.hdLs1 PySem.W.Fast.tw14098396552713008135
  kernel_rfl
theorem Ls2_h (w : World) : Ls2 w := by
  rw [show Ls2 w = PySem.W.Fast.hdLs2 w from congrFun PySem.W.Fast.hdLs2_eq _]
  delta PySem.W.Fast.hdLs2 PySem.W.Fast.tw6547580189001637342
  kernel_rfl
theorem Ls3_h (w : World) : Ls3 w := by
  rw [show Ls3 w = PySem.W.Fast.hdLs3 w from congrFun PySem.W.Fast.hdLs3_eq _]
  delta PySem.W.Fast.hdLs3 PySem.W.Fast.tw10934468223134025866
  kernel_rfl
theorem Ls4_h (w : World) : Ls4 w := by
  rw [show Ls4 w = PySem.W.Fast.hdLs4 w from congrFun PySem.W.Fast.hdLs4_eq _]
  delta PySem.W.Fast.hdLs4 PySem.W.Fast.tw13894289833044730176
  kernel_rfl
theorem Ls5_h (w : World) : Ls5 w := by
  rw [show Ls5 w = PySem.W.Fast.hdLs5 w from congrFun PySem.W.Fast.hdLs5_eq _]
  delta PySem.W.Fast.hdLs5 PySem.W.Fast.tw11162159950934395656
  kernel_rfl
theorem Ls6_h (w : World) : Ls6 w := by
  rw [show Ls6 w = PySem.W.Fast.hdLs6 w from congrFun PySem.W.Fast.hdLs6_eq _]
  delta PySem.W.Fast.hdLs6 PySem.W.Fast.tw9014929701734557122
  kernel_rfl
theorem Ls7_h (w : World) : Ls7 w := by
  rw [show Ls7 w = PySem.W.Fast.hdLs7 w from congrFun PySem.W.Fast.hdLs7_eq _]
  delta PySem.W.Fast.hdLs7 PySem.W.Fast.tw16695146034332369646
  kernel_rfl
theorem Ls8_h (w : World) : Ls8 w := by
  rw [show Ls8 w = PySem.W.Fast.hdLs8 w from congrFun PySem.W.Fast.hdLs8_eq _]
  delta PySem.W.Fast.hdLs8 PySem.W.Fast.tw13045354483572663336
  kernel_rfl
theorem Ls9_h (w : World) : Ls9 w := by
  rw [show Ls9 w = PySem.W.Fast.hdLs9 w from congrFun PySem.W.Fast.hdLs9_eq _]
  delta PySem.W.Fast.hdLs9 PySem.W.Fast.tw9459536174771691377
  kernel_rfl
theorem Yk_h (w : World) : Yk w := by
  rw [show Yk w = PySem.W.Fast.hdYk w from congrFun PySem.W.Fast.hdYk_eq _]
  delta PySem.W.Fast.hdYk PySem.W.Fast.tw3491827284470035837
  kernel_rfl
noncomputable def R0 : List Stmt := L0 ++ []
theorem bd_is : bd = R0 := by kernel_rfl
theorem rest_h (w : World) (os : OsState) : topRun treeTable pw w 11 an (487 + 2) (S0T w os).abs (restOf R0 en cE ⟨0, 0, 0, 0⟩ B) = some (Sf w os) :=
  (piece_app (l := L0) (segRun_of (congrFun (P0_h w) os)) (congrFun (Fin_h w) os))
theorem run_h (w : World) (os : OsState) : topRun treeTable pw w 11 an (12 + (1 + (487 + 2))) (S0 w os) (topStub pw) = some (Sf w os) :=
  go_top (congrFun (Pre_h w) os) (piece_block (congrFun (Blk_h w) os) (by
    rw [show restOf bd en cE ⟨0, 0, 0, 0⟩ B = restOf R0 en cE ⟨0, 0, 0, 0⟩ B from congrArg (fun l => restOf l en cE ⟨0, 0, 0, 0⟩ B) bd_is]
    exact rest_h w os))
theorem Yk_k (w : World) (os : OsState) : Hook.obs H (Sf w os) = Hook.val H w := by
  show as.map (Sf w os).heap.get? = (K w.params).map fun p => some p.2
  rw [K_is]; exact congrFun (Yk_h w) os
theorem left_h : LeftO pw q [] Xt (Hook.obs H) (Hook.val H) 1098 :=
  LeftO.of_pieces (H₀ := boot_heap) (H₁ := Hf) (m₀ := 11) (ann := an) (boot_open rfl rfl (fun _ => rfl)) Size_h run_h (by decide +kernel) fun w => funext fun os =>
    looks_pair (congrFun (LA_h w) os) (looks_pair
      (show openSeen q [] (importedModules pw.main.body) Xt true (Sf w os) = openGood q [] from
        looks_pair (congrFun (Ls1_h w) os) (looks_pair (congrFun (Ls2_h w) os) (looks_pair (congrFun (Ls3_h w) os) (looks_pair (congrFun (Ls4_h w) os) (looks_pair (congrFun (Ls5_h w) os) (looks_pair (congrFun (Ls6_h w) os) (looks_pair (congrFun (Ls7_h w) os) (looks_pair (congrFun (Ls8_h w) os) (congrFun (Ls9_h w) os)))))))))
      (Yk_k w os))
end Hd
open PySem PySem.W PyProof.Rows
set_option maxRecDepth 100000 in
set_option maxHeartbeats 0 in
theorem PySem.Challenge.cw_joinload_k30_laid_by_steps_holds : PySem.Challenge.rw_joinload_k30_laid_by_steps.Holds := by
  w_on; o_law
  refine holds_open (q := Hd.q) (loose := []) (Xt := Hd.Xt) (XP := XL Hd.q []) (Yf := Hook.obs Hd.H) (Ya := Hook.val Hd.H) (YP := InK Hd.K) Hd.left_h (Hook.of Hd.H) (Hook.keeps Hd.H) (fun s e => xl_of s (Bool.and_eq_true_iff.mp e).1) XL.keeps (by rfl) (by rfl) (by rfl) (fun s e => recFacts_of (Bool.and_eq_true_iff.mp e).2) (by rfl) (by first | assumption | decide +kernel) (by decide +kernel) ⟨rfl, rfl, rfl, rfl, rfl, by decide +kernel⟩ ?hw ?hc
  (case hw => w_witness2)
  k_fill
  refine My.walk (l := PySem.Challenge.rw_joinload_k30_laid_by_steps) (K := Hd.K) rfl rfl (fun w h Y => Y) ?F
  case F =>
    intro w mg fa h KX G hmg
    refine' My.all_mk KX G hmg _ _ _ _ _ _ _ _ _ _ _ _ _ _ _ _ _ _ _ _ _ _ _ _ _ _ _ _ _ _ _ _ _ _ _ _ _ _ _ _ _
    all_goals first | exact ⟨_, _, _, _, _, _, _, _, _, by k_is, by k_is, by k_is⟩ | k_is | skip
#print axioms PySem.Challenge.cw_joinload_k30_laid_by_steps_holds
