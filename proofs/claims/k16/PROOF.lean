import PyProof.Rows.All
import Wide.All
import OpenK.AllK
import Wide.FinOn
import Lean
import PyProof.EqAt
import PyProof.EqKinds
import PyProof.TupleCall
import PyProof.StationsW
import PyProof.ExcAttrAll.ValueError
import KE.KIsAll
import PyProof.RulesAs
import PyProof.NsDelKeeps
import PyProof.FString
import PyProof.FString4
import PyProof.Rows.FStr
import PyProof.Rows.FStrParts
import PyProof.StrCalls2
import PyProof.StrLawsRepr
import PyProof.StrLawsJoin
import PyProof.StrLaws
import PyProof.Rows.ReprOcc
import PyProof.ExcInit
import PyProof.InstStoreFacts
import KE.KDictOf
import PyProof.AttrMissHeap
import PyProof.AttrMissSeq
import PyProof.WalksS
import PyProof.Walks
import PyProof.Seq
import PyProof.DictList
import PyProof.DictUpdate
import PyProof.MakeMany
import PyProof.Rows.SetFrom
import PyProof.ZipIter
import PyProof.Rows.TupDisplay
import PyProof.EnumFor
import PyProof.EnumMake
import PyProof.EnumStmt
import PyProof.SeqI3
import PyProof.Rows.SumAny
import KE.KDictIter
import PyProof.DictWalks
import PyProof.StrLawsChain
import PyProof.StrLawsTight
import KE.KIntText
import PyProof.CallType
import PyProof.Rows.CallKwBuiltin
import PyProof.Draws
import PyProof.DefCall
import PyProof.SetKind
import PyProof.DictKinds
import PyProof.CollectWalk
import PyProof.FactsAll.set
import PyProof.DictIter
import PyProof.FactsTree
import PyProof.CollectStr
import KE.KDictLaws
import PyProof.Rows.SortShellK
import PyProof.Rows.SortWalk
import PyProof.Rows.StrNews2
import KE.KRevIter
import PyProof.ListNew
import PyProof.ListRange
import PyProof.WalkInts
import KE.KLam
import KE.KSortKey
import PySem.Challenge.RW_joinload_k16_what_names_stand_for
set_option Elab.async false
set_option linter.all false
set_option maxRecDepth 100000
set_option genSizeOfSpec false
/-! THE HAND LAYER, for ints, bools, texts, own classes, LISTS and tuples (index, slices, in, append, pop ..), calls, loops. Paste it whole ahead of your own text; what your proof does not reach may be deleted. -/
namespace L2
open PySem PySem.Spec PyProof.Rows

noncomputable abbrev Key := Sum Int Str
noncomputable def keyIs : Key → Value → Bool
  | .inl k, v => Value.isInt k v
  | .inr x, v => Value.isStrOf x v
noncomputable def keyH (w : World) : Key → Int
  | .inl k => hashInt k
  | .inr x => hashStr w x
theorem keyIs_shape : ∀ {k : Key} {v : Value}, keyIs k v = true → (∃ i t, k = Sum.inl i ∧ v = Value.int i t) ∨ (∃ x t, k = Sum.inr x ∧ v = Value.str x t)
  | .inl i, v, h => by
    obtain ⟨t, e⟩ := Value.isInt_shape (k := i) (v := v) h
    exact .inl ⟨i, t, rfl, e⟩
  | .inr x, v, h => by
    obtain ⟨t, e⟩ := Value.isStrOf_shape (x := x) (v := v) h
    exact .inr ⟨x, t, rfl, e⟩
theorem keyIs_int (i : Int) (t : Tok) : keyIs (.inl i) (.int i t) = true := by simp [keyIs, Value.isInt]
theorem keyIs_str (x : Str) (t : Tok) : keyIs (.inr x) (.str x t) = true := by simp [keyIs, Value.isStrOf]
theorem key_ll (a b : Int) : decide ((Sum.inl a : Key) = Sum.inl b) = (a == b) := by
  by_cases e : a = b
  · subst e; simp
  · have h : ¬ (Sum.inl a : Key) = Sum.inl b := fun q => e (Sum.inl.inj q)
    rw [decide_eq_false h]
    exact (beq_eq_false_iff_ne.mpr e).symm
theorem key_rr (a b : Str) : decide ((Sum.inr a : Key) = Sum.inr b) = decide (a = b) := by
  by_cases e : a = b
  · subst e; simp
  · have h : ¬ (Sum.inr a : Key) = Sum.inr b := fun q => e (Sum.inr.inj q)
    rw [decide_eq_false h, decide_eq_false e]
theorem key_lr (a : Int) (b : Str) : decide ((Sum.inl a : Key) = Sum.inr b) = false := decide_eq_false (fun q => nomatch q)
theorem key_rl (a : Str) (b : Int) : decide ((Sum.inr a : Key) = Sum.inl b) = false := decide_eq_false (fun q => nomatch q)

noncomputable def mixKind (prog : Program) (w : World) : PySem.KeyKind prog w Key where
  is := keyIs
  hash := keyH w
  inj := fun v a b ha hb => by
    rcases keyIs_shape ha with ⟨i, t, rfl, rfl⟩ | ⟨x, t, rfl, rfl⟩
    · rcases keyIs_shape hb with ⟨j, u, rfl, e⟩ | ⟨y, u, rfl, e⟩
      · injection e with e1 _; rw [e1]
      · exact nomatch e
    · rcases keyIs_shape hb with ⟨j, u, rfl, e⟩ | ⟨y, u, rfl, e⟩
      · exact nomatch e
      · injection e with e1 _; rw [e1]
  byValue := fun k v h => by
    rcases keyIs_shape h with ⟨i, t, rfl, rfl⟩ | ⟨x, t, rfl, rfl⟩ <;> rfl
  pyHash := fun hv h => by
    rcases keyIs_shape hv with ⟨i, t, rfl, rfl⟩ | ⟨x, t, rfl, rfl⟩
    · exact wpAny_pyHash_int h
    · exact wpAny_pyHash_str h
  eqBool := fun hu hv h => by
    rcases keyIs_shape hu with ⟨i, t, rfl, rfl⟩ | ⟨x, t, rfl, rfl⟩
    · rcases keyIs_shape hv with ⟨j, u, rfl, rfl⟩ | ⟨y, u, rfl, rfl⟩
      · rw [key_ll] at h; exact wpAny_eqBool_int h
      · rw [key_lr] at h; exact SeqAt.EqAt.int_str i t y u _ _ _ _ h
    · rcases keyIs_shape hv with ⟨j, u, rfl, rfl⟩ | ⟨y, u, rfl, rfl⟩
      · rw [key_rl] at h; exact SeqAt.EqAt.str_int x t j u _ _ _ _ h
      · rw [key_rr] at h; exact wpAny_eqBool_str h
  «strs» := fun k x t v h => by
    rcases keyIs_shape h with ⟨i, u, rfl, e⟩ | ⟨y, u, rfl, e⟩
    · exact nomatch e
    · injection e with e1 _
      subst e1
      cases v <;> rfl

theorem mixKind_int (prog : Program) (w : World) (i : Int) (t : Tok) : (mixKind prog w).is (.inl i) (.int i t) = true := keyIs_int i t
theorem mixKind_str (prog : Program) (w : World) (x : Str) (t : Tok) : (mixKind prog w).is (.inr x) (.str x t) = true := keyIs_str x t
end L2

namespace L2
open PySem PySem.Spec PyProof.Rows

inductive V where
  | non | bl (b : Bool) | int (i : Int) | str (x : Str) | byt (b : Array UInt8) | flt (b : UInt64) | ref (a : Addr) | ty (n : String)
  deriving DecidableEq

noncomputable def RelV : V → Value → Prop
  | .non, u => u = Value.none
  | .bl b, u => u = Value.bool b
  | .int i, u => ∃ t, u = Value.int i t
  | .str x, u => ∃ t, u = Value.str x t
  | .byt b, u => ∃ t, u = Value.bytes b t
  | .flt b, u => ∃ t, u = Value.float b t
  | .ref a, u => u = Value.ref a
  | .ty n, u => u = Value.type n

noncomputable abbrev Vals : List V → List Value → Prop := Paired RelV
theorem Vals.length {xs : List V} {us : List Value} (r : Vals xs us) : xs.length = us.length := Paired.length r
theorem Vals.get : ∀ {xs : List V} {us : List Value} {i : Nat} {x : V}, Vals xs us → xs[i]? = some x → ∃ u, us[i]? = some u ∧ RelV x u
  | _, _, _, _, .nil, e => by simp at e
  | _, _, 0, _, .cons r _, e => by simp at e; subst e; exact ⟨_, rfl, r⟩
  | _, _, i + 1, x, .cons _ t, e => by
    obtain ⟨u, h1, h2⟩ := Vals.get (i := i) (x := x) t (by simpa using e)
    exact ⟨u, by simpa using h1, h2⟩
theorem Vals.append : ∀ {xs ys : List V} {us ws : List Value}, Vals xs us → Vals ys ws → Vals (xs ++ ys) (us ++ ws)
  | _, _, _, _, .nil, s => s
  | _, _, _, _, .cons r t, s => .cons r (Vals.append t s)
theorem Vals.take : ∀ {xs : List V} {us : List Value} (n : Nat), Vals xs us → Vals (xs.take n) (us.take n)
  | _, _, 0, _ => .nil
  | _, _, _ + 1, .nil => .nil
  | _, _, n + 1, .cons r t => .cons r (Vals.take n t)
theorem Vals.drop : ∀ {xs : List V} {us : List Value} (n : Nat), Vals xs us → Vals (xs.drop n) (us.drop n)
  | _, _, 0, r => r
  | _, _, _ + 1, .nil => .nil
  | _, _, n + 1, .cons _ t => Vals.drop n t

noncomputable def RelO : Option V → Option Value → Prop
  | some v, some u => RelV v u
  | none, none => True
  | _, _ => False
noncomputable def KV {κ : Type} : List (κ × V) → List (κ × Value) → Prop := Paired fun (p : κ × V) (q : κ × Value) => p.1 = q.1 ∧ RelV p.2 q.2

noncomputable def kV : Key → V
  | .inl i => .int i
  | .inr x => .str x

inductive HO where
    | lst (xs : List V)
    | tup (xs : List V)
    | dK (kvs : List (Key × V)) | dT (kvs : List (List Key × V))
    | set (S : Int → Bool) (n : Nat)
    | ins (C dx : Addr) (fs : List (Str × V))
    | own (x : Addr)
    | xd (fs : List (Str × V))
    | met (f x : Addr)
    | rng (lo hi : Int)
    | frz (o : Obj) (u : HO)
    | tbl (ps : Array Value)
    | ext (φ : Heap → Prop)

noncomputable abbrev Hp := Addr → Option HO
noncomputable def upd (H : Hp) (a : Addr) (o : HO) : Hp := fun b => if b = a then some o else H b
theorem upd_same {H : Hp} {a : Addr} {o : HO} : upd H a o a = some o := by unfold upd; rw [if_pos rfl]
theorem upd_ne {H : Hp} {a b : Addr} {o : HO} (h : b ≠ a) : upd H a o b = H b := by unfold upd; rw [if_neg h]
theorem upd_upd {H : Hp} {a : Addr} {o u : HO} : upd (upd H a o) a u = upd H a u := by
  funext b; unfold upd; split <;> rfl
theorem ne_of {H : Hp} {a b : Addr} {o u : HO} (h : H a = some o) (h' : H b = some u) (d : o ≠ u) : a ≠ b := by
  intro e; subst e; rw [h] at h'; exact d (Option.some.inj h')
theorem ne_of_none {H : Hp} {a b : Addr} {o : HO} (h : H a = some o) (h' : H b = none) : a ≠ b := by
  intro e; subst e; rw [h] at h'; cases h'

section
variable (P : Program) (w : World)
noncomputable def ObjOk (H : Hp) (h : Heap) (a : Addr) : HO → Prop
  | .lst xs => xs.length ≤ sizeLine ∧ ∃ (its : List Value) (n : Nat), Vals xs its ∧ h.get? a = some { cls := .type "list", data := .seq its.toArray n }
  | .tup xs => xs.length ≤ sizeLine ∧ ∃ its : List Value, Vals xs its ∧ IsTup h a its.toArray
  | .dK kvs => kvs.length ≤ sizeLine ∧ (a == sysModules) = false ∧ ∃ vs, KV kvs vs ∧ h.DictOf (mixKind P w) a vs
  | .dT kvs => kvs.length ≤ sizeLine ∧ (a == sysModules) = false ∧ ∃ xs : List (List Key × Addr × Value),
      Paired (fun (p : List Key × V) (q : List Key × Addr × Value) => p.1 = q.1 ∧ H q.2.1 = some (.tup (p.1.map kV)) ∧ RelV p.2 q.2.2) kvs xs ∧
      ∃ o es ep, h.get? a = some o ∧ o.ExactDict ∧ o.data = .dict es ep ∧ es.toList = xs.map (entryOfKey (tupleKind (mixKind P w))) ∧ (xs.map (·.1)).Nodup
  | .set S n => h.SetOf (intKind P w) a S n
  | .ins C dx fs => H dx = some (.own a) ∧ fs.length ≤ 1000 ∧ dx ≠ a ∧ h.get? a = some (PySem.W.instObj C dx) ∧
      ∃ mA, h.Ns1 dx mA ∧ (∀ f, RelO (fs.lookup f) (mA f)) ∧ PySem.Within mA (fs.map (·.1))
  | .own _ => ∃ o, h.get? a = some o
  | .xd fs => ∃ mA, h.Ns1 a mA ∧ ∀ f, RelO (fs.lookup f) (mA f)
  | .rng lo hi => ∃ t u v, h.get? a = some { cls := .type "range", data := .fields #[.int lo t, .int hi u, .int 1 v] }
  | .frz o u => h.get? a = some o ∧ ObjOk H h a u
  | .tbl ps => h.get? a = some { cls := .none, data := .fields ps }
  | .met f x => h.get? a = some (PySem.W.methodObj (.ref f) (.ref x))
  | .ext φ => φ h ∧ (∃ o, h.get? a = some o) ∧ ∀ h1 h2 : Heap, φ h1 → (∀ o, h1.get? a = some o → h2.get? a = some o) → φ h2
noncomputable def HOk (H : Hp) (h : Heap) : Prop := ∀ a o, H a = some o → ObjOk P w H h a o
end

section
variable {P : Program} {w : World} {H H' : Hp} {h h' : Heap} {a : Addr} {o : HO}
theorem ObjOk.lt (x : ObjOk P w H h a o) : a < h.objs.size := by
  cases o with
  | lst xs => obtain ⟨_, _, _, _, e⟩ := x; exact Heap.lt_size e
  | tup xs => obtain ⟨_, _, _, p⟩ := x; exact p.lt
  | dK kvs => obtain ⟨_, _, _, _, o, _, _, e, _⟩ := x; exact Heap.lt_size e
  | dT kvs => obtain ⟨_, _, _, _, o, _, _, e, _⟩ := x; exact Heap.lt_size e
  | set S n => obtain ⟨o, _, _, _, e, _⟩ := x; exact Heap.lt_size e
  | ins C dx fs => obtain ⟨_, _, _, e, _⟩ := x; exact Heap.lt_size e
  | own y => obtain ⟨_, e⟩ := x; exact Heap.lt_size e
  | xd fs => obtain ⟨_, ⟨_, _, _, e, _⟩, _⟩ := x; exact Heap.lt_size e
  | rng lo hi => obtain ⟨_, _, _, e⟩ := x; exact Heap.lt_size e
  | frz ob u => obtain ⟨e, _⟩ := x; exact Heap.lt_size e
  | tbl ps => exact Heap.lt_size (show h.get? a = some _ from x)
  | met f y => exact Heap.lt_size (show h.get? a = some _ from x)
  | ext φ => obtain ⟨_, ⟨_, e⟩, _⟩ := x; exact Heap.lt_size e
theorem Paired.mapP {α β : Type} {F G : α → β → Prop} : ∀ {l₁ : List α} {l₂ : List β}, Paired F l₁ l₂ → (∀ a b, F a b → G a b) → Paired G l₁ l₂
  | _, _, .nil, _ => .nil
  | _, _, .cons r t, f => .cons (f _ _ r) (Paired.mapP t f)
theorem ObjOk.stay (x : ObjOk P w H h a o) (k : ∀ b u, (b = a ∨ H b = some (.own a)) → h.get? b = some u → h'.get? b = some u)
    (ho : ∀ b, H b = some (.own a) → H' b = some (.own a)) (ht : ∀ b xs, H b = some (.tup xs) → H' b = some (.tup xs)) : ObjOk P w H' h' a o := by
  induction o with
  | lst xs => obtain ⟨z, its, n, r, e⟩ := x; exact ⟨z, its, n, r, k _ _ (.inl rfl) e⟩
  | tup xs => obtain ⟨z, its, r, ob, e, c⟩ := x; exact ⟨z, its, r, ob, k _ _ (.inl rfl) e, c⟩
  | dK kvs => obtain ⟨z, y, vs, r, ob, es, ep, e, c⟩ := x; exact ⟨z, y, vs, r, ob, es, ep, k _ _ (.inl rfl) e, c⟩
  | dT kvs =>
    obtain ⟨z, y, xs, r, ob, es, ep, e, c⟩ := x
    exact ⟨z, y, xs, Paired.mapP r fun p q z => ⟨z.1, ht _ _ z.2.1, z.2.2⟩, ob, es, ep, k _ _ (.inl rfl) e, c⟩
  | set S n => obtain ⟨ob, es, ep, t, e, c⟩ := x; exact ⟨ob, es, ep, t, k _ _ (.inl rfl) e, c⟩
  | ins C dx fs =>
    obtain ⟨d, z, ne, e, mA, ⟨od, es, ep, e2, c⟩, r⟩ := x
    exact ⟨ho _ d, z, ne, k _ _ (.inl rfl) e, mA, ⟨od, es, ep, k _ _ (.inr d) e2, c⟩, r⟩
  | own y => obtain ⟨ob, e⟩ := x; exact ⟨ob, k _ _ (.inl rfl) e⟩
  | xd fs => obtain ⟨mA, ⟨od, es, ep, e, c⟩, r⟩ := x; exact ⟨mA, ⟨od, es, ep, k _ _ (.inl rfl) e, c⟩, r⟩
  | rng lo hi => obtain ⟨t, u, v, e⟩ := x; exact ⟨t, u, v, k _ _ (.inl rfl) e⟩
  | frz ob u ih => obtain ⟨e, q⟩ := x; exact ⟨k _ _ (.inl rfl) e, ih q⟩
  | tbl ps =>
    have e : h.get? a = some { cls := .none, data := .fields ps } := x
    show h'.get? a = some { cls := .none, data := .fields ps }
    exact k a _ (.inl rfl) e
  | met f y =>
    have e : h.get? a = some (PySem.W.methodObj (.ref f) (.ref y)) := x
    show h'.get? a = some (PySem.W.methodObj (.ref f) (.ref y))
    exact k a _ (.inl rfl) e
  | ext φ => obtain ⟨p, ⟨o, e⟩, st⟩ := x; exact ⟨st _ _ p fun o q => k _ _ (.inl rfl) q, ⟨o, k _ _ (.inl rfl) e⟩, st⟩
theorem HOk.lt (x : HOk P w H h) (e : H a = some o) : a < h.objs.size := (x a o e).lt
theorem HOk.fresh (x : HOk P w H h) (e : h.objs.size ≤ a) : H a = none := by
  cases q : H a with
  | none => rfl
  | some u => exact absurd (Nat.lt_of_lt_of_le (x.lt q) e) (Nat.lt_irrefl _)
theorem HOk.kept (x : HOk P w H h) (k : ∀ b u, h.get? b = some u → h'.get? b = some u) : HOk P w H h' := fun a o e =>
  (x a o e).stay (fun b u _ q => k b u q) (fun _ q => q) fun _ _ q => q
theorem HOk.laid (x : HOk P w H h) (k : ∀ b u, h.get? b = some u → h'.get? b = some u) (hp : h.objs.size ≤ a) (new : ObjOk P w (upd H a o) h' a o) : HOk P w (upd H a o) h' := fun b u e => by
  have hn := x.fresh hp
  by_cases hb : b = a
  · subst hb; rw [upd_same] at e; cases e; exact new
  · rw [upd_ne hb] at e
    exact (x b u e).stay (fun c v _ q => k c v q) (fun c q => by rw [upd_ne (ne_of_none q hn)]; exact q) fun c xs q => by rw [upd_ne (ne_of_none q hn)]; exact q
end

noncomputable def Rd (H : Hp) (a : Addr) (u : HO) : Prop := H a = some u ∨ ∃ o, H a = some (.frz o u)
theorem Rd.ok {P : Program} {w : World} {H : Hp} {h : Heap} {a : Addr} {u : HO} (r : Rd H a u) (x : HOk P w H h) : ObjOk P w H h a u := by
  rcases r with r | ⟨o, r⟩
  · exact x a u r
  · obtain ⟨_, q⟩ := x a _ r
    exact q
noncomputable def Mut : Option HO → Prop
  | some (.lst _) => True
  | some (.dK _) => True
  | some (.dT _) => True
  | some (.set _ _) => True
  | some (.ins _ _ _) => True
  | some (.ext _) => True
  | _ => False
section
variable {P : Program} {w : World} {H : Hp} {h h' : Heap} {x e : Addr} {o' : HO}
theorem HOk.write (ok : HOk P w H h) (mu : Mut (H x)) (he : e = x ∨ H e = some (.own x)) (k : ∀ b u, b ≠ e → h.get? b = some u → h'.get? b = some u) (heo : ∃ u, h'.get? e = some u)
    (new : ObjOk P w (upd H x o') h' x o') : HOk P w (upd H x o') h' := fun b u q => by
  have nown : ∀ c y, H c = some (.own y) → c ≠ x := fun c y r z => by subst z; rw [r] at mu; exact mu
  have ntup : ∀ c xs, H c = some (.tup xs) → c ≠ x := fun c xs r z => by subst z; rw [r] at mu; exact mu
  by_cases hb : b = x
  · subst hb; rw [upd_same] at q; cases q; exact new
  · rw [upd_ne hb] at q
    by_cases hbe : b = e
    · have q' : H b = some (.own x) := by
        rcases he with z | z
        · exact absurd (hbe.trans z) hb
        · rw [hbe]; exact z
      rw [q] at q'; cases q'
      obtain ⟨v, hv⟩ := heo
      exact ⟨v, by rw [hbe]; exact hv⟩
    · refine (ok b u q).stay (fun c v hc r => k c v ?_ r) (fun c r => by rw [upd_ne (nown c b r)]; exact r) fun c xs r => by rw [upd_ne (ntup c xs r)]; exact r
      rcases hc with rfl | hc
      · exact hbe
      · rintro rfl
        rcases he with z | z
        · exact nown c b hc z
        · rw [hc] at z; cases z; exact hb rfl
end

/-! ### kept unless tracked; of the frames at fs (the callers') the slots may change (an exception that passes writes there); of the records at ex (iterators) nothing is said -/
set_option genInjectivity false in
structure Un (fs ex : List Addr) (H H' : Hp) (h h' : Heap) : Prop where
  keep : ∀ b o, h.get? b = some o → H b = none → b ∉ fs → b ∉ ex → h'.get? b = some o
  slot : ∀ b o, h.get? b = some o → H b = none → b ∈ fs → b ∉ ex → ∃ sl, h'.get? b = some { o with slots := sl }
  free : ∀ b o, h.get? b = some o → H b = none → b ∉ ex → H' b = none
  there : ∀ b o, h.get? b = some o → b ∉ ex → ∃ o', h'.get? b = some o'
  tups : ∀ b xs, H b = some (.tup xs) → H' b = some (.tup xs)
  frzs : ∀ b o u, H b = some (.frz o u) → H' b = some (.frz o u)
  tbls : ∀ b ps, H b = some (.tbl ps) → ∃ more, H' b = some (.tbl (ps ++ more))
section
variable {fs fs' ex ex' : List Addr} {H H1 H2 : Hp} {h h1 h2 h' : Heap} {a x e : Addr} {o : HO}
theorem Un.any (u : Un fs ex H H1 h h1) {b : Addr} {ob : Obj} (q : h.get? b = some ob) (n : H b = none) (hx : b ∉ ex) : ∃ sl, h1.get? b = some { ob with slots := sl } := by
  by_cases hb : b ∈ fs
  · exact u.slot b ob q n hb hx
  · exact ⟨ob.slots, u.keep b ob q n hb hx⟩
theorem Un.kept (k : ∀ b u, h.get? b = some u → h'.get? b = some u) : Un fs ex H H h h' :=
  ⟨fun b ob q _ _ _ => k b ob q, fun b ob q _ _ _ => ⟨ob.slots, k b ob q⟩, fun _ _ _ n _ => n, fun b ob q _ => ⟨ob, k b ob q⟩, fun _ _ q => q, fun _ _ _ q => q, fun _ ps q => ⟨#[], by rw [q]; simp⟩⟩
theorem Un.refl : Un fs ex H H h h := Un.kept fun _ _ q => q
theorem Un.laid (k : ∀ b u, h.get? b = some u → h'.get? b = some u) (hp : h.objs.size ≤ a) (hn : H a = none) : Un fs ex H (upd H a o) h h' where
  keep := fun b u q _ _ _ => k b u q
  slot := fun b u q _ _ _ => ⟨u.slots, k b u q⟩
  free := fun b u q n _ => by rw [upd_ne (Nat.ne_of_lt (Nat.lt_of_lt_of_le (Heap.lt_size q) hp))]; exact n
  there := fun b u q _ => ⟨u, k b u q⟩
  tups := fun b xs q => by rw [upd_ne (ne_of_none q hn)]; exact q
  frzs := fun b u xs q => by rw [upd_ne (ne_of_none q hn)]; exact q
  tbls := fun b ps q => ⟨#[], by rw [upd_ne (ne_of_none q hn), q]; simp⟩
theorem Un.write (mu : Mut (H x)) (he : e = x ∨ H e = some (.own x)) (k : ∀ b u, b ≠ e → h.get? b = some u → h'.get? b = some u) (heo : ∃ u, h'.get? e = some u) : Un fs ex H (upd H x o) h h' := by
  have hx : ∀ b, H b = none → b ≠ x := fun b n z => by subst z; rw [n] at mu; exact mu
  have hb : ∀ b, H b = none → b ≠ e := fun b n z => by
    subst z
    rcases he with r | r
    · exact hx b n r
    · rw [n] at r; cases r
  have hm : ∀ b u, H b = some u → ¬ Mut (some u) → b ≠ x := fun b u q nm z => by subst z; rw [q] at mu; exact nm mu
  refine ⟨fun b u q n _ _ => k b u (hb b n) q, fun b u q n _ _ => ⟨u.slots, k b u (hb b n) q⟩, fun b u q n _ => by rw [upd_ne (hx b n)]; exact n, fun b u q _ => ?_,
    fun b xs q => by rw [upd_ne (hm b _ q fun z => z)]; exact q, fun b u xs q => by rw [upd_ne (hm b _ q fun z => z)]; exact q, fun b ps q => ⟨#[], by rw [upd_ne (hm b _ q fun z => z), q]; simp⟩⟩
  by_cases hbe : b = e
  · subst hbe; exact heo
  · exact ⟨u, k b u hbe q⟩
end

/-! ### the heap without what is tracked -/
noncomputable def trk (h : Heap) (H : Hp) : List Addr := (List.range h.objs.size).filter fun a => (H a).isSome
noncomputable def hidT (h : Heap) (H : Hp) : Heap := PySem.W.hideAll h (trk h H)
theorem hidT_size (h : Heap) (H : Hp) : (hidT h H).objs.size = h.objs.size := PySem.W.hideAll_size _ _
theorem hidT_get {h : Heap} {H : Hp} {b : Addr} {o : Obj} (e : h.get? b = some o) (n : H b = none) : (hidT h H).get? b = some o :=
  PySem.W.hideAll_get _ e fun hm => by
    have q : (H b).isSome = true := (List.mem_filter.mp hm).2
    rw [n] at q; simp at q
theorem of_hidT {h : Heap} {H : Hp} {b : Addr} {o : Obj} (e : (hidT h H).get? b = some o) : h.get? b = some o ∧ H b = none := by
  have e' : h.get? b = some o := PySem.W.of_hideAll (trk h H) e
  refine ⟨e', ?_⟩
  cases q : H b with
  | none => rfl
  | some x =>
    have hm : b ∈ trk h H := List.mem_filter.mpr ⟨List.mem_range.mpr (Heap.lt_size e'), by simp [q]⟩
    have z : (hidT h H).get? b = none := PySem.W.hideAll_none (trk h H) hm
    rw [z] at e; cases e

/-! ### OpenK's ledger, filled with every new object but one -/
noncomputable def allNews (g h : Heap) (L : Addr) : List (Addr × Obj) := (List.range h.objs.size).filterMap fun a => if a = L ∨ (g.get? a).isSome = true then none else (h.get? a).map fun o => (a, o)
noncomputable def rest (g h : Heap) (L d : Addr) : List (Addr × Obj) := (allNews g h L).filter fun p => decide (p.1 ≠ d)
end L2

namespace L2
open PySem PySem.Spec PyProof.Rows

set_option genInjectivity false in
structure Mod (K : PySem.W.Frag) (mg : Str → Option Value) (base : Heap) : Prop where
  kin : K.In base
  glob : base.Ns mainGlobals mg
  blt : ∃ mb, base.Ns builtinsNs mb ∧ ∀ x : Str, x ≠ "__name__" → mb x = bootBuiltins x
  nolimit : base.NoLimit

set_option genInjectivity false in
structure Cx where
  prog : Program
  w : World
  K : PySem.W.Frag
  mg : Str → Option Value
  base : Heap
  A : Around
  N : List Str
  s₀ : Shared
  H₀ : Hp
  env : Env
  outer : List Env
  stack : List Env
  ex : List Addr
  fn : Str → Bool
  calm : Bool
  pn : List (Addr × Obj)
  xe : Value → Shared → Prop
noncomputable def frs (l : List Env) : List Addr := l.filterMap (·.frame)
noncomputable abbrev Cx.fs (X : Cx) : List Addr := frs X.outer

noncomputable def Vis (sc : Scope) (x : Str) : Prop := sc.names.lookup x = some .local ∨ sc.names.lookup x = some .cell ∨ sc.names.lookup x = some .free
noncomputable def Loc (sc : Scope) (x : Str) : Prop := sc.names.lookup x = some .local ∨ sc.names.lookup x = some .cell
noncomputable def Look (env : Env) (h : Heap) (m : Str → Option Value) (x : Str) (u : Value) : Prop :=
  (env.kindOf x = some .local ∧ m x = some u) ∨ ((env.kindOf x = some .cell ∨ env.kindOf x = some .free) ∧ ∃ c, env.cells.lookup x = some c ∧ h.IsCell c (some u))

set_option genInjectivity false in
structure Cx.Ok (X : Cx) : Prop where
  mod : Mod X.K X.mg X.base
  kind : X.env.scope.kind = .function
  glob : X.env.globals = mainGlobals
  blt : X.env.builtins = builtinsNs
  above : X.s₀.heap.objs.size ≤ X.env.locals
  inj : ∀ x y c, X.env.cells.lookup x = some c → X.env.cells.lookup y = some c → x = y
  has : ∀ x, (X.env.kindOf x = some .cell ∨ X.env.kindOf x = some .free) → ∃ c, X.env.cells.lookup x = some c
  cab : ∀ x c, X.fn x = true → X.env.cells.lookup x = some c → X.s₀.heap.objs.size ≤ c
  hd : X.calm = true → X.A.handled = none
  frames : X.A.frames = some X.stack
  stk : X.stack = X.outer ∨ (X.stack = X.env :: X.outer ∧ X.env.frame = some X.env.locals)
  exf : ∀ b ∈ X.ex, b ≠ X.env.locals ∧ ∀ x c, X.env.cells.lookup x = some c → c ≠ b
  bs : ∀ b o, X.base.get? b = some o → X.s₀.heap.get? b = some o ∧ X.H₀ b = none
  bsz : X.base.objs.size ≤ X.s₀.heap.objs.size
  noex : ∀ b o, X.base.get? b = some o → b ∉ X.ex
  exfs : ∀ b ∈ X.ex, b ∉ X.fs
  funs : X.s₀.heap.FunFrames X.base X.outer
  frf : ∀ b ∈ X.fs, X.H₀ b = none

set_option genInjectivity false in
structure Inv (X : Cx) (pins : List (Addr × Obj)) (σ : List (Option V)) (H : Hp) (s : Shared) : Prop where
  ok : X.Ok
  os : s.os = X.s₀.os
  bare : AllBare s.gens
  base : Un X.fs X.ex X.H₀ H X.s₀.heap s.heap
  loc : ∃ m, s.heap.Ns X.env.locals m ∧ ∀ (i : Nat) (x : Str) (v : V), X.N[i]? = some x → σ[i]? = some (some v) → Vis X.env.scope x → ∃ u, RelV v u ∧ Look X.env s.heap m x u
  cell : ∀ x c, X.env.cells.lookup x = some c → ∃ v, s.heap.IsCell c v
  free : H X.env.locals = none
  freeC : ∀ x c, X.env.cells.lookup x = some c → H c = none
  pin : ∀ p ∈ X.pn ++ pins, s.heap.get? p.1 = some p.2 ∧ H p.1 = none ∧ p.1 ≠ X.env.locals ∧ p.1 ∉ X.fs ∧ ∀ v, p.2.data ≠ .cell v
  hok : HOk X.prog X.w H s.heap
  len : σ.length = X.N.length

section
variable {X : Cx} {pins : List (Addr × Obj)} {σ : List (Option V)} {H H' : Hp} {s : Shared} {h' : Heap}

theorem Cx.Ok.nofr (ok : X.Ok) {b : Addr} {o : Obj} (e : X.base.get? b = some o) : b ∉ X.fs := fun hb => by
  have := (ok.funs.mem hb).1
  rw [e] at this; cases this
theorem Inv.bs (I : Inv X pins σ H s) : ∀ b o, X.base.get? b = some o → s.heap.get? b = some o ∧ H b = none := fun b o e =>
  ⟨I.base.keep b o (I.ok.bs b o e).1 (I.ok.bs b o e).2 (I.ok.nofr e) (I.ok.noex b o e), I.base.free b o (I.ok.bs b o e).1 (I.ok.bs b o e).2 (I.ok.noex b o e)⟩
theorem Inv.bk (I : Inv X pins σ H s) : ∀ b o, X.base.get? b = some o → s.heap.get? b = some o := fun b o e => (I.bs b o e).1
theorem Inv.mod (I : Inv X pins σ H s) : Mod X.K X.mg X.base := I.ok.mod
theorem Inv.kIn (I : Inv X pins σ H s) : X.K.In s.heap := I.ok.mod.kin.keeps I.bk
theorem Inv.lt (I : Inv X pins σ H s) : X.env.locals < s.heap.objs.size := let ⟨_, hn, _⟩ := I.loc; hn.lt
theorem Inv.sz (I : Inv X pins σ H s) : X.s₀.heap.objs.size ≤ s.heap.objs.size := Nat.le_trans I.ok.above (Nat.le_of_lt I.lt)
theorem Inv.nofs (I : Inv X pins σ H s) {a : Addr} (h : s.heap.objs.size ≤ a) : a ∉ X.fs := fun hb => by
  obtain ⟨_, o, ho, _⟩ := I.ok.funs.mem hb
  exact absurd (Nat.lt_of_lt_of_le (Heap.lt_size ho) (Nat.le_trans I.sz h)) (Nat.lt_irrefl _)
theorem Inv.cne (I : Inv X pins σ H s) : ∀ x c, X.env.cells.lookup x = some c → c ≠ X.env.locals := fun x c e z => by
  obtain ⟨v, o, ho, hd⟩ := I.cell x c e
  obtain ⟨m, ⟨o', es, ep, ho', hd', _⟩, _⟩ := I.loc
  rw [z, ho'] at ho; cases ho; rw [hd'] at hd; cases hd
theorem Inv.funs (I : Inv X pins σ H s) : s.heap.FunFrames X.base X.outer := by
  have all : ∀ (l : List Env), (∀ b ∈ frs l, b ∈ X.fs) → X.s₀.heap.FunFrames X.base l → s.heap.FunFrames X.base l := by
    intro l
    induction l with
    | nil => intro _ _; trivial
    | cons env r ih =>
      intro hs hl
      obtain ⟨hk, ⟨L, o, hf, hn, ho, hd⟩, hr⟩ := hl
      have hL : L ∈ X.fs := hs L (by unfold frs; rw [List.filterMap_cons, hf]; exact List.mem_cons_self)
      obtain ⟨sl, e⟩ := I.base.slot L o ho (I.ok.frf L hL) hL fun z => I.ok.exfs L z hL
      exact ⟨hk, ⟨L, _, hf, hn, e, hd⟩, ih (fun b hb => hs b (by unfold frs; rw [List.filterMap_cons, hf]; exact List.mem_cons_of_mem _ hb)) hr⟩
  exact all X.outer (fun _ hb => hb) I.ok.funs

theorem Inv.stack (I : Inv X pins σ H s) : s.heap.FunFrames X.base X.stack := by
  rcases I.ok.stk with e | ⟨e, hf⟩
  · rw [e]; exact I.funs
  · rw [e]
    obtain ⟨m, hn, _⟩ := I.loc
    refine .cons (by rw [I.ok.kind]; decide) hf hn ?_ I.funs
    exact Heap.get?_none_of_le (Nat.le_trans I.ok.bsz I.ok.above)
theorem Inv.stkSub (I : Inv X pins σ H s) : ∀ b ∈ frs X.stack, b ∈ X.env.locals :: X.fs := fun b hb => by
  rcases I.ok.stk with e | ⟨e, hf⟩
  · rw [e] at hb; exact List.mem_cons_of_mem _ hb
  · rw [e] at hb
    unfold frs at hb
    rw [List.filterMap_cons, hf] at hb
    exact hb
theorem Inv.stkFree (I : Inv X pins σ H s) : ∀ b ∈ frs X.stack, H b = none := fun b hb => by
  rcases List.mem_cons.mp (I.stkSub b hb) with e | hb
  · rw [e]; exact I.free
  · obtain ⟨_, o, ho, _⟩ := I.ok.funs.mem hb
    exact I.base.free b o ho (I.ok.frf b hb) fun z => I.ok.exfs b z hb

theorem Inv.step {g' : Array GenState} {t' : Nat} {d' : Drawn} {ch : List Addr} (I : Inv X pins σ H s)
    (hch : ∀ b ∈ ch, (b ∈ X.ex ∨ X.s₀.heap.objs.size ≤ b) ∧ b ≠ X.env.locals ∧ (∀ x c, X.env.cells.lookup x = some c → c ≠ b) ∧ ∀ p ∈ X.pn ++ pins, p.1 ≠ b)
    (keep : ∀ b o, b ≠ X.env.locals → b ∉ X.fs → b ∉ ch → s.heap.get? b = some o → H b = none → h'.get? b = some o)
    (slot : ∀ b o, b ≠ X.env.locals → b ∈ X.fs → b ∉ ch → s.heap.get? b = some o → H b = none → ∃ sl, h'.get? b = some { o with slots := sl }) (free : ∀ b o, b ∉ ch → s.heap.get? b = some o → H b = none → H' b = none)
    (there : ∀ b o, b ∉ ch → s.heap.get? b = some o → ∃ o', h'.get? b = some o')
    (tups : ∀ b xs, H b = some (.tup xs) → H' b = some (.tup xs)) (frzs : ∀ b o u, H b = some (.frz o u) → H' b = some (.frz o u)) (tbls : ∀ b ps, H b = some (.tbl ps) → ∃ more, H' b = some (.tbl (ps ++ more)))
    (ns : ∀ m, s.heap.Ns X.env.locals m → h'.Ns X.env.locals m) (hok : HOk X.prog X.w H' h') (hg : AllBare g') :
    Inv X pins σ H' { s with heap := h', gens := g', drawn := d', toks := t' } := by
  have neL : ∀ b o, X.s₀.heap.get? b = some o → b ≠ X.env.locals := fun b o e => Nat.ne_of_lt (Nat.lt_of_lt_of_le (Heap.lt_size e) I.ok.above)
  have neC : ∀ b o, X.s₀.heap.get? b = some o → b ∉ X.ex → b ∉ ch := fun b o e hx hb => by
    rcases (hch b hb).1 with z | z
    · exact hx z
    · exact absurd (Nat.lt_of_lt_of_le (Heap.lt_size e) z) (Nat.lt_irrefl _)
  have cellK : ∀ x c, X.env.cells.lookup x = some c → ∀ v, s.heap.IsCell c v → h'.IsCell c v := fun x c e v ⟨o, ho, hd⟩ => by
    have nch : c ∉ ch := fun z => (hch c z).2.2.1 x c e rfl
    by_cases hc : c ∈ X.fs
    · obtain ⟨sl, q⟩ := slot c o (I.cne x c e) hc nch ho (I.freeC x c e)
      exact ⟨_, q, hd⟩
    · exact ⟨o, keep c o (I.cne x c e) hc nch ho (I.freeC x c e), hd⟩
  refine ⟨I.ok, I.os, hg, ⟨fun b o e n hb hx => ?_, fun b o e n hb hx => ?_, fun b o e n hx => ?_, fun b o e hx => ?_, fun b xs e => tups b xs (I.base.tups b xs e), fun b o xs e => frzs b o xs (I.base.frzs b o xs e), fun b ps e => ?_⟩, ?_, fun x c e => ?_, ?_, fun x c e => ?_, fun p hp => ?_, hok, I.len⟩
  · exact keep b o (neL b o e) hb (neC b o e hx) (I.base.keep b o e n hb hx) (I.base.free b o e n hx)
  · obtain ⟨sl, e1⟩ := I.base.slot b o e n hb hx
    obtain ⟨sl', e2⟩ := slot b _ (neL b o e) hb (neC b o e hx) e1 (I.base.free b o e n hx)
    exact ⟨sl', e2⟩
  · obtain ⟨o', e1⟩ := I.base.there b o e hx
    exact free b o' (neC b o e hx) e1 (I.base.free b o e n hx)
  · obtain ⟨o', e1⟩ := I.base.there b o e hx
    exact there b o' (neC b o e hx) e1
  · obtain ⟨m1, e1⟩ := I.base.tbls b ps e
    obtain ⟨m2, e2⟩ := tbls b _ e1
    exact ⟨m1 ++ m2, by rw [e2, Array.append_assoc]⟩
  · obtain ⟨m, hn, hl⟩ := I.loc
    refine ⟨m, ns m hn, fun i x v e1 e2 e3 => ?_⟩
    obtain ⟨u, r, l⟩ := hl i x v e1 e2 e3
    refine ⟨u, r, ?_⟩
    rcases l with l | ⟨k, c, e, z⟩
    · exact .inl l
    · exact .inr ⟨k, c, e, cellK x c e _ z⟩
  · obtain ⟨v, z⟩ := I.cell x c e
    exact ⟨v, cellK x c e v z⟩
  · obtain ⟨m, ⟨o, _, _, ho, _⟩, _⟩ := I.loc
    exact free _ o (fun z => (hch _ z).2.1 rfl) ho I.free
  · obtain ⟨v, o, ho, hd⟩ := I.cell x c e
    exact free c o (fun z => (hch c z).2.2.1 x c e rfl) ho (I.freeC x c e)
  · obtain ⟨e, n, ne, nf, d⟩ := I.pin p hp
    have nch : p.1 ∉ ch := fun z => (hch p.1 z).2.2.2 p hp rfl
    exact ⟨keep p.1 p.2 ne nf nch e n, free p.1 p.2 nch e n, ne, nf, d⟩
theorem Inv.un {t' : Nat} (I : Inv X pins σ H s) (u : Un X.fs [] H H' s.heap h') (hok : HOk X.prog X.w H' h') : Inv X pins σ H' { s with heap := h', toks := t' } := by
  obtain ⟨m, ⟨o, es, ep, ho, r⟩, _⟩ := id I.loc
  obtain ⟨sl, hL⟩ := u.any ho I.free (by simp)
  exact I.step (g' := s.gens) (d' := s.drawn) (ch := []) (fun _ z => nomatch z) (fun b o _ hb _ e n => u.keep b o e n hb (by simp)) (fun b o _ hb _ e n => u.slot b o e n hb (by simp)) (fun b o _ e n => u.free b o e n (by simp)) (fun b o _ e => u.there b o e (by simp)) u.tups u.frzs u.tbls (fun m' hm => by
    obtain ⟨o', es', ep', ho', r'⟩ := hm
    rw [ho] at ho'; cases ho'
    exact ⟨_, es', ep', hL, r'⟩) hok I.bare
theorem Inv.call {g' : Array GenState} {t' : Nat} {d' : Drawn} {ch : List Addr} (I : Inv X pins σ H s) (u : Un (frs X.stack) ch H H' s.heap h') (hok : HOk X.prog X.w H' h') (hg : AllBare g')
    (hch : ∀ b ∈ ch, (b ∈ X.ex ∨ X.s₀.heap.objs.size ≤ b) ∧ b ≠ X.env.locals ∧ (∀ x c, X.env.cells.lookup x = some c → c ≠ b) ∧ ∀ p ∈ X.pn ++ pins, p.1 ≠ b) :
    Inv X pins σ H' { s with heap := h', gens := g', drawn := d', toks := t' } := by
  obtain ⟨m, ⟨o, es, ep, ho, r⟩, _⟩ := id I.loc
  obtain ⟨sl, hL⟩ := u.any ho I.free fun z => (hch _ z).2.1 rfl
  exact I.step (ch := ch) hch (fun b o hL hb hc e n => u.keep b o e n (fun z => (List.mem_cons.mp (I.stkSub b z)).elim hL hb) hc) (fun b o _ _ hc e n => u.any e n hc) (fun b o hc e n => u.free b o e n hc) (fun b o hc e => u.there b o e hc) u.tups u.frzs u.tbls (fun m' hm => by
    obtain ⟨o', es', ep', ho', r'⟩ := hm
    rw [ho] at ho'; cases ho'
    exact ⟨_, es', ep', hL, r'⟩) hok hg
theorem Inv.turned {t' : Nat} {it : Addr} (I : Inv X pins σ H s) (k : ∀ b o, b ≠ it → s.heap.get? b = some o → h'.get? b = some o) (hn : H it = none) (hL : it ≠ X.env.locals)
    (h1 : it ∈ X.ex ∨ X.s₀.heap.objs.size ≤ it) (h2 : ∀ x c, X.env.cells.lookup x = some c → c ≠ it) (h3 : ∀ p ∈ X.pn ++ pins, p.1 ≠ it) : Inv X pins σ H { s with heap := h', toks := t' } := by
  have nit : ∀ b u, H b = some u → b ≠ it := fun b u e z => by rw [z, hn] at e; cases e
  refine I.step (g' := s.gens) (d' := s.drawn) (ch := [it]) (fun b hb => ?_) (fun b o _ _ hc e _ => k b o (fun z => hc (by simp [z])) e) (fun b o _ _ hc e _ => ⟨o.slots, k b o (fun z => hc (by simp [z])) e⟩) (fun _ _ _ _ n => n)
    (fun b o hc e => ⟨o, k b o (fun z => hc (by simp [z])) e⟩) (fun _ _ e => e) (fun _ _ _ e => e) (fun b ps e => ⟨#[], by rw [e]; simp⟩) (fun m hm => ?_) (fun b u e => ?_) I.bare
  · have e : b = it := by simpa using hb
    subst e
    exact ⟨h1, hL, h2, h3⟩
  · obtain ⟨o, es, ep, ho, r⟩ := hm
    exact ⟨o, es, ep, k _ o (Ne.symm hL) ho, r⟩
  · refine (I.hok b u e).stay (fun c v hc q => k c v ?_ q) (fun _ q => q) fun _ _ q => q
    rcases hc with z | z
    · rw [z]; exact nit b u e
    · exact nit c _ z
theorem Inv.tok (I : Inv X pins σ H s) (t : Nat) : Inv X pins σ H { s with toks := t } := I.un (h' := s.heap) (t' := t) Un.refl I.hok
theorem Inv.kept {t' : Nat} (I : Inv X pins σ H s) (k : ∀ b u, s.heap.get? b = some u → h'.get? b = some u) : Inv X pins σ H { s with heap := h', toks := t' } := I.un (Un.kept k) (I.hok.kept k)
theorem Inv.laid {a : Addr} {o : HO} {t' : Nat} (I : Inv X pins σ H s) (k : ∀ b u, s.heap.get? b = some u → h'.get? b = some u) (hp : s.heap.objs.size ≤ a) (new : ObjOk X.prog X.w (upd H a o) h' a o) :
    Inv X pins σ (upd H a o) { s with heap := h', toks := t' } := I.un (Un.laid k hp (I.hok.fresh hp)) (I.hok.laid k hp new)
theorem Inv.write {x e : Addr} {o : HO} {t' : Nat} (I : Inv X pins σ H s) (mu : Mut (H x)) (he : e = x ∨ H e = some (.own x)) (k : ∀ b u, b ≠ e → s.heap.get? b = some u → h'.get? b = some u) (heo : ∃ u, h'.get? e = some u)
    (new : ObjOk X.prog X.w (upd H x o) h' x o) : Inv X pins σ (upd H x o) { s with heap := h', toks := t' } := I.un (Un.write mu he k heo) (I.hok.write mu he k heo new)
theorem Inv.weak {σ' : List (Option V)} (I : Inv X pins σ H s) (hl : σ'.length = σ.length) (w : ∀ (i : Nat) v, σ'[i]? = some (some v) → σ[i]? = some (some v)) : Inv X pins σ' H s :=
  ⟨I.ok, I.os, I.bare, I.base, let ⟨m, hn, hl'⟩ := I.loc; ⟨m, hn, fun i x v e1 e2 e3 => hl' i x v e1 (w i v e2) e3⟩, I.cell, I.free, I.freeC, I.pin, I.hok, hl.trans I.len⟩
theorem Inv.pins_of {pins' : List (Addr × Obj)} (I : Inv X pins σ H s) (h : ∀ p ∈ pins', s.heap.get? p.1 = some p.2 ∧ H p.1 = none ∧ p.1 ≠ X.env.locals ∧ p.1 ∉ X.fs ∧ ∀ v, p.2.data ≠ .cell v) : Inv X pins' σ H s :=
  ⟨I.ok, I.os, I.bare, I.base, I.loc, I.cell, I.free, I.freeC, fun p hp => (List.mem_append.mp hp).elim (fun z => I.pin p (List.mem_append_left _ z)) (h p), I.hok, I.len⟩

theorem nodup_ix {N : List Str} (hN : N.Nodup) {i j : Nat} {x : Str} (a : N[i]? = some x) (b : N[j]? = some x) : i = j := by
  obtain ⟨h1, e1⟩ := List.getElem?_eq_some_iff.mp a
  obtain ⟨h2, e2⟩ := List.getElem?_eq_some_iff.mp b
  exact (List.getElem_inj hN).mp (e1.trans e2.symm)

theorem store_ok2 {M : Model} {A : Around} {E : Value → Shared → Prop} {i : Nat} {x : Str} {v : V} {u : Value} {Q : Unit → Shared → Prop} (I : Inv X pins σ H s) (hN : X.N.Nodup) (hi : X.N[i]? = some x) (hx : Loc X.env.scope x) (r : RelV v u)
    (h : ∀ s', Inv X pins (σ.set i (some v)) H s' → (∃ a, Heap.SameBut a s.heap s'.heap ∧ (a = X.env.locals ∨ X.env.cells.lookup x = some a)) → Q () s') (hf : X.fn x = true ∨ X.env.scope.names.lookup x = some .local := by first | exact .inl rfl | exact .inr rfl | assumption) : wpAny M A (storeName X.env x u) Q E s := by
  obtain ⟨m, hn, hl⟩ := id I.loc
  have hcls : (X.env.scope.kind == .class || (X.env.scope.kind == .module && X.env.locals != X.env.globals)) = false := by rw [I.ok.kind]; rfl
  have hiσ : i < σ.length := by rw [I.len]; exact (List.getElem?_eq_some_iff.mp hi).1
  have cne := I.cne
  have tracked : ∀ {a : Addr} {h' : Heap}, (∃ o, s.heap.get? a = some o ∧ H a = none) → Heap.SameBut a s.heap h' → HOk X.prog X.w H h' := fun {a h'} ha hs b ob e => by
    obtain ⟨_, _, hfree⟩ := ha
    refine (I.hok b ob e).stay (fun c w' hc q => (hs.2 c ?_).trans q) (fun _ q => q) fun _ _ q => q
    rintro rfl
    rcases hc with rfl | hc
    · rw [hfree] at e; cases e
    · rw [hfree] at hc; cases hc
  rcases hx with hk | hk
  · refine wpAny_storeName_local hk hn (fun h' hn' hs => ?_) hcls
    obtain ⟨oL, _, _, hoL, _⟩ := id hn
    refine h _ ⟨I.ok, I.os, I.bare, ⟨fun b o e n hb hx => ?_, fun b o e n hb hx => ?_, I.base.free, fun b o e hx => ?_, I.base.tups, I.base.frzs, I.base.tbls⟩, ⟨_, hn', fun j y v' e1 e2 e3 => ?_⟩, fun y c e => ?_, I.free, I.freeC, fun p hp => ?_, tracked ⟨oL, hoL, I.free⟩ hs, by simpa using I.len⟩ ⟨_, hs, .inl rfl⟩
    · exact (hs.2 b (Nat.ne_of_lt (Nat.lt_of_lt_of_le (Heap.lt_size e) I.ok.above))).trans (I.base.keep b o e n hb hx)
    · obtain ⟨sl, e1⟩ := I.base.slot b o e n hb hx
      exact ⟨sl, (hs.2 b (Nat.ne_of_lt (Nat.lt_of_lt_of_le (Heap.lt_size e) I.ok.above))).trans e1⟩
    · obtain ⟨o', e1⟩ := I.base.there b o e hx
      exact ⟨o', (hs.2 b (Nat.ne_of_lt (Nat.lt_of_lt_of_le (Heap.lt_size e) I.ok.above))).trans e1⟩
    · by_cases hj : j = i
      · subst hj
        rw [hi] at e1; cases e1
        rw [List.getElem?_set_self hiσ] at e2
        cases e2
        exact ⟨u, r, .inl ⟨hk, by simp⟩⟩
      · rw [List.getElem?_set_ne (Ne.symm hj)] at e2
        obtain ⟨u', r', q⟩ := hl j y v' e1 e2 e3
        refine ⟨u', r', ?_⟩
        rcases q with ⟨k, e⟩ | ⟨k, c, e, z⟩
        · refine .inl ⟨k, ?_⟩
          have : y ≠ x := fun e => hj (nodup_ix hN e1 (e ▸ hi))
          simp [this, e]
        · exact .inr ⟨k, c, e, z.sameBut hs (cne y c e)⟩
    · obtain ⟨w', z⟩ := I.cell y c e
      exact ⟨w', z.sameBut hs (cne y c e)⟩
    · obtain ⟨e, n, ne, nf, d⟩ := I.pin p hp
      exact ⟨(hs.2 p.1 ne).trans e, n, ne, nf, d⟩
  · have hfn : X.fn x = true := by
      rcases hf with z | z
      · exact z
      · rw [z] at hk; cases hk
    obtain ⟨c, hc⟩ := I.ok.has x (.inl hk)
    obtain ⟨w', z⟩ := I.cell x c hc
    refine wpAny_storeName_cell I.ok.kind hk hc z (fun h' hc' hs => ?_)
    obtain ⟨oc, hoc, hocd⟩ := id z
    refine h { s with heap := h' } ⟨I.ok, I.os, I.bare, ⟨fun b o e n hb hx => ?_, fun b o e n hb hx => ?_, I.base.free, fun b o e hx => ?_, I.base.tups, I.base.frzs, I.base.tbls⟩, ⟨m, hn.sameBut hs (Ne.symm (cne x c hc)), fun j y v' e1 e2 e3 => ?_⟩, fun y c' e => ?_, I.free, I.freeC, fun p hp => ?_, tracked ⟨oc, hoc, I.freeC x c hc⟩ hs, by simpa using I.len⟩ ⟨c, hs, .inr hc⟩
    · exact (hs.2 b (Nat.ne_of_lt (Nat.lt_of_lt_of_le (Heap.lt_size e) (I.ok.cab x c hfn hc)))).trans (I.base.keep b o e n hb hx)
    · obtain ⟨sl, e1⟩ := I.base.slot b o e n hb hx
      exact ⟨sl, (hs.2 b (Nat.ne_of_lt (Nat.lt_of_lt_of_le (Heap.lt_size e) (I.ok.cab x c hfn hc)))).trans e1⟩
    · obtain ⟨o', e1⟩ := I.base.there b o e hx
      exact ⟨o', (hs.2 b (Nat.ne_of_lt (Nat.lt_of_lt_of_le (Heap.lt_size e) (I.ok.cab x c hfn hc)))).trans e1⟩
    · by_cases hj : j = i
      · subst hj
        rw [hi] at e1; cases e1
        rw [List.getElem?_set_self hiσ] at e2
        cases e2
        exact ⟨u, r, .inr ⟨.inl hk, c, hc, hc'⟩⟩
      · rw [List.getElem?_set_ne (Ne.symm hj)] at e2
        obtain ⟨u', r', q⟩ := hl j y v' e1 e2 e3
        refine ⟨u', r', ?_⟩
        rcases q with q | ⟨k, c', e, z'⟩
        · exact .inl q
        · refine .inr ⟨k, c', e, z'.sameBut hs ?_⟩
          rintro rfl
          exact hj (nodup_ix hN e1 (I.ok.inj _ _ _ e hc ▸ hi))
    · by_cases hcc : c' = c
      · subst hcc; exact ⟨_, hc'⟩
      · obtain ⟨w2, z2⟩ := I.cell y c' e
        exact ⟨w2, z2.sameBut hs hcc⟩
    · obtain ⟨e, n, ne, nf, d⟩ := I.pin p hp
      refine ⟨(hs.2 p.1 ?_).trans e, n, ne, nf, d⟩
      intro q
      rw [q, hoc] at e
      have q' : oc = p.2 := Option.some.inj e
      exact d w' (by rw [← q']; exact hocd)
theorem store_ok {M : Model} {A : Around} {E : Value → Shared → Prop} {i : Nat} {x : Str} {v : V} {u : Value} {Q : Unit → Shared → Prop} (I : Inv X pins σ H s) (hN : X.N.Nodup) (hi : X.N[i]? = some x) (hx : Loc X.env.scope x) (r : RelV v u)
    (h : ∀ s', Inv X pins (σ.set i (some v)) H s' → Q () s') (hf : X.fn x = true ∨ X.env.scope.names.lookup x = some .local := by first | exact .inl rfl | exact .inr rfl | assumption) : wpAny M A (storeName X.env x u) Q E s :=
  store_ok2 I hN hi hx r (fun s' I' _ => h s' I') hf
theorem Inv.call' {s' : Shared} {ch : List Addr} (I : Inv X pins σ H s) (ho : s'.os = s.os) (u : Un (frs X.stack) ch H H' s.heap s'.heap) (hok : HOk X.prog X.w H' s'.heap) (hg : AllBare s'.gens)
    (hch : ∀ b ∈ ch, (b ∈ X.ex ∨ X.s₀.heap.objs.size ≤ b) ∧ b ≠ X.env.locals ∧ (∀ x c, X.env.cells.lookup x = some c → c ≠ b) ∧ ∀ p ∈ X.pn ++ pins, p.1 ≠ b) : Inv X pins σ H' s' := by
  obtain ⟨h', g', d', t', o'⟩ := s'
  have e : o' = s.os := ho
  subst e
  exact I.call (g' := g') (t' := t') (d' := d') u hok hg hch
end

/-! ### the judgements -/
noncomputable abbrev XK := Value → Option Addr → Hp → Prop
noncomputable abbrev St := List (Option V)
noncomputable abbrev VK := V → Hp → Prop
noncomputable abbrev TE := St → Hp → VK → Prop
noncomputable abbrev TT := St → Hp → (Bool → Hp → Prop) → Prop
noncomputable abbrev TA := St → Hp → (List V → Hp → Prop) → Prop
set_option genInjectivity false in
structure Ends where
  nx : St → Hp → Prop
  rt : VK
  bk : St → Hp → Prop := fun _ _ => False
  ct : St → Hp → Prop := fun _ _ => False
noncomputable abbrev TS := Ends → St → Hp → Prop

noncomputable def EP (X : Cx) (pins : List (Addr × Obj)) (σ : St) (Q : VK) (u : Value) (s' : Shared) : Prop := ∃ v H', Inv X pins σ H' s' ∧ RelV v u ∧ Q v H'
noncomputable def TP (X : Cx) (pins : List (Addr × Obj)) (σ : St) (Q : Bool → Hp → Prop) (b : Bool) (s' : Shared) : Prop := ∃ H', Inv X pins σ H' s' ∧ Q b H'
noncomputable def AP (X : Cx) (pins : List (Addr × Obj)) (σ : St) (Q : List V → Hp → Prop) (us : List Value) (s' : Shared) : Prop := ∃ vs H', Inv X pins σ H' s' ∧ Vals vs us ∧ Q vs H'
noncomputable def SP (X : Cx) (pins : List (Addr × Obj)) (D : Ends) (f : Flow) (s' : Shared) : Prop :=
  match f with
  | .next => ∃ σ' H', Inv X pins σ' H' s' ∧ D.nx σ' H'
  | .brk => ∃ σ' H', Inv X pins σ' H' s' ∧ D.bk σ' H'
  | .cont => ∃ σ' H', Inv X pins σ' H' s' ∧ D.ct σ' H'
  | .ret u => ∃ v σ' H', Inv X pins σ' H' s' ∧ RelV v u ∧ D.rt v H'

noncomputable def PE (X : Cx) (e : Expr) (t : TE) : Prop :=
  ∀ (pins : List (Addr × Obj)) (s : Shared) (σ : St) (H : Hp) (Q : VK), Inv X pins σ H s → t σ H Q → wpAny (model X.prog X.w) X.A (eval e X.env) (EP X pins σ Q) X.xe s
noncomputable def PT (X : Cx) (e : Expr) (t : TT) : Prop :=
  ∀ (pins : List (Addr × Obj)) (s : Shared) (σ : St) (H : Hp) (Q : Bool → Hp → Prop), Inv X pins σ H s → t σ H Q → wpAny (model X.prog X.w) X.A (isTrue e X.env (eval e X.env)) (TP X pins σ Q) X.xe s
noncomputable def PW (X : Cx) (e : Expr) (t : TT) : Prop :=
  ∀ (whole : Sem Value) (pins : List (Addr × Obj)) (s : Shared) (σ : St) (H : Hp) (Q : Bool → Hp → Prop), Inv X pins σ H s → t σ H Q → wpAny (model X.prog X.w) X.A (isTrue e X.env whole) (TP X pins σ Q) X.xe s
theorem PW.pt {X : Cx} {e : Expr} {t : TT} (h : PW X e t) : PT X e t := h _
noncomputable def PA (X : Cx) (es : List Expr) (t : TA) : Prop :=
  ∀ (pos : Pos) (pins : List (Addr × Obj)) (s : Shared) (σ : St) (H : Hp) (Q : List V → Hp → Prop), Inv X pins σ H s → t σ H Q → wpAny (model X.prog X.w) X.A (spliced (backTo pos (starEach es X.env))) (AP X pins σ Q) X.xe s
noncomputable def PS (X : Cx) (st : Stmt) (t : TS) : Prop :=
  ∀ (pins : List (Addr × Obj)) (s : Shared) (σ : St) (H : Hp) (D : Ends), Inv X pins σ H s → t D σ H → wpAny (model X.prog X.w) X.A (exec st X.env) (SP X pins D) X.xe s
noncomputable def PSs (X : Cx) (st : List Stmt) (t : TS) : Prop :=
  ∀ (pins : List (Addr × Obj)) (s : Shared) (σ : St) (H : Hp) (D : Ends), Inv X pins σ H s → t D σ H → wpAny (model X.prog X.w) X.A (execs st X.env) (SP X pins D) X.xe s
theorem thn {α : Type} {t : Sem α} {Q Q' : α → Shared → Prop} {M : Model} {A : Around} {E : Value → Shared → Prop} {s : Shared} (h : wpAny M A t Q E s) (hQ : ∀ a s, Q a s → Q' a s) : wpAny M A t Q' E s := wpAny_mono h hQ fun _ _ x => x
end L2

namespace L2
open PySem PySem.Spec PyProof.Rows
section
variable {X : Cx}


/-! ### names and constants -/
noncomputable def tVar (i : Nat) : TE := fun σ H Q => ∃ v, σ[i]? = some (some v) ∧ Q v H
noncomputable def tC (v : V) : TE := fun _ H Q => Q v H
theorem pe_var {i : Nat} {x : Str} {pos : Pos} (hN : X.N[i]? = some x) (hv : Vis X.env.scope x) (hd : (x == ("__debug__" : Str)) = false := by decide) (hcd : (x == ("__classdict__" : Str)) = false := by decide) : PE X (.Name x pos) (tVar i) := by
  intro pins s σ H Q I h
  obtain ⟨v, e, h⟩ := h
  obtain ⟨m, hn, hl⟩ := I.loc
  obtain ⟨u, r, l⟩ := hl i x v hN e hv
  have fin : EP X pins σ Q u s := ⟨v, H, I, r, h⟩
  rcases l with ⟨hk, hm⟩ | ⟨hk, c, hc, hcell⟩
  · exact wpAny_Name (wpAny_loadName_local I.ok.kind hk hn hm fin) hd
  · rcases hk with hk | hk
    · exact wpAny_Name (wpAny_loadName_cell I.ok.kind hk hc hcell fin) hd
    · exact wpAny_Name (wpAny_loadName_free I.ok.kind hk hc hcell fin hcd) hd
theorem pe_int {i j pos} : PE X (.Constant (.int i) j pos) (tC (.int i)) := fun _ _ _ H _ I h => wpAny_Constant_int ⟨.int i, H, I.tok _, ⟨_, rfl⟩, h⟩
theorem pe_bl {b j pos} : PE X (.Constant (.bool b) j pos) (tC (.bl b)) := fun _ _ _ H _ I h => Constant_bool ⟨.bl b, H, I, rfl, h⟩
theorem pe_non {j pos} : PE X (.Constant .none j pos) (tC .non) := fun _ _ _ H _ I h => Constant_none ⟨.non, H, I, rfl, h⟩
theorem pe_str {x j pos} : PE X (.Constant (.str x) j pos) (tC (.str x)) := fun _ _ _ H _ I h => Calls.Constant_str ⟨.str x, H, I.tok _, ⟨_, rfl⟩, h⟩

noncomputable def Gl (X : Cx) (x : Str) : Prop := X.env.kindOf x = some .globalImplicit
theorem ld_glob {E : Value → Shared → Prop} {pins : List (Addr × Obj)} {s : Shared} {σ : St} {H : Hp} {x : Str} {u : Value} {pos : Pos} {Q : Value → Shared → Prop} (I : Inv X pins σ H s) (hg : Gl X x) (hm : X.mg x = some u) (h : Q u s)
    (hd : (x == ("__debug__" : Str)) = false := by decide) : wpAny (model X.prog X.w) X.A (eval (.Name x pos) X.env) Q E s :=
  Calls.Name_function_global I.ok.kind hg (Calls.loadGlobal_global (by rw [I.ok.glob]; exact I.mod.glob.keeps I.bk) hm h) hd
theorem ld_blt {E : Value → Shared → Prop} {pins : List (Addr × Obj)} {s : Shared} {σ : St} {H : Hp} {x : Str} {u : Value} {pos : Pos} {Q : Value → Shared → Prop} (I : Inv X pins σ H s) (hg : Gl X x) (hm : X.mg x = none) (hv : bootBuiltins x = some u) (h : Q u s)
    (hn : x ≠ "__name__" := by decide) (hd : (x == ("__debug__" : Str)) = false := by decide) : wpAny (model X.prog X.w) X.A (eval (.Name x pos) X.env) Q E s := by
  obtain ⟨mb, h1, h2⟩ := I.mod.blt
  exact Calls.Name_function_global I.ok.kind hg (Calls.loadGlobal_builtin (by rw [I.ok.glob]; exact I.mod.glob.keeps I.bk) hm (by rw [I.ok.blt]; exact h1.keeps I.bk) ((h2 x hn).trans hv) h) hd
theorem pe_bltn {x : Str} {v : V} {u : Value} {pos : Pos} (hg : Gl X x) (hm : X.mg x = none) (hv : bootBuiltins x = some u) (r : RelV v u) (hn : x ≠ "__name__" := by decide) (hd : (x == ("__debug__" : Str)) = false := by decide) : PE X (.Name x pos) (tC v) :=
  fun _ _ _ H _ I h => ld_blt I hg hm hv ⟨v, H, I, r, h⟩ hn hd

/-! ### arithmetic -/
variable {a b : Expr} {ta tb : TE} {pos : Pos}

/-! ### comparisons -/
noncomputable def PC (X : Cx) (op : CmpOp) (a b : Expr) (t : TE) : Prop :=
  ∀ (pins : List (Addr × Obj)) (s : Shared) (σ : St) (H : Hp) (Q : VK), Inv X pins σ H s → t σ H Q →
    wpAny (model X.prog X.w) X.A (eval a X.env) (fun v s₁ => wpAny (model X.prog X.w) X.A (eval b X.env) (fun u s₂ => wpAny (model X.prog X.w) X.A (compareOp op v u) (EP X pins σ Q) X.xe s₂) X.xe s₁) X.xe s
theorem nobehind (b : Expr) {op : CmpOp} (h : op ≠ .In) (h2 : op ≠ .NotIn) : behindInMarks op b = false := by
  have e1 : (op == CmpOp.In) = false := by cases op <;> first | rfl | exact absurd rfl h
  have e2 : (op == CmpOp.NotIn) = false := by cases op <;> first | rfl | exact absurd rfl h2
  cases b <;> simp [behindInMarks, e1, e2]
noncomputable def tB (t : TE) : TT := fun σ H Q => t σ H fun x H1 => ∃ c, x = .bl c ∧ Q c H1
theorem pt_cmp {op : CmpOp} {t : TE} (h : PC X op a b t) (h1 : behindInMarks op b = false := by first | exact nobehind _ (by decide) (by decide) | rfl) : PT X (.Compare a [op] [b] pos) (tB t) := by
  intro pins s σ H Q I hw
  refine wpAny_isTrue_Compare1 (thn (h pins s σ H _ I hw) fun v s1 h1 => thn h1 fun u s2 h2 => thn h2 fun c s3 ⟨x, H1, I1, r1, q1⟩ => ?_) h1
  obtain ⟨d, rfl, q⟩ := q1
  cases r1
  exact wpAny_truthy_bool ⟨H1, I1, q⟩
theorem pt_val {e : Expr} {t : TE} (h : PE X e t) (he : ∀ whole, isTrue e X.env whole = (do let v ← whole; standAt e.pos; holding [v] (truthy v)) := by intro _; rfl) : PT X e (tB t) := by
  intro pins s σ H Q I hw
  refine isTrue_plain (thn (h pins s σ H _ I hw) fun v s1 ⟨x, H1, I1, r1, q1⟩ => ?_) (he _)
  obtain ⟨d, rfl, q⟩ := q1
  cases r1
  exact wpAny_truthy_bool ⟨H1, I1, q⟩

/-! ### and, or, not -/
variable {tA tB' : TT} {rest : List Expr}
noncomputable def tAnd (t u : TT) : TT := fun σ H Q => t σ H fun c H1 => if c = true then u σ H1 Q else Q false H1
noncomputable def tOr (t u : TT) : TT := fun σ H Q => t σ H fun c H1 => if c = true then Q true H1 else u σ H1 Q
noncomputable def tNot (t : TT) : TT := fun σ H Q => t σ H fun c H1 => Q (!c) H1
theorem pw_and1 (ha : PT X a tA) : PW X (.BoolOp .And [a] pos) tA := by
  intro wh pins s σ H Q I h
  refine isTrue_and (thn (ha pins s σ H Q I h) fun c s1 e => ?_)
  cases c with
  | true => exact isTrue_and_nil e
  | false => exact e
theorem pw_or1 (ha : PT X a tA) : PW X (.BoolOp .Or [a] pos) tA := by
  intro wh pins s σ H Q I h
  refine isTrue_or (thn (ha pins s σ H Q I h) fun c s1 e => ?_)
  cases c with
  | false => exact isTrue_or_nil e
  | true => exact e
theorem pw_and (ha : PT X a tA) (hb : PW X (.BoolOp .And (b :: rest) pos) tB') : PW X (.BoolOp .And (a :: b :: rest) pos) (tAnd tA tB') := by
  intro wh pins s σ H Q I h
  refine isTrue_and (thn (ha pins s σ H _ I h) fun c s1 ⟨H1, I1, q1⟩ => ?_)
  cases c with
  | true => exact hb wh pins s1 σ H1 Q I1 q1
  | false => exact ⟨H1, I1, q1⟩
theorem pw_or (ha : PT X a tA) (hb : PW X (.BoolOp .Or (b :: rest) pos) tB') : PW X (.BoolOp .Or (a :: b :: rest) pos) (tOr tA tB') := by
  intro wh pins s σ H Q I h
  refine isTrue_or (thn (ha pins s σ H _ I h) fun c s1 ⟨H1, I1, q1⟩ => ?_)
  cases c with
  | true => exact ⟨H1, I1, q1⟩
  | false => exact hb wh pins s1 σ H1 Q I1 q1
theorem pt_not (ha : PT X a tA) : PT X (.UnaryOp .Not a pos) (tNot tA) := by
  intro pins s σ H Q I h
  exact isTrue_not (ha pins s σ H (fun c H1 => Q (!c) H1) I h)
noncomputable def tAndV (ta tb : TE) : TE := fun σ H Q => ta σ H fun x H1 => ∃ c, x = .bl c ∧ if c = true then tb σ H1 Q else Q (.bl false) H1
noncomputable def tOrV (ta tb : TE) : TE := fun σ H Q => ta σ H fun x H1 => ∃ c, x = .bl c ∧ if c = true then Q (.bl true) H1 else tb σ H1 Q
noncomputable def tNotV (ta : TE) : TE := fun σ H Q => ta σ H fun x H1 => ∃ c, x = .bl c ∧ Q (.bl (!c)) H1
theorem pe_one {op} {t : TE} (h : PE X a t) : PE X (.BoolOp op [a] pos) t := fun pins s σ H Q I hw => BoolOp_one (h pins s σ H Q I hw)
theorem pe_and (ha : PE X a ta) (hb : PE X (.BoolOp .And (b :: rest) pos) tb) : PE X (.BoolOp .And (a :: b :: rest) pos) (tAndV ta tb) := by
  intro pins s σ H Q I h
  refine BoolOp_and (thn (ha pins s σ H _ I h) fun v s1 ⟨x, H1, I1, r1, q1⟩ => ?_)
  obtain ⟨c, rfl, q1⟩ := q1
  cases r1
  refine wpAny_truthy_bool ?_
  cases c with
  | true => exact hb pins s1 σ H1 Q I1 q1
  | false => exact ⟨.bl false, H1, I1, rfl, q1⟩
theorem pe_not (ha : PE X a ta) : PE X (.UnaryOp .Not a pos) (tNotV ta) := by
  intro pins s σ H Q I h
  refine UnaryOp_ (thn (ha pins s σ H _ I h) fun v s1 ⟨x, H1, I1, r1, q1⟩ => ?_)
  obtain ⟨c, rfl, q1⟩ := q1
  cases r1
  exact not_of (wpAny_truthy_bool ⟨.bl (!c), H1, I1, rfl, q1⟩)
noncomputable def tIf (t : TT) (ta tb : TE) : TE := fun σ H Q => t σ H fun c H1 => if c = true then ta σ H1 Q else tb σ H1 Q
end
end L2

namespace L2
open PySem PySem.Spec PyProof.Rows

/-! ### a list, a tuple that is read: tracked, frozen, or an object of the module -/
noncomputable def SqL (K : PySem.W.Frag) (H : Hp) (a : Addr) (xs : List V) : Prop :=
  Rd H a (.lst xs) ∨
    ∃ (o : Obj) (its : Array Value) (n : Nat), K.lookup a = some o ∧ o.cls = .type "list" ∧ o.dict = none ∧ o.data = .seq its n ∧ its.size ≤ sizeLine ∧ Vals xs its.toList
noncomputable def SqT (K : PySem.W.Frag) (H : Hp) (a : Addr) (xs : List V) : Prop :=
  Rd H a (.tup xs) ∨
    ∃ (o : Obj) (its : Array Value) (n : Nat), K.lookup a = some o ∧ o.cls = .type "tuple" ∧ o.data = .seq its n ∧ its.size ≤ sizeLine ∧ Vals xs its.toList
noncomputable def absV : Value → Option V
  | .none => some .non
  | .bool b => some (.bl b)
  | .int i _ => some (.int i)
  | .str x _ => some (.str x)
  | .bytes b _ => some (.byt b)
  | .float b _ => some (.flt b)
  | .ref a => some (.ref a)
  | .type n => some (.ty n)
  | _ => none
theorem RelV.abs {x : V} {u : Value} (r : RelV x u) : absV u = some x := by
  cases x with
  | non => cases r; rfl
  | bl _ => cases r; rfl
  | int _ => obtain ⟨t, rfl⟩ := r; rfl
  | str _ => obtain ⟨t, rfl⟩ := r; rfl
  | byt _ => obtain ⟨t, rfl⟩ := r; rfl
  | flt _ => obtain ⟨t, rfl⟩ := r; rfl
  | ref _ => cases r; rfl
  | ty _ => cases r; rfl
theorem RelV.inj {x y : V} {u : Value} (r : RelV x u) (q : RelV y u) : x = y := Option.some.inj (r.abs.symm.trans q.abs)
theorem Vals.inj : ∀ {xs ys : List V} {us : List Value}, Vals xs us → Vals ys us → xs = ys
  | _, _, _, .nil, .nil => rfl
  | _, _, _, .cons r t, .cons r' t' => by rw [r.inj r', Vals.inj t t']
section
variable {X : Cx} {pins : List (Addr × Obj)} {σ : St} {H : Hp} {s : Shared} {a : Addr} {xs ys : List V}
theorem SqL.of {K : PySem.W.Frag} (h : H a = some (.lst xs)) : SqL K H a xs := .inl (.inl h)
theorem SqT.of {K : PySem.W.Frag} (h : H a = some (.tup xs)) : SqT K H a xs := .inl (.inl h)
theorem Inv.list (I : Inv X pins σ H s) (h : SqL X.K H a xs) : ∃ its : List Value, Vals xs its ∧ PlainL s.heap a its.toArray ∧ xs.length ≤ sizeLine := by
  rcases h with h | ⟨o, its, n, hk, hc, hd, hs, hz, r⟩
  · obtain ⟨z, its, n, r, e⟩ := h.ok I.hok
    exact ⟨its, r, ⟨_, n, e, rfl, rfl, rfl⟩, z⟩
  · refine ⟨its.toList, r, ⟨o, n, I.kIn a o hk, hc, hd, by simpa using hs⟩, ?_⟩
    have e := r.length
    simp only [Array.length_toList] at e
    omega
theorem Inv.tuple (I : Inv X pins σ H s) (h : SqT X.K H a xs) : ∃ its : List Value, Vals xs its ∧ IsTup s.heap a its.toArray ∧ xs.length ≤ sizeLine := by
  rcases h with h | ⟨o, its, n, hk, hc, hs, hz, r⟩
  · obtain ⟨z, its, r, p⟩ := h.ok I.hok
    exact ⟨its, r, p, z⟩
  · refine ⟨its.toList, r, ⟨o, I.kIn a o hk, hc, n, by simpa using hs⟩, ?_⟩
    have e := r.length
    simp only [Array.length_toList] at e
    omega
theorem Inv.list_inj (I : Inv X pins σ H s) (h : SqL X.K H a xs) (h' : SqL X.K H a ys) : xs = ys := by
  obtain ⟨its, r, ⟨o, n, e, _, _, d⟩, _⟩ := I.list h
  obtain ⟨its', r', ⟨o', n', e', _, _, d'⟩, _⟩ := I.list h'
  rw [e] at e'; cases e'
  rw [d] at d'
  injection d' with d1 _
  have : its = its' := by simpa using congrArg Array.toList d1
  subst this
  exact r.inj r'
theorem Inv.tuple_inj (I : Inv X pins σ H s) (h : SqT X.K H a xs) (h' : SqT X.K H a ys) : xs = ys := by
  obtain ⟨its, r, ⟨o, e, _, n, d⟩, _⟩ := I.tuple h
  obtain ⟨its', r', ⟨o', e', _, n', d'⟩, _⟩ := I.tuple h'
  rw [e] at e'; cases e'
  rw [d] at d'
  injection d' with d1 _
  have : its = its' := by simpa using congrArg Array.toList d1
  subst this
  exact r.inj r'
end

/-! ### another wish about exceptions -/
noncomputable abbrev Cx.wish (X : Cx) (E : Value → Shared → Prop) : Cx := { X with xe := E }
noncomputable abbrev Cx.nox (X : Cx) : Cx := X.wish fun _ _ => False
theorem Cx.Ok.wish {X : Cx} (ok : X.Ok) (E : Value → Shared → Prop) : (X.wish E).Ok :=
  ⟨ok.mod, ok.kind, ok.glob, ok.blt, ok.above, ok.inj, ok.has, ok.cab, ok.hd, ok.frames, ok.stk, ok.exf, ok.bs, ok.bsz, ok.noex, ok.exfs, ok.funs, ok.frf⟩
theorem Cx.Ok.unwish {X : Cx} {E : Value → Shared → Prop} (ok : (X.wish E).Ok) : X.Ok :=
  ⟨ok.mod, ok.kind, ok.glob, ok.blt, ok.above, ok.inj, ok.has, ok.cab, ok.hd, ok.frames, ok.stk, ok.exf, ok.bs, ok.bsz, ok.noex, ok.exfs, ok.funs, ok.frf⟩
section
variable {X : Cx} {pins : List (Addr × Obj)} {σ : St} {H : Hp} {s : Shared} {E : Value → Shared → Prop}
theorem Inv.wish (I : Inv X pins σ H s) (E : Value → Shared → Prop) : Inv (X.wish E) pins σ H s := ⟨I.ok.wish E, I.os, I.bare, I.base, I.loc, I.cell, I.free, I.freeC, I.pin, I.hok, I.len⟩
theorem Inv.unwish (I : Inv (X.wish E) pins σ H s) : Inv X pins σ H s := ⟨I.ok.unwish, I.os, I.bare, I.base, I.loc, I.cell, I.free, I.freeC, I.pin, I.hok, I.len⟩
theorem SP.unwish {D : Ends} {f : Flow} {s' : Shared} (h : SP (X.wish E) pins D f s') : SP X pins D f s' := by
  cases f with
  | next => obtain ⟨σ', H', I, q⟩ := h; exact ⟨σ', H', I.unwish, q⟩
  | brk => obtain ⟨σ', H', I, q⟩ := h; exact ⟨σ', H', I.unwish, q⟩
  | cont => obtain ⟨σ', H', I, q⟩ := h; exact ⟨σ', H', I.unwish, q⟩
  | ret u => obtain ⟨v, σ', H', I, r, q⟩ := h; exact ⟨v, σ', H', I.unwish, r, q⟩
theorem PSs.nox {st : List Stmt} {t : TS} (h : PSs X.nox st t) : PSs X st t := fun pins s σ H D I hw =>
  wpAny_mono (h pins s σ H D (I.wish _) hw) (fun _ _ q => q.unwish) fun _ _ z => False.elim z
end

/-! ### blocks and small statements -/
section
variable {X : Cx} {st : Stmt} {rest : List Stmt} {t u : TS} {e : Expr} {te : TE} {pos : Pos}
noncomputable def tNext : TS := fun D σ H => D.nx σ H
noncomputable def tSeq (t u : TS) : TS := fun D σ H => t { D with nx := u D } σ H
theorem pss_nil : PSs X [] tNext := fun _ _ σ H _ I h => wpAny_execs_nil ⟨σ, H, I, h⟩
theorem pss_cons (h1 : PS X st t) (h2 : PSs X rest u) : PSs X (st :: rest) (tSeq t u) := by
  intro pins s σ H D I h
  refine wpAny_execs_cons (thn (h1 pins s σ H { D with nx := u D } I h) fun f s1 q => ?_)
  cases f with
  | next =>
    obtain ⟨σ', H', I', q⟩ := q
    exact h2 pins s1 σ' H' D I' q
  | ret v => exact q
  | brk => exact q
  | cont => exact q
theorem pss_one (h1 : PS X st t) : PSs X [st] t := by
  intro pins s σ H D I h
  refine wpAny_execs_cons (thn (h1 pins s σ H D I h) fun f s1 q => ?_)
  cases f with
  | next => exact wpAny_execs_nil q
  | ret v => exact q
  | brk => exact q
  | cont => exact q
theorem Inv.quiet {pins : List (Addr × Obj)} {σ : St} {H : Hp} {s : Shared} (I : Inv X pins σ H s) : interactive X.env = false := by simp [interactive, I.ok.kind]
noncomputable def tDrop (te : TE) : TS := fun D σ H => te σ H fun _ H1 => D.nx σ H1
theorem ps_expr (he : PE X e te) (hs : swapsWith e none pos.line X.env = pure false := by rfl) : PS X (.Expr e pos) (tDrop te) := by
  intro pins s σ H D I h
  exact wpAny_Expr_any (thn (he pins s σ H _ I h) fun v s1 ⟨x, H1, I1, r1, q1⟩ => ⟨σ, H1, I1, q1⟩) I.quiet hs
noncomputable def tRet (te : TE) : TS := fun D σ H => te σ H D.rt
theorem ps_ret (he : PE X e te) : PS X (.Return (some e) pos) (tRet te) := by
  intro pins s σ H D I h
  exact wpAny_Return_some (thn (he pins s σ H _ I h) fun v s1 ⟨x, H1, I1, r1, q1⟩ => ⟨x, σ, H1, I1, r1, q1⟩)
noncomputable def tRetN : TS := fun D _ H => D.rt .non H
theorem ps_retN : PS X (.Return none pos) tRetN := fun _ _ σ H _ I h => wpAny_Return_none ⟨.non, σ, H, I, rfl, h⟩
noncomputable def tIfS (c : TT) (t u : TS) : TS := fun D σ H => c σ H fun b H1 => if b = true then t D σ H1 else u D σ H1
theorem ps_if {c : Expr} {a b : List Stmt} {tc : TT} (hc : PT X c tc) (ha : PSs X a t) (hb : PSs X b u) : PS X (.If c a b pos) (tIfS tc t u) := by
  intro pins s σ H D I h
  refine wpAny_If (thn (hc pins s σ H _ I h) fun d s1 ⟨H1, I1, q1⟩ => ?_)
  cases d with
  | true => exact ha pins s1 σ H1 D I1 q1
  | false => exact hb pins s1 σ H1 D I1 q1
noncomputable def tNever : TS := fun _ _ _ => False
theorem ps_never : PS X st tNever := fun _ _ _ _ _ _ h => h.elim
end

/-! ### targets -/
noncomputable abbrev TG := V → St → Hp → (St → Hp → Prop) → Prop
noncomputable abbrev TGs := List V → St → Hp → (St → Hp → Prop) → Prop
noncomputable def PG (X : Cx) (target : Expr) (t : TG) : Prop :=
  ∀ (pins : List (Addr × Obj)) (s : Shared) (σ : St) (H : Hp) (v : V) (u : Value) (Q : St → Hp → Prop), Inv X pins σ H s → RelV v u → t v σ H Q →
    wpAny (model X.prog X.w) X.A (assign target X.env u) (fun _ s' => ∃ σ' H', Inv X pins σ' H' s' ∧ Q σ' H') X.xe s
noncomputable def PGs (X : Cx) (ts : List Expr) (t : TGs) : Prop :=
  ∀ (pins : List (Addr × Obj)) (s : Shared) (σ : St) (H : Hp) (vs : List V) (us : List Value) (Q : St → Hp → Prop), Inv X pins σ H s → Vals vs us → t vs σ H Q →
    wpAny (model X.prog X.w) X.A (assignInOrder ((assignEach ts X.env).map (·.2)) us) (fun _ s' => ∃ σ' H', Inv X pins σ' H' s' ∧ Q σ' H') X.xe s
section
variable {X : Cx} {pos : Pos}
noncomputable def gName (i : Nat) : TG := fun v σ H Q => Q (σ.set i (some v)) H
theorem pg_name {i : Nat} {x : Str} (hN : X.N.Nodup) (hi : X.N[i]? = some x) (hx : Loc X.env.scope x) (hf : X.fn x = true ∨ X.env.scope.names.lookup x = some .local := by first | exact .inl rfl | exact .inr rfl | assumption) : PG X (.Name x pos) (gName i) := by
  intro pins s σ H v u Q I r h
  exact wpAny_assign_Name (store_ok I hN hi hx r (fun s' I' => ⟨_, H, I', h⟩) hf)
noncomputable def gNil : TGs := fun vs σ H Q => vs = [] ∧ Q σ H
noncomputable def gCons (t : TG) (u : TGs) : TGs := fun vs σ H Q => ∃ v r, vs = v :: r ∧ t v σ H fun σ' H' => u r σ' H' Q
theorem pgs_nil : PGs X [] gNil := by
  intro pins s σ H vs us Q I r h
  obtain ⟨e, h⟩ := h
  subst e
  cases r
  exact assignInOrder_nil ⟨σ, H, I, h⟩
theorem pgs_cons {e : Expr} {es : List Expr} {t : TG} {u : TGs} (h1 : PG X e t) (h2 : PGs X es u)
    (hs : (assignEach (e :: es) X.env).map (·.2) = assign e X.env :: (assignEach es X.env).map (·.2) := by rfl) : PGs X (e :: es) (gCons t u) := by
  intro pins s σ H vs us Q I r h
  obtain ⟨v, vr, e1, h⟩ := h
  subst e1
  cases r with
  | cons r rr =>
    rw [hs]
    refine assignInOrder_cons (thn (h1 pins s σ H _ _ _ I r h) fun _ s1 ⟨σ1, H1, I1, q1⟩ => ?_)
    exact h2 pins s1 σ1 H1 _ _ Q I1 rr q1
noncomputable def gTup (K : PySem.W.Frag) (n : Nat) (t : TGs) : TG := fun v σ H Q => ∃ a xs, v = .ref a ∧ SqT K H a xs ∧ xs.length = n ∧ t xs σ H Q
theorem pg_tup {es : List Expr} {k : Nat} {t : TGs} {n : Nat} (hc : X.calm = true) (h : PGs X es t)
    (hn : (assignEach es X.env).length = n := by rfl) (hst : (assignEach es X.env).findIdx? (·.1) = none := by rfl) : PG X (.Tuple es k pos) (gTup X.K n t) := by
  intro pins s σ H v u Q I r hw
  obtain ⟨a, xs, e1, hq, hl, hw⟩ := hw
  subst e1
  cases r
  obtain ⟨its, rv, ht, hz⟩ := I.tuple hq
  refine assign_Tuple_tuple (I.ok.hd hc) ht (by simp [hn, ← hl, rv.length]) hst fun h' hx => ?_
  have I1 : Inv X pins σ H { s with heap := h' } := I.kept (t' := s.toks) fun b o e => hx b o (Nat.ne_of_lt (Heap.lt_size e)) e
  exact h pins _ σ H xs _ Q I1 (by simpa using rv) hw
noncomputable def tAsg (te : TE) (g : TG) : TS := fun D σ H => te σ H fun x H1 => g x σ H1 D.nx
theorem ps_set {i : Nat} {x : Str} {e : Expr} {te : TE} {pos' : Pos} (hN : X.N.Nodup) (hi : X.N[i]? = some x) (hx : Loc X.env.scope x) (he : PE X e te) (hs : swapsWith e (some (.Name x pos')) pos.line X.env = pure false := by rfl) (hf : X.fn x = true ∨ X.env.scope.names.lookup x = some .local := by first | exact .inl rfl | exact .inr rfl | assumption) :
    PS X (.Assign [.Name x pos'] e pos) (tAsg te (gName i)) := by
  intro pins s σ H D I h
  refine wpAny_Assign_Name (thn (he pins s σ H _ I h) fun v s1 ⟨y, H1, I1, r1, q1⟩ => ?_) hs
  exact store_ok I1 hN hi hx r1 (fun s2 I2 => ⟨_, H1, I2, q1⟩) hf
end

/-! ### while -/
section
variable {X : Cx} {pos : Pos}
end

/-! ### what a loop or a comprehension walks -/
set_option genInjectivity false in
structure It where
  go : Nat → Hp → Prop
  yld : Nat → Hp → V → Hp → Prop
  stop : Nat → Hp → Prop
noncomputable def FpOk (X : Cx) (pins : List (Addr × Obj)) (H : Hp) (b : Addr) : Prop :=
  H b = none ∧ b ≠ X.env.locals ∧ b ∉ X.fs ∧ (b ∈ X.ex ∨ X.s₀.heap.objs.size ≤ b) ∧ (∀ x c, X.env.cells.lookup x = some c → c ≠ b) ∧ ∀ p ∈ X.pn ++ pins, p.1 ≠ b
theorem Inv.fpOk {X : Cx} {pins : List (Addr × Obj)} {σ : St} {H H' : Hp} {s : Shared} {b : Addr} (I : Inv X pins σ H s) (hb : s.heap.objs.size ≤ b) (hn : H' b = none) : FpOk X pins H' b := by
  refine ⟨hn, Nat.ne_of_gt (Nat.lt_of_lt_of_le I.lt hb), I.nofs hb, .inr (Nat.le_trans I.sz hb), fun x c e z => ?_, fun p hp z => ?_⟩
  · obtain ⟨v, q⟩ := I.cell x c e
    exact absurd (Nat.lt_of_lt_of_le q.lt (by rw [z]; exact hb)) (Nat.lt_irrefl _)
  · exact absurd (Nat.lt_of_lt_of_le (Heap.lt_size (I.pin p hp).1) (by rw [z]; exact hb)) (Nat.lt_irrefl _)
set_option genInjectivity false in
structure Turn (P : Program) (w : World) (K : PySem.W.Frag) (tg : Expr) (J : It) (fp : List Addr) (it : Addr) (tn : Nat → Heap → Prop) : Prop where
  mem : it ∈ fp
  obj : ∀ i h, tn i h → ∀ b ∈ fp, ∃ o, h.get? b = some o ∧ ∀ v, o.data ≠ .cell v
  keep : ∀ i h h', tn i h → (∀ b ∈ fp, ∀ o, h.get? b = some o → h'.get? b = some o) → tn i h'
  item : ∀ (X : Cx), X.prog = P → X.w = w → X.K = K → X.calm = true → ∀ (i : Nat) (pins : List (Addr × Obj)) (s : Shared) (σ : St) (H : Hp) (E : Value → Shared → Prop), Inv X pins σ H s → (∀ b ∈ fp, FpOk X pins H b) → tn i s.heap → J.go i H →
    wpAny (model P w) X.A (pyNext (.ref it)) (fun r s1 => ∃ u, r = some u ∧
      wpAny (model P w) X.A (letOwnedTupleGo tg (.ref it) u) (fun _ s2 => ∃ x H', Inv X pins σ H' s2 ∧ RelV x u ∧ J.yld i H x H' ∧ tn (i + 1) s2.heap ∧ ∀ b ∈ fp, H' b = none) E s1) E s
  done : ∀ (X : Cx), X.prog = P → X.w = w → X.K = K → X.calm = true → ∀ (i : Nat) (pins : List (Addr × Obj)) (s : Shared) (σ : St) (H : Hp) (E : Value → Shared → Prop), Inv X pins σ H s → (∀ b ∈ fp, FpOk X pins H b) → tn i s.heap → J.stop i H →
    wpAny (model P w) X.A (pyNext (.ref it)) (fun r s1 => r = none ∧ Inv X pins σ H s1) E s
  self : ∀ (A : Around) (i : Nat) (s : Shared) (Q : Value → Shared → Prop) (E : Value → Shared → Prop), tn i s.heap → Q (.ref it) s → wpAny (model P w) A (pyIter (.ref it)) Q E s
noncomputable abbrev TI := St → Hp → (It → Hp → Prop) → Prop
noncomputable def PIE (X : Cx) (pins : List (Addr × Obj)) (σ : St) (tg : Expr) (R : It → Hp → Prop) (itv : Value) (s2 : Shared) : Prop :=
  ∃ (it : Addr) (fp : List Addr) (tn : Nat → Heap → Prop) (J : It) (H' : Hp), itv = .ref it ∧ Inv X pins σ H' s2 ∧ Turn X.prog X.w X.K tg J fp it tn ∧ tn 0 s2.heap ∧ (∀ b ∈ fp, FpOk X pins H' b) ∧ R J H'
noncomputable def PI (X : Cx) (tg iter : Expr) (wi : TI) : Prop :=
  ∀ (pins : List (Addr × Obj)) (s : Shared) (σ : St) (H : Hp) (R : It → Hp → Prop), Inv X pins σ H s → wi σ H R →
    wpAny (model X.prog X.w) X.A (eval iter X.env) (fun v s1 => wpAny (model X.prog X.w) X.A (pyIter v) (PIE X pins σ tg R) X.xe s1) X.xe s

theorem go_of {M : Model} {A : Around} {E : Value → Shared → Prop} {s : Shared} {tg : Expr} {it : Addr} {u : Value} {o : Obj} {n : String} {vs : Array Value} {Q : Unit → Shared → Prop} (ho : s.heap.get? it = some o) (hc : o.cls = .type n) (hd : o.data = .fields vs)
    (hn : ["enumerate", "zip", "dict_itemiterator", "dict_reverseitemiterator", "odict_iterator", "itertools.zip_longest", "itertools.pairwise"].contains n = false) (hQ : Q () s) : wpAny M A (letOwnedTupleGo tg (.ref it) u) Q E s := by
  unfold letOwnedTupleGo
  cases tg <;> first
    | exact wpAny_pure hQ
    | (cases u <;> first
        | exact wpAny_pure hQ
        | (refine wpAny_bind (wpAny_load ho ?_)
           rw [hc, hd]
           show wpAny M A (if (["enumerate", "zip", "dict_itemiterator", "dict_reverseitemiterator", "odict_iterator", "itertools.zip_longest", "itertools.pairwise"].contains n && vs[0]? == some (rawInt _)) = true then _ else _) Q E s
           rw [if_neg (by intro h; rw [hn, Bool.false_and] at h; cases h)]
           exact wpAny_pure hQ))

noncomputable def Itl (K : PySem.W.Frag) (a : Addr) : It :=
  ⟨fun i H => ∃ xs x, SqL K H a xs ∧ xs[i]? = some x, fun i H x H' => H' = H ∧ ∀ xs, SqL K H a xs → xs[i]? = some x, fun i H => ∃ xs, SqL K H a xs ∧ xs.length ≤ i⟩
noncomputable def Itt (K : PySem.W.Frag) (a : Addr) : It :=
  ⟨fun i H => ∃ xs x, SqT K H a xs ∧ xs[i]? = some x, fun i H x H' => H' = H ∧ ∀ xs, SqT K H a xs → xs[i]? = some x, fun i H => ∃ xs, SqT K H a xs ∧ xs.length ≤ i⟩
noncomputable def Itr (lo : Int) (n : Nat) : It := ⟨fun i _ => i < n, fun i H x H' => H' = H ∧ x = .int (lo + i), fun i _ => n ≤ i⟩
theorem turn_list {P : Program} {w : World} {K : PySem.W.Frag} {tg : Expr} (a it : Addr) : Turn P w K tg (Itl K a) [it] it (fun i h => h.IsListIter it a i) where
  mem := by simp
  obj := fun i h st b hb => by
    have e : b = it := by simpa using hb
    subst e
    obtain ⟨o, e, c, d⟩ := st
    exact ⟨o, e, fun v z => by rw [d] at z; cases z⟩
  keep := fun i h h' st k => st.at fun o e => k it (by simp) o e
  item := by
    intro X hP hw hK hc i pins s σ H E I hf st hg
    subst hP hw hK
    obtain ⟨xs, x, hq, hx⟩ := hg
    obtain ⟨its, rv, p, hz⟩ := I.list hq
    obtain ⟨u, hu, ru⟩ := rv.get hx
    obtain ⟨f0, f1, f2, f3, f4, f5⟩ := hf it (by simp)
    refine wpAny_pyNext_list_item st p.isList (x := u) (by simpa using hu) fun h' st' sb => ?_
    have I1 : Inv X pins σ H { s with heap := h' } := I.turned (t' := s.toks) (fun b o hb e => (sb.2 b hb).trans e) f0 f1 f3 f4 f5
    obtain ⟨o, e, c, d⟩ := id st'
    exact ⟨u, rfl, go_of (s := { s with heap := h' }) e c d (by decide) ⟨x, H, I1, ru, ⟨rfl, fun ys hy => by rw [I.list_inj hy hq]; exact hx⟩, st', fun b hb => (hf b hb).1⟩⟩
  done := by
    intro X hP hw hK hc i pins s σ H E I hf st hg
    subst hP hw hK
    obtain ⟨xs, hq, hx⟩ := hg
    obtain ⟨its, rv, p, hz⟩ := I.list hq
    obtain ⟨f0, f1, f2, f3, f4, f5⟩ := hf it (by simp)
    have hl := rv.length
    exact wpAny_pyNext_list_end (I.ok.hd hc) st p.isList (by simp; omega) fun h' eb => ⟨rfl, I.turned (t' := s.toks) (fun b o hb e => eb b o hb e) f0 f1 f3 f4 f5⟩
  self := fun _ _ _ _ _ st h => wpAny_pyIter_listiter st h
theorem turn_tuple {P : Program} {w : World} {K : PySem.W.Frag} {tg : Expr} (a it : Addr) : Turn P w K tg (Itt K a) [it] it (fun i h => h.IsTupleIter it a i) where
  mem := by simp
  obj := fun i h st b hb => by
    have e : b = it := by simpa using hb
    subst e
    obtain ⟨o, e, c, d⟩ := st
    exact ⟨o, e, fun v z => by rw [d] at z; cases z⟩
  keep := fun i h h' st k => st.at fun o e => k it (by simp) o e
  item := by
    intro X hP hw hK hc i pins s σ H E I hf st hg
    subst hP hw hK
    obtain ⟨xs, x, hq, hx⟩ := hg
    obtain ⟨its, rv, p, hz⟩ := I.tuple hq
    obtain ⟨u, hu, ru⟩ := rv.get hx
    obtain ⟨f0, f1, f2, f3, f4, f5⟩ := hf it (by simp)
    refine wpAny_pyNext_tuple_item st (show s.heap.IsTuple a its.toArray from p) (x := u) (by simpa using hu) fun h' st' sb => ?_
    have I1 : Inv X pins σ H { s with heap := h' } := I.turned (t' := s.toks) (fun b o hb e => (sb.2 b hb).trans e) f0 f1 f3 f4 f5
    obtain ⟨o, e, c, d⟩ := id st'
    exact ⟨u, rfl, go_of (s := { s with heap := h' }) e c d (by decide) ⟨x, H, I1, ru, ⟨rfl, fun ys hy => by rw [I.tuple_inj hy hq]; exact hx⟩, st', fun b hb => (hf b hb).1⟩⟩
  done := by
    intro X hP hw hK hc i pins s σ H E I hf st hg
    subst hP hw hK
    obtain ⟨xs, hq, hx⟩ := hg
    obtain ⟨its, rv, p, hz⟩ := I.tuple hq
    obtain ⟨f0, f1, f2, f3, f4, f5⟩ := hf it (by simp)
    have hl := rv.length
    exact wpAny_pyNext_tuple_end (I.ok.hd hc) st (show s.heap.IsTuple a its.toArray from p) (by simp; omega) fun h' eb => ⟨rfl, I.turned (t' := s.toks) (fun b o hb e => eb b o hb e) f0 f1 f3 f4 f5⟩
  self := fun _ _ _ _ _ st h => wpAny_pyIter_tupleiter st h
theorem turn_range {P : Program} {w : World} {K : PySem.W.Frag} {tg : Expr} (it : Addr) (lo : Int) (n : Nat) : Turn P w K tg (Itr lo n) [it] it (fun i h => IsRangeIter h it (lo + (i : Nat) * 1) ((n : Int) - (i : Nat)) 1) where
  mem := by simp
  obj := fun i h st b hb => by
    have e : b = it := by simpa using hb
    subst e
    exact ⟨_, st, fun v z => by
      have z' : Data.fields _ = Data.cell v := z
      cases z'⟩
  keep := fun i h h' st k => k it (by simp) _ st
  item := by
    intro X hP hw hK hc i pins s σ H E I hf st hg
    subst hP hw hK
    obtain ⟨f0, f1, f2, f3, f4, f5⟩ := hf it (by simp)
    have W := Walks.range (prog := X.prog) (w := X.w) (I.ok.hd hc) it lo 1 n
    refine W.item i s _ _ hg st fun v h' tk hv st' kk => ?_
    obtain ⟨t, rfl⟩ := hv
    have I1 : Inv X pins σ H { s with heap := h', toks := tk } := I.turned (fun b o hb e => kk b o (by simpa using hb) e) f0 f1 f3 f4 f5
    refine ⟨_, rfl, go_of (s := { s with heap := h', toks := tk }) (n := "range_iterator") st' rfl rfl (by decide) ⟨.int (lo + i), H, I1, ⟨t, ?_⟩, ⟨rfl, rfl⟩, st', fun b hb => (hf b hb).1⟩⟩
    rw [Int.mul_one]
  done := by
    intro X hP hw hK hc i pins s σ H E I hf st hg
    subst hP hw hK
    obtain ⟨f0, f1, f2, f3, f4, f5⟩ := hf it (by simp)
    exact wpAny_pyNext_range_end (I.ok.hd hc) st (by have : n ≤ i := hg; omega) fun h' eb => ⟨rfl, I.turned (t' := s.toks) (fun b o hb e => eb b o hb e) f0 f1 f3 f4 f5⟩
  self := fun _ _ _ _ _ st h => wpAny_pyIter_rangeiter st h
end L2

namespace L2
open PySem PySem.Spec PyProof.Rows
section
variable {X : Cx} {tg : Expr}
noncomputable def iList (K : PySem.W.Frag) (tl : TE) : TI := fun σ H R => tl σ H fun x H1 => ∃ a, x = .ref a ∧ (∃ xs, SqL K H1 a xs) ∧ R (Itl K a) H1
noncomputable def iTup (K : PySem.W.Frag) (tl : TE) : TI := fun σ H R => tl σ H fun x H1 => ∃ a, x = .ref a ∧ (∃ xs, SqT K H1 a xs) ∧ R (Itt K a) H1
theorem pi_list {l : Expr} {tl : TE} (hl : PE X l tl) : PI X tg l (iList X.K tl) := by
  intro pins s σ H R I h
  refine thn (hl pins s σ H _ I h) fun v s1 ⟨x, H1, I1, r1, q1⟩ => ?_
  obtain ⟨a, e, ⟨xs, hq⟩, q⟩ := q1
  subst e
  cases r1
  obtain ⟨its, rv, p, hz⟩ := I1.list hq
  refine wpAny_pyIter_list p.isList ?_
  refine ⟨s1.heap.objs.size, [s1.heap.objs.size], _, _, H1, rfl, I1.kept (t' := s1.toks) fun b o e => Heap.get?_push_of_some _ e, turn_list a _, ⟨_, Heap.get?_push_size _ rfl, rfl, rfl⟩, fun b hb => ?_, q⟩
  have e : b = s1.heap.objs.size := by simpa using hb
  subst e
  exact I1.fpOk (Nat.le_refl _) (I1.hok.fresh (Nat.le_refl _))
theorem pi_tup {l : Expr} {tl : TE} (hl : PE X l tl) : PI X tg l (iTup X.K tl) := by
  intro pins s σ H R I h
  refine thn (hl pins s σ H _ I h) fun v s1 ⟨x, H1, I1, r1, q1⟩ => ?_
  obtain ⟨a, e, ⟨xs, hq⟩, q⟩ := q1
  subst e
  cases r1
  obtain ⟨its, rv, p, hz⟩ := I1.tuple hq
  refine wpAny_pyIter_tuple (show s1.heap.IsTuple a its.toArray from p) ?_
  refine ⟨s1.heap.objs.size, [s1.heap.objs.size], _, _, H1, rfl, I1.kept (t' := s1.toks) fun b o e => Heap.get?_push_of_some _ e, turn_tuple a _, ⟨_, Heap.get?_push_size _ rfl, rfl, rfl⟩, fun b hb => ?_, q⟩
  have e : b = s1.heap.objs.size := by simpa using hb
  subst e
  exact I1.fpOk (Nat.le_refl _) (I1.hok.fresh (Nat.le_refl _))
theorem range_it {pins : List (Addr × Obj)} {σ : St} {H : Hp} {s : Shared} {R : It → Hp → Prop} {E : Value → Shared → Prop} {lo hi : Int} {t u v : Tok} {tk : Nat} (I : Inv X pins σ H s) (h1 : -(2 ^ 62) ≤ lo) (h2 : lo < 2 ^ 62) (h3 : -(2 ^ 62) ≤ hi) (h4 : hi < 2 ^ 62)
    (q : R (Itr lo (hi - lo).toNat) H) : wpAny (model X.prog X.w) X.A (pyIter (.ref s.heap.objs.size)) (PIE X pins σ tg R) E { s with heap := s.heap.push { cls := .type "range", data := .fields #[.int lo t, .int hi u, .int 1 v] }, toks := tk } := by
  refine wpAny_pyIter_range (IsRange.new ..) (small_one h1 h2 h3 h4) ?_
  have I1 : Inv X pins σ H { s with heap := s.heap.push { cls := .type "range", data := .fields #[.int lo t, .int hi u, .int 1 v] }, toks := tk } := I.kept fun b o e => Heap.get?_push_of_some _ e
  refine ⟨(s.heap.push { cls := .type "range", data := .fields #[.int lo t, .int hi u, .int 1 v] }).objs.size, [(s.heap.push { cls := .type "range", data := .fields #[.int lo t, .int hi u, .int 1 v] }).objs.size], _, _, H, rfl,
    I1.kept (t' := tk) fun b o e => Heap.get?_push_of_some _ e, turn_range _ lo (hi - lo).toNat, ?_, fun b hb => ?_, q⟩
  · have e1 : lo + ((0 : Nat) : Int) * 1 = lo := by simp
    have e2 : (((hi - lo).toNat : Nat) : Int) - ((0 : Nat) : Int) = Builtin.Range.rangeSize lo hi 1 := by rw [rangeSize_one]; split <;> omega
    show IsRangeIter _ _ (lo + ((0 : Nat) : Int) * 1) ((((hi - lo).toNat : Nat) : Int) - ((0 : Nat) : Int)) 1
    rw [e1, e2]
    exact Heap.get?_push_size _ rfl
  · have e : b = (s.heap.push { cls := .type "range", data := .fields #[.int lo t, .int hi u, .int 1 v] }).objs.size := by simpa using hb
    subst e
    exact I1.fpOk (Nat.le_refl _) (I1.hok.fresh (Nat.le_refl _))
noncomputable def iRng1 (ta : TA) : TI := fun σ H R => ta σ H fun vs H1 => ∃ j : Int, vs = [.int j] ∧ -(2 ^ 62) ≤ j ∧ j < 2 ^ 62 ∧ R (Itr 0 j.toNat) H1
noncomputable def iRng2 (ta : TA) : TI := fun σ H R => ta σ H fun vs H1 => ∃ i j : Int, vs = [.int i, .int j] ∧ (-(2 ^ 62) ≤ i ∧ i < 2 ^ 62 ∧ -(2 ^ 62) ≤ j ∧ j < 2 ^ 62) ∧ R (Itr i (j - i).toNat) H1
theorem pi_range1 {a : Expr} {ta : TA} {p pos : Pos} (hg : Gl X "range") (hm : X.mg "range" = none) (ha : PA X [a] ta) (hs : starEach [a] X.env = [(false, eval a X.env)] := by rfl) : PI X tg (.Call (.Name "range" p) [a] [] pos) (iRng1 ta) := by
  intro pins s σ H R I h
  refine Call_ (ld_blt I hg hm boot_range (PyProof.Rows.callWith_type1 (thn (ha pos pins s σ H _ I h) fun us s1 ⟨vs, H1, I1, r1, q1⟩ => ?_) hs rfl))
  obtain ⟨j, e, q1, q2, q⟩ := q1
  subst e
  cases r1 with
  | cons r rr =>
    cases rr
    obtain ⟨t, rfl⟩ := r
    exact call_range_1 (range_it I1 (by omega) (by omega) q1 q2 (by simpa using q))

/-! ### for -/
noncomputable def tFor (wi : TI) (g : TG) (tb : TS) : TS := fun D σ H => wi σ H fun J H1 => ∃ W : Nat → Nat → St → Hp → Prop, (∃ m, W 0 m σ H1) ∧ ∀ i m σ H, W i m σ H →
  (J.stop i H ∧ D.nx σ H) ∨ (J.go i H ∧ ∃ N : St → Hp → Prop, (∀ σ' H', N σ' H' → ∃ m', m' < m ∧ W (i + 1) m' σ' H') ∧ ∀ x H', J.yld i H x H' → g x σ H' fun σ2 H2 => tb { D with nx := N, ct := N, bk := D.nx } σ2 H2)
noncomputable def pinsAt (fp : List Addr) (h : Heap) : List (Addr × Obj) := fp.filterMap fun b => (h.get? b).map fun o => (b, o)
theorem mem_pinsAt {fp : List Addr} {h : Heap} {b : Addr} {o : Obj} (hb : b ∈ fp) (e : h.get? b = some o) : (b, o) ∈ pinsAt fp h := List.mem_filterMap.mpr ⟨b, hb, by rw [e]; rfl⟩
theorem of_pinsAt {fp : List Addr} {h : Heap} {p : Addr × Obj} (hp : p ∈ pinsAt fp h) : p.1 ∈ fp ∧ h.get? p.1 = some p.2 := by
  obtain ⟨b, hb, e⟩ := List.mem_filterMap.mp hp
  cases q : h.get? b with
  | none => rw [q] at e; cases e
  | some o =>
    rw [q] at e
    have e' : (b, o) = p := Option.some.inj e
    subst e'
    exact ⟨hb, q⟩
theorem Inv.pinned {pins : List (Addr × Obj)} {σ : St} {H : Hp} {s : Shared} {fp : List Addr} (I : Inv X pins σ H s) (hf : ∀ b ∈ fp, FpOk X pins H b) (ho : ∀ b ∈ fp, ∃ o, s.heap.get? b = some o ∧ ∀ v, o.data ≠ .cell v) : Inv X (pins ++ pinsAt fp s.heap) σ H s :=
  I.pins_of fun p hp => (List.mem_append.mp hp).elim (fun z => I.pin p (List.mem_append_right _ z)) fun z => by
    obtain ⟨hb, e⟩ := of_pinsAt z
    obtain ⟨f0, f1, f2, _⟩ := hf p.1 hb
    obtain ⟨o, e', d⟩ := ho p.1 hb
    rw [e] at e'; cases e'
    exact ⟨e, f0, f1, f2, d⟩
theorem Inv.unpinned {pins pl : List (Addr × Obj)} {σ : St} {H : Hp} {s : Shared} (I : Inv X (pins ++ pl) σ H s) : Inv X pins σ H s := I.pins_of fun p hp => I.pin p (List.mem_append_right _ (List.mem_append_left _ hp))
theorem ps_for {iter : Expr} {body : List Stmt} {wi : TI} {g : TG} {tb : TS} {pos : Pos} (hp : PassesOwn (model X.prog X.w) X.A X.env X.xe) (hc : X.calm = true) (hi : PI X tg iter wi) (hg : PG X tg g) (hb : PSs X body tb)
    (hs : ∀ x, foldedSetIterable iter X.env x = pure x := by intro _; rfl) : PS X (.For tg iter body [] pos) (tFor wi g tb) := by
  intro pins s σ H D I h
  refine wpAny_For (thn (hi pins s σ H _ I h) fun v s1 h1 => thn h1 fun itv s2 h2 => ?_) hs
  obtain ⟨it, fp, tn, J, H2, e, I2, T, st2, f2, W, ⟨m0, w0⟩, turn⟩ := h2
  subst e
  -- what stays true of the iterator's objects through the loop
  have stat : ∀ {H' : Hp}, (∀ b ∈ fp, H' b = none) → ∀ b ∈ fp, FpOk X pins H' b := fun hn b hb => ⟨hn b hb, (f2 b hb).2⟩
  refine codeAny_forLoop_any (fun n s' => ∃ i σ' H', Inv X pins σ' H' s' ∧ tn i s'.heap ∧ (∀ b ∈ fp, H' b = none) ∧ W i n σ' H') ?_ m0 ⟨0, σ, H2, I2, st2, fun b hb => (f2 b hb).1, w0⟩
  rintro n s3 ⟨i, σ3, H3, I3, st3, fr3, w3⟩
  rcases turn i n σ3 H3 w3 with ⟨stop, qn⟩ | ⟨go, N, hN, step⟩
  · refine wpAny_passesOwn hp (thn (T.done X rfl rfl rfl hc i pins s3 σ3 H3 X.xe I3 (stat fr3) st3 stop) fun r s4 ⟨hr, I4⟩ => ?_)
    subst hr
    exact wpAny_execs_nil ⟨σ3, H3, I4, qn⟩
  · refine wpAny_passesOwn hp (thn (T.item X rfl rfl rfl hc i pins s3 σ3 H3 X.xe I3 (stat fr3) st3 go) fun r s4 ⟨u, hr, h4⟩ => ?_)
    subst hr
    refine wpAny_passesOwn hp (thn h4 fun _ s5 ⟨x, H5, I5, r5, y5, st5, fr5⟩ => ?_)
    have I5' := I5.pinned (stat fr5) (T.obj _ _ st5)
    refine wpAny_passesOwn hp (thn (hg _ s5 σ3 H5 x u _ I5' r5 (step x H5 y5)) fun _ s6 ⟨σ6, H6, I6, q6⟩ => ?_)
    refine wpAny_passesOwn hp (thn (hb _ s6 σ6 H6 _ I6 q6) fun f s7 q7 => ?_)
    have again : ∀ {σ7 : St} {H7 : Hp}, Inv X (pins ++ pinsAt fp s5.heap) σ7 H7 s7 → N σ7 H7 → ∃ m, m < n ∧ ∃ i σ' H', Inv X pins σ' H' s7 ∧ tn i s7.heap ∧ (∀ b ∈ fp, H' b = none) ∧ W i m σ' H' := fun {σ7 H7} I7 n7 => by
      obtain ⟨m', hm, w7⟩ := hN σ7 H7 n7
      refine ⟨m', hm, i + 1, σ7, H7, I7.unpinned, T.keep _ _ _ st5 fun b hb o e => (I7.pin (b, o) (List.mem_append_right _ (List.mem_append_right _ (mem_pinsAt hb e)))).1, fun b hb => ?_, w7⟩
      obtain ⟨o, e, d⟩ := T.obj _ _ st5 b hb
      exact (I7.pin (b, o) (List.mem_append_right _ (List.mem_append_right _ (mem_pinsAt hb e)))).2.1
    cases f with
    | next => obtain ⟨σ7, H7, I7, n7⟩ := q7; exact again I7 n7
    | cont => obtain ⟨σ7, H7, I7, n7⟩ := q7; exact again I7 n7
    | brk => obtain ⟨σ7, H7, I7, q7⟩ := q7; exact ⟨σ7, H7, I7.unpinned, q7⟩
    | ret v => obtain ⟨x7, σ7, H7, I7, r7, q7⟩ := q7; exact ⟨x7, σ7, H7, I7.unpinned, r7, q7⟩
end

/-! ### the forms one uses -/
theorem for_list {K : PySem.W.Frag} {a : Addr} {xs : List V} {g : TG} {tb : TS} {D : Ends} {σ : St} {H : Hp} (Pv : Nat → St → Hp → Prop) (h0 : Pv 0 σ H) (hl : ∀ i σ H, i ≤ xs.length → Pv i σ H → SqL K H a xs)
    (hs : ∀ i x σ H, xs[i]? = some x → Pv i σ H → g x σ H fun σ2 H2 => tb { D with nx := Pv (i + 1), ct := Pv (i + 1), bk := D.nx } σ2 H2) (hd : ∀ σ H, Pv xs.length σ H → D.nx σ H) :
    ∃ W : Nat → Nat → St → Hp → Prop, (∃ m, W 0 m σ H) ∧ ∀ i m σ H, W i m σ H →
      ((Itl K a).stop i H ∧ D.nx σ H) ∨ ((Itl K a).go i H ∧ ∃ N : St → Hp → Prop, (∀ σ' H', N σ' H' → ∃ m', m' < m ∧ W (i + 1) m' σ' H') ∧ ∀ x H', (Itl K a).yld i H x H' → g x σ H' fun σ2 H2 => tb { D with nx := N, ct := N, bk := D.nx } σ2 H2) := by
  refine ⟨fun i m σ H => m = xs.length - i ∧ i ≤ xs.length ∧ Pv i σ H, ⟨xs.length, by simp, Nat.zero_le _, h0⟩, ?_⟩
  rintro i m σ H ⟨rfl, hi, p⟩
  have q := hl i σ H hi p
  by_cases hlt : i < xs.length
  · refine .inr ⟨⟨xs, xs[i], q, by simp [hlt]⟩, Pv (i + 1), fun σ' H' p' => ⟨xs.length - (i + 1), by omega, rfl, hlt, p'⟩, fun x H' y => ?_⟩
    obtain ⟨e, y⟩ := y
    subst e
    exact hs i x σ _ (y xs q) p
  · have e : i = xs.length := by omega
    subst e
    exact .inl ⟨⟨xs, q, Nat.le_refl _⟩, hd σ H p⟩
theorem for_tup {K : PySem.W.Frag} {a : Addr} {xs : List V} {g : TG} {tb : TS} {D : Ends} {σ : St} {H : Hp} (Pv : Nat → St → Hp → Prop) (h0 : Pv 0 σ H) (hl : ∀ i σ H, i ≤ xs.length → Pv i σ H → SqT K H a xs)
    (hs : ∀ i x σ H, xs[i]? = some x → Pv i σ H → g x σ H fun σ2 H2 => tb { D with nx := Pv (i + 1), ct := Pv (i + 1), bk := D.nx } σ2 H2) (hd : ∀ σ H, Pv xs.length σ H → D.nx σ H) :
    ∃ W : Nat → Nat → St → Hp → Prop, (∃ m, W 0 m σ H) ∧ ∀ i m σ H, W i m σ H →
      ((Itt K a).stop i H ∧ D.nx σ H) ∨ ((Itt K a).go i H ∧ ∃ N : St → Hp → Prop, (∀ σ' H', N σ' H' → ∃ m', m' < m ∧ W (i + 1) m' σ' H') ∧ ∀ x H', (Itt K a).yld i H x H' → g x σ H' fun σ2 H2 => tb { D with nx := N, ct := N, bk := D.nx } σ2 H2) := by
  refine ⟨fun i m σ H => m = xs.length - i ∧ i ≤ xs.length ∧ Pv i σ H, ⟨xs.length, by simp, Nat.zero_le _, h0⟩, ?_⟩
  rintro i m σ H ⟨rfl, hi, p⟩
  have q := hl i σ H hi p
  by_cases hlt : i < xs.length
  · refine .inr ⟨⟨xs, xs[i], q, by simp [hlt]⟩, Pv (i + 1), fun σ' H' p' => ⟨xs.length - (i + 1), by omega, rfl, hlt, p'⟩, fun x H' y => ?_⟩
    obtain ⟨e, y⟩ := y
    subst e
    exact hs i x σ _ (y xs q) p
  · have e : i = xs.length := by omega
    subst e
    exact .inl ⟨⟨xs, q, Nat.le_refl _⟩, hd σ H p⟩
theorem for_range {lo : Int} {n : Nat} {g : TG} {tb : TS} {D : Ends} {σ : St} {H : Hp} (Pv : Nat → St → Hp → Prop) (h0 : Pv 0 σ H)
    (hs : ∀ i σ H, i < n → Pv i σ H → g (.int (lo + i)) σ H fun σ2 H2 => tb { D with nx := Pv (i + 1), ct := Pv (i + 1), bk := D.nx } σ2 H2) (hd : ∀ σ H, Pv n σ H → D.nx σ H) :
    ∃ W : Nat → Nat → St → Hp → Prop, (∃ m, W 0 m σ H) ∧ ∀ i m σ H, W i m σ H →
      ((Itr lo n).stop i H ∧ D.nx σ H) ∨ ((Itr lo n).go i H ∧ ∃ N : St → Hp → Prop, (∀ σ' H', N σ' H' → ∃ m', m' < m ∧ W (i + 1) m' σ' H') ∧ ∀ x H', (Itr lo n).yld i H x H' → g x σ H' fun σ2 H2 => tb { D with nx := N, ct := N, bk := D.nx } σ2 H2) := by
  refine ⟨fun i m σ H => m = n - i ∧ i ≤ n ∧ Pv i σ H, ⟨n, by simp, Nat.zero_le _, h0⟩, ?_⟩
  rintro i m σ H ⟨rfl, hi, p⟩
  by_cases hlt : i < n
  · refine .inr ⟨hlt, Pv (i + 1), fun σ' H' p' => ⟨n - (i + 1), by omega, rfl, hlt, p'⟩, fun x H' y => ?_⟩
    obtain ⟨e, y⟩ := y
    subst e y
    exact hs i σ _ hlt p
  · have e : i = n := by omega
    subst e
    exact .inl ⟨Nat.le_refl _, hd σ H p⟩
end L2

namespace L2
open PySem PySem.Spec PyProof.Rows

noncomputable abbrev R2 := V → V → Hp → VK → Prop
noncomputable def OpR (X : Cx) (f : Value → Value → Sem Value) (r : R2) : Prop :=
  ∀ (pins : List (Addr × Obj)) (s : Shared) (σ : St) (H : Hp) (x y : V) (v u : Value) (Q : VK), Inv X pins σ H s → RelV x v → RelV y u → r x y H Q →
    wpAny (model X.prog X.w) X.A (f v u) (EP X pins σ Q) X.xe s
noncomputable def UnR (X : Cx) (f : Value → Sem Value) (r : V → Hp → VK → Prop) : Prop :=
  ∀ (pins : List (Addr × Obj)) (s : Shared) (σ : St) (H : Hp) (x : V) (v : Value) (Q : VK), Inv X pins σ H s → RelV x v → r x H Q →
    wpAny (model X.prog X.w) X.A (f v) (EP X pins σ Q) X.xe s
noncomputable def CallR (X : Cx) (f : Value) (r : List V → Hp → VK → Prop) : Prop :=
  ∀ (pins : List (Addr × Obj)) (s : Shared) (σ : St) (H : Hp) (xs : List V) (us : List Value) (Q : VK), Inv X pins σ H s → Vals xs us → r xs H Q →
    wpAny (model X.prog X.w) X.A (call f us) (EP X pins σ Q) X.xe s
noncomputable def TruR (X : Cx) (r : V → Hp → (Bool → Hp → Prop) → Prop) : Prop :=
  ∀ (pins : List (Addr × Obj)) (s : Shared) (σ : St) (H : Hp) (x : V) (v : Value) (Q : Bool → Hp → Prop), Inv X pins σ H s → RelV x v → r x H Q →
    wpAny (model X.prog X.w) X.A (truthy v) (TP X pins σ Q) X.xe s

noncomputable def tOp (r : R2) (ta tb : TE) : TE := fun σ H Q => ta σ H fun x H1 => tb σ H1 fun y H2 => r x y H2 Q
noncomputable def tUn (r : V → Hp → VK → Prop) (ta : TE) : TE := fun σ H Q => ta σ H fun x H1 => r x H1 Q
noncomputable def rI (C : Int → Int → Prop) (g : Int → Int → V) : R2 := fun x y H Q => ∃ i j, x = .int i ∧ y = .int j ∧ C i j ∧ Q (g i j) H
noncomputable def rI0 (g : Int → Int → V) : R2 := fun x y H Q => ∃ i j, x = .int i ∧ y = .int j ∧ Q (g i j) H
noncomputable def rU (g : Int → V) : V → Hp → VK → Prop := fun x H Q => ∃ i, x = .int i ∧ Q (g i) H

section
variable {X : Cx} {a b c : Expr} {ta tb tc : TE} {pos : Pos}

theorem binT (ha : PE X a ta) (hb : PE X b tb) {pins : List (Addr × Obj)} {s : Shared} {σ : St} {H : Hp} {R : V → V → Hp → Prop} (I : Inv X pins σ H s)
    (h : ta σ H fun x H1 => tb σ H1 fun y H2 => R x y H2) {Q : Value → Shared → Prop} {f : Value → Value → Sem Value}
    (hf : ∀ v u s2 x y H2, Inv X pins σ H2 s2 → RelV x v → RelV y u → R x y H2 → wpAny (model X.prog X.w) X.A (f v u) Q X.xe s2) :
    wpAny (model X.prog X.w) X.A (eval a X.env) (fun v s₁ => wpAny (model X.prog X.w) X.A (eval b X.env) (fun u s₂ => wpAny (model X.prog X.w) X.A (f v u) Q X.xe s₂) X.xe s₁) X.xe s := by
  refine thn (ha pins s σ H _ I h) fun v s1 ⟨x, H1, I1, r1, q1⟩ => ?_
  refine thn (hb pins s1 σ H1 _ I1 q1) fun u s2 ⟨y, H2, I2, r2, q2⟩ => ?_
  exact hf v u s2 x y H2 I2 r1 r2 q2

theorem pe_op {op : Operator} {r : R2} (ho : OpR X (binaryOp op) r) (ha : PE X a ta) (hb : PE X b tb) : PE X (.BinOp a op b pos) (tOp r ta tb) := by
  intro pins s σ H Q I h
  exact wpAny_BinOp (binT ha hb I h fun v u s2 x y H2 I2 rx ry q => ho pins s2 σ H2 x y v u Q I2 rx ry q)
theorem pe_un {op : UnaryOp} {r : V → Hp → VK → Prop} (ho : UnR X (unaryOp op) r) (ha : PE X a ta) : PE X (.UnaryOp op a pos) (tUn r ta) := by
  intro pins s σ H Q I h
  exact UnaryOp_ (thn (ha pins s σ H _ I h) fun v s1 ⟨x, H1, I1, r1, q1⟩ => ho pins s1 σ H1 x v Q I1 r1 q1)

/-! ### ints -/
theorem opI {f : Value → Value → Sem Value} {C : Int → Int → Prop} {g : Int → Int → Int}
    (rule : ∀ (i j : Int) (t u : Tok) (s : Shared) (Q : Value → Shared → Prop) (E : Value → Shared → Prop), C i j → Q (.int (g i j) s.toks) { s with toks := s.toks + 1 } → wpAny (model X.prog X.w) X.A (f (.int i t) (.int j u)) Q E s) :
    OpR X f (rI C fun i j => .int (g i j)) := by
  intro pins s σ H x y v u Q I rx ry h
  obtain ⟨i, j, rfl, rfl, hc, q⟩ := h
  obtain ⟨t, rfl⟩ := rx
  obtain ⟨t', rfl⟩ := ry
  exact rule i j t t' s _ _ hc ⟨.int (g i j), H, I.tok _, ⟨_, rfl⟩, q⟩
theorem opI0 {f : Value → Value → Sem Value} {g : Int → Int → Int}
    (rule : ∀ (i j : Int) (t u : Tok) (s : Shared) (Q : Value → Shared → Prop) (E : Value → Shared → Prop), Q (.int (g i j) s.toks) { s with toks := s.toks + 1 } → wpAny (model X.prog X.w) X.A (f (.int i t) (.int j u)) Q E s) :
    OpR X f (rI0 fun i j => .int (g i j)) := by
  intro pins s σ H x y v u Q I rx ry h
  obtain ⟨i, j, rfl, rfl, q⟩ := h
  obtain ⟨t, rfl⟩ := rx
  obtain ⟨t', rfl⟩ := ry
  exact rule i j t t' s _ _ ⟨.int (g i j), H, I.tok _, ⟨_, rfl⟩, q⟩
theorem opB0 {f : Value → Value → Sem Value} {g : Int → Int → Bool}
    (rule : ∀ (i j : Int) (t u : Tok) (s : Shared) (Q : Value → Shared → Prop) (E : Value → Shared → Prop), Q (.bool (g i j)) s → wpAny (model X.prog X.w) X.A (f (.int i t) (.int j u)) Q E s) :
    OpR X f (rI0 fun i j => .bl (g i j)) := by
  intro pins s σ H x y v u Q I rx ry h
  obtain ⟨i, j, rfl, rfl, q⟩ := h
  obtain ⟨t, rfl⟩ := rx
  obtain ⟨t', rfl⟩ := ry
  exact rule i j t t' s _ _ ⟨.bl (g i j), H, I, rfl, q⟩

noncomputable def CDiv (i j : Int) : Prop := 0 < j ∧ j < 1073741824
noncomputable def CMul (i j : Int) : Prop := (-(2 ^ 64) < i ∧ i < 2 ^ 64) ∨ (-(2 ^ 64) < j ∧ j < 2 ^ 64)
theorem CMul.ok {i j : Int} (h : CMul i j) : IntMulOk i j := by
  rcases h with ⟨h1, h2⟩ | ⟨h1, h2⟩
  · exact .of_left (intBits_le_64 h1 h2)
  · exact .of_right (intBits_le_64 h1 h2)

theorem op_add : OpR X (binaryOp .Add) (rI0 fun i j => .int (i + j)) := opI0 fun _ _ _ _ _ _ _ q => add_int q
theorem op_sub : OpR X (binaryOp .Sub) (rI0 fun i j => .int (i - j)) := opI0 fun _ _ _ _ _ _ _ q => sub_int q
theorem op_mul : OpR X (binaryOp .Mult) (rI CMul fun i j => .int (i * j)) := opI fun _ _ _ _ _ _ _ hc q => mul_int q hc.ok
theorem op_fdiv : OpR X (binaryOp .FloorDiv) (rI CDiv fun i j => .int (i / j)) := opI fun i j _ _ _ _ _ hc q => by
  have h1 : (0 : Int) < j := hc.1
  have h2 : j < 1073741824 := hc.2
  exact floordiv_int (by omega) (by rw [Int.fdiv_eq_ediv_of_nonneg i (by omega)]; exact q) (.inl (PyProof.noPylong_small (by omega)))
theorem op_mod : OpR X (binaryOp .Mod) (rI (fun _ j => 0 < j) fun i j => .int (i % j)) := opI fun i j _ _ _ _ _ hc q => by
  have h1 : (0 : Int) < j := hc
  exact mod_int' (by omega) (by rw [Int.fmod_eq_emod_of_nonneg i (by omega)]; exact q)


theorem unI {f : Value → Sem Value} {g : Int → Int}
    (rule : ∀ (i : Int) (t : Tok) (s : Shared) (Q : Value → Shared → Prop) (E : Value → Shared → Prop), Q (.int (g i) s.toks) { s with toks := s.toks + 1 } → wpAny (model X.prog X.w) X.A (f (.int i t)) Q E s) :
    UnR X f (rU fun i => .int (g i)) := by
  intro pins s σ H x v Q I rx h
  obtain ⟨i, rfl, q⟩ := h
  obtain ⟨t, rfl⟩ := rx
  exact rule i t s _ _ ⟨.int (g i), H, I.tok _, ⟨_, rfl⟩, q⟩
theorem un_neg : UnR X (unaryOp .USub) (rU fun i => .int (-i)) := unI fun _ _ _ _ _ q => neg_int q

/-! ### bools among ints: n += (a < b) -/
end

/-! ### comparisons -/
noncomputable def scal : V → V → Bool
  | .non, .non => true | .non, .int _ => true | .int _, .non => true | .non, .bl _ => true | .bl _, .non => true | .non, .str _ => true | .str _, .non => true
  | .int _, .int _ => true | .bl _, .bl _ => true | .str _, .str _ => true | .byt _, .byt _ => true
  | .int _, .str _ => true | .str _, .int _ => true | .bl _, .str _ => true | .str _, .bl _ => true
  | _, _ => false
theorem sc0 : scal .non .non = true := rfl
theorem sc1 {i : Int} : scal .non (.int i) = true := rfl
theorem sc2 {i : Int} : scal (.int i) .non = true := rfl
theorem sc3 {i : Bool} : scal .non (.bl i) = true := rfl
theorem sc4 {i : Bool} : scal (.bl i) .non = true := rfl
theorem sc5 {i : Str} : scal .non (.str i) = true := rfl
theorem sc6 {i : Str} : scal (.str i) .non = true := rfl
theorem sc7 {i : Int} {j : Int} : scal (.int i) (.int j) = true := rfl
theorem sc8 {i : Bool} {j : Bool} : scal (.bl i) (.bl j) = true := rfl
theorem sc9 {i : Str} {j : Str} : scal (.str i) (.str j) = true := rfl
theorem sc10 {i : Int} {j : Str} : scal (.int i) (.str j) = true := rfl
theorem sc11 {i : Str} {j : Int} : scal (.str i) (.int j) = true := rfl
theorem sc12 {i : Bool} {j : Str} : scal (.bl i) (.str j) = true := rfl
theorem sc13 {i : Str} {j : Bool} : scal (.str i) (.bl j) = true := rfl
noncomputable def rEq : R2 := fun x y H Q => scal x y = true ∧ Q (.bl (decide (x = y))) H
noncomputable def rNe : R2 := fun x y H Q => scal x y = true ∧ Q (.bl (!decide (x = y))) H

theorem dec_int {i j : Int} : decide (V.int i = V.int j) = (i == j) := by
  rw [Bool.eq_iff_iff]
  simp
theorem dec_bl {i j : Bool} : decide (V.bl i = V.bl j) = (i == j) := by
  rw [Bool.eq_iff_iff]
  simp
theorem dec_str {i j : Str} : decide (V.str i = V.str j) = (i == j) := by
  rw [Bool.eq_iff_iff]
  simp
theorem dec_byt {i j : Array UInt8} : decide (V.byt i = V.byt j) = (i.toList == j.toList) := by
  rw [Bool.eq_iff_iff]
  cases i
  cases j
  simp

section
variable {X : Cx} {a b c : Expr} {ta tb tc : TE} {pos : Pos}
theorem fin_bl {pins : List (Addr × Obj)} {σ : St} {H : Hp} {s : Shared} {Q : VK} {k k' : Bool} (I : Inv X pins σ H s) (q : Q (.bl k) H) (e : k = k') : EP X pins σ Q (.bool k') s := by
  subst e
  exact ⟨.bl k, H, I, rfl, q⟩
theorem op_eq : OpR X (compareOp .Eq) rEq := by
  intro pins s σ H x y v u Q I rx ry h
  obtain ⟨hs, q⟩ := h
  cases x with
  | non =>
    cases rx
    cases y with
    | non => cases ry; exact PySem.EqNone.eq_none_none (fin_bl I q (by simp))
    | bl j => cases ry; exact PySem.EqNone.eq_none_bool (fin_bl I q (by simp))
    | int j => obtain ⟨t', rfl⟩ := ry; exact PySem.EqNone.eq_none_int (fin_bl I q (by simp))
    | str j => obtain ⟨t', rfl⟩ := ry; exact PySem.EqNone.eq_none_str (fin_bl I q (by simp))
    | _ => exact absurd (show false = true from hs) Bool.false_ne_true
  | bl i =>
    cases rx
    cases y with
    | non => cases ry; exact PySem.EqNone.eq_bool_none (fin_bl I q (by simp))
    | bl j => cases ry; exact eq_bool (fin_bl I q dec_bl)
    | str j => obtain ⟨t', rfl⟩ := ry; exact PySem.EqMixed.eq_bool_str (fin_bl I q (by simp))
    | _ => exact absurd (show false = true from hs) Bool.false_ne_true
  | int i =>
    obtain ⟨t, rfl⟩ := rx
    cases y with
    | non => cases ry; exact PySem.EqNone.eq_int_none (fin_bl I q (by simp))
    | int j => obtain ⟨t', rfl⟩ := ry; exact eq_int (fin_bl I q dec_int)
    | str j => obtain ⟨t', rfl⟩ := ry; exact PySem.EqMixed.eq_int_str (fin_bl I q (by simp))
    | _ => exact absurd (show false = true from hs) Bool.false_ne_true
  | str i =>
    obtain ⟨t, rfl⟩ := rx
    cases y with
    | non => cases ry; exact PySem.EqNone.eq_str_none (fin_bl I q (by simp))
    | bl j => cases ry; exact PySem.EqMixed.eq_str_bool (fin_bl I q (by simp))
    | int j => obtain ⟨t', rfl⟩ := ry; exact PySem.EqMixed.eq_str_int (fin_bl I q (by simp))
    | str j => obtain ⟨t', rfl⟩ := ry; exact eq_str (fin_bl I q dec_str)
    | _ => exact absurd (show false = true from hs) Bool.false_ne_true
  | byt i =>
    obtain ⟨t, rfl⟩ := rx
    cases y with
    | byt j => obtain ⟨t', rfl⟩ := ry; exact PySem.W.eq_bytes (fin_bl I q dec_byt)
    | _ => exact absurd (show false = true from hs) Bool.false_ne_true
  | _ => cases y <;> exact absurd (show false = true from hs) Bool.false_ne_true
theorem op_ne : OpR X (compareOp .NotEq) rNe := by
  intro pins s σ H x y v u Q I rx ry h
  obtain ⟨hs, q⟩ := h
  cases x with
  | non =>
    cases rx
    cases y with
    | non => cases ry; exact PySem.EqNone.ne_none_none (fin_bl I q (by simp))
    | bl j => cases ry; exact PySem.EqNone.ne_none_bool (fin_bl I q (by simp))
    | int j => obtain ⟨t', rfl⟩ := ry; exact PySem.EqNone.ne_none_int (fin_bl I q (by simp))
    | str j => obtain ⟨t', rfl⟩ := ry; exact PySem.EqNone.ne_none_str (fin_bl I q (by simp))
    | _ => exact absurd (show false = true from hs) Bool.false_ne_true
  | bl i =>
    cases rx
    cases y with
    | non => cases ry; exact PySem.EqNone.ne_bool_none (fin_bl I q (by simp))
    | bl j => cases ry; exact ne_bool (fin_bl I q (congrArg not dec_bl))
    | str j => obtain ⟨t', rfl⟩ := ry; exact PySem.EqMixed.ne_bool_str (fin_bl I q (by simp))
    | _ => exact absurd (show false = true from hs) Bool.false_ne_true
  | int i =>
    obtain ⟨t, rfl⟩ := rx
    cases y with
    | non => cases ry; exact PySem.EqNone.ne_int_none (fin_bl I q (by simp))
    | int j => obtain ⟨t', rfl⟩ := ry; exact ne_int (fin_bl I q (congrArg not dec_int))
    | str j => obtain ⟨t', rfl⟩ := ry; exact PySem.EqMixed.ne_int_str (fin_bl I q (by simp))
    | _ => exact absurd (show false = true from hs) Bool.false_ne_true
  | str i =>
    obtain ⟨t, rfl⟩ := rx
    cases y with
    | non => cases ry; exact PySem.EqNone.ne_str_none (fin_bl I q (by simp))
    | bl j => cases ry; exact PySem.EqMixed.ne_str_bool (fin_bl I q (by simp))
    | int j => obtain ⟨t', rfl⟩ := ry; exact PySem.EqMixed.ne_str_int (fin_bl I q (by simp))
    | str j => obtain ⟨t', rfl⟩ := ry; exact ne_str (fin_bl I q (congrArg not dec_str))
    | _ => exact absurd (show false = true from hs) Bool.false_ne_true
  | byt i =>
    obtain ⟨t, rfl⟩ := rx
    cases y with
    | byt j => obtain ⟨t', rfl⟩ := ry; exact PySem.W.ne_bytes (fin_bl I q (congrArg not dec_byt))
    | _ => exact absurd (show false = true from hs) Bool.false_ne_true
  | _ => cases y <;> exact absurd (show false = true from hs) Bool.false_ne_true

theorem op_lt : OpR X (compareOp .Lt) (rI0 fun i j => .bl (decide (i < j))) := opB0 fun _ _ _ _ _ _ _ q => lt_int q
theorem op_gt : OpR X (compareOp .Gt) (rI0 fun i j => .bl (decide (j < i))) := opB0 fun _ _ _ _ _ _ _ q => gt_int q
theorem op_lt_str : OpR X (compareOp .Lt) (fun x y H Q => ∃ i j, x = .str i ∧ y = .str j ∧ Q (.bl (decide (i.cps.toList < j.cps.toList))) H) := by
  intro pins s σ H x y v u Q I rx ry h
  obtain ⟨i, j, rfl, rfl, q⟩ := h
  obtain ⟨t, rfl⟩ := rx
  obtain ⟨t', rfl⟩ := ry
  exact lt_str (fin_bl I q rfl)

theorem op_notN : OpR X (compareOp .IsNot) (fun x y H Q => y = .non ∧ Q (.bl (!decide (x = .non))) H) := by
  intro pins s σ H x y v u Q I rx ry h
  obtain ⟨rfl, q⟩ := h
  cases ry
  refine isnot_none_gen (fin_bl I q ?_)
  cases x <;> first
    | (cases rx; rfl)
    | (obtain ⟨t, rfl⟩ := rx; rfl)



theorem nomark (b : Expr) {op : CmpOp} (h : op ≠ .In := by decide) (h2 : op ≠ .NotIn := by decide) : behindInMarks op b = false := by
  have e1 : (op == CmpOp.In) = false := by cases op <;> first | rfl | exact absurd rfl h
  have e2 : (op == CmpOp.NotIn) = false := by cases op <;> first | rfl | exact absurd rfl h2
  cases b <;> simp [behindInMarks, e1, e2]
theorem pe_cmpR {op : CmpOp} {r : R2} (ho : OpR X (compareOp op) r) (ha : PE X a ta) (hb : PE X b tb) (hm : behindInMarks op b = false) : PE X (.Compare a [op] [b] pos) (tOp r ta tb) := by
  intro pins s σ H Q I h
  exact wpAny_Compare1 (binT ha hb I h fun v u s2 x y H2 I2 rx ry q => ho pins s2 σ H2 x y v u Q I2 rx ry q) hm
noncomputable def tTest (t : TE) : TT := fun σ H Q => t σ H fun x H' => ∃ k, x = .bl k ∧ Q k H'
theorem pt_cmpR {op : CmpOp} {r : R2} (ho : OpR X (compareOp op) r) (ha : PE X a ta) (hb : PE X b tb) (hm : behindInMarks op b = false) : PT X (.Compare a [op] [b] pos) (tTest (tOp r ta tb)) := by
  intro pins s σ H Q I h
  refine wpAny_isTrue_Compare1 (thn (ha pins s σ H _ I h) fun v s1 ⟨x, H1, I1, r1, q1⟩ => thn (hb pins s1 σ H1 _ I1 q1) fun u s2 ⟨y, H2, I2, r2, q2⟩ =>
    thn (ho pins s2 σ H2 x y v u _ I2 r1 r2 q2) fun c s3 ⟨z, H3, I3, r3, k, e, q3⟩ => ?_) hm
  subst e
  cases r3
  exact wpAny_truthy_bool ⟨H3, I3, q3⟩
noncomputable def tChain (r r' : R2) (ta tb tc : TE) : TE := fun σ H Q => ta σ H fun x H1 => tb σ H1 fun y H2 => r x y H2 fun z H3 => ∃ k, z = .bl k ∧
  (if k = true then tc σ H3 fun w' H4 => r' y w' H4 Q else Q (.bl false) H3)

/-! ### truth -/
noncomputable def TruV (K : PySem.W.Frag) (x : V) (H : Hp) (k : Bool) : Prop :=
  match x with
  | .non => k = false
  | .bl b => k = b
  | .int i => k = (i != 0)
  | .str y => y.length ≤ sizeLine ∧ k = ((y.length : Int) != 0)
  | .byt y => y.size ≤ sizeLine ∧ k = ((y.size : Int) != 0)
  | .ref p => (∃ xs, SqL K H p xs ∧ k = !xs.isEmpty) ∨ (∃ xs, SqT K H p xs ∧ k = !xs.isEmpty) ∨ ∃ kvs, H p = some (.dK kvs) ∧ k = !kvs.isEmpty
  | _ => False
theorem isEmpty_kv {κ : Type} {kvs : List (κ × V)} {vs : List (κ × Value)} (r : KV kvs vs) : (!vs.isEmpty) = !kvs.isEmpty := by
  cases r <;> rfl
theorem isEmpty_of {xs : List V} {its : List Value} (r : Vals xs its) : (!its.toArray.isEmpty) = !xs.isEmpty := by
  cases r <;> simp
theorem line63 : (sizeLine : Nat) < 2 ^ 63 := by rw [sizeLine_eq]; decide
theorem tru_ok : TruR X (fun x H Q => ∃ k, TruV X.K x H k ∧ Q k H) := by
  intro pins s σ H x v Q I rx h
  obtain ⟨k, e, q⟩ := h
  have hl := line63
  have hs : sizeLine = 16777216 := sizeLine_eq
  cases x with
  | non =>
    cases rx
    have e' : k = false := e
    subst e'
    exact truthy_none ⟨H, I, q⟩
  | bl b =>
    cases rx
    have e' : k = b := e
    subst e'
    exact wpAny_truthy_bool ⟨H, I, q⟩
  | int i =>
    obtain ⟨t, rfl⟩ := rx
    have e' : k = (i != 0) := e
    subst e'
    exact PySem.P.truthy_int ⟨H, I, q⟩
  | str y =>
    obtain ⟨t, rfl⟩ := rx
    obtain ⟨hy, e'⟩ : y.length ≤ sizeLine ∧ k = ((y.length : Int) != 0) := e
    subst e'
    exact PySem.P.truthy_str (by omega) ⟨H, I.tok _, q⟩
  | byt y =>
    obtain ⟨t, rfl⟩ := rx
    obtain ⟨hy, e'⟩ : y.size ≤ sizeLine ∧ k = ((y.size : Int) != 0) := e
    subst e'
    exact PySem.W.truthy_bytes (by omega) ⟨H, I.tok _, q⟩
  | ref p =>
    cases rx
    have e' : (∃ xs, SqL X.K H p xs ∧ k = !xs.isEmpty) ∨ (∃ xs, SqT X.K H p xs ∧ k = !xs.isEmpty) ∨ ∃ kvs, H p = some (.dK kvs) ∧ k = !kvs.isEmpty := e
    rcases e' with ⟨xs, hx, e'⟩ | ⟨xs, hx, e'⟩ | ⟨kvs, hx, e'⟩
    · subst e'
      obtain ⟨its, r, pl, hz⟩ := I.list hx
      have hlen := r.length
      exact wpAny_truthy_list pl.isList (by simp only [List.size_toArray]; omega) ⟨H, I.tok _, by rw [isEmpty_of r]; exact q⟩
    · subst e'
      obtain ⟨its, r, pl, hz⟩ := I.tuple hx
      have hlen := r.length
      exact truthy_tuple pl (by simp only [List.size_toArray]; omega) ⟨H, I.tok _, by rw [isEmpty_of r]; exact q⟩
    · subst e'
      obtain ⟨hz, hS, vs, r, m⟩ : kvs.length ≤ sizeLine ∧ (p == sysModules) = false ∧ ∃ vs, KV kvs vs ∧ s.heap.DictOf (mixKind X.prog X.w) p vs := I.hok p _ hx
      have hlen : kvs.length = vs.length := Paired.length r
      exact wpAny_truthy_dict hS m (by omega) ⟨H, I.tok _, by rw [isEmpty_kv r]; exact q⟩
  | _ => exact (show False from e).elim
theorem pt_truth (ha : PE X a ta) (he : ∀ whole, isTrue a X.env whole = (do let v ← whole; standAt a.pos; holding [v] (truthy v))) :
    PT X a (fun σ H Q => ta σ H fun x H' => ∃ k, TruV X.K x H' k ∧ Q k H') := by
  intro pins s σ H Q I h
  exact isTrue_plain (thn (ha pins s σ H _ I h) fun v s1 ⟨x, H1, I1, r1, q1⟩ => tru_ok pins s1 σ H1 x v Q I1 r1 q1) (he _)

/-! ### strs and bytes -/
theorem op_add_str : OpR X (binaryOp .Add) (fun x y H Q => ∃ i j, x = .str i ∧ y = .str j ∧ i.length + j.length ≤ sizeLine ∧ Q (.str (i ++ j)) H) := by
  intro pins s σ H x y v u Q I rx ry h
  obtain ⟨i, j, rfl, rfl, hz, q⟩ := h
  obtain ⟨t, rfl⟩ := rx
  obtain ⟨t', rfl⟩ := ry
  exact add_str (fun t' tk => ⟨.str (i ++ j), H, I.tok _, ⟨_, rfl⟩, q⟩) hz


/-! ### scalar builtins, by CallR -/
theorem vals1 {x : V} {us : List Value} (r : Vals [x] us) : ∃ u, us = [u] ∧ RelV x u := by
  cases r with
  | cons r1 r2 => cases r2; exact ⟨_, rfl, r1⟩
theorem vals2 {x y : V} {us : List Value} (r : Vals [x, y] us) : ∃ u w', us = [u, w'] ∧ RelV x u ∧ RelV y w' := by
  cases r with
  | cons r1 r2 =>
    cases r2 with
    | cons r3 r4 => cases r4; exact ⟨_, _, rfl, r1, r3⟩
theorem call_int1 : CallR X (.type "int") (fun xs H Q => (∃ i, xs = [.int i] ∧ Q (.int i) H) ∨ ∃ k, xs = [.bl k] ∧ Q (.int (if k then 1 else 0)) H) := by
  intro pins s σ H xs us Q I r h
  rcases h with ⟨i, rfl, q⟩ | ⟨k, rfl, q⟩
  · obtain ⟨u, rfl, t, rfl⟩ := vals1 r
    exact call_int_int ⟨.int i, H, I, ⟨_, rfl⟩, q⟩
  · obtain ⟨u, rfl, r1⟩ := vals1 r
    cases r1
    exact call_int_bool ⟨.int (if k then 1 else 0), H, I.tok _, ⟨_, rfl⟩, q⟩
noncomputable def LenV (K : PySem.W.Frag) (x : V) (H : Hp) (n : Nat) : Prop :=
  match x with
  | .str y => y.length ≤ sizeLine ∧ n = y.length
  | .byt y => y.size ≤ sizeLine ∧ n = y.size
  | .ref p => (∃ xs, SqL K H p xs ∧ n = xs.length) ∨ ∃ xs, SqT K H p xs ∧ n = xs.length
  | _ => False
theorem call_len : CallR X (.builtin "len") (fun xs H Q => ∃ x n, xs = [x] ∧ LenV X.K x H n ∧ Q (.int n) H) := by
  intro pins s σ H xs us Q I r h
  obtain ⟨x, n, rfl, e, q⟩ := h
  obtain ⟨u, rfl, rx⟩ := vals1 r
  have hl := line63
  have hs : sizeLine = 16777216 := sizeLine_eq
  cases x with
  | str y =>
    obtain ⟨t, rfl⟩ := rx
    obtain ⟨hy, e'⟩ : y.length ≤ sizeLine ∧ n = y.length := e
    subst e'
    exact len_str (by omega) ⟨.int _, H, I.tok _, ⟨_, rfl⟩, q⟩
  | byt y =>
    obtain ⟨t, rfl⟩ := rx
    obtain ⟨hy, e'⟩ : y.size ≤ sizeLine ∧ n = y.size := e
    subst e'
    exact PySem.W.len_bytes (by omega) ⟨.int _, H, I.tok _, ⟨_, rfl⟩, q⟩
  | ref p =>
    cases rx
    have e' : (∃ xs, SqL X.K H p xs ∧ n = xs.length) ∨ ∃ xs, SqT X.K H p xs ∧ n = xs.length := e
    rcases e' with ⟨xs, hx, e'⟩ | ⟨xs, hx, e'⟩
    · subst e'
      obtain ⟨its, r', pl, hz⟩ := I.list hx
      have hlen := r'.length
      exact Calls.call_len_list pl.isList (by simp only [List.size_toArray]; omega) ⟨.int xs.length, H, I.tok _, ⟨_, by simp only [List.size_toArray]; rw [hlen]⟩, q⟩
    · subst e'
      obtain ⟨its, r', pl, hz⟩ := I.tuple hx
      have hlen := r'.length
      exact len_tuple pl (by simp only [List.size_toArray]; omega) ⟨.int xs.length, H, I.tok _, ⟨_, by simp only [List.size_toArray]; rw [hlen]⟩, q⟩
  | _ => exact (show False from e).elim
end
end L2

namespace L2
open PySem PySem.Spec PyProof.Rows

/-! ### an instance, its attributes a map -/
set_option genInjectivity false in
structure ObjM (h : Heap) (x dx C : Addr) (mA : Str → Option Value) : Prop where
  obj : h.get? x = some (PySem.W.instObj C dx)
  ns : h.Ns1 dx mA
  ne : dx ≠ x

theorem lookIn_ns {h : Heap} {dx : Addr} {mA : Str → Option Value} (n : h.Ns1 dx mA) : ∃ od, h.get? dx = some od ∧ ∀ name, PySem.W.lookIn name od = some (mA name) := by
  obtain ⟨o, es, ep, ho, hd, hk, _, hm⟩ := n
  refine ⟨o, ho, fun name => ?_⟩
  have e := hm name
  unfold nsFind findBy at e
  rw [← Array.find?_toList] at e
  unfold PySem.W.lookIn
  rw [hd]
  dsimp only
  split
  · rename_i y q
    rw [q] at e
    exact congrArg some e
  · rename_i q
    rw [q] at e
    have a : es.toList.any (·.refKey) = false := by
      rw [List.any_eq_false]
      intro y hy
      obtain ⟨z, t, hkey⟩ := hk y (Array.mem_toList_iff.mp hy)
      simp [DictEntry.refKey, hkey]
    have a' : ¬ es.toList.any (·.refKey) = true := by rw [a]; exact Bool.false_ne_true
    rw [if_neg a']
    exact congrArg some e

theorem ObjM.look {h : Heap} {x dx C : Addr} {mA : Str → Option Value} (I : ObjM h x dx C mA) : ∃ od, PySem.W.InstAt h x (PySem.W.instObj C dx) C (some od) ∧ ∀ name, PySem.W.lookIn name od = some (mA name) :=
  let ⟨od, ho, hl⟩ := lookIn_ns I.ns
  ⟨od, ⟨I.obj, rfl, rfl, ho⟩, hl⟩

section
variable {prog : Program} {w : World} {A : Around} {E : Value → Shared → Prop} {s : Shared} {K : PySem.W.Frag} {x dx C f : Addr} {mA : Str → Option Value} {name : Str} {v : Value}





end

/-! ### the attributes as a list of pairs -/
noncomputable def putF (f : Str) (v : V) : List (Str × V) → List (Str × V)
  | [] => [(f, v)]
  | (g, x) :: r => if g = f then (g, v) :: r else (g, x) :: putF f v r

theorem RelO.some_of {v : V} {o : Option Value} (r : RelO (some v) o) : ∃ u, o = some u ∧ RelV v u := by
  cases o with
  | none => exact (show False from r).elim
  | some u => exact ⟨u, rfl, r⟩

section
variable {P : Program} {w : World} {H H' : Hp} {h h' : Heap} {a C dx : Addr} {fs fs' : List (Str × V)}
theorem ins_get (hok : HOk P w H h) (e : H a = some (.ins C dx fs)) : ∃ mA, ObjM h a dx C mA ∧ (∀ f, RelO (fs.lookup f) (mA f)) ∧ PySem.Within mA (fs.map (·.1)) ∧ fs.length ≤ 1000 ∧ H dx = some (.own a) := by
  obtain ⟨d, z, ne, ob, mA, n, r, q⟩ := (show ObjOk P w H h a (.ins C dx fs) from hok a _ e)
  exact ⟨mA, ⟨ob, n, ne⟩, r, q, z, d⟩
end

/-! ### what of the text a class must have -/
set_option genInjectivity false in
structure Cls (K : PySem.W.Frag) (C : Addr) : Prop where
  pg : PySem.W.plainGet K C Str.empty = true
  hd : PySem.W.hasDictIn K C = true
  po : PySem.W.plainOver K C = true
  sa : PySem.W.findIn K (.ref C) "__setattr__" = some (some (.builtin "object.__setattr__"))
theorem Cls.get {K : PySem.W.Frag} {C : Addr} (c : Cls K C) (f : Str) : PySem.W.plainGet K C f = true := c.pg
noncomputable def NoAttr (K : PySem.W.Frag) (C : Addr) (f : Str) : Prop := PySem.W.findIn K (.ref C) f = some none

section
variable {X : Cx} {pins : List (Addr × Obj)} {σ : St} {H : Hp} {s : Shared} {a C dx : Addr} {fs : List (Str × V)} {f : Str} {v : V} {A : Around} {E : Value → Shared → Prop}






end

/-! ### readings and rules -/
noncomputable def tFld (K : PySem.W.Frag) (ta : TE) (f : Str) : TE := fun σ H Q => ta σ H fun x H1 => ∃ a C dx fs v, x = .ref a ∧ H1 a = some (.ins C dx fs) ∧ Cls K C ∧ NoAttr K C f ∧ fs.lookup f = some v ∧ Q v H1
noncomputable def sFld (K : PySem.W.Frag) (ta tv : TE) (f : Str) : TS := fun D σ H => tv σ H fun y H1 => ta σ H1 fun x H2 => ∃ a C dx fs, x = .ref a ∧ H2 a = some (.ins C dx fs) ∧ Cls K C ∧ NoAttr K C f ∧ fs.length < 1000 ∧
  D.nx σ (upd H2 a (.ins C dx (putF f y fs)))

section
variable {X : Cx} {o e value : Expr} {f : Str} {pos pos' tpos : Pos} {ta tv : TE}

end

/-! ### isinstance -/
section
variable {X : Cx} {pins : List (Addr × Obj)} {σ : St} {H : Hp} {s : Shared} {A : Around} {E : Value → Shared → Prop} {Q : Value → Shared → Prop} {c : Value} {b : Bool}
inductive TyOf (K : PySem.W.Frag) (H : Hp) : V → Value → Prop where
  | non : TyOf K H .non (.type "NoneType")
  | bl (x : Bool) : TyOf K H (.bl x) (.type "bool")
  | int (i : Int) : TyOf K H (.int i) (.type "int")
  | str (x : Str) : TyOf K H (.str x) (.type "str")
  | flt (x : UInt64) : TyOf K H (.flt x) (.type "float")
  | lst {a : Addr} {xs : List V} (e : H a = some (.lst xs)) : TyOf K H (.ref a) (.type "list")
  | frz {a : Addr} {o : Obj} {xs : List V} (e : H a = some (.frz o (.lst xs))) : TyOf K H (.ref a) (.type "list")
  | tup {a : Addr} {xs : List V} (e : H a = some (.tup xs)) : TyOf K H (.ref a) (.type "tuple")
  | dK {a : Addr} {kvs : List (Key × V)} (e : H a = some (.dK kvs)) : TyOf K H (.ref a) (.type "dict")
  | dT {a : Addr} {kvs : List (List Key × V)} (e : H a = some (.dT kvs)) : TyOf K H (.ref a) (.type "dict")
  | ins {a C dx : Addr} {fs : List (Str × V)} (e : H a = some (.ins C dx fs)) (cl : Cls K C) (ha : PySem.W.findIn K (.ref C) "__class__" = some (some (.builtin "object.__class__")))
      (hn : PySem.W.specialIn K (.builtin "object.__class__") "__get__" = some (some (.builtin "getset_descriptor.__get__"))) (htk : PySem.W.takesIn K (.builtin "object.__class__") = some true)
      (hm : PySem.W.mroIn K C (.type "object") = some true) : TyOf K H (.ref a) (.ref C)
theorem isinst_ok {x : V} {u t : Value} (I : Inv X pins σ H s) (rx : RelV x u) (ty : TyOf X.K H x t) (e : PySem.W.kitOne X.K t c = some b) (h : ∀ tk, Q (.bool b) { s with toks := tk }) :
    wpAny (model X.prog X.w) A (call (.builtin "isinstance") [u, c]) Q E s := by
  cases ty with
  | non => cases (show u = Value.none from rx); exact PySem.W.kia_one PySem.W.kitx_none I.kIn True.intro e (fun z => nomatch z) h
  | bl y => cases (show u = Value.bool y from rx); exact PySem.W.kia_one PySem.W.kitx_bool I.kIn True.intro e (fun z => nomatch z) h
  | int i => obtain ⟨t, q⟩ := (show ∃ t, u = Value.int i t from rx); cases q; exact PySem.W.kia_one PySem.W.kitx_int I.kIn True.intro e (fun z => nomatch z) h
  | str y => obtain ⟨t, q⟩ := (show ∃ t, u = Value.str y t from rx); cases q; exact PySem.W.kia_one PySem.W.kitx_str I.kIn True.intro e (fun z => nomatch z) h
  | flt y => obtain ⟨t, q⟩ := (show ∃ t, u = Value.float y t from rx); cases q; exact PySem.W.kia_one PySem.W.kitx_float I.kIn True.intro e (fun z => nomatch z) h
  | @lst a xs ea =>
    cases (show u = Value.ref a from rx)
    obtain ⟨_, _, n, _, h1⟩ := (show ObjOk X.prog X.w H s.heap a (.lst xs) from I.hok a _ ea)
    exact PySem.W.kia_one PySem.W.kitx_list I.kIn ⟨_, h1, rfl⟩ e (fun z => nomatch z) h
  | @frz a ob xs ea =>
    cases (show u = Value.ref a from rx)
    obtain ⟨_, _, _, n, _, h1⟩ := (show ObjOk X.prog X.w H s.heap a (.frz ob (.lst xs)) from I.hok a _ ea)
    exact PySem.W.kia_one PySem.W.kitx_list I.kIn ⟨_, h1, rfl⟩ e (fun z => nomatch z) h
  | @tup a xs ea =>
    cases (show u = Value.ref a from rx)
    obtain ⟨_, _, _, p⟩ := (show ObjOk X.prog X.w H s.heap a (.tup xs) from I.hok a _ ea)
    obtain ⟨o, h1, h2, _⟩ := p
    exact PySem.W.kia_one PySem.W.kitx_tuple I.kIn ⟨o, h1, h2⟩ e (fun z => nomatch z) h
  | @dK a kvs ea =>
    cases (show u = Value.ref a from rx)
    obtain ⟨_, _, vs, _, p⟩ := (show ObjOk X.prog X.w H s.heap a (.dK kvs) from I.hok a _ ea)
    obtain ⟨o, es, ep, h1, h2, _⟩ := p
    exact PySem.W.kia_one PySem.W.kitx_dict I.kIn ⟨o, h1, h2.1⟩ e (fun z => nomatch z) h
  | @dT a kvs ea =>
    cases (show u = Value.ref a from rx)
    obtain ⟨_, _, xs, _, o, es, ep, h1, h2, _⟩ := (show ObjOk X.prog X.w H s.heap a (.dT kvs) from I.hok a _ ea)
    exact PySem.W.kia_one PySem.W.kitx_dict I.kIn ⟨o, h1, h2.1⟩ e (fun z => nomatch z) h
  | @ins a C dx fs ea cl ha hn htk hm =>
    cases (show u = Value.ref a from rx)
    obtain ⟨mA, O, _⟩ := ins_get I.hok ea
    obtain ⟨od, J, _⟩ := O.look
    exact PySem.W.kia_one (PySem.W.kitx_own (cl.get _) cl.hd ha hn htk hm) I.kIn J e (fun z => nomatch z) h
end
end L2

namespace L2
open PySem PySem.Spec PyProof.Rows

/-! ### room -/
set_option genInjectivity false in
structure Room (k : Nat) (A : Around) : Prop where
  hd : A.handled = none
  dp : A.depth + 3 * k + 5 < recursionLimit
  un : A.units + 16 * k + 200 < cLine
theorem Room.mono {j k : Nat} {A : Around} (r : Room k A) (h : j ≤ k) : Room j A := ⟨r.hd, by have := r.dp; omega, by have := r.un; omega⟩
theorem Room.deeper {k : Nat} {A : Around} (r : Room (k + 1) A) (env : Env) : Room k (A.deeper env) :=
  ⟨r.hd, by have := r.dp; show A.depth + 1 + 3 * k + 5 < _; omega, by have := r.un; show A.units + 3 + 16 * k + 200 < _; omega⟩
theorem Room.in1 {k : Nat} {A : Around} (r : Room (k + 1) A) : Room k A.in1 :=
  ⟨r.hd, by have := r.dp; show A.depth + 3 * k + 5 < _; omega, by have := r.un; show A.units + 1 + 16 * k + 200 < _; omega⟩
theorem Room.depth {k : Nat} {A : Around} (r : Room k A) : A.depth < recursionLimit := by have := r.dp; omega
theorem Room.units {k : Nat} {A : Around} (r : Room k A) : A.units + 64 < cLine := by have := r.un; omega

/-! ### argument lists and displays -/
noncomputable def tNil : TA := fun _ H Q => Q [] H
noncomputable def tCons (ta : TE) (tr : TA) : TA := fun σ H Q => ta σ H fun x H1 => tr σ H1 fun xs H2 => Q (x :: xs) H2
section
variable {X : Cx} {e : Expr} {es : List Expr} {te : TE} {t : TA} {pos : Pos}
theorem pa_nil : PA X [] tNil := fun _ _ _ _ H Q I h => Calls.spliced_nil ⟨[], H, I, .nil, h⟩
theorem pa_cons (ha : PE X e te) (hr : PA X es t) (hs : starEach (e :: es) X.env = (false, eval e X.env) :: starEach es X.env := by rfl) : PA X (e :: es) (tCons te t) := by
  intro pos pins s σ H Q I h
  rw [hs]
  show wpAny _ _ (spliced ((false, eval e X.env) :: backTo pos (starEach es X.env))) _ _ s
  refine Calls.spliced_cons (thn (ha pins s σ H _ I h) fun u s1 ⟨x, H1, I1, r1, q1⟩ => ?_)
  exact thn (hr pos pins s1 σ H1 _ I1 q1) fun us s2 ⟨xs, H2, I2, r2, q2⟩ => ⟨x :: xs, H2, I2, .cons r1 r2, q2⟩

noncomputable def tTup (t : TA) : TE := fun σ H Q => t σ H fun xs H1 => xs.length ≤ sizeLine ∧ ∀ p, H1 p = none → Q (.ref p) (upd H1 p (.tup xs))
noncomputable def tLst (t : TA) : TE := fun σ H Q => t σ H fun xs H1 => xs.length ≤ sizeLine ∧ ∀ p, H1 p = none → Q (.ref p) (upd H1 p (.lst xs))
theorem pe_tup {x1} (h : PA X es t) : PE X (.Tuple es x1 pos) (tTup t) := by
  intro pins s σ H Q I hq
  refine wpAny_Tuple_spliced (thn (h pos pins s σ H _ I hq) fun us s1 ⟨xs, H1, I1, r, z, q⟩ => ⟨by rw [← r.length]; exact z, ?_⟩)
  have hf : H1 s1.heap.objs.size = none := I1.hok.fresh (Nat.le_refl _)
  refine ⟨.ref s1.heap.objs.size, upd H1 s1.heap.objs.size (.tup xs), I1.laid (t' := s1.toks) (fun b u e => Heap.get?_push_of_some _ e) (Nat.le_refl _) ?_, rfl, q _ hf⟩
  exact ⟨z, us, r, ⟨_, Heap.get?_push_size _ rfl, rfl, _, rfl⟩⟩
theorem pe_lst (h : PA X es t) : PE X (.List es pos) (tLst t) := by
  intro pins s σ H Q I hq
  refine wpAny_List_spliced (thn (h pos pins s σ H _ I hq) fun us s1 ⟨xs, H1, I1, r, z, q⟩ => ⟨by rw [← r.length]; exact z, ?_⟩)
  have hf : H1 s1.heap.objs.size = none := I1.hok.fresh (Nat.le_refl _)
  refine ⟨.ref s1.heap.objs.size, upd H1 s1.heap.objs.size (.lst xs), I1.laid (t' := s1.toks) (fun b u e => Heap.get?_push_of_some _ e) (Nat.le_refl _) ?_, rfl, q _ hf⟩
  exact ⟨z, us, 0, r, Heap.get?_push_size _ rfl⟩
end

/-! ### what a def promises -/
noncomputable abbrev Sp := List V → Hp → VK → XK → Prop
noncomputable abbrev CXT := List Env → Hp → Shared → XK → Value → Shared → Prop

set_option genInjectivity false in
structure Env0 (P : Program) (w : World) (K : PySem.W.Frag) (mg : Str → Option Value) (base : Heap) (A : Around) (outer : List Env) (s : Shared) (H : Hp) : Prop where
  frames : A.frames = some outer
  mod : Mod K mg base
  bs : ∀ b o, base.get? b = some o → s.heap.get? b = some o ∧ H b = none
  bsz : base.objs.size ≤ s.heap.objs.size
  funs : s.heap.FunFrames base outer
  frf : ∀ b ∈ frs outer, H b = none
  hok : HOk P w H s.heap
  bare : AllBare s.gens
noncomputable def CE (outer : List Env) (P : Program) (w : World) (H : Hp) (s : Shared) (Q : VK) (u : Value) (s' : Shared) : Prop :=
  ∃ v H', s'.os = s.os ∧ AllBare s'.gens ∧ Un (frs outer) [] H H' s.heap s'.heap ∧ HOk P w H' s'.heap ∧ RelV v u ∧ Q v H'
noncomputable def CR (CX : CXT) (outer : List Env) (P : Program) (w : World) (H : Hp) (s : Shared) (Q : VK) (E : XK) (r : Result) (s' : Shared) : Prop :=
  match r with
  | .ok (.ret u) => CE outer P w H s Q u s'
  | .ok _ => False
  | .error e => CX outer H s E e s'
set_option genInjectivity false in
structure FnOk (P : Program) (w : World) (K : PySem.W.Frag) (mg : Str → Option Value) (base : Heap) (CX : CXT) (k : Nat) (f : Addr) (fd : FuncData) (ps : List Str) (sp : Sp) : Prop where
  len : ∀ vs H Q E, sp vs H Q E → vs.length = ps.length
  run : ∀ (A : Around) (outer : List Env) (s : Shared) (H : Hp) (args : Args) (us : List Value) (vs : List V) (Q : VK) (E : XK), Room k A → Env0 P w K mg base A outer s H → BindsTo s fd args (ps.zip us) → Vals vs us → sp vs H Q E →
    codeAny (model P w) A (.call (.ref f) args) (CR CX outer P w H s Q E) s

theorem Env0.in1 {P : Program} {w : World} {K : PySem.W.Frag} {mg : Str → Option Value} {base : Heap} {A : Around} {outer : List Env} {s : Shared} {H : Hp} (e : Env0 P w K mg base A outer s H) :
    Env0 P w K mg base A.in1 outer s H := ⟨e.frames, e.mod, e.bs, e.bsz, e.funs, e.frf, e.hok, e.bare⟩

section
variable {X : Cx} {pins : List (Addr × Obj)} {σ : St} {H : Hp} {s s' : Shared}
theorem Inv.env0 (I : Inv X pins σ H s) : Env0 X.prog X.w X.K X.mg X.base X.A X.stack s H :=
  ⟨I.ok.frames, I.ok.mod, I.bs, Nat.le_trans I.ok.bsz I.sz, I.stack, I.stkFree, I.hok, I.bare⟩
theorem Inv.after {Q : VK} {u : Value} (I : Inv X pins σ H s) (h : CE X.stack X.prog X.w H s Q u s') : EP X pins σ Q u s' := by
  obtain ⟨v, H', os, bare, un, hok, r, q⟩ := h
  obtain ⟨hh, g, d, t, os'⟩ := s'
  obtain rfl : os' = s.os := os
  exact ⟨v, H', I.call (h' := hh) (g' := g) (d' := d) (t' := t) (ch := []) un hok bare (fun b z => absurd z (by simp)), r, q⟩
end

/-! ### calls -/
noncomputable def tCall (sp : Sp) (dvs : List V) (E : XK) (t : TA) : TE := fun σ H Q => t σ H fun vs H1 => sp (vs ++ dvs) H1 Q E
noncomputable def tMeth (C : Addr) (m : Str) (sp : Sp) (dvs : List V) (E : XK) (ta : TE) (t : TA) : TE := fun σ H Q => ta σ H fun x H1 => ∃ a dx fs, x = .ref a ∧ H1 a = some (.ins C dx fs) ∧ fs.lookup m = none ∧
  t σ H1 fun vs H2 => sp (x :: (vs ++ dvs)) H2 Q E
noncomputable def tMake (C : Addr) (sp : Sp) (dvs : List V) (E : XK) (t : TA) : TE := fun σ H Q => t σ H fun vs H1 => ∀ x dx, H1 x = none → H1 dx = none → dx ≠ x →
  sp (.ref x :: (vs ++ dvs)) (upd (upd H1 dx (.own x)) x (.ins C dx [])) (fun v H2 => v = .non ∧ Q (.ref x) H2) E

noncomputable def Binds (K : PySem.W.Frag) (fd : FuncData) (ps : List Str) (ds : List Value) : Prop :=
  ∀ (s : Shared) (us : List Value), K.In s.heap → (us ++ ds).length = ps.length → BindsTo s fd ⟨us, []⟩ (ps.zip (us ++ ds))
theorem Binds.all {K : PySem.W.Frag} {fd : FuncData} {ps : List Str} (h : ∀ us : List Value, us.length = ps.length → bindArgs fd ⟨us, []⟩ = pure (ps.zip us)) : Binds K fd ps [] := fun s us _ hl => by
  rw [List.append_nil] at hl ⊢
  exact .of_eq (h us hl)

noncomputable def Passes (CX : CXT) (X : Cx) (E : XK) : Prop := ∀ (pins : List (Addr × Obj)) (σ : St) (H : Hp) (s : Shared) (e : Value) (s' : Shared), Inv X pins σ H s → CX X.stack H s E e s' → X.xe e s'

section
variable {X : Cx} {CX : CXT} {k : Nat} {f C : Addr} {fd : FuncData} {ps : List Str} {sp : Sp} {dvs : List V} {ds : List Value} {E : XK} {x m : Str} {p pos apos : Pos} {e o : Expr} {es : List Expr} {ta : TE} {t : TA}

theorem run_fn {pins : List (Addr × Obj)} {σ : St} {H : Hp} {s : Shared} {Q : VK} {us : List Value} {vs : List V} (F : FnOk X.prog X.w X.K X.mg X.base CX k f fd ps sp) (hr : Room k X.A) (hb : Binds X.K fd ps ds) (hd : Vals dvs ds) (hx : Passes CX X E)
    (I : Inv X pins σ H s) (r : Vals vs us) (h : sp (vs ++ dvs) H Q E) : wpAny (model X.prog X.w) X.A (call (.ref f) us) (EP X pins σ Q) X.xe s := by
  have r2 : Vals (vs ++ dvs) (us ++ ds) := r.append hd
  have hl : (us ++ ds).length = ps.length := by rw [← r2.length]; exact F.len _ _ _ _ h
  refine wpAny_call (codeAny_mono (F.run X.A X.stack s H ⟨us, []⟩ (us ++ ds) (vs ++ dvs) Q E hr I.env0 (hb s us I.kIn hl) r2 h) fun r s' hq => ?_)
  cases r with
  | error e => exact hx pins σ H s e s' I hq
  | ok fl =>
    cases fl with
    | ret u => exact I.after hq
    | next => exact False.elim hq
    | brk => exact False.elim hq
    | cont => exact False.elim hq

theorem pe_call (F : FnOk X.prog X.w X.K X.mg X.base CX k f fd ps sp) (hr : Room k X.A) (hg : Gl X x) (hm : X.mg x = some (.ref f)) (hk : PySem.W.keepIn X.K (.ref f) = true) (hb : Binds X.K fd ps ds) (hd : Vals dvs ds) (hx : Passes CX X E)
    (ha : PA X (e :: es) t) (hdb : (x == ("__debug__" : Str)) = false := by decide) (he : starEach (e :: es) X.env = (false, eval e X.env) :: starEach es X.env := by rfl) (hpl : (backTo pos (starEach es X.env)).any (·.1) = false := by rfl) :
    PE X (.Call (.Name x p) (e :: es) [] pos) (tCall sp dvs E t) := by
  intro pins s σ H Q I h
  refine wpAny_Call_Name_kw (ld_glob I hg hm ?_ hdb)
  refine PySem.W.callWith_K (h₀ := X.base) I.ok.mod.kin hk (thn (ha pos pins s σ H _ I h) fun us s1 ⟨vs, H1, I1, r, q⟩ => ⟨I1.kIn, ?_⟩) he hpl
  exact run_fn F hr hb hd hx I1 r q



end

/-! ### keywords -/
section
variable {X : Cx} {CX : CXT} {k : Nat} {f C : Addr} {fd : FuncData} {ps ks : List Str} {sp : Sp} {E : XK} {x m : Str} {p pos apos kpos : Pos} {e o : Expr} {es : List Expr} {kws : List Keyword} {te ta : TE} {t tk : TA} {nm : Option Str}

variable {g : List Value → List Value → List Value} {gV : List V → List V → List V}
end

/-! ### a def's body keeps its promise -/
set_option genInjectivity false in
structure FnScope (N P : List Str) (sc : Scope) : Prop where
  kind : sc.kind = .function
  co : sc.isCoroutine = false
  gen : sc.isGenerator = false
  nd : N.Nodup
  pre : N.take P.length = P
  par : ∀ x ∈ P, sc.names.lookup x = some .local ∨ sc.names.lookup x = some .cell
  nofree : ∀ y ∈ sc.names, y.2 ≠ .free

theorem bindL_out {kindOf : Str → Option NameKind} {x : Str} : ∀ {binds : List (Str × Value)} {m : Str → Option Value}, (∀ v, (x, v) ∉ binds) → bindL kindOf binds m x = m x
  | [], _, _ => rfl
  | (n, v) :: r, m, h => by
    unfold bindL
    rw [bindL_out fun w hw => h w (List.mem_cons_of_mem _ hw)]
    split
    · have : x ≠ n := by rintro rfl; exact h v List.mem_cons_self
      simp [this]
    · rfl
theorem bindC_out {kindOf : Str → Option NameKind} {x : Str} : ∀ {binds : List (Str × Value)} {m : Str → Option Value}, (∀ v, (x, v) ∉ binds) → bindC kindOf binds m x = m x
  | [], _, _ => rfl
  | (n, v) :: r, m, h => by
    unfold bindC
    rw [bindC_out fun w hw => h w (List.mem_cons_of_mem _ hw)]
    split
    · rfl
    · have : x ≠ n := by rintro rfl; exact h v List.mem_cons_self
      simp [this]
theorem bindL_get {kindOf : Str → Option NameKind} {x : Str} {v : Value} : ∀ {P : List Str} {vs : List Value} {i : Nat} {m : Str → Option Value}, P.Nodup → P[i]? = some x → vs[i]? = some v → kindOf x = some .local →
    bindL kindOf (P.zip vs) m x = some v
  | [], _, _, _, _, h, _, _ => by simp at h
  | _ :: _, [], _, _, _, _, h, _ => by simp at h
  | p :: P, w :: vs, 0, m, nd, h1, h2, hk => by
    simp at h1 h2; subst h1; subst h2
    show bindL kindOf ((p, w) :: P.zip vs) m p = _
    unfold bindL
    rw [bindL_out fun v hv => (List.nodup_cons.mp nd).1 (List.of_mem_zip hv).1, if_pos hk]
    simp
  | p :: P, w :: vs, i + 1, m, nd, h1, h2, hk => by
    show bindL kindOf ((p, w) :: P.zip vs) m x = _
    unfold bindL
    exact bindL_get (i := i) (List.nodup_cons.mp nd).2 (by simpa using h1) (by simpa using h2) hk
theorem bindC_get {kindOf : Str → Option NameKind} {x : Str} {v : Value} : ∀ {P : List Str} {vs : List Value} {i : Nat} {m : Str → Option Value}, P.Nodup → P[i]? = some x → vs[i]? = some v → kindOf x ≠ some .local →
    bindC kindOf (P.zip vs) m x = some v
  | [], _, _, _, _, h, _, _ => by simp at h
  | _ :: _, [], _, _, _, _, h, _ => by simp at h
  | p :: P, w :: vs, 0, m, nd, h1, h2, hk => by
    simp at h1 h2; subst h1; subst h2
    show bindC kindOf ((p, w) :: P.zip vs) m p = _
    unfold bindC
    rw [bindC_out fun v hv => (List.nodup_cons.mp nd).1 (List.of_mem_zip hv).1, if_neg hk]
    simp
  | p :: P, w :: vs, i + 1, m, nd, h1, h2, hk => by
    show bindC kindOf ((p, w) :: P.zip vs) m x = _
    unfold bindC
    exact bindC_get (i := i) (List.nodup_cons.mp nd).2 (by simpa using h1) (by simpa using h2) hk

noncomputable def start (N : List Str) (vs : List V) : St := vs.map some ++ List.replicate (N.length - vs.length) none

noncomputable def cxOf (CX : CXT) (P : Program) (w : World) (K : PySem.W.Frag) (mg : Str → Option Value) (base : Heap) (N : List Str) (qual : Str) (scope : Scope) (f : Addr) (cd : Value) (A : Around) (outer : List Env) (s : Shared) (H : Hp) (E : XK) : Cx where
  prog := P
  w := w
  K := K
  mg := mg
  base := base
  A := A.deeper (envOfC qual scope s.heap.objs.size f cd)
  N := N
  s₀ := s
  H₀ := H
  env := envOfC qual scope s.heap.objs.size f cd
  outer := outer
  stack := envOfC qual scope s.heap.objs.size f cd :: outer
  ex := []
  calm := true
  fn := fun _ => true
  pn := []
  xe := fun e s' => wpAny (model P w) (A.deeper (envOfC qual scope s.heap.objs.size f cd)) (leaving (envOfC qual scope s.heap.objs.size f cd) e) (fun _ s'' => CX outer H s E e s'') (fun e' s'' => CX outer H s E e' s'') s'

theorem cell_has {sc : Scope} {n : Nat} {x : Str} (h : sc.names.lookup x = some .cell) : ∃ c, (cellsFrom n sc.names []).lookup x = some c := by
  have q := PySem.W.cellsFrom_some sc.names n [] (.inl h)
  exact Option.isSome_iff_exists.mp q

theorem inv_start {CX : CXT} {P : Program} {w : World} {K : PySem.W.Frag} {mg : Str → Option Value} {base : Heap} {N ps : List Str} {qual : Str} {scope : Scope} {f : Addr} {cd : Value} {A : Around} {outer : List Env} {s s1 : Shared} {H : Hp} {E : XK} {us : List Value} {vs : List V}
    (S : FnScope N ps scope) (hd : A.handled = none) (e0 : Env0 P w K mg base A outer s H) (hl : vs.length = ps.length) (r : Vals vs us)
    (x : InCallC s s.heap.objs.size (bindL (envOfC qual scope s.heap.objs.size f cd).kindOf (ps.zip us) fun _ => none) (cellsFrom (s.heap.objs.size + 1) scope.names []) (bindC (envOfC qual scope s.heap.objs.size f cd).kindOf (ps.zip us) fun _ => none) s1) :
    Inv (cxOf CX P w K mg base N qual scope f cd A outer s H E) [] (start N vs) H s1 := by
  have hpl : ps.length ≤ N.length := by have := congrArg List.length S.pre; rw [List.length_take] at this; omega
  obtain ⟨h1, tk, rfl, hk⟩ := x.done
  have noA : ∀ b : Addr, b ∉ (cxOf CX P w K mg base N qual scope f cd A outer s H E).ex := fun b z => absurd (show b ∈ ([] : List Addr) from z) (by simp)
  refine ⟨⟨e0.mod, S.kind, rfl, rfl, Nat.le_refl _, fun y z c h1 h2 => ?_, fun y hy => ?_, fun y c _ h => ?_, fun _ => hd, Around.frames_deeper e0.frames, .inr ⟨rfl, rfl⟩, fun b z => absurd z (noA b), e0.bs, e0.bsz, fun b _ _ => noA b, fun b z => absurd z (noA b), e0.funs, e0.frf⟩,
    rfl, e0.bare, Un.kept hk, ⟨_, x.toInCall.ns, fun i y v h1 h2 h3 => ?_⟩, fun y c h => ⟨_, x.cell y c h⟩, e0.hok.fresh (Nat.le_refl _), fun y c h => ?_, fun p hp => absurd (show p ∈ ([] : List (Addr × Obj)) from hp) (by simp), e0.hok.kept hk, ?_⟩
  · exact name_of_addr x.apart (PySem.mem_of_lookup h1) (PySem.mem_of_lookup h2)
  · have hy : scope.names.lookup y = some .cell ∨ scope.names.lookup y = some .free := hy
    rcases hy with hy | hy
    · exact cell_has hy
    · exact absurd rfl (S.nofree _ (PySem.mem_of_lookup hy))
  · exact Nat.le_of_lt (x.above y c (PySem.mem_of_lookup h))
  · have hi : i < vs.length := by
      unfold start at h2
      by_cases hi : i < vs.length
      · exact hi
      · rw [List.getElem?_append_right (by simpa using hi)] at h2
        rw [List.getElem?_replicate] at h2
        split at h2 <;> cases h2
    have ha : vs[i]? = some v := by
      unfold start at h2
      rw [List.getElem?_append_left (by simpa using hi), List.getElem?_map] at h2
      cases e : vs[i]? with
      | none => rw [e] at h2; cases h2
      | some a => rw [e] at h2; cases h2; rfl
    obtain ⟨u, hu, rv⟩ := r.get ha
    have hp : ps[i]? = some y := by
      rw [← S.pre, List.getElem?_take_of_lt (by omega)]; exact h1
    have ndP : ps.Nodup := by rw [← S.pre]; exact S.nd.sublist (List.take_sublist _ _)
    refine ⟨u, rv, ?_⟩
    rcases S.par y (List.mem_of_getElem? hp) with k | k
    · exact .inl ⟨k, bindL_get ndP hp hu k⟩
    · obtain ⟨c, e⟩ := cell_has (n := s.heap.objs.size + 1) k
      refine .inr ⟨.inl k, c, e, ?_⟩
      have q := x.cell y c e
      rw [bindC_get ndP hp hu (by show scope.names.lookup y ≠ _; rw [k]; decide)] at q
      exact q
  · exact e0.hok.fresh (Nat.le_of_lt (x.above y c (PySem.mem_of_lookup h)))
  · unfold start
    show _ = N.length
    rw [List.length_append, List.length_map, List.length_replicate]
    omega

theorem fn_of {CX : CXT} {P : Program} {w : World} {K : PySem.W.Frag} {mg : Str → Option Value} {base : Heap} {k : Nat} {f : Addr} {name qual : Str} {params : Arguments} {body : List Stmt} {scope : Scope} {dV kV doc pm cdv ct oc : Value} {an od : Option Addr}
    {osl : Array (Option Value)} {N ps : List Str} {sp : Sp} (lk : K.lookup f = some ⟨oc, od, .func (PySem.W.fnOf name qual params body scope dV kV doc pm an cdv ct), osl⟩) (hcd : PySem.W.codeIn K cdv qual = true) (S : FnScope N ps scope)
    (len : ∀ vs H Q E, sp vs H Q E → vs.length = ps.length)
    (hbody : ∀ (A : Around) (outer : List Env) (s : Shared) (H : Hp) (vs : List V) (Q : VK) (E : XK), Room k (A.deeper (envOfC qual scope s.heap.objs.size f cdv)) → sp vs H Q E →
      ∃ t, PSs (cxOf CX P w K mg base N qual scope f cdv A outer s H E) body t ∧ t { nx := fun _ H' => Q .non H', rt := Q } (start N vs) H) :
    FnOk P w K mg base CX (k + 1) f (PySem.W.fnOf name qual params body scope dV kV doc pm an cdv ct) ps sp := by
  refine ⟨len, fun A outer s H args us vs Q E hr e0 hb r hsp => ?_⟩
  have hl := len _ _ _ _ hsp
  have KX : K.In s.heap := e0.mod.kin.keeps fun b o e => (e0.bs b o e).1
  have lim : s.heap.NoLimit := e0.mod.nolimit.keeps fun b o e => (e0.bs b o e).1
  have hkind : ∀ y ∈ ps.zip us, scope.names.lookup y.1 = some .local ∨ (scope.names.lookup y.1 = some .cell ∧ ((cellsFrom (s.heap.objs.size + 1) scope.names []).lookup y.1).isSome = true) := fun ⟨n, v⟩ hy => by
    rcases S.par n (List.of_mem_zip hy).1 with q | q
    · exact .inl q
    · exact .inr ⟨q, PySem.W.cellsFrom_some _ _ _ (.inl q)⟩
  refine codeAny_call_function hr.depth (KX _ _ lk) rfl S.co S.gen rfl (PySem.W.codeRec_of KX hcd) (hb _ _ _ _ ?_)
  refine wpAny_newFunctionEnv_cells S.kind hkind fun env he s1 x => ?_
  subst he
  refine ⟨lim.keeps x.toInCall.keep, codeAny_func ?_⟩
  obtain ⟨t, ht, hq⟩ := hbody A outer s H vs Q E (hr.deeper _) hsp
  have I : Inv (cxOf CX P w K mg base N qual scope f cdv A outer s H E) [] (start N vs) H s1 := inv_start S hr.hd e0 hl r x
  refine wpAny_mono (ht [] s1 (start N vs) H _ I hq) (fun fl s' hs => ?_) fun e s' hs => hs
  have fin : ∀ {σ' : St} {H' : Hp} {v : V} {u : Value}, Inv (cxOf CX P w K mg base N qual scope f cdv A outer s H E) [] σ' H' s' → RelV v u → Q v H' → CE outer P w H s Q u s' :=
    fun {σ' H' v u} J rv q => ⟨v, H', J.os, J.bare, J.base, J.hok, rv, q⟩
  cases fl with
  | ret u =>
    obtain ⟨v, σ', H', J, rv, q⟩ := hs
    exact fin J rv q
  | next =>
    obtain ⟨σ', H', J, q⟩ := hs
    exact fin (v := V.non) (u := Value.none) J rfl q
  | brk =>
    obtain ⟨_, _, _, q⟩ := hs
    exact False.elim q
  | cont =>
    obtain ⟨_, _, _, q⟩ := hs
    exact False.elim q
end L2

namespace L2
open PySem PySem.Spec PyProof.Rows
section
variable {X : Cx} {x : Str} {p pos : Pos} {e : Expr} {es : List Expr} {t : TA} {id T : String} {r : List V → Hp → VK → Prop}

noncomputable def tCB (r : List V → Hp → VK → Prop) (t : TA) : TE := fun σ H Q => t σ H fun vs H1 => r vs H1 Q
theorem pe_callB (hc : CallR X (.builtin id) r) (hg : Gl X x) (hm : X.mg x = none) (hv : bootBuiltins x = some (.builtin id)) (ha : PA X (e :: es) t) (hn : x ≠ "__name__" := by decide) (hdb : (x == ("__debug__" : Str)) = false := by decide)
    (he : starEach (e :: es) X.env = (false, eval e X.env) :: starEach es X.env := by rfl) (hpl : (backTo pos (starEach es X.env)).any (·.1) = false := by rfl) : PE X (.Call (.Name x p) (e :: es) [] pos) (tCB r t) := by
  intro pins s σ H Q I h
  refine wpAny_Call_Name_kw (ld_blt I hg hm hv ?_ hn hdb)
  exact PyProof.Rows.callWith_builtin1 (thn (ha pos pins s σ H _ I h) fun us s1 ⟨vs, H1, I1, r1, q1⟩ => hc pins s1 σ H1 vs us Q I1 r1 q1) he hpl
theorem pe_callTy (hc : CallR X (.type T) r) (hg : Gl X x) (hm : X.mg x = none) (hv : bootBuiltins x = some (.type T)) (ha : PA X (e :: es) t) (hn : x ≠ "__name__" := by decide) (hdb : (x == ("__debug__" : Str)) = false := by decide)
    (he : starEach (e :: es) X.env = (false, eval e X.env) :: starEach es X.env := by rfl) (hpl : (backTo pos (starEach es X.env)).any (·.1) = false := by rfl) : PE X (.Call (.Name x p) (e :: es) [] pos) (tCB r t) := by
  intro pins s σ H Q I h
  refine wpAny_Call_Name_kw (ld_blt I hg hm hv ?_ hn hdb)
  exact PyProof.Rows.callWith_type1 (thn (ha pos pins s σ H _ I h) fun us s1 ⟨vs, H1, I1, r1, q1⟩ => hc pins s1 σ H1 vs us Q I1 r1 q1) he hpl
end
end L2

namespace HT
open PySem PyProof.Rows



section
open PySem.SeqAt
open PySem.AutoSeq1 (wpAny_loadPart')
open PySem.MeetsSeq PySem.MeetsSeq2 PySem.MeetsSeq3

end

section
variable {prog : Program} {w : World} {A : Around} {E : Value → Shared → Prop} {s : Shared}


theorem cat_tup {t b : Addr} {vs ws : List Value} {Q : Value → Shared → Prop} (ht : IsTup s.heap t vs.toArray) (hb : IsTup s.heap b ws.toArray) (hv : vs ≠ [])
    (h1 : ws = [] → Q (.ref t) s) (h2 : ws ≠ [] → Q (.ref s.heap.objs.size) { s with heap := s.heap.push { cls := .type "tuple", data := .seq (vs ++ ws).toArray } })
    (hsz : vs.length + ws.length ≤ sizeLine) : wpAny (model prog w) A (binaryOp .Add (.ref t) (.ref b)) Q E s := by
  obtain ⟨⟨cls, dd, data, sl⟩, ho, hc, n, hd⟩ := id ht
  obtain ⟨⟨cls2, dd2, data2, sl2⟩, ho2, hc2, n2, hd2⟩ := id hb
  simp only at hc hd hc2 hd2
  subst hc hd hc2 hd2
  have e : vs.toArray ++ ws.toArray = (vs ++ ws).toArray := by simp
  by_cases hw : ws = []
  · exact concat_meets ⟨_, ho, rfl⟩ ⟨_, ho2, rfl⟩ noFill_tuple_add seq_tuple_add PySem.F.slot_tuple_add PySem.F.entry_tuple_add (PySem.F.args_tuple_add_2 _ _)
      (tuple_addW1 t b vs.toArray ws.toArray n n2 dd dd2 sl sl2 (by simpa using hv) (by simp [hw])) ⟨ho, ho2, h1 hw⟩
  · refine concat_meets ⟨_, ho, rfl⟩ ⟨_, ho2, rfl⟩ noFill_tuple_add seq_tuple_add PySem.F.slot_tuple_add PySem.F.entry_tuple_add (PySem.F.args_tuple_add_2 _ _)
      (tuple_addW2 t b vs.toArray ws.toArray n n2 dd dd2 sl sl2 (by simpa using hv) (by simpa using hw) (by rw [List.size_toArray, List.size_toArray]; exact hsz)) ⟨ho, ho2, ?_⟩
    rw [e]
    exact h2 hw

/-! ### t[a:b], not the whole -/
noncomputable def sIx (n d : Nat) : Option Int → Nat
  | none => d
  | some v => if v < 0 then (v + (n : Int)).toNat else min v.toNat n
theorem sIx_nat (n d k : Nat) : sIx n d (some (k : Int)) = min k n := by
  show (if (k : Int) < 0 then ((k : Int) + (n : Int)).toNat else min (k : Int).toNat n) = min k n
  rw [if_neg (by omega), Int.toNat_natCast]
theorem sIx_le (n d : Nat) (hd : d ≤ n) (o : Option Int) : sIx n d o ≤ n := by
  cases o with
  | none => exact hd
  | some v =>
    show (if v < 0 then (v + (n : Int)).toNat else min v.toNat n) ≤ n
    by_cases hv : v < 0
    · rw [if_pos hv]; omega
    · rw [if_neg hv]; exact Nat.min_le_right _ _
theorem clip_eq (v : Int) (n d : Nat) : (if v < 0 then max (v + (n : Int)) 0 else min v (n : Int)) = ((sIx n d (some v) : Nat) : Int) := by
  show (if v < 0 then max (v + (n : Int)) 0 else min v (n : Int)) = (((if v < 0 then (v + (n : Int)).toNat else min v.toNat n) : Nat) : Int)
  by_cases hv : v < 0
  · simp only [if_pos hv]; omega
  · simp only [if_neg hv]; omega
theorem adjust_gen (lo hi : Option Int) (n : Nat) : Builtin.Slice.sliceAdjust lo hi 1 (n : Int) = (((sIx n 0 lo : Nat) : Int), ((sIx n n hi : Nat) : Int)) := by
  have h1 : ¬ ((1 : Int) < 0) := by omega
  unfold Builtin.Slice.sliceAdjust
  simp only [h1, if_false]
  refine Prod.ext ?_ ?_
  · cases lo with
    | none => rfl
    | some v => exact clip_eq v n 0
  · cases hi with
    | none => rfl
    | some v => exact clip_eq v n n
theorem places_gen (i j : Nat) : Builtin.Slice.slicePlaces (i : Int) (j : Int) 1 = j - i := by
  unfold Builtin.Slice.slicePlaces
  have h1 : (1 : Int) > 0 := by omega
  simp only [h1, if_true, Int.ediv_one]
  split <;> omega
theorem slicePart_ {v : Value} {o : Option Int} {Q : Option Int → Shared → Prop} (p : IsPart v o) (h : Q o s) : wpAny (model prog w) A (Builtin.Slice.slicePartIndex v) Q E s := by
  cases p with
  | none => exact slicePart_none h
  | int i t => exact slicePart_int h
theorem sliceApplied_gen {sl : Addr} {vl vu : Value} {lo hi : Option Int} {n : Nat} {Q : Int × Int × Nat → Shared → Prop} (hs : s.heap.IsSliceOf sl vl vu .none) (pl : IsPart vl lo) (pu : IsPart vu hi)
    (h : Q (((sIx n 0 lo : Nat) : Int), 1, sIx n n hi - sIx n 0 lo) s) : wpAny (model prog w) A (Builtin.Slice.sliceApplied (.ref sl) (pure (n : Int))) Q E s := by
  obtain ⟨os, hos, hcs, hds⟩ := id hs
  unfold Builtin.Slice.sliceApplied Builtin.Slice.sliceFields
  refine wpAny_bind (wpAny_bind (wpAny_field hos hds (x := vl) rfl (wpAny_bind (wpAny_field hos hds (x := vu) rfl (wpAny_bind (wpAny_field hos hds (x := .none) rfl (wpAny_pure ?_)))))))
  refine wpAny_bind (slicePart_none ?_)
  show wpAny _ _ (if ((1 : Int) == 0) = true then _ else _) _ _ s
  rw [if_neg (by decide)]
  refine wpAny_bind (slicePart_ pl (wpAny_bind (slicePart_ pu (wpAny_bind (wpAny_pure ?_)))))
  show wpAny _ _ (match Builtin.Slice.sliceAdjust lo hi 1 (n : Int) with | (lo, hi) => pure (lo, (1 : Int), Builtin.Slice.slicePlaces lo hi 1)) _ _ s
  rw [adjust_gen lo hi n]
  show wpAny _ _ (pure (((sIx n 0 lo : Nat) : Int), (1 : Int), Builtin.Slice.slicePlaces ((sIx n 0 lo : Nat) : Int) ((sIx n n hi : Nat) : Int) 1)) _ _ s
  rw [places_gen]
  exact wpAny_pure h
theorem pick_gen (xs : Array Value) (i k : Nat) : ((List.range k).filterMap fun (m : Nat) => xs[((i : Int) + (m : Int) * 1).toNat]?).toArray = ((xs.toList.drop i).take k).toArray := by
  have e : (fun (m : Nat) => xs[((i : Int) + (m : Int) * 1).toNat]?) = fun m => xs[i + m]? := by
    funext m
    have : ((i : Int) + (m : Int) * 1).toNat = i + m := by omega
    rw [this]
  rw [e]
  have := pick_run xs i k
  rw [List.filterMap_map] at this
  have e2 : ((fun x => xs[x]?) ∘ fun x => i + x) = fun m => xs[i + m]? := rfl
  rw [e2] at this
  rw [this]

theorem getItem_tuple_cut {t sl : Addr} {items : Array Value} {vl vu : Value} {lo hi : Option Int} {Q : Value → Shared → Prop} (ht : IsTup s.heap t items) (hs : s.heap.IsSliceOf sl vl vu .none) (pl : IsPart vl lo) (pu : IsPart vu hi)
    (hw : ¬ (sIx items.size 0 lo = 0 ∧ sIx items.size items.size hi = items.size))
    (h : Q (.ref s.heap.objs.size) { s with heap := s.heap.push { cls := .type "tuple", data := .seq ((items.toList.drop (sIx items.size 0 lo)).take (sIx items.size items.size hi - sIx items.size 0 lo)).toArray } })
    (hsz : items.size ≤ sizeLine) : wpAny (model prog w) A (getItem (.ref t) (.ref sl)) Q E s := by
  have htake : sizeOk (.seq ((items.toList.drop (sIx items.size 0 lo)).take (sIx items.size items.size hi - sIx items.size 0 lo)).toArray) := by
    show ((items.toList.drop (sIx items.size 0 lo)).take (sIx items.size items.size hi - sIx items.size 0 lo)).toArray.size ≤ sizeLine
    rw [List.size_toArray, List.length_take, List.length_drop, Array.length_toList]
    omega
  have hj : sIx items.size items.size hi ≤ items.size := sIx_le _ _ (Nat.le_refl _) hi
  obtain ⟨os, hos, hcs, hds⟩ := id hs
  have hTs : s.TypeIs (.ref sl) "slice" := ⟨os, hos, hcs⟩
  unfold getItem
  try with_reducible refine wpAny_holding ?_
  first | refine wpAny_bind (wpAny_pure ?_) | skip
  refine wpAny_bind (wpAny_sequenceKey ht.typeIs (by decide) ?_)
  refine wpAny_bind (wpAny_callSpecial?_slot (name := Str.ofString "__getitem__") ht.typeIs PyProof.Rows.slot_tuple_getitem
    (wpAny_call_entry PyProof.Rows.slot_tuple_getitem ht.typeIs entry_tuple_getitem ?_ (args_tuple_getitem _ _)))
  show wpAny _ _ (Builtin.Tuple.tupleItemsOf (.ref t) >>= _) _ _ s
  refine wpAny_bind (tupleItemsOf_ ht ?_)
  refine wpAny_bind (wpAny_typeOf hTs ?_)
  rw [if_pos (by decide)]
  refine wpAny_bind (sliceApplied_gen hs pl pu ?_)
  have hno : ¬ ((((sIx items.size 0 lo : Nat) : Int) == 0 && (1 : Int) == 1 && (sIx items.size items.size hi - sIx items.size 0 lo) == items.size) = true) := by
    intro q
    rw [Bool.and_eq_true, Bool.and_eq_true] at q
    have q1 : ((sIx items.size 0 lo : Nat) : Int) = 0 := eq_of_beq q.1.1
    have q2 : sIx items.size items.size hi - sIx items.size 0 lo = items.size := eq_of_beq q.2
    exact hw ⟨by omega, by omega⟩
  show wpAny _ _ (if (((sIx items.size 0 lo : Nat) : Int) == 0 && (1 : Int) == 1 && (sIx items.size items.size hi - sIx items.size 0 lo) == items.size) = true then _ else _) _ _ s
  rw [if_neg hno, pick_gen]
  first
    | exact wpAny_bind (m := Builtin.Tuple.tupleExact _) (wpAny_newObj_type (wpAny_pure ⟨_, rfl, wpAny_pure h⟩) htake)
    | exact wpAny_bind (m := Builtin.Tuple.tupleExact _) (wpAny_newObj_type (wpAny_bind (wpAny_pure (wpAny_pure ⟨_, rfl, wpAny_pure h⟩))) htake)
    | exact wpAny_bind (wpAny_bind (m := Builtin.Tuple.tupleExact _) (wpAny_newObj_type (wpAny_pure (wpAny_pure ⟨_, rfl, wpAny_pure h⟩)) htake))
    | exact wpAny_bind (wpAny_bind (m := Builtin.Tuple.tupleExact _) (wpAny_newObj_type (wpAny_pure ⟨_, rfl, wpAny_pure h⟩) htake))
end
end HT

namespace L2
open PySem PySem.Spec PyProof.Rows

/-! ### the parts of a slice -/
noncomputable abbrev TO := St → Hp → (Option Int → Hp → Prop) → Prop
noncomputable def PO (X : Cx) (e : Option Expr) (t : TO) : Prop :=
  ∀ (pins : List (Addr × Obj)) (s : Shared) (σ : St) (H : Hp) (Q : Option Int → Hp → Prop), Inv X pins σ H s → t σ H Q →
    wpAny (model X.prog X.w) X.A (evalPart e X.env) (fun u s' => ∃ o H', Inv X pins σ H' s' ∧ IsPart u o ∧ Q o H') X.xe s
noncomputable def tNoPart : TO := fun _ H Q => Q none H
noncomputable def tPart (t : TE) : TO := fun σ H Q => t σ H fun x H1 => ∃ i, x = .int i ∧ Q (some i) H1


section
variable {X : Cx} {e : Expr} {te : TE} {lo hi : Option Expr} {tl th : TO} {pos p2 : Pos}

theorem po_none : PO X none tNoPart := by
  intro pins s σ H Q I h
  rw [evalPart_none]
  exact wpAny_pure ⟨none, H, I, .none, h⟩
theorem po_some (h : PE X e te) : PO X (some e) (tPart te) := by
  intro pins s σ H Q I hw
  rw [evalPart_some]
  refine thn (h pins s σ H _ I hw) fun u s1 ⟨x, H1, I1, r1, q1⟩ => ?_
  obtain ⟨i, rfl, q⟩ := q1
  obtain ⟨t, rfl⟩ := r1
  exact ⟨some i, H1, I1, .int i t, q⟩

noncomputable def SlR (X : Cx) (r : V → Option Int → Option Int → Hp → VK → Prop) : Prop :=
  ∀ (pins : List (Addr × Obj)) (s : Shared) (σ : St) (H : Hp) (x : V) (v vl vu : Value) (lo hi : Option Int) (sl : Addr) (Q : VK), Inv X pins σ H s → RelV x v → s.heap.IsSliceOf sl vl vu .none → IsPart vl lo → IsPart vu hi → r x lo hi H Q →
    ∃ T id, typeLookup (.type T) "__getitem__" = pure (some (.builtin id)) ∧ s.TypeIs v T ∧ wpAny (model X.prog X.w) X.A (getItem v (.ref sl)) (EP X pins σ Q) X.xe s
noncomputable def tSl (r : V → Option Int → Option Int → Hp → VK → Prop) (te : TE) (tl th : TO) : TE := fun σ H Q => te σ H fun x H1 => tl σ H1 fun l H2 => th σ H2 fun u H3 => r x l u H3 Q
theorem pe_slice {r : V → Option Int → Option Int → Hp → VK → Prop} (hr : SlR X r) (he : PE X e te) (hl : PO X lo tl) (hu : PO X hi th) : PE X (.Subscript e (.Slice lo hi none p2) pos) (tSl r te tl th) := by
  intro pins s σ H Q I h
  refine Subscript_ (thn (he pins s σ H _ I h) fun v s1 ⟨x, H1, I1, r1, q1⟩ => ?_)
  refine wpAny_Slice (thn (hl pins s1 σ H1 _ I1 q1) fun vl s2 ⟨l, H2, I2, pl, q2⟩ => thn (hu pins s2 σ H2 _ I2 q2) fun vu s3 ⟨u, H3, I3, pu, q3⟩ => ?_)
  rw [evalPart_none]
  refine wpAny_pure ?_
  have I4 : Inv X pins σ H3 { s3 with heap := s3.heap.push { cls := .type "slice", data := .fields #[vl, vu, .none] } } := I3.kept (t' := s3.toks) fun b ob q => Heap.get?_push_of_some _ q
  obtain ⟨T, id, hT, ht, hg⟩ := hr pins { s3 with heap := s3.heap.push { cls := .type "slice", data := .fields #[vl, vu, .none] } } σ H3 x v vl vu l u s3.heap.objs.size Q I4 r1 (Heap.IsSliceOf.new ..) pl pu q3
  show wpAny (model X.prog X.w) X.A (subscriptTail e (.Slice lo hi none p2) v (.ref s3.heap.objs.size)) (EP X pins σ Q) X.xe { s3 with heap := s3.heap.push { cls := .type "slice", data := .fields #[vl, vu, .none] } }
  exact tail_any (ops := [.ref s3.heap.objs.size, v]) ht hT hg (by with_unfolding_all rfl)

noncomputable def cutV (xs : List V) (lo hi : Option Int) : List V := (xs.drop (HT.sIx xs.length 0 lo)).take (HT.sIx xs.length xs.length hi - HT.sIx xs.length 0 lo)
theorem cutV_length (xs : List V) (lo hi : Option Int) : (cutV xs lo hi).length ≤ xs.length := by
  unfold cutV
  rw [List.length_take, List.length_drop]
  omega
noncomputable def rSlT (K : PySem.W.Frag) : V → Option Int → Option Int → Hp → VK → Prop := fun x lo hi H Q => ∃ a xs, x = .ref a ∧ SqT K H a xs ∧
  ¬ (HT.sIx xs.length 0 lo = 0 ∧ HT.sIx xs.length xs.length hi = xs.length) ∧ ∀ p, H p = none → Q (.ref p) (upd H p (.tup (cutV xs lo hi)))
theorem sl_tup : SlR X (rSlT X.K) := by
  intro pins s σ H x v vl vu lo hi sl Q I rx hs pl pu h
  obtain ⟨a, xs, rfl, hx, hw, q⟩ := h
  cases rx
  obtain ⟨its, r, ht, hz⟩ := I.tuple hx
  have hlen : its.toArray.size = xs.length := by rw [List.size_toArray]; exact r.length.symm
  refine ⟨"tuple", _, PyProof.Rows.slot_tuple_getitem.lookup, ht.typeIs, ?_⟩
  refine HT.getItem_tuple_cut ht hs pl pu (by rw [hlen]; exact hw) ?_ (by rw [hlen]; exact hz)
  rw [hlen]
  refine ⟨.ref s.heap.objs.size, _, I.laid (t' := s.toks) (o := .tup (cutV xs lo hi)) (fun b ob q => Heap.get?_push_of_some _ q) (Nat.le_refl _) ?_, rfl, q _ (I.hok.fresh (Nat.le_refl _))⟩
  exact ⟨Nat.le_trans (cutV_length xs lo hi) hz, _, (r.drop (HT.sIx xs.length 0 lo)).take (HT.sIx xs.length xs.length hi - HT.sIx xs.length 0 lo), IsTup.new _ _⟩

/-! ### t < u, t + u -/
noncomputable def rCatT (K : PySem.W.Frag) : R2 := fun x y H Q => ∃ a b xs ys, x = .ref a ∧ y = .ref b ∧ SqT K H a xs ∧ SqT K H b ys ∧ xs ≠ [] ∧ xs.length + ys.length ≤ sizeLine ∧
  (ys = [] → Q (.ref a) H) ∧ (ys ≠ [] → ∀ p, H p = none → Q (.ref p) (upd H p (.tup (xs ++ ys))))
theorem Vals.nil_iff {xs : List V} {us : List Value} (r : Vals xs us) : us = [] ↔ xs = [] := by
  cases r with
  | nil => simp
  | cons _ _ => simp
theorem op_catT : OpR X (binaryOp .Add) (rCatT X.K) := by
  intro pins s σ H x y v u Q I rx ry h
  obtain ⟨a, b, xs, ys, rfl, rfl, ha, hb, hx, hz, q1, q2⟩ := h
  cases rx
  cases ry
  obtain ⟨its, r1, p1, _⟩ := I.tuple ha
  obtain ⟨its2, r2, p2, _⟩ := I.tuple hb
  refine HT.cat_tup p1 p2 (fun z => hx (r1.nil_iff.mp z)) (fun z => ⟨.ref a, H, I, rfl, q1 (r2.nil_iff.mp z)⟩) (fun z => ?_) (by rw [← r1.length, ← r2.length]; exact hz)
  refine ⟨.ref s.heap.objs.size, _, I.laid (t' := s.toks) (o := .tup (xs ++ ys)) (fun b ob q => Heap.get?_push_of_some _ q) (Nat.le_refl _) ?_, rfl, q2 (fun w => z (r2.nil_iff.mpr w)) _ (I.hok.fresh (Nat.le_refl _))⟩
  exact ⟨by rw [List.length_append]; exact hz, _, r1.append r2, IsTup.new _ _⟩
end
end L2

namespace L2
open PySem PySem.Spec PyProof.Rows

/-! ### places -/
noncomputable def ixN (n : Nat) (i : Int) : Option Nat := if 0 ≤ i then (if i < n then some i.toNat else none) else if -(n : Int) ≤ i then some (i + n).toNat else none
noncomputable def atI {α : Type} (xs : List α) (i : Int) : Option α := (ixN xs.length i).bind fun j => xs[j]?
theorem ixN_seq {n : Nat} {i : Int} {j : Nat} (h : ixN n i = some j) : seqIndex? i n = some j ∧ j < n ∧ -(n : Int) ≤ i ∧ i < n := by
  unfold ixN at h
  by_cases h0 : 0 ≤ i
  · rw [if_pos h0] at h
    by_cases h1 : i < n
    · rw [if_pos h1] at h
      have e : i.toNat = j := Option.some.inj h
      exact ⟨by rw [seqIndex_of h0 h1, e], by omega, by omega, h1⟩
    · rw [if_neg h1] at h; cases h
  · rw [if_neg h0] at h
    by_cases h1 : -(n : Int) ≤ i
    · rw [if_pos h1] at h
      have e : (i + n).toNat = j := Option.some.inj h
      exact ⟨by rw [seqIndex_neg (by omega) h1, e], by omega, h1, by omega⟩
    · rw [if_neg h1] at h; cases h
theorem atI_get {α : Type} {xs : List α} {i : Int} {v : α} (h : atI xs i = some v) : ∃ j, seqIndex? i xs.length = some j ∧ xs[j]? = some v ∧ j < xs.length ∧ -(xs.length : Int) ≤ i ∧ i < xs.length := by
  unfold atI at h
  cases e : ixN xs.length i with
  | none => rw [e] at h; cases h
  | some j =>
    rw [e] at h
    obtain ⟨h1, h2, h3, h4⟩ := ixN_seq e
    exact ⟨j, h1, h, h2, h3, h4⟩
theorem atI_nat {α : Type} {xs : List α} {j : Nat} {v : α} (h : xs[j]? = some v) : atI xs (j : Int) = some v := by
  have hj : j < xs.length := (List.getElem?_eq_some_iff.mp h).1
  have e : ixN xs.length (j : Int) = some j := by
    unfold ixN
    rw [if_pos (by omega), if_pos (by omega)]; simp
  unfold atI; rw [e]; exact h
theorem atI_last {α : Type} (xs : List α) (v : α) : atI (xs ++ [v]) (-1) = some v := by
  have hl : (xs ++ [v]).length = xs.length + 1 := by simp
  have e : ixN (xs ++ [v]).length (-1) = some xs.length := by
    unfold ixN
    rw [hl, if_neg (by decide), if_pos (by omega)]
    congr 1
    omega
  unfold atI
  rw [e]
  show (xs ++ [v])[xs.length]? = some v
  simp

/-! ### what may be subscripted -/
noncomputable def PlainIx (b : Expr) : Prop := ∀ o i, subscripted b false o i = operate [o, i] (getItem o i)
noncomputable def IxR (X : Cx) (r : R2) : Prop :=
  ∀ (value slice : Expr) (pins : List (Addr × Obj)) (s : Shared) (σ : St) (H : Hp) (x y : V) (v u : Value) (Q : VK), Inv X pins σ H s → RelV x v → RelV y u → r x y H Q →
    subscripted slice false v u = operate [v, u] (getItem v u) → wpAny (model X.prog X.w) X.A (subscriptTail value slice v u) (EP X pins σ Q) X.xe s
noncomputable def MtR (X : Cx) (id : String) (r : V → List V → Hp → VK → Prop) : Prop :=
  ∀ (pins : List (Addr × Obj)) (s : Shared) (σ : St) (H : Hp) (x : V) (xs : List V) (v : Value) (us : List Value) (Q : VK), Inv X pins σ H s → RelV x v → Vals xs us → r x xs H Q →
    wpAny (model X.prog X.w) X.A (call (.builtin id) (v :: us)) (EP X pins σ Q) X.xe s
section
variable {X : Cx} {a b : Expr} {ta tb : TE} {pos : Pos}
theorem pe_ix {r : R2} (hr : IxR X r) (ha : PE X a ta) (hb : PE X b tb) (hs : PlainIx b) : PE X (.Subscript a b pos) (tOp r ta tb) := by
  intro pins s σ H Q I h
  exact Subscript_ (binT ha hb I h fun v u s2 x y H2 I2 rx ry q => hr a b pins s2 σ H2 x y v u Q I2 rx ry q (hs _ _))

noncomputable def rIxL (K : PySem.W.Frag) : R2 := fun x y H Q => ∃ p xs i v, x = .ref p ∧ y = .int i ∧ SqL K H p xs ∧ atI xs i = some v ∧ Q v H
noncomputable def rIxT (K : PySem.W.Frag) : R2 := fun x y H Q => ∃ p xs i v, x = .ref p ∧ y = .int i ∧ SqT K H p xs ∧ atI xs i = some v ∧ Q v H
noncomputable def rIxS : R2 := fun x y H Q => ∃ z i c, x = .str z ∧ y = .int i ∧ z.length ≤ sizeLine ∧ atI z.cps.toList i = some c ∧ Q (.str ⟨#[c]⟩) H
theorem ix_list : IxR X (rIxL X.K) := by
  intro value slice pins s σ H x y v u Q I rx ry h hs
  obtain ⟨p, xs, i, z, rfl, rfl, hq, he, q⟩ := h
  cases rx
  obtain ⟨t, rfl⟩ := ry
  obtain ⟨its, r, pl, hz⟩ := I.list hq
  obtain ⟨j, h1, h2, h3, h4, h5⟩ := atI_get he
  obtain ⟨w, ew, rw'⟩ := r.get h2
  have hl := r.length
  have hn := line63
  have fin : EP X pins σ Q w s := ⟨z, H, I, rw', q⟩
  by_cases h0 : 0 ≤ i
  · have hj : i.toNat = j := by
      rw [seqIndex_of h0 h5] at h1
      exact Option.some.inj h1
    exact item_listR pl.isList h0 (by omega) (by rw [hj]; simpa using ew) fin hs
  · have hj : (i + (its.toArray.size : Int)).toNat = j := by
      rw [seqIndex_neg (by omega) h4] at h1
      rw [List.size_toArray, ← hl]
      exact Option.some.inj h1
    exact subscriptTail_builtinR (x := w) pl.isList.typeIs slot_list_getitem.lookup
      (wpAny_getItem_list_neg (Q := fun r s' => r = w ∧ EP X pins σ Q r s') pl.isList (by omega) (by rw [List.size_toArray] <;> omega) (by omega) (by rw [hj]; simpa using ew) ⟨rfl, fin⟩) hs
theorem ix_tup : IxR X (rIxT X.K) := by
  intro value slice pins s σ H x y v u Q I rx ry h hs
  obtain ⟨p, xs, i, z, rfl, rfl, hq, he, q⟩ := h
  cases rx
  obtain ⟨t, rfl⟩ := ry
  obtain ⟨its, r, pl, hz⟩ := I.tuple hq
  obtain ⟨j, h1, h2, h3, h4, h5⟩ := atI_get he
  obtain ⟨w, ew, rw'⟩ := r.get h2
  have hl := r.length
  have hn := line63
  have fin : EP X pins σ Q w s := ⟨z, H, I, rw', q⟩
  exact subscriptTail_builtinR (x := w) pl.typeIs slot_tuple_getitem.lookup
    (getItem_tuple (j := j) (Q := fun r s' => r = w ∧ EP X pins σ Q r s') pl (by omega) (by omega) (by rw [List.size_toArray, ← hl]; exact h1) (by simpa using ew) ⟨rfl, fin⟩) hs
theorem ix_str : IxR X rIxS := by
  intro value slice pins s σ H x y v u Q I rx ry h hs
  obtain ⟨z, i, c, rfl, rfl, hz, he, q⟩ := h
  obtain ⟨t, rfl⟩ := rx
  obtain ⟨t', rfl⟩ := ry
  obtain ⟨j, h1, h2, h3, h4, h5⟩ := atI_get he
  have hl : z.cps.toList.length = z.length := by simp [Str.length]
  rw [hl] at h1 h4 h5
  have hn := line63
  exact tail_any (typeIs_str s z t) slot_str_getitem.lookup (getItem_str (c := c) (by
    have e1 : decide (i < -(2 ^ 63 : Int)) = false := decide_eq_false (by omega)
    have e2 : decide (i ≥ 2 ^ 63) = false := decide_eq_false (by omega)
    rw [e1, e2, Bool.or_false]) (by rw [h1]; simpa using h2) ⟨.str ⟨#[c]⟩, H, I.tok _, ⟨_, rfl⟩, q⟩) hs

/-! ### xs[i] = v, any sign -/

/-! ### slices -/
theorem slice_bounds (lo hi : Option Int) (n : Nat) : (sliceBounds lo hi none n).1 = ((HT.sIx n 0 lo : Nat) : Int) ∧ (sliceBounds lo hi none n).2.1 = ((HT.sIx n n hi : Nat) : Int) ∧ (sliceBounds lo hi none n).2.2 = 1 := by
  refine ⟨?_, ?_, rfl⟩
  · cases lo with
    | none => simp [sliceBounds, HT.sIx]
    | some i =>
      simp only [sliceBounds, HT.sIx, Option.getD_none, show (1 : Int) > 0 by decide, if_true]
      by_cases h : i < 0
      · simp only [h, if_true] <;> omega
      · simp only [h, if_false] <;> omega
  · cases hi with
    | none => simp [sliceBounds, HT.sIx]
    | some i =>
      simp only [sliceBounds, HT.sIx, Option.getD_none, show (1 : Int) > 0 by decide, if_true]
      by_cases h : i < 0
      · simp only [h, if_true] <;> omega
      · simp only [h, if_false] <;> omega
theorem slicePick_cut (its : List Value) (lo hi : Option Int) : slicePick its.toArray lo hi none = ((its.drop (HT.sIx its.length 0 lo)).take (HT.sIx its.length its.length hi - HT.sIx its.length 0 lo)).toArray := by
  obtain ⟨h1, h2, h3⟩ := slice_bounds lo hi its.toArray.size
  unfold slicePick
  rw [h1, h2, h3]
  simp only [sliceRange_one, pick_run, List.size_toArray] <;> rfl
noncomputable def rSlL (K : PySem.W.Frag) : V → Option Int → Option Int → Hp → VK → Prop := fun x lo hi H Q => ∃ a xs, x = .ref a ∧ SqL K H a xs ∧ ∀ p, H p = none → Q (.ref p) (upd H p (.lst (cutV xs lo hi)))
theorem sl_list : SlR X (rSlL X.K) := by
  intro pins s σ H x v vl vu lo hi sl Q I rx hs pl pu h
  obtain ⟨a, xs, rfl, hx, q⟩ := h
  cases rx
  obtain ⟨its, r, ht, hz⟩ := I.list hx
  have hlen := r.length
  refine ⟨"list", _, slot_list_getitem.lookup, ht.isList.typeIs, ?_⟩
  refine wpAny_getItem_list_slice ht.isList hs pl pu .none (by simp) ?_ (by rw [List.size_toArray] <;> omega)
  rw [slicePick_cut, ← hlen]
  refine ⟨.ref s.heap.objs.size, _, I.laid (t' := s.toks) (o := .lst (cutV xs lo hi)) (fun b ob q => Heap.get?_push_of_some _ q) (Nat.le_refl _) ?_, rfl, q _ (I.hok.fresh (Nat.le_refl _))⟩
  exact ⟨Nat.le_trans (cutV_length xs lo hi) hz, _, 0, (r.drop (HT.sIx xs.length 0 lo)).take (HT.sIx xs.length xs.length hi - HT.sIx xs.length 0 lo), Heap.get?_push_size _ rfl⟩

/-! ### in, not in: flat items -/
noncomputable def flatV : V → Bool
  | .non => true
  | .bl _ => true
  | .int _ => true
  | .str _ => true
  | _ => false
noncomputable def eqV : V → V → Bool
  | .non, .non => true
  | .bl a, .bl b => a == b
  | .bl a, .int b => (if a then 1 else 0) == b
  | .int a, .bl b => a == (if b then 1 else 0)
  | .int a, .int b => a == b
  | .str a, .str b => a == b
  | _, _ => false
theorem eqAt_V {A : Around} {s : Shared} {y x : V} {u v : Value} (ry : RelV y u) (rx : RelV x v) (fy : flatV y = true) (fx : flatV x = true) : SeqAt.EqAt A s u v (eqV y x) := by
  cases y with
  | non =>
    cases ry
    cases x with
    | non => cases rx; exact SeqAt.EqAt.same _
    | bl b => cases rx; exact SeqAt.EqAt.none_bool b
    | int b => obtain ⟨t, rfl⟩ := rx; exact SeqAt.EqAt.none_int b t
    | str b => obtain ⟨t, rfl⟩ := rx; exact SeqAt.EqAt.none_str b t
    | _ => exact absurd (show false = true from fx) Bool.false_ne_true
  | bl a =>
    cases ry
    cases x with
    | non => cases rx; exact SeqAt.EqAt.bool_none a
    | bl b => cases rx; exact SeqAt.EqAt.bool_bool a b
    | int b => obtain ⟨t, rfl⟩ := rx; exact SeqAt.EqAt.bool_int a b t
    | str b => obtain ⟨t, rfl⟩ := rx; exact SeqAt.EqAt.bool_str a b t
    | _ => exact absurd (show false = true from fx) Bool.false_ne_true
  | int a =>
    obtain ⟨t', rfl⟩ := ry
    cases x with
    | non => cases rx; exact SeqAt.EqAt.int_none a t'
    | bl b => cases rx; exact SeqAt.EqAt.int_bool a t' b
    | int b => obtain ⟨t, rfl⟩ := rx; exact SeqAt.EqAt.int_int a t' b t
    | str b => obtain ⟨t, rfl⟩ := rx; exact SeqAt.EqAt.int_str a t' b t
    | _ => exact absurd (show false = true from fx) Bool.false_ne_true
  | str a =>
    obtain ⟨t', rfl⟩ := ry
    cases x with
    | non => cases rx; exact SeqAt.EqAt.str_none a t'
    | bl b => cases rx; exact SeqAt.EqAt.str_bool a t' b
    | int b => obtain ⟨t, rfl⟩ := rx; exact SeqAt.EqAt.str_int a t' b t
    | str b => obtain ⟨t, rfl⟩ := rx; exact SeqAt.EqAt.str_str a t' b t
    | _ => exact absurd (show false = true from fx) Bool.false_ne_true
  | _ => exact absurd (show false = true from fy) Bool.false_ne_true
noncomputable def eqU (x : V) (u : Value) : Bool := match u with
  | .none => eqV .non x
  | .bool b => eqV (.bl b) x
  | .int i _ => eqV (.int i) x
  | .str z _ => eqV (.str z) x
  | _ => false
theorem eqU_of {x y : V} {u : Value} (r : RelV y u) (f : flatV y = true) : eqU x u = eqV y x := by
  cases y with
  | non => cases r; rfl
  | bl b => cases r; rfl
  | int i => obtain ⟨t, rfl⟩ := r; rfl
  | str z => obtain ⟨t, rfl⟩ := r; rfl
  | _ => exact absurd (show false = true from f) Bool.false_ne_true
theorem any_eqU {x : V} : ∀ {xs : List V} {us : List Value}, Vals xs us → xs.all flatV = true → us.any (eqU x) = xs.any fun y => eqV y x
  | _, _, .nil, _ => rfl
  | y :: xs, u :: us, .cons r t, f => by
    rw [List.all_cons, Bool.and_eq_true] at f
    rw [List.any_cons, List.any_cons, eqU_of r f.1, any_eqU t f.2]
theorem mem_eqAt {A : Around} {s : Shared} {x : V} {v : Value} (rx : RelV x v) (fx : flatV x = true) : ∀ {xs : List V} {us : List Value}, Vals xs us → xs.all flatV = true → ∀ u ∈ us, SeqAt.EqAt A s u v (eqU x u)
  | _, _, .nil, _ => fun u hu => by cases hu
  | y :: xs, u :: us, .cons r t, f => fun u' hu => by
    rw [List.all_cons, Bool.and_eq_true] at f
    rcases List.mem_cons.mp hu with rfl | hu
    · rw [eqU_of r f.1]; exact eqAt_V r rx f.1 fx
    · exact mem_eqAt rx fx t f.2 u' hu
noncomputable def inV (x : V) (xs : List V) : Bool := xs.any fun y => eqV y x
noncomputable def rIn (K : PySem.W.Frag) (neg : Bool) : R2 := fun x y H Q => ∃ p xs, y = .ref p ∧ (SqL K H p xs ∨ SqT K H p xs) ∧ flatV x = true ∧ xs.all flatV = true ∧ Q (.bl (if neg then !inV x xs else inV x xs)) H
theorem op_in_seq : OpR X (compareOp .In) (rIn X.K false) := by
  intro pins s σ H x y v u Q I rx ry h
  obtain ⟨p, xs, rfl, hq, fx, fs, q⟩ := h
  cases ry
  rcases hq with hq | hq
  · obtain ⟨its, r, pl, hz⟩ := I.list hq
    refine SeqAt.in_listAt (eqU x) pl.isList (fun w hw => mem_eqAt rx fx r fs w (by simpa using hw)) ⟨.bl _, H, I, rfl, ?_⟩
    rw [show its.toArray.any (eqU x) = its.any (eqU x) by simp, any_eqU r fs]
    exact q
  · obtain ⟨its, r, pl, hz⟩ := I.tuple hq
    refine SeqAt.in_tupleAt (eqU x) pl (fun w hw => mem_eqAt rx fx r fs w (by simpa using hw)) ⟨.bl _, H, I, rfl, ?_⟩
    rw [show its.toArray.any (eqU x) = its.any (eqU x) by simp, any_eqU r fs]
    exact q

/-! ### len, list(x), tuple(x) of any list or tuple that is read -/
theorem call_list_of : CallR X (.type "list") (fun xs H Q => ∃ p ys, xs = [.ref p] ∧ (SqL X.K H p ys ∨ SqT X.K H p ys) ∧ ∀ l, H l = none → Q (.ref l) (upd H l (.lst ys))) := by
  intro pins s σ H xs us Q I r h
  obtain ⟨p, ys, rfl, hq, q⟩ := h
  obtain ⟨u, rfl, rx⟩ := vals1 r
  cases rx
  have fin : ∀ (its : List Value), Vals ys its → ys.length ≤ sizeLine → ∀ (h' : Heap) (c' : Nat), (∀ b o', s.heap.get? b = some o' → h'.get? b = some o') →
      h'.get? s.heap.objs.size = some { cls := .type "list", dict := none, data := .seq its.toArray c', slots := #[] } → EP X pins σ Q (.ref s.heap.objs.size) { s with heap := h' } := fun its r' hz h' c' kp e =>
    ⟨.ref s.heap.objs.size, _, I.laid (t' := s.toks) kp (Nat.le_refl _) (show ObjOk X.prog X.w _ h' _ (.lst ys) from ⟨hz, its, c', r', e⟩), rfl, q _ (I.hok.fresh (Nat.le_refl _))⟩
  rcases hq with hq | hq
  · obtain ⟨its, r', pl, hz⟩ := I.list hq
    have hlen := r'.length
    obtain ⟨o, ho, hc, n, hd⟩ := pl.isList
    exact call_list_seq p (.inl rfl) ho hc hd (fun h' c' kp e => fin its r' hz h' c' kp e) (by simp only [List.size_toArray] <;> omega)
  · obtain ⟨its, r', pl, hz⟩ := I.tuple hq
    have hlen := r'.length
    obtain ⟨o, ho, hc, n, hd⟩ := pl
    exact call_list_seq p (.inr rfl) ho hc hd (fun h' c' kp e => fin its r' hz h' c' kp e) (by simp only [List.size_toArray] <;> omega)

/-! ### the call of a builtin's method: o.m(..) -/
noncomputable def tyV (K : PySem.W.Frag) (T : String) (x : V) (H : Hp) : Prop := match x with
  | .str _ => T = "str"
  | .int _ => T = "int"
  | .ref p => (T = "list" ∧ ∃ xs, SqL K H p xs) ∨ (T = "tuple" ∧ ∃ o, K.lookup p = some o ∧ o.cls = .type "tuple" ∧ o.dict = none) ∨
      (T = "dict" ∧ ((∃ kvs, H p = some (.dK kvs)) ∨ ∃ kvs, H p = some (.dT kvs))) ∨ (T = "set" ∧ ∃ S n, H p = some (.set S n))
  | _ => False
theorem tyV_is {pins : List (Addr × Obj)} {σ : St} {H : Hp} {s : Shared} {T : String} {x : V} {v : Value} (I : Inv X pins σ H s) (r : RelV x v) (ty : tyV X.K T x H) :
    s.TypeIs v T ∧ ∀ a, v = .ref a → ∃ ob, s.heap.get? a = some ob ∧ ob.dict = none := by
  cases x with
  | str z =>
    obtain ⟨t, rfl⟩ := r
    cases (show T = "str" from ty)
    exact ⟨typeIs_str s z t, fun _ e => nomatch e⟩
  | int i =>
    obtain ⟨t, rfl⟩ := r
    cases (show T = "int" from ty)
    exact ⟨typeIs_int s i t, fun _ e => nomatch e⟩
  | ref p =>
    cases r
    rcases ty with ⟨rfl, xs, hq⟩ | ⟨rfl, o, hk, hc, hd⟩ | ⟨rfl, hk⟩ | ⟨rfl, S, n, hk⟩
    · obtain ⟨its, _, pl, _⟩ := I.list hq
      refine ⟨pl.isList.typeIs, fun a e => ?_⟩
      cases e
      obtain ⟨o, n, e, c, hd, _⟩ := pl
      exact ⟨o, e, hd⟩
    · refine ⟨⟨o, I.kIn p o hk, hc⟩, fun a e => ?_⟩
      cases e
      exact ⟨o, I.kIn _ o hk, hd⟩
    · have z : ∃ o, s.heap.get? p = some o ∧ o.ExactDict := by
        rcases hk with ⟨kvs, hk⟩ | ⟨kvs, hk⟩
        · obtain ⟨_, _, _, _, o, _, _, e, ex, _⟩ := I.hok p _ hk
          exact ⟨o, e, ex⟩
        · obtain ⟨_, _, _, _, o, _, _, e, ex, _⟩ := I.hok p _ hk
          exact ⟨o, e, ex⟩
      obtain ⟨o, e, ex⟩ := z
      refine ⟨⟨o, e, ex.1⟩, fun a e2 => ?_⟩
      cases e2
      exact ⟨o, e, ex.2.1⟩
    · obtain ⟨o, _, _, _, e, ex, _⟩ := I.hok p _ hk
      refine ⟨⟨o, e, ex.1⟩, fun a e2 => ?_⟩
      cases e2
      exact ⟨o, e, ex.2.1⟩
  | _ => exact False.elim ty
noncomputable def tBM (K : PySem.W.Frag) (T : String) (r : V → List V → Hp → VK → Prop) (to : TE) (t : TA) : TE := fun σ H Q => to σ H fun x H1 => tyV K T x H1 ∧ t σ H1 fun xs H2 => r x xs H2 Q
variable {o e : Expr} {es : List Expr} {to : TE} {t : TA} {name : Str} {apos cpos : Pos} {T id : String} {r : V → List V → Hp → VK → Prop}
theorem pe_bm (pa : PlainAttrs T) (slot : Slot T name id) (hty : typeOf (.builtin id) = pure (.type "method_descriptor")) (hm : MtR X id r) (ho : PE X o to) (ha : PA X (e :: es) t)
    (hbase : attributeBase o name X.env (eval o X.env) = eval o X.env := by rfl)
    (hfew : ((backTo cpos (starEach (e :: es) X.env)).all (fun x => !x.1) && (backToKw cpos (keywordEach [] X.env)).all (fun x => x.1.isSome)
      && decide ((e :: es).length + ([] : List Keyword).length + (if ([] : List Keyword).isEmpty then 0 else 1) < 30)) = true := by rfl)
    (hline : (apos.endLine == cpos.line) = true := by rfl) (hs : starEach (e :: es) X.env = (false, eval e X.env) :: starEach es X.env := by rfl) (hplain : (backTo cpos (starEach es X.env)).any (·.1) = false := by rfl) :
    PE X (.Call (.Attribute o name apos) (e :: es) [] cpos) (tBM X.K T r to t) := by
  intro pins s σ H Q I h
  refine wpAny_Call_method_late hbase hfew hline rfl (thn (ho pins s σ H _ I h) fun v s1 ⟨x, H1, I1, r1, ty, q1⟩ => ?_)
  obtain ⟨h1, h2⟩ := tyV_is I1 r1 ty
  refine ⟨T, id, pa, slot, hty, h1, h2, ?_⟩
  have hA := ha cpos pins s1 σ H1 _ I1 q1
  rw [hs] at hA ⊢
  refine Calls.callWith_builtin (by show (false || (backTo cpos (starEach es X.env)).any (·.1)) = false; rw [hplain] <;> rfl) (Calls.evalArgs_plain ?_)
  exact thn hA fun us s2 ⟨vs, H2, I2, r2, q2⟩ => hm pins s2 σ H2 x vs v us Q I2 r1 r2 q2
/- xs.append(e), list.index on a module's tuple .. are MtR facts of 06m -/
end
end L2

namespace L2
open PySem PySem.Spec PyProof.Rows

noncomputable def MtM (X : Cx) (id : String) (r : V → List V → Hp → VK → Prop) : Prop :=
  ∀ (pins : List (Addr × Obj)) (s : Shared) (σ : St) (H : Hp) (x : V) (xs : List V) (v : Value) (us : List Value) (Q : VK), Inv X pins σ H s → RelV x v → Vals xs us → r x xs H Q →
    wpAny (model X.prog X.w) X.A (call (.builtin id) (v :: us)) (EP X pins σ Q) X.xe s

/-! ### lists of values -/
theorem Vals.one : ∀ {x : V} {us : List Value}, Vals [x] us → ∃ u, us = [u] ∧ RelV x u
  | _, _, .cons r .nil => ⟨_, rfl, r⟩

section
variable {X : Cx} {pins : List (Addr × Obj)} {σ : St} {H : Hp} {s : Shared} {l b : Addr} {xs ys zs : List V}

/-! ### the two steps: a tracked list is rewritten, a new list is laid -/
theorem Inv.lset {its its' : List Value} {n : Nat} {f : Array Value → Array Value} {t' : Nat} (I : Inv X pins σ H s) (hH : H l = some (.lst xs))
    (e : s.heap.get? l = some { cls := .type "list", data := .seq its.toArray n }) (hf : f its.toArray = its'.toArray) (hv : Vals ys its') (hz : ys.length ≤ sizeLine) :
    Inv X pins σ (upd H l (.lst ys)) { s with heap := s.heap.update l (Obj.mapSeq f), toks := t' } := by
  have q := PySem.IsL.update e f
  rw [hf] at q
  refine I.write (x := l) (e := l) (by rw [hH]; exact trivial) (.inl rfl) (fun b' u hb hu => (Heap.get?_update_other s.heap (Obj.mapSeq f) (Ne.symm hb)).trans hu) ⟨_, q⟩ ?_
  exact ⟨hz, its', _, hv, q⟩
theorem Inv.lnew {its : List Value} {t' : Nat} (I : Inv X pins σ H s) (hv : Vals ys its) (hz : ys.length ≤ sizeLine) :
    Inv X pins σ (upd H s.heap.objs.size (.lst ys)) { s with heap := s.heap.push { cls := .type "list", data := .seq its.toArray }, toks := t' } :=
  I.laid (fun _ _ q => Heap.get?_push_of_some _ q) (Nat.le_refl _) ⟨hz, its, 0, hv, Heap.get?_push_size _ rfl⟩
theorem Inv.fresh (I : Inv X pins σ H s) : H s.heap.objs.size = none := I.hok.fresh (Nat.le_refl _)
theorem Inv.lstM (I : Inv X pins σ H s) (hH : H l = some (.lst xs)) : xs.length ≤ sizeLine ∧ ∃ (its : List Value) (n : Nat), Vals xs its ∧ xs.length = its.length ∧ s.heap.get? l = some { cls := .type "list", data := .seq its.toArray n } := by
  obtain ⟨z, its, n, r, e⟩ := I.hok l _ hH
  exact ⟨z, its, n, r, r.length, e⟩

end

section
variable {X : Cx}

/-! ### methods -/
noncomputable def rAppend : V → List V → Hp → VK → Prop := fun x vs H Q => ∃ l xs y, x = .ref l ∧ vs = [y] ∧ H l = some (.lst xs) ∧ xs.length < sizeLine ∧ Q .non (upd H l (.lst (xs ++ [y])))
theorem mt_append : MtM X "list.append" rAppend := by
  intro pins s σ H x vs v us Q I rx rv h
  obtain ⟨l, xs, y, rfl, rfl, hH, hz, q⟩ := h
  cases rx
  obtain ⟨u, rfl, ru⟩ := rv.one
  obtain ⟨z, its, n, r, hl, e⟩ := I.lstM hH
  refine call_meets F.slot_list_append ⟨_, e, rfl⟩ F.entry_list_append (F.args_list_append_2 _ _) (PySem.list_append l its.toArray n u (by rw [List.size_toArray]; omega)) ⟨e, ?_⟩
  refine ⟨.non, _, I.lset (its' := its ++ [u]) hH e (by simp) (r.append (.cons ru .nil)) ?_, rfl, q⟩
  rw [List.length_append, List.length_singleton]
  omega






/-! ### list + list, list += list, list * int -/

/-! ### del xs[i] -/
end

/-! ### xs[a:b] = ys -/
section
variable {prog : Program} {w : World} {A : Around} {E : Value → Shared → Prop} {s : Shared}
set_option maxRecDepth 100000 in
end

section
variable {X : Cx}
end
end L2

namespace L2
open PySem PySem.Spec PyProof.Rows

/-! ### lists of pairs as tables -/
section
variable {κ : Type} [DecidableEq κ]
noncomputable def valV (kvs : List (κ × V)) (k : κ) : Option V := (kvs.find? fun kv => decide (kv.1 = k)).map (·.2)
noncomputable def putK (kvs : List (κ × V)) (k : κ) (v : V) : List (κ × V) :=
  if (kvs.any fun kv => decide (kv.1 = k)) = true then kvs.map (fun kv => if kv.1 = k then (kv.1, v) else kv) else kvs ++ [(k, v)]

theorem valV_pos {p : κ × V} {r : List (κ × V)} {k : κ} (e : p.1 = k) : valV (p :: r) k = some p.2 := by simp [valV, List.find?_cons, e]
theorem valV_neg {p : κ × V} {r : List (κ × V)} {k : κ} (e : ¬ p.1 = k) : valV (p :: r) k = valV r k := by simp [valV, List.find?_cons, e]
theorem valV_any (k : κ) : ∀ kvs : List (κ × V), (kvs.any fun kv => decide (kv.1 = k)) = (valV kvs k).isSome
  | [] => rfl
  | p :: r => by
    rw [List.any_cons]
    by_cases e : p.1 = k
    · simp only [valV_pos e, decide_eq_true e, Bool.true_or, Option.isSome_some]
    · rw [valV_neg e, decide_eq_false e, Bool.false_or]; exact valV_any k r
theorem length_putK (kvs : List (κ × V)) (k : κ) (v : V) : (putK kvs k v).length ≤ kvs.length + 1 := by
  unfold putK
  split
  · rw [List.length_map]; omega
  · rw [List.length_append, List.length_cons, List.length_nil]; omega

theorem RelO.isSome_eq {o : Option V} {u : Option Value} (r : RelO o u) : o.isSome = u.isSome := by
  cases o with
  | none => cases u with
    | none => rfl
    | some _ => exact (show False from r).elim
  | some _ => cases u with
    | none => exact (show False from r).elim
    | some _ => rfl

theorem KV.val {kvs : List (κ × V)} {vs : List (κ × Value)} (r : KV kvs vs) (k : κ) : RelO (valV kvs k) (valueAt vs k) := by
  unfold KV at r
  induction r with
  | nil => exact True.intro
  | @cons p q ps qs h t ih =>
    obtain ⟨h1, h2⟩ := h
    by_cases e : p.1 = k
    · have e' : q.1 = k := h1.symm.trans e
      have b : valueAt (q :: qs) k = some q.2 := by simp [valueAt, List.find?_cons, e']
      rw [valV_pos e, b]; exact h2
    · have e' : ¬ q.1 = k := fun z => e (h1.trans z)
      have b : valueAt (q :: qs) k = valueAt qs k := by simp [valueAt, List.find?_cons, e']
      rw [valV_neg e, b]; exact ih
theorem KV.any {kvs : List (κ × V)} {vs : List (κ × Value)} (r : KV kvs vs) (k : κ) : (kvs.any fun kv => decide (kv.1 = k)) = vs.any fun kv => decide (kv.1 = k) := by
  unfold KV at r
  induction r with
  | nil => rfl
  | cons h t ih => rw [List.any_cons, List.any_cons, ih, h.1]
theorem KV.repl {kvs : List (κ × V)} {vs : List (κ × Value)} (r : KV kvs vs) (k : κ) {y : V} {u : Value} (ry : RelV y u) :
    KV (kvs.map fun kv => if kv.1 = k then (kv.1, y) else kv) (vs.map fun kv => if kv.1 = k then (kv.1, u) else kv) := by
  unfold KV at r ⊢
  induction r with
  | nil => exact .nil
  | @cons p q ps qs h t ih =>
    rw [List.map_cons, List.map_cons]
    refine .cons ?_ ih
    obtain ⟨h1, h2⟩ := h
    by_cases e : p.1 = k
    · rw [if_pos e, if_pos (h1.symm.trans e)]; exact ⟨h1, ry⟩
    · rw [if_neg e, if_neg (fun z => e (h1.trans z))]; exact ⟨h1, h2⟩
theorem KV.put {kvs : List (κ × V)} {vs : List (κ × Value)} (r : KV kvs vs) (k : κ) {y : V} {u : Value} (ry : RelV y u) : KV (putK kvs k y) (stored vs k u) := by
  unfold putK stored
  rw [r.any k]
  by_cases e : (vs.any fun kv => decide (kv.1 = k)) = true
  · rw [if_pos e, if_pos e]; exact r.repl k ry
  · rw [if_neg e, if_neg e]; exact Paired.snoc r ⟨rfl, ry⟩
theorem KV.length {kvs : List (κ × V)} {vs : List (κ × Value)} (r : KV kvs vs) : kvs.length = vs.length := Paired.length r
end


/-! ### a tracked dict, its keys ints and texts or tuples of these -/
theorem kV_is {P : Program} {w : World} {k : Key} {u : Value} (r : RelV (kV k) u) : (mixKind P w).is k u = true := by
  cases k with
  | inl i => obtain ⟨t, e⟩ := (show ∃ t, u = Value.int i t from r); subst e; exact mixKind_int P w i t
  | inr x => obtain ⟨t, e⟩ := (show ∃ t, u = Value.str x t from r); subst e; exact mixKind_str P w x t
theorem items_are {P : Program} {w : World} : ∀ {ks : List Key} {us : List Value}, Vals (ks.map kV) us → ItemsAre (mixKind P w) ks us
  | [], _, r => by rw [List.map_nil] at r; cases r; exact .nil
  | k :: ks, _, r => by
    rw [List.map_cons] at r
    cases r with
    | cons h t => exact .cons (kV_is h) (items_are t)

noncomputable abbrev KT (H : Hp) : List (List Key × V) → List (List Key × Addr × Value) → Prop := Paired fun p q => p.1 = q.1 ∧ H q.2.1 = some (.tup (p.1.map kV)) ∧ RelV p.2 q.2.2
theorem KT.val {H : Hp} {kvs : List (List Key × V)} {xs : List (List Key × Addr × Value)} (r : KT H kvs xs) (k : List Key) : RelO (valV kvs k) ((atKey xs k).map (·.2)) := by
  induction r with
  | nil => exact True.intro
  | @cons p q ps qs h t ih =>
    obtain ⟨h1, _, h2⟩ := h
    by_cases e : p.1 = k
    · have e' : q.1 = k := h1.symm.trans e
      have b : atKey (q :: qs) k = some q.2 := by simp [atKey, List.find?_cons, e']
      rw [valV_pos e, b]; exact h2
    · have e' : ¬ q.1 = k := fun z => e (h1.trans z)
      have b : atKey (q :: qs) k = atKey qs k := by simp [atKey, List.find?_cons, e']
      rw [valV_neg e, b]; exact ih
theorem KT.repl {H : Hp} {kvs : List (List Key × V)} {xs : List (List Key × Addr × Value)} (r : KT H kvs xs) (k : List Key) {y : V} {u : Value} (ry : RelV y u) :
    KT H (kvs.map fun kv => if kv.1 = k then (kv.1, y) else kv) (xs.map (putAt k u)) := by
  induction r with
  | nil => exact .nil
  | @cons p q ps qs h t ih =>
    rw [List.map_cons, List.map_cons]
    refine .cons ?_ ih
    obtain ⟨h1, h2, h3⟩ := h
    unfold putAt
    by_cases e : p.1 = k
    · rw [if_pos e, if_pos (h1.symm.trans e)]; exact ⟨h1, h2, ry⟩
    · rw [if_neg e, if_neg (fun z => e (h1.trans z))]; exact ⟨h1, h2, h3⟩
theorem KT.put {H : Hp} {kvs : List (List Key × V)} {xs : List (List Key × Addr × Value)} (r : KT H kvs xs) (k : List Key) {b : Addr} {y : V} {u : Value} (hb : H b = some (.tup (k.map kV))) (ry : RelV y u) :
    KT H (putK kvs k y) (storedH xs k b u) := by
  have e : (kvs.any fun kv => decide (kv.1 = k)) = (atKey xs k).isSome := by
    rw [valV_any, (r.val k).isSome_eq, Option.isSome_map]
  unfold putK storedH
  rw [e]
  by_cases q : (atKey xs k).isSome = true
  · rw [if_pos q, if_pos q]; exact r.repl k ry
  · rw [if_neg q, if_neg q]; exact Paired.snoc r ⟨rfl, hb, ry⟩
theorem KT.keeps {H H' : Hp} {kvs : List (List Key × V)} {xs : List (List Key × Addr × Value)} (r : KT H kvs xs) (ht : ∀ b ys, H b = some (.tup ys) → H' b = some (.tup ys)) : KT H' kvs xs :=
  Paired.mapP r fun _ _ z => ⟨z.1, ht _ _ z.2.1, z.2.2⟩

section
variable {P : Program} {w : World} {H : Hp} {h : Heap} {a : Addr}
theorem rd_of {u : HO} (ok : HOk P w H h) (e : Rd H a u) : ObjOk P w H h a u := e.ok ok
theorem dk_rd {kvs : List (Key × V)} (ok : HOk P w H h) (e : Rd H a (.dK kvs)) : kvs.length ≤ sizeLine ∧ (a == sysModules) = false ∧ ∃ vs, KV kvs vs ∧ h.DictOf (mixKind P w) a vs :=
  show ObjOk P w H h a (.dK kvs) from rd_of ok e
theorem dk_of {kvs : List (Key × V)} (ok : HOk P w H h) (e : H a = some (.dK kvs)) : kvs.length ≤ sizeLine ∧ (a == sysModules) = false ∧ ∃ vs, KV kvs vs ∧ h.DictOf (mixKind P w) a vs := dk_rd ok (.inl e)
theorem key_of {ks : List Key} (ok : HOk P w H h) (e : H a = some (.tup (ks.map kV))) : (tupleKind (mixKind P w)).is h ks a := by
  obtain ⟨_, its, r, o, h1, h2, n, h3⟩ := (show ObjOk P w H h a (.tup (ks.map kV)) from ok a _ e)
  exact ⟨o, its.toArray, n, h1, h2, h3, by simpa using items_are r⟩
theorem dt_rd {kvs : List (List Key × V)} (ok : HOk P w H h) (e : Rd H a (.dT kvs)) : kvs.length ≤ sizeLine ∧ (a == sysModules) = false ∧
    ∃ xs, KT H kvs xs ∧ h.DictOfH (tupleKind (mixKind P w)) a xs := by
  obtain ⟨z, y, xs, r, o, es, ep, h1, h2, h3, h4, h5⟩ := (show ObjOk P w H h a (.dT kvs) from rd_of ok e)
  refine ⟨z, y, xs, r, o, es, ep, h1, h2, h3, h4, fun x hx => ?_, h5⟩
  have all : ∀ {l : List (List Key × V)} {m : List (List Key × Addr × Value)}, KT H l m → ∀ x ∈ m, (tupleKind (mixKind P w)).is h x.1 x.2.1 := by
    intro l m q
    induction q with
    | nil => intro x hx; exact nomatch hx
    | @cons p q ps qs hq t ih =>
      intro x hx
      rcases List.mem_cons.mp hx with e | hx
      · subst e
        exact key_of ok (by rw [← hq.1]; exact hq.2.1)
      · exact ih x hx
  exact all r x hx
theorem dt_of {kvs : List (List Key × V)} (ok : HOk P w H h) (e : H a = some (.dT kvs)) : kvs.length ≤ sizeLine ∧ (a == sysModules) = false ∧
    ∃ xs, KT H kvs xs ∧ h.DictOfH (tupleKind (mixKind P w)) a xs := dt_rd ok (.inl e)
end

noncomputable def DGet (H : Hp) (a : Addr) (y : V) (r : Option V) : Prop :=
  (∃ kvs k, Rd H a (.dK kvs) ∧ y = kV k ∧ r = valV kvs k) ∨ ∃ kvs k b, Rd H a (.dT kvs) ∧ y = .ref b ∧ H b = some (.tup (k.map kV)) ∧ r = valV kvs k
noncomputable def DPut (H : Hp) (a : Addr) (y v : V) (H' : Hp) : Prop :=
  (∃ kvs k, H a = some (.dK kvs) ∧ y = kV k ∧ kvs.length < sizeLine ∧ H' = upd H a (.dK (putK kvs k v))) ∨
  ∃ kvs k b, H a = some (.dT kvs) ∧ y = .ref b ∧ H b = some (.tup (k.map kV)) ∧ kvs.length < sizeLine ∧ H' = upd H a (.dT (putK kvs k v))
theorem DPut.k {H : Hp} {a : Addr} {kvs : List (Key × V)} {k : Key} {v : V} (e : H a = some (.dK kvs)) (hl : kvs.length < sizeLine) : DPut H a (kV k) v (upd H a (.dK (putK kvs k v))) := .inl ⟨kvs, k, e, rfl, hl, rfl⟩


section
variable {X : Cx} {pins : List (Addr × Obj)} {σ : St} {H : Hp} {s : Shared} {a : Addr} {y v : V} {u r : Value} {o : Option V} {A : Around} {E : Value → Shared → Prop}

theorem Inv.big (I : Inv X pins σ H s) : sysModules < s.heap.objs.size := by
  have h : mainGlobals < s.heap.objs.size := (I.mod.glob.keeps I.bk).lt
  exact Nat.lt_trans (by decide) h

theorem d_getItem {Q : Value → Shared → Prop} (hu : A.units + 1 < cLine) (I : Inv X pins σ H s) (g : DGet H a y (some v)) (ry : RelV y u) (h : ∀ w' s', Inv X pins σ H s' → RelV v w' → Q w' s') :
    wpAny (model X.prog X.w) A (getItem (.ref a) u) Q E s := by
  rcases g with ⟨kvs, k, e, ey, l⟩ | ⟨kvs, k, b, e, ey, eb, l⟩
  · subst ey
    obtain ⟨z, hd, vs, rel, dd⟩ := dk_rd I.hok e
    obtain ⟨w', hw, rw'⟩ := RelO.some_of (v := v) (o := valueAt vs k) (by rw [l]; exact rel.val k)
    exact wpAny_getItem_of (kV_is ry) dd.mapOf hw (h w' _ (I.tok _) rw')
  · subst ey
    cases (show u = Value.ref b from ry)
    obtain ⟨z, hd, xs, rel, dd⟩ := dt_rd I.hok e
    obtain ⟨w', hw, rw'⟩ := RelO.some_of (v := v) (o := (atKey xs k).map (·.2)) (by rw [l]; exact rel.val k)
    obtain ⟨p, hp, hp2⟩ := Option.map_eq_some_iff.mp hw
    refine wpAny_getItem_heap (tupleKind_room_in1 hu) (key_of I.hok eb) dd hp ?_
    rw [hp2]
    exact h w' _ (I.tok _) rw'
theorem d_notIn {Q : Value → Shared → Prop} (hu : A.units + 1 < cLine) (I : Inv X pins σ H s) (g : DGet H a y o) (ry : RelV y u) (h : ∀ s', Inv X pins σ H s' → Q (.bool (!o.isSome)) s') :
    wpAny (model X.prog X.w) A (compareOp .NotIn u (.ref a)) Q E s := by
  rcases g with ⟨kvs, k, e, ey, l⟩ | ⟨kvs, k, b, e, ey, eb, l⟩
  · subst ey
    obtain ⟨z, hd, vs, rel, dd⟩ := dk_rd I.hok e
    refine wpAny_notIn_of (kV_is ry) hd dd.mapOf ?_
    rw [← (rel.val k).isSome_eq, ← l]
    exact h _ (I.tok _)
  · subst ey
    cases (show u = Value.ref b from ry)
    obtain ⟨z, hd, xs, rel, dd⟩ := dt_rd I.hok e
    refine wpAny_notIn_heap (tupleKind_room_in1 hu) (key_of I.hok eb) hd dd ?_
    have q := (rel.val k).isSome_eq
    rw [Option.isSome_map] at q
    rw [← q, ← l]
    exact h _ (I.tok _)
theorem d_write {h' : Heap} {t' : Nat} {ob : HO} (I : Inv X pins σ H s) (mu : Mut (H a)) (hs : Heap.SameBut a s.heap h') (he : ∃ q, h'.get? a = some q) (new : ObjOk X.prog X.w (upd H a ob) h' a ob) :
    Inv X pins σ (upd H a ob) { s with heap := h', toks := t' } :=
  I.write (x := a) (e := a) mu (.inl rfl) (fun b q hb z => (hs.2 b hb).trans z) he new
theorem dk_new {P : Program} {w : World} {H' : Hp} {h' : Heap} {kvs : List (Key × V)} {vs : List (Key × Value)} (z : kvs.length ≤ sizeLine) (hd : (a == sysModules) = false) (rel : KV kvs vs) (dd : h'.DictOf (mixKind P w) a vs) :
    ObjOk P w H' h' a (.dK kvs) := ⟨z, hd, vs, rel, dd⟩
theorem d_setItem {H' : Hp} {Q : Unit → Shared → Prop} (hu : A.units + 1 < cLine) (I : Inv X pins σ H s) (g : DPut H a y v H') (ry : RelV y u) (rv : RelV v r) (h : ∀ s', Inv X pins σ H' s' → Q () s') :
    wpAny (model X.prog X.w) A (setItem (.ref a) u r) Q E s := by
  rcases g with ⟨kvs, k, e, ey, l, eH⟩ | ⟨kvs, k, b, e, ey, eb, l, eH⟩
  · subst ey eH
    obtain ⟨z, hd, vs, rel, dd⟩ := dk_of I.hok e
    have hz : vs.length ≤ sizeLine := by rw [← rel.length]; exact z
    have hl : (putK kvs k v).length ≤ sizeLine := by have := length_putK kvs k v; omega
    refine wpAny_setItem_pairs (hsz := hz) (kV_is ry) dd fun h' dd' hs => h _ ?_
    have he : ∃ q, h'.get? a = some q := let ⟨q, _, _, hq, _⟩ := dd'; ⟨q, hq⟩
    exact d_write I (by rw [e]; exact True.intro) hs he (dk_new hl hd (rel.put k rv) dd')
  · subst ey eH
    cases (show u = Value.ref b from ry)
    obtain ⟨z, hd, xs, rel, dd⟩ := dt_of I.hok e
    have hz : xs.length ≤ sizeLine := by rw [← Paired.length rel]; exact z
    have hl : (putK kvs k v).length ≤ sizeLine := by have := length_putK kvs k v; omega
    refine wpAny_setItem_heap (hsz := hz) (tupleKind_room_in1 hu) (key_of I.hok eb) dd fun h' dd' hs => h _ ?_
    obtain ⟨q, es, ep, hq, h2, h3, h4, _, h5⟩ := dd'
    refine d_write I (by rw [e]; exact True.intro) hs ⟨q, hq⟩ ⟨hl, hd, _, (rel.put k eb rv).keeps fun c ys ec => ?_, q, es, ep, hq, h2, h3, h4, h5⟩
    rw [upd_ne (ne_of ec e (fun z => nomatch z))]
    exact ec
end

section
variable {X : Cx} {pins : List (Addr × Obj)} {σ : St} {H : Hp} {s : Shared} {a : Addr} {kvs : List (Key × V)} {k : Key} {u : Value} {A : Around} {E : Value → Shared → Prop}
theorem d_len {Q : Value → Shared → Prop} (I : Inv X pins σ H s) (e : Rd H a (.dK kvs)) (h : ∀ t s', Inv X pins σ H s' → Q (.int kvs.length t) s') : wpAny (model X.prog X.w) A (call (.builtin "len") [.ref a]) Q E s := by
  obtain ⟨z, hd, vs, rel, dd⟩ := dk_rd I.hok e
  refine call_len_dict hd dd (by rw [← rel.length]; rw [sizeLine_eq] at z; omega) ?_
  rw [← rel.length]
  exact h _ _ (I.tok _)
end


/-! ### readings and rules -/
noncomputable def NoSl (i : Expr) : Prop := ∀ ov iv, subscripted i false ov iv = operate [ov, iv] (getItem ov iv)
theorem subD_of {prog : Program} {w : World} {A : Around} {E : Value → Shared → Prop} {s : Shared} {env : Env} {value slice : Expr} {pos : Pos} {T id : String} {Q : Value → Shared → Prop}
    (hl : typeLookup (.type T) "__getitem__" = pure (some (.builtin id))) (hs : NoSl slice)
    (h : wpAny (model prog w) A (eval value env) (fun o s₁ => wpAny (model prog w) A (eval slice env) (fun i s₂ => s₂.TypeIs o T ∧ wpAny (model prog w) A (getItem o i) Q E s₂) E s₁) E s) :
    wpAny (model prog w) A (eval (.Subscript value slice pos) env) Q E s := by
  refine Subscript_ (wpAny_mono h (fun o s₁ h₁ => wpAny_mono h₁ (fun i s₂ h₂ => ?_) fun _ _ x => x) fun _ _ x => x)
  obtain ⟨hT, h₂⟩ := h₂
  unfold subscriptTail
  refine wpAny_bind ?_
  rw [getitemInPython_of_ne hT.not_modules]
  refine wpAny_bind (wpAny_specialOf hT hl ?_)
  have fin : wpAny (model prog w) A (subscripted slice false o i) (fun r s₃ => wpAny (model prog w) A (letTemporaryGo value o r >>= fun _ => pure r) Q E s₃) E s₂ := by
    rw [hs o i]
    exact wpAny_operating (wpAny_mono h₂ (fun r s₃ h₃ => wpAny_bind (wpAny_letTemporaryGo (wpAny_pure h₃))) fun _ _ x => x)
  first
    | exact wpAny_pure (wpAny_bind fin)
    | exact wpAny_bind (wpAny_pure (wpAny_bind fin))
    | exact wpAny_bind fin

theorem dict_typeIs {X : Cx} {pins : List (Addr × Obj)} {σ : St} {H : Hp} {s : Shared} {a : Addr} {y : V} {o : Option V} (I : Inv X pins σ H s) (g : DGet H a y o) : s.TypeIs (.ref a) "dict" := by
  rcases g with ⟨kvs, k, e, _, _⟩ | ⟨kvs, k, b, e, _, _, _⟩
  · obtain ⟨_, _, vs, _, dd⟩ := dk_rd I.hok e
    exact dd.typeIs
  · obtain ⟨_, _, xs, _, dd⟩ := dt_rd I.hok e
    exact dd.typeIs

noncomputable def tDGet (td ty : TE) : TE := fun σ H Q => td σ H fun x H1 => ty σ H1 fun y H2 => ∃ a v, x = .ref a ∧ DGet H2 a y (some v) ∧ Q v H2
noncomputable def tDIn (ty td : TE) : TE := fun σ H Q => ty σ H fun y H1 => td σ H1 fun x H2 => ∃ a o, x = .ref a ∧ DGet H2 a y o ∧ Q (.bl o.isSome) H2
noncomputable def tDNotIn (ty td : TE) : TE := fun σ H Q => ty σ H fun y H1 => td σ H1 fun x H2 => ∃ a o, x = .ref a ∧ DGet H2 a y o ∧ Q (.bl (!o.isSome)) H2
noncomputable def sDPut (td ty tv : TE) : TS := fun D σ H => tv σ H fun v H1 => td σ H1 fun x H2 => ty σ H2 fun y H3 => ∃ a H4, x = .ref a ∧ DPut H3 a y v H4 ∧ D.nx σ H4

section
variable {X : Cx} {o i e value : Expr} {pos pos' tpos : Pos} {td ty tv : TE}
theorem pe_dget (hu : X.A.units + 1 < cLine) (ho : PE X o td) (hi : PE X i ty) (hs : NoSl i) : PE X (.Subscript o i pos) (tDGet td ty) := by
  intro pins s σ H Q I h
  refine subD_of PySem.F.slot_dict_getitem.lookup hs (thn (ho pins s σ H _ I h) fun u s1 ⟨x, H1, I1, rx, q1⟩ => thn (hi pins s1 σ H1 _ I1 q1) fun iv s2 ⟨y, H2, I2, ry, a, v, ex, g, q2⟩ => ?_)
  subst ex
  obtain rfl : u = Value.ref a := rx
  exact ⟨dict_typeIs I2 g, d_getItem hu I2 g ry fun w' s3 I3 rw' => ⟨v, H2, I3, rw', q2⟩⟩
theorem pc_dnotin (hu : X.A.units + 1 < cLine) (hi : PE X i ty) (ho : PE X o td) : PC X .NotIn i o (tDNotIn ty td) := by
  intro pins s σ H Q I h
  refine thn (hi pins s σ H _ I h) fun iv s1 ⟨y, H1, I1, ry, q1⟩ => thn (ho pins s1 σ H1 _ I1 q1) fun u s2 ⟨x, H2, I2, rx, a, ov, ex, g, q2⟩ => ?_
  subst ex
  obtain rfl : u = Value.ref a := rx
  exact d_notIn hu I2 g ry fun s3 I3 => ⟨.bl (!ov.isSome), H2, I3, rfl, q2⟩
theorem ps_dput (hu : X.A.units + 1 < cLine) (ho : PE X o td) (hi : PE X i ty) (hv : PE X value tv) (hs : swapsWith value (some (.Subscript o i pos')) pos.line X.env = pure false) :
    PS X (.Assign [.Subscript o i pos'] value pos) (sDPut td ty tv) := by
  intro pins s σ H D I h
  refine wpAny_Assign_Subscript (thn (hv pins s σ H _ I h) fun r s1 ⟨v, H1, I1, rv, q1⟩ => thn (ho pins s1 σ H1 _ I1 q1) fun u s2 ⟨x, H2, I2, rx, q2⟩ => thn (hi pins s2 σ H2 _ I2 q2) fun iv s3 ⟨y, H3, I3, ry, a, H4, ex, g, q3⟩ => ?_) hs
  subst ex
  obtain rfl : u = Value.ref a := rx
  exact d_setItem hu I3 g ry rv fun s4 I4 => ⟨σ, H4, I4, q3⟩
end


/-! ### displays -/
theorem dk_empty {P : Program} {w : World} {H : Hp} (h : Heap) (hb : sysModules < h.objs.size) : ObjOk P w H (h.push { cls := .type "dict", data := .dict #[] }) h.objs.size (.dK []) :=
  ⟨Nat.zero_le _, beq_eq_false_iff_ne.mpr (Ne.symm (Nat.ne_of_lt hb)), [], .nil, Heap.DictOf.new h⟩
noncomputable def tDNewK : TE := fun _ H Q => ∀ p, H p = none → Q (.ref p) (upd H p (.dK []))
section
variable {X : Cx} {pos : Pos}
theorem pe_dnewK : PE X (.Dict [] [] pos) tDNewK := fun pins s σ H Q I h =>
  wpAny_Dict_empty ⟨.ref s.heap.objs.size, _, I.laid (a := s.heap.objs.size) (o := .dK []) (t' := s.toks) (fun _ _ q => Heap.get?_push_of_some _ q) (Nat.le_refl _) (dk_empty s.heap I.big), rfl, h _ (I.hok.fresh (Nat.le_refl _))⟩
end


noncomputable def mergeK (kvs more : List (Key × V)) : List (Key × V) := more.foldl (fun acc kv => putK acc kv.1 kv.2) kvs
theorem KV.merge : ∀ {more : List (Key × V)} {rs : List (Key × Value)} {kvs : List (Key × V)} {vs : List (Key × Value)}, KV more rs → KV kvs vs → KV (mergeK kvs more) (merged vs rs) := by
  intro more rs kvs vs r
  unfold KV at r
  induction r generalizing kvs vs with
  | nil => intro q; exact q
  | @cons p q ps qs h t ih =>
    intro r0
    have e : KV (putK kvs p.1 p.2) (stored vs q.1 q.2) := by
      have := r0.put p.1 h.2
      rw [← h.1]; exact this
    exact ih e
theorem length_mergeK : ∀ (more kvs : List (Key × V)), (mergeK kvs more).length ≤ kvs.length + more.length
  | [], kvs => by show kvs.length ≤ kvs.length + 0; omega
  | p :: r, kvs => by
    have h1 := length_mergeK r (putK kvs p.1 p.2)
    have h2 := length_putK kvs p.1 p.2
    show (mergeK (putK kvs p.1 p.2) r).length ≤ _
    rw [List.length_cons]; omega


/-! ### methods -/
set_option genInjectivity false in
structure M2 (X : Cx) (o : Expr) (m : Str) (apos : Pos) (e f : Expr) (cpos : Pos) : Prop where
  base : attributeBase o m X.env (eval o X.env) = eval o X.env
  few : ((backTo cpos (starEach [e, f] X.env)).all (fun x => !x.1) && (backToKw cpos (keywordEach [] X.env)).all (fun x => x.1.isSome)
    && decide (([e, f] : List Expr).length + ([] : List Keyword).length + (if ([] : List Keyword).isEmpty then 0 else 1) < 30)) = true
  line : (apos.endLine == cpos.line) = true
  trees : backTo cpos (starEach [e, f] X.env) = [(false, eval e X.env), (false, eval f X.env)]

noncomputable def IsD (H : Hp) (a : Addr) : Prop := (∃ kvs, Rd H a (.dK kvs)) ∨ ∃ kvs, Rd H a (.dT kvs)
theorem isD_at {X : Cx} {pins : List (Addr × Obj)} {σ : St} {H : Hp} {s : Shared} {a : Addr} (I : Inv X pins σ H s) (d : IsD H a) :
    s.TypeIs (.ref a) "dict" ∧ (∀ b, Value.ref a = .ref b → ∃ ob, s.heap.get? b = some ob ∧ ob.dict = none) ∧ (a == sysModules) = false := by
  rcases d with ⟨kvs, e⟩ | ⟨kvs, e⟩
  · obtain ⟨_, hd, vs, _, dd⟩ := dk_rd I.hok e
    refine ⟨dd.typeIs, fun b q => ?_, hd⟩
    cases q
    obtain ⟨ob, _, _, h1, h2, _⟩ := dd
    exact ⟨ob, h1, h2.2.1⟩
  · obtain ⟨_, hd, xs, _, dd⟩ := dt_rd I.hok e
    refine ⟨dd.typeIs, fun b q => ?_, hd⟩
    cases q
    obtain ⟨ob, _, _, h1, h2, _⟩ := dd
    exact ⟨ob, h1, h2.2.1⟩

section
variable {X : Cx} {pins : List (Addr × Obj)} {σ : St} {H : Hp} {s : Shared} {a : Addr} {y d : V} {u r : Value} {o : Option V} {A : Around} {E : Value → Shared → Prop}
end

noncomputable def tDGet1 (td ty : TE) : TE := fun σ H Q => td σ H fun x H1 => ∃ a, x = .ref a ∧ IsD H1 a ∧ ty σ H1 fun y H2 => ∃ o, DGet H2 a y o ∧ Q (o.getD .non) H2
noncomputable def tDGet2 (td ty tx : TE) : TE := fun σ H Q => td σ H fun x H1 => ∃ a, x = .ref a ∧ IsD H1 a ∧ ty σ H1 fun y H2 => tx σ H2 fun z H3 => ∃ o, DGet H3 a y o ∧ Q (o.getD z) H3
section
variable {X : Cx} {o e f : Expr} {apos cpos : Pos} {td ty tx : TE}
end

/-! ### dict(d): a copy -/
section
variable {X : Cx} {pins : List (Addr × Obj)} {σ : St} {H : Hp} {s : Shared} {a : Addr} {kvs : List (Key × V)} {A : Around} {E : Value → Shared → Prop}
end


section
variable {X : Cx} {pins : List (Addr × Obj)} {σ : St} {H : Hp} {s : Shared} {a : Addr} {y : V} {u : Value} {A : Around} {E : Value → Shared → Prop}
end
end L2

namespace Att
open PySem PySem.W PySem.Calls PyProof.Rows

/-! ### the script -/
theorem ints_of_wellAll {P : Params} {h : Heap} : ∀ (ns : List Int) (vs : List Value), WellAll P h vs (ns.map WData.int) → IntsAre vs ns := by
  intro ns
  induction ns with
  | nil =>
    intro vs w
    rw [List.map_nil] at w
    cases w
    exact .nil
  | cons n ns ih =>
    intro vs w
    rw [List.map_cons] at w
    cases w with
    | cons a b =>
      cases a
      exact .cons _ _ (ih _ b)

theorem script_of {l : OpenLaw} {n : Nat} (hn : l.most = some n) {P : Params} {h : Heap} {args : List WData} {vals : List Value}
    (hpre : l.row.toRowW.claim.pre args = true) (hwl : WellAll P h vals args) :
    ∃ a vs ns, vals = [Value.ref a] ∧ args = [WData.list (ns.map WData.int)] ∧ h.get? a = some { cls := .type "list", data := .seq vs.toArray } ∧ IntsAre vs ns ∧ ns.length ≤ n := by
  have hsh : WShape.hasAll [] args [.list .int] = true := (pre_splitW hpre).1
  have hc : l.pre.holds [] { args := args } = true := (pre_splitW hpre).2
  obtain ⟨d, r, rfl, h1, h2⟩ := hasAllW_cons hsh
  obtain rfl := hasAllW_nil h2
  obtain ⟨xs, rfl, h3⟩ := hasW_list h1
  obtain ⟨ns, rfl⟩ := items_int h3
  have hlen : ns.length ≤ n := by
    unfold OpenLaw.pre at hc
    have h4 : (WTm.not (.lt (.lit (.int (n : Int))) (.len (.arg 0)))).holds [] { args := [.list (ns.map .int)] } = true := by
      have h4 := (holds_andW hc).1
      rw [hn] at h4
      exact h4
    have h5 := condW_of h4 (w_not (w_lt w_lit (w_len_list (w_arg rfl))))
    rw [List.length_map] at h5
    refine Nat.le_of_not_lt fun q => ?_
    have q' : (n : Int) < ((ns.length : Nat) : Int) := by omega
    first
      | (rw [decide_eq_true q'] at h5; exact absurd h5 (by decide))
      | (simp at h5; omega)
  cases hwl with
  | cons w1 w2 =>
    cases w2
    cases w1 with
    | list ho hall => exact ⟨_, _, ns, rfl, rfl, ho, ints_of_wellAll ns _ hall, hlen⟩

theorem post_true (l : OpenLaw) (args : List WData) : l.row.toRowW.claim.post args (.bool true) args = true :=
  postW_of (r := l.row.toRowW) (X := (true == true))
    (show WShape.has [] (.bool true) .bool = true by first | rfl | decide | simp [WShape.has, WShape.arms, WShape.armsAll])
    (show (WTm.eq .res (.lit (.bool true))).value [] { args := args, res := some (.bool true), after := args } = some (.bool (true == true)) from w_eq_bool (w_res rfl) w_lit) rfl

/-! ### the attachment: holds_open's last premise (the goal 'hc' behind k_head) from a wpAny of the law's body -/

theorem attach_call {l : OpenLaw} {n : Nat} {q : Program} {loose : List Str} {XP : (Str → Option Value) → Heap → Prop} {YP : World → Heap → Prop} {d : DefRec}
    (hn : l.most = some n) (hdf : d.params.defaults = [])
    (call : ∀ (w : World) (s₀ s₁ : Shared) (mg mb : Str → Option Value) (fa : Addr) (o : Obj) (pm cd doc : Value) (a : Addr) (vs : List Value) (ns : List Int),
      Ground q loose [] XP w s₀ mg mb s₁.heap → YP w s₁.heap →
      s₁.heap.get? fa = some o → o.data = .func (docDef d.name d.params d.body d.scope pm cd doc) → s₁.heap.CodeRec cd d.name → mg d.name = some (.ref fa) →
      s₁.heap.get? a = some { cls := .type "list", data := .seq vs.toArray } → IntsAre vs ns → ns.length ≤ n → s₁.gens = #[] →
      codeAny (model l.prog w) callerA (.call (.ref fa) ⟨[.ref a], []⟩) (fun r s' => r = .ok (.ret (.bool true)) ∧ OldK s₁.heap s'.heap ∧ s'.os = s₁.os ∧ AllBare s'.gens) s₁) :
    WalkO q loose XP YP l.row.toRowW d [] (fun f vs => PySem.call f vs) := by
  intro w s₀ s₁ mg mb G Y fa o pm cd doc dV kV ho hd hcd hD hmg hg args vals as hpre hlay hrd hwl hlo
  obtain rfl : dV = .none := Dflts.none hD hdf
  obtain rfl : kV = .none := Dflts.noKw hD
  obtain ⟨a, vs, ns, rfl, rfl, hobj, hints, hlen⟩ := script_of hn hpre hwl
  refine enter_call (codeAny_mono (call w s₀ s₁ mg mb fa o pm cd doc a vs ns G Y ho (fd_plain hd) hcd hmg hobj hints hlen hg) fun r s' hq => ?_)
  obtain ⟨rfl, h2, h3, h4⟩ := hq
  exact ⟨.inl ⟨.bool true, .bool true, [], rfl, fun _ => rfl, .bool true, post_true l _, fun _ => ⟨List.Pairwise.nil, fun _ hm => (nomatch hm)⟩⟩, h2, h3, h4⟩


/-! ### rules over ANY heap (no ledger) from facts about the written part K: the library's own take a ledger (News) for what they write -/
section
variable {prog : Program} {w : World} {A : Around} {E : Value → Shared → Prop} {s : Shared} {K : Frag}





/-! the whole heap as the ledger: makes every rule that writes through a ledger a rule over any heap -/
noncomputable def ledger (h : Heap) (L d : Addr) : List (Addr × Obj) := (List.range h.objs.size).filterMap fun a => if a = L ∨ a = d then none else (h.get? a).map fun o => (a, o)

end
end Att

namespace L2
open PySem PySem.Spec PyProof.Rows

theorem vals_ints : ∀ {vs : List Value} {ns : List Int}, IntsAre vs ns → Vals (ns.map V.int) vs
  | _, _, .nil => .nil
  | _, _, .cons n t h => .cons ⟨t, rfl⟩ (vals_ints h)


end L2

namespace L2
open PySem PySem.Spec PyProof.Rows


end L2

/-! SHORT WORDS over the layer: a def of the text, its body, what a loop and a test want. -/
namespace L2
open PySem PySem.Spec PyProof.Rows

/-! ### the text by places -/
noncomputable def inClass (s : Stmt) (j : Nat) : Stmt := match s with
  | .ClassDef _ _ _ body _ _ _ _ _ _ _ => body.getD j (.Pass ⟨0, 0, 0, 0⟩)
  | _ => .Pass ⟨0, 0, 0, 0⟩
noncomputable def defArgs (s : Stmt) : Arguments := match s with
  | .FunctionDef _ a _ _ _ _ _ _ _ _ => a
  | _ => { posonlyargs := [], args := [], vararg := none, kwonlyargs := [], kw_defaults := [], kwarg := none, defaults := [] }
noncomputable def defBody (s : Stmt) : List Stmt := match s with
  | .FunctionDef _ _ b _ _ _ _ _ _ _ => b
  | _ => []
noncomputable def defScope (s : Stmt) : Scope := match s with
  | .FunctionDef _ _ _ _ _ _ sc _ _ _ => sc
  | _ => { kind := .function, names := [], isGenerator := false, isCoroutine := false }

/-! ### no exception leaves a def -/
noncomputable abbrev CX0 : CXT := fun _ _ _ _ _ _ => False
noncomputable abbrev E0 : XK := fun _ _ _ => False
theorem pass0 {X : Cx} : Passes CX0 X E0 := fun _ _ _ _ _ _ _ h => h.elim

/-! ### a def (or method) of the text as it stands behind the top -/
set_option genInjectivity false in
structure Fun (K : PySem.W.Frag) (x qual : Str) (st : Stmt) (f : Addr) (fd : FuncData) : Prop where
  ex : ∃ (oc : Value) (od : Option Addr) (kV doc pm : Value) (an : Option Addr) (cdv ct : Value) (osl : Array (Option Value)),
    fd = PySem.W.fnOf x qual (defArgs st) (defBody st) (defScope st) .none kV doc pm an cdv ct ∧ K.lookup f = some ⟨oc, od, .func fd, osl⟩ ∧ PySem.W.codeIn K cdv qual = true
  kp : PySem.W.keepIn K (.ref f) = true
section
variable {P : Program} {w : World} {K : PySem.W.Frag} {mg : Str → Option Value} {base : Heap}
theorem Fun.ok {x qual : Str} {st : Stmt} {f : Addr} {fd : FuncData} {N ps : List Str} {k : Nat} {sp : Sp} (F : Fun K x qual st f fd) (S : FnScope N ps (defScope st)) (len : ∀ vs H Q E, sp vs H Q E → vs.length = ps.length)
    (hbody : ∀ (cdv : Value) (A : Around) (outer : List Env) (s : Shared) (H : Hp) (vs : List V) (Q : VK) (E : XK), Room k (A.deeper (envOfC qual (defScope st) s.heap.objs.size f cdv)) → sp vs H Q E →
      ∃ t, PSs (cxOf CX0 P w K mg base N qual (defScope st) f cdv A outer s H E).nox (defBody st) t ∧ t { nx := fun _ H' => Q .non H', rt := Q } (start N vs) H) : FnOk P w K mg base CX0 (k + 1) f fd ps sp := by
  obtain ⟨oc, od, kV, doc, pm, an, cdv, ct, osl, rfl, lk, hcd⟩ := F.ex
  refine fn_of lk hcd S len fun A outer s H vs Q E hr hsp => ?_
  obtain ⟨t, h, q⟩ := hbody cdv A outer s H vs Q E hr hsp
  exact ⟨t, h.nox, q⟩
theorem Fun.binds {x qual : Str} {st : Stmt} {f : Addr} {fd : FuncData} {ps : List Str} (F : Fun K x qual st f fd)
    (h : ∀ (kV doc pm : Value) (an : Option Addr) (cdv ct : Value) (us : List Value), us.length = ps.length → bindArgs (PySem.W.fnOf x qual (defArgs st) (defBody st) (defScope st) .none kV doc pm an cdv ct) ⟨us, []⟩ = pure (ps.zip us)) : Binds K fd ps [] := by
  obtain ⟨oc, od, kV, doc, pm, an, cdv, ct, osl, rfl, lk, hcd⟩ := F.ex
  exact .all (h kV doc pm an cdv ct)
theorem fun_mk {x qual : Str} {st : Stmt} {f : Addr} {oc : Value} {od an : Option Addr} {osl : Array (Option Value)} {kV doc pm cdv ct : Value} (l : K.lookup f = some ⟨oc, od, .func (PySem.W.fnOf x qual (defArgs st) (defBody st) (defScope st) .none kV doc pm an cdv ct), osl⟩)
    (c : PySem.W.codeIn K cdv qual = true) (k : PySem.W.keepIn K (.ref f) = true) : Fun K x qual st f (PySem.W.fnOf x qual (defArgs st) (defBody st) (defScope st) .none kV doc pm an cdv ct) := ⟨⟨oc, od, kV, doc, pm, an, cdv, ct, osl, rfl, l, c⟩, k⟩
end
theorem hu_of {A : Around} {k : Nat} (hr : Room k A) : A.units + 1 < cLine := Nat.lt_of_le_of_lt (Nat.add_le_add_left (by decide : 1 ≤ 64) _) hr.units

/-! ### expressions in short: the name that stands in the i-th slot -/
section
variable {X : Cx}
theorem pv (i : Nat) {x : Str} {pos : Pos} (hN : X.N[i]? = some x := by rfl) (hv : Vis X.env.scope x := by first | exact Or.inl rfl | exact Or.inr (Or.inl rfl) | exact Or.inr (Or.inr rfl)) (hd : (x == ("__debug__" : Str)) = false := by decide)
    (hcd : (x == ("__classdict__" : Str)) = false := by decide) : PE X (.Name x pos) (tVar i) := pe_var hN hv hd hcd
end

/-! ### tests -/
theorem iteT {A B : Prop} (h : A) : if true = true then A else B := by
  rw [if_pos rfl]
  exact h
theorem ite2 {c A B : Prop} [Decidable c] (h1 : c → A) (h2 : ¬ c → B) : if c then A else B := by
  by_cases h : c
  · rw [if_pos h]
    exact h1 h
  · rw [if_neg h]
    exact h2 h

/-! ### heaps -/
noncomputable def Same (H H' : Hp) : Prop := ∀ b o, H b = some o → H' b = some o
theorem Same.refl (H : Hp) : Same H H := fun _ _ h => h
theorem Same.trans {H H1 H2 : Hp} (a : Same H H1) (b : Same H1 H2) : Same H H2 := fun c o h => b c o (a c o h)
theorem Same.free {H H' : Hp} (e : Same H H') {l : Addr} (h : H' l = Option.none) : H l = Option.none := by
  cases q : H l with
  | none => rfl
  | some o =>
    rw [e l o q] at h
    cases h
theorem Same.seq {K : PySem.W.Frag} {H H' : Hp} {a : Addr} {xs : List V} (e : Same H H') (h : SqL K H a xs) : SqL K H' a xs := by
  rcases h with (h | ⟨o, h⟩) | h
  · exact .inl (.inl (e _ _ h))
  · exact .inl (.inr ⟨o, e _ _ h⟩)
  · exact .inr h

end L2

namespace L2
open PySem PySem.Spec PyProof.Rows
section
variable {X : Cx}
theorem call_lenD : CallR X (.builtin "len") (fun xs H Q => ∃ a kvs, xs = [V.ref a] ∧ H a = some (.dK kvs) ∧ Q (.int kvs.length) H) := by
  intro pins s σ H xs us Q I r h
  obtain ⟨a, kvs, rfl, ha, q⟩ := h
  obtain ⟨u, rfl, ru⟩ := vals1 r
  cases ru
  exact d_len I (.inl ha) fun t s' I' => ⟨.int kvs.length, H, I', ⟨t, rfl⟩, q⟩
end
/-! ### a dict's pairs: keys that differ -/
section
variable {κ : Type} [DecidableEq κ]
end
end L2

namespace L2
open PySem PySem.Spec PyProof.Rows

/-! ### a comprehension's cells: those of the names that it takes from around it -/
noncomputable def clOf (env : Env) : List (Str × NameKind) → List (Str × Addr) → List (Str × Addr)
  | [], acc => acc
  | (n, k) :: r, acc => clOf env r (if (k == NameKind.free) = true then (n, (env.cells.lookup n).getD 0) :: acc else acc)
theorem clOf_ok {env : Env} : ∀ (ns : List (Str × NameKind)) (acc : List (Str × Addr)), (∀ x ∈ ns, x.2 = .free → ∃ c, env.cells.lookup x.1 = some c) →
    (∀ x c, acc.lookup x = some c → env.cells.lookup x = some c) → ∀ x c, (clOf env ns acc).lookup x = some c → env.cells.lookup x = some c
  | [], acc, _, ha => ha
  | (n, k) :: r, acc, hn, ha => by
    refine clOf_ok r _ (fun x hx => hn x (List.mem_cons_of_mem _ hx)) ?_
    intro x c e
    by_cases hk : (k == NameKind.free) = true
    · rw [if_pos hk] at e
      have hk' : k = .free := by simpa using hk
      obtain ⟨c', ec⟩ := hn (n, k) List.mem_cons_self hk'
      rw [List.lookup_cons] at e
      cases hx : x == n with
      | true =>
        rw [hx] at e
        have : x = n := by simpa using hx
        subst this
        have ec' : List.lookup x env.cells = some c' := ec
        rw [ec'] at e
        simp at e
        rw [← e]; exact ec'
      | false => rw [hx] at e; exact ha x c e
    · rw [if_neg hk] at e; exact ha x c e
theorem clOf_keep {env : Env} : ∀ (ns : List (Str × NameKind)) (acc : List (Str × Addr)) (x : Str), (∃ c, acc.lookup x = some c) → ∃ c, (clOf env ns acc).lookup x = some c
  | [], acc, x, h => h
  | (n, k) :: r, acc, x, h => by
    refine clOf_keep r _ x ?_
    by_cases hk : (k == NameKind.free) = true
    · rw [if_pos hk, List.lookup_cons]
      cases hx : x == n with
      | true => exact ⟨_, rfl⟩
      | false => exact h
    · rw [if_neg hk]; exact h
theorem clOf_has {env : Env} : ∀ (ns : List (Str × NameKind)) (acc : List (Str × Addr)) (x : Str), (x, NameKind.free) ∈ ns → ∃ c, (clOf env ns acc).lookup x = some c
  | [], acc, x, h => absurd h (by simp)
  | (n, k) :: r, acc, x, h => by
    rcases List.mem_cons.mp h with e | e
    · injection e with e1 e2
      subst e1 e2
      refine clOf_keep r _ x ⟨(env.cells.lookup x).getD 0, ?_⟩
      rw [if_pos (by decide)]
      simp
    · exact clOf_has r _ x e
theorem closureFor_eq {scope : Scope} {env : Env} (h : ∀ x ∈ scope.names, x.2 = .free → ∃ c, env.cells.lookup x.1 = some c) : closureFor scope env = pure (clOf env scope.names []) := by
  have key : ∀ (ns : List (Str × NameKind)) (acc : List (Str × Addr)), (∀ x ∈ ns, x.2 = .free → ∃ c, env.cells.lookup x.1 = some c) →
      (do let r ← forIn (m := Sem) ns acc (fun x r => if (x.2 == NameKind.free) = true then do let c ← cellOf env x.1; pure (ForInStep.yield ((x.1, c) :: r)) else pure (ForInStep.yield r)); pure r : Sem (List (Str × Addr))) = pure (clOf env ns acc) := by
    intro ns
    induction ns with
    | nil => intro acc _; rfl
    | cons y r ih =>
      intro acc hy
      obtain ⟨n, k⟩ := y
      rw [List.forIn_cons]
      by_cases hk : (k == NameKind.free) = true
      · have hk' : k = .free := by simpa using hk
        obtain ⟨c, ec⟩ := hy (n, k) List.mem_cons_self hk'
        have ec' : List.lookup n env.cells = some c := ec
        have e1 : cellOf env n = pure c := by unfold cellOf; rw [ec']
        simp only [hk, if_true, e1]
        have := ih ((n, c) :: acc) fun x hx => hy x (List.mem_cons_of_mem _ hx)
        show _ = pure (clOf env r (if (k == NameKind.free) = true then (n, (List.lookup n env.cells).getD 0) :: acc else acc))
        rw [if_pos hk, ec']
        exact this
      · simp only [hk]
        have := ih acc fun x hx => hy x (List.mem_cons_of_mem _ hx)
        show _ = pure (clOf env r (if (k == NameKind.free) = true then (n, (List.lookup n env.cells).getD 0) :: acc else acc))
        rw [if_neg hk]
        exact this
  simp only [closureFor]
  rw [key scope.names [] h]
  rfl
/-! ### the turns of a comprehension -/
section
variable {prog : Program} {w : World} {A : Around} {R : Result → Shared → Prop} {s : Shared}
theorem compLoop_any {elt target iter : Expr} {ifs : List Expr} {scope : Scope} {pos : Pos} {it acc : Value} {env : Env} (I : Nat → Shared → Prop)
    (turn : ∀ n s, I n s → wpAny (model prog w) A (pyNext it) (fun r s₁ => match r with
      | none => R (.ok .next) s₁
      | some v => wpAny (model prog w) A (letOwnedTupleGo target it v) (fun _ s₁' => wpAny (model prog w) A (assign target env v) (fun _ s₂ =>
          wpAny (model prog w) A (forIn ifs true fun c r => if r = true then do let ok ← isTrue c env (eval c env); pure (ForInStep.yield ok) else pure (ForInStep.yield r)) (fun ok s₃ =>
            if ok = true then wpAny (model prog w) A (eval elt env) (fun x s₄ =>
              wpAny (model prog w) A (call (.builtin "list.append") [acc, x]) (fun _ s₅ => ∃ m, m < n ∧ I m s₅) (fun _ _ => False) s₄) (fun _ _ => False) s₃
            else ∃ m, m < n ∧ I m s₃) (fun _ _ => False) s₂) (fun _ _ => False) s₁') (fun _ _ => False) s₁) (fun _ _ => False) s)
    (n : Nat) (h : I n s) :
    codeAny (model prog w) A (.compLoop (.ListComp elt [⟨target, iter, ifs, 0⟩] scope pos) 0 it acc env) R s := by
  refine codeAny_loop rfl I (fun n s hI => ?_) n h
  show wpAny _ A ((compTurn (.ListComp elt [⟨target, iter, ifs, 0⟩] scope pos) 0 it acc env).onRaise (fun x => do noteFrame x env; theTreesLotGoes x)) _ _ s
  refine wpAny_noted ?_
  rw [compTurn_list]
  refine wpAny_bind (wpAny_standAt (wpAny_bind (wpAny_mono (turn n s hI) (fun r s₁ h₁ => ?_) fun _ _ h' => h'.elim)))
  cases r with
  | none => exact wpAny_pure h₁
  | some v =>
    refine wpAny_bind (wpAny_mono h₁ (fun _ s₁' h₁' => ?_) fun _ _ h' => h'.elim)
    refine wpAny_bind (wpAny_mono h₁' (fun _ s₂ h₂ => wpAny_bind (wpAny_mono h₂ (fun ok s₃ h₃ => ?_) fun _ _ h' => h'.elim)) fun _ _ h' => h'.elim)
    cases ok with
    | false => exact wpAny_pure ⟨rfl, h₃⟩
    | true =>
      exact wpAny_bind (wpAny_bind (wpAny_mono h₃ (fun x s₄ h₄ => wpAny_bind (wpAny_mono h₄ (fun _ s₅ h₅ => wpAny_pure (wpAny_pure ⟨rfl, h₅⟩)) fun _ _ h' => h'.elim)) fun _ _ h' => h'.elim))
end

/-! ### the block's context -/
noncomputable def blk (X : Cx) (N' : List Str) (scope : Scope) (fp : List Addr) (s : Shared) (H : Hp) : Cx :=
  { X with N := N', s₀ := s, H₀ := H, env := compEnvC scope (clOf X.env scope.names []) s.heap.objs.size X.env, outer := X.stack, stack := X.stack, ex := fp, fn := fun _ => false, xe := fun _ _ => False }
noncomputable def PTs (X : Cx) (ifs : List Expr) (t : TT) : Prop :=
  ∀ (pins : List (Addr × Obj)) (s : Shared) (σ : St) (H : Hp) (Q : Bool → Hp → Prop), Inv X pins σ H s → t σ H Q →
    wpAny (model X.prog X.w) X.A (forIn ifs true fun c r => if r = true then do let ok ← isTrue c X.env (eval c X.env); pure (ForInStep.yield ok) else pure (ForInStep.yield r)) (TP X pins σ Q) X.xe s
noncomputable def tYes : TT := fun _ H Q => Q true H
theorem pts_nil {X : Cx} : PTs X [] tYes := fun _ _ _ H _ I h => wpAny_tests_nil ⟨H, I, h⟩
theorem pts_one {X : Cx} {c : Expr} {t : TT} (h : PT X c t) : PTs X [c] t := fun pins s σ H Q I q => wpAny_tests_one (h pins s σ H Q I q)
inductive Ext : St → St → Prop
  | nil : Ext [] []
  | no {σ τ : St} {a : Option V} : Ext σ τ → Ext (none :: σ) (a :: τ)
  | yes {σ τ : St} {v : V} : Ext σ τ → Ext (some v :: σ) (some v :: τ)
theorem Ext.len : ∀ {σ τ : St}, Ext σ τ → σ.length = τ.length
  | _, _, .nil => rfl
  | _, _, .no h => by simp [h.len]
  | _, _, .yes h => by simp [h.len]
theorem Ext.get : ∀ {σ τ : St}, Ext σ τ → ∀ (i : Nat) (v : V), σ[i]? = some (some v) → τ[i]? = some (some v)
  | _, _, .nil, i, v, e => e
  | _, _, .no h, 0, v, e => by simp at e
  | _, _, .no h, i + 1, v, e => by simpa using h.get i v (by simpa using e)
  | _, _, .yes h, 0, v, e => by simpa using e
  | _, _, .yes h, i + 1, v, e => by simpa using h.get i v (by simpa using e)
noncomputable def blkSt (k : Nat) (fm : List Nat) (σ : St) : St := List.replicate k none ++ fm.map fun j => (σ[j]?).join
noncomputable def tComp (k : Nat) (fm : List Nat) (wi : TI) (g : TG) (tt : TT) (te : TE) : TE := fun σ H Q => wi σ H fun J H1 => ∀ D, H1 D = none → ∃ W : Nat → Nat → List V → Hp → Prop,
  (∃ m, W 0 m [] (upd H1 D (.lst []))) ∧ ∀ i m ys H2, W i m ys H2 → H2 D = some (.lst ys) ∧ ys.length < sizeLine ∧ ((J.stop i H2 ∧ Q (.ref D) H2) ∨ (J.go i H2 ∧ ∃ N : List V → Hp → Prop, (∀ ys' H', N ys' H' → ∃ m', m' < m ∧ W (i + 1) m' ys' H') ∧ ∀ x H3, J.yld i H2 x H3 →
    g x (blkSt k fm σ) H3 fun σ3 H4 => Ext (blkSt k fm σ) σ3 ∧ tt σ3 H4 fun b H5 => if b = true then te σ3 H5 fun y H6 => H6 D = some (.lst ys) ∧ N (ys ++ [y]) (upd H6 D (.lst (ys ++ [y]))) else N ys H5))
theorem Un.tail {fs ex : List Addr} {H H' : Hp} {h h1 h2 : Heap} {C : Addr} (u : Un fs ex H H' h h1) (k : ∀ b o, b ≠ C → h1.get? b = some o → h2.get? b = some o) (hC : h.get? C = none) : Un fs ex H H' h h2 := by
  have ne : ∀ b o, h.get? b = some o → b ≠ C := fun b o e z => by rw [z, hC] at e; cases e
  exact ⟨fun b o e n hf hx => k b o (ne b o e) (u.keep b o e n hf hx), fun b o e n hf hx => let ⟨sl, q⟩ := u.slot b o e n hf hx; ⟨sl, k b _ (ne b o e) q⟩, u.free,
    fun b o e hx => let ⟨o', q⟩ := u.there b o e hx; ⟨o', k b _ (ne b o e) q⟩, u.tups, u.frzs, u.tbls⟩
theorem HOk.tail {P : Program} {w : World} {H : Hp} {h1 h2 : Heap} {C : Addr} (ok : HOk P w H h1) (k : ∀ b o, b ≠ C → h1.get? b = some o → h2.get? b = some o) (hC : H C = none) : HOk P w H h2 := fun a o e => by
  have ne : ∀ b u, H b = some u → b ≠ C := fun b u q z => by rw [z, hC] at q; cases q
  refine (ok a o e).stay (fun b u hb q => k b u ?_ q) (fun _ q => q) fun _ _ q => q
  rcases hb with z | z
  · rw [z]; exact ne a o e
  · exact ne b _ z
theorem lookup_relabel {env : Env} : ∀ {names : List (Str × NameKind)} {x : Str} {k : NameKind},
    (names.map fun (n, k) => if (k == NameKind.free && env.scope.kind == .function && env.kindOf n == some .cell) then (n, NameKind.cell) else (n, k)).lookup x = some k → ∃ k', names.lookup x = some k' ∧ (k = k' ∨ (k' = .free ∧ k = .cell))
  | [], _, _, h => by simp at h
  | (n, k0) :: r, x, k, h => by
    have ih := @lookup_relabel env r x k
    have h : List.lookup x ((if (k0 == NameKind.free && env.scope.kind == .function && env.kindOf n == some .cell) = true then (n, NameKind.cell) else (n, k0)) :: (r.map fun (n, k) => if (k == NameKind.free && env.scope.kind == .function && env.kindOf n == some .cell) then (n, NameKind.cell) else (n, k))) = some k := h
    by_cases hc : (k0 == NameKind.free && env.scope.kind == .function && env.kindOf n == some .cell) = true
    · rw [if_pos hc, List.lookup_cons] at h
      have k0f : k0 = .free := by
        simp only [Bool.and_eq_true] at hc
        simpa using hc.1.1
      rw [List.lookup_cons]
      cases hx : x == n with
      | true => rw [hx] at h; injection h with h; exact ⟨k0, rfl, .inr ⟨k0f, h.symm⟩⟩
      | false => rw [hx] at h; exact ih h
    · rw [if_neg hc, List.lookup_cons] at h
      rw [List.lookup_cons]
      cases hx : x == n with
      | true => rw [hx] at h; injection h with h; exact ⟨k0, rfl, .inl h.symm⟩
      | false => rw [hx] at h; exact ih h
set_option genInjectivity false in
structure BlkScope (X : Cx) (N' : List Str) (k : Nat) (fm : List Nat) (scope : Scope) : Prop where
  kind : scope.kind = .function
  nocell : ∀ y ∈ scope.names, y.2 ≠ .cell
  names : ∀ y ∈ scope.names, y.2 = .local → scope.names.lookup y.1 = some .local
  free : ∀ y ∈ scope.names, y.2 = .free → X.env.kindOf y.1 = some .cell ∨ X.env.kindOf y.1 = some .free
  len : N'.length = k + fm.length
  slots : ∀ i x, k ≤ i → N'[i]? = some x → scope.names.lookup x = some .free ∧ ∃ j, fm[i - k]? = some j ∧ X.N[j]? = some x
section
variable {X : Cx} {pins : List (Addr × Obj)} {σ : St} {H : Hp} {s : Shared}
theorem Inv.block {N' : List Str} {k : Nat} {fm : List Nat} {scope : Scope} {fp : List Addr} {h' : Heap} {tk : Nat} (B : BlkScope X N' k fm scope) (I : Inv X pins σ H s) (hf : ∀ b ∈ fp, FpOk X pins H b) (ho : ∀ b ∈ fp, ∃ o, s.heap.get? b = some o)
    (ns : h'.Ns s.heap.objs.size (fun _ => none)) (kp : ∀ b o, s.heap.get? b = some o → h'.get? b = some o) : Inv (blk X N' scope fp s H) [] (blkSt k fm σ) H { s with heap := h', toks := tk } := by
  have hfree : ∀ x ∈ scope.names, x.2 = .free → ∃ c, X.env.cells.lookup x.1 = some c := fun x hx hk => I.ok.has x.1 (B.free x hx hk)
  have hcl : ∀ x c, (clOf X.env scope.names []).lookup x = some c → X.env.cells.lookup x = some c := clOf_ok scope.names [] hfree fun x c e => by simp at e
  have stk : ∀ b ∈ frs X.stack, b ∈ X.env.locals :: X.fs := I.stkSub
  have hC : H s.heap.objs.size = none := I.hok.fresh (Nat.le_refl _)
  have ok : (blk X N' scope fp s H).Ok := {
    mod := I.ok.mod
    kind := B.kind
    glob := I.ok.glob
    blt := I.ok.blt
    above := Nat.le_refl _
    inj := fun x y c h1 h2 => I.ok.inj x y c (hcl x c h1) (hcl y c h2)
    has := fun x hx => by
      have hx : (relabel scope X.env).names.lookup x = some .cell ∨ (relabel scope X.env).names.lookup x = some .free := hx
      have : scope.names.lookup x = some .free := by
        rcases hx with e | e
        · obtain ⟨k', e1, e2⟩ := lookup_relabel e
          rcases e2 with e2 | ⟨e2, _⟩
          · subst e2; exact absurd rfl (B.nocell _ (PySem.mem_of_lookup e1))
          · rw [e1, e2]
        · obtain ⟨k', e1, e2⟩ := lookup_relabel e
          rcases e2 with e2 | ⟨e2, e3⟩
          · rw [e1, e2]
          · rw [e1, e2]
      exact clOf_has scope.names [] x (PySem.mem_of_lookup this)
    cab := fun x c e => by cases e
    hd := I.ok.hd
    frames := I.ok.frames
    stk := .inl rfl
    exf := fun b hb => ⟨fun z => by
        obtain ⟨o, e⟩ := ho b hb
        have hlt := Heap.lt_size e
        rw [z] at hlt
        exact Nat.lt_irrefl _ hlt, fun x c e => (hf b hb).2.2.2.2.1 x c (hcl x c e)⟩
    bs := I.bs
    bsz := Nat.le_trans I.ok.bsz I.sz
    noex := fun b o e hb => by
      rcases (hf b hb).2.2.2.1 with z | z
      · exact I.ok.noex b o e z
      · exact absurd (Nat.lt_of_lt_of_le (Heap.lt_size e) (Nat.le_trans I.ok.bsz z)) (Nat.lt_irrefl _)
    exfs := fun b hb z => (List.mem_cons.mp (stk b z)).elim (hf b hb).2.1 (hf b hb).2.2.1
    funs := I.stack
    frf := I.stkFree }
  refine ⟨ok, rfl, I.bare, Un.kept kp, ⟨_, ns, fun i x v h1 h2 h3 => ?_⟩, fun x c e => ?_, hC, fun x c e => I.freeC x c (hcl x c e), fun p hp => ?_, I.hok.kept kp, ?_⟩
  · have hk : k ≤ i := by
      refine Nat.le_of_not_lt fun z => ?_
      unfold blkSt at h2
      rw [List.getElem?_append_left (by simpa using z), List.getElem?_replicate, if_pos z] at h2
      cases h2
    obtain ⟨e1, j, e2, e3⟩ := B.slots i x hk h1
    have e4 : σ[j]? = some (some v) := by
      unfold blkSt at h2
      rw [List.getElem?_append_right (by simpa using hk), List.length_replicate, List.getElem?_map, e2] at h2
      have h2 : some (σ[j]?).join = some (some v) := h2
      injection h2 with h2
      cases e : σ[j]? with
      | none => rw [e] at h2; cases h2
      | some o => rw [e] at h2; rw [show o = some v from h2]
    have kf := B.free (x, .free) (PySem.mem_of_lookup e1) rfl
    obtain ⟨m, hn, hl⟩ := I.loc
    obtain ⟨u, ru, lk⟩ := hl j x v e3 e4 (.inr kf)
    refine ⟨u, ru, .inr ⟨?_, ?_⟩⟩
    · have h3 : (relabel scope X.env).names.lookup x = some .local ∨ (relabel scope X.env).names.lookup x = some .cell ∨ (relabel scope X.env).names.lookup x = some .free := h3
      rcases h3 with z | z
      · obtain ⟨k', q1, q2⟩ := lookup_relabel z
        rw [e1] at q1
        injection q1 with q1
        subst q1
        rcases q2 with q2 | ⟨_, q2⟩ <;> cases q2
      · exact z
    · obtain ⟨c, hc⟩ := clOf_has (env := X.env) scope.names [] x (PySem.mem_of_lookup e1)
      refine ⟨c, hc, ?_⟩
      rcases lk with ⟨z, _⟩ | ⟨_, c', ec, ic⟩
      · rcases kf with y | y <;> (rw [z] at y; cases y)
      · rw [hcl x c hc] at ec
        injection ec with ec
        subst ec
        exact ic.keeps kp
  · obtain ⟨v, q⟩ := I.cell x c (hcl x c e)
    exact ⟨v, q.keeps kp⟩
  · obtain ⟨p1, p2, p3, p4, p5⟩ := I.pin p ((List.mem_append.mp hp).elim (fun z => List.mem_append_left _ z) fun z => absurd z (by simp))
    refine ⟨kp _ _ p1, p2, fun z => ?_, fun z => (List.mem_cons.mp (stk _ z)).elim p3 p4, p5⟩
    have hlt := Heap.lt_size p1
    rw [z] at hlt
    exact Nat.lt_irrefl _ hlt
  · show (blkSt k fm σ).length = N'.length
    unfold blkSt
    rw [List.length_append, List.length_replicate, List.length_map, B.len]
theorem blk_loop {X : Cx} {elt iter tg : Expr} {ifs : List Expr} {scope : Scope} {pos : Pos} {g : TG} {tt : TT} {te : TE} {J : It} {fp : List Addr} {it D : Addr} {tn : Nat → Heap → Prop} {σ0 : St} {H3 : Hp} {s4 : Shared} {Q : VK} {R : Result → Shared → Prop} {W : Nat → Nat → List V → Hp → Prop} {m0 : Nat}
    (hx : X.xe = fun _ _ => False) (hc : X.calm = true) (T : Turn X.prog X.w X.K tg J fp it tn) (stat : ∀ {H' : Hp}, (∀ b ∈ fp, H' b = none) → ∀ b ∈ fp, FpOk X [] H' b) (hg : PG X tg g) (ht : PTs X ifs tt) (he : PE X elt te)
    (turn : ∀ i m ys H2, W i m ys H2 → H2 D = some (.lst ys) ∧ ys.length < sizeLine ∧ ((J.stop i H2 ∧ Q (.ref D) H2) ∨ (J.go i H2 ∧ ∃ N : List V → Hp → Prop, (∀ ys' H', N ys' H' → ∃ m', m' < m ∧ W (i + 1) m' ys' H') ∧ ∀ x H3, J.yld i H2 x H3 →
      g x σ0 H3 fun σ3 H4 => Ext σ0 σ3 ∧ tt σ3 H4 fun b H5 => if b = true then te σ3 H5 fun y H6 => H6 D = some (.lst ys) ∧ N (ys ++ [y]) (upd H6 D (.lst (ys ++ [y]))) else N ys H5)))
    (I4 : Inv X [] σ0 H3 s4) (st4 : tn 0 s4.heap) (fr4 : ∀ b ∈ fp, H3 b = none) (w4 : W 0 m0 [] H3)
    (hR : ∀ H' s', Inv X [] σ0 H' s' → Q (.ref D) H' → R (.ok .next) s') :
    codeAny (model X.prog X.w) X.A (.compLoop (.ListComp elt [⟨tg, iter, ifs, 0⟩] scope pos) 0 (.ref it) (.ref D) X.env) R s4 := by
  refine compLoop_any (fun n s' => ∃ i ys H', Inv X [] σ0 H' s' ∧ tn i s'.heap ∧ (∀ b ∈ fp, H' b = none) ∧ W i n ys H') ?_ m0 ⟨0, [], H3, I4, st4, fr4, w4⟩
  rintro n s5 ⟨i, ys, H5, I5, st5, fr5, w5⟩
  obtain ⟨hD, hl, cs⟩ := turn i n ys H5 w5
  rcases cs with ⟨stop, q⟩ | ⟨go, N, hN, step⟩
  · refine thn (T.done X rfl rfl rfl hc i [] s5 σ0 H5 _ I5 (stat fr5) st5 stop) fun r s6 ⟨hr, I6⟩ => ?_
    subst hr
    exact hR H5 s6 I6 q
  · refine thn (T.item X rfl rfl rfl hc i [] s5 σ0 H5 _ I5 (stat fr5) st5 go) fun r s6 ⟨u, hr, h6⟩ => ?_
    subst hr
    refine thn h6 fun _ s7 ⟨x, H7, I7, r7, y7, st7, fr7⟩ => ?_
    have I7' := I7.pinned (stat fr7) (T.obj _ _ st7)
    have again : ∀ {σ' : St} {H' : Hp} {s' : Shared}, Ext σ0 σ' → Inv X ([] ++ pinsAt fp s7.heap) σ' H' s' → Inv X [] σ0 H' s' ∧ tn (i + 1) s'.heap ∧ ∀ b ∈ fp, H' b = none := fun {σ' H' s'} ex I' => by
      refine ⟨I'.unpinned.weak ex.len ex.get, T.keep _ _ _ st7 fun b hb o e => (I'.pin (b, o) (List.mem_append_right _ (List.mem_append_right _ (mem_pinsAt hb e)))).1, fun b hb => ?_⟩
      obtain ⟨o, e, d⟩ := T.obj _ _ st7 b hb
      exact (I'.pin (b, o) (List.mem_append_right _ (List.mem_append_right _ (mem_pinsAt hb e)))).2.1
    have w8 := hg _ s7 σ0 H7 x u _ I7' r7 (step x H7 y7)
    rw [hx] at w8
    refine thn w8 fun _ s8 ⟨σ8, H8, I8, ex8, q8⟩ => ?_
    have w9 := ht _ s8 σ8 H8 _ I8 q8
    rw [hx] at w9
    refine thn w9 fun ok s9 ⟨H9, I9, q9⟩ => ?_
    cases ok with
    | false =>
      obtain ⟨m', hm, w'⟩ := hN _ _ q9
      obtain ⟨a1, a2, a3⟩ := again ex8 I9
      exact ⟨m', hm, i + 1, ys, H9, a1, a2, a3, w'⟩
    | true =>
      have w10 := he _ s9 σ8 H9 _ I9 q9
      rw [hx] at w10
      refine thn w10 fun y s10 ⟨yv, H10, I10, r10, hD10, n10⟩ => ?_
      obtain ⟨m', hm, w'⟩ := hN _ _ n10
      have w11 := mt_append (X := X) _ s10 σ8 H10 (.ref D) [yv] (.ref D) [y] (fun v H' => v = .non ∧ H' = upd H10 D (.lst (ys ++ [yv]))) I10 rfl (.cons r10 .nil) ⟨D, ys, yv, rfl, rfl, hD10, hl, rfl, rfl⟩
      rw [hx] at w11
      refine thn w11 fun _ s11 ⟨_, H11, I11, _, _, e11⟩ => ?_
      subst e11
      obtain ⟨a1, a2, a3⟩ := again ex8 I11
      exact ⟨m', hm, i + 1, _, _, a1, a2, a3, w'⟩
theorem pe_comp {elt iter tg : Expr} {ifs : List Expr} {scope : Scope} {pos : Pos} {N' : List Str} {k : Nat} {fm : List Nat} {wi : TI} {g : TG} {tt : TT} {te : TE} (B : BlkScope X N' k fm scope) (hc : X.calm = true) (hi : PI X tg iter wi)
    (hb : ∀ fp s H, PG (blk X N' scope fp s H) tg g ∧ PTs (blk X N' scope fp s H) ifs tt ∧ PE (blk X N' scope fp s H) elt te)
    (hs : ∀ x, foldedSetIterable iter X.env x = pure x := by intro _; rfl) : PE X (.ListComp elt [⟨tg, iter, ifs, 0⟩] scope pos) (tComp k fm wi g tt te) := by
  intro pins s σ H Q I h
  have hfree : ∀ x ∈ scope.names, x.2 = .free → ∃ c, X.env.cells.lookup x.1 = some c := fun x hx hk => I.ok.has x.1 (B.free x hx hk)
  rw [eval_ListComp]
  refine wpAny_comprehension_free (use := none) rfl hs (closureFor_eq hfree) B.kind B.names (thn (hi pins s σ H _ I h) fun v s1 h1 => thn h1 fun itv s2 h2 => ?_)
  obtain ⟨it, fp, tn, J, H2, e, I2, T, st2, f2, h2⟩ := h2
  subst e
  obtain ⟨W, ⟨m0, w0⟩, turn⟩ := h2 s2.heap.objs.size I2.fresh
  refine wpAny_newObj_type (wpAny_newFunctionEnv B.nocell (by intro y hy; simp at hy) (fun h4 hns4 hsb4 => ?_) B.kind)
  have I3 := I2.lnew (its := []) (ys := []) (t' := s2.toks) .nil (Nat.zero_le _)
  have hf3 : ∀ b ∈ fp, FpOk X pins (upd H2 s2.heap.objs.size (.lst [])) b := fun b hb => by
    obtain ⟨o, e, _⟩ := T.obj _ _ st2 b hb
    refine ⟨?_, (f2 b hb).2⟩
    rw [upd_ne (fun z => Nat.lt_irrefl _ (z ▸ Heap.lt_size e))]
    exact (f2 b hb).1
  have ho3 : ∀ b ∈ fp, ∃ o, (s2.heap.push { cls := .type "list", data := .seq ([] : List Value).toArray }).get? b = some o := fun b hb => by
    obtain ⟨o, e, _⟩ := T.obj _ _ st2 b hb
    exact ⟨o, Heap.get?_push_of_some _ e⟩
  have kp4 : ∀ b o, (s2.heap.push { cls := .type "list", data := .seq ([] : List Value).toArray }).get? b = some o → h4.get? b = some o := fun b o e =>
    hsb4.extBut b o (fun z => Nat.lt_irrefl _ (z ▸ Heap.lt_size e)) (Heap.get?_push_of_some _ e)
  have I4 := I3.block (fp := fp) (h' := h4) (tk := s2.toks + ([] : List (Str × Value)).length) B hf3 ho3 hns4 kp4
  generalize hs3 : ({ s2 with heap := s2.heap.push { cls := .type "list", data := .seq ([] : List Value).toArray }, toks := s2.toks } : Shared) = s3 at *
  obtain ⟨hg, ht, he⟩ := hb fp s3 (upd H2 s2.heap.objs.size (.lst []))
  have st4 : tn 0 h4 := T.keep _ _ _ st2 fun b hb o e => kp4 b o (Heap.get?_push_of_some _ e)
  have stat : ∀ {H' : Hp}, (∀ b ∈ fp, H' b = none) → ∀ b ∈ fp, FpOk (blk X N' scope fp s3 (upd H2 s2.heap.objs.size (.lst []))) [] H' b := fun {H'} hn b hb => by
    obtain ⟨f0, f1, f3, f4, f5, f6⟩ := hf3 b hb
    obtain ⟨g1, g2⟩ := I4.ok.exf b hb
    exact ⟨hn b hb, g1, I4.ok.exfs b hb, .inl hb, g2, fun p hp => f6 p ((List.mem_append.mp hp).elim (fun z => List.mem_append_left _ z) fun z => absurd z (by simp))⟩
  have loop : codeAny (model X.prog X.w) X.A (.compLoop (.ListComp elt [⟨tg, iter, ifs, 0⟩] scope pos) 0 (.ref it) (.ref s2.heap.objs.size) (compEnvC scope (clOf X.env scope.names []) s3.heap.objs.size X.env))
      (compPost (model X.prog X.w) X.A X.xe none (EP X pins σ Q) (.ref s2.heap.objs.size) s3.heap.objs.size) { s3 with heap := h4, toks := s2.toks + ([] : List (Str × Value)).length } := by
    refine blk_loop (X := blk X N' scope fp s3 (upd H2 s2.heap.objs.size (.lst []))) (D := s2.heap.objs.size) (Q := Q) (W := W) (m0 := m0) rfl hc T stat hg ht he turn I4 st4 (fun b hb => (hf3 b hb).1) w0 ?_
    intro H' s' I' q
    obtain ⟨m, hn, _⟩ := I'.loc
    refine ⟨m, hn, fun h'' hs'' => ?_⟩
    have hC : s3.heap.get? s3.heap.objs.size = none := by
      cases e : s3.heap.get? s3.heap.objs.size with
      | none => rfl
      | some o => exact absurd (Heap.lt_size e) (Nat.lt_irrefl _)
    have u : Un (frs X.stack) fp (upd H2 s2.heap.objs.size (.lst [])) H' s3.heap h'' := Un.tail I'.base (fun b o hb e => hs''.extBut b o hb e) hC
    refine ⟨.ref s2.heap.objs.size, H', ?_, rfl, q⟩
    refine I3.call' (s' := { s' with heap := h'' }) (ch := fp) I'.os u (I'.hok.tail (fun b o hb e => hs''.extBut b o hb e) I'.free) I'.bare fun b hb => ?_
    obtain ⟨f0, f1, f3, f4, f5, f6⟩ := hf3 b hb
    exact ⟨f4, f1, f5, f6⟩
  subst hs3
  exact codeAny_compStart_list loop (T.self X.A 0 _ _ _ st4 loop)
end
end L2

namespace L2
open PySem PySem.Spec PyProof.Rows

/-! ### the signs of a text, walked -/
noncomputable def Its (z : Str) : It := ⟨fun i _ => i < z.cps.size, fun i H x H' => H' = H ∧ ∃ c, z.cps[i]? = some c ∧ x = .str ⟨#[c]⟩, fun i _ => z.cps.size ≤ i⟩
section
variable {X : Cx} {tg : Expr}
noncomputable def iStr (tl : TE) : TI := fun σ H R => tl σ H fun x H1 => ∃ z, x = .str z ∧ R (Its z) H1
end

/-! ### a part of a text -/
section
variable {X : Cx}
noncomputable def rSlS : V → Option Int → Option Int → Hp → VK → Prop := fun x lo hi H Q => ∃ z, x = .str z ∧ z.length ≤ sizeLine ∧ Q (.str (Txt.slice z lo hi)) H

/-! ### all of a list of truths -/
noncomputable def rAll (K : PySem.W.Frag) : List V → Hp → VK → Prop := fun xs H Q => ∃ (a : Addr) (bs : List Bool), xs = [.ref a] ∧ SqL K H a (bs.map V.bl) ∧ Q (.bl (bs.all id)) H

/-! ### isinstance -/
noncomputable def rIsi (K : PySem.W.Frag) : List V → Hp → VK → Prop := fun xs H Q => ∃ x n t b, xs = [x, .ty n] ∧ TyOf K H x t ∧ PySem.W.kitOne K t (.type n) = some b ∧ Q (.bl b) H
theorem call_isi : CallR X (.builtin "isinstance") (rIsi X.K) := by
  intro pins s σ H xs us Q I r h
  obtain ⟨x, n, t, b, rfl, ty, e, q⟩ := h
  obtain ⟨u, u2, rfl, ru, ru2⟩ := vals2 r
  cases ru2
  exact isinst_ok I ru ty e fun tk => ⟨.bl b, H, I.tok tk, rfl, q⟩

/-! ### list + list, lists that are read -/
noncomputable def rCatS (K : PySem.W.Frag) : R2 := fun x y H Q => ∃ l b xs zs, x = .ref l ∧ y = .ref b ∧ SqL K H l xs ∧ SqL K H b zs ∧ xs.length + zs.length ≤ sizeLine ∧ ∀ p, H p = none → Q (.ref p) (upd H p (.lst (xs ++ zs)))
end
end L2

namespace L2
open PySem PySem.Spec PyProof.Rows
/-! ### a comprehension's scope, by lists -/
inductive Slots (X : Cx) (scope : Scope) : List Str → List Nat → Prop
  | nil : Slots X scope [] []
  | cons {x : Str} {j : Nat} {xs : List Str} {js : List Nat} (h1 : scope.names.lookup x = some .free) (h2 : X.env.kindOf x = some .cell ∨ X.env.kindOf x = some .free) (h3 : X.N[j]? = some x) (r : Slots X scope xs js) : Slots X scope (x :: xs) (j :: js)
theorem Slots.len {X : Cx} {scope : Scope} : ∀ {xs : List Str} {js : List Nat}, Slots X scope xs js → xs.length = js.length
  | _, _, .nil => rfl
  | _, _, .cons _ _ _ r => by simp [r.len]
theorem Slots.kind {X : Cx} {scope : Scope} : ∀ {xs : List Str} {js : List Nat}, Slots X scope xs js → ∀ x ∈ xs, X.env.kindOf x = some .cell ∨ X.env.kindOf x = some .free
  | _, _, .nil, x, h => absurd h (by simp)
  | _, _, .cons _ h2 _ r, x, h => by
    rcases List.mem_cons.mp h with e | e
    · subst e; exact h2
    · exact r.kind x e
theorem Slots.get {X : Cx} {scope : Scope} : ∀ {xs : List Str} {js : List Nat}, Slots X scope xs js → ∀ (i : Nat) (x : Str), xs[i]? = some x → scope.names.lookup x = some .free ∧ ∃ j, js[i]? = some j ∧ X.N[j]? = some x
  | _, _, .nil, i, x, h => by simp at h
  | _, _, .cons h1 _ h3 r, 0, x, h => by
    simp only [List.getElem?_cons_zero, Option.some.injEq] at h
    subst h
    exact ⟨h1, _, by simp, h3⟩
  | _, _, .cons _ _ _ r, i + 1, x, h => by simpa using r.get i x (by simpa using h)
theorem blk_mk {X : Cx} {own fr : List Str} {fm : List Nat} {scope : Scope} (kind : scope.kind = .function) (h1 : ∀ y ∈ scope.names, y.2 ≠ .cell) (h2 : ∀ y ∈ scope.names, y.2 = .local → scope.names.lookup y.1 = some .local)
    (h3 : ∀ y ∈ scope.names, y.2 = .free → y.1 ∈ fr) (S : Slots X scope fr fm) : BlkScope X (own ++ fr) own.length fm scope :=
  ⟨kind, h1, h2, fun y hy hk => S.kind y.1 (h3 y hy hk), by rw [List.length_append, S.len], fun i x hi h => by
    rw [List.getElem?_append_right hi] at h
    exact S.get _ x h⟩
section
variable {X : Cx}
/-! ### rules that serve several kinds at once -/
end
/-! ### a comprehension, by what its turns keep -/
theorem comp_list {K : PySem.W.Frag} {a : Addr} {xs : List V} {g : TG} {tt : TT} {te : TE} {σ0 : St} {H : Hp} {D : Addr} {Q : VK} (hz : xs.length < sizeLine) (Pv : Nat → List V → Hp → Prop) (h0 : Pv 0 [] (upd H D (.lst [])))
    (hl : ∀ i ys H, i ≤ xs.length → Pv i ys H → SqL K H a xs ∧ H D = some (.lst ys) ∧ ys.length ≤ i)
    (hs : ∀ i x ys H, xs[i]? = some x → Pv i ys H → g x σ0 H fun σ3 H4 => Ext σ0 σ3 ∧ tt σ3 H4 fun b H5 => if b = true then te σ3 H5 fun y H6 => H6 D = some (.lst ys) ∧ Pv (i + 1) (ys ++ [y]) (upd H6 D (.lst (ys ++ [y]))) else Pv (i + 1) ys H5)
    (hd : ∀ ys H, Pv xs.length ys H → Q (.ref D) H) :
    ∃ W : Nat → Nat → List V → Hp → Prop, (∃ m, W 0 m [] (upd H D (.lst []))) ∧ ∀ i m ys H2, W i m ys H2 → H2 D = some (.lst ys) ∧ ys.length < sizeLine ∧ (((Itl K a).stop i H2 ∧ Q (.ref D) H2) ∨ ((Itl K a).go i H2 ∧ ∃ N : List V → Hp → Prop, (∀ ys' H', N ys' H' → ∃ m', m' < m ∧ W (i + 1) m' ys' H') ∧ ∀ x H3, (Itl K a).yld i H2 x H3 →
      g x σ0 H3 fun σ3 H4 => Ext σ0 σ3 ∧ tt σ3 H4 fun b H5 => if b = true then te σ3 H5 fun y H6 => H6 D = some (.lst ys) ∧ N (ys ++ [y]) (upd H6 D (.lst (ys ++ [y]))) else N ys H5)) := by
  refine ⟨fun i m ys H => m = xs.length - i ∧ i ≤ xs.length ∧ Pv i ys H, ⟨xs.length, by simp, Nat.zero_le _, h0⟩, ?_⟩
  rintro i m ys H2 ⟨rfl, hi, p⟩
  obtain ⟨l0, l1, l2⟩ := hl i ys H2 hi p
  refine ⟨l1, by omega, ?_⟩
  by_cases hlt : i < xs.length
  · refine .inr ⟨⟨xs, xs[i], l0, by simp [hlt]⟩, Pv (i + 1), fun ys' H' p' => ⟨_, (by omega : xs.length - (i + 1) < xs.length - i), rfl, hlt, p'⟩, fun x H3 y => ?_⟩
    obtain ⟨e, y⟩ := y
    subst e
    exact hs i x ys _ (y xs l0) p
  · have e : i = xs.length := by omega
    subst e
    exact .inl ⟨⟨xs, l0, Nat.le_refl _⟩, hd ys H2 p⟩
/-! ### the same, with what is walked reckoned first -/
noncomputable def ForW (g : TG) (tb : TS) (D : Ends) (σ : St) (J : It) (H1 : Hp) : Prop := ∃ W : Nat → Nat → St → Hp → Prop, (∃ m, W 0 m σ H1) ∧ ∀ i m σ H, W i m σ H →
  (J.stop i H ∧ D.nx σ H) ∨ (J.go i H ∧ ∃ N : St → Hp → Prop, (∀ σ' H', N σ' H' → ∃ m', m' < m ∧ W (i + 1) m' σ' H') ∧ ∀ x H', J.yld i H x H' → g x σ H' fun σ2 H2 => tb { D with nx := N, ct := N, bk := D.nx } σ2 H2)
noncomputable def ForL (K : PySem.W.Frag) (g : TG) (tb : TS) (D : Ends) (σ : St) : VK := fun x H1 => ∃ a, x = .ref a ∧ (∃ xs, SqL K H1 a xs) ∧ ForW g tb D σ (Itl K a) H1
noncomputable def ForT (K : PySem.W.Frag) (g : TG) (tb : TS) (D : Ends) (σ : St) : VK := fun x H1 => ∃ a, x = .ref a ∧ (∃ xs, SqT K H1 a xs) ∧ ForW g tb D σ (Itt K a) H1
noncomputable def ForS (g : TG) (tb : TS) (D : Ends) (σ : St) : VK := fun x H1 => ∃ z, x = .str z ∧ ForW g tb D σ (Its z) H1
noncomputable def ForR (g : TG) (tb : TS) (D : Ends) (σ : St) : List V → Hp → Prop := fun vs H1 => ∃ j : Int, vs = [.int j] ∧ -(2 ^ 62) ≤ j ∧ j < 2 ^ 62 ∧ ForW g tb D σ (Itr 0 j.toNat) H1
noncomputable def ForR2 (g : TG) (tb : TS) (D : Ends) (σ : St) : List V → Hp → Prop := fun vs H1 => ∃ i j : Int, vs = [.int i, .int j] ∧ (-(2 ^ 62) ≤ i ∧ i < 2 ^ 62 ∧ -(2 ^ 62) ≤ j ∧ j < 2 ^ 62) ∧ ForW g tb D σ (Itr i (j - i).toNat) H1
section
variable {K : PySem.W.Frag} {te : TE} {ta : TA} {g : TG} {tb : TS} {D : Ends} {σ : St} {H : Hp}
theorem tFor_list : tFor (iList K te) g tb D σ H = te σ H (ForL K g tb D σ) := rfl
theorem tFor_tup : tFor (iTup K te) g tb D σ H = te σ H (ForT K g tb D σ) := rfl
theorem tFor_str : tFor (iStr te) g tb D σ H = te σ H (ForS g tb D σ) := rfl
theorem tFor_rng1 : tFor (iRng1 ta) g tb D σ H = ta σ H (ForR g tb D σ) := rfl
theorem tFor_rng2 : tFor (iRng2 ta) g tb D σ H = ta σ H (ForR2 g tb D σ) := rfl
theorem ForL.of {a : Addr} {xs : List V} (Pv : Nat → St → Hp → Prop) (h0 : Pv 0 σ H) (hl : ∀ i σ H, i ≤ xs.length → Pv i σ H → SqL K H a xs)
    (hs : ∀ i x σ H, xs[i]? = some x → Pv i σ H → g x σ H fun σ2 H2 => tb { D with nx := Pv (i + 1), ct := Pv (i + 1), bk := D.nx } σ2 H2) (hd : ∀ σ H, Pv xs.length σ H → D.nx σ H) : ForL K g tb D σ (.ref a) H :=
  ⟨a, rfl, ⟨xs, hl 0 _ _ (Nat.zero_le _) h0⟩, for_list Pv h0 hl hs hd⟩
theorem ForT.of {a : Addr} {xs : List V} (Pv : Nat → St → Hp → Prop) (h0 : Pv 0 σ H) (hl : ∀ i σ H, i ≤ xs.length → Pv i σ H → SqT K H a xs)
    (hs : ∀ i x σ H, xs[i]? = some x → Pv i σ H → g x σ H fun σ2 H2 => tb { D with nx := Pv (i + 1), ct := Pv (i + 1), bk := D.nx } σ2 H2) (hd : ∀ σ H, Pv xs.length σ H → D.nx σ H) : ForT K g tb D σ (.ref a) H :=
  ⟨a, rfl, ⟨xs, hl 0 _ _ (Nat.zero_le _) h0⟩, for_tup Pv h0 hl hs hd⟩
theorem ForR.of {n : Int} (h1 : n < 2 ^ 62) (h2 : -(2 ^ 62) ≤ n) (Pv : Nat → St → Hp → Prop) (h0 : Pv 0 σ H)
    (hs : ∀ i σ H, i < n.toNat → Pv i σ H → g (.int (i : Int)) σ H fun σ2 H2 => tb { D with nx := Pv (i + 1), ct := Pv (i + 1), bk := D.nx } σ2 H2) (hd : ∀ σ H, Pv n.toNat σ H → D.nx σ H) : ForR g tb D σ [.int n] H :=
  ⟨n, rfl, h2, h1, for_range (n := n.toNat) Pv h0 (fun i σ H hi p => by
    have e : (0 : Int) + (i : Int) = i := by omega
    rw [e]; exact hs i σ H hi p) hd⟩
end
noncomputable def CompW (g : TG) (tt : TT) (te : TE) (σ0 : St) (Q : VK) (J : It) (H1 : Hp) : Prop := ∀ DD, H1 DD = none → ∃ W : Nat → Nat → List V → Hp → Prop,
  (∃ m, W 0 m [] (upd H1 DD (.lst []))) ∧ ∀ i m ys H2, W i m ys H2 → H2 DD = some (.lst ys) ∧ ys.length < sizeLine ∧ ((J.stop i H2 ∧ Q (.ref DD) H2) ∨ (J.go i H2 ∧ ∃ N : List V → Hp → Prop, (∀ ys' H', N ys' H' → ∃ m', m' < m ∧ W (i + 1) m' ys' H') ∧ ∀ x H3, J.yld i H2 x H3 →
    g x σ0 H3 fun σ3 H4 => Ext σ0 σ3 ∧ tt σ3 H4 fun b H5 => if b = true then te σ3 H5 fun y H6 => H6 DD = some (.lst ys) ∧ N (ys ++ [y]) (upd H6 DD (.lst (ys ++ [y]))) else N ys H5))
noncomputable def CompL (K : PySem.W.Frag) (g : TG) (tt : TT) (te : TE) (σ0 : St) (Q : VK) : VK := fun x H1 => ∃ a, x = .ref a ∧ (∃ xs, SqL K H1 a xs) ∧ CompW g tt te σ0 Q (Itl K a) H1
noncomputable def CompT (K : PySem.W.Frag) (g : TG) (tt : TT) (te : TE) (σ0 : St) (Q : VK) : VK := fun x H1 => ∃ a, x = .ref a ∧ (∃ xs, SqT K H1 a xs) ∧ CompW g tt te σ0 Q (Itt K a) H1
noncomputable def CompS (g : TG) (tt : TT) (te : TE) (σ0 : St) (Q : VK) : VK := fun x H1 => ∃ z, x = .str z ∧ CompW g tt te σ0 Q (Its z) H1
noncomputable def CompR (g : TG) (tt : TT) (te : TE) (σ0 : St) (Q : VK) : List V → Hp → Prop := fun vs H1 => ∃ j : Int, vs = [.int j] ∧ -(2 ^ 62) ≤ j ∧ j < 2 ^ 62 ∧ CompW g tt te σ0 Q (Itr 0 j.toNat) H1
section
variable {K : PySem.W.Frag} {k : Nat} {fm : List Nat} {tl te : TE} {ta : TA} {g : TG} {tt : TT} {σ σ0 : St} {H H1 : Hp} {Q : VK}
theorem tComp_list : tComp k fm (iList K tl) g tt te σ H Q = tl σ H (CompL K g tt te (blkSt k fm σ) Q) := rfl
theorem tComp_tup : tComp k fm (iTup K tl) g tt te σ H Q = tl σ H (CompT K g tt te (blkSt k fm σ) Q) := rfl
theorem tComp_str : tComp k fm (iStr tl) g tt te σ H Q = tl σ H (CompS g tt te (blkSt k fm σ) Q) := rfl
theorem tComp_rng1 : tComp k fm (iRng1 ta) g tt te σ H Q = ta σ H (CompR g tt te (blkSt k fm σ) Q) := rfl
theorem CompL.of {a : Addr} {xs : List V} (hz : xs.length < sizeLine) (hx : SqL K H1 a xs) (Pv : Addr → Nat → List V → Hp → Prop) (h0 : ∀ D, H1 D = none → Pv D 0 [] (upd H1 D (.lst [])))
    (hl : ∀ D i ys H', H1 D = none → i ≤ xs.length → Pv D i ys H' → SqL K H' a xs ∧ H' D = some (.lst ys) ∧ ys.length ≤ i)
    (hs : ∀ D i x ys H', H1 D = none → xs[i]? = some x → Pv D i ys H' → g x σ0 H' fun σ3 H4 => Ext σ0 σ3 ∧ tt σ3 H4 fun b H5 => if b = true then te σ3 H5 fun y H6 => H6 D = some (.lst ys) ∧ Pv D (i + 1) (ys ++ [y]) (upd H6 D (.lst (ys ++ [y]))) else Pv D (i + 1) ys H5)
    (hd : ∀ D ys H', H1 D = none → Pv D xs.length ys H' → Q (.ref D) H') : CompL K g tt te σ0 Q (.ref a) H1 :=
  ⟨a, rfl, ⟨xs, hx⟩, fun D hD => comp_list hz (Pv D) (h0 D hD) (fun i ys H' => hl D i ys H' hD) (fun i x ys H' => hs D i x ys H' hD) fun ys H' => hd D ys H' hD⟩
end
end L2

namespace L2
open PySem PySem.Spec PyProof.Rows
/-! ### plain data, as trees -/
inductive D where
  | non | bl (b : Bool) | int (i : Int) | str (z : Str) | lst (xs : List D) | tup (xs : List D)
mutual
noncomputable def Rep (K : PySem.W.Frag) (H : Hp) : D → V → Prop
  | .non, v => v = .non
  | .bl b, v => v = .bl b
  | .int i, v => v = .int i
  | .str z, v => v = .str z
  | .lst ds, v => ∃ a xs, v = .ref a ∧ SqL K H a xs ∧ RepL K H ds xs
  | .tup ds, v => ∃ a xs, v = .ref a ∧ SqT K H a xs ∧ RepL K H ds xs
noncomputable def RepL (K : PySem.W.Frag) (H : Hp) : List D → List V → Prop
  | [], xs => xs = []
  | d :: ds, xs => ∃ y ys, xs = y :: ys ∧ Rep K H d y ∧ RepL K H ds ys
end
mutual
noncomputable def deq : D → D → Bool
  | .non, .non => true
  | .bl a, .bl b => a == b
  | .bl a, .int b => (if a then 1 else 0) == b
  | .int a, .bl b => a == (if b then 1 else 0)
  | .int a, .int b => a == b
  | .str a, .str b => a == b
  | .lst a, .lst b => deqL a b
  | .tup a, .tup b => deqL a b
  | _, _ => false
noncomputable def deqL : List D → List D → Bool
  | [], [] => true
  | a :: as, b :: bs => deq a b && deqL as bs
  | _, _ => false
end
mutual
noncomputable def dep : D → Nat
  | .lst ds => depL ds + 1
  | .tup ds => depL ds + 1
  | _ => 0
noncomputable def depL : List D → Nat
  | [] => 0
  | d :: ds => max (dep d) (depL ds)
end
mutual
theorem deq_refl : ∀ d : D, deq d d = true
  | .non => rfl
  | .bl a => by simp [deq]
  | .int a => by simp [deq]
  | .str a => by simp [deq]
  | .lst a => by simp only [deq]; exact deqL_refl a
  | .tup a => by simp only [deq]; exact deqL_refl a
theorem deqL_refl : ∀ ds : List D, deqL ds ds = true
  | [] => rfl
  | d :: ds => by simp only [deqL, deq_refl d, deqL_refl ds, Bool.and_self]
end
theorem RepL.len {K : PySem.W.Frag} {H : Hp} : ∀ {ds : List D} {xs : List V}, RepL K H ds xs → ds.length = xs.length
  | [], xs, h => by simp only [RepL] at h; subst h; rfl
  | d :: ds, xs, h => by
    simp only [RepL] at h
    obtain ⟨y, ys, rfl, _, r⟩ := h
    simp [r.len]
noncomputable def eAt (ds es : List D) (j : Nat) : Bool := match ds[j]?, es[j]? with
  | some d, some e => deq d e
  | _, _ => true
theorem eAt_all : ∀ (ds es : List D), ((List.range (min ds.length es.length)).all (eAt ds es) && ds.length == es.length) = deqL ds es
  | [], [] => by simp [deqL]
  | [], e :: es => by simp [deqL]
  | d :: ds, [] => by simp [deqL]
  | d :: ds, e :: es => by
    have ih := eAt_all ds es
    have h1 : min (d :: ds).length (e :: es).length = min ds.length es.length + 1 := by simp only [List.length_cons]; omega
    rw [h1, List.range_succ_eq_map, List.all_cons, List.all_map]
    have h2 : (eAt (d :: ds) (e :: es) ∘ Nat.succ) = eAt ds es := by funext j; simp [eAt]
    have h3 : eAt (d :: ds) (e :: es) 0 = deq d e := by simp [eAt]
    rw [h2, h3]
    simp only [deqL, ← ih, List.length_cons, Bool.and_assoc]
    congr 2
    simp
section
variable {X : Cx} {pins : List (Addr × Obj)} {σ : St} {H : Hp} {s : Shared}
mutual
theorem rep_inj (I : Inv X pins σ H s) : ∀ (d e : D) (x : V), Rep X.K H d x → Rep X.K H e x → d = e
  | d, e, x, hd, he => by
    cases d with
    | non =>
      simp only [Rep] at hd; subst hd
      cases e <;> simp only [Rep] at he <;> first | rfl | (obtain ⟨a, xs, z, _⟩ := he; cases z; done) | (cases he; done)
    | bl b =>
      simp only [Rep] at hd; subst hd
      cases e <;> simp only [Rep] at he <;> first | (obtain ⟨a, xs, z, _⟩ := he; cases z; done) | (cases he; rfl) | (cases he; done)
    | int b =>
      simp only [Rep] at hd; subst hd
      cases e <;> simp only [Rep] at he <;> first | (obtain ⟨a, xs, z, _⟩ := he; cases z; done) | (cases he; rfl) | (cases he; done)
    | str b =>
      simp only [Rep] at hd; subst hd
      cases e <;> simp only [Rep] at he <;> first | (obtain ⟨a, xs, z, _⟩ := he; cases z; done) | (cases he; rfl) | (cases he; done)
    | lst ds =>
      simp only [Rep] at hd
      obtain ⟨a, xs, rfl, hx, r⟩ := hd
      cases e with
      | lst es =>
        simp only [Rep] at he
        obtain ⟨a', xs', z, hx', r'⟩ := he
        cases z
        have := I.list_inj hx hx'
        subst this
        rw [repL_inj I ds es xs r r']
      | tup es =>
        simp only [Rep] at he
        obtain ⟨a', xs', z, hx', r'⟩ := he
        cases z
        exfalso
        obtain ⟨_, _, p, _⟩ := I.list hx
        obtain ⟨_, _, q, _⟩ := I.tuple hx'
        obtain ⟨o, n, e1, e2, _⟩ := p
        obtain ⟨o', e1', e2', _⟩ := q
        rw [e1] at e1'; cases e1'
        rw [e2] at e2'; exact absurd e2' (by decide)
      | _ => simp only [Rep] at he; cases he
    | tup ds =>
      simp only [Rep] at hd
      obtain ⟨a, xs, rfl, hx, r⟩ := hd
      cases e with
      | tup es =>
        simp only [Rep] at he
        obtain ⟨a', xs', z, hx', r'⟩ := he
        cases z
        have := I.tuple_inj hx hx'
        subst this
        rw [repL_inj I ds es xs r r']
      | lst es =>
        simp only [Rep] at he
        obtain ⟨a', xs', z, hx', r'⟩ := he
        cases z
        exfalso
        obtain ⟨_, _, p, _⟩ := I.list hx'
        obtain ⟨_, _, q, _⟩ := I.tuple hx
        obtain ⟨o, n, e1, e2, _⟩ := p
        obtain ⟨o', e1', e2', _⟩ := q
        rw [e1] at e1'; cases e1'
        rw [e2] at e2'; exact absurd e2' (by decide)
      | _ => simp only [Rep] at he; cases he
theorem repL_inj (I : Inv X pins σ H s) : ∀ (ds es : List D) (xs : List V), RepL X.K H ds xs → RepL X.K H es xs → ds = es
  | [], es, xs, hd, he => by
    simp only [RepL] at hd
    subst hd
    cases es with
    | nil => rfl
    | cons e es => simp only [RepL] at he; obtain ⟨y, ys, z, _⟩ := he; cases z
  | d :: ds, es, xs, hd, he => by
    simp only [RepL] at hd
    obtain ⟨y, ys, rfl, r, rs⟩ := hd
    cases es with
    | nil => simp only [RepL] at he; cases he
    | cons e es =>
      simp only [RepL] at he
      obtain ⟨y', ys', z, r', rs'⟩ := he
      cases z
      rw [rep_inj I d e y r r', repL_inj I ds es ys rs rs']
end
theorem isTuple_of {h : Heap} {a : Addr} {its : Array Value} (p : IsTup h a its) : h.IsTuple a its := by
  obtain ⟨o, e, c, n, d⟩ := p
  exact ⟨o, e, c, n, d⟩
mutual
theorem eq_deep (I : Inv X pins σ H s) : ∀ (d e : D) (x y : V) (u v : Value) (A : Around), A.units + dep d < cLine → Rep X.K H d x → Rep X.K H e y → RelV x u → RelV y v → SeqAt.EqAt A s u v (deq d e)
  | .non, e, x, y, u, v, A, hu, hd, he, rx, ry => by
    have hu : A.units < cLine := by omega
    simp only [Rep] at hd; subst hd; cases rx
    cases e <;> simp only [Rep] at he
    · subst he; cases ry; exact SeqAt.EqAt.same _
    · subst he; cases ry; exact SeqAt.EqAt.none_bool _
    · subst he; obtain ⟨t, rfl⟩ := ry; exact SeqAt.EqAt.none_int _ _
    · subst he; obtain ⟨t, rfl⟩ := ry; exact SeqAt.EqAt.none_str _ _
    · obtain ⟨a, xs, rfl, hx, _⟩ := he; cases ry; obtain ⟨_, _, p, _⟩ := I.list hx; exact SeqAt.EqAt.none_list p.isList hu
    · obtain ⟨a, xs, rfl, hx, _⟩ := he; cases ry; obtain ⟨_, _, p, _⟩ := I.tuple hx; exact SeqAt.EqAt.none_tuple (isTuple_of p) hu
  | .bl b, e, x, y, u, v, A, hu, hd, he, rx, ry => by
    have hu : A.units < cLine := by omega
    simp only [Rep] at hd; subst hd; cases rx
    cases e <;> simp only [Rep] at he
    · subst he; cases ry; exact SeqAt.EqAt.bool_none _
    · subst he; cases ry; exact SeqAt.EqAt.bool_bool _ _
    · subst he; obtain ⟨t, rfl⟩ := ry; exact SeqAt.EqAt.bool_int _ _ _
    · subst he; obtain ⟨t, rfl⟩ := ry; exact SeqAt.EqAt.bool_str _ _ _
    · obtain ⟨a, xs, rfl, hx, _⟩ := he; cases ry; obtain ⟨_, _, p, _⟩ := I.list hx; exact SeqAt.EqAt.bool_list _ p.isList hu
    · obtain ⟨a, xs, rfl, hx, _⟩ := he; cases ry; obtain ⟨_, _, p, _⟩ := I.tuple hx; exact SeqAt.EqAt.bool_tuple _ (isTuple_of p) hu
  | .int b, e, x, y, u, v, A, hu, hd, he, rx, ry => by
    have hu : A.units < cLine := by omega
    simp only [Rep] at hd; subst hd; obtain ⟨t0, rfl⟩ := rx
    cases e <;> simp only [Rep] at he
    · subst he; cases ry; exact SeqAt.EqAt.int_none _ _
    · subst he; cases ry; exact SeqAt.EqAt.int_bool _ _ _
    · subst he; obtain ⟨t, rfl⟩ := ry; exact SeqAt.EqAt.int_int _ _ _ _
    · subst he; obtain ⟨t, rfl⟩ := ry; exact SeqAt.EqAt.int_str _ _ _ _
    · obtain ⟨a, xs, rfl, hx, _⟩ := he; cases ry; obtain ⟨_, _, p, _⟩ := I.list hx; exact SeqAt.EqAt.int_list _ _ p.isList hu
    · obtain ⟨a, xs, rfl, hx, _⟩ := he; cases ry; obtain ⟨_, _, p, _⟩ := I.tuple hx; exact SeqAt.EqAt.int_tuple _ _ (isTuple_of p) hu
  | .str b, e, x, y, u, v, A, hu, hd, he, rx, ry => by
    have hu : A.units < cLine := by omega
    simp only [Rep] at hd; subst hd; obtain ⟨t0, rfl⟩ := rx
    cases e <;> simp only [Rep] at he
    · subst he; cases ry; exact SeqAt.EqAt.str_none _ _
    · subst he; cases ry; exact SeqAt.EqAt.str_bool _ _ _
    · subst he; obtain ⟨t, rfl⟩ := ry; exact SeqAt.EqAt.str_int _ _ _ _
    · subst he; obtain ⟨t, rfl⟩ := ry; exact SeqAt.EqAt.str_str _ _ _ _
    · obtain ⟨a, xs, rfl, hx, _⟩ := he; cases ry; obtain ⟨_, _, p, _⟩ := I.list hx; exact SeqAt.EqAt.str_list _ _ p.isList hu
    · obtain ⟨a, xs, rfl, hx, _⟩ := he; cases ry; obtain ⟨_, _, p, _⟩ := I.tuple hx; exact SeqAt.EqAt.str_tuple _ _ (isTuple_of p) hu
  | .lst ds, e, x, y, u, v, A, hu, hd, he, rx, ry => by
    have hu0 : A.units < cLine := by omega
    simp only [dep] at hu
    simp only [Rep] at hd; obtain ⟨a, xs, rfl, hx, r⟩ := hd; cases rx
    obtain ⟨its, rv, p, hz⟩ := I.list hx
    cases e <;> simp only [Rep] at he
    · subst he; cases ry; exact SeqAt.EqAt.list_none p.isList hu0
    · subst he; cases ry; exact SeqAt.EqAt.list_bool _ p.isList hu0
    · subst he; obtain ⟨t, rfl⟩ := ry; exact SeqAt.EqAt.list_int _ _ p.isList hu0
    · subst he; obtain ⟨t, rfl⟩ := ry; exact SeqAt.EqAt.list_str _ _ p.isList hu0
    · rename_i es
      obtain ⟨b, ys, rfl, hy, r'⟩ := he; cases ry
      obtain ⟨its', rv', p', hz'⟩ := I.list hy
      by_cases hab : a = b
      · subst hab
        have := I.list_inj hx hy
        subst this
        rw [repL_inj I ds es xs r r', deq_refl]
        exact SeqAt.EqAt.same _
      · have l1 := r.len
        have l2 := rv.length
        have l3 := r'.len
        have l4 := rv'.length
        have key := eAt_all ds es
        simp only [deq]
        rw [← key]
        by_cases hl : its.length = its'.length
        · have := SeqAt.EqAt.of_refs hab (SeqAt.RcAt.lists (e := eAt ds es) p.isList p'.isList (by simpa using hl) hu0 (fun j h1 h2 => by
            have q := eq_deepL I ds es xs ys its its' A.in1 (by show A.units + 1 + depL ds < cLine; omega) r r' rv rv' j (by simpa using h1) (by simpa using h2)
            simpa using q))
          have e1 : its.toArray.size = min ds.length es.length := by rw [List.size_toArray]; omega
          rw [e1] at this
          have e2 : (ds.length == es.length) = true := by simp; omega
          rw [e2, Bool.and_true]
          exact this
        · have e2 : (ds.length == es.length) = false := by simp; omega
          rw [e2, Bool.and_false]
          exact SeqAt.EqAt.of_refs hab (SeqAt.RcAt.lists_lengths p.isList p'.isList (by simpa using hl) hu0)
    · obtain ⟨b, ys, rfl, hy, r'⟩ := he; cases ry
      obtain ⟨_, _, q, _⟩ := I.tuple hy
      exact SeqAt.EqAt.list_tuple p.isList (isTuple_of q) hu0
  | .tup ds, e, x, y, u, v, A, hu, hd, he, rx, ry => by
    have hu0 : A.units < cLine := by omega
    simp only [dep] at hu
    simp only [Rep] at hd; obtain ⟨a, xs, rfl, hx, r⟩ := hd; cases rx
    obtain ⟨its, rv, p, hz⟩ := I.tuple hx
    cases e <;> simp only [Rep] at he
    · subst he; cases ry; exact SeqAt.EqAt.tuple_none (isTuple_of p) hu0
    · subst he; cases ry; exact SeqAt.EqAt.tuple_bool _ (isTuple_of p) hu0
    · subst he; obtain ⟨t, rfl⟩ := ry; exact SeqAt.EqAt.tuple_int _ _ (isTuple_of p) hu0
    · subst he; obtain ⟨t, rfl⟩ := ry; exact SeqAt.EqAt.tuple_str _ _ (isTuple_of p) hu0
    · obtain ⟨b, ys, rfl, hy, r'⟩ := he; cases ry
      obtain ⟨_, _, q, _⟩ := I.list hy
      exact SeqAt.EqAt.tuple_list (isTuple_of p) q.isList hu0
    · rename_i es
      obtain ⟨b, ys, rfl, hy, r'⟩ := he; cases ry
      obtain ⟨its', rv', p', hz'⟩ := I.tuple hy
      by_cases hab : a = b
      · subst hab
        have := I.tuple_inj hx hy
        subst this
        rw [repL_inj I ds es xs r r', deq_refl]
        exact SeqAt.EqAt.same _
      · have l1 := r.len
        have l2 := rv.length
        have l3 := r'.len
        have l4 := rv'.length
        have key := eAt_all ds es
        simp only [deq]
        rw [← key]
        have := SeqAt.EqAt.of_refs hab (SeqAt.RcAt.tuples (e := eAt ds es) (isTuple_of p) (isTuple_of p') hu0 (fun j h1 h2 => by
            have q := eq_deepL I ds es xs ys its its' A.in1 (by show A.units + 1 + depL ds < cLine; omega) r r' rv rv' j (by simpa using h1) (by simpa using h2)
            simpa using q))
        have e1 : its.toArray.size = ds.length := by rw [List.size_toArray]; omega
        have e2 : its'.toArray.size = es.length := by rw [List.size_toArray]; omega
        rw [e1, e2] at this
        exact this
theorem eq_deepL (I : Inv X pins σ H s) : ∀ (ds es : List D) (xs ys : List V) (us vs : List Value) (A : Around), A.units + depL ds < cLine → RepL X.K H ds xs → RepL X.K H es ys → Vals xs us → Vals ys vs →
    ∀ (j : Nat) (h1 : j < us.length) (h2 : j < vs.length), SeqAt.EqAt A s us[j] vs[j] (eAt ds es j)
  | [], es, xs, ys, us, vs, A, hu, hd, he, rx, ry, j, h1, h2 => by
    simp only [RepL] at hd
    subst hd
    cases rx
    exact absurd h1 (by simp)
  | d :: ds, es, xs, ys, us, vs, A, hu, hd, he, rx, ry, j, h1, h2 => by
    simp only [depL] at hu
    simp only [RepL] at hd
    obtain ⟨x, xs', rfl, rd, rds⟩ := hd
    cases rx with
    | cons r0 rr =>
      cases es with
      | nil =>
        simp only [RepL] at he
        subst he
        cases ry
        exact absurd h2 (by simp)
      | cons e es =>
        simp only [RepL] at he
        obtain ⟨y, ys', rfl, re, res⟩ := he
        cases ry with
        | cons q0 qr =>
          cases j with
          | zero =>
            have : eAt (d :: ds) (e :: es) 0 = deq d e := by simp [eAt]
            rw [this]
            exact eq_deep I d e x y _ _ A (by omega) rd re r0 q0
          | succ j =>
            have : eAt (d :: ds) (e :: es) (j + 1) = eAt ds es j := by simp [eAt]
            rw [this]
            exact eq_deepL I ds es xs' ys' _ _ A (by omega) rds res rr qr j (by simpa using h1) (by simpa using h2)
end
noncomputable def rEqD (K : PySem.W.Frag) : R2 := fun x y H Q => ∃ ds es, ((Rep K H (.lst ds) x ∧ Rep K H (.lst es) y) ∨ (Rep K H (.tup ds) x ∧ Rep K H (.tup es) y)) ∧ depL ds ≤ 20 ∧ Q (.bl (deqL ds es)) H
theorem op_eqD (hu : X.A.units + 64 < cLine) : OpR X (compareOp .Eq) (rEqD X.K) := by
  intro pins s σ H x y v u Q I rx ry h
  obtain ⟨ds, es, h, hdep, q⟩ := h
  have hu0 : X.A.units < cLine := by omega
  have hin : X.A.in1.units + depL ds < cLine := by show X.A.units + 1 + depL ds < cLine; omega
  have key := eAt_all ds es
  rcases h with ⟨h1, h2⟩ | ⟨h1, h2⟩
  · simp only [Rep] at h1 h2
    obtain ⟨a, xs, rfl, hx, r⟩ := h1
    obtain ⟨b, ys, rfl, hy, r'⟩ := h2
    cases rx
    cases ry
    obtain ⟨its, rv, p, hz⟩ := I.list hx
    obtain ⟨its', rv', p', hz'⟩ := I.list hy
    have l1 := r.len
    have l2 := rv.length
    have l3 := r'.len
    have l4 := rv'.length
    by_cases hl : its.length = its'.length
    · refine SeqAt.eq_listAt (e := eAt ds es) p.isList p'.isList (by simpa using hl) hu0 (fun j h1 h2 => ?_) ?_
      · have q := eq_deepL I ds es xs ys its its' X.A.in1 hin r r' rv rv' j (by simpa using h1) (by simpa using h2)
        simpa using q
      · have e1 : its.toArray.size = min ds.length es.length := by rw [List.size_toArray]; omega
        have e2 : (ds.length == es.length) = true := by simp; omega
        rw [e2, Bool.and_true] at key
        rw [e1, key]
        exact ⟨.bl (deqL ds es), H, I, rfl, q⟩
    · have e2 : (ds.length == es.length) = false := by simp; omega
      rw [e2, Bool.and_false] at key
      rw [← key] at q
      exact SeqAt.eq_list_lengthsAt p.isList p'.isList (by simpa using hl) hu0 ⟨.bl false, H, I, rfl, q⟩
  · simp only [Rep] at h1 h2
    obtain ⟨a, xs, rfl, hx, r⟩ := h1
    obtain ⟨b, ys, rfl, hy, r'⟩ := h2
    cases rx
    cases ry
    obtain ⟨its, rv, p, hz⟩ := I.tuple hx
    obtain ⟨its', rv', p', hz'⟩ := I.tuple hy
    have l1 := r.len
    have l2 := rv.length
    have l3 := r'.len
    have l4 := rv'.length
    refine SeqAt.eq_tupleAt (e := eAt ds es) (isTuple_of p) (isTuple_of p') hu0 (fun j h1 h2 => ?_) ?_
    · have q := eq_deepL I ds es xs ys its its' X.A.in1 hin r r' rv rv' j (by simpa using h1) (by simpa using h2)
      simpa using q
    · have e1 : its.toArray.size = ds.length := by rw [List.size_toArray]; omega
      have e2 : its'.toArray.size = es.length := by rw [List.size_toArray]; omega
      rw [e1, e2, key]
      exact ⟨.bl (deqL ds es), H, I, rfl, q⟩
theorem RepL.ints {K : PySem.W.Frag} {H : Hp} : ∀ ns : List Int, RepL K H (ns.map D.int) (ns.map V.int)
  | [] => by simp only [List.map_nil, RepL]
  | n :: ns => by simp only [List.map_cons, RepL]; exact ⟨_, _, rfl, by simp only [Rep], RepL.ints ns⟩
end
/-! ### the same rules with the written part named -/
section
variable {X : Cx} {K : PySem.W.Frag}
theorem ix_listK (e : X.K = K) : IxR X (rIxL K) := e ▸ ix_list
theorem ix_tupK (e : X.K = K) : IxR X (rIxT K) := e ▸ ix_tup
theorem sl_listK (e : X.K = K) : SlR X (rSlL K) := e ▸ sl_list
theorem sl_tupK (e : X.K = K) : SlR X (rSlT K) := e ▸ sl_tup
theorem op_catTK (e : X.K = K) : OpR X (binaryOp .Add) (rCatT K) := e ▸ op_catT
theorem op_inSK (e : X.K = K) : OpR X (compareOp .In) (rIn K false) := e ▸ op_in_seq
theorem op_eqDK (hu : X.A.units + 64 < cLine) (e : X.K = K) : OpR X (compareOp .Eq) (rEqD K) := e ▸ op_eqD hu
theorem call_lenK (e : X.K = K) : CallR X (.builtin "len") (fun xs H Q => ∃ x n, xs = [x] ∧ LenV K x H n ∧ Q (.int n) H) := e ▸ call_len
theorem call_isiK (e : X.K = K) : CallR X (.builtin "isinstance") (rIsi K) := e ▸ call_isi
theorem call_list_ofK (e : X.K = K) : CallR X (.type "list") (fun xs H Q => ∃ p ys, xs = [.ref p] ∧ (SqL K H p ys ∨ SqT K H p ys) ∧ ∀ l, H l = none → Q (.ref l) (upd H l (.lst ys))) := e ▸ call_list_of
theorem pi_listK {tg l : Expr} {tl : TE} (e : X.K = K) (hl : PE X l tl) : PI X tg l (iList K tl) := e ▸ pi_list hl
theorem pi_tupK {tg l : Expr} {tl : TE} (e : X.K = K) (hl : PE X l tl) : PI X tg l (iTup K tl) := e ▸ pi_tup hl
theorem pg_tupK {es : List Expr} {k : Nat} {t : TGs} {n : Nat} {pos : Pos} (e : X.K = K) (hc : X.calm = true) (h : PGs X es t)
    (hn : (assignEach es X.env).length = n := by rfl) (hst : (assignEach es X.env).findIdx? (·.1) = none := by rfl) : PG X (.Tuple es k pos) (gTup K n t) := e ▸ pg_tup hc h hn hst
end
end L2

namespace L2
open PySem PySem.Spec PyProof.Rows
section
variable {X : Cx}
noncomputable def rStarts : V → List V → Hp → VK → Prop := fun x vs H Q => ∃ z y, x = .str z ∧ vs = [.str y] ∧ Q (.bl (Txt.startswith z y)) H
noncomputable def rIndex : V → List V → Hp → VK → Prop := fun x vs H Q => ∃ z y i, x = .str z ∧ vs = [.str y] ∧ (∃ rest, Builtin.Str.occurrences z y 0 z.length 1 = i :: rest) ∧ Q (.int (i : Nat)) H
end
end L2

namespace L2
open PySem PySem.Spec PyProof.Rows
/-! ### an exception on its way: its object at e, the head of its traces at T -/
noncomputable def ExcIs (h : Heap) (e : Addr) (cls : Value) (dx : Option Addr) (fl : Value) (T : Addr) : Prop :=
  ∃ oe vs oT ts, h.get? e = some oe ∧ oe.cls = cls ∧ oe.dict = dx ∧ oe.data = .fields vs ∧ vs[1]? = some (.ref T) ∧ T ≠ e ∧ h.get? T = some oT ∧ oT.data = .fields ts ∧ ts[3]? = some fl
section
variable {M : Model} {A : Around} {E : Value → Shared → Prop} {s : Shared}
end
/-! ### how an exception lies behind a call -/
noncomputable def CXE (P : Program) (w : World) : CXT := fun outer H s E e s' => ∃ (a T : Addr) (cls : Value) (dx : Option Addr) (H' : Hp), e = .ref a ∧ s'.os = s.os ∧ AllBare s'.gens ∧ Un (frs outer) [] H H' s.heap s'.heap ∧ HOk P w H' s'.heap ∧
  s.heap.get? a = none ∧ s.heap.get? T = none ∧ H' a = none ∧ H' T = none ∧ ExcIs s'.heap a cls dx .none T ∧ E cls dx H'
end L2

namespace L2
open PySem PySem.Spec PyProof.Rows
theorem own_obj {K : PySem.W.Frag} {h : Heap} {C : Addr} {bmB : List Value} {newId : String} (X : K.In h) (q : PySem.W.excIn K C bmB newId = true) :
    ∃ bm N nm q bs hdct sn sub ab col dd k0 k1 k2 k3 k5 mN, h.get? C = some (excClassObj nm q C N bs bm hdct sn sub ab col dd k0 k1 k2 k3 k5 newId) ∧ h.Ns N mN ∧ mN "__init__" = none ∧ OwnTail h bmB bm := by
  unfold PySem.W.excIn at q
  split at q
  · rename_i dd cd sl ho
    split at q
    · rename_i C' bm k0 k1 k2 k3 n k5 hm hs
      simp only [Bool.and_eq_true, beq_iff_eq, Bool.not_eq_true'] at q
      obtain ⟨⟨⟨⟨⟨rfl, rfl⟩, hdel⟩, ht⟩, hok⟩, hni⟩ := q
      obtain ⟨nm, bs, mro, ns, qn, hd, sn, sub, ab, col, del⟩ := cd
      dsimp only at hm hdel hok hni
      subst hm hdel
      have hsl : sl = #[k0, k1, k2, k3, some (.builtin n), k5] := by
        obtain ⟨l⟩ := sl
        simp only at hs
        rw [hs]
      subst hsl
      exact ⟨bm, ns, nm, qn, bs, hd, sn, sub, ab, col, dd, k0, k1, k2, k3, k5, _, X _ _ ho, .of_isNs (PySem.W.isNs_of_in X hok), PySem.W.nsMap_none_of_in X hok hni, PySem.W.tail_of_in X ht⟩
    · cases q
  · cases q
section
variable {X : Cx}
noncomputable def tRaise (C : Addr) (E : XK) (t : TA) : TS := fun _ σ H => t σ H fun vs H1 => vs.length ≤ sizeLine ∧ E (.ref C) none H1
end
end L2

/-! an own error as a value: its class, its attributes, isinstance of it -/
namespace L2
open PySem PySem.Spec PyProof.Rows PySem.W
set_option genInjectivity false in
structure XCls (K : Frag) (C : Addr) : Prop where
  ga : findIn K (.ref C) "__getattribute__" = some (some (.builtin "BaseException.__getattribute__"))
  gn : findIn K (.ref C) "__getattr__" = some none
  cl : findIn K (.ref C) "__class__" = some (some (.builtin "object.__class__"))
  sg : specialIn K (.builtin "object.__class__") "__get__" = some (some (.builtin "getset_descriptor.__get__"))
  tk : takesIn K (.builtin "object.__class__") = some true
  mo : mroIn K C (.type "object") = some true
  mb : mroIn K C (.type "BaseException") = some true
section
variable {prog : Program} {w : World} {A : Around} {E : Value → Shared → Prop} {s : Shared} {K : Frag} {x C : Addr} {ox : Obj} {od : Option Obj} {name : Str}
end
end L2

/-! try: a call; except: a suite that raises nothing -/
namespace L2
open PySem PySem.Spec PyProof.Rows
set_option genInjectivity false in
structure Catch (K : PySem.W.Frag) (B C : Addr) : Prop where
  ty : PySem.W.instIn K (.ref B) (.type "tuple") = some false
  bb : PySem.W.mroIn K B (.type "BaseException") = some true
  sub : PySem.W.mroIn K C (.ref B) = some true
/-! ### the context of an except suite -/
section
variable {X : Cx} {pins : List (Addr × Obj)} {σ : St} {H : Hp} {s : Shared} {a : Addr}
end
/-! ### an error that was caught, as a tracked thing -/
noncomputable def XO (a C : Addr) (dx : Option Addr) : HO := .ext fun h => ∃ ob vs, h.get? a = some ob ∧ ob.cls = .ref C ∧ ob.dict = dx ∧ ob.data = .fields vs
noncomputable abbrev XS := St → XK
noncomputable def XP (X : Cx) (pins : List (Addr × Obj)) (E : XS) (e : Value) (s' : Shared) : Prop := ∃ σ H s, Inv X pins σ H s ∧ CXE X.prog X.w X.stack H s (E σ) e s'
noncomputable abbrev TEX := St → Hp → VK → XK → Prop
noncomputable abbrev TSX := Ends → XS → St → Hp → Prop
section
variable {X : Cx} {k : Nat} {f C : Addr} {fd : FuncData} {ps : List Str} {sp : Sp} {dvs : List V} {ds : List Value} {x m : Str} {p pos apos : Pos} {e o : Expr} {es : List Expr} {ta : TE} {t : TA}
noncomputable def xCall (sp : Sp) (dvs : List V) (t : TA) : TEX := fun σ H Q E => t σ H fun vs H1 => sp (vs ++ dvs) H1 Q E
noncomputable def xMeth (C : Addr) (m : Str) (sp : Sp) (dvs : List V) (ta : TE) (t : TA) : TEX := fun σ H Q E => ta σ H fun x H1 => ∃ a dx fs, x = .ref a ∧ H1 a = some (.ins C dx fs) ∧ fs.lookup m = none ∧
  t σ H1 fun vs H2 => sp (x :: (vs ++ dvs)) H2 Q E
end
section
variable {X : Cx} {st : Stmt} {rest : List Stmt} {t : TS} {tx ux : TSX} {e : Expr} {te : TEX} {pos : Pos}
noncomputable def xDrop (te : TEX) : TSX := fun D E σ H => te σ H (fun _ H1 => D.nx σ H1) (E σ)
noncomputable def xSet (i : Nat) (te : TEX) : TSX := fun D E σ H => te σ H (fun v H1 => D.nx (σ.set i (some v)) H1) (E σ)
noncomputable def xRet (te : TEX) : TSX := fun D E σ H => te σ H D.rt (E σ)
noncomputable def xOf (t : TS) : TSX := fun D _ σ H => t D σ H
noncomputable def xSeq (t u : TSX) : TSX := fun D E σ H => t { D with nx := u D E } E σ H
end
/-! ### the exception lands -/
section
variable {X : Cx} {pins : List (Addr × Obj)} {σ : St} {H H' : Hp} {s s' : Shared} {a T : Addr} {cls : Value} {dx : Option Addr} {M : Model} {A : Around} {E : Value → Shared → Prop}
noncomputable def DxOk (dx : Option Addr) (H : Hp) : Prop := dx = none ∨ ∃ d fs, dx = some d ∧ H d = some (.xd fs)
end
/-! ### the rule -/
noncomputable def un1 (i : Nat) (D : Ends) : Ends := { nx := fun σ H => D.nx (σ.set i none) H, rt := D.rt, bk := fun σ H => D.bk (σ.set i none) H, ct := fun σ H => D.ct (σ.set i none) H }
noncomputable def tTryAs (K : PySem.W.Frag) (B : Addr) (i : Nat) (tb : TSX) (th : TS) : TS := fun D σ H =>
  tb D (fun σ' cls dx H' => ∃ C, cls = .ref C ∧ Catch K B C ∧ DxOk dx H' ∧ ∀ a, H' a = none → th (un1 i D) (σ'.set i (some (.ref a))) (upd H' a (XO a C dx))) σ H
noncomputable def tTry0 (K : PySem.W.Frag) (B : Addr) (tb : TSX) (th : TS) : TS := fun D σ H =>
  tb D (fun σ' cls dx H' => ∃ C, cls = .ref C ∧ Catch K B C ∧ DxOk dx H' ∧ th D σ' H') σ H
section
variable {X : Cx} {body suite : List Stmt} {b₀ : Stmt} {x n : Str} {B : Addr} {i : Nat} {np hpos pos : Pos} {tb : TSX} {th : TS}
end
end L2

/-! texts put together: f"..", join; isinstance of a caught error, of a tuple of classes -/
namespace L2
open PySem PySem.Spec PyProof.Rows
section
variable {X : Cx}
noncomputable def Sg (z : Str) : Prop := ∀ c ∈ z.cps.toList, c < 16 ^ 8
noncomputable def tRepr (t : TE) : TE := fun σ H Q => t σ H fun x H1 => ∃ z, x = .str z ∧ (reprText z).length ≤ sizeLine ∧ Q (.str (reprText z)) H1
noncomputable def tFmt (t : TE) : TE := fun σ H Q => t σ H fun x H1 => (∃ z, x = .str z ∧ z.length ≤ sizeLine ∧ Q (.str z) H1) ∨ ∃ i : Int, x = .int i ∧ i.natAbs.log2 < 1920 ∧ Q (.str (toString i)) H1
noncomputable abbrev TJ := Str → St → Hp → VK → Prop
noncomputable def jNil : TJ := fun acc _ H Q => acc.length ≤ sizeLine ∧ Q (.str acc) H
noncomputable def jCons (t : TE) (u : TJ) : TJ := fun acc σ H Q => t σ H fun x H1 => ∃ y, x = .str y ∧ (acc ++ y).length ≤ sizeLine ∧ u (acc ++ y) σ H1 Q
noncomputable def tJoined (t : TJ) : TE := fun σ H Q => t Str.empty σ H Q
/-! ### sep.join(list) -/
noncomputable def rJoin (K : PySem.W.Frag) : V → List V → Hp → VK → Prop := fun x vs H Q => ∃ z a zs, x = .str z ∧ vs = [.ref a] ∧ SqL K H a (zs.map V.str) ∧ JoinOk z zs = true ∧ Q (.str (Txt.join z zs)) H
/-! ### isinstance -/
noncomputable def TyX (K : PySem.W.Frag) (H : Hp) (x : V) (t : Value) : Prop := TyOf K H x t ∨ ∃ a C dx, x = .ref a ∧ t = .ref C ∧ H a = some (XO a C dx) ∧ DxOk dx H ∧ XCls K C
noncomputable def vOf : V → Value
  | .ref a => .ref a
  | .ty n => .type n
  | _ => .none
noncomputable def isCl : V → Bool
  | .ref _ => true
  | .ty _ => true
  | _ => false
noncomputable def rIsx (K : PySem.W.Frag) : List V → Hp → VK → Prop := fun xs H Q => ∃ x c t b, xs = [x, c] ∧ isCl c = true ∧ TyX K H x t ∧ PySem.W.kitOne K t (vOf c) = some b ∧ Q (.bl b) H
noncomputable def rIst (K : PySem.W.Frag) : List V → Hp → VK → Prop := fun xs H Q => ∃ x tp cs t b, xs = [x, .ref tp] ∧ H tp = some (.tup cs) ∧ cs.all isCl = true ∧ TyX K H x t ∧ PySem.W.kitAny K t (cs.map vOf) = some b ∧ Q (.bl b) H
end
section
variable {P : Program} {w : World} {K : PySem.W.Frag} {mg : Str → Option Value} {base : Heap}
end
end L2
namespace L2
end L2
namespace L2
open PySem PySem.Spec PyProof.Rows
end L2

/-! pieces that lie in the heap: (name, stretches, names); what is done to the last one -/
namespace L2
open PySem PySem.Spec PyProof.Rows
set_option genInjectivity false in
structure FillM where
  a : Addr
  at_ : Int
  rule : Str
  name : Str
  add : Int
  soft : Bool
set_option genInjectivity false in
structure StM where
  t : Addr
  lw : Addr
  lf : Addr
  kind : Str
  step : Int
  words : List Int
  fills : List FillM
set_option genInjectivity false in
structure ToldM where
  a : Addr
  name : Str
  sort : Str
  st : Int
  off : Int
set_option genInjectivity false in
structure PcM where
  t : Addr
  ls : Addr
  ln : Addr
  name : Str
  sts : List StM
  nms : List ToldM
noncomputable abbrev FillM.v (f : FillM) : V := .ref f.a
noncomputable abbrev StM.v (s : StM) : V := .ref s.t
noncomputable abbrev ToldM.v (n : ToldM) : V := .ref n.a
noncomputable abbrev PcM.v (p : PcM) : V := .ref p.t
noncomputable def FillM.At (H : Hp) (f : FillM) : Prop := H f.a = some (.tup [.int f.at_, .str f.rule, .str f.name, .int f.add, .bl f.soft])
noncomputable def ToldM.At (H : Hp) (n : ToldM) : Prop := H n.a = some (.tup [.str n.name, .str n.sort, .int n.st, .int n.off])
set_option genInjectivity false in
structure StM.At (H : Hp) (s : StM) : Prop where
  top : H s.t = some (.tup [.str s.kind, .int s.step, .ref s.lw, .ref s.lf])
  wd : H s.lw = some (.lst (s.words.map V.int))
  fl : H s.lf = some (.lst (s.fills.map FillM.v))
  fs : ∀ f ∈ s.fills, f.At H
set_option genInjectivity false in
structure PcM.At (H : Hp) (p : PcM) : Prop where
  top : H p.t = some (.tup [.str p.name, .ref p.ls, .ref p.ln])
  sl : H p.ls = some (.lst (p.sts.map StM.v))
  nl : H p.ln = some (.lst (p.nms.map ToldM.v))
  ss : ∀ s ∈ p.sts, s.At H
  ns : ∀ n ∈ p.nms, n.At H
noncomputable def StM.lists (s : StM) : List Addr := [s.lw, s.lf]
noncomputable def PcM.lists (p : PcM) : List Addr := p.ls :: p.ln :: p.sts.flatMap StM.lists
noncomputable def listsOf (ps : List PcM) : List Addr := ps.flatMap PcM.lists
set_option genInjectivity false in
structure Pcs (H : Hp) (L : Addr) (ps : List PcM) : Prop where
  top : H L = some (.lst (ps.map PcM.v))
  at_ : ∀ p ∈ ps, p.At H
  nd : (L :: listsOf ps).Nodup
/-! ### kept -/
theorem FillM.At.mono {H H' : Hp} {f : FillM} (h : f.At H) (e : Same H H') : f.At H' := e _ _ h
theorem ToldM.At.mono {H H' : Hp} {n : ToldM} (h : n.At H) (e : Same H H') : n.At H' := e _ _ h
theorem StM.At.mono {H H' : Hp} {s : StM} (h : s.At H) (e : Same H H') : s.At H' := ⟨e _ _ h.top, e _ _ h.wd, e _ _ h.fl, fun f hf => (h.fs f hf).mono e⟩
theorem PcM.At.mono {H H' : Hp} {p : PcM} (h : p.At H) (e : Same H H') : p.At H' := ⟨e _ _ h.top, e _ _ h.sl, e _ _ h.nl, fun s hs => (h.ss s hs).mono e, fun n hn => (h.ns n hn).mono e⟩
theorem Pcs.mono {H H' : Hp} {L : Addr} {ps : List PcM} (h : Pcs H L ps) (e : Same H H') : Pcs H' L ps := ⟨e _ _ h.top, fun p hp => (h.at_ p hp).mono e, h.nd⟩
noncomputable def But (H H' : Hp) (l : Addr) : Prop := (∃ xs, H l = some (.lst xs)) ∧ ∀ b o, H b = some o → b ≠ l → H' b = some o
theorem But.upd {H : Hp} {l : Addr} {xs : List V} {o : HO} (h : H l = some (.lst xs)) : But H (L2.upd H l o) l := ⟨⟨xs, h⟩, fun b u e n => by rw [upd_ne n]; exact e⟩
theorem But.tup {H H' : Hp} {l a : Addr} {xs : List V} (b : But H H' l) (h : H a = some (.tup xs)) : H' a = some (.tup xs) := by
  obtain ⟨ys, hl⟩ := b.1
  exact b.2 _ _ h fun e => by rw [e, hl] at h; cases h
theorem FillM.At.but {H H' : Hp} {l : Addr} {f : FillM} (h : f.At H) (b : But H H' l) : f.At H' := b.tup h
theorem ToldM.At.but {H H' : Hp} {l : Addr} {n : ToldM} (h : n.At H) (b : But H H' l) : n.At H' := b.tup h
theorem StM.At.but {H H' : Hp} {l : Addr} {s : StM} (h : s.At H) (b : But H H' l) (n : l ∉ s.lists) : s.At H' :=
  ⟨b.tup h.top, b.2 _ _ h.wd fun e => n (by simp [StM.lists, e]), b.2 _ _ h.fl fun e => n (by simp [StM.lists, e]), fun f hf => (h.fs f hf).but b⟩
theorem PcM.At.but {H H' : Hp} {l : Addr} {p : PcM} (h : p.At H) (b : But H H' l) (n : l ∉ p.lists) : p.At H' :=
  ⟨b.tup h.top, b.2 _ _ h.sl fun e => n (by simp [PcM.lists, e]), b.2 _ _ h.nl fun e => n (by simp [PcM.lists, e]),
    fun s hs => (h.ss s hs).but b fun z => n (by simp only [PcM.lists, List.mem_cons]; exact .inr (.inr (List.mem_flatMap.mpr ⟨s, hs, z⟩))), fun m hm => (h.ns m hm).but b⟩
/-! ### the lists are tracked -/
theorem StM.At.list {H : Hp} {s : StM} (h : s.At H) {b : Addr} (hb : b ∈ s.lists) : ∃ xs, H b = some (.lst xs) := by
  simp only [StM.lists, List.mem_cons, List.not_mem_nil, or_false] at hb
  rcases hb with e | e
  · rw [e]; exact ⟨_, h.wd⟩
  · rw [e]; exact ⟨_, h.fl⟩
theorem PcM.At.list {H : Hp} {p : PcM} (h : p.At H) {b : Addr} (hb : b ∈ p.lists) : ∃ xs, H b = some (.lst xs) := by
  simp only [PcM.lists, List.mem_cons] at hb
  rcases hb with e | e | e
  · rw [e]; exact ⟨_, h.sl⟩
  · rw [e]; exact ⟨_, h.nl⟩
  · obtain ⟨s, hs, z⟩ := List.mem_flatMap.mp e
    exact (h.ss s hs).list z
theorem Pcs.list {H : Hp} {L : Addr} {ps : List PcM} (h : Pcs H L ps) {b : Addr} (hb : b ∈ L :: listsOf ps) : ∃ xs, H b = some (.lst xs) := by
  rcases List.mem_cons.mp hb with e | e
  · rw [e]; exact ⟨_, h.top⟩
  · obtain ⟨p, hp, z⟩ := List.mem_flatMap.mp e
    exact (h.at_ p hp).list z
theorem Pcs.fresh {H : Hp} {L : Addr} {ps : List PcM} (h : Pcs H L ps) {b : Addr} (hb : H b = none) : b ∉ L :: listsOf ps := fun z => by
  obtain ⟨xs, e⟩ := h.list z
  rw [hb] at e; cases e
theorem listsOf_snoc (ps : List PcM) (p : PcM) : listsOf (ps ++ [p]) = listsOf ps ++ p.lists := by simp [listsOf, List.flatMap_append]
theorem Pcs.apart {H : Hp} {L : Addr} {ps : List PcM} {p : PcM} (h : Pcs H L (ps ++ [p])) : (∀ q ∈ ps, ∀ b ∈ p.lists, b ∉ q.lists) ∧ p.lists.Nodup ∧ L ∉ p.lists ∧ ∀ q ∈ ps, L ∉ q.lists := by
  have n := h.nd
  rw [listsOf_snoc] at n
  obtain ⟨n1, n2⟩ := List.nodup_cons.mp n
  obtain ⟨n3, n4, n5⟩ := List.nodup_append.mp n2
  refine ⟨fun q hq b hb z => n5 b (List.mem_flatMap.mpr ⟨q, hq, z⟩) b hb rfl, n4, fun z => n1 (List.mem_append_right _ z), fun q hq z => n1 (List.mem_append_left _ (List.mem_flatMap.mpr ⟨q, hq, z⟩))⟩
/-! ### what is done -/
theorem Pcs.nil {H : Hp} {L : Addr} (h : H L = some (.lst [])) : Pcs H L [] := ⟨h, fun p hp => absurd hp (by simp), by simp [listsOf]⟩
theorem Pcs.newPiece {H : Hp} {L t ls ln : Addr} {nm : Str} {ps : List PcM} (h : Pcs H L ps) (h1 : H t = some (.tup [.str nm, .ref ls, .ref ln])) (h2 : H ls = some (.lst [])) (h3 : H ln = some (.lst [])) (n1 : ls ≠ ln)
    (n2 : ls ∉ L :: listsOf ps) (n3 : ln ∉ L :: listsOf ps) : Pcs (upd H L (.lst (ps.map PcM.v ++ [.ref t]))) L (ps ++ [⟨t, ls, ln, nm, [], []⟩]) := by
  have b : But H (upd H L (.lst (ps.map PcM.v ++ [.ref t]))) L := But.upd h.top
  have nL := (List.nodup_cons.mp h.nd).1
  refine ⟨by rw [upd_same]; simp, fun p hp => ?_, ?_⟩
  · rcases List.mem_append.mp hp with z | z
    · exact (h.at_ p z).but b fun q => nL (List.mem_flatMap.mpr ⟨p, z, q⟩)
    · have e := List.mem_singleton.mp z
      subst e
      refine ⟨b.tup h1, b.2 _ _ h2 fun (e : ls = L) => n2 (e ▸ List.mem_cons_self), b.2 _ _ h3 fun (e : ln = L) => n3 (e ▸ List.mem_cons_self), fun s hs => absurd hs (by simp), fun n hn => absurd hn (by simp)⟩
  · rw [listsOf_snoc]
    show (L :: (listsOf ps ++ [ls, ln])).Nodup
    rw [← List.cons_append]
    refine List.nodup_append.mpr ⟨h.nd, by simp [n1], fun x hx y hy e => ?_⟩
    subst e
    simp only [List.mem_cons, List.not_mem_nil, or_false] at hy
    rcases hy with e | e
    · subst e; exact n2 hx
    · subst e; exact n3 hx
theorem Pcs.last {H : Hp} {L l : Addr} {ps : List PcM} {p p' : PcM} {o : HO} (h : Pcs H L (ps ++ [p])) (hl : l ∈ p.lists) (ht : p'.t = p.t) (hp : p'.At (upd H l o)) (hn : (L :: listsOf (ps ++ [p'])).Nodup) : Pcs (upd H l o) L (ps ++ [p']) := by
  obtain ⟨a1, a2, a3, a4⟩ := h.apart
  obtain ⟨xs, hx⟩ := (h.at_ p (by simp)).list hl
  have b : But H (upd H l o) l := But.upd hx
  refine ⟨?_, fun q hq => ?_, hn⟩
  · rw [b.2 _ _ h.top fun e => a3 (by rw [e]; exact hl)]
    simp [PcM.v, ht]
  · rcases List.mem_append.mp hq with z | z
    · exact (h.at_ q (List.mem_append_left _ z)).but b (a1 q z l hl)
    · rw [List.mem_singleton.mp z]; exact hp
theorem Pcs.newStretch {H : Hp} {L t lw lf : Addr} {kind : Str} {step : Int} {ps : List PcM} {p : PcM} (h : Pcs H L (ps ++ [p])) (h1 : H t = some (.tup [.str kind, .int step, .ref lw, .ref lf])) (h2 : H lw = some (.lst [])) (h3 : H lf = some (.lst []))
    (n1 : lw ≠ lf) (n2 : lw ∉ L :: listsOf (ps ++ [p])) (n3 : lf ∉ L :: listsOf (ps ++ [p])) :
    Pcs (upd H p.ls (.lst (p.sts.map StM.v ++ [.ref t]))) L (ps ++ [{ p with sts := p.sts ++ [⟨t, lw, lf, kind, step, [], []⟩] }]) := by
  have hp := h.at_ p (by simp)
  obtain ⟨a1, a2, a3, a4⟩ := h.apart
  have b : But H (upd H p.ls (.lst (p.sts.map StM.v ++ [.ref t]))) p.ls := But.upd hp.sl
  have in1 : ∀ x, x ∈ p.lists → x ∈ L :: listsOf (ps ++ [p]) := fun x hx => List.mem_cons_of_mem _ (by rw [listsOf_snoc]; exact List.mem_append_right _ hx)
  have hls : p.ls ∈ p.lists := by simp [PcM.lists]
  have nd : p.ls ≠ p.ln ∧ p.ls ∉ p.sts.flatMap StM.lists := by
    have := a2
    simp only [PcM.lists, List.nodup_cons, List.mem_cons, not_or] at this
    exact this.1
  refine h.last hls rfl ⟨b.tup hp.top, by rw [upd_same]; simp, b.2 _ _ hp.nl (Ne.symm nd.1), fun s hs => ?_, fun n hn => (hp.ns n hn).but b⟩ ?_
  · rcases List.mem_append.mp hs with z | z
    · exact (hp.ss s z).but b fun q => nd.2 (List.mem_flatMap.mpr ⟨s, z, q⟩)
    · have e := List.mem_singleton.mp z
      subst e
      exact ⟨b.tup h1, b.2 _ _ h2 fun (e : lw = p.ls) => n2 (in1 _ (e ▸ hls)), b.2 _ _ h3 fun (e : lf = p.ls) => n3 (in1 _ (e ▸ hls)), fun f hf => absurd hf (by simp)⟩
  · have e : L :: listsOf (ps ++ [{ p with sts := p.sts ++ [⟨t, lw, lf, kind, step, [], []⟩] }]) = (L :: listsOf (ps ++ [p])) ++ [lw, lf] := by
      rw [listsOf_snoc, listsOf_snoc]
      simp [PcM.lists, StM.lists, List.flatMap_append]
    rw [e]
    refine List.nodup_append.mpr ⟨h.nd, by simp [n1], fun x hx y hy e => ?_⟩
    subst e
    simp only [List.mem_cons, List.not_mem_nil, or_false] at hy
    rcases hy with e | e
    · subst e; exact n2 hx
    · subst e; exact n3 hx
theorem Pcs.newTold {H : Hp} {L : Addr} {ps : List PcM} {p : PcM} {n : ToldM} (h : Pcs H L (ps ++ [p])) (h1 : n.At H) : Pcs (upd H p.ln (.lst (p.nms.map ToldM.v ++ [n.v]))) L (ps ++ [{ p with nms := p.nms ++ [n] }]) := by
  have hp := h.at_ p (by simp)
  obtain ⟨a1, a2, a3, a4⟩ := h.apart
  have b : But H (upd H p.ln (.lst (p.nms.map ToldM.v ++ [n.v]))) p.ln := But.upd hp.nl
  have hln : p.ln ∈ p.lists := by simp [PcM.lists]
  have nd : p.ls ≠ p.ln ∧ p.ln ∉ p.sts.flatMap StM.lists := by
    have := a2
    simp only [PcM.lists, List.nodup_cons, List.mem_cons, not_or] at this
    exact ⟨this.1.1, this.2.1⟩
  refine h.last hln rfl ⟨b.tup hp.top, b.2 _ _ hp.sl nd.1, by rw [upd_same]; simp, fun s hs => (hp.ss s hs).but b fun q => nd.2 (List.mem_flatMap.mpr ⟨s, hs, q⟩), fun m hm => ?_⟩ ?_
  · rcases List.mem_append.mp hm with z | z
    · exact (hp.ns m z).but b
    · rw [List.mem_singleton.mp z]; exact h1.but b
  · have := h.nd
    rw [listsOf_snoc] at this ⊢
    exact this
theorem Pcs.lastSt {H : Hp} {L : Addr} {ps : List PcM} {p : PcM} {ss : List StM} {s : StM} (h : Pcs H L (ps ++ [p])) (e : p.sts = ss ++ [s]) : s.lw ∈ p.lists ∧ s.lf ∈ p.lists ∧ s.lw ≠ s.lf ∧ (∀ b ∈ s.lists, b ≠ p.ls ∧ b ≠ p.ln ∧ ∀ r ∈ ss, b ∉ r.lists) := by
  obtain ⟨a1, a2, a3, a4⟩ := h.apart
  have hs : s ∈ p.sts := by rw [e]; simp
  have m : ∀ b ∈ s.lists, b ∈ p.sts.flatMap StM.lists := fun b hb => List.mem_flatMap.mpr ⟨s, hs, hb⟩
  have m' : ∀ b ∈ s.lists, b ∈ p.lists := fun b hb => by simp only [PcM.lists, List.mem_cons]; exact .inr (.inr (m b hb))
  simp only [PcM.lists, List.nodup_cons, List.mem_cons, not_or] at a2
  obtain ⟨⟨_, b1⟩, b2, b3⟩ := a2
  rw [e, List.flatMap_append] at b3
  obtain ⟨_, c2, c3⟩ := List.nodup_append.mp b3
  have c2' : s.lists.Nodup := by simpa using c2
  refine ⟨m' _ (by simp [StM.lists]), m' _ (by simp [StM.lists]), ?_, fun b hb => ⟨fun z => b1 (z ▸ m b hb), fun z => b2 (z ▸ m b hb), fun r hr z => c3 b (List.mem_flatMap.mpr ⟨r, hr, z⟩) b (by simpa using hb) rfl⟩⟩
  simpa [StM.lists] using c2'
theorem Pcs.newFill {H : Hp} {L : Addr} {ps : List PcM} {p : PcM} {ss : List StM} {s : StM} {f : FillM} (h : Pcs H L (ps ++ [p])) (e : p.sts = ss ++ [s]) (h1 : f.At H) :
    Pcs (upd H s.lf (.lst (s.fills.map FillM.v ++ [f.v]))) L (ps ++ [{ p with sts := ss ++ [{ s with fills := s.fills ++ [f] }] }]) := by
  have hp := h.at_ p (by simp)
  obtain ⟨m1, m2, n1, n2⟩ := h.lastSt e
  have hs : s.At H := hp.ss s (by rw [e]; simp)
  have b : But H (upd H s.lf (.lst (s.fills.map FillM.v ++ [f.v]))) s.lf := But.upd hs.fl
  obtain ⟨q1, q2, q3⟩ := n2 s.lf (by simp [StM.lists])
  refine h.last m2 rfl ⟨b.tup hp.top, ?_, b.2 _ _ hp.nl (Ne.symm q2), fun r hr => ?_, fun n hn => (hp.ns n hn).but b⟩ ?_
  · rw [b.2 _ _ hp.sl (Ne.symm q1), e]; simp [StM.v]
  · rcases List.mem_append.mp hr with z | z
    · exact (hp.ss r (by rw [e]; exact List.mem_append_left _ z)).but b (q3 r z)
    · have er := List.mem_singleton.mp z
      subst er
      refine ⟨b.tup hs.top, b.2 _ _ hs.wd n1, by rw [upd_same]; simp, fun g hg => ?_⟩
      rcases List.mem_append.mp hg with y | y
      · exact (hs.fs g y).but b
      · rw [List.mem_singleton.mp y]; exact h1.but b
  · have := h.nd
    rw [listsOf_snoc] at this ⊢
    simp only [PcM.lists, e, List.flatMap_append] at this ⊢
    exact this
theorem Pcs.newWord {H : Hp} {L : Addr} {ps : List PcM} {p : PcM} {ss : List StM} {s : StM} {i : Int} (h : Pcs H L (ps ++ [p])) (e : p.sts = ss ++ [s]) :
    Pcs (upd H s.lw (.lst (s.words.map V.int ++ [.int i]))) L (ps ++ [{ p with sts := ss ++ [{ s with words := s.words ++ [i] }] }]) := by
  have hp := h.at_ p (by simp)
  obtain ⟨m1, m2, n1, n2⟩ := h.lastSt e
  have hs : s.At H := hp.ss s (by rw [e]; simp)
  have b : But H (upd H s.lw (.lst (s.words.map V.int ++ [.int i]))) s.lw := But.upd hs.wd
  obtain ⟨q1, q2, q3⟩ := n2 s.lw (by simp [StM.lists])
  refine h.last m1 rfl ⟨b.tup hp.top, ?_, b.2 _ _ hp.nl (Ne.symm q2), fun r hr => ?_, fun n hn => (hp.ns n hn).but b⟩ ?_
  · rw [b.2 _ _ hp.sl (Ne.symm q1), e]; simp [StM.v]
  · rcases List.mem_append.mp hr with z | z
    · exact (hp.ss r (by rw [e]; exact List.mem_append_left _ z)).but b (q3 r z)
    · have er := List.mem_singleton.mp z
      subst er
      exact ⟨b.tup hs.top, by rw [upd_same]; simp, b.2 _ _ hs.fl (Ne.symm n1), fun g hg => (hs.fs g hg).but b⟩
  · have := h.nd
    rw [listsOf_snoc] at this ⊢
    simp only [PcM.lists, e, List.flatMap_append] at this ⊢
    exact this
end L2
namespace L2
open PySem PySem.Spec PyProof.Rows
/-! ### as data -/
noncomputable def FillM.d (f : FillM) : D := .tup [.int f.at_, .str f.rule, .str f.name, .int f.add, .bl f.soft]
noncomputable def StM.d (s : StM) : D := .tup [.str s.kind, .int s.step, .lst (s.words.map D.int), .lst (s.fills.map FillM.d)]
noncomputable def ToldM.d (n : ToldM) : D := .tup [.str n.name, .str n.sort, .int n.st, .int n.off]
noncomputable def PcM.d (p : PcM) : D := .tup [.str p.name, .lst (p.sts.map StM.d), .lst (p.nms.map ToldM.d)]
theorem RepL.map {K : PySem.W.Frag} {H : Hp} {α : Type} {f : α → D} {g : α → V} : ∀ {xs : List α}, (∀ x ∈ xs, Rep K H (f x) (g x)) → RepL K H (xs.map f) (xs.map g)
  | [], _ => by simp [RepL]
  | x :: xs, h => by
    simp only [List.map_cons, RepL]
    exact ⟨_, _, rfl, h x (List.mem_cons_self ..), RepL.map fun y hy => h y (List.mem_cons_of_mem _ hy)⟩
theorem FillM.At.rep {K : PySem.W.Frag} {H : Hp} {f : FillM} (h : f.At H) : Rep K H f.d f.v := by
  simp only [FillM.d, Rep]
  exact ⟨_, _, rfl, SqT.of h, by simp [RepL, Rep]⟩
theorem ToldM.At.rep {K : PySem.W.Frag} {H : Hp} {n : ToldM} (h : n.At H) : Rep K H n.d n.v := by
  simp only [ToldM.d, Rep]
  exact ⟨_, _, rfl, SqT.of h, by simp [RepL, Rep]⟩
theorem StM.At.rep {K : PySem.W.Frag} {H : Hp} {s : StM} (h : s.At H) : Rep K H s.d s.v := by
  simp only [StM.d, Rep]
  refine ⟨_, _, rfl, SqT.of h.top, ?_⟩
  simp only [RepL, Rep]
  exact ⟨_, _, rfl, rfl, _, _, rfl, rfl, _, _, rfl, ⟨_, _, rfl, SqL.of h.wd, RepL.ints _⟩, _, _, rfl, ⟨_, _, rfl, SqL.of h.fl, RepL.map fun f hf => (h.fs f hf).rep⟩, rfl⟩
theorem PcM.At.rep {K : PySem.W.Frag} {H : Hp} {p : PcM} (h : p.At H) : Rep K H p.d p.v := by
  simp only [PcM.d, Rep]
  refine ⟨_, _, rfl, SqT.of h.top, ?_⟩
  simp only [RepL, Rep]
  exact ⟨_, _, rfl, rfl, _, _, rfl, ⟨_, _, rfl, SqL.of h.sl, RepL.map fun s hs => (h.ss s hs).rep⟩, _, _, rfl, ⟨_, _, rfl, SqL.of h.nl, RepL.map fun n hn => (h.ns n hn).rep⟩, rfl⟩
theorem depL_le {α : Type} {f : α → D} {n : Nat} : ∀ {xs : List α}, (∀ x ∈ xs, dep (f x) ≤ n) → depL (xs.map f) ≤ n
  | [], _ => by simp [depL]
  | x :: xs, h => by
    simp only [List.map_cons, depL]
    exact Nat.max_le.mpr ⟨h x (List.mem_cons_self ..), depL_le fun y hy => h y (List.mem_cons_of_mem _ hy)⟩
theorem dep_fill (f : FillM) : dep f.d ≤ 1 := by simp [FillM.d, dep, depL]
theorem dep_told (n : ToldM) : dep n.d ≤ 1 := by simp [ToldM.d, dep, depL]
theorem dep_st (s : StM) : dep s.d ≤ 3 := by
  have h1 : depL (s.words.map D.int) ≤ 0 := depL_le fun x _ => by simp [dep]
  have h2 : depL (s.fills.map FillM.d) ≤ 1 := depL_le fun x _ => dep_fill x
  simp only [StM.d, dep, depL]
  omega
theorem dep_pc (p : PcM) : dep p.d ≤ 5 := by
  have h1 : depL (p.sts.map StM.d) ≤ 3 := depL_le fun x _ => dep_st x
  have h2 : depL (p.nms.map ToldM.d) ≤ 1 := depL_le fun x _ => dep_told x
  simp only [PcM.d, dep, depL]
  omega
theorem deqL_nil (ds : List D) : deqL ds [] = decide (ds = []) := by cases ds <;> simp [deqL]
theorem Pcs.rep {K : PySem.W.Frag} {H : Hp} {L : Addr} {ps : List PcM} (h : Pcs H L ps) : Rep K H (.lst (ps.map PcM.d)) (.ref L) := by
  simp only [Rep]
  exact ⟨_, _, rfl, SqL.of h.top, RepL.map fun p hp => (h.at_ p hp).rep⟩
noncomputable def StM.core (s : StM) : Str × Int × List Int × List FillM := (s.kind, s.step, s.words, s.fills)
theorem StM.d_core {s r : StM} (h : s.core = r.core) : s.d = r.d := by
  simp only [StM.core, Prod.mk.injEq] at h
  simp [StM.d, h]
theorem map_d_core : ∀ {ss rs : List StM}, ss.map StM.core = rs.map StM.core → ss.map StM.d = rs.map StM.d
  | [], [], _ => rfl
  | [], _ :: _, h => by simp at h
  | _ :: _, [], h => by simp at h
  | s :: ss, r :: rs, h => by
    simp only [List.map_cons, List.cons.injEq] at h ⊢
    exact ⟨StM.d_core h.1, map_d_core h.2⟩
set_option genInjectivity false in
structure PcM.Copy (p q : PcM) : Prop where
  name : q.name = p.name
  nms : q.nms = p.nms
  sts : q.sts.map StM.core = p.sts.map StM.core
theorem PcM.Copy.d {p q : PcM} (h : p.Copy q) : q.d = p.d := by simp [PcM.d, h.name, h.nms, map_d_core h.sts]
end L2

/-! own errors with an __init__ of their own -/
namespace L2
open PySem PySem.Spec PyProof.Rows PySem.W
noncomputable abbrev VE : List Value := [.type "ValueError", .type "Exception", .type "BaseException", .type "object"]
noncomputable def ownInit (K : Frag) (C fI : Addr) : Bool :=
  match K.lookup C with
  | none => false
  | some ob =>
    match ob.cls, ob.data, ob.slots.toList with
    | .type "type", .cls cd, [_, _, _, _, some (.builtin n), _] =>
      (match cd.mro with
       | .ref C' :: bm => C' == C && (n == "ValueError.__new__" && (!cd.hasDel && (tailIn K VE bm && (nsOkIn K cd.ns && (cd.hasDict && nsIn K cd.ns "__init__" == some (some (.ref fI)))))))
       | _ => false)
    | _, _, _ => false
section
variable {prog : Program} {w : World} {A : Around} {E : Value → Shared → Prop} {h : Heap} {g : Array GenState} {d : Drawn} {t : Nat} {os : OsState}
variable {nm q : Str} {C N : Addr} {bs bm bmB : List Value} {hdct : Bool} {sn : List Str} {sub : List Value} {ab : Bool} {col : Option Bool} {dd : Option Addr} {k0 k1 k2 k3 k5 : Option Value} {B newId initId : String}
end
/-! ### self.f = v of an error that is being made -/
noncomputable def onlyErr : List Value → Bool
  | .ref _ :: r => onlyErr r
  | l => l == VE
noncomputable def errIn (K : Frag) (C : Addr) : Bool := (clsIn K C).any fun cd => cd.hasDict && onlyErr cd.mro
section
variable {prog : Program} {w : World} {A : Around} {E : Value → Shared → Prop} {s : Shared} {K : Frag} {x C : Addr} {R : Result → Shared → Prop}
end
end L2

namespace L2
open PySem PySem.Spec PyProof.Rows PySem.W
section
variable {M : Model} {A : Around} {E : Value → Shared → Prop} {env : Env}
variable {nm q : Str} {C N : Addr} {bs bm : List Value} {hdct : Bool} {sn : List Str} {sub : List Value} {ab : Bool} {col : Option Bool} {dd : Option Addr} {k0 k1 k2 k3 k5 : Option Value} {newId : String}
end
section
variable {prog : Program} {w : World} {A : Around} {E : Value → Shared → Prop} {s : Shared} {env : Env}
variable {nm q : Str} {C N : Addr} {bs bm bmB : List Value} {hdct : Bool} {sn : List Str} {sub : List Value} {ab : Bool} {col : Option Bool} {dd : Option Addr} {k0 k1 k2 k3 k5 : Option Value} {B newId initId : String}
end
/-! ### an error that is being made -/
noncomputable def XN (a C : Addr) (dx : Option Addr) : HO := .ext fun h => ∃ ob vs v0, h.get? a = some ob ∧ ob.cls = .ref C ∧ ob.dict = dx ∧ ob.data = .fields vs ∧ vs[0]? = some v0 ∧ vs[1]? = some .none
noncomputable def XD (d : Addr) (fs : List (Str × V)) : HO := .ext fun h => ∃ mA, h.Ns1 d mA ∧ (∀ f, RelO (fs.lookup f) (mA f)) ∧ PySem.Within mA (fs.map (·.1))
noncomputable def del (H : Hp) (a : Addr) : Hp := fun b => if b = a then none else H b
section
variable {X : Cx} {pins : List (Addr × Obj)} {σ : St} {H : Hp} {s : Shared} {a C : Addr} {φ : Heap → Prop}
end
end L2

namespace L2
open PySem PySem.Spec PyProof.Rows PySem.W
set_option genInjectivity false in
structure ErrC (K : Frag) (C f : Addr) : Prop where
  ini : ownInit K C f = true
  ei : errIn K C = true
  sa : findIn K (.ref C) "__setattr__" = some (some (.builtin "object.__setattr__"))
  fn : isFn K (.ref f) = true
noncomputable def tRaiseI (C : Addr) (sp : Sp) (E : XK) (t : TA) : TS := fun _ σ H => t σ H fun vs H1 => vs.length ≤ sizeLine ∧ ∀ x, H1 x = none → sp (.ref x :: vs) (upd H1 x (XN x C none)) (fun v H2 => v = .non ∧
  ((H2 x = some (XN x C none) ∧ E (.ref C) none (del H2 x)) ∨ ∃ d fs, d ≠ x ∧ H2 x = some (XN x C (some d)) ∧ H2 d = some (XD d fs) ∧ E (.ref C) (some d) (del (upd H2 d (.xd fs)) x))) E0
noncomputable def tXInit (K : Frag) (t : TA) : TE := fun σ H Q => t σ H fun vs H1 => ∃ a C dx rest f, vs = .ref a :: rest ∧ H1 a = some (XN a C dx) ∧ ErrC K C f ∧ rest.length ≤ sizeLine ∧ Q .non H1
noncomputable def sXFld (K : Frag) (ta tv : TE) (f : Str) : TS := fun D σ H => tv σ H fun y H1 => ta σ H1 fun x H2 => ∃ a C fI dx, x = .ref a ∧ H2 a = some (XN a C dx) ∧ ErrC K C fI ∧ NoAttr K C f ∧
  ((dx = none ∧ ∀ d, H2 d = none → D.nx σ (upd (upd H2 d (XD d [(f, y)])) a (XN a C (some d)))) ∨ ∃ d fs, dx = some d ∧ H2 d = some (XD d fs) ∧ fs.length < 1000 ∧ D.nx σ (upd H2 d (XD d (putF f y fs))))
noncomputable def tXFld (K : Frag) (ta : TE) (f : Str) : TE := fun σ H Q => ta σ H fun x H1 => ∃ a C d fs v, x = .ref a ∧ H1 a = some (XO a C (some d)) ∧ H1 d = some (.xd fs) ∧ XCls K C ∧ hasDictIn K C = true ∧ NoAttr K C f ∧ fs.lookup f = some v ∧ Q v H1
section
variable {X : Cx} {x f : Str} {B C fI : Addr} {k : Nat} {fd : FuncData} {ps : List Str} {sp : Sp} {E : XK} {e o value : Expr} {es : List Expr} {p np apos cpos pos pos' : Pos} {t : TA} {ta tv : TE}
end
end L2

namespace L2
open PySem PySem.Spec PyProof.Rows
section
variable {X : Cx}
theorem pss_weak {b : List Stmt} {t u : TS} (h : PSs X b t) (w : ∀ D σ H, u D σ H → t D σ H) : PSs X b u := fun pins s σ H D I q => h pins s σ H D I (w D σ H q)
theorem pt_weak {e : Expr} {t u : TT} (h : PT X e t) (w : ∀ σ H R, u σ H R → t σ H R) : PT X e u := fun pins s σ H R I q => h pins s σ H R I (w σ H R q)
end
end L2

/-! x = [.. for ..]: the store is done while the comprehension's frame stands yet -/
namespace L2
open PySem PySem.Spec PyProof.Rows
section
variable {X : Cx}
theorem ps_setC {elt iter tg : Expr} {ifs : List Expr} {scope : Scope} {pos spos py : Pos} {y : Str} {i : Nat} {N' : List Str} {k : Nat} {fm : List Nat} {wi : TI} {g : TG} {tt : TT} {te : TE} (hN : X.N.Nodup) (hi' : X.N[i]? = some y) (hy : Loc X.env.scope y) (B : BlkScope X N' k fm scope) (hc : X.calm = true) (hi : PI X tg iter wi)
    (hb : ∀ fp s H, PG (blk X N' scope fp s H) tg g ∧ PTs (blk X N' scope fp s H) ifs tt ∧ PE (blk X N' scope fp s H) elt te)
    (hsw : swapsWith (.ListComp elt [⟨tg, iter, ifs, 0⟩] scope pos) (some (.Name y py)) spos.line X.env = pure true := by rfl)
    (hs : ∀ x, foldedSetIterable iter X.env x = pure x := by intro _; rfl) (hfn : X.fn y = true ∨ X.env.scope.names.lookup y = some .local := by first | exact .inl rfl | exact .inr rfl | assumption) :
    PS X (.Assign [.Name y py] (.ListComp elt [⟨tg, iter, ifs, 0⟩] scope pos) spos) (tAsg (tComp k fm wi g tt te) (gName i)) := by
  intro pins s σ H DD I h
  have hfree : ∀ x ∈ scope.names, x.2 = .free → ∃ c, X.env.cells.lookup x.1 = some c := fun x hx hk => I.ok.has x.1 (B.free x hx hk)
  rw [exec_Assign_Name_used _ _ _ _ hsw]
  refine wpAny_bind (wpAny_standAt (wpAny_bind ?_))
  show wpAny _ X.A (do let _ ← comprehension (.ListComp elt [⟨tg, iter, ifs, 0⟩] scope pos) scope X.env _ (newList []) false (eval iter X.env) (some (assign (.Name y py) X.env))) _ _ s
  refine wpAny_bind (wpAny_mono (wpAny_comprehension_free (use := some (assign (.Name y py) X.env)) (Q := fun _ s' => SP X pins DD .next s') rfl hs (closureFor_eq hfree) B.kind B.names (thn (hi pins s σ H _ I h) fun v s1 h1 => thn h1 fun itv s2 h2 => ?_)) (fun _ s' hq => wpAny_pure (wpAny_pure hq)) fun _ _ e => e)
  obtain ⟨it, fp, tn, J, H2, e, I2, T, st2, f2, h2⟩ := h2
  subst e
  obtain ⟨W, ⟨m0, w0⟩, turn⟩ := h2 s2.heap.objs.size I2.fresh
  refine wpAny_newObj_type (wpAny_newFunctionEnv B.nocell (by intro y hy; simp at hy) (fun h4 hns4 hsb4 => ?_) B.kind)
  have I3 := I2.lnew (its := []) (ys := []) (t' := s2.toks) .nil (Nat.zero_le _)
  have hf3 : ∀ b ∈ fp, FpOk X pins (upd H2 s2.heap.objs.size (.lst [])) b := fun b hb => by
    obtain ⟨o, e, _⟩ := T.obj _ _ st2 b hb
    refine ⟨?_, (f2 b hb).2⟩
    rw [upd_ne (fun z => Nat.lt_irrefl _ (z ▸ Heap.lt_size e))]
    exact (f2 b hb).1
  have ho3 : ∀ b ∈ fp, ∃ o, (s2.heap.push { cls := .type "list", data := .seq ([] : List Value).toArray }).get? b = some o := fun b hb => by
    obtain ⟨o, e, _⟩ := T.obj _ _ st2 b hb
    exact ⟨o, Heap.get?_push_of_some _ e⟩
  have kp4 : ∀ b o, (s2.heap.push { cls := .type "list", data := .seq ([] : List Value).toArray }).get? b = some o → h4.get? b = some o := fun b o e =>
    hsb4.extBut b o (fun z => Nat.lt_irrefl _ (z ▸ Heap.lt_size e)) (Heap.get?_push_of_some _ e)
  have I4 := I3.block (fp := fp) (h' := h4) (tk := s2.toks + ([] : List (Str × Value)).length) B hf3 ho3 hns4 kp4
  generalize hs3 : ({ s2 with heap := s2.heap.push { cls := .type "list", data := .seq ([] : List Value).toArray }, toks := s2.toks } : Shared) = s3 at *
  obtain ⟨hg, ht, he⟩ := hb fp s3 (upd H2 s2.heap.objs.size (.lst []))
  have st4 : tn 0 h4 := T.keep _ _ _ st2 fun b hb o e => kp4 b o (Heap.get?_push_of_some _ e)
  have stat : ∀ {H' : Hp}, (∀ b ∈ fp, H' b = none) → ∀ b ∈ fp, FpOk (blk X N' scope fp s3 (upd H2 s2.heap.objs.size (.lst []))) [] H' b := fun {H'} hn b hb => by
    obtain ⟨f0, f1, f3, f4, f5, f6⟩ := hf3 b hb
    obtain ⟨g1, g2⟩ := I4.ok.exf b hb
    exact ⟨hn b hb, g1, I4.ok.exfs b hb, .inl hb, g2, fun p hp => f6 p ((List.mem_append.mp hp).elim (fun z => List.mem_append_left _ z) fun z => absurd z (by simp))⟩
  have loop : codeAny (model X.prog X.w) X.A (.compLoop (.ListComp elt [⟨tg, iter, ifs, 0⟩] scope pos) 0 (.ref it) (.ref s2.heap.objs.size) (compEnvC scope (clOf X.env scope.names []) s3.heap.objs.size X.env))
      (compPost (model X.prog X.w) X.A X.xe (some (assign (.Name y py) X.env)) (fun _ s' => SP X pins DD .next s') (.ref s2.heap.objs.size) s3.heap.objs.size) { s3 with heap := h4, toks := s2.toks + ([] : List (Str × Value)).length } := by
    refine blk_loop (X := blk X N' scope fp s3 (upd H2 s2.heap.objs.size (.lst []))) (D := s2.heap.objs.size) (Q := fun v H' => DD.nx (σ.set i (some v)) H') (W := W) (m0 := m0) rfl hc T stat hg ht he turn I4 st4 (fun b hb => (hf3 b hb).1) w0 ?_
    intro H' s' I' q
    obtain ⟨m, hn, _⟩ := I'.loc
    have hCn : s3.heap.get? s3.heap.objs.size = none := by
      cases e : s3.heap.get? s3.heap.objs.size with
      | none => rfl
      | some o => exact absurd (Heap.lt_size e) (Nat.lt_irrefl _)
    have J : ∀ h'' : Heap, (∀ b o, b ≠ s3.heap.objs.size → s'.heap.get? b = some o → h''.get? b = some o) → Inv X pins σ H' { s' with heap := h'' } := fun h'' hk => by
      have u : Un (frs X.stack) fp (upd H2 s2.heap.objs.size (.lst [])) H' s3.heap h'' := Un.tail I'.base hk hCn
      refine I3.call' (s' := { s' with heap := h'' }) (ch := fp) I'.os u (I'.hok.tail hk I'.free) I'.bare fun b hb => ?_
      obtain ⟨f0, f1, f3, f4, f5, f6⟩ := hf3 b hb
      exact ⟨f4, f1, f5, f6⟩
    have J1 : Inv X pins σ H' s' := J s'.heap fun _ _ _ e => e
    obtain ⟨oC, es, ep, hoC, hdC, rC⟩ := hn
    have hCf : H' s3.heap.objs.size = none := I'.free
    have hCL : s3.heap.objs.size ≠ X.env.locals := Ne.symm (Nat.ne_of_lt I3.lt)
    have hCfs := I3.nofs (Nat.le_refl _)
    have J2 : Inv X (pins ++ [(s3.heap.objs.size, oC)]) σ H' s' := J1.pins_of fun p hp => by
      rcases List.mem_append.mp hp with z | z
      · exact J1.pin p (List.mem_append_right _ z)
      · rw [List.mem_singleton.mp z]
        exact ⟨hoC, hCf, hCL, hCfs, fun v e => by rw [hdC] at e; cases e⟩
    show wpAny _ X.A (assign (.Name y py) X.env (.ref s2.heap.objs.size)) _ _ _
    refine wpAny_assign_Name (store_ok J2 hN hi' hy (v := .ref s2.heap.objs.size) rfl (fun s5 I5 => ?_) hfn)
    have hC5 := (I5.pin (s3.heap.objs.size, oC) (List.mem_append_right _ (List.mem_append_right _ (List.mem_singleton.mpr rfl)))).1
    refine ⟨m, ⟨oC, es, ep, hC5, hdC, rC⟩, fun h'' hs'' => ?_⟩
    have I6 : Inv X pins (σ.set i (some (.ref s2.heap.objs.size))) H' s5 := I5.pins_of fun p hp => I5.pin p (List.mem_append_right _ (List.mem_append_left _ hp))
    refine ⟨_, H', I6.turned (t' := s5.toks) (it := s3.heap.objs.size) (fun b o hb e => hs''.extBut b o hb e) hCf hCL (.inr I3.sz) (fun x c e z => ?_) (fun p hp z => ?_), q⟩
    · obtain ⟨v, o, ho, _⟩ := I3.cell x c e
      rw [z] at ho
      exact absurd (Heap.lt_size ho) (Nat.lt_irrefl _)
    · have z' := (I3.pin p hp).1
      rw [z] at z'
      exact absurd (Heap.lt_size z') (Nat.lt_irrefl _)
  subst hs3
  exact codeAny_compStart_list loop (T.self X.A 0 _ _ _ st4 loop)
end
end L2

/-! dict(d), d == e, xs.count(x) -/
namespace L2
open PySem PySem.Spec PyProof.Rows
section
variable {prog : Program} {w : World} {K : Type} [DecidableEq K] {knd : KeyKind prog w K} {A : Around} {E : Value → Shared → Prop} {s : Shared}
end
section
variable {X : Cx}
noncomputable def rEqDict (K : PySem.W.Frag) : R2 := fun x y H Q => ∃ p q kvs, x = .ref p ∧ y = .ref q ∧ H p = some (.dK kvs) ∧ H q = some (.dK kvs) ∧ (∀ kv ∈ kvs, ∃ d, Rep K H d kv.2 ∧ dep d ≤ 20) ∧ Q (.bl true) H
noncomputable def rDictOf : List V → Hp → VK → Prop := fun xs H Q => ∃ p kvs, xs = [.ref p] ∧ H p = some (.dK kvs) ∧ ∀ q, H q = none → Q (.ref q) (upd H q (.dK kvs))
noncomputable def cntV (x : V) (xs : List V) : Nat := xs.countP fun y => eqV y x
noncomputable def rCount (K : PySem.W.Frag) : V → List V → Hp → VK → Prop := fun x vs H Q => ∃ p xs y, x = .ref p ∧ vs = [y] ∧ SqL K H p xs ∧ flatV y = true ∧ xs.all flatV = true ∧ Q (.int (cntV y xs : Nat)) H
end
end L2

/-! a comprehension whose element may raise -/
namespace L2
open PySem PySem.Spec PyProof.Rows
section
variable {M : Model} {A : Around} {E : Value → Shared → Prop} {s : Shared}
end
section
variable {prog : Program} {w : World} {A : Around} {R : Result → Shared → Prop} {s : Shared}
end
section
variable {X : Cx}
noncomputable def tCompX (E : XK) (k : Nat) (fm : List Nat) (wi : TI) (g : TG) (tt : TT) (te : TEX) : TE := fun σ H Q => wi σ H fun J H1 => ∀ D, H1 D = none → ∃ W : Nat → Nat → List V → Hp → Prop,
  (∃ m, W 0 m [] (upd H1 D (.lst []))) ∧ ∀ i m ys H2, W i m ys H2 → H2 D = some (.lst ys) ∧ ys.length < sizeLine ∧ ((J.stop i H2 ∧ Q (.ref D) H2) ∨ (J.go i H2 ∧ ∃ N : List V → Hp → Prop, (∀ ys' H', N ys' H' → ∃ m', m' < m ∧ W (i + 1) m' ys' H') ∧ ∀ x H3, J.yld i H2 x H3 →
    g x (blkSt k fm σ) H3 fun σ3 H4 => Ext (blkSt k fm σ) σ3 ∧ tt σ3 H4 fun b H5 => if b = true then te σ3 H5 (fun y H6 => H6 D = some (.lst ys) ∧ N (ys ++ [y]) (upd H6 D (.lst (ys ++ [y])))) E else N ys H5))
end
/-! ### the readings -/
noncomputable def CompWX (E : XK) (g : TG) (tt : TT) (te : TEX) (σ0 : St) (Q : VK) (J : It) (H1 : Hp) : Prop := ∀ DD, H1 DD = none → ∃ W : Nat → Nat → List V → Hp → Prop,
  (∃ m, W 0 m [] (upd H1 DD (.lst []))) ∧ ∀ i m ys H2, W i m ys H2 → H2 DD = some (.lst ys) ∧ ys.length < sizeLine ∧ ((J.stop i H2 ∧ Q (.ref DD) H2) ∨ (J.go i H2 ∧ ∃ N : List V → Hp → Prop, (∀ ys' H', N ys' H' → ∃ m', m' < m ∧ W (i + 1) m' ys' H') ∧ ∀ x H3, J.yld i H2 x H3 →
    g x σ0 H3 fun σ3 H4 => Ext σ0 σ3 ∧ tt σ3 H4 fun b H5 => if b = true then te σ3 H5 (fun y H6 => H6 DD = some (.lst ys) ∧ N (ys ++ [y]) (upd H6 DD (.lst (ys ++ [y])))) E else N ys H5))
noncomputable def CompLX (K : PySem.W.Frag) (E : XK) (g : TG) (tt : TT) (te : TEX) (σ0 : St) (Q : VK) : VK := fun x H1 => ∃ a, x = .ref a ∧ (∃ xs, SqL K H1 a xs) ∧ CompWX E g tt te σ0 Q (Itl K a) H1
section
variable {K : PySem.W.Frag} {k : Nat} {fm : List Nat} {tl : TE} {te : TEX} {g : TG} {tt : TT} {σ σ0 : St} {H H1 : Hp} {Q : VK} {E : XK}
theorem tCompX_list : tCompX E k fm (iList K tl) g tt te σ H Q = tl σ H (CompLX K E g tt te (blkSt k fm σ) Q) := rfl
end
section
variable {M : Model} {A : Around} {E : Value → Shared → Prop} {s : Shared}
end
end L2

/-! lists and dicts cleared -/
namespace L2
open PySem PySem.Spec PyProof.Rows
section
variable {X : Cx}
end
end L2

/-! sorted(..) of texts: of a list, of a dict's keys -/
namespace L2
open PySem PySem.Spec PyProof.Rows
section
variable {X : Cx}
theorem kv_keys {kvs : List (Key × V)} {vs : List (Key × Value)} (r : KV kvs vs) : kvs.map (·.1) = vs.map (·.1) := by
  unfold KV at r
  induction r with
  | nil => rfl
  | cons h _ ih => rw [List.map_cons, List.map_cons, h.1, ih]
theorem refs_of : ∀ {as : List Addr} {us : List Value}, Vals (as.map V.ref) us → us = as.map Value.ref
  | [], [], .nil => rfl
  | a :: as, u :: us, .cons r t => by
    cases r
    rw [refs_of t]; rfl
noncomputable def atD (g : Addr → D) (d : D) : Value → Bool
  | .ref a => deq (g a) d
  | _ => false
noncomputable def rInD (K : PySem.W.Frag) (neg : Bool) : R2 := fun x y H Q => ∃ (p : Addr) (as : List Addr) (g : Addr → D) (d : D), y = .ref p ∧ SqL K H p (as.map V.ref) ∧ (∀ a ∈ as, Rep K H (g a) (.ref a) ∧ dep (g a) ≤ 20) ∧ Rep K H d x ∧ Q (.bl (if neg then !(as.any fun a => deq (g a) d) else as.any fun a => deq (g a) d)) H
theorem any_atD (g : Addr → D) (d : D) (as : List Addr) : (as.map Value.ref).toArray.any (atD g d) = as.any fun a => deq (g a) d := by
  rw [List.any_toArray, List.any_map]; rfl
theorem op_inD (hu : X.A.units + 64 < cLine) : OpR X (compareOp .In) (rInD X.K false) := by
  intro pins s σ H x y v u Q I rx ry h
  obtain ⟨p, as, g, d, rfl, hq, ha, hd, q⟩ := h
  cases ry
  obtain ⟨its, r, pl, hz⟩ := I.list hq
  have e := refs_of r
  subst e
  refine SeqAt.in_listAt (atD g d) pl.isList (fun w hw => ?_) ⟨.bl _, H, I, rfl, by rw [any_atD]; exact q⟩
  obtain ⟨a, hm, rfl⟩ := List.mem_map.mp (by simpa using hw)
  exact eq_deep I (g a) d (.ref a) x (.ref a) v X.A.in1 (by have := (ha a hm).2; show X.A.units + 1 + _ < _; omega) (ha a hm).1 hd rfl rx
theorem op_inDK {K : PySem.W.Frag} (hu : X.A.units + 64 < cLine) (e : X.K = K) : OpR X (compareOp .In) (rInD K false) := e ▸ op_inD hu
end
end L2

/-! dict(list of pairs) -/
namespace L2
open PySem
section
variable {prog : Program} {w : World} {A : Around} {E : Value → Shared → Prop} {s : Shared}
set_option maxHeartbeats 3200000 in
set_option maxHeartbeats 3200000 in
set_option maxHeartbeats 3200000 in
end
section
open PyProof.Rows PySem.Spec
variable {X : Cx}
end
end L2

/-! two lists walked side by side -/
namespace L2
open PySem PySem.Spec PyProof.Rows
section
variable {X : Cx} {pins : List (Addr × Obj)} {σ : List (Option V)} {H H' : Hp} {s : Shared} {h' : Heap}
end
section
variable {X : Cx}
end
section
variable {K : PySem.W.Frag} {k : Nat} {fm : List Nat} {te : TE} {ta : TA} {g : TG} {tt : TT} {σ σ0 : St} {H H1 : Hp} {Q : VK}
end
end L2

/-! a list walked with its numbers -/
namespace L2
open PySem PySem.Spec PyProof.Rows
section
variable {X : Cx}
end
section
variable {K : PySem.W.Frag} {te : TE} {ta : TA} {g : TG} {tb : TS} {D : Ends} {σ : St} {H : Hp}
end
end L2

/-! a dict's keys walked: the dict stands still from there on -/
namespace L2
open PySem PySem.Spec PyProof.Rows
theorem Inv.freeze {X : Cx} {pins : List (Addr × Obj)} {σ : St} {H : Hp} {s : Shared} {a : Addr} {kvs : List (Key × V)} (I : Inv X pins σ H s) (e : H a = some (.dK kvs)) :
    ∃ (o : Obj) (vs : List (Key × Value)) (ep : Nat), s.heap.get? a = some o ∧ (a == sysModules) = false ∧ KV kvs vs ∧ PySem.W.KdkAt (mixKind X.prog X.w) o vs ep ∧ Inv X pins σ (upd H a (.frz o (.dK kvs))) s := by
  obtain ⟨z, hS, vs, rel, dd⟩ := dk_of I.hok e
  obtain ⟨ep, o, es, ho, r⟩ := dd.dictAt
  refine ⟨o, vs, ep, ho, hS, rel, ⟨es, r⟩, ?_⟩
  have ne : ∀ {b : Addr} {u : HO}, H b = some u → u ≠ .dK kvs → b ≠ a := fun {b u} q n z => by rw [z, e] at q; cases q; exact n rfl
  refine I.step (h' := s.heap) (g' := s.gens) (d' := s.drawn) (t' := s.toks) (ch := []) (fun _ z => nomatch z) (fun b o _ _ _ q _ => q) (fun b o _ _ _ q _ => ⟨o.slots, q⟩) (fun b o _ _ n => ?_) (fun b o _ q => ⟨o, q⟩)
    (fun b xs q => by rw [upd_ne (ne q (fun z => nomatch z))]; exact q) (fun b o u q => by rw [upd_ne (ne q (fun z => nomatch z))]; exact q) (fun b ps q => ⟨#[], by rw [upd_ne (ne q (fun z => nomatch z)), q]; simp⟩) (fun m hm => hm) (fun b u q => ?_) I.bare
  · rw [upd_ne (fun z => by rw [z, e] at n; cases n)]; exact n
  · by_cases z : b = a
    · subst z
      rw [upd_same] at q
      cases q
      exact ⟨ho, I.hok b _ e⟩
    · rw [upd_ne z] at q
      refine (I.hok b u q).stay (fun c v _ r => r) (fun c r => ?_) fun c xs r => ?_
      · rw [upd_ne (ne r (fun z => nomatch z))]; exact r
      · rw [upd_ne (ne r (fun z => nomatch z))]; exact r
noncomputable def Itd (a : Addr) (o : Obj) (kvs : List (Key × V)) : It :=
  ⟨fun i H => H a = some (.frz o (.dK kvs)) ∧ ∃ p, kvs[i]? = some p,
   fun i H v H' => H' = H ∧ ∃ p, kvs[i]? = some p ∧ v = kV p.1,
   fun i H => H a = some (.frz o (.dK kvs)) ∧ kvs.length ≤ i⟩
theorem KV.len {kvs : List (Key × V)} {vs : List (Key × Value)} (h : KV kvs vs) : kvs.length = vs.length := Paired.length h
theorem turn_dict {P : Program} {w : World} {K : PySem.W.Frag} {tg : Expr} {a it : Addr} {o : Obj} {kvs : List (Key × V)} {vs : List (Key × Value)} {ep : Nat} (rel : KV kvs vs) (kd : PySem.W.KdkAt (mixKind P w) o vs ep) :
    Turn P w K tg (Itd a o kvs) [it] it (fun i h => h.IsKeyIter it a i vs.length ep) where
  mem := by simp
  obj := fun i h st b hb => by
    have e : b = it := by simpa using hb
    subst e
    obtain ⟨o, e, c, d⟩ := st
    exact ⟨o, e, fun v z => by rw [d] at z; cases z⟩
  keep := fun i h h' st k => st.at fun o e => k it (by simp) o e
  item := by
    intro X hP hw hK hc i pins s σ H E I hf st hg
    subst hP hw hK
    obtain ⟨hH, p, hp⟩ := hg
    obtain ⟨ho, _⟩ := (show ObjOk X.prog X.w H s.heap a (.frz o (.dK kvs)) from I.hok a _ hH)
    have hl := rel.len
    have hil := (List.getElem?_eq_some_iff.mp hp).1
    have hv : vs[i]? = some vs[i] := List.getElem?_eq_getElem (by omega)
    have hk : vs[i].1 = p.1 := by
      have e1 : (kvs.map (·.1))[i]? = some p.1 := by rw [List.getElem?_map, hp]; rfl
      rw [kv_keys rel, List.getElem?_map, hv] at e1
      exact Option.some.inj e1
    obtain ⟨f0, f1, f2, f3, f4, f5⟩ := hf it (by simp)
    refine wpAny_pyNext_dict_item st (PySem.W.KdkAt.dictAt kd ho) (k := vs[i].1) (v := vs[i].2) hv fun key h' hkey st' sb => ?_
    have I1 : Inv X pins σ H { s with heap := h' } := I.turned (t' := s.toks) (fun b o hb e => (sb.2 b hb).trans e) f0 f1 f3 f4 f5
    obtain ⟨oi, e, c, d⟩ := id st'
    rw [hk] at hkey
    have rk : RelV (kV p.1) key := by
      rcases keyIs_shape hkey with ⟨n, t, e1, rfl⟩ | ⟨x, t, e1, rfl⟩
      · rw [e1]; exact ⟨t, rfl⟩
      · rw [e1]; exact ⟨t, rfl⟩
    exact ⟨key, rfl, go_of (s := { s with heap := h' }) e c d (by decide) ⟨kV p.1, H, I1, rk, ⟨rfl, p, hp, rfl⟩, st', fun b hb => (hf b hb).1⟩⟩
  done := by
    intro X hP hw hK hc i pins s σ H E I hf st hg
    subst hP hw hK
    obtain ⟨hH, hi⟩ := hg
    obtain ⟨ho, _⟩ := (show ObjOk X.prog X.w H s.heap a (.frz o (.dK kvs)) from I.hok a _ hH)
    obtain ⟨f0, f1, f2, f3, f4, f5⟩ := hf it (by simp)
    have hl := rel.len
    exact wpAny_pyNext_dict_end (I.ok.hd hc) st (PySem.W.KdkAt.dictAt kd ho) (by simp; omega) fun h' eb => ⟨rfl, I.turned (t' := s.toks) (fun b o hb e => eb b o hb e) f0 f1 f3 f4 f5⟩
  self := fun _ _ _ _ _ st h => wpAny_pyIter_keyiter st h
section
variable {X : Cx}
noncomputable def iDict (te : TE) : TI := fun σ H R => te σ H fun x H1 => ∃ a kvs, x = .ref a ∧ H1 a = some (.dK kvs) ∧ ∀ o, R (Itd a o kvs) (upd H1 a (.frz o (.dK kvs)))
theorem pi_dict {tg l : Expr} {tl : TE} (hl : PE X l tl) : PI X tg l (iDict tl) := by
  intro pins s σ H R I h
  refine thn (hl pins s σ H _ I h) fun v s1 ⟨x, H1, I1, r1, q1⟩ => ?_
  obtain ⟨a, kvs, e, hq, q⟩ := q1
  subst e
  cases r1
  obtain ⟨o, vs, ep, ho, hS, rel, kd, I2⟩ := I1.freeze hq
  refine wpAny_pyIter_dict hS (PySem.W.KdkAt.dictAt kd ho) ?_
  refine ⟨s1.heap.objs.size, [s1.heap.objs.size], _, _, _, rfl, I2.kept (t' := s1.toks) fun b o e => Heap.get?_push_of_some _ e, turn_dict rel kd, ⟨_, Heap.get?_push_size _ rfl, rfl, rfl⟩, fun b hb => ?_, q o⟩
  have e : b = s1.heap.objs.size := by simpa using hb
  subst e
  exact I2.fpOk (Nat.le_refl _) (I2.hok.fresh (Nat.le_refl _))
end
noncomputable def ForD (g : TG) (tb : TS) (D : Ends) (σ : St) : VK := fun x H1 => ∃ a kvs, x = .ref a ∧ H1 a = some (.dK kvs) ∧ ∀ o, ForW g tb D σ (Itd a o kvs) (upd H1 a (.frz o (.dK kvs)))
section
variable {te : TE} {g : TG} {tb : TS} {D : Ends} {σ : St} {H : Hp}
theorem tFor_dict : tFor (iDict te) g tb D σ H = te σ H (ForD g tb D σ) := rfl
theorem ForD.of {a : Addr} {kvs : List (Key × V)} (hd : H a = some (.dK kvs)) (Pv : Obj → Nat → St → Hp → Prop) (h0 : ∀ o, Pv o 0 σ (upd H a (.frz o (.dK kvs)))) (hl : ∀ o i σ H, i ≤ kvs.length → Pv o i σ H → H a = some (.frz o (.dK kvs)))
    (hs : ∀ o i p σ H, kvs[i]? = some p → Pv o i σ H → g (kV p.1) σ H fun σ2 H2 => tb { D with nx := Pv o (i + 1), ct := Pv o (i + 1), bk := D.nx } σ2 H2) (he : ∀ o σ H, Pv o kvs.length σ H → D.nx σ H) : ForD g tb D σ (.ref a) H := by
  refine ⟨a, kvs, rfl, hd, fun o => ⟨fun i m σ H => m = kvs.length - i ∧ i ≤ kvs.length ∧ Pv o i σ H, ⟨kvs.length, by simp, Nat.zero_le _, h0 o⟩, ?_⟩⟩
  rintro i m σ H ⟨rfl, hi, p⟩
  have q := hl o i σ H hi p
  by_cases hlt : i < kvs.length
  · refine .inr ⟨⟨q, kvs[i], by simp [hlt]⟩, Pv o (i + 1), fun σ' H' p' => ⟨kvs.length - (i + 1), by omega, rfl, hlt, p'⟩, fun x H' y => ?_⟩
    obtain ⟨rfl, u, hu, rfl⟩ := y
    exact hs o i u σ _ hu p
  · have e : i = kvs.length := by omega
    subst e
    exact .inl ⟨⟨q, Nat.le_refl _⟩, he o σ H p⟩
end
end L2

namespace L2
open PySem PySem.Spec PyProof.Rows
/-! text.split(sep) -/
section
variable {X : Cx}
end
/-! the split of what was joined -/
end L2

namespace L2
open PySem PySem.Spec PyProof.Rows
/-! numbers in texts: what number_of reads -/
end L2

/-! enumerate(a list, start=i) -/
namespace L2
open PySem PySem.Spec PyProof.Rows
section
variable {M : Model} {A : Around} {E : Value → Shared → Prop} {s : Shared} {env : Env}
end
section
variable {prog : Program} {w : World} {A : Around} {E : Value → Shared → Prop} {s : Shared}
end
end L2

namespace L2
open PySem PySem.Spec PyProof.Rows
section
variable {prog : Program} {w : World} {A : Around} {E : Value → Shared → Prop} {s : Shared}
end
section
variable {prog : Program} {w : World} {A : Around} {E : Value → Shared → Prop} {s : Shared}
end
section
variable {X : Cx}
end
section
variable {K : PySem.W.Frag} {te : TE} {ta : TA} {g : TG} {tb : TS} {D : Ends} {σ : St} {H : Hp}
end
end L2

/-! a dict of the top, with texts as keys: get -/
namespace L2
open PySem PySem.Spec PyProof.Rows
section
variable {X : Cx} {o e : Expr} {ty : TE} {a : Addr} {kvs : List (Key × V)} {apos cpos : Pos}
end
section
variable {K : PySem.W.Frag} {te : TE} {g : TG} {tt : TT} {σ0 : St} {H1 : Hp} {Q : VK}
end
end L2

/-! a for loop whose body may raise -/
namespace L2
open PySem PySem.Spec PyProof.Rows
section
variable {M : Model} {A : Around} {E : Value → Shared → Prop} {s : Shared}
end
section
variable {X : Cx} {tg : Expr} {E : XK}
end
end L2

/-! sets of texts: made, added to, walked in whatever order -/
namespace L2
open PySem
section
variable {prog : Program} {w : World} {A : Around} {E : Value → Shared → Prop} {s : Shared} {a : Addr} {L : List Str}
end
end L2
namespace L2
open PySem
section
variable {prog : Program} {w : World} {A : Around} {E : Value → Shared → Prop} {s : Shared} {it a : Addr} {i n ep slot next : Nat} {es : Array (Int × Value)} {t : SetTable} {Q : Option Value → Shared → Prop} {x : Value}
end
end L2
namespace L2
open PySem
section
variable {prog : Program} {w : World} {A : Around} {E : Value → Shared → Prop} {s : Shared} {I a : Addr} {n ep : Nat} {es : Array (Int × Value)} {t : SetTable}
end
end L2
namespace L2
open PySem
section
variable {prog : Program} {w : World} {A : Around} {E : Value → Shared → Prop} {s : Shared} {a : Addr} {L : List Str}
end
end L2
namespace L2
open PySem PySem.Spec
section
variable {prog : Program} {w : World} {A : Around} {E : Value → Shared → Prop}
set_option maxHeartbeats 3200000 in
end
section
open PyProof.Rows
variable {X : Cx}
end
end L2

/-! text.zfill(n) -/
namespace L2
open PySem PySem.Spec PyProof.Rows
section
variable {X : Cx}
end
end L2

/-! one piece under way: its lists, without the tuple -/
namespace L2
open PySem PySem.Spec PyProof.Rows
end L2

/-! d.setdefault(k, x) -/
namespace L2
open PySem PySem.Spec PyProof.Rows
section
variable {prog : Program} {w : World} {K : Type} [DecidableEq K] {knd : HeapKind prog w K} {A : Around} {E : Value → Shared → Prop} {s : Shared}
theorem grown {d a : Addr} {o : Obj} {es : Array DictEntry} {ep : Nat} {xs : List (K × Addr × Value)} {k : K} {v : Value} {h : Heap} (ho : h.get? d = some o) (hd : o.data = .dict es ep) (hc : o.ExactDict)
    (he : es.toList = xs.map (entryOfKey knd)) (his : ∀ x ∈ xs, knd.is h x.1 x.2.1) (hn : (xs.map (·.1)).Nodup) (hkey : knd.is h k a) (hno : ∀ (j : Nat) (p : Addr × Value), xs[j]? ≠ some (k, p)) :
    (h.update d (Obj.mapDictKeys fun l => l.push ⟨knd.hash k, .ref a, v⟩)).DictOfH knd d (storedH xs k a v) := by
  have e : storedH xs k a v = xs ++ [(k, a, v)] := storedH_new (atKey_none_of_get hno) a v
  have keep : ∀ {c : K} {b : Addr}, knd.is h c b → knd.is (h.update d (Obj.mapDictKeys fun l => l.push ⟨knd.hash k, .ref a, v⟩)) c b := fun q => knd.keeps q ho hd (Heap.SameBut.update ..)
  have dat := Obj.data_mapDictKeys hd fun l => l.push ⟨knd.hash k, .ref a, v⟩
  refine e ▸ ⟨_, es.push ⟨knd.hash k, .ref a, v⟩, ep + 1, Heap.get?_update_self _ ho (Obj.isFreed_of_dict dat), hc.mapDictKeys _, dat, ?_, ?_, ?_⟩
  · rw [Array.toList_push, he, List.map_append]; rfl
  · exact fun x hx => (List.mem_append.mp hx).elim (fun q => keep (his x q)) fun q => by cases List.mem_singleton.mp q; exact keep hkey
  · rw [List.map_append]
    refine List.nodup_append.mpr ⟨hn, by simp, fun x hx y hy q => not_mem_keys_of_get hno ?_⟩
    have ey : y = k := by simpa using hy
    rw [← ey, ← q]; exact hx
theorem setdef_heap {d a : Addr} {xs : List (K × Addr × Value)} {k : K} {v : Value} {Q : Value → Shared → Prop} (hu : knd.room A) (hkey : knd.is s.heap k a) (hm : s.heap.DictOfH knd d xs) (hsz : xs.length ≤ sizeLine)
    (there : ∀ u, (atKey xs k).map (·.2) = some u → Q u { s with toks := s.toks + knd.draws k })
    (new : (atKey xs k).map (·.2) = none → ∀ h', h'.DictOfH knd d (storedH xs k a v) → Heap.SameBut d s.heap h' → Q v { s with heap := h', toks := s.toks + knd.draws k }) :
    wpAny (model prog w) A (dictSetDefault d (.ref a) v) Q E s := by
  obtain ⟨o, es, ep, ho, hc, hd, he, his, hn⟩ := hm
  have hes : es.size ≤ sizeLine := by rw [size_of_entries he]; exact hsz
  have none_of : ∀ hno : (∀ (j : Nat) (p : Addr × Value), xs[j]? ≠ some (k, p)), (atKey xs k).map (·.2) = none := fun hno => by rw [atKey_none_of_get hno]; rfl
  exact wpAny_holding (wpAny_bind (knd.pyHash hu hkey (wpAny_bind (wpAny_dictFind_heap (s := { s with toks := s.toks + knd.draws k }) hu hkey ho hd he his hn
    (fun hno => wpAny_bind (wpAny_rule (wpAny_bind (wpAny_updateDictKeys (hz := hes) (s := { s with toks := s.toks + knd.draws k }) ho hd (wpAny_pure (new (none_of hno) _ (grown ho hd hc he his hn hkey hno) (Heap.SameBut.update ..)))))))
    fun j p hj => wpAny_bind (wpAny_dictEntries (s := { s with toks := s.toks + knd.draws k }) ho hd (by
      rw [entry_at he j, hj]
      exact wpAny_bind (wpAny_rule (wpAny_pure (there p.2 (by rw [atKey_of_get hn hj]; rfl))))))))))
theorem meets_sd (knd : HeapKind prog w K) {d : Addr} (a : Addr) (hd : (d == sysModules) = false) (x : Value) :
    MeetsIn prog w (Builtin.«dict.setdefault» ⟨[.ref d, .ref a, x], []⟩) fun A R s => knd.room A.in1 ∧ ∃ k xs, knd.is s.heap k a ∧ s.heap.DictOfH knd d xs ∧ xs.length ≤ sizeLine ∧
      (∀ v, (atKey xs k).map (·.2) = some v → R (.ok (.ret v)) { s with toks := s.toks + knd.draws k }) ∧
      ((atKey xs k).map (·.2) = none → ∀ h', h'.DictOfH knd d (storedH xs k a x) → Heap.SameBut d s.heap h' → R (.ok (.ret x)) { s with heap := h', toks := s.toks + knd.draws k }) := by
  refine .of_wp ?_
  rintro A R s ⟨hu, k, xs, hkey, hm, hz, there, new⟩
  have main := setdef_heap (v := x) (E := fun e s' => R (.error e) s') (Q := fun v s' => R (.ok (.ret v)) s') hu hkey hm hz there new
  refine wpAny_bind (wpAny_bind (wpAny_notOrdered_dict hm.typeIs (wpAny_pure ?_)))
  simp only [hd, Bool.false_eq_true, if_false]
  exact wpAny_bind (wpAny_mono main (fun v s' q => wpAny_pure ⟨v, rfl, q⟩) fun _ _ q => q)
end
section
variable {X : Cx} {pins : List (Addr × Obj)} {σ : St} {H : Hp} {s : Shared} {a : Addr} {y d : V} {u r : Value} {o : Option V} {A : Around} {E : Value → Shared → Prop}
theorem d_setdef {H' : Hp} {Q : Value → Shared → Prop} (hu : A.units + 1 < cLine) (I : Inv X pins σ H s) (g : DGet H a y o) (p : DPut H a y d H') (ry : RelV y u) (rd : RelV d r)
    (h1 : ∀ v w' s', o = some v → Inv X pins σ H s' → RelV v w' → Q w' s') (h2 : ∀ w' s', o = none → Inv X pins σ H' s' → RelV d w' → Q w' s') :
    wpAny (model X.prog X.w) A (call (.builtin "dict.setdefault") [.ref a, u, r]) Q E s := by
  rcases p with ⟨kvs, k, e, ey, l, eH⟩ | ⟨kvs, k, b, e, ey, eb, l, eH⟩
  · subst ey eH
    obtain ⟨z, hd, vs, rel, dd⟩ := dk_of I.hok e
    have go : o = valV kvs k := by
      rcases g with ⟨kvs', k', e', ey', l'⟩ | ⟨kvs', k', b, e', ey', eb', l'⟩
      · have ek : k' = k := by cases k <;> cases k' <;> simp_all [kV]
        rcases e' with e' | ⟨ob, e'⟩
        · rw [e] at e'; cases e'; rw [l', ek]
        · rw [e] at e'; cases e'
      · cases k <;> cases ey'
    have hz : vs.length ≤ sizeLine := by rw [← rel.length]; exact z
    have hl : (putK kvs k d).length ≤ sizeLine := by have := length_putK kvs k d; omega
    refine call_meetsIn PySem.F.slot_dict_setdefault dd.typeIs PySem.F.entry_dict_setdefault (PySem.F.args_dict_setdefault_3 _ _ _) (kt_meets_setdefault (mixKind X.prog X.w) a (kV_is ry) hd r) ⟨vs, dd, hz, fun v hv => ?_, fun hn h' dd' hs => ?_⟩
    · have q := rel.val k
      rw [hv] at q
      cases ho : valV kvs k with
      | none => rw [ho] at q; exact q.elim
      | some v' => rw [ho] at q; exact h1 v' v _ (by rw [go, ho]) (I.tok _) q
    · have q := rel.val k
      rw [hn] at q
      have ho : valV kvs k = none := by
        cases ho : valV kvs k with
        | none => rfl
        | some v' => rw [ho] at q; exact q.elim
      have he : ∃ q, h'.get? a = some q := let ⟨q, _, _, hq, _⟩ := dd'; ⟨q, hq⟩
      exact h2 r _ (by rw [go, ho]) (d_write I (by rw [e]; exact True.intro) hs he (dk_new hl hd (rel.put k rd) dd')) rd
  · subst ey eH
    cases (show u = Value.ref b from ry)
    obtain ⟨z, hd, xs, rel, dd⟩ := dt_of I.hok e
    have go : o = valV kvs k := by
      rcases g with ⟨kvs', k', e', ey', l'⟩ | ⟨kvs', k', b', e', ey', eb', l'⟩
      · cases k' <;> cases ey'
      · cases ey'
        have ek : k' = k := by
          rw [eb] at eb'
          injection eb' with eb'
          injection eb' with eb'
          exact (List.map_inj_right (f := kV) (by intro x y q; cases x <;> cases y <;> simp_all [kV])).mp eb'.symm
        rcases e' with e' | ⟨ob, e'⟩
        · rw [e] at e'; cases e'; rw [l', ek]
        · rw [e] at e'; cases e'
    have hz : xs.length ≤ sizeLine := by rw [← Paired.length rel]; exact z
    have hl : (putK kvs k d).length ≤ sizeLine := by have := length_putK kvs k d; omega
    refine call_meetsIn PySem.F.slot_dict_setdefault dd.typeIs PySem.F.entry_dict_setdefault (PySem.F.args_dict_setdefault_3 _ _ _) (meets_sd (tupleKind (mixKind X.prog X.w)) b hd r) ⟨tupleKind_room_in1 hu, k, xs, key_of I.hok eb, dd, hz, fun v hv => ?_, fun hn h' dd' hs => ?_⟩
    · have q := rel.val k
      rw [hv] at q
      cases ho : valV kvs k with
      | none => rw [ho] at q; exact q.elim
      | some v' => rw [ho] at q; exact h1 v' v _ (by rw [go, ho]) (I.tok _) q
    · have q := rel.val k
      rw [hn] at q
      have ho : valV kvs k = none := by
        cases ho : valV kvs k with
        | none => rfl
        | some v' => rw [ho] at q; exact q.elim
      obtain ⟨qo, es, ep, hq, g2, g3, g4, _, g5⟩ := dd'
      refine h2 r _ (by rw [go, ho]) (d_write I (by rw [e]; exact True.intro) hs ⟨qo, hq⟩ ⟨hl, hd, _, (rel.put k eb rd).keeps fun c ys ec => ?_, qo, es, ep, hq, g2, g3, g4, g5⟩) rd
      rw [upd_ne (ne_of ec e (fun z => nomatch z))]
      exact ec
end
noncomputable def tDSd (td ty tx : TE) : TE := fun σ H Q => td σ H fun x H1 => ∃ a, x = .ref a ∧ IsD H1 a ∧ ty σ H1 fun y H2 => tx σ H2 fun z H3 => ∃ o H4, DGet H3 a y o ∧ DPut H3 a y z H4 ∧ (∀ v, o = some v → Q v H3) ∧ (o = none → Q z H4)
section
variable {X : Cx} {o e f : Expr} {apos cpos : Pos} {td ty tx : TE}
theorem pe_dsd (hu : X.A.units + 1 < cLine) (ho : PE X o td) (he : PE X e ty) (hf : PE X f tx) (m : M2 X o "setdefault" apos e f cpos) : PE X (.Call (.Attribute o "setdefault" apos) [e, f] [] cpos) (tDSd td ty tx) := by
  intro pins s σ H Q I h
  refine wpAny_Call_method m.base m.few m.line PySem.F.plainAttrs_dict PySem.F.slot_dict_setdefault PySem.F.type_dict_setdefault (thn (ho pins s σ H _ I h) fun u s1 ⟨x, H1, I1, rx, a, ex, d, q1⟩ => ?_)
  subst ex
  obtain rfl : u = Value.ref a := rx
  obtain ⟨t1, t2, _⟩ := isD_at I1 d
  refine ⟨t1, t2, ?_⟩
  rw [m.trees]
  refine Calls.callWith_builtin rfl (Calls.evalArgs_plain (Calls.spliced_cons (thn (he pins s1 σ H1 _ I1 q1) fun iv s2 ⟨y, H2, I2, ry, q2⟩ =>
    Calls.spliced_cons (thn (hf pins s2 σ H2 _ I2 q2) fun fv s3 ⟨z, H3, I3, rz, ov, H4, g, p, q3, q4⟩ => Calls.spliced_nil ?_))))
  exact d_setdef hu I3 g p ry rz (fun v w' s4 e4 I4 rw' => ⟨v, H3, I4, rw', q3 v e4⟩) (fun w' s4 e4 I4 rw' => ⟨z, H4, I4, rw', q4 e4⟩)
end
end L2

/-! sorted(..) of fewer than 64 things of any kind that are told apart by ranks: every comparison answers which rank is the lower one -/
namespace L2
open PySem PySem.Spec PyProof.Rows
section
variable {prog : Program} {w : World} {A : Around} {E : Value → Shared → Prop} {s : Shared} {kd : SortKind} {r : Keyed → Nat} {base : Array Keyed}
noncomputable def rk (r : Keyed → Nat) (xs : Array Keyed) (i : Nat) : Nat := (xs[i]?.map r).getD 0
noncomputable def Rise (r : Keyed → Nat) (xs : Array Keyed) (n : Nat) : Prop := ∀ i j, i ≤ j → j < n → rk r xs i ≤ rk r xs j
noncomputable def Fall (r : Keyed → Nat) (xs : Array Keyed) (n : Nat) : Prop := ∀ i j, i ≤ j → j < n → rk r xs j ≤ rk r xs i
noncomputable def Flat (r : Keyed → Nat) (xs : Array Keyed) (n q : Nat) : Prop := q + 1 ≤ n ∧ ∀ i, n ≤ i + (q + 1) → i < n → rk r xs i = rk r xs (n - 1)
theorem Rise.one (xs : Array Keyed) : Rise r xs 1 := fun i j a b => by rw [show i = j by omega]; exact Nat.le_refl _
theorem Fall.one (xs : Array Keyed) : Fall r xs 1 := fun i j a b => by rw [show i = j by omega]; exact Nat.le_refl _
theorem Rise.more {xs : Array Keyed} {n : Nat} (h : Rise r xs n) (h1 : 1 ≤ n) (hn : rk r xs (n - 1) ≤ rk r xs n) : Rise r xs (n + 1) := fun i j a b => by
  by_cases z : j < n
  · exact h i j a z
  · rw [show j = n by omega]
    by_cases y : i = n
    · rw [y]; exact Nat.le_refl _
    · exact Nat.le_trans (h i (n - 1) (by omega) (by omega)) hn
theorem Fall.more {xs : Array Keyed} {n : Nat} (h : Fall r xs n) (h1 : 1 ≤ n) (hn : rk r xs n ≤ rk r xs (n - 1)) : Fall r xs (n + 1) := fun i j a b => by
  by_cases z : j < n
  · exact h i j a z
  · rw [show j = n by omega]
    by_cases y : i = n
    · rw [y]; exact Nat.le_refl _
    · exact Nat.le_trans hn (h i (n - 1) (by omega) (by omega))
theorem rk_turn {xs : Array Keyed} {i j : Nat} (hj : j ≤ xs.size) (k : Nat) : rk r (mirror xs i j ((j - i) / 2)) k = if i ≤ k ∧ k < j then rk r xs (i + j - 1 - k) else rk r xs k := by
  unfold rk
  rw [getElem?_mirror_all hj k]
  by_cases z : i ≤ k ∧ k < j
  · rw [if_pos z, if_pos z]
  · rw [if_neg z, if_neg z]
theorem rk_flat {xs : Array Keyed} {n q : Nat} (h : Flat r xs n q) (hn : n ≤ xs.size) (k : Nat) : rk r (mirror xs (n - (q + 1)) n ((n - (n - (q + 1))) / 2)) k = rk r xs k := by
  rw [rk_turn hn]
  by_cases z : n - (q + 1) ≤ k ∧ k < n
  · rw [if_pos z, h.2 _ (by omega) (by omega), h.2 k (by omega) (by omega)]
  · rw [if_neg z]
theorem Fall.turned {xs : Array Keyed} {n : Nat} (h : Fall r xs n) (hn : n ≤ xs.size) : Rise r (mirror xs 0 n ((n - 0) / 2)) n := fun i j a b => by
  rw [rk_turn hn, rk_turn hn, if_pos (by omega), if_pos (by omega)]
  exact h _ _ (by omega) (by omega)
set_option genInjectivity false in
structure Srt (kd : SortKind) (base : Array Keyed) (st : SortSt) : Prop where
  pm : (arrOf st).Perm base
  kd : kindOf st = kd
  ok : failedOf st = none
  pn : pendingOf st = #[]
theorem Srt.len {st : SortSt} (h : Srt kd base st) : (arrOf st).size = base.size := h.pm.size_eq
theorem Srt.put {st : SortSt} (h : Srt kd base st) {xs : Array Keyed} (p : xs.Perm (arrOf st)) : Srt kd base (setArr st xs) := ⟨p.trans h.pm, h.kd, h.ok, h.pn⟩
noncomputable def Asks (prog : Program) (w : World) (A : Around) (E : Value → Shared → Prop) (s : Shared) (kd : SortKind) (r : Keyed → Nat) (base : Array Keyed) : Prop :=
  ∀ x ∈ base.toList, ∀ y ∈ base.toList, ∀ Q : Bool → Shared → Prop, Q (decide (r x < r y)) s → wpAny (model prog w) A (keyLt' kd x.1 y.1) Q (fun _ _ => False) s
theorem asked {st : SortSt} {i j : Nat} {Q : Option Bool → SortSt → Prop} (ask : Asks prog w A E s kd r base) (S : Srt kd base st) (hi : i < base.size) (hj : j < base.size)
    (q : Q (some (decide (rk r (arrOf st) i < rk r (arrOf st) j))) st) : wpS (model prog w) A E s (ltAt' i j) Q st := by
  have li : i < (arrOf st).size := by rw [S.len]; exact hi
  have lj : j < (arrOf st).size := by rw [S.len]; exact hj
  have ei : (arrOf st)[i]? = some (arrOf st)[i] := getElem?_pos _ i li
  have ej : (arrOf st)[j]? = some (arrOf st)[j] := getElem?_pos _ j lj
  have mem : ∀ {k : Nat} (h : k < (arrOf st).size), (arrOf st)[k] ∈ base.toList := fun {k} h => (Array.perm_iff_toList_perm.mp S.pm).mem_iff.mp (Array.getElem_mem_toList h)
  unfold rk at q
  rw [ei, ej] at q
  rw [ltAt'_eq]
  refine wpS_bind (wpS_get ?_)
  dsimp only
  rw [elem'_eq, elem'_eq, ei, ej]
  refine wpS_bind (wpS_pure (wpS_bind (wpS_pure ?_)))
  rw [lt'_eq]
  refine wpS_bind (wpS_get (wpS_bind (wpS_lift (wpAny_attempt ?_))))
  rw [S.kd]
  exact wpAny_mono (ask _ (mem li) _ (mem lj) (fun b s' => b = decide (r (arrOf st)[i] < r (arrOf st)[j]) ∧ s' = s) ⟨rfl, rfl⟩) (fun b s' ⟨e1, e2⟩ => ⟨e2, by subst e1; exact wpS_pure q⟩) fun _ _ z => z.elim
theorem asc_loop {st : SortSt} {a n : Nat} {Q : AscSt → SortSt → Prop} (ask : Asks prog w A E s kd r base) (S : Srt kd base st) (ha : 1 ≤ a) (han : a ≤ n) (hn : n ≤ base.size) (up : Rise r (arrOf st) a)
    (k : ∀ m, a ≤ m → m ≤ n → Rise r (arrOf st) m → (m = n ∨ rk r (arrOf st) m < rk r (arrOf st) (m - 1)) → Q (none, m) st) : wpS (model prog w) A E s (ascLoop a n) Q st := by
  refine wpS_forRange (I := fun m c st' => st' = st ∧ c = (none, m) ∧ Rise r (arrOf st) m) (fun m c st' am mn ⟨e1, e2, up'⟩ => ?_) (fun c st' ⟨e1, e2, up'⟩ => ?_) ⟨rfl, rfl, up⟩
  · subst e1 e2
    refine wpS_bind (asked ask S (by omega) (by show m - 1 < _; omega) ?_)
    by_cases lt : rk r (arrOf st') m < rk r (arrOf st') (m - 1)
    · simp only [decide_eq_true lt, if_true]
      exact wpS_pure (k m am (by omega) up' (.inr lt))
    · simp only [decide_eq_false lt, Bool.false_eq_true, if_false]
      exact wpS_pure ⟨rfl, rfl, up'.more (by omega) (by omega)⟩
  · subst e1 e2
    have e : max a n = n := by omega
    rw [e] at up' ⊢
    exact k n han (Nat.le_refl _) up' (.inl rfl)
theorem fall_tail {st : SortSt} {m n : Nat} {Q : Option Nat → SortSt → Prop} (ask : Asks prog w A E s kd r base) (S : Srt kd base st) (h1 : 1 ≤ m) (hm : m ≤ n) (hn : n ≤ base.size) (dn : Fall r (arrOf st) m)
    (k : ∀ j st', Srt kd base st' → 1 ≤ j → j ≤ n → Rise r (arrOf st') j → Q (some j) st') : wpS (model prog w) A E s (tail3 m n) Q st := by
  have up := dn.turned (by rw [S.len]; omega)
  have S' := S.put (mirror_perm (arrOf st) 0 m ((m - 0) / 2))
  exact wpS_bind (wpS_reverse (wpS_bind (asc_loop ask S' h1 hm hn up fun j mj jn up' _ => wpS_pure (k j _ S' (by omega) jn up'))))
theorem desc_loop {st : SortSt} {a n : Nat} {Q : DescSt → SortSt → Prop} (ask : Asks prog w A E s kd r base) (S : Srt kd base st) (ha : 1 ≤ a) (han : a ≤ n) (hn : n ≤ base.size) (dn : Fall r (arrOf st) a)
    (k : ∀ m q st', Srt kd base st' → a ≤ m → m ≤ n → Fall r (arrOf st') m → Flat r (arrOf st') m q → Q (none, m, q) st') : wpS (model prog w) A E s (descLoop a n) Q st := by
  refine wpS_forRange (I := fun m c st' => Srt kd base st' ∧ ∃ q, c = (none, m, q) ∧ Fall r (arrOf st') m ∧ Flat r (arrOf st') m q) (fun m c st' am mn ⟨S', q, e, dn', fl⟩ => ?_) (fun c st' ⟨S', q, e, dn', fl⟩ => ?_)
    ⟨S, 0, rfl, dn, ha, fun i p1 p2 => by rw [show i = a - 1 by omega]⟩
  · subst e
    have sz : m < (arrOf st').size := by rw [S'.len]; omega
    have one : ∀ xs : Array Keyed, Flat r xs (m + 1) 0 := fun xs => ⟨by omega, fun i a b => by rw [show i = m by omega]; rfl⟩
    refine wpS_bind (asked ask S' (by show m < _; omega) (by show m - 1 < _; omega) ?_)
    by_cases lt : rk r (arrOf st') m < rk r (arrOf st') (m - 1)
    · simp only [decide_eq_true lt, if_true]
      by_cases q0 : q > 0
      · rw [if_pos q0]
        have same := rk_flat fl (Nat.le_of_lt sz)
        refine wpS_bind (wpS_reverse (wpS_pure ⟨S'.put (mirror_perm ..), 0, rfl, Fall.more (fun i j a b => ?_) (by omega) ?_, one _⟩))
        · show rk r (mirror _ _ _ _) j ≤ rk r (mirror _ _ _ _) i
          rw [same, same]; exact dn' i j a b
        · show rk r (mirror _ _ _ _) m ≤ rk r (mirror _ _ _ _) (m - 1)
          rw [same, same]; exact Nat.le_of_lt lt
      · rw [if_neg q0]
        exact wpS_pure ⟨S', 0, rfl, dn'.more (by omega) (Nat.le_of_lt lt), one _⟩
    · simp only [decide_eq_false lt, Bool.false_eq_true, if_false]
      refine wpS_bind (asked ask S' (by show m - 1 < _; omega) (by show m < _; omega) ?_)
      by_cases gt : rk r (arrOf st') (m - 1) < rk r (arrOf st') m
      · simp only [decide_eq_true gt, if_true]
        exact wpS_pure (k m q st' S' am (by omega) dn' fl)
      · simp only [decide_eq_false gt, Bool.false_eq_true, if_false]
        refine wpS_pure ⟨S', q + 1, rfl, dn'.more (by omega) (by omega), by have := fl.1; omega, fun i a b => ?_⟩
        show _ = rk r (arrOf st') m
        by_cases z : i = m
        · rw [z]
        · have := fl.2 i (by omega) (by omega); omega
  · subst e
    have e : max a n = n := by omega
    rw [e] at dn' fl ⊢
    exact k n q st' S' han (Nat.le_refl _) dn' fl
theorem desc_part {st : SortSt} {m n : Nat} {Q : Option Nat → SortSt → Prop} (ask : Asks prog w A E s kd r base) (S : Srt kd base st) (hm : m + 1 ≤ n) (hn : n ≤ base.size) (dn : Fall r (arrOf st) (m + 1))
    (k : ∀ j st', Srt kd base st' → 1 ≤ j → j ≤ n → Rise r (arrOf st') j → Q (some j) st') : wpS (model prog w) A E s (descPart m n) Q st := by
  refine wpS_bind (wpS_lift (wpAny_rule ⟨rfl, wpS_bind (desc_loop ask S (by omega) hm hn dn fun j q st' S' mj jn dn' fl => ?_)⟩))
  by_cases q0 : q > 0
  · have same := rk_flat fl (by rw [S'.len]; omega)
    simp only [q0, if_true]
    exact wpS_bind (wpS_reverse (fall_tail ask (S'.put (mirror_perm ..)) (by omega) jn hn (fun i l a b => by show rk r (mirror _ _ _ _) l ≤ rk r (mirror _ _ _ _) i; rw [same, same]; exact dn' i l a b) k))
  · simp only [q0, if_false]
    exact fall_tail ask S' (by omega) jn hn dn' k
theorem first_run {st : SortSt} {n : Nat} {Q : Option Nat → SortSt → Prop} (ask : Asks prog w A E s kd r base) (S : Srt kd base st) (h1 : 1 ≤ n) (hn : n ≤ base.size)
    (k : ∀ j st', Srt kd base st' → 1 ≤ j → j ≤ n → Rise r (arrOf st') j → Q (some j) st') : wpS (model prog w) A E s (countRun' 0 n) Q st := by
  rw [countRun0_eq]
  refine wpS_bind (asc_loop ask S (Nat.le_refl 1) h1 hn (Rise.one _) fun m m1 mn up why => ?_)
  by_cases z : m = n
  · simp only [beq_iff_eq, z, if_true]
    exact wpS_pure (k n st S h1 (Nat.le_refl _) (z ▸ up))
  · have lt := why.resolve_left z
    simp only [beq_iff_eq, z, if_false]
    by_cases m2 : m > 1
    · rw [if_pos m2]
      refine wpS_bind (asked ask S (by omega) (by show m - 1 < _; omega) ?_)
      by_cases rose : rk r (arrOf st) 0 < rk r (arrOf st) (m - 1)
      · simp only [decide_eq_true rose, if_true]
        exact wpS_pure (k m st S m1 mn up)
      · simp only [decide_eq_false rose, Bool.false_eq_true, if_false]
        have eq : ∀ i, i < m → rk r (arrOf st) i = rk r (arrOf st) (m - 1) := fun i hi => by
          have a := up 0 i (by omega) hi
          have b := up i (m - 1) (by omega) (by omega)
          omega
        have sz : m ≤ (arrOf st).size := by rw [S.len]; omega
        have same : ∀ i, rk r (mirror (arrOf st) 0 m ((m - 0) / 2)) i = rk r (arrOf st) i := fun i => by
          rw [rk_turn sz]
          by_cases y : 0 ≤ i ∧ i < m
          · rw [if_pos y, eq _ (by omega), eq i y.2]
          · rw [if_neg y]
        refine wpS_bind (wpS_reverse (desc_part ask (S.put (mirror_perm ..)) (by omega) hn (fun i j a b => ?_) k))
        show rk r (mirror (arrOf st) 0 m ((m - 0) / 2)) j ≤ rk r (mirror (arrOf st) 0 m ((m - 0) / 2)) i
        rw [same, same]
        by_cases jm : j = m
        · by_cases im : i = m
          · rw [jm, im]; exact Nat.le_refl _
          · have := eq i (by omega); rw [jm]; omega
        · have a1 := eq i (by omega); have a2 := eq j (by omega); omega
    · rw [if_neg m2]
      have e : m = 1 := by omega
      subst e
      exact desc_part ask S (by omega) hn ((Fall.one _).more (Nat.le_refl _) (Nat.le_of_lt lt)) k
theorem rk_moved {xs : Array Keyed} {k l : Nat} (hk : k < xs.size) (hl : l ≤ k) (i : Nat) : rk r (bubble xs k (k - l)) i = if i = l then rk r xs k else if l < i ∧ i ≤ k then rk r xs (i - 1) else rk r xs i := by
  have e := getElem?_bubble hk (k - l) (by omega) i
  rw [show k - (k - l) = l by omega] at e
  unfold rk
  rw [e]
  by_cases a : i = l
  · rw [if_pos a, if_pos a]
  · rw [if_neg a, if_neg a]
    by_cases b : l < i ∧ i ≤ k
    · rw [if_pos b, if_pos b]
    · rw [if_neg b, if_neg b]
theorem put_in {st : SortSt} {n ok : Nat} {Q : Bool → SortSt → Prop} (ask : Asks prog w A E s kd r base) (S : Srt kd base st) (h1 : 1 ≤ ok) (hok : ok ≤ n) (hn : n ≤ base.size) (up : Rise r (arrOf st) ok)
    (q : ∀ st', Srt kd base st' → Rise r (arrOf st') n → Q true st') : wpS (model prog w) A E s (binarySort' 0 n ok) Q st := by
  rw [binarySort'_eq]
  simp only [Nat.zero_add]
  have e1 : max ok 1 = ok := by omega
  rw [e1]
  refine wpS_bind (wpS_mono (wpS_forRange (I := fun k c st' => c = (none, ()) ∧ Srt kd base st' ∧ Rise r (arrOf st') k) (Q := fun c st' => c = (none, ()) ∧ Srt kd base st' ∧ Rise r (arrOf st') n) (fun k c st' ak kn ⟨e, S', up'⟩ => ?step) (fun c st' ⟨e, S', up'⟩ => ?fin) ⟨rfl, S, up⟩) ?post)
  case step =>
    subst e
    have hk : k < (arrOf st').size := by rw [S'.len]; omega
    refine wpS_bind (wpS_mono (wpS_forRange (I := fun x c st2 => st2 = st' ∧ ∃ l u, c = (none, l, u) ∧ l ≤ u ∧ u ≤ k ∧ u - l + x ≤ k ∧ (∀ i, i < l → rk r (arrOf st') i ≤ rk r (arrOf st') k) ∧ ∀ i, u ≤ i → i < k → rk r (arrOf st') k < rk r (arrOf st') i)
      (Q := fun c st2 => st2 = st' ∧ ∃ l u, c = (none, l, u) ∧ l ≤ k ∧ (∀ i, i < l → rk r (arrOf st') i ≤ rk r (arrOf st') k) ∧ ∀ i, l ≤ i → i < k → rk r (arrOf st') k < rk r (arrOf st') i)
      (fun x c st2 _ xk ⟨e, l, u, ec, lu, uk, small, lo, hi⟩ => ?look) (fun c st2 ⟨e, l, u, ec, lu, uk, small, lo, hi⟩ => ⟨e, l, u, ec, by omega, lo, fun i a b => hi i (by omega) b⟩) ⟨rfl, 0, k, rfl, by omega, by omega, by omega, fun i a => by omega, fun i a b => by omega⟩) ?move)
    case look =>
      subst e ec
      dsimp only
      by_cases z : l ≥ u
      · rw [if_pos z]
        exact wpS_pure ⟨rfl, l, u, rfl, by omega, lo, fun i a b => hi i (by omega) b⟩
      · rw [if_neg z]
        refine wpS_bind (asked ask S' (by omega) (by omega) ?_)
        by_cases lt : rk r (arrOf st2) k < rk r (arrOf st2) ((l + u) / 2)
        · simp only [decide_eq_true lt, if_true]
          exact wpS_pure ⟨rfl, l, (l + u) / 2, rfl, by omega, by omega, by omega, lo, fun i a b => Nat.lt_of_lt_of_le lt (up' _ _ a b)⟩
        · simp only [decide_eq_false lt, Bool.false_eq_true, if_false]
          exact wpS_pure ⟨rfl, (l + u) / 2 + 1, u, rfl, by omega, by omega, by omega, fun i a => Nat.le_trans (up' i ((l + u) / 2) (by omega) (by omega)) (by omega), hi⟩
    case move =>
      rintro c st2 ⟨rfl, l, u, rfl, lk, lo, hi⟩
      dsimp only
      rw [moveDown'_eq]
      refine wpS_bind (wpS_modify (wpS_pure ⟨rfl, S'.put (bubble_perm ..), fun i j a b => ?_⟩))
      show rk r (bubble (arrOf st2) k (k - l)) i ≤ rk r (bubble (arrOf st2) k (k - l)) j
      rw [rk_moved hk lk, rk_moved hk lk]
      have U := fun x y (p : x ≤ y) (q : y < k) => up' x y p q
      by_cases c1 : i = l
      · rw [if_pos c1]
        by_cases c2 : j = l
        · rw [if_pos c2]; exact Nat.le_refl _
        · rw [if_neg c2, if_pos (by omega)]; exact Nat.le_of_lt (hi _ (by omega) (by omega))
      · rw [if_neg c1]
        by_cases c3 : l < i ∧ i ≤ k
        · rw [if_pos c3, if_neg (by omega), if_pos (by omega)]; exact U _ _ (by omega) (by omega)
        · rw [if_neg c3]
          by_cases c2 : j = l
          · rw [if_pos c2]; exact lo i (by omega)
          · rw [if_neg c2]
            by_cases c4 : l < j ∧ j ≤ k
            · rw [if_pos c4]; exact U _ _ (by omega) (by omega)
            · rw [if_neg c4]; exact U _ _ (by omega) (by omega)
  case fin =>
    have e2 : max ok n = n := by omega
    rw [e2] at up'
    exact ⟨e, S', up'⟩
  case post =>
    rintro c st' ⟨rfl, S', up'⟩
    exact wpS_pure (q st' S' up')
theorem by_ranks {st : SortSt} {Q : Unit → SortSt → Prop} (ask : Asks prog w A E s kd r base) (S : Srt kd base st) (h2 : 2 ≤ base.size) (h64 : base.size < 64)
    (k : ∀ st', (arrOf st').Perm base → failedOf st' = none → Rise r (arrOf st') base.size → Q () st') : wpS (model prog w) A E s sortRuns' Q st := by
  have run : minRun' base.size base.size 0 = base.size := by
    generalize base.size = n at h2 h64
    cases n with
    | zero => omega
    | succ f => rw [minRun'_succ, if_pos h64]
  rw [sortRuns'_eq]
  refine wpS_bind (wpS_get ?_)
  simp only [S.len, run]
  refine wpS_bind (wpS_mono (wpS_forRange (I := fun x c st' => if x = 0 then c = (none, 0) ∧ Srt kd base st' else c = (none, base.size) ∧ (arrOf st').Perm base ∧ failedOf st' = none ∧ (pendingOf st').size = 1 ∧ Rise r (arrOf st') base.size)
    (Q := fun c st' => c = (none, base.size) ∧ (arrOf st').Perm base ∧ failedOf st' = none ∧ (pendingOf st').size = 1 ∧ Rise r (arrOf st') base.size) (fun x c st' _ xn h => ?turn) (fun c st' h => ?end_) ?start) ?rest)
  case start => rw [if_pos rfl]; exact ⟨rfl, S⟩
  case end_ => rwa [if_neg (by omega)] at h
  case turn =>
    by_cases x0 : x = 0
    · rw [if_pos x0] at h
      obtain ⟨rfl, S'⟩ := h
      have pend : ∀ {st2 : SortSt}, Srt kd base st2 → Rise r (arrOf st2) base.size → (arrOf (setPending st2 ((pendingOf st2).push (0, base.size, 0)))).Perm base ∧ failedOf (setPending st2 ((pendingOf st2).push (0, base.size, 0))) = none ∧ (pendingOf (setPending st2 ((pendingOf st2).push (0, base.size, 0)))).size = 1 ∧ Rise r (arrOf (setPending st2 ((pendingOf st2).push (0, base.size, 0)))) base.size := fun {st2} S2 up => by
        refine ⟨S2.pm, S2.ok, ?_, up⟩
        show ((pendingOf st2).push (0, base.size, 0)).size = 1
        rw [S2.pn]; rfl
      dsimp only
      rw [if_neg (by omega)]
      simp only [Nat.sub_zero, Nat.min_self, Nat.zero_add]
      refine wpS_bind (first_run ask S' (by omega) (Nat.le_refl _) fun m st2 S2 m1 mn up => ?_)
      have last : ∀ {st3 : SortSt}, Srt kd base st3 → (pendingOf st3).back? = none := fun {st3} S3 => by rw [S3.pn]; rfl
      dsimp only
      by_cases lt : m < base.size
      · rw [if_pos lt]
        refine wpS_bind (wpS_lift (wpAny_rule ⟨rfl, wpS_bind (put_in ask S2 m1 mn (Nat.le_refl _) up fun st3 S3 up3 => ?_)⟩))
        simp only [Bool.not_true, Bool.false_eq_true, if_false]
        refine wpS_bind (wpS_get ?_)
        rw [last S3]
        refine wpS_bind (wpS_modify (wpS_pure ?_))
        dsimp only
        rw [if_neg (by omega)]
        exact ⟨rfl, pend S3 up3⟩
      · rw [if_neg lt]
        have e : m = base.size := by omega
        subst e
        refine wpS_bind (wpS_get ?_)
        rw [last S2]
        refine wpS_bind (wpS_modify (wpS_pure ?_))
        dsimp only
        rw [if_neg (by omega)]
        exact ⟨rfl, pend S2 up⟩
    · rw [if_neg x0] at h
      obtain ⟨rfl, h⟩ := h
      dsimp only
      rw [if_pos (Nat.le_refl _)]
      exact wpS_pure ⟨rfl, h⟩
  case rest =>
    rintro c st' ⟨rfl, p1, p2, p3, p4⟩
    refine wpS_bind (wpS_mono (wpS_forRange (I := fun _ c st2 => c = (none, ()) ∧ st2 = st') (Q := fun c st2 => c = (none, ()) ∧ st2 = st') (fun x c st2 _ _ ⟨e1, e2⟩ => ?stay) (fun _ _ h => h) ⟨rfl, rfl⟩) ?done)
    case stay =>
      subst e1 e2
      refine wpS_bind (wpS_get ?_)
      rw [if_pos (Nat.le_of_eq p3)]
      exact wpS_pure ⟨rfl, rfl⟩
    case done =>
      rintro c st2 ⟨rfl, rfl⟩
      exact wpS_pure (k st2 p1 p2 p4)
end
end L2

/-! sorted(..) of a list of pairs (text, number) -/
namespace L2
open PySem PySem.Spec PyProof.Rows
noncomputable abbrev PairD := Str × Int
noncomputable def ltP (a b : PairD) : Bool := if a.1 = b.1 then decide (a.2 < b.2) else decide (a.1.cps.toList < b.1.cps.toList)
noncomputable def leP (a b : PairD) : Prop := ltP b a = false
theorem cps_inj {a b : Str} (h : a.cps.toList = b.cps.toList) : a = b := by
  cases a; cases b; congr 1; exact Array.toList_inj.mp h
theorem ltP_irr (a : PairD) : ltP a a = false := by unfold ltP; rw [if_pos rfl]; simp
theorem ltP_cases (a b : PairD) : ltP a b = true ↔ a.1.cps.toList < b.1.cps.toList ∨ (a.1 = b.1 ∧ a.2 < b.2) := by
  unfold ltP
  by_cases h : a.1 = b.1
  · rw [if_pos h, decide_eq_true_eq]
    exact ⟨fun q => .inr ⟨h, q⟩, fun q => q.elim (fun z => absurd z (by rw [h]; exact List.lt_irrefl _)) (·.2)⟩
  · rw [if_neg h, decide_eq_true_eq]
    exact ⟨.inl, fun q => q.elim id fun z => absurd z.1 h⟩
theorem ltP_trans {a b c : PairD} (h1 : ltP a b = true) (h2 : ltP b c = true) : ltP a c = true := by
  rw [ltP_cases] at *
  rcases h1 with h1 | ⟨e1, h1⟩ <;> rcases h2 with h2 | ⟨e2, h2⟩
  · exact .inl (List.lt_trans h1 h2)
  · exact .inl (by rw [← e2]; exact h1)
  · exact .inl (by rw [e1]; exact h2)
  · exact .inr ⟨e1.trans e2, by omega⟩
theorem ltP_total {a b : PairD} (h1 : ltP a b = false) (h2 : ltP b a = false) : a = b := by
  have n1 : ¬ (a.1.cps.toList < b.1.cps.toList ∨ (a.1 = b.1 ∧ a.2 < b.2)) := fun q => by rw [(ltP_cases a b).mpr q] at h1; cases h1
  have n2 : ¬ (b.1.cps.toList < a.1.cps.toList ∨ (b.1 = a.1 ∧ b.2 < a.2)) := fun q => by rw [(ltP_cases b a).mpr q] at h2; cases h2
  have e : a.1 = b.1 := cps_inj (List.le_antisymm (List.not_lt.mp fun q => n2 (.inl q)) (List.not_lt.mp fun q => n1 (.inl q)))
  have e2 : a.2 = b.2 := by
    have m1 : ¬ a.2 < b.2 := fun q => n1 (.inr ⟨e, q⟩)
    have m2 : ¬ b.2 < a.2 := fun q => n2 (.inr ⟨e.symm, q⟩)
    omega
  exact Prod.ext e e2
theorem leP_trans {a b c : PairD} (h1 : leP a b) (h2 : leP b c) : leP a c := by
  unfold leP at *
  cases h : ltP c a with
  | false => rfl
  | true =>
    exfalso
    cases hb : ltP b a with
    | true => rw [hb] at h1; cases h1
    | false =>
      cases ha : ltP a b with
      | true => rw [ltP_trans h ha] at h2; cases h2
      | false => rw [ltP_total ha hb] at h; rw [h] at h2; cases h2
noncomputable def rankP (ds : List PairD) (d : PairD) : Nat := ds.countP fun e => ltP e d
theorem countP_lt {α : Type} {p q : α → Bool} : ∀ {l : List α}, (∀ x ∈ l, p x = true → q x = true) → (∃ x ∈ l, q x = true ∧ p x = false) → l.countP p < l.countP q
  | [], _, ⟨x, hx, _⟩ => nomatch hx
  | y :: l, h, ⟨x, hx, h1, h2⟩ => by
    have le : l.countP p ≤ l.countP q := List.countP_mono_left fun z hz hp => h z (.tail _ hz) hp
    rw [List.countP_cons, List.countP_cons]
    rcases List.mem_cons.mp hx with rfl | hx
    · rw [if_pos h1, if_neg (by rw [h2]; simp)]; omega
    · have := countP_lt (fun z hz => h z (.tail _ hz)) ⟨x, hx, h1, h2⟩
      by_cases z : p y = true
      · rw [if_pos z, if_pos (h y (.head _) z)]; omega
      · rw [if_neg z]; split <;> omega
theorem rankP_lt {ds : List PairD} {a b : PairD} (ha : a ∈ ds) : decide (rankP ds a < rankP ds b) = ltP a b := by
  cases h : ltP a b with
  | true => exact decide_eq_true (countP_lt (fun x _ q => ltP_trans q h) ⟨a, ha, h, ltP_irr a⟩)
  | false =>
    refine decide_eq_false (Nat.not_lt.mpr (List.countP_mono_left fun x _ q => ?_))
    have le : leP x a := leP_trans (a := x) (b := b) (c := a) (by
      unfold leP
      cases z : ltP b x with
      | false => rfl
      | true => have := ltP_trans q z; rw [ltP_irr] at this; cases this) h
    cases z : ltP x a with
    | true => rfl
    | false =>
      have e : x = a := ltP_total z le
      rw [e] at q; rw [q] at h; cases h
section
variable {prog : Program} {w : World} {A : Around} {E : Value → Shared → Prop} {s : Shared}
end
end L2

/-! sorted(..) of a list of pairs: the call -/
namespace L2
open PySem PySem.Spec PyProof.Rows
section
variable {prog : Program} {w : World} {A : Around} {E : Value → Shared → Prop} {s : Shared}
noncomputable def adr : Value → Addr
  | .ref b => b
  | _ => 0
noncomputable def twice (bs : List Addr) : List Keyed := bs.map fun b => (Value.ref b, Value.ref b)
end
section
variable {X : Cx}
theorem vals_refs : ∀ {as : List Addr}, Vals (as.map V.ref) (as.map Value.ref)
  | [] => .nil
  | _ :: _ => .cons rfl vals_refs
end
end L2

/-! text.partition(sep) -/
namespace L2
open PySem PySem.Spec PyProof.Rows
section
variable {X : Cx}
end
end L2

/-! list(reversed(a list)) -/
namespace L2
open PySem PySem.Spec PyProof.Rows
section
variable {prog : Program} {w : World} {A : Around} {E : Value → Shared → Prop} {s : Shared}
theorem semN {α : Type} {c : Prop} [Decidable c] {x y : Sem α} {Q : α → Shared → Prop} (hc : ¬ c) (h : wpAny (model prog w) A y Q E s) : wpAny (model prog w) A (if c then x else y) Q E s := by
  rw [if_neg hc]; exact h
theorem semY {α : Type} {c : Prop} [Decidable c] {x y : Sem α} {Q : α → Shared → Prop} (hc : c) (h : wpAny (model prog w) A x Q E s) : wpAny (model prog w) A (if c then x else y) Q E s := by
  rw [if_pos hc]; exact h
theorem no_len_lri : typeLookup (.type "list_reverseiterator") "__len__" = pure none := by rw [typeLookup_type, builtinLookup_eq_fast]; kernel_rfl
theorem hint_lri : typeLookup (.type "list_reverseiterator") "__length_hint__" = pure (some (.builtin "list_reverseiterator.__length_hint__")) := by rw [typeLookup_type, builtinLookup_eq_fast]; kernel_rfl
theorem hint_rev {it : Addr} {Q : Bool → Shared → Prop} (hT : s.TypeIs (.ref it) "list_reverseiterator") (h : Q false s) : wpAny (model prog w) A (Builtin.List.listLengthHint (.ref it)) Q E s := by
  unfold Builtin.List.listLengthHint
  refine wpAny_bind (wpAny_specialOf hT no_len_lri ?_)
  dsimp only
  refine semN (by decide) (semN (by decide) ?_)
  refine wpAny_bind (wpAny_specialOf hT hint_lri ?_)
  generalize hid : ("list_reverseiterator.__length_hint__" : String) = id0
  wp_delta
  rw [show splitId id0 = some ("list_reverseiterator", "__length_hint__") from by subst hid; decide +kernel]
  subst hid
  refine wpAny_bind (wpAny_isInstance (T := "list_reverseiterator") (b := true) hT (by rw [isSubtype_type]; kernel_rfl) ?_)
  refine semN (by decide) (semY (by decide +kernel) (semN (by decide +kernel) ?_))
  exact wpAny_pure h
theorem fill_rev {it l S : Addr} {items : Array Value} {c : Nat} {R : Result → Shared → Prop} (hh : A.handled = none) (hn : items.size ≤ sizeLine) (hi : s.heap.IsRevIter it l ((items.size : Int) - 1)) (hl : s.heap.IsList l items) (n1 : l ≠ it) (n2 : S ≠ it) (n3 : S ≠ l)
    (hS : s.heap.get? S = some { cls := .type "list", dict := none, data := .seq #[] c, slots := #[] })
    (hR : ∀ (h' : Heap) (tk : Nat) (xs : Array Value) (c' : Nat), (∀ b o, b ≠ S → b ≠ it → s.heap.get? b = some o → h'.get? b = some o) → h'.get? S = some { cls := .type "list", dict := none, data := .seq xs c', slots := #[] } → xs.toList = items.toList.reverse → R (.ok (.ret .none)) { s with heap := h', toks := tk }) :
    wpAny (model prog w) A.in1 (Builtin.List.listExtendWith (.ref S) (.ref it) .none)
      (fun fin s' => match fin with | .done f => R (.ok f) s' | .again c' => c'.quiet = true ∧ codeAny (model prog w) A c' R s') (fun e s' => R (.error e) s') s := by
  unfold Builtin.List.listExtendWith
  refine wpAny_bind (wpAny_typeOf hi.typeIs ?_)
  have h1 : Builtin.List.listSameRef (.ref S) (.ref it) = false := by simp [Builtin.List.listSameRef]; exact n2
  refine semN (by rw [h1]; decide) ?_
  refine wpAny_bind (wpAny_pyIter_revIter hi (wpAny_bind (wpAny_holding (hint_rev hi.typeIs ?_))))
  refine semN (by decide +kernel) ?_
  have W := Walks.listRev (prog := prog) (w := w) (A := A.in1) hh it l n1 items
  have hSf : S ∉ [it, l] := fun z => by
    simp at z
    exact z.elim n2 n3
  refine wpAny_pure ⟨plainId_quiet PySem.F.plain_extend_loop _, codeAny_extend_loopS W.toS hn _ hSf _ items.size 0 _ #[] _ rfl (Nat.zero_le _) ⟨Nat.zero_le _, by simpa using hi, hl⟩ hS (ItemsOf.nil _) fun s2 acc c2 hm hS2 hacc => ?_⟩
  rw [hm.eq_with]
  refine hR s2.heap s2.toks acc c2 (fun b o b1 b2 z => hm.heap b o (by simp [b1, b2]) z) hS2 (List.ext_getElem? fun j => ?_)
  obtain ⟨z1, z2⟩ := hacc
  have rl : items.toList.reverse.length = items.size := by rw [List.length_reverse, Array.length_toList]
  rw [Array.getElem?_toList]
  by_cases q : j < items.size
  · have e1 : acc[j]? = some (acc[j]'(by omega)) := Array.getElem?_eq_getElem (by omega)
    have e2 := z2 j _ e1
    rw [e1, List.getElem?_reverse (by rw [Array.length_toList]; exact q), Array.length_toList, Array.getElem?_toList]
    exact e2.symm
  · rw [Array.getElem?_eq_none (by omega), List.getElem?_eq_none (by omega)]
theorem list_rev {it l : Addr} {items : Array Value} {Q : Value → Shared → Prop} (hh : A.handled = none) (hn : items.size ≤ sizeLine) (hi : s.heap.IsRevIter it l ((items.size : Int) - 1)) (hl : s.heap.IsList l items) (n1 : l ≠ it)
    (hQ : ∀ (h' : Heap) (tk : Nat) (xs : Array Value) (c' : Nat), (∀ b o, b ≠ it → s.heap.get? b = some o → h'.get? b = some o) → h'.get? s.heap.objs.size = some { cls := .type "list", dict := none, data := .seq xs c', slots := #[] } → xs.toList = items.toList.reverse → Q (.ref s.heap.objs.size) { s with heap := h', toks := tk }) :
    wpAny (model prog w) A (call (.type "list") [.ref it]) Q E s := by
  have li : it < s.heap.objs.size := let ⟨o, ho, _⟩ := hi; Heap.lt_size ho
  have ll : l < s.heap.objs.size := let ⟨o, ho, _⟩ := hl; Heap.lt_size ho
  refine callType_codes (Q₁ := fun obj s₁ => obj = .ref s.heap.objs.size ∧ s₁ = { s with heap := s.heap.push { cls := .type "list", data := .seq #[] } }) PySem.F.called_list (PySem.F.typeCall_list_1 _) PySem.F.entry_list_init (code_list_new _ ⟨rfl, rfl⟩) fun obj s₁ h₁ => ?_
  obtain ⟨rfl, rfl⟩ := h₁
  generalize hH : s.heap.push { cls := .type "list", data := .seq (#[] : Array Value) } = H
  have hS : H.get? s.heap.objs.size = some { cls := .type "list", data := .seq #[] } := hH ▸ Heap.get?_push_size _ rfl
  have kp : ∀ b o, s.heap.get? b = some o → H.get? b = some o := fun b o z => hH ▸ Heap.get?_push_of_some _ z
  refine ⟨⟨_, hS, rfl⟩, PySem.F.args_list_init_2 _ _, ?_⟩
  show wpAny _ _ (Builtin.List.listItems (.ref s.heap.objs.size) >>= fun old => updateSeq s.heap.objs.size (fun _ => #[]) >>= fun _ => letGo old.toList.reverse >>= fun _ => Builtin.List.listExtendWith (.ref s.heap.objs.size) (.ref it) .none) _ _ _
  refine wpAny_bind (wpAny_listItems hS rfl (wpAny_bind (wpAny_updateSeq hS rfl (wpAny_bind (wpAny_letGo ?_)))))
  have hS2 := Heap.get?_update_self (Obj.mapSeq (fun _ => (#[] : Array Value))) hS rfl
  have k2 : ∀ b o, b ≠ s.heap.objs.size → H.get? b = some o → (H.update s.heap.objs.size (Obj.mapSeq fun _ => #[])).get? b = some o := fun b o hb z => (Heap.get?_update_other _ _ (Ne.symm hb)).trans z
  refine fill_rev (s := { s with heap := H.update s.heap.objs.size (Obj.mapSeq fun _ => #[]) }) (l := l) (items := items) hh hn (hi.at fun o e => k2 _ _ (Nat.ne_of_lt li) (kp _ _ e)) (hl.at fun o e => k2 _ _ (Nat.ne_of_lt ll) (kp _ _ e)) n1 (Ne.symm (Nat.ne_of_lt li)) (Ne.symm (Nat.ne_of_lt ll)) hS2 fun h' tk xs c' k3 e1 e2 => ?_
  exact ⟨rfl, hQ h' tk xs c' (fun b o hb z => k3 b o (Nat.ne_of_lt (Heap.lt_size z)) hb (k2 b o (Nat.ne_of_lt (Heap.lt_size z)) (kp b o z))) e1 e2⟩
end
section
variable {X : Cx} {e : Expr} {te : TE} {p1 p2 pos1 pos2 : Pos}
theorem vals_rev : ∀ {xs : List V} {us : List Value}, Vals xs us → Vals xs.reverse us.reverse
  | _, _, .nil => .nil
  | _, _, .cons h r => by rw [List.reverse_cons, List.reverse_cons]; exact (vals_rev r).append (.cons h .nil)
noncomputable def tLRev (K : PySem.W.Frag) (te : TE) : TE := fun σ H Q => te σ H fun x H1 => ∃ p ys, x = .ref p ∧ SqL K H1 p ys ∧ ys.length < sizeLine ∧ ∀ l, H1 l = none → Q (.ref l) (upd H1 l (.lst ys.reverse))
theorem pe_lrev {K : PySem.W.Frag} (hc : X.calm = true) (eK : X.K = K) (he : PE X e te) (hg1 : Gl X "list") (hm1 : X.mg "list" = none) (hg2 : Gl X "reversed") (hm2 : X.mg "reversed" = none)
    (s1 : starEach [e] X.env = [(false, eval e X.env)] := by rfl) (s2 : starEach [Expr.Call (.Name "reversed" p2) [e] [] pos2] X.env = [(false, eval (Expr.Call (.Name "reversed" p2) [e] [] pos2) X.env)] := by rfl) :
    PE X (.Call (.Name "list" p1) [.Call (.Name "reversed" p2) [e] [] pos2] [] pos1) (tLRev K te) := by
  subst eK
  intro pins s σ H Q I h
  refine wpAny_Call_Name_kw (ld_blt I hg1 hm1 (show bootBuiltins "list" = some (.type "list") by kernel_rfl) ?_)
  refine PyProof.Rows.callWith_type1 ?_ (by rw [s2]; rfl) rfl
  rw [s2]
  show wpAny _ _ (spliced ((false, eval (Expr.Call (.Name "reversed" p2) [e] [] pos2) X.env) :: [])) _ _ s
  refine Calls.spliced_cons ?_
  refine wpAny_Call_Name_kw (ld_blt I hg2 hm2 (show bootBuiltins "reversed" = some (.type "reversed") by kernel_rfl) ?_)
  refine PyProof.Rows.callWith_type1 ?_ (by rw [s1]; rfl) rfl
  rw [s1]
  show wpAny _ _ (spliced ((false, eval e X.env) :: [])) _ _ s
  refine Calls.spliced_cons (thn (he pins s σ H _ I h) fun u s1 ⟨x, H1, I1, r1, p, ys, ex, hq, hz, q⟩ => Calls.spliced_nil ?_)
  subst ex
  cases r1
  obtain ⟨its, r', pl, hz'⟩ := I1.list hq
  refine call_reversed_list pl.isList ?_
  refine Calls.spliced_nil ?_
  have hp := pl.isList
  have lp : p < s1.heap.objs.size := let ⟨o, ho, _⟩ := hp; Heap.lt_size ho
  have sz : (s1.heap.push (revObj p ((its.toArray.size : Int) - 1))).objs.size = s1.heap.objs.size + 1 := Heap.size_push ..
  refine list_rev (s := { s1 with heap := s1.heap.push (revObj p ((its.toArray.size : Int) - 1)) }) (items := its.toArray) (I1.ok.hd hc) (by have := r'.length; simp only [List.size_toArray]; omega) ⟨_, Heap.get?_push_size _ rfl, rfl, rfl⟩ (hp.at fun o e => Heap.get?_push_of_some _ e) (Nat.ne_of_lt lp) fun h' tk xs c' k e1 e2 => ?_
  have e2 : xs.toList = its.reverse := e2
  refine ⟨.ref (s1.heap.push (revObj p ((its.toArray.size : Int) - 1))).objs.size, _, I1.laid (t' := tk) (fun b o z => k b o (Nat.ne_of_lt (Heap.lt_size z)) (Heap.get?_push_of_some _ z)) (by rw [sz]; omega) (show ObjOk X.prog X.w _ h' _ (.lst ys.reverse) from ⟨by rw [List.length_reverse]; exact hz', its.reverse, c', vals_rev r', by rw [← e2]; exact e1⟩), rfl, q _ (I1.hok.fresh (by rw [sz]; omega))⟩
end
end L2

/-! max(a list of numbers, default=n) -/
namespace L2
open PySem PySem.Spec PyProof.Rows
section
variable {prog : Program} {w : World} {A : Around} {R : Result → Shared → Prop} {I S : Addr} {fp wr : List Addr} {n : Nat} {P : Nat → Value → Prop} {St : Nat → Heap → Prop} {d : Value} {f : Nat → Int}
end
section
variable {prog : Program} {w : World} {A : Around} {E : Value → Shared → Prop} {s : Shared}
end
section
variable {X : Cx} {e : Expr} {te : TE} {p pos cp kp : Pos} {n : Int} {j : Nat}
end
end L2

/-! a op b op c op d, as a test -/
namespace L2
open PySem PySem.Spec PyProof.Rows
section
variable {X : Cx} {a b c d : Expr} {ta tb tc td : TE} {pos : Pos}
end
end L2

/-! less, of tuples of two within tuples of two, which differ -/
namespace L2
open PySem PySem.Spec PyProof.Rows
section
open PySem.SeqAt
open PySem.AutoSeq1 (wpAny_loadPart')
open PySem.MeetsSeq PySem.MeetsSeq2 PySem.MeetsSeq3
end
end L2

/-! lambdas: a code object's table, which grows; sorted(.., key=lambda x: x[0]) -/
namespace L2
open PySem PySem.Spec PyProof.Rows
noncomputable def SameX (P : Addr) (H H' : Hp) : Prop := ∀ b o, b ≠ P → H b = some o → H' b = some o
noncomputable def CRec (c : Addr) (q : Str) : HO := .ext fun h => h.CodeRec (.ref c) q
noncomputable def ObjO (f : Addr) (o : Obj) : HO := .ext fun h => h.get? f = some o
noncomputable def TbOk (P : Addr) (pos : Pos) (q : Str) (H : Hp) : Prop := ∃ ps : Array Value, H P = some (.tbl ps) ∧ TriplesOk ps.toList ∧ (codeAmong pos ps.toList = none ∨ ∃ c, codeAmong pos ps.toList = some (.ref c) ∧ H c = some (CRec c q))
theorem TbOk.more {P : Addr} {pos : Pos} {q : Str} {H H' : Hp} (h : TbOk P pos q H) (s : ∀ b o, H b = some o → H' b = some o) : TbOk P pos q H' := by
  obtain ⟨ps, h1, h2, h3⟩ := h
  exact ⟨ps, s _ _ h1, h2, h3.imp id fun ⟨c, h4, h5⟩ => ⟨c, h4, s _ _ h5⟩⟩
theorem crec_ok {P : Program} {w : World} {H : Hp} {h : Heap} {c : Addr} {q : Str} (e : h.CodeRec (.ref c) q) : ObjOk P w H h c (CRec c q) := by
  refine ⟨e, ?_, ?_⟩
  · obtain ⟨c', o, _, _, e1, e2, _⟩ := e
    cases e1
    exact ⟨o, e2⟩
  · rintro h1 h2 ⟨c', o, vs, t, e1, e2, e3⟩ k
    cases e1
    exact ⟨c, o, vs, t, rfl, k o e2, e3⟩
theorem objo_ok {P : Program} {w : World} {H : Hp} {h : Heap} {f : Addr} {o : Obj} (e : h.get? f = some o) : ObjOk P w H h f (ObjO f o) := ⟨e, ⟨o, e⟩, fun _ _ e1 k => k o e1⟩
noncomputable def BMod (K : PySem.W.Frag) (mg : Str → Option Value) : Prop := ∃ (bm : Addr) (sl : Array (Option Value)), mg (Str.ofString "__builtins__") = some (.ref bm) ∧ bm ≠ builtinsNs ∧ bm ≠ mainGlobals ∧ K.lookup bm = some ⟨.type "module", some builtinsNs, .plain, sl⟩
section
variable {X : Cx} {pins : List (Addr × Obj)} {σ : St} {H : Hp} {s : Shared}
theorem Inv.grow {P c f : Addr} {ps more : Array Value} {o1 o2 : HO} {h' : Heap} {t' : Nat} (I : Inv X pins σ H s) (hP : H P = some (.tbl ps)) (k : ∀ b o, b ≠ P → s.heap.get? b = some o → h'.get? b = some o) (hP' : h'.get? P = some (PySem.W.tabObj (ps ++ more)))
    (hc : s.heap.objs.size ≤ c) (hf : s.heap.objs.size ≤ f) (hcf : c ≠ f) (ok1 : ∀ H'', ObjOk X.prog X.w H'' h' c o1) (ok2 : ∀ H'', ObjOk X.prog X.w H'' h' f o2) :
    Inv X pins σ (upd (upd (upd H P (.tbl (ps ++ more))) c o1) f o2) { s with heap := h', toks := t' } := by
  have c0 : H c = none := I.hok.fresh hc
  have f0 : H f = none := I.hok.fresh hf
  have cP : P ≠ c := ne_of_none hP c0
  have fP : P ≠ f := ne_of_none hP f0
  have get : ∀ b, b ≠ P → b ≠ c → b ≠ f → upd (upd (upd H P (.tbl (ps ++ more))) c o1) f o2 b = H b := fun b n1 n2 n3 => by rw [upd_ne n3, upd_ne n2, upd_ne n1]
  have old : ∀ b o, s.heap.get? b = some o → b ≠ c ∧ b ≠ f := fun b o e => ⟨Nat.ne_of_lt (Nat.lt_of_lt_of_le (Heap.lt_size e) hc), Nat.ne_of_lt (Nat.lt_of_lt_of_le (Heap.lt_size e) hf)⟩
  have trk : ∀ b o, H b = some o → b ≠ P → upd (upd (upd H P (.tbl (ps ++ more))) c o1) f o2 b = some o := fun b o e n => by
    rw [get b n (ne_of_none e c0) (ne_of_none e f0)]; exact e
  have atP : upd (upd (upd H P (.tbl (ps ++ more))) c o1) f o2 P = some (.tbl (ps ++ more)) := by rw [upd_ne fP, upd_ne cP, upd_same]
  refine I.un ⟨fun b o e n _ _ => k b o (fun z => by rw [z, hP] at n; cases n) e, fun b o e n _ _ => ⟨o.slots, k b o (fun z => by rw [z, hP] at n; cases n) e⟩, fun b o e n _ => ?_, fun b o e _ => ?_, fun b xs e => trk b _ e (fun z => by rw [z, hP] at e; cases e), fun b o u e => trk b _ e (fun z => by rw [z, hP] at e; cases e), fun b ps' e => ?_⟩ fun b u e => ?_
  · rw [get b (fun z => by rw [z, hP] at n; cases n) (old b o e).1 (old b o e).2]; exact n
  · by_cases z : b = P
    · rw [z]; exact ⟨_, hP'⟩
    · exact ⟨o, k b o z e⟩
  · by_cases z : b = P
    · rw [z, hP] at e
      cases e
      rw [z]; exact ⟨more, atP⟩
    · exact ⟨#[], by rw [trk b _ e z]; simp⟩
  · by_cases z3 : b = f
    · rw [z3, upd_same] at e
      cases e
      rw [z3]; exact ok2 _
    · by_cases z2 : b = c
      · rw [z2, upd_ne hcf, upd_same] at e
        cases e
        rw [z2]; exact ok1 _
      · by_cases z1 : b = P
        · rw [z1, atP] at e
          cases e
          rw [z1]; exact hP'
        · rw [get b z1 z2 z3] at e
          refine (I.hok b u e).stay (fun d v hd q => k d v ?_ q) (fun d q => trk d _ q (fun z => by rw [z, hP] at q; cases q)) fun d xs q => trk d _ q (fun z => by rw [z, hP] at q; cases q)
          rcases hd with z | z
          · rw [z]; exact z1
          · intro y; rw [y, hP] at z; cases z
theorem make_lam {A : Around} {P c : Addr} {pos : Pos} {x q : Str} {pr : Arguments} {bd : Expr} {sc : Scope} {line : Nat} {E : Value → Shared → Prop} {Q : Value → Shared → Prop} (I : Inv X pins σ H s) (hcl : closureFor sc X.env = pure []) (hcd : X.env.code = .ref c) (hc : PySem.W.codeHdIn X.K c P = true) (hb : BMod X.K X.mg) (ht : TbOk P pos q H)
    (k : ∀ (f c' : Addr) (ctv pm : Value) (H' : Hp) (s' : Shared), Inv X pins σ H' s' → SameX P H H' → TbOk P pos q H' → H f = none → f ≠ P → H' f = some (ObjO f (PySem.W.kla_obj x q pr bd sc [] pm c' ctv)) → H' c' = some (CRec c' q) → Q (.ref f) s') :
    wpAny (model X.prog X.w) A (makeFunction x q pr (.expr bd) sc X.env [] [] [] pos line) Q E s := by
  obtain ⟨ps, hP, tri, cs⟩ := ht
  have gP : s.heap.get? P = some (PySem.W.tabObj ps) := I.hok P _ hP
  have ns : s.heap.Ns mainGlobals X.mg := I.ok.mod.glob.keeps I.bk
  have nP : ∀ b o, X.base.get? b = some o → b ≠ P := fun b o e z => by
    have := (I.bs b o e).2
    rw [z, hP] at this; cases this
  have mP : mainGlobals ≠ P := by
    obtain ⟨o, _, _, e, _⟩ := I.ok.mod.glob
    exact nP _ o e
  have hd : PySem.W.CodeHd s.heap c P := PySem.W.codeHd_of_K I.kIn hc
  have bl : s.heap.BuiltinsAt X.mg P := by
    obtain ⟨bm, sl, e1, e2, e3, e4⟩ := hb
    exact ⟨bm, _, e1, e2, e3, nP bm _ (I.ok.mod.kin _ _ e4), I.kIn _ _ e4, rfl, rfl, rfl⟩
  rcases cs with cs | ⟨c', cs, hc'⟩
  · refine PySem.W.kla_makeFunction hcl I.ok.glob ns hcd hd gP tri cs mP bl fun c' ctv h' tk ext h1 h2 h3 h4 => ?_
    have pk : ∀ b o, h'.get? b = some o → (h'.push (PySem.W.kla_obj x q pr bd sc [] ((X.mg (Str.ofString "__name__")).getD .none) c' ctv)).get? b = some o := fun b o e => Heap.get?_push_of_some _ e
    have sz : s.heap.objs.size ≤ h'.objs.size := by omega
    have fP : P ≠ h'.objs.size := Nat.ne_of_lt (Heap.lt_size h4)
    have cP : P ≠ c' := Nat.ne_of_lt (Nat.lt_of_lt_of_le (Heap.lt_size gP) h1)
    have J := I.grow (P := P) (c := c') (f := h'.objs.size) (t' := tk) (h' := h'.push (PySem.W.kla_obj x q pr bd sc [] ((X.mg (Str.ofString "__name__")).getD .none) c' ctv)) (o1 := CRec c' q) (o2 := ObjO h'.objs.size (PySem.W.kla_obj x q pr bd sc [] ((X.mg (Str.ofString "__name__")).getD .none) c' ctv)) hP
      (fun b o n e => pk b o (ext b o n e)) (pk _ _ h4) h1 sz (Nat.ne_of_lt h2) (fun H'' => crec_ok (by
        obtain ⟨c2, o, vs, t, e1, e2, e3⟩ := h3
        exact ⟨c2, o, vs, t, e1, pk _ _ e2, e3⟩)) (fun H'' => objo_ok (Heap.get?_push_size _ rfl))
    refine k _ c' ctv _ _ _ J (fun b o n e => ?_) ⟨_, by rw [upd_ne fP, upd_ne cP, upd_same], ?_, .inr ⟨c', ?_, by rw [upd_ne (Nat.ne_of_lt h2), upd_same]⟩⟩ (I.hok.fresh sz) (Ne.symm fP) upd_same (by rw [upd_ne (Nat.ne_of_lt h2), upd_same])
    · rw [upd_ne (ne_of_none e (I.hok.fresh sz)), upd_ne (ne_of_none e (I.hok.fresh h1)), upd_ne n]; exact e
    · rw [Array.toList_append]; exact TriplesOk_snoc _ _ _ _ tri
    · rw [Array.toList_append]; exact codeAmong_snoc _ tri cs
  · refine PySem.W.kla_makeFunctionHit hcl I.ok.glob ns hcd hd gP tri cs bl fun ctv h' tk kp sz => ?_
    have J := I.laid (a := h'.objs.size) (t' := tk) (h' := h'.push (PySem.W.kla_obj x q pr bd sc [] ((X.mg (Str.ofString "__name__")).getD .none) c' ctv)) (o := ObjO h'.objs.size (PySem.W.kla_obj x q pr bd sc [] ((X.mg (Str.ofString "__name__")).getD .none) c' ctv)) (fun b o e => Heap.get?_push_of_some _ (kp b o e)) sz (objo_ok (Heap.get?_push_size _ rfl))
    have f0 := I.hok.fresh sz
    have st : ∀ b o, H b = some o → upd H h'.objs.size (ObjO h'.objs.size (PySem.W.kla_obj x q pr bd sc [] ((X.mg (Str.ofString "__name__")).getD .none) c' ctv)) b = some o := fun b o e => by rw [upd_ne (ne_of_none e f0)]; exact e
    exact k _ c' ctv _ _ _ J (fun b o _ e => st b o e) ⟨ps, st _ _ hP, tri, .inr ⟨c', cs, st _ _ hc'⟩⟩ f0 (fun z => by rw [z, hP] at f0; cases f0) upd_same (st _ _ hc')
end
end L2

/-! sorted(.., key=f) where f tells texts -/
namespace L2
open PySem PySem.Spec PyProof.Rows
theorem lam_run {P : Program} {w : World} {K : PySem.W.Frag} {mg : Str → Option Value} {base : Heap} {A : Around} {outer : List Env} {s : Shared} {H : Hp} {f c : Addr} {x q : Str} {pr : Arguments} {bd : Expr} {sc : Scope} {pm ct : Value} {N ps : List Str} {us : List Value} {vs : List V} {Q : VK} {t : TE}
    (ho : s.heap.get? f = some (PySem.W.kla_obj x q pr bd sc [] pm c ct)) (hc : s.heap.CodeRec (.ref c) q) (S : FnScope N ps sc) (hr : Room 1 A) (e0 : Env0 P w K mg base A outer s H)
    (hb : BindsTo s (PySem.W.kla_fn x q pr bd sc [] pm (.ref c) ct) ⟨us, []⟩ (ps.zip us)) (hl : vs.length = ps.length) (r : Vals vs us)
    (ht : PE (cxOf CX0 P w K mg base N q sc f (.ref c) A outer s H E0) bd t) (hq : t (start N vs) H Q) : codeAny (model P w) A (.call (.ref f) ⟨us, []⟩) (CR CX0 outer P w H s Q E0) s := by
  have lim : s.heap.NoLimit := e0.mod.nolimit.keeps fun b o e => (e0.bs b o e).1
  have hkind : ∀ y ∈ ps.zip us, sc.names.lookup y.1 = some .local ∨ (sc.names.lookup y.1 = some .cell ∧ ((cellsFrom (s.heap.objs.size + 1) sc.names []).lookup y.1).isSome = true) := fun ⟨n, v⟩ hy => by
    rcases S.par n (List.of_mem_zip hy).1 with q | q
    · exact .inl q
    · exact .inr ⟨q, PySem.W.cellsFrom_some _ _ _ (.inl q)⟩
  refine PySem.W.kla_callFunE hr.depth ho rfl S.co S.gen rfl hc (hb _ _ _ _ ?_)
  refine wpAny_newFunctionEnv_cells S.kind hkind fun env he s1 x => ?_
  subst he
  refine ⟨lim.keeps x.toInCall.keep, PySem.W.kla_codeExpr ?_⟩
  have I := inv_start (CX := CX0) (E := E0) (f := f) (cd := .ref c) (qual := q) S hr.hd e0 hl r x
  refine wpAny_mono (ht [] s1 (start N vs) H Q I hq) (fun u s' ⟨v, H', J, rv, q⟩ => ?_) fun e s' hs => hs
  exact ⟨v, H', J.os, J.bare, J.base, J.hok, rv, q⟩
theorem sorted_flip {bs : List Addr} {z : Addr → Str} (h : bs.length < 2) : (bs.map fun b => ((z b, 0) : PairD)).Pairwise leP := by
  rw [List.pairwise_iff_getElem]
  intro i j hi hj lt
  rw [List.length_map] at hj
  omega
noncomputable def keyed (kt : List Value) (bs : List Addr) : List Keyed := kt.zip (bs.map Value.ref)
noncomputable def sOf : Value → Str
  | .str x _ => x
  | _ => Str.ofString ""
section
variable {X : Cx} {pins : List (Addr × Obj)} {σ : St} {H : Hp} {s : Shared} {A : Around} {E : Value → Shared → Prop}
theorem kstr_ix : ∀ {kt : List Value} {ss : List Str} {i : Nat} {k : Value}, StrsAre kt ss → kt[i]? = some k → ss[i]? = some (sOf k) ∧ ∃ t, k = .str (sOf k) t
  | _, _, 0, _, .cons y t h, e => by cases e; exact ⟨rfl, t, rfl⟩
  | _, _, i + 1, _, .cons _ _ h, e => kstr_ix (i := i) h e
theorem kstr_len : ∀ {kt : List Value} {ss : List Str}, StrsAre kt ss → kt.length = ss.length
  | _, _, .nil => rfl
  | _, _, .cons _ _ h => by rw [List.length_cons, List.length_cons, kstr_len h]
theorem kstr_snoc : ∀ {kt : List Value} {ss : List Str} {y : Str} {t : Tok}, StrsAre kt ss → StrsAre (kt ++ [.str y t]) (ss ++ [y])
  | _, _, y, t, .nil => .cons y t .nil
  | _, _, _, _, .cons a b h => .cons a b (kstr_snoc h)
theorem keyed_mem {kt : List Value} {bs : List Addr} {z : Addr → Str} {x : Keyed} (h : StrsAre kt (bs.map z)) (hx : x ∈ keyed kt bs) : ∃ b t, b ∈ bs ∧ x = (.str (z b) t, .ref b) := by
  obtain ⟨i, hi⟩ := List.getElem?_of_mem hx
  unfold keyed at hi
  rw [List.getElem?_zip_eq_some] at hi
  obtain ⟨h1, h2⟩ := hi
  rw [List.getElem?_map] at h2
  obtain ⟨b, h3, h4⟩ := Option.map_eq_some_iff.mp h2
  obtain ⟨h5, t, h6⟩ := kstr_ix h h1
  rw [List.getElem?_map, h3] at h5
  refine ⟨b, t, List.mem_of_getElem? h3, ?_⟩
  rw [← Option.some.inj h5] at h6
  exact Prod.ext h6 h4.symm
theorem sort_end {a kS : Addr} {bs : List Addr} {z : Addr → Str} {kt : List Value} {n e : Nat} {Q : Fin → Shared → Prop} (I : Inv X pins σ H s) (fa : FpOk X pins H a) (fk : FpOk X pins H kS) (nak : a ≠ kS) (ha : s.heap.get? a = some (seqObj "list" #[] n)) (hk : s.heap.get? kS = some (seqObj "list" kt.toArray e)) (hz : StrsAre kt (bs.map z)) (h64 : bs.length < 64)
    (k : ∀ (s' : Shared) (bs' : List Addr) (e' : Nat), Inv X pins σ H s' → bs'.Perm bs → (bs'.map fun b => ((z b, 0) : PairD)).Pairwise leP → s'.heap.get? a = some (seqObj "list" (bs'.map Value.ref).toArray e') → Q (.done (.ret .none)) s') :
    wpAny (model X.prog X.w) A (ksk_end a false (bs.map Value.ref).toArray n (.ref kS) kt.toArray) Q E s := by
  have kl : kt.length = bs.length := by have := kstr_len hz; rwa [List.length_map] at this
  have sl : (kt.toArray.zip (bs.map Value.ref).toArray).toList = keyed kt bs := ksk_zip kt.toArray (bs.map Value.ref)
  have epi : ∀ (st : SortSt) (bs' : List Addr), failedOf st = none → (arrOf st).toList.map (·.2) = bs'.map Value.ref → bs'.Perm bs → (bs'.map fun b => ((z b, 0) : PairD)).Pairwise leP → wpAny (model X.prog X.w) A (ksk_tail a false n (.ref kS) st) Q E s := fun st bs' f ea p pw => by
    unfold ksk_tail
    have ea' : ((arrOf st).map fun x => x.2) = (bs'.map Value.ref).toArray := by
      apply Array.ext'
      rw [Array.toList_map, ea]
    rw [f, ea']
    refine wpAny_bind (listUpdate_at hk rfl ?_ (hsz2 := by simp))
    have k1 : ∀ b o, b ≠ kS → s.heap.get? b = some o → (s.heap.update kS (Obj.mapSeq fun _ => #[])).get? b = some o := fun b o nb g => by rw [Heap.get?_update_ne _ _ _ _ nb]; exact g
    have I1 := I.turned (t' := s.toks) k1 fk.1 fk.2.1 fk.2.2.2.1 fk.2.2.2.2.1 fk.2.2.2.2.2
    have ha1 := k1 a _ nak ha
    generalize s.heap.update kS (Obj.mapSeq fun _ => #[]) = h1 at k1 I1 ha1
    refine wpAny_bind (wpAny_letGo (wpAny_bind (seqEpoch_at ha1 rfl (wpAny_bind (listUpdate_at ha1 rfl ?_ (hsz2 := ?_))))))
    · have k2 : ∀ b o, b ≠ a → h1.get? b = some o → (h1.update a (Obj.mapSeq fun _ => (bs'.map Value.ref).toArray)).get? b = some o := fun b o nb g => by rw [Heap.get?_update_ne _ _ _ _ nb]; exact g
      have I2 := I1.turned (t' := s.toks) k2 fa.1 fa.2.1 fa.2.2.2.1 fa.2.2.2.2.1 fa.2.2.2.2.2
      have e2 := get?_update_seq ha1 fun _ => (bs'.map Value.ref).toArray
      simp only [bne_self_eq_false, Bool.false_eq_true, if_false]
      exact wpAny_pure (k _ bs' _ I2 p pw e2)
    · simp only [Bool.false_eq_true, if_false]
      rw [List.size_toArray, List.length_map, p.length_eq, sizeLine_eq]; omega
  unfold ksk_end
  simp only [Bool.false_eq_true, if_false, List.size_toArray, List.length_map]
  by_cases few : bs.length < 2
  · simp only [if_pos few]
    refine wpAny_bind (wpAny_pure ?_)
    rw [StateT.run_pure]
    refine wpAny_bind (wpAny_pure ?_)
    refine epi _ bs rfl ?_ (.refl _) (sorted_flip few)
    show (kt.toArray.zip (bs.map Value.ref).toArray).toList.map (·.2) = _
    rw [sl]
    unfold keyed
    exact List.map_snd_zip (by rw [List.length_map, kl]; exact Nat.le_refl _)
  · simp only [if_neg few]
    have kk : keyKind' kt.toArray = pure oneType' := by
      match kt, hz, kl with
      | [], _, kl => exact absurd kl (by simp; omega)
      | [_], _, kl => exact absurd kl (by simp; omega)
      | _ :: _ :: _, hz, _ => exact keyKind_strs hz
    refine wpAny_bind (wpAny_of_eq kk ?_)
    have bz : (kt.toArray.zip (bs.map Value.ref).toArray).size = bs.length := by rw [← Array.length_toList, sl]; unfold keyed; rw [List.length_zip, List.length_map, kl, Nat.min_self]
    have ask : Asks X.prog X.w A E s oneType' (fun x => rankP (bs.map fun b => ((z b, 0) : PairD)) (sOf x.1, 0)) (kt.toArray.zip (bs.map Value.ref).toArray) := fun x hx y hy Q q => by
      rw [sl] at hx hy
      obtain ⟨b, t, hb, rfl⟩ := keyed_mem hz hx
      obtain ⟨c, u, hc, rfl⟩ := keyed_mem hz hy
      refine oneLt_str (?_ : Q (decide ((z b).cps.toList < (z c).cps.toList)) s)
      have e := rankP_lt (ds := bs.map fun b => ((z b, 0) : PairD)) (a := (z b, 0)) (b := (z c, 0)) (List.mem_map.mpr ⟨b, hb, rfl⟩)
      have e2 : ltP ((z b, 0) : PairD) (z c, 0) = decide ((z b).cps.toList < (z c).cps.toList) := by
        unfold ltP
        by_cases h : z b = z c
        · rw [if_pos h, h, decide_eq_false (by omega), decide_eq_false (List.lt_irrefl _)]
        · rw [if_neg h]
      rw [← e2, ← e]; exact q
    refine wpAny_bind (wpAny_mono (by_ranks (Q := fun _ st => (arrOf st).Perm (kt.toArray.zip (bs.map Value.ref).toArray) ∧ failedOf st = none ∧ Rise (fun x => rankP (bs.map fun b => ((z b, 0) : PairD)) (sOf x.1, 0)) (arrOf st) bs.length) ask (st := SortSt.mk' oneType' (kt.toArray.zip (bs.map Value.ref).toArray) #[] 7 none) ⟨.refl _, rfl, rfl, rfl⟩ (by rw [bz]; omega) (by rw [bz]; exact h64) fun st p f up => ⟨p, f, by rw [bz] at up; exact up⟩) ?_ fun _ _ z => z)
    rintro ⟨⟨⟩, st⟩ s' ⟨rfl, p, f, up⟩
    have p' := Array.perm_iff_toList_perm.mp p
    rw [sl] at p'
    have all : ∀ x ∈ (arrOf st).toList, ∃ b t, b ∈ bs ∧ x = (Value.str (z b) t, Value.ref b) := fun x hx => keyed_mem hz (p'.mem_iff.mp hx)
    have e2 : (arrOf st).toList.map (·.2) = ((arrOf st).toList.map fun x => adr x.2).map Value.ref := by
      rw [List.map_map]
      refine List.map_congr_left fun x hx => ?_
      obtain ⟨b, t, _, rfl⟩ := all x hx
      rfl
    have pb : ((arrOf st).toList.map fun x => adr x.2).Perm bs := by
      have := p'.map fun x : Keyed => adr x.2
      have e3 : (keyed kt bs).map (fun x : Keyed => adr x.2) = bs := by
        unfold keyed
        have : (fun x : Keyed => adr x.2) = adr ∘ (·.2) := rfl
        rw [this, ← List.map_map, List.map_snd_zip (by rw [List.length_map, kl]; exact Nat.le_refl _), List.map_map]
        exact (List.map_congr_left fun _ _ => rfl).trans (List.map_id _)
      rwa [e3] at this
    refine epi st _ f e2 pb ?_
    rw [List.pairwise_iff_getElem]
    intro i j hi hj lt
    rw [List.length_map, List.length_map] at hi hj
    have at_ : ∀ m (hm : m < (arrOf st).toList.length), rk (fun x => rankP (bs.map fun b => ((z b, 0) : PairD)) (sOf x.1, 0)) (arrOf st) m = rankP (bs.map fun b => ((z b, 0) : PairD)) (z (adr ((arrOf st).toList[m]).2), 0) := fun m hm => by
      unfold rk
      rw [← Array.getElem?_toList, List.getElem?_eq_getElem hm]
      obtain ⟨b, t, _, e⟩ := all _ (List.getElem_mem hm)
      rw [e]; rfl
    have len : (arrOf st).toList.length = bs.length := by rw [← pb.length_eq, List.length_map]
    have h := up i j (Nat.le_of_lt lt) (by omega)
    rw [at_ i hi, at_ j hj] at h
    simp only [List.getElem_map]
    unfold leP
    rw [← rankP_lt (ds := bs.map fun b => ((z b, 0) : PairD))]
    · exact decide_eq_false (Nat.not_lt.mpr h)
    · obtain ⟨b, t, hb, e⟩ := all _ (List.getElem_mem hj)
      rw [e]; exact List.mem_map.mpr ⟨b, hb, rfl⟩
theorem sort_keys {a f : Addr} {bs : List Addr} {z : Addr → Str} {n : Nat} {Q : Fin → Shared → Prop} (I : Inv X pins σ H s) (fa : FpOk X pins H a) (ha : s.heap.get? a = some (seqObj "list" (bs.map Value.ref).toArray n)) (h64 : bs.length < 64)
    (key : ∀ s', Inv X pins σ H s' → ∀ b ∈ bs, wpAny (model X.prog X.w) A (call (.ref f) [.ref b]) (fun u s'' => ∃ t, u = .str (z b) t ∧ Inv X pins σ H s'' ∧ ∀ d o, FpOk X pins H d → s'.heap.get? d = some o → s''.heap.get? d = some o) (fun _ _ => False) s')
    (k : ∀ (s' : Shared) (bs' : List Addr) (e' : Nat), Inv X pins σ H s' → bs'.Perm bs → (bs'.map fun b => ((z b, 0) : PairD)).Pairwise leP → s'.heap.get? a = some (seqObj "list" (bs'.map Value.ref).toArray e') → Q (.done (.ret .none)) s') :
    wpAny (model X.prog X.w) A (ksk_tree a (.ref f) false) Q E s := by
  unfold ksk_tree
  refine wpAny_bind (listItems_at ha rfl (wpAny_bind (listUpdate_at ha rfl ?_ (hsz2 := by simp))))
  have k1 : ∀ b o, b ≠ a → s.heap.get? b = some o → (s.heap.update a (Obj.mapSeq fun _ => #[])).get? b = some o := fun b o nb g => by rw [Heap.get?_update_ne _ _ _ _ nb]; exact g
  have I1 := I.turned (t' := s.toks) k1 fa.1 fa.2.1 fa.2.2.2.1 fa.2.2.2.2.1 fa.2.2.2.2.2
  have e1 := get?_update_seq ha fun _ => #[]
  generalize (if (#[] : Array Value).size == (bs.map Value.ref).toArray.size then n else n + 1) = n1 at e1
  generalize s.heap.update a (Obj.mapSeq fun _ => #[]) = h1 at k1 I1 e1
  refine wpAny_bind (seqEpoch_at e1 rfl (wpAny_bind (wpAny_newTuple (wpAny_bind (wpAny_newList (wpAny_holding ?_) (Nat.zero_le _))) ?_)))
  · have I2 := I1.kept (h' := h1.push { cls := Value.type "tuple", data := Data.seq (bs.map Value.ref).toArray.toList.toArray }) (t' := s.toks) fun b o g => Heap.get?_push_of_some _ g
    have e2 : (h1.push { cls := Value.type "tuple", data := Data.seq (bs.map Value.ref).toArray.toList.toArray }).get? a = some (seqObj "list" #[] n1) := Heap.get?_push_of_some _ e1
    generalize h1.push { cls := Value.type "tuple", data := Data.seq (bs.map Value.ref).toArray.toList.toArray } = h2 at I2 e2
    have fk : FpOk X pins H h2.objs.size := I2.fpOk (Nat.le_refl _) (I2.hok.fresh (Nat.le_refl _))
    have nak : a ≠ h2.objs.size := Nat.ne_of_lt (Heap.lt_size e2)
    have I3 := I2.kept (h' := h2.push { cls := Value.type "list", data := Data.seq ([] : List Value).toArray }) (t' := s.toks) fun b o g => Heap.get?_push_of_some _ g
    have e3 : (h2.push { cls := Value.type "list", data := Data.seq ([] : List Value).toArray }).get? a = some (seqObj "list" #[] n1) := Heap.get?_push_of_some _ e2
    have k3 : (h2.push { cls := Value.type "list", data := Data.seq ([] : List Value).toArray }).get? h2.objs.size = some (seqObj "list" ([] : List Value).toArray 0) := Heap.get?_push_size _ rfl
    dsimp only
    generalize h2.objs.size = kS at fk nak k3 ⊢
    generalize h2.push { cls := Value.type "list", data := Data.seq ([] : List Value).toArray } = h3 at I3 e3 k3
    unfold ksk_rest
    refine wpAny_bind (wpAny_rule (wpAny_bind ?_))
    rw [List.forIn_toArray]
    refine ksk_fold (fun i s' => ∃ (kt : List Value) (e : Nat), Inv X pins σ H s' ∧ s'.heap.get? a = some (seqObj "list" #[] n1) ∧ s'.heap.get? kS = some (seqObj "list" kt.toArray e) ∧ StrsAre kt ((bs.take i).map z)) (bs.map Value.ref) 0 _ ⟨[], 0, I3, e3, k3, .nil⟩ (fun j v s' hv hI => ?_) fun s' hI => ?_
    · rw [Nat.zero_add] at hI ⊢
      obtain ⟨kt, e, J, ja, jk, jz⟩ := hI
      rw [List.getElem?_map] at hv
      obtain ⟨b, hb, rfl⟩ := Option.map_eq_some_iff.mp hv
      have jl := kstr_len jz
      rw [List.length_map, List.length_take] at jl
      refine wpAny_bind (wpAny_attempt (wpAny_mono (key s' J b (List.mem_of_getElem? hb)) (fun u s'' hu => ?_) fun _ _ h => h.elim))
      obtain ⟨t, rfl, J2, kp⟩ := hu
      have ja2 := kp a _ fa ja
      have jk2 := kp kS _ fk jk
      dsimp only
      have up := get?_update_seq jk2 fun x => x.push (.str (z b) t)
      rw [List.push_toArray] at up
      refine wpAny_bind (listUpdate_at jk2 rfl (wpAny_pure ⟨rfl, kt ++ [.str (z b) t], _, J2.turned (t' := s''.toks) (fun d o nd g => by rw [Heap.get?_update_ne _ _ _ _ nd]; exact g) fk.1 fk.2.1 fk.2.2.2.1 fk.2.2.2.2.1 fk.2.2.2.2.2, by rw [Heap.get?_update_ne _ _ _ _ nak]; exact ja2, up, ?_⟩) ?_ ?_)
      · rw [List.take_succ, hb, List.map_append]
        exact kstr_snoc jz
      · rw [List.size_toArray, sizeLine_eq]; omega
      · rw [Array.size_push, List.size_toArray, sizeLine_eq]; omega
    · rw [Nat.zero_add, List.length_map, List.take_length] at hI
      obtain ⟨kt, e, J, ja, jk, jz⟩ := hI
      refine wpAny_bind (listItems_at jk rfl ?_)
      exact sort_end J fa fk nak ja jk jz h64 k
  · rw [List.toList_toArray, List.length_map, sizeLine_eq]; omega
theorem Inv.track {a : Addr} {o : HO} (I : Inv X pins σ H s) (fa : FpOk X pins H a) (new : ∀ H'', ObjOk X.prog X.w H'' s.heap a o) : Inv X pins σ (upd H a o) s := by
  have n0 := fa.1
  have trk : ∀ b u, H b = some u → upd H a o b = some u := fun b u e => by rw [upd_ne (ne_of_none e n0)]; exact e
  refine I.step (g' := s.gens) (d' := s.drawn) (t' := s.toks) (h' := s.heap) (ch := [a]) (fun b hb => ?_) (fun b o _ _ _ e _ => e) (fun b o _ _ _ e _ => ⟨o.slots, e⟩) (fun b u hb _ n => ?_) (fun b u _ e => ⟨u, e⟩) (fun b xs e => trk b _ e) (fun b u v e => trk b _ e) (fun b ps e => ⟨#[], by rw [trk b _ e]; simp⟩) (fun m hm => hm) (fun b u e => ?_) I.bare
  · rw [List.mem_singleton.mp hb]
    exact ⟨fa.2.2.2.1, fa.2.1, fa.2.2.2.2.1, fa.2.2.2.2.2⟩
  · rw [upd_ne (fun z => hb (by rw [z]; exact List.mem_singleton_self _))]; exact n
  · by_cases z : b = a
    · rw [z, upd_same] at e
      cases e
      rw [z]; exact new _
    · rw [upd_ne z] at e
      exact (I.hok b u e).stay (fun _ _ _ q => q) (fun d q => trk d _ q) fun d xs q => trk d _ q
theorem sorted_keys {p f c : Addr} {bs : List Addr} {z : Addr → Str} {x q : Str} {pr : Arguments} {bd : Expr} {sc : Scope} {pm ct : Value} {y : Str} {rs : Addr → List V} {Q : VK} (I : Inv X pins σ H s) (hr : Room 4 X.A) (hp : SqL X.K H p (bs.map V.ref)) (hd : ∀ b ∈ bs, H b = some (.tup (.str (z b) :: rs b))) (h64 : bs.length < 64)
    (hf : H f = some (ObjO f (PySem.W.kla_obj x q pr bd sc [] pm c ct))) (hc : H c = some (CRec c q)) (S : FnScope [y] [y] sc) (hb : ∀ (s : Shared) (u : Value), BindsTo s (PySem.W.kla_fn x q pr bd sc [] pm (.ref c) ct) ⟨[u], []⟩ [(y, u)])
    (ht : ∀ A outer s H, PE (cxOf CX0 X.prog X.w X.K X.mg X.base [y] q sc f (.ref c) A outer s H E0) bd (tOp (rIxT X.K) (tVar 0) (tC (.int 0))))
    (k : ∀ (l : Addr) (bs' : List Addr), H l = none → bs'.Perm bs → (bs'.map fun b => ((z b, 0) : PairD)).Pairwise leP → Q (.ref l) (upd H l (.lst (bs'.map V.ref)))) :
    wpAny (model X.prog X.w) X.A (call (.builtin "sorted") [.ref p] [(Str.ofString "key", .ref f)]) (EP X pins σ Q) X.xe s := by
  obtain ⟨its, r', pl, _⟩ := I.list hp
  have e := refs_of r'
  subst e
  have fit : (bs.map Value.ref).length ≤ sizeLine := by rw [List.length_map, sizeLine_eq]; omega
  refine call_function_entry_kw kind_sorted plain_sorted entry_sorted (ksk_s1 _ _) (wpAny_bind (m := checkCount "sorted" 1 1 _) (wpAny_pure (wpAny_bind (collect_list pl.isList (wpAny_bind (wpAny_newList ?_ fit)) fit))))
  dsimp only
  have k1 : ∀ b o, s.heap.get? b = some o → ((s.heap.push (seqObj "list" #[] 0)).update s.heap.objs.size (Obj.mapSeq (· ++ (bs.map Value.ref).toArray))).get? b = some o := fun b o g => by
    rw [Heap.get?_update_ne _ _ _ _ (Nat.ne_of_lt (Heap.lt_size g))]; exact Heap.get?_push_of_some _ g
  have I1 := I.kept (t' := s.toks) k1
  generalize (s.heap.push (seqObj "list" #[] 0)).update s.heap.objs.size (Obj.mapSeq (· ++ (bs.map Value.ref).toArray)) = h1 at k1 I1
  have I2 := I1.kept (t' := s.toks) (h' := h1.push { cls := .type "list", data := .seq (bs.map Value.ref).toArray }) fun b o g => Heap.get?_push_of_some _ g
  have new : (h1.push { cls := .type "list", data := .seq (bs.map Value.ref).toArray }).get? h1.objs.size = some (seqObj "list" (bs.map Value.ref).toArray 0) := Heap.get?_push_size _ rfl
  have fa : FpOk X pins H h1.objs.size := I1.fpOk (Nat.le_refl _) (I1.hok.fresh (Nat.le_refl _))
  refine wpAny_bind (wpAny_holding (wpAny_call_entry_kw slot_list_sort ⟨_, new, rfl⟩ entry_list_sort ?_ (ksk_l1 _ _)))
  rw [ksk_t1]
  refine sort_keys (z := z) I2 fa new h64 (fun s' J b hb' => ?_) fun s' bs' e' J pb pw g => ?_
  · refine wpAny_call (codeAny_mono (lam_run (vs := [.ref b]) (us := [.ref b]) (Q := fun v H' => v = .str (z b) ∧ H' = H) (J.hok f _ hf).1 (J.hok c _ hc).1 S (hr.in1.in1.mono (by decide)) J.env0.in1.in1 (hb s' _) rfl (.cons rfl .nil) (ht _ _ _ _) ?_) fun r s'' hq => ?_)
    · refine ⟨.ref b, rfl, ?_⟩
      exact ⟨b, _, 0, _, rfl, rfl, SqT.of (hd b hb'), show atI (V.str (z b) :: rs b) ((0 : Nat) : Int) = _ from atI_nat rfl, rfl, rfl⟩
    · cases r with
      | error e => exact hq.elim
      | ok fl =>
        cases fl with
        | next => exact False.elim hq
        | brk => exact False.elim hq
        | cont => exact False.elim hq
        | ret u =>
          obtain ⟨v, H', os, bare, un, hok, rv, hv, hH⟩ := hq
          subst hv hH
          obtain ⟨t, rfl⟩ := rv
          refine ⟨t, rfl, J.call' (ch := []) os un hok bare (fun b z => absurd z (by simp)), fun d o fd g => un.keep d o g fd.1 (fun z => ?_) (by simp)⟩
          exact (List.mem_cons.mp (J.stkSub d z)).elim fd.2.1 fd.2.2.1
  · refine ⟨_, rfl, wpAny_pure ⟨_, rfl, .ref h1.objs.size, upd H h1.objs.size (.lst (bs'.map V.ref)), ?_, rfl, k _ bs' fa.1 pb pw⟩⟩
    exact J.track fa fun H'' => ⟨by rw [List.length_map, pb.length_eq, sizeLine_eq]; omega, bs'.map Value.ref, e', vals_refs, g⟩
noncomputable def tSortL (K : PySem.W.Frag) (P : Addr) (lp : Pos) (q : Str) (te : TE) : TE := fun σ H Q => te σ H fun x H1 => ∃ (p : Addr) (bs : List Addr) (z : Addr → Str) (rs : Addr → List V), x = .ref p ∧ SqL K H1 p (bs.map V.ref) ∧ (∀ b ∈ bs, H1 b = some (.tup (.str (z b) :: rs b))) ∧ bs.length < 64 ∧ TbOk P lp q H1 ∧
  ∀ (l : Addr) (bs' : List Addr) (H2 : Hp), H1 l = none → bs'.Perm bs → (bs'.map fun b => ((z b, 0) : PairD)).Pairwise leP → SameX P H1 H2 → TbOk P lp q H2 → H2 l = some (.lst (bs'.map V.ref)) → Q (.ref l) H2
theorem pe_sortL {K : PySem.W.Frag} {P c : Addr} {e : Expr} {te : TE} {p kp lp pos : Pos} {pr : Arguments} {bd : Expr} {sc : Scope} {y q : Str} (eK : X.K = K) (hr : Room 4 X.A) (he : PE X e te) (hg : Gl X "sorted") (hm : X.mg "sorted" = none) (hcd : X.env.code = .ref c) (hc : PySem.W.codeHdIn K c P = true) (bm : BMod K X.mg) (S : FnScope [y] [y] sc)
    (ht : ∀ (f c : Addr) A outer s H, PE (cxOf CX0 X.prog X.w X.K X.mg X.base [y] q sc f (.ref c) A outer s H E0) bd (tOp (rIxT X.K) (tVar 0) (tC (.int 0))))
    (hb : ∀ (pm cd ct u : Value), bindArgs (PySem.W.kla_fn (Str.ofString "<lambda>") q pr bd sc [] pm cd ct) ⟨[u], []⟩ = pure [(y, u)] := by intros; rfl)
    (hcl : closureFor sc X.env = pure [] := by rfl) (hq : X.env.qual ++ Str.ofString "<lambda>" = q := by rfl) (hdf : defaultsOf pr X.env = ([], []) := by rfl) (s1 : starEach [e] X.env = [(false, eval e X.env)] := by rfl) :
    PE X (.Call (.Name "sorted" p) [e] [⟨some "key", .Lambda pr bd sc lp, kp⟩] pos) (tSortL K P lp q te) := by
  subst eK
  intro pins s σ H Q I h
  refine wpAny_Call_Name_kw (ld_blt I hg hm (show bootBuiltins "sorted" = some (.builtin "sorted") by kernel_rfl) ?_)
  refine PyProof.Rows.callWith_kw ?_ (by rw [s1]; rfl) (by rw [s1]; rfl)
  rw [s1]
  refine Calls.spliced_cons (thn (he pins s σ H _ I h) fun u s2 ⟨x, H1, I1, r1, p', bs, z, rs, ex, hp, hd, h64, tb, k⟩ => Calls.spliced_nil (kws_cons (PySem.W.kla_eval hdf ?_)))
  subst ex
  cases r1
  rw [hq]
  refine make_lam I1 hcl hcd hc bm tb fun f c' ctv pm H' s' J sx tb' f0 fP hf hc' => kws_nil ?_
  have pt : ∀ (b : Addr) (o : HO), (∀ ps, o ≠ .tbl ps) → H1 b = some o → H' b = some o := fun b o ne e => sx b o (fun zz => by
    obtain ⟨ps, hP, _⟩ := tb
    rw [zz, hP] at e
    exact ne ps (Option.some.inj e).symm) e
  have hp' : SqL X.K H' p' (bs.map V.ref) := by
    rcases hp with hp | hp
    · rcases hp with hp | ⟨o, hp⟩
      · exact .inl (.inl (pt _ _ (fun ps z => by cases z) hp))
      · exact .inl (.inr ⟨o, pt _ _ (fun ps z => by cases z) hp⟩)
    · exact .inr hp
  refine sorted_keys (z := z) (rs := rs) J hr hp' (fun b hb => pt _ _ (fun ps z => by cases z) (hd b hb)) h64 hf hc' S (fun s u => .of_eq (hb _ _ _ _)) (fun A outer s H => ht f c' A outer s H) fun l bs' l0 pb pw => ?_
  have st : ∀ b o, H' b = some o → upd H' l (.lst (bs'.map V.ref)) b = some o := fun b o e => by rw [upd_ne (ne_of_none e l0)]; exact e
  have l1 : H1 l = none := by
    cases e : H1 l with
    | none => rfl
    | some o =>
      obtain ⟨ps, hP, _⟩ := tb'
      have := sx l o (fun zz => by rw [zz, hP] at l0; cases l0) e
      rw [l0] at this; cases this
  exact k l bs' _ l1 pb pw (fun b o n e => st b o (sx b o n e)) (tb'.more st) upd_same
end
end L2

/-! a def with a lambda within; the law's call where tables of code objects are tracked -/
namespace L2
open PySem PySem.Spec PyProof.Rows
section
variable {P : Program} {w : World} {K : PySem.W.Frag} {mg : Str → Option Value} {base : Heap}
noncomputable def Lam (K : PySem.W.Frag) (fd : FuncData) (T : Addr) : Prop := ∃ c, fd.code = .ref c ∧ PySem.W.codeHdIn K c T = true
theorem Fun.okC {x qual : Str} {st : Stmt} {f T : Addr} {fd : FuncData} {N ps : List Str} {k : Nat} {sp : Sp} (F : Fun K x qual st f fd) (L : Lam K fd T) (S : FnScope N ps (defScope st)) (len : ∀ vs H Q E, sp vs H Q E → vs.length = ps.length)
    (hbody : ∀ (c : Addr) (cdv : Value) (A : Around) (outer : List Env) (s : Shared) (H : Hp) (vs : List V) (Q : VK) (E : XK), cdv = .ref c → PySem.W.codeHdIn K c T = true → Room k (A.deeper (envOfC qual (defScope st) s.heap.objs.size f cdv)) → sp vs H Q E →
      ∃ t, PSs (cxOf CX0 P w K mg base N qual (defScope st) f cdv A outer s H E).nox (defBody st) t ∧ t { nx := fun _ H' => Q .non H', rt := Q } (start N vs) H) : FnOk P w K mg base CX0 (k + 1) f fd ps sp := by
  obtain ⟨oc, od, kV, doc, pm, an, cdv, ct, osl, rfl, lk, hcd⟩ := F.ex
  obtain ⟨c, e1, e2⟩ := L
  refine fn_of lk hcd S len fun A outer s H vs Q E hr hsp => ?_
  obtain ⟨t, h, q⟩ := hbody c cdv A outer s H vs Q E e1 e2 hr hsp
  exact ⟨t, h.nox, q⟩
end
noncomputable def AtEntry (Ts : List Addr) (H : Hp) : Prop := ∀ T ∈ Ts, H T = some (.tbl #[])
theorem law_callT {P : Program} {w : World} {K : PySem.W.Frag} {mg mb : Str → Option Value} {CX : CXT} {k : Nat} {fa a : Addr} {fd : FuncData} {x : Str} {sp : Sp} {s₁ : Shared} {vs : List Value} {ns : List Int} {Ts : List Addr}
    (KX : K.In s₁.heap) (hns : s₁.heap.Ns mainGlobals mg) (hb : s₁.heap.Ns builtinsNs mb) (hbb : ∀ x : Str, x ≠ "__name__" → mb x = bootBuiltins x) (hlim : s₁.heap.NoLimit) (hg : s₁.gens = #[])
    (ha : s₁.heap.get? a = some { cls := .type "list", data := .seq vs.toArray }) (hi : IntsAre vs ns) (hl : ns.length ≤ sizeLine) (hr : Room k callerA)
    (hT : ∀ T ∈ Ts, s₁.heap.get? T = some (PySem.W.tabObj #[]) ∧ isCodeTable s₁.heap T ∧ K.lookup T = none)
    (F : ∀ base : Heap, K.In base → base.Ns mainGlobals mg → FnOk P w K mg base CX k fa fd [x] sp) (hbind : ∀ (s : Shared) (u : Value), BindsTo s fd ⟨[u], []⟩ [(x, u)])
    (hsp : ∀ H : Hp, AtEntry Ts H → SqL K H a (ns.map V.int) → sp [.ref a] H (fun v _ => v = .bl true) fun _ _ _ => False)
    (hCX : ∀ H e s', CX [] H s₁ (fun _ _ _ => False) e s' → False) :
    codeAny (model P w) callerA (.call (.ref fa) ⟨[.ref a], []⟩) (fun r s' => r = .ok (.ret (.bool true)) ∧ OldK s₁.heap s'.heap ∧ s'.os = s₁.os ∧ AllBare s'.gens) s₁ := by
  have rv := vals_ints hi
  have lenV := hi.length
  have aT : a ∉ Ts := fun z => by
    have := (hT a z).1
    rw [ha] at this; cases this
  have core : ∀ H : Hp, SqL K H a (ns.map V.int) → (∀ b, H b = none ∨ (b = a ∧ K.lookup a = none ∧ H b = some (.frz { cls := .type "list", data := .seq vs.toArray } (.lst (ns.map V.int)))) ∨ (b ∈ Ts ∧ H b = some (.tbl #[]))) → AtEntry Ts H →
      codeAny (model P w) callerA (.call (.ref fa) ⟨[.ref a], []⟩) (fun r s' => r = .ok (.ret (.bool true)) ∧ OldK s₁.heap s'.heap ∧ s'.os = s₁.os ∧ AllBare s'.gens) s₁ := by
    intro H hS hO hE
    have hok : HOk P w H s₁.heap := fun b u z => by
      rcases hO b with y | ⟨rfl, _, y⟩ | ⟨y1, y⟩
      · rw [y] at z; cases z
      · rw [y] at z; cases z
        exact ⟨ha, by rw [List.length_map]; exact hl, vs, _, rv, ha⟩
      · rw [y] at z; cases z
        exact (hT b y1).1
    have base_of : ∀ {b : Addr} {o : Obj}, s₁.heap.get? b = some o → H b = none → (hidT s₁.heap H).get? b = some o := fun e n => hidT_get e n
    have noA : ∀ {b : Addr} {o : Obj} {es : Array DictEntry} {ep : Nat}, s₁.heap.get? b = some o → o.data = .dict es ep → H b = none := fun {b o es ep} e d => by
      rcases hO b with y | ⟨rfl, _, y⟩ | ⟨y1, y⟩
      · exact y
      · rw [ha] at e; cases e
        have d' : Data.seq vs.toArray _ = Data.dict es ep := d
        cases d'
      · rw [(hT b y1).1] at e; cases e
        have d' : Data.fields #[] = Data.dict es ep := d
        cases d'
    have nsK : ∀ {b : Addr} {m : Str → Option Value}, s₁.heap.Ns b m → (hidT s₁.heap H).Ns b m := fun {b m} ⟨o, es, ep, e, d, r⟩ => ⟨o, es, ep, base_of e (noA e d), d, r⟩
    have hKb : K.In (hidT s₁.heap H) := fun b o e => base_of (KX b o e) (by
      rcases hO b with y | ⟨rfl, y1, y⟩ | ⟨y1, y⟩
      · exact y
      · rw [y1] at e; cases e
      · rw [(hT b y1).2.2] at e; cases e)
    have hM : Mod K mg (hidT s₁.heap H) := ⟨hKb, nsK hns, ⟨mb, nsK hb, hbb⟩, let ⟨mc, h1, h2⟩ := hlim; ⟨mc, nsK h1, h2⟩⟩
    have e0 : Env0 P w K mg (hidT s₁.heap H) callerA [] s₁ H := ⟨rfl, hM, fun b o e => of_hidT e, Nat.le_of_eq (hidT_size _ _), trivial, fun b hb => absurd (show b ∈ ([] : List Addr) from hb) (by simp), hok, .of_eq hg⟩
    refine codeAny_mono ((F _ hKb (nsK hns)).run callerA [] s₁ H ⟨[.ref a], []⟩ [.ref a] [.ref a] _ _ hr e0 (hbind s₁ (.ref a)) (.cons rfl .nil) (hsp H hE hS)) fun r s' h => ?_
    cases r with
    | error e => exact (hCX H e s' h).elim
    | ok fl =>
      cases fl with
      | next => exact False.elim h
      | brk => exact False.elim h
      | cont => exact False.elim h
      | ret u =>
        obtain ⟨v, H', os, bare, un, hok', r', q⟩ := h
        have q' : v = .bl true := q
        subst q'
        obtain rfl : u = Value.bool true := r'
        have nf : ∀ b : Addr, b ∉ frs [] := fun b z => absurd (show b ∈ ([] : List Addr) from z) (by simp)
        refine ⟨rfl, ⟨fun b o e => ?_, fun b o e => un.there b o e (by simp)⟩, os, bare⟩
        rcases hO b with y | ⟨_, _, y⟩ | ⟨y1, y⟩
        · exact .inl (un.keep b o e y (nf b) (by simp))
        · obtain ⟨e1, _⟩ := hok b _ y
          obtain ⟨e2, _⟩ := hok' b _ (un.frzs b _ _ y)
          rw [e] at e1; cases e1
          exact .inl e2
        · obtain ⟨more, z⟩ := un.tbls b _ y
          have e2 : s'.heap.get? b = some { cls := .none, data := .fields (#[] ++ more) } := hok' b _ z
          obtain ⟨t1, t2, _⟩ := hT b y1
          rw [e] at t1; cases t1
          exact .inr (.inl ⟨t2, rfl, #[], more, rfl, e2⟩)
  cases hk : K.lookup a with
  | some o =>
    have e := KX a o hk
    rw [ha] at e
    cases e
    refine core (fun b => if b ∈ Ts then some (.tbl #[]) else none) (.inr ⟨_, vs.toArray, _, hk, rfl, rfl, rfl, by rw [List.size_toArray, lenV]; exact hl, by simpa using rv⟩) (fun b => ?_) fun T hT' => if_pos hT'
    by_cases z : b ∈ Ts
    · exact .inr (.inr ⟨z, if_pos z⟩)
    · exact .inl (if_neg z)
  | none =>
    refine core (fun b => if b ∈ Ts then some (.tbl #[]) else if b = a then some (.frz { cls := .type "list", data := .seq vs.toArray } (.lst (ns.map V.int))) else none) (.inl (.inr ⟨{ cls := .type "list", data := .seq vs.toArray }, (if_neg aT).trans (if_pos rfl)⟩)) (fun b => ?_) fun T hT' => if_pos hT'
    by_cases z : b ∈ Ts
    · exact .inr (.inr ⟨z, if_pos z⟩)
    · by_cases y : b = a
      · exact .inr (.inl ⟨y, hk, (if_neg z).trans (if_pos y)⟩)
      · exact .inl ((if_neg z).trans (if_neg y))
noncomputable def FOT (K : PySem.W.Frag) (f T : Addr) (st : Stmt) (x q : Str) : Prop := ∃ (oc : Value) (od an : Option Addr) (sl : Array (Option Value)) (kV dc pm ct : Value) (c : Addr), K.lookup f = some ⟨oc, od, .func (PySem.W.fnOf x q (defArgs st) (defBody st) (defScope st) .none kV dc pm an (.ref c) ct), sl⟩ ∧ PySem.W.codeIn K (.ref c) q = true ∧ PySem.W.keepIn K (.ref f) = true ∧ PySem.W.codeHdIn K c T = true
noncomputable def TabIn (K : PySem.W.Frag) (h : Heap) (T : Addr) : Prop := h.get? T = some (PySem.W.tabObj #[]) ∧ (∃ c, PySem.W.codeHdIn K c T = true) ∧ K.lookup T = none
theorem tab_in {q : Program} {loose : List Str} {mean : ExcName → Option Value} {mg mb : Str → Option Value} {h : Heap} {K : PySem.W.Frag} {f T : Addr} {st : Stmt} {x y : Str} (KX : K.In h) (TP : Top q loose mean mg mb h) (hrec : ((recsOf q).any fun d => d.name == x) = true) (a : PySem.W.nsIn K mainGlobals x = some (some (.ref f))) (l : FOT K f T st x y) (n : K.lookup T = none) : TabIn K h T := by
  obtain ⟨oc, od, an, sl, kV, dc, pm, ct, c, lk, _, _, hc⟩ := l
  obtain ⟨d, hd, en⟩ := List.any_eq_true.mp hrec
  have en : d.name = x := by simpa using en
  obtain ⟨a', o, fd, c', P, e1, e2, e3, e4, _, e6⟩ := TP.tab d hd
  have ef := PySem.W.mg_of KX TP.g a
  rw [en, ef] at e1
  cases e1
  rw [KX _ _ lk] at e2
  cases e2
  cases e3
  have ec : c = c' := Value.ref.inj e4
  subst ec
  obtain ⟨⟨o2, vs2, g1, g2, g3, g4⟩, g5⟩ := e6
  obtain ⟨o3, vs3, _, _, _, _, _, _, _, k1, k2, k3, k4, _⟩ := PySem.W.codeHd_of_K KX hc
  rw [k1] at g1
  cases g1
  rw [k3] at g3
  cases g3
  rw [k4] at g4
  cases g4
  exact ⟨g5, ⟨c, hc⟩, n⟩
theorem walk_ofT {l : PySem.W.OpenLaw} {n k : Nat} {q : Program} {loose : List Str} {XP : (Str → Option Value) → Heap → Prop} {YP : World → Heap → Prop} {d : DefRec} {K : Params → PySem.W.Frag} {CX : World → CXT} {sp : World → Sp} {x : Str} {Ts : List Addr}
    (hn : l.most = some n) (hn2 : n ≤ sizeLine) (hdf : d.params.defaults = []) (hr : Room k callerA)
    (hY : ∀ (w : World) (h : Heap), YP w h → (K w.params).In h)
    (hT : ∀ (w : World) (h : Heap) (lo : List Str) (mean : ExcName → Option Value) (mg mb : Str → Option Value), (K w.params).In h → Top q lo mean mg mb h → ∀ T ∈ Ts, TabIn (K w.params) h T)
    (F : ∀ (w : World) (mg : Str → Option Value) (fa : Addr) (h : Heap), (K w.params).In h → h.Ns mainGlobals mg → mg d.name = some (.ref fa) →
      ∃ fd : FuncData, (∀ (s : Shared) (u : Value), BindsTo s fd ⟨[u], []⟩ [(x, u)]) ∧
        ∀ base : Heap, (K w.params).In base → base.Ns mainGlobals mg → FnOk l.prog w (K w.params) mg base (CX w) k fa fd [x] (sp w))
    (hsp : ∀ (w : World) (H : Hp) (a : Addr) (ns : List Int), ns.length ≤ n → AtEntry Ts H → SqL (K w.params) H a (ns.map V.int) → sp w [.ref a] H (fun v _ => v = .bl true) fun _ _ _ => False)
    (hCX : ∀ (w : World) (H : Hp) (s : Shared) (e : Value) (s' : Shared), CX w [] H s (fun _ _ _ => False) e s' → False) :
    PySem.W.WalkO q loose XP YP l.row.toRowW d [] (fun f vs => PySem.call f vs) := by
  refine Att.attach_call hn hdf fun w s₀ s₁ mg mb fa o pm cd doc a vs ns G Y ho hd hcd hmg hobj hints hlen hg => ?_
  have KX := hY w _ Y
  obtain ⟨fd, hb, hF⟩ := F w mg fa _ KX G.T.g hmg
  refine law_callT KX G.T.g G.T.b G.T.builtins G.T.nolimit hg hobj hints (Nat.le_trans hlen hn2) hr (fun T hT' => ?_) hF hb (fun H hO hS => hsp w H a ns hlen hO hS) fun H e s' => hCX w H s₁ e s'
  obtain ⟨t1, ⟨c, t2⟩, t3⟩ := hT w _ _ _ mg mb KX G.T T hT'
  obtain ⟨o', vs', _, _, _, _, _, _, _, e1, e2, e3, e4, _⟩ := PySem.W.codeHd_of_K KX t2
  exact ⟨t1, ⟨c, o', vs', e1, e2, e3, e4⟩, t3⟩
/-! ### what stays beside a table -/
theorem SameX.get {P : Addr} {ps : Array Value} {H H' : Hp} (s : SameX P H H') (hP : H P = some (.tbl ps)) {b : Addr} {o : HO} (e : H b = some o) (n : ∀ ps, o ≠ .tbl ps) : H' b = some o :=
  s b o (fun z => by rw [z, hP] at e; exact n ps (Option.some.inj e).symm) e
noncomputable def noT (P : Addr) (H : Hp) : Hp := fun b => if b = P then none else H b
theorem noT_get {P b : Addr} {ps : Array Value} {H : Hp} {o : HO} (hP : H P = some (.tbl ps)) (e : H b = some o) (n : ∀ ps, o ≠ .tbl ps) : noT P H b = some o := by
  unfold noT
  rw [if_neg (fun z => by rw [z, hP] at e; exact n ps (Option.some.inj e).symm)]; exact e
theorem SameX.same {P : Addr} {H H' : Hp} (s : SameX P H H') : Same (noT P H) H' := fun b o e => by
  unfold noT at e
  by_cases z : b = P
  · rw [if_pos z] at e; cases e
  · rw [if_neg z] at e; exact s b o z e
theorem SameX.free {P : Addr} {H H' : Hp} (s : SameX P H H') {b : Addr} (hb : b ≠ P) (h : H' b = none) : H b = none := by
  cases e : H b with
  | none => rfl
  | some o => rw [s b o hb e] at h; cases h
theorem StM.At.noT {P : Addr} {ps : Array Value} {H : Hp} {s : StM} (hP : H P = some (.tbl ps)) (h : s.At H) : s.At (noT P H) :=
  ⟨noT_get hP h.top (fun _ z => by cases z), noT_get hP h.wd (fun _ z => by cases z), noT_get hP h.fl (fun _ z => by cases z), fun f hf => noT_get hP (h.fs f hf) (fun _ z => by cases z)⟩
theorem PcM.At.noT {P : Addr} {ps : Array Value} {H : Hp} {p : PcM} (hP : H P = some (.tbl ps)) (h : p.At H) : p.At (noT P H) :=
  ⟨noT_get hP h.top (fun _ z => by cases z), noT_get hP h.sl (fun _ z => by cases z), noT_get hP h.nl (fun _ z => by cases z), fun s hs => (h.ss s hs).noT hP, fun n hn => noT_get hP (h.ns n hn) (fun _ z => by cases z)⟩
theorem PcM.At.keep {P : Addr} {ps : Array Value} {H H' : Hp} {p : PcM} (h : p.At H) (hP : H P = some (.tbl ps)) (s : SameX P H H') : p.At H' := (h.noT hP).mono s.same
end L2

/-! for x in reversed(a list); dict.update; a comprehension over a dict -/
namespace L2
open PySem PySem.Spec PyProof.Rows
noncomputable def Itv (K : PySem.W.Frag) (a : Addr) (xs : List V) : It :=
  ⟨fun i H => SqL K H a xs ∧ i < xs.length, fun i H x H' => H' = H ∧ xs.reverse[i]? = some x, fun i H => SqL K H a xs ∧ xs.length ≤ i⟩
theorem turn_rev {P : Program} {w : World} {K : PySem.W.Frag} {tg : Expr} (a it : Addr) (xs : List V) : Turn P w K tg (Itv K a xs) [it] it (fun i h => i ≤ xs.length ∧ h.IsRevIter it a ((xs.length : Int) - 1 - i)) where
  mem := by simp
  obj := fun i h st b hb => by
    have e : b = it := by simpa using hb
    subst e
    obtain ⟨_, o, e, c, d⟩ := st
    exact ⟨o, e, fun v z => by rw [d] at z; cases z⟩
  keep := fun i h h' st k => ⟨st.1, st.2.at fun o e => k it (by simp) o e⟩
  item := by
    intro X hP hw hK hc i pins s σ H E I hf st hg
    subst hP hw hK
    obtain ⟨hq, hi⟩ := hg
    obtain ⟨its, rv, p, hz⟩ := I.list hq
    obtain ⟨f0, f1, f2, f3, f4, f5⟩ := hf it (by simp)
    have hl := rv.length
    have hx : xs[xs.length - 1 - i]? = some xs[xs.length - 1 - i] := List.getElem?_eq_getElem (by omega)
    generalize hxx : xs[xs.length - 1 - i] = x at hx
    obtain ⟨u, hu, ru⟩ := rv.get hx
    have st2 : s.heap.IsRevIter it a ((xs.length - 1 - i : Nat) : Int) := by
      have := st.2
      rwa [show ((xs.length : Int) - 1 - i) = ((xs.length - 1 - i : Nat) : Int) by omega] at this
    refine wpAny_pyNext_rev_item st2 p.isList (x := u) (by simpa using hu) fun h' st' sb => ?_
    have I1 : Inv X pins σ H { s with heap := h' } := I.turned (t' := s.toks) (fun b o hb e => (sb.2 b hb).trans e) f0 f1 f3 f4 f5
    obtain ⟨o, e, c, d⟩ := id st'
    refine ⟨u, rfl, go_of (s := { s with heap := h' }) e c d (by decide) ⟨x, H, I1, ru, ⟨rfl, ?_⟩, ⟨by omega, ?_⟩, fun b hb => (hf b hb).1⟩⟩
    · rw [List.getElem?_reverse hi]; exact hx
    · rwa [show ((xs.length : Int) - 1 - ((i + 1 : Nat) : Int)) = ((xs.length - 1 - i : Nat) : Int) - 1 by omega]
  done := by
    intro X hP hw hK hc i pins s σ H E I hf st hg
    subst hP hw hK
    obtain ⟨hq, hi⟩ := hg
    obtain ⟨f0, f1, f2, f3, f4, f5⟩ := hf it (by simp)
    have st2 : s.heap.IsRevIter it a (-1) := by
      have := st.2
      rwa [show ((xs.length : Int) - 1 - i) = -1 by have := st.1; omega] at this
    exact wpAny_pyNext_rev_end (I.ok.hd hc) st2 fun h' eb => ⟨rfl, I.turned (t' := s.toks) (fun b o hb e => eb b o hb e) f0 f1 f3 f4 f5⟩
  self := fun _ _ _ _ _ st h => wpAny_pyIter_revIter st.2 h
section
variable {X : Cx} {tg : Expr} {K : PySem.W.Frag}
noncomputable def iRev (K : PySem.W.Frag) (tl : TE) : TI := fun σ H R => tl σ H fun x H1 => ∃ a xs, x = .ref a ∧ SqL K H1 a xs ∧ R (Itv K a xs) H1
theorem pi_rev {l : Expr} {tl : TE} {p pos : Pos} (eK : X.K = K) (hg : Gl X "reversed") (hm : X.mg "reversed" = none) (hl : PE X l tl) (hs : starEach [l] X.env = [(false, eval l X.env)] := by rfl) : PI X tg (.Call (.Name "reversed" p) [l] [] pos) (iRev K tl) := by
  subst eK
  intro pins s σ H R I h
  refine wpAny_Call_Name_kw (ld_blt I hg hm (show bootBuiltins "reversed" = some (.type "reversed") by kernel_rfl) ?_)
  refine PyProof.Rows.callWith_type1 ?_ (by rw [hs]; rfl) rfl
  rw [hs]
  show wpAny _ _ (spliced ((false, eval l X.env) :: [])) _ _ s
  refine Calls.spliced_cons (thn (hl pins s σ H _ I h) fun u s1 ⟨x, H1, I1, r1, a, xs, ex, hq, q⟩ => Calls.spliced_nil ?_)
  subst ex
  cases r1
  obtain ⟨its, r', pl, hz'⟩ := I1.list hq
  refine call_reversed_list pl.isList ?_
  have ln := r'.length
  have it0 : (s1.heap.push (revObj a ((its.toArray.size : Int) - 1))).IsRevIter s1.heap.objs.size a ((xs.length : Int) - 1 - ((0 : Nat) : Int)) := ⟨_, Heap.get?_push_size _ rfl, rfl, by
    show (revObj a ((its.toArray.size : Int) - 1)).data = _
    rw [List.size_toArray, ← ln, show ((xs.length : Int) - 1 - ((0 : Nat) : Int)) = (xs.length : Int) - 1 by omega]; rfl⟩
  refine wpAny_pyIter_revIter it0 ?_
  refine ⟨s1.heap.objs.size, [s1.heap.objs.size], _, _, H1, rfl, I1.kept (t' := s1.toks) fun b o e => Heap.get?_push_of_some _ e, turn_rev a _ xs, ⟨Nat.zero_le _, it0⟩, fun b hb => ?_, q⟩
  have e : b = s1.heap.objs.size := by simpa using hb
  subst e
  exact I1.fpOk (Nat.le_refl _) (I1.hok.fresh (Nat.le_refl _))
noncomputable def ForV (K : PySem.W.Frag) (g : TG) (tb : TS) (D : Ends) (σ : St) : VK := fun x H1 => ∃ a xs, x = .ref a ∧ SqL K H1 a xs ∧ ForW g tb D σ (Itv K a xs) H1
section
variable {te : TE} {g : TG} {tb : TS} {D : Ends} {σ : St} {H : Hp}
theorem tFor_rev : tFor (iRev K te) g tb D σ H = te σ H (ForV K g tb D σ) := rfl
theorem ForV.of {a : Addr} {xs : List V} (Pv : Nat → St → Hp → Prop) (h0 : Pv 0 σ H) (hl : ∀ i σ H, i ≤ xs.length → Pv i σ H → SqL K H a xs)
    (hs : ∀ i x σ H, xs.reverse[i]? = some x → Pv i σ H → g x σ H fun σ2 H2 => tb { D with nx := Pv (i + 1), ct := Pv (i + 1), bk := D.nx } σ2 H2) (hd : ∀ σ H, Pv xs.length σ H → D.nx σ H) : ForV K g tb D σ (.ref a) H := by
  refine ⟨a, xs, rfl, hl 0 _ _ (Nat.zero_le _) h0, fun i m σ H => m = xs.length - i ∧ i ≤ xs.length ∧ Pv i σ H, ⟨xs.length, by simp, Nat.zero_le _, h0⟩, ?_⟩
  rintro i m σ H ⟨rfl, hi, p⟩
  have q := hl i σ H hi p
  by_cases hlt : i < xs.length
  · refine .inr ⟨⟨q, hlt⟩, Pv (i + 1), fun σ' H' p' => ⟨xs.length - (i + 1), by omega, rfl, hlt, p'⟩, fun x H' y => ?_⟩
    obtain ⟨rfl, hx⟩ := y
    exact hs i x σ _ hx p
  · have e : i = xs.length := by omega
    subst e
    exact .inl ⟨⟨q, Nat.le_refl _⟩, hd σ H p⟩
end
noncomputable def rUpdD : V → List V → Hp → VK → Prop := fun x vs H Q => ∃ d o kvs more, x = .ref d ∧ vs = [.ref o] ∧ H d = some (.dK kvs) ∧ H o = some (.dK more) ∧ d ≠ o ∧ kvs.length + more.length ≤ 100000 ∧ Q .non (upd H d (.dK (mergeK kvs more)))
theorem mt_upddict : MtM X "dict.update" rUpdD := by
  intro pins s σ H x vs v us Q I rx rv h
  obtain ⟨d, o, kvs, more, rfl, rfl, hd, ho, ne, z, q⟩ := h
  cases rx
  obtain ⟨u, rfl, ru⟩ := vals1 rv
  cases ru
  obtain ⟨_, hS, ws, rel, dd⟩ := dk_of I.hok hd
  obtain ⟨_, hS2, ws2, rel2, dd2⟩ := dk_of I.hok ho
  have l1 : kvs.length = ws.length := Paired.length rel
  have l2 : more.length = ws2.length := Paired.length rel2
  have l3 := length_mergeK more kvs
  refine call_meetsIn PySem.F.slot_dict_update dd.typeIs PySem.F.entry_dict_update (PySem.F.args_dict_update_2 _ _) (meets_dict_update (mixKind X.prog X.w) d o ne hS2) ⟨ws, ws2, dd, dd2, by rw [sizeLine_eq]; omega, fun h' d1 d2 sb => ?_⟩
  have he : ∃ q, h'.get? d = some q := let ⟨q, _, _, hq, _⟩ := d1; ⟨q, hq⟩
  exact ⟨.non, _, d_write (t' := s.toks) I (by rw [hd]; exact True.intro) sb he (dk_new (by rw [sizeLine_eq]; omega) hS (KV.merge rel2 rel) d1), rfl, q⟩
noncomputable def CompD (g : TG) (tt : TT) (te : TE) (σ0 : St) (Q : VK) : VK := fun x H1 => ∃ a kvs, x = .ref a ∧ H1 a = some (.dK kvs) ∧ ∀ o, CompW g tt te σ0 Q (Itd a o kvs) (upd H1 a (.frz o (.dK kvs)))
section
variable {k : Nat} {fm : List Nat} {tl te : TE} {g : TG} {tt : TT} {σ σ0 : St} {H H1 : Hp} {Q : VK}
theorem tComp_dict : tComp k fm (iDict tl) g tt te σ H Q = tl σ H (CompD g tt te (blkSt k fm σ) Q) := rfl
theorem CompD.of {a : Addr} {kvs : List (Key × V)} (hz : kvs.length < sizeLine) (hx : H1 a = some (.dK kvs)) (Pv : Obj → Addr → Nat → List V → Hp → Prop) (h0 : ∀ o D, H1 D = none → Pv o D 0 [] (upd (upd H1 a (.frz o (.dK kvs))) D (.lst [])))
    (hl : ∀ o D i ys H', H1 D = none → i ≤ kvs.length → Pv o D i ys H' → H' a = some (.frz o (.dK kvs)) ∧ H' D = some (.lst ys) ∧ ys.length ≤ i)
    (hs : ∀ o D i p ys H', H1 D = none → kvs[i]? = some p → Pv o D i ys H' → g (kV p.1) σ0 H' fun σ3 H4 => Ext σ0 σ3 ∧ tt σ3 H4 fun b H5 => if b = true then te σ3 H5 fun y H6 => H6 D = some (.lst ys) ∧ Pv o D (i + 1) (ys ++ [y]) (upd H6 D (.lst (ys ++ [y]))) else Pv o D (i + 1) ys H5)
    (hd : ∀ o D ys H', H1 D = none → Pv o D kvs.length ys H' → Q (.ref D) H') : CompD g tt te σ0 Q (.ref a) H1 := by
  refine ⟨a, kvs, rfl, hx, fun o D hD0 => ?_⟩
  have nD : D ≠ a := fun e => by rw [e, upd_same] at hD0; cases hD0
  have hD : H1 D = none := by rwa [upd_ne nD] at hD0
  refine ⟨fun i m ys H => m = kvs.length - i ∧ i ≤ kvs.length ∧ Pv o D i ys H, ⟨kvs.length, by simp, Nat.zero_le _, h0 o D hD⟩, ?_⟩
  rintro i m ys H2 ⟨rfl, hi, p⟩
  obtain ⟨l0, l1, l2⟩ := hl o D i ys H2 hD hi p
  refine ⟨l1, by omega, ?_⟩
  by_cases hlt : i < kvs.length
  · refine .inr ⟨⟨l0, kvs[i], by simp [hlt]⟩, Pv o D (i + 1), fun ys' H' p' => ⟨_, (by omega : kvs.length - (i + 1) < kvs.length - i), rfl, hlt, p'⟩, fun x H3 y => ?_⟩
    obtain ⟨rfl, u, hu, rfl⟩ := y
    exact hs o D i u ys _ hD hu p
  · have e : i = kvs.length := by omega
    subst e
    exact .inl ⟨⟨l0, Nat.le_refl _⟩, hd o D ys H2 hD p⟩
end
noncomputable def iDictR (te : TE) : TI := fun σ H R => te σ H fun x H1 => ∃ a kvs, x = .ref a ∧ Rd H1 a (.dK kvs) ∧ ∀ o H2, H2 a = some (.frz o (.dK kvs)) → (∀ b, b ≠ a → H2 b = H1 b) → R (Itd a o kvs) H2
theorem pi_dictR {l : Expr} {tl : TE} (hl : PE X l tl) : PI X tg l (iDictR tl) := by
  intro pins s σ H R I h
  refine thn (hl pins s σ H _ I h) fun v s1 ⟨x, H1, I1, r1, q1⟩ => ?_
  obtain ⟨a, kvs, e, hq, q⟩ := q1
  subst e
  cases r1
  obtain ⟨o, vs, ep, ho, hS, rel, kd, H2, e1, e2, I2⟩ : ∃ (o : Obj) (vs : List (Key × Value)) (ep : Nat), s1.heap.get? a = some o ∧ (a == sysModules) = false ∧ KV kvs vs ∧ PySem.W.KdkAt (mixKind X.prog X.w) o vs ep ∧ ∃ H2 : Hp, H2 a = some (.frz o (.dK kvs)) ∧ (∀ b, b ≠ a → H2 b = H1 b) ∧ Inv X pins σ H2 s1 := by
    rcases hq with hq | ⟨o, hq⟩
    · obtain ⟨o, vs, ep, ho, hS, rel, kd, I2⟩ := I1.freeze hq
      exact ⟨o, vs, ep, ho, hS, rel, kd, _, upd_same, fun b hb => upd_ne hb, I2⟩
    · obtain ⟨e0, z, hS, vs, rel, dd⟩ := (show ObjOk X.prog X.w H1 s1.heap a (.frz o (.dK kvs)) from I1.hok a _ hq)
      obtain ⟨ep, o2, es, ho, r⟩ := dd.dictAt
      rw [e0] at ho
      cases ho
      exact ⟨o, vs, ep, e0, hS, rel, ⟨es, r⟩, H1, hq, fun _ _ => rfl, I1⟩
  refine wpAny_pyIter_dict hS (PySem.W.KdkAt.dictAt kd ho) ?_
  refine ⟨s1.heap.objs.size, [s1.heap.objs.size], _, _, _, rfl, I2.kept (t' := s1.toks) fun b o e => Heap.get?_push_of_some _ e, turn_dict rel kd, ⟨_, Heap.get?_push_size _ rfl, rfl, rfl⟩, fun b hb => ?_, q o H2 e1 e2⟩
  have e : b = s1.heap.objs.size := by simpa using hb
  subst e
  exact I2.fpOk (Nat.le_refl _) (I2.hok.fresh (Nat.le_refl _))
noncomputable def ForDR (g : TG) (tb : TS) (D : Ends) (σ : St) : VK := fun x H1 => ∃ a kvs, x = .ref a ∧ Rd H1 a (.dK kvs) ∧ ∀ o H2, H2 a = some (.frz o (.dK kvs)) → (∀ b, b ≠ a → H2 b = H1 b) → ForW g tb D σ (Itd a o kvs) H2
section
variable {te : TE} {g : TG} {tb : TS} {D : Ends} {σ : St} {H : Hp}
theorem tFor_dictR : tFor (iDictR te) g tb D σ H = te σ H (ForDR g tb D σ) := rfl
theorem ForDR.of {a : Addr} {kvs : List (Key × V)} (hd : Rd H a (.dK kvs)) (Pv : Obj → Nat → St → Hp → Prop) (h0 : ∀ o H2, H2 a = some (.frz o (.dK kvs)) → (∀ b, b ≠ a → H2 b = H b) → Pv o 0 σ H2) (hl : ∀ o i σ H, i ≤ kvs.length → Pv o i σ H → H a = some (.frz o (.dK kvs)))
    (hs : ∀ o i p σ H, kvs[i]? = some p → Pv o i σ H → g (kV p.1) σ H fun σ2 H2 => tb { D with nx := Pv o (i + 1), ct := Pv o (i + 1), bk := D.nx } σ2 H2) (he : ∀ o σ H, Pv o kvs.length σ H → D.nx σ H) : ForDR g tb D σ (.ref a) H := by
  refine ⟨a, kvs, rfl, hd, fun o H2 e1 e2 => ⟨fun i m σ H => m = kvs.length - i ∧ i ≤ kvs.length ∧ Pv o i σ H, ⟨kvs.length, by simp, Nat.zero_le _, h0 o H2 e1 e2⟩, ?_⟩⟩
  rintro i m σ H ⟨rfl, hi, p⟩
  have q := hl o i σ H hi p
  by_cases hlt : i < kvs.length
  · refine .inr ⟨⟨q, kvs[i], by simp [hlt]⟩, Pv o (i + 1), fun σ' H' p' => ⟨kvs.length - (i + 1), by omega, rfl, hlt, p'⟩, fun x H' y => ?_⟩
    obtain ⟨rfl, u, hu, rfl⟩ := y
    exact hs o i u σ _ hu p
  · have e : i = kvs.length := by omega
    subst e
    exact .inl ⟨⟨q, Nat.le_refl _⟩, he o σ H p⟩
end
theorem call_lenR : CallR X (.builtin "len") (fun xs H Q => ∃ a kvs, xs = [V.ref a] ∧ Rd H a (.dK kvs) ∧ Q (.int kvs.length) H) := by
  intro pins s σ H xs us Q I r h
  obtain ⟨a, kvs, rfl, hq, q⟩ := h
  obtain ⟨u, rfl, rx⟩ := vals1 r
  cases rx
  obtain ⟨z, hS, vs, rel, dd⟩ := dk_rd I.hok hq
  have hl : kvs.length = vs.length := Paired.length rel
  have hn := line63
  refine call_len_dict hS dd (by omega) ⟨.int kvs.length, H, I.tok _, ⟨s.toks + 1, by rw [hl]⟩, q⟩
end
end L2

set_option maxHeartbeats 0
set_option pp.deepTerms true
set_option pp.maxSteps 100000
namespace My
open PySem PySem.Spec PyProof.Rows L2
noncomputable def top (i : Nat) : Stmt := PySem.Challenge.pw_joinload_k16_what_names_stand_for.main.body.getD i (.Pass ⟨0, 0, 0, 0⟩)
noncomputable abbrev s_names_of : Stmt := top 4
noncomputable abbrev s_refuse_twice : Stmt := top 5
noncomputable abbrev s_places_told : Stmt := top 6
noncomputable abbrev s__law_cell_at : Stmt := top 8
noncomputable abbrev s__law_name_by : Stmt := top 9
noncomputable abbrev s__law_word_row : Stmt := top 10
noncomputable abbrev s__law_told_by : Stmt := top 11
noncomputable abbrev s__law_drawn : Stmt := top 12
noncomputable abbrev s__law_copy : Stmt := top 13
noncomputable abbrev s__law_whole : Stmt := top 14
noncomputable abbrev s__law_spot : Stmt := top 15
noncomputable abbrev s__law_due : Stmt := top 16
noncomputable abbrev s__law_alike : Stmt := top 17
noncomputable abbrev s_law : Stmt := top 18
theorem bt_bool : bootBuiltins "bool" = some (.type "bool") := by decide +kernel
theorem bt_dict : bootBuiltins "dict" = some (.type "dict") := by decide +kernel
theorem bt_int : bootBuiltins "int" = some (.type "int") := by decide +kernel
theorem bt_isinstance : bootBuiltins "isinstance" = some (.builtin "isinstance") := by decide +kernel
theorem bt_len : bootBuiltins "len" = some (.builtin "len") := by decide +kernel
theorem bt_list : bootBuiltins "list" = some (.type "list") := by decide +kernel
theorem bt_str : bootBuiltins "str" = some (.type "str") := by decide +kernel
theorem bt_tuple : bootBuiltins "tuple" = some (.type "tuple") := by decide +kernel
theorem relT {n : String} : RelV (.ty n) (.type n) := rfl
set_option genInjectivity false in
structure Ad where
  names_of : Addr
  fd_names_of : FuncData
  refuse_twice : Addr
  fd_refuse_twice : FuncData
  places_told : Addr
  fd_places_told : FuncData
  _law_cell_at : Addr
  fd__law_cell_at : FuncData
  _law_name_by : Addr
  fd__law_name_by : FuncData
  _law_word_row : Addr
  fd__law_word_row : FuncData
  _law_told_by : Addr
  fd__law_told_by : FuncData
  _law_drawn : Addr
  fd__law_drawn : FuncData
  _law_copy : Addr
  fd__law_copy : FuncData
  _law_whole : Addr
  fd__law_whole : FuncData
  _law_spot : Addr
  fd__law_spot : FuncData
  _law_due : Addr
  fd__law_due : FuncData
  _law_alike : Addr
  fd__law_alike : FuncData
  law : Addr
  fd_law : FuncData
  tb_names_of : Addr
set_option genInjectivity false in
structure Txt (K : PySem.W.Frag) (mg : Str → Option Value) (A : Ad) : Prop where
  m_names_of : mg "names_of" = some (.ref A.names_of)
  k_names_of : PySem.W.keepIn K (.ref A.names_of) = true
  b_names_of : Binds K A.fd_names_of ["pieces"] []
  F_names_of : Fun K "names_of" "names_of" s_names_of A.names_of A.fd_names_of
  m_refuse_twice : mg "refuse_twice" = some (.ref A.refuse_twice)
  k_refuse_twice : PySem.W.keepIn K (.ref A.refuse_twice) = true
  b_refuse_twice : Binds K A.fd_refuse_twice ["ordered"] []
  F_refuse_twice : Fun K "refuse_twice" "refuse_twice" s_refuse_twice A.refuse_twice A.fd_refuse_twice
  m_places_told : mg "places_told" = some (.ref A.places_told)
  k_places_told : PySem.W.keepIn K (.ref A.places_told) = true
  b_places_told : Binds K A.fd_places_told ["piece", "told_by"] []
  F_places_told : Fun K "places_told" "places_told" s_places_told A.places_told A.fd_places_told
  m__law_cell_at : mg "_law_cell_at" = some (.ref A._law_cell_at)
  k__law_cell_at : PySem.W.keepIn K (.ref A._law_cell_at) = true
  b__law_cell_at : Binds K A.fd__law_cell_at ["_law_script", "_law_k"] []
  F__law_cell_at : Fun K "_law_cell_at" "_law_cell_at" s__law_cell_at A._law_cell_at A.fd__law_cell_at
  m__law_name_by : mg "_law_name_by" = some (.ref A._law_name_by)
  k__law_name_by : PySem.W.keepIn K (.ref A._law_name_by) = true
  b__law_name_by : Binds K A.fd__law_name_by ["_law_cell", "_law_k"] []
  F__law_name_by : Fun K "_law_name_by" "_law_name_by" s__law_name_by A._law_name_by A.fd__law_name_by
  m__law_word_row : mg "_law_word_row" = some (.ref A._law_word_row)
  k__law_word_row : PySem.W.keepIn K (.ref A._law_word_row) = true
  b__law_word_row : Binds K A.fd__law_word_row ["_law_cell", "_law_names_by"] []
  F__law_word_row : Fun K "_law_word_row" "_law_word_row" s__law_word_row A._law_word_row A.fd__law_word_row
  m__law_told_by : mg "_law_told_by" = some (.ref A._law_told_by)
  k__law_told_by : PySem.W.keepIn K (.ref A._law_told_by) = true
  b__law_told_by : Binds K A.fd__law_told_by ["_law_pieces", "_law_cell", "_law_names_by", "_law_strict"] []
  F__law_told_by : Fun K "_law_told_by" "_law_told_by" s__law_told_by A._law_told_by A.fd__law_told_by
  m__law_drawn : mg "_law_drawn" = some (.ref A._law_drawn)
  k__law_drawn : PySem.W.keepIn K (.ref A._law_drawn) = true
  b__law_drawn : Binds K A.fd__law_drawn ["_law_cells", "_law_names_by", "_law_titles_by", "_law_strict"] []
  F__law_drawn : Fun K "_law_drawn" "_law_drawn" s__law_drawn A._law_drawn A.fd__law_drawn
  m__law_copy : mg "_law_copy" = some (.ref A._law_copy)
  k__law_copy : PySem.W.keepIn K (.ref A._law_copy) = true
  b__law_copy : Binds K A.fd__law_copy ["_law_piece"] []
  F__law_copy : Fun K "_law_copy" "_law_copy" s__law_copy A._law_copy A.fd__law_copy
  m__law_whole : mg "_law_whole" = some (.ref A._law_whole)
  k__law_whole : PySem.W.keepIn K (.ref A._law_whole) = true
  b__law_whole : Binds K A.fd__law_whole ["_law_found"] []
  F__law_whole : Fun K "_law_whole" "_law_whole" s__law_whole A._law_whole A.fd__law_whole
  m__law_spot : mg "_law_spot" = some (.ref A._law_spot)
  k__law_spot : PySem.W.keepIn K (.ref A._law_spot) = true
  b__law_spot : Binds K A.fd__law_spot ["_law_found", "_law_due_here"] []
  F__law_spot : Fun K "_law_spot" "_law_spot" s__law_spot A._law_spot A.fd__law_spot
  m__law_due : mg "_law_due" = some (.ref A._law_due)
  k__law_due : PySem.W.keepIn K (.ref A._law_due) = true
  b__law_due : Binds K A.fd__law_due ["_law_pieces"] []
  F__law_due : Fun K "_law_due" "_law_due" s__law_due A._law_due A.fd__law_due
  m__law_alike : mg "_law_alike" = some (.ref A._law_alike)
  k__law_alike : PySem.W.keepIn K (.ref A._law_alike) = true
  b__law_alike : Binds K A.fd__law_alike ["_law_found", "_law_due_here"] []
  F__law_alike : Fun K "_law_alike" "_law_alike" s__law_alike A._law_alike A.fd__law_alike
  m_law : mg "law" = some (.ref A.law)
  k_law : PySem.W.keepIn K (.ref A.law) = true
  b_law : Binds K A.fd_law ["_law_script"] []
  F_law : Fun K "law" "law" s_law A.law A.fd_law
  n_bool : mg "bool" = none
  n_dict : mg "dict" = none
  n_int : mg "int" = none
  n_isinstance : mg "isinstance" = none
  n_len : mg "len" = none
  n_list : mg "list" = none
  n_range : mg "range" = none
  n_reversed : mg "reversed" = none
  n_sorted : mg "sorted" = none
  n_str : mg "str" = none
  n_tuple : mg "tuple" = none
  bm : BMod K mg
  lm_names_of : Lam K A.fd_names_of A.tb_names_of
theorem sc_names_of : FnScope ["pieces", "ordered", "names", "sort", "piece"] ["pieces"] (defScope s_names_of) := ⟨rfl, rfl, rfl, by decide +kernel, rfl, by decide +kernel, by decide +kernel⟩
theorem sc_refuse_twice : FnScope ["ordered", "tellers", "piece", "name", "twice", "least"] ["ordered"] (defScope s_refuse_twice) := ⟨rfl, rfl, rfl, by decide +kernel, rfl, by decide +kernel, by decide +kernel⟩
theorem sc_places_told : FnScope ["piece", "told_by", "places", "name", "sort", "stretch", "offset"] ["piece", "told_by"] (defScope s_places_told) := ⟨rfl, rfl, rfl, by decide +kernel, rfl, by decide +kernel, by decide +kernel⟩
theorem sc__law_cell_at : FnScope ["_law_script", "_law_k"] ["_law_script", "_law_k"] (defScope s__law_cell_at) := ⟨rfl, rfl, rfl, by decide +kernel, rfl, by decide +kernel, by decide +kernel⟩
theorem sc__law_name_by : FnScope ["_law_cell", "_law_k", "_law_signs", "_law_size", "_law_at", "_law_name", "_law_j", "_law_many", "_law_place"] ["_law_cell", "_law_k"] (defScope s__law_name_by) := ⟨rfl, rfl, rfl, by decide +kernel, rfl, by decide +kernel, by decide +kernel⟩
theorem sc__law_word_row : FnScope ["_law_cell", "_law_names_by", "_law_what", "_law_rest", "_law_soft", "_law_add", "_law_rule"] ["_law_cell", "_law_names_by"] (defScope s__law_word_row) := ⟨rfl, rfl, rfl, by decide +kernel, rfl, by decide +kernel, by decide +kernel⟩
theorem sc__law_told_by : FnScope ["_law_pieces", "_law_cell", "_law_names_by", "_law_strict", "_law_piece", "_law_name", "_law_sort", "_law_other"] ["_law_pieces", "_law_cell", "_law_names_by", "_law_strict"] (defScope s__law_told_by) := ⟨rfl, rfl, rfl, by decide +kernel, rfl, by decide +kernel, by decide +kernel⟩
theorem sc__law_drawn : FnScope ["_law_cells", "_law_names_by", "_law_titles_by", "_law_strict", "_law_pieces", "_law_cell", "_law_what", "_law_step", "_law_stretch", "_law_more"] ["_law_cells", "_law_names_by", "_law_titles_by", "_law_strict"] (defScope s__law_drawn) := ⟨rfl, rfl, rfl, by decide +kernel, rfl, by decide +kernel, by decide +kernel⟩
theorem sc__law_copy : FnScope ["_law_piece", "_law_stretches"] ["_law_piece"] (defScope s__law_copy) := ⟨rfl, rfl, rfl, by decide +kernel, rfl, by decide +kernel, by decide +kernel⟩
theorem sc__law_whole : FnScope ["_law_found"] ["_law_found"] (defScope s__law_whole) := ⟨rfl, rfl, rfl, by decide +kernel, rfl, by decide +kernel, by decide +kernel⟩
theorem sc__law_spot : FnScope ["_law_found", "_law_due_here"] ["_law_found", "_law_due_here"] (defScope s__law_spot) := ⟨rfl, rfl, rfl, by decide +kernel, rfl, by decide +kernel, by decide +kernel⟩
theorem sc__law_due : FnScope ["_law_pieces", "_law_due_here", "_law_weak", "_law_title", "_law_stretches", "_law_told", "_law_name", "_law_sort", "_law_stretch", "_law_offset"] ["_law_pieces"] (defScope s__law_due) := ⟨rfl, rfl, rfl, by decide +kernel, rfl, by decide +kernel, by decide +kernel⟩
theorem sc__law_alike : FnScope ["_law_found", "_law_due_here", "_law_name"] ["_law_found", "_law_due_here"] (defScope s__law_alike) := ⟨rfl, rfl, rfl, by decide +kernel, rfl, by decide +kernel, by decide +kernel⟩
theorem sc_law : FnScope ["_law_script", "_law_pieces", "_law_due_here", "_law_handed", "_law_found"] ["_law_script"] (defScope s_law) := ⟨rfl, rfl, rfl, by decide +kernel, rfl, by decide +kernel, by decide +kernel⟩
theorem cK {CX P w K mg base N qual scope f cd Ar outer s H E} : (cxOf CX P w K mg base N qual scope f cd Ar outer s H E).K = K := rfl
theorem bK {X : Cx} {N' : List Str} {scope : Scope} {fp : List Addr} {s : Shared} {H : Hp} : (blk X N' scope fp s H).K = X.K := rfl
theorem atI_ex {α : Type} {xs : List α} {i : Int} (h1 : -(xs.length : Int) ≤ i) (h2 : i < xs.length) : ∃ v, atI xs i = some v ∧ v ∈ xs := by
  unfold atI ixN
  by_cases h0 : 0 ≤ i
  · have hl : i.toNat < xs.length := by omega
    refine ⟨xs[i.toNat], ?_, List.getElem_mem hl⟩
    rw [if_pos h0, if_pos h2]
    show xs[i.toNat]? = _
    rw [List.getElem?_eq_getElem hl]
  · have hl : (i + xs.length).toNat < xs.length := by omega
    refine ⟨xs[(i + xs.length).toNat], ?_, List.getElem_mem hl⟩
    rw [if_neg h0, if_pos h1]
    show xs[(i + xs.length).toNat]? = _
    rw [List.getElem?_eq_getElem hl]
/-! ### what is drawn: names, rows, pieces -/
noncomputable def isT (z : Str) : Prop := z = Str.ofString "whole" ∨ z = Str.ofString "high" ∨ z = Str.ofString "low" ∨ z = Str.ofString "near" ∨ z = Str.ofString "split"
noncomputable def isSort (z : Str) : Prop := z = Str.ofString "tell" ∨ z = Str.ofString "weak" ∨ z = Str.ofString "own"
noncomputable def isKind (z : Str) : Prop := z = Str.ofString "code" ∨ z = Str.ofString "data"
noncomputable def signs : Str := Str.ofString "abcdefghijklmnopqrstuvwxyz0123456789_"
noncomputable def sgn (i : Int) : Nat := (atI signs.cps.toList i).getD 0
noncomputable def nmSize (c k : Int) : Int := if c / 256 % 3 = 0 then 1 + k % 16 else 1 + c % 16
noncomputable def nmAt (c : Int) : Int := if c / 256 % 3 = 0 then 16 else c / 16 % (1 + c % 16)
noncomputable def nmIx (c k : Int) (j : Int) : Int := (c / (j + 3) + j * j + k * (if decide (j = nmAt c) = true then 1 else 0)) % (37 - 11 * (if decide (j = 0) = true then 1 else 0))
noncomputable def nmTo (c k : Int) (n : Nat) : Str := ⟨((List.range n).map fun j : Nat => sgn (nmIx c k j)).toArray⟩
noncomputable def nameOf (c k : Int) : Str := nmTo c k (nmSize c k).toNat
noncomputable def NmIn (c : Int) (z : Str) : Prop := ∃ k : Int, 0 ≤ k ∧ k < 12 ∧ z = nameOf c k
set_option genInjectivity false in
structure FillOk (c : Int) (n : Nat) (f : FillM) : Prop where
  rule : isT f.rule
  name : NmIn c f.name
  lo : 0 ≤ f.at_
  hi : f.at_ < n
  addlo : -2147483648 ≤ f.add
  addhi : f.add < 2147483648
  soft : f.soft = true → f.rule = Str.ofString "whole" ∨ f.rule = Str.ofString "high" ∨ f.rule = Str.ofString "low"
set_option genInjectivity false in
structure StOk (c : Int) (s : StM) : Prop where
  kind : isKind s.kind
  step : s.step = 1 ∨ s.step = 2 ∨ s.step = 4 ∨ s.step = 16 ∨ s.step = 65536
  words : ∀ i ∈ s.words, 0 ≤ i ∧ i < 4294967296
  fills : ∀ f ∈ s.fills, FillOk c s.words.length f
  asc : s.fills.Pairwise fun f g => f.at_ < g.at_
  few : s.fills.length ≤ s.words.length
set_option genInjectivity false in
structure ToldOk (c : Int) (ss : List StM) (n : ToldM) : Prop where
  name : NmIn c n.name
  sort : isSort n.sort
  at_ : ∃ (k : Nat) (s : StM), ss[k]? = some s ∧ n.st = k ∧ 0 ≤ n.off ∧ n.off ≤ s.words.length
set_option genInjectivity false in
structure PcOk (c : Int) (p : PcM) : Prop where
  sts : ∀ s ∈ p.sts, StOk c s
  nms : ∀ n ∈ p.nms, ToldOk c p.sts n
  nd : (p.nms.map ToldM.name).Nodup
noncomputable def _root_.L2.PcM.size (p : PcM) : Nat := 1 + p.sts.length + (p.sts.map fun s => s.words.length).sum + p.nms.length
set_option genInjectivity false in
structure Drawn (c t : Int) (n : Nat) (ps : List PcM) : Prop where
  ok : ∀ p ∈ ps, PcOk c p
  few : ps.length ≤ 12
  names : ps.map PcM.name = (List.range ps.length).map fun i : Nat => nameOf t i
  size : (ps.map PcM.size).sum ≤ n
  tw : ps.Pairwise fun p q => ∀ x ∈ p.nms, ∀ y ∈ q.nms, x.sort = Str.ofString "tell" → y.sort = Str.ofString "tell" → x.name ≠ y.name
set_option genInjectivity false in
structure DC (H0 : Hp) (a L : Addr) (c t v : Int) (i : Nat) (ps : List PcM) (σ : L2.St) (H : Hp) : Prop where
  st : ∃ b7 b8 b9, σ = [some (V.ref a), some (V.int c), some (V.int t), some (V.bl false), some (V.ref L), some (V.int v), some (V.int (v % 9)), b7, b8, b9]
  same : Same H0 H
  pcs : Pcs H L ps
  new : ∀ b ∈ L :: listsOf ps, H0 b = none
  dr : Drawn c t i ps
  lt : i < 61
theorem DC.mono {H0 : Hp} {a L : Addr} {c t v : Int} {i : Nat} {ps : List PcM} {σ : L2.St} {H H' : Hp} (d : DC H0 a L c t v i ps σ H) (e : Same H H') : DC H0 a L c t v i ps σ H' := ⟨d.st, d.same.trans e, d.pcs.mono e, d.new, d.dr, d.lt⟩
noncomputable def DN (H0 : Hp) (a L : Addr) (c t : Int) (i : Nat) (D : Ends) : Prop := ∀ ps σ H, (∃ b5 b6 b7 b8 b9, σ = [some (V.ref a), some (V.int c), some (V.int t), some (V.bl false), some (V.ref L), b5, b6, b7, b8, b9]) → Same H0 H → Pcs H L ps → (∀ b ∈ L :: listsOf ps, H0 b = none) → Drawn c t (i + 1) ps → D.nx σ H
noncomputable def dB1 : TS := fun D σ H => ∃ H0 a L c t v i ps, DC H0 a L c t v i ps σ H ∧ ps.length < 12 ∧ DN H0 a L c t i D
noncomputable def dB2 : TS := fun D σ H => ∃ H0 a L c t v i ps p, DC H0 a L c t v i (ps ++ [p]) σ H ∧ DN H0 a L c t i D
noncomputable def dB3 : TS := fun D σ H => ∃ H0 a L c t v i ps p ss s, DC H0 a L c t v i (ps ++ [p]) σ H ∧ p.sts = ss ++ [s] ∧ DN H0 a L c t i D
noncomputable def dB4 : TS := fun D σ H => ∃ H0 a L c t v i ps p ss s, DC H0 a L c t v i (ps ++ [p]) σ H ∧ p.sts = ss ++ [s] ∧ DN H0 a L c t i D
noncomputable def dT1 : TT := fun σ H R => ∃ H0 a L c t v i ps, DC H0 a L c t v i ps σ H ∧ ∀ (b : Bool) H', Same H H' → (b = true → ps.length < 12) → (b = false → ps ≠ []) → R b H'
noncomputable def dT2 : TT := fun σ H R => ∃ H0 a L c t v i ps p, DC H0 a L c t v i (ps ++ [p]) σ H ∧ ∀ (b : Bool) H', Same H H' → (b = false → p.sts ≠ []) → R b H'
noncomputable def sp_cellat (K : PySem.W.Frag) : Sp := fun vs H Q _ => ∃ (a : Addr) (ns : List Int) (k : Int), vs = [.ref a, .int k] ∧ SqL K H a (ns.map V.int) ∧ ns.length ≤ 63 ∧ 0 ≤ k ∧ ∀ i : Int, Q (.int i) H
noncomputable def sp_nameby : Sp := fun vs H Q _ => ∃ c k : Int, vs = [.int c, .int k] ∧ Q (.str (nameOf c k)) H
noncomputable def sp_wordrow : Sp := fun vs H Q _ => ∃ c n : Int, vs = [.int c, .int n] ∧ ∀ H', Same H H' → Q .non H' ∧ ∀ f : FillM, FillOk n 1 { f with at_ := 0 } → H' f.a = some (.tup [.str f.rule, .str f.name, .int f.add, .bl f.soft]) → H f.a = none → Q (.ref f.a) H'
noncomputable def sp_toldby (K : PySem.W.Frag) : Sp := fun vs H Q _ => ∃ (L : Addr) (c n : Int) (ps : List PcM) (p : PcM) (ss : List StM) (s : StM), vs = [.ref L, .int c, .int n, .bl false] ∧ Pcs H L (ps ++ [p]) ∧ p.sts = ss ++ [s] ∧ ps.length ≤ 12 ∧ p.nms.length ≤ 61 ∧ p.sts.length ≤ 61 ∧ s.words.length ≤ 61 ∧ (∀ q ∈ ps, q.nms.length ≤ 61) ∧
  (∀ H', Same H H' → Q .non H') ∧ ∀ (m : ToldM) (H' : Hp), Same H H' → m.At H' → NmIn n m.name → m.name ∉ p.nms.map ToldM.name → isSort m.sort → m.st = ss.length → m.off = s.words.length → (m.sort = Str.ofString "tell" → ∀ q ∈ ps, ∀ x ∈ q.nms, x.sort = Str.ofString "tell" → x.name ≠ m.name) → Q .non (upd H' p.ln (.lst (p.nms.map ToldM.v ++ [m.v])))
noncomputable def sp_drawn (K : PySem.W.Frag) : Sp := fun vs H Q _ => ∃ (a : Addr) (ns : List Int) (c t : Int), vs = [.ref a, .int c, .int t, .bl false] ∧ SqL K H a (ns.map V.int) ∧ ns.length ≤ 61 ∧ ∀ (L : Addr) (ps : List PcM) (H' : Hp), Same H H' → Pcs H' L ps → (∀ b ∈ L :: listsOf ps, H b = none) → Drawn c t ns.length ps → Q (.ref L) H'
noncomputable def sp_copy (K : PySem.W.Frag) : Sp := fun vs H Q _ => ∃ p : PcM, vs = [p.v] ∧ p.At H ∧ p.sts.length ≤ 61 ∧ p.nms.length ≤ 62 ∧ (∀ s ∈ p.sts, s.words.length ≤ 61 ∧ s.fills.length ≤ 61) ∧ ∀ (q : PcM) (H' : Hp), Same H H' → q.At H' → p.Copy q → (∀ b ∈ q.lists, H b = none) → q.lists.Nodup → Q q.v H'

/-! ### tables: dicts from names to (piece name, stretch, offset) -/
set_option genInjectivity false in
structure TabM where
  name : Str
  t : Addr
  a : Str
  b : Int
  c : Int
noncomputable def TabM.kv (m : TabM) : Key × V := (.inr m.name, .ref m.t)
noncomputable def TabM.At (H : Hp) (m : TabM) : Prop := H m.t = some (.tup [.str m.a, .int m.b, .int m.c])
set_option genInjectivity false in
structure Tab (H : Hp) (d : Addr) (ms : List TabM) : Prop where
  top : H d = some (.dK (ms.map TabM.kv))
  at_ : ∀ m ∈ ms, TabM.At H m
noncomputable def lookT (ms : List TabM) (z : Str) : Option TabM := ms.find? fun m => decide (m.name = z)
noncomputable def putT (ms : List TabM) (m : TabM) : List TabM := if (ms.any fun n => decide (n.name = m.name)) = true then ms.map (fun n => if n.name = m.name then m else n) else ms ++ [m]
theorem valT (ms : List TabM) (z : Str) : valV (ms.map TabM.kv) (.inr z) = (lookT ms z).map fun m => V.ref m.t := by
  unfold valV lookT
  rw [List.find?_map, Option.map_map]
  congr 1
  congr 1
  funext m
  simp [TabM.kv]
theorem any_kv (ms : List TabM) (z : Str) : ((ms.map TabM.kv).any fun kv => decide (kv.1 = (.inr z : Key))) = ms.any fun n => decide (n.name = z) := by
  rw [List.any_map]
  congr 1
  funext m
  simp [TabM.kv]
theorem putK_T (ms : List TabM) (m : TabM) : putK (ms.map TabM.kv) (.inr m.name) (.ref m.t) = (putT ms m).map TabM.kv := by
  unfold putK putT
  rw [any_kv]
  by_cases h : (ms.any fun n => decide (n.name = m.name)) = true
  · rw [if_pos h, if_pos h, List.map_map, List.map_map]
    congr 1
    funext n
    by_cases e : n.name = m.name
    · simp [TabM.kv, e]
    · simp [TabM.kv, e]
  · rw [if_neg h, if_neg h, List.map_append]; rfl
theorem putT_mem {ms : List TabM} {m n : TabM} (h : n ∈ putT ms m) : n ∈ ms ∨ n = m := by
  unfold putT at h
  split at h
  · obtain ⟨x, hx, e⟩ := List.mem_map.mp h
    split at e
    · exact .inr e.symm
    · exact .inl (e ▸ hx)
  · rcases List.mem_append.mp h with z | z
    · exact .inl z
    · exact .inr (List.mem_singleton.mp z)
theorem putT_len {ms : List TabM} {m : TabM} : (putT ms m).length ≤ ms.length + 1 := by
  unfold putT
  split
  · rw [List.length_map]; omega
  · rw [List.length_append]; simp
theorem putT_new {ms : List TabM} {m : TabM} (h : m.name ∉ ms.map TabM.name) : putT ms m = ms ++ [m] := by
  unfold putT
  rw [if_neg]
  intro z
  obtain ⟨n, hn, e⟩ := List.any_eq_true.mp z
  exact h (List.mem_map.mpr ⟨n, hn, of_decide_eq_true e⟩)
theorem Tab.mono {H H' : Hp} {d : Addr} {ms : List TabM} (h : Tab H d ms) (e : Same H H') : Tab H' d ms := ⟨e _ _ h.top, fun m hm => e _ _ (h.at_ m hm)⟩
theorem Tab.put {H : Hp} {d : Addr} {ms : List TabM} {m : TabM} (h : Tab H d ms) (hm : TabM.At H m) : Tab (upd H d (.dK (putK (ms.map TabM.kv) (.inr m.name) (.ref m.t)))) d (putT ms m) := by
  refine ⟨by rw [upd_same, putK_T], fun n hn => ?_⟩
  have tup : ∀ n : TabM, TabM.At H n → TabM.At (upd H d (.dK (putK (ms.map TabM.kv) (.inr m.name) (.ref m.t)))) n := fun n hn => by
    unfold TabM.At
    rw [upd_ne (ne_of hn h.top (by intro z; cases z))]
    exact hn
  rcases putT_mem hn with z | z
  · exact tup n (h.at_ n z)
  · rw [z]; exact tup m hm
noncomputable def sp_places : Sp := fun vs H Q _ => ∃ (p : PcM) (z : Str), vs = [p.v, .str z] ∧ p.At H ∧ p.nms.length ≤ 61 ∧ (p.nms.map ToldM.name).Nodup ∧
  ∀ d ms H', Same H H' → Tab H' d ms → ms.map (fun m => (m.name, m.a, m.b, m.c)) = (p.nms.filter fun n => decide (n.sort = z)).map (fun n => (n.name, p.name, n.st, n.off)) → H d = none → Q (.ref d) H'

set_option genInjectivity false in
structure PL (H : Hp) (L : Addr) (ps : List PcM) : Prop where
  top : H L = some (.lst (ps.map PcM.v))
  at_ : ∀ p ∈ ps, p.At H
noncomputable def sTell : Str := Str.ofString "tell"
noncomputable def sWeak : Str := Str.ofString "weak"
noncomputable def rowsN (ps : List PcM) : List (Str × ToldM) := ps.flatMap fun p => p.nms.map fun n => (p.name, n)
noncomputable def rvl (r : Str × ToldM) : Str × Int × Int := (r.1, r.2.st, r.2.off)
noncomputable def TabM.vl (m : TabM) : Str × Int × Int := (m.a, m.b, m.c)
noncomputable def leN (a b : Str) : Prop := ¬ b.cps.toList < a.cps.toList
set_option genInjectivity false in
structure NmOk (R : List (Str × ToldM)) (ms : List TabM) : Prop where
  nd : (ms.map TabM.name).Nodup
  som : ∀ z m, lookT ms z = some m → (∃ r ∈ R, r.2.name = z ∧ r.2.sort = sTell ∧ TabM.vl m = rvl r) ∨ ((∀ r ∈ R, r.2.name = z → r.2.sort ≠ sTell) ∧ ∃ r ∈ R, r.2.name = z ∧ r.2.sort = sWeak ∧ TabM.vl m = rvl r ∧ ∀ r' ∈ R, r'.2.name = z → r'.2.sort = sWeak → leN r.1 r'.1)
  non : ∀ z, lookT ms z = none → ∀ r ∈ R, r.2.name = z → r.2.sort ≠ sTell ∧ r.2.sort ≠ sWeak
set_option genInjectivity false in
structure PsN (ps : List PcM) : Prop where
  few : ps.length ≤ 12
  nd : (ps.map PcM.name).Nodup
  nms : ∀ p ∈ ps, p.nms.length ≤ 61 ∧ (p.nms.map ToldM.name).Nodup
  tw : ps.Pairwise fun p q => ∀ x ∈ p.nms, ∀ y ∈ q.nms, x.sort = sTell → y.sort = sTell → x.name ≠ y.name
noncomputable def sp_twiceN : Sp := fun vs H Q _ => ∃ (L : Addr) (ps : List PcM), vs = [.ref L] ∧ PL H L ps ∧ PsN ps ∧ ∀ H', Same H H' → Q .non H'
noncomputable def lamP : Pos := ⟨13, 33, 13, 55⟩
noncomputable def lamQ : Str := (Str.ofString "names_of" ++ Str.ofString ".<locals>.") ++ Str.ofString "<lambda>"
noncomputable def sp_namesof (A : Ad) : Sp := fun vs H Q _ => ∃ (L : Addr) (ps : List PcM), vs = [.ref L] ∧ PL H L ps ∧ PsN ps ∧ TbOk A.tb_names_of lamP lamQ H ∧
  ∀ (d : Addr) (ms : List TabM) (H' : Hp), SameX A.tb_names_of H H' → TbOk A.tb_names_of lamP lamQ H' → Tab H' d ms → NmOk (rowsN ps) ms → H d = none → Q (.ref d) H'

noncomputable def sp_whole : Sp := fun vs H Q _ => ∃ n : Int, vs = [.int n] ∧ Q (.bl true) H
set_option genInjectivity false in
structure TabR (H : Hp) (d : Addr) (ms : List TabM) : Prop where
  top : Rd H d (.dK (ms.map TabM.kv))
  at_ : ∀ m ∈ ms, TabM.At H m
noncomputable def CpB (p : PcM) : Prop := p.sts.length ≤ 61 ∧ p.nms.length ≤ 62 ∧ ∀ s ∈ p.sts, s.words.length ≤ 61 ∧ s.fills.length ≤ 61
noncomputable def lB (A : Ad) : TS := fun D σ H => ∃ (sc L : Addr) (ps : List PcM), σ = [some (.ref sc), some (.ref L), none, none, none] ∧ PL H L ps ∧ PsN ps ∧ (∀ p ∈ ps, CpB p) ∧ TbOk A.tb_names_of lamP lamQ H ∧ ∀ H', D.rt (.bl true) H'
noncomputable def sp_spot : Sp := fun vs H Q _ => ∃ (a b : Addr) (x : Str × Int × Int), vs = [.ref a, .ref b] ∧ H a = some (.tup [.str x.1, .int x.2.1, .int x.2.2]) ∧ H b = some (.tup [.str x.1, .int x.2.1, .int x.2.2]) ∧ Q (.bl true) H
noncomputable def sp_due : Sp := fun vs H Q _ => ∃ (L : Addr) (ps : List PcM), vs = [.ref L] ∧ PL H L ps ∧ PsN ps ∧ ∀ (d : Addr) (ms : List TabM) (H' : Hp), Same H H' → Tab H' d ms → NmOk (rowsN ps) ms → H d = none → Q (.ref d) H'
noncomputable def sp_alike : Sp := fun vs H Q _ => ∃ (a b : Addr) (ms ns : List TabM) (ps : List PcM), vs = [.ref a, .ref b] ∧ Tab H a ms ∧ TabR H b ns ∧ a ≠ b ∧ PsN ps ∧ NmOk (rowsN ps) ms ∧ NmOk (rowsN ps) ns ∧ ∀ H', (∀ x o, x ≠ b → H x = some o → H' x = some o) → TabR H' b ns → Q (.bl true) H'
noncomputable def sp_law (K : PySem.W.Frag) (tb : Addr) : Sp := fun vs H Q _ => ∃ (a : Addr) (ns : List Int), vs = [.ref a] ∧ SqL K H a (ns.map V.int) ∧ ns.length ≤ 63 ∧ H tb = some (.tbl #[]) ∧ ∀ H', Q (.bl true) H'
local macro_rules | `(tactic| walk_at "rdd") => `(tactic| (try dsimp only [tSeq, tAsg, gName, tC, tOp, tUn, tVar, tRet, tIfS, tOr, tAnd, tNot, tTest, tB, tChain, tCB, tCons, tNil, tCall, tSl, tNoPart, tPart, tNext, tDrop, tLst, tTup, tYes, tNotV, tAndV, tOrV, L2.start, List.set, List.map, List.length, List.replicate, List.cons_append, List.nil_append, List.append_nil, cK, bK, rI0, rI, rU, rIxS, rIxL, rIxT, tRetN, rSlL, rIn, rCatT, gTup, gCons, gNil, tRaiseI, tXInit, tDGet, tDGet1, tDGet2, tDIn, tDNotIn, sDPut, tDNewK, rDictOf, rEqDict, rCount, tCompX_list, xCall, sXFld, tXFld, rSlS, rEq, rNe, sc0, sc1, sc2, sc3, sc4, sc5, sc6, sc7, sc8, sc9, sc10, sc11, sc12, sc13, rCatS, rIsi, LenV, rAll, tFor_list, tFor_tup, tFor_str, tFor_rng1, tFor_rng2, tComp_list, tComp_tup, tComp_str, tComp_rng1, blkSt, tBM, rAppend, rStarts, rIndex, tIf, tMake, tMeth, sFld, tFld, tRepr, tFmt, jNil, jCons, tJoined, rJoin, rIsx, rIst, tRaise, tTryAs, tTry0, un1, xMeth, xDrop, xSet, xRet, xOf, xSeq, List.getElem?_cons_zero, List.getElem?_cons_succ, Option.some.injEq, V.int.injEq, V.str.injEq, V.bl.injEq, V.ref.injEq, V.ty.injEq, List.cons.injEq, exists_eq_left', exists_eq_left, exists_eq', and_assoc, if_true, if_false, Bool.not_false, Bool.not_true, Bool.not_not, Bool.false_eq_true, exists_and_left, and_true, true_and, List.set_cons_zero, List.set_cons_succ, Option.join_some, false_and, or_false, false_or, exists_false, sp_cellat, sp_nameby, sp_wordrow, sp_toldby, sp_drawn, sp_copy, sp_places, sp_twiceN, sp_namesof, sp_whole, sp_spot, sp_due, sp_alike, rSlT, rInD, rUpdD, tFor_rev, tFor_dict, tFor_dictR, tComp_dict, tSortL, tDSd, tLRev, Ends.nx, Nat.reduceSub, Nat.reduceAdd]))
local macro_rules | `(tactic| walk_at "rd") => `(tactic| (walk_at "rdd"; (try simp only [tSeq, tAsg, gName, tC, tOp, tUn, tVar, tRet, tIfS, tOr, tAnd, tNot, tTest, tB, tChain, tCB, tCons, tNil, tCall, tSl, tNoPart, tPart, tNext, tDrop, tLst, tTup, tYes, tNotV, tAndV, tOrV, L2.start, List.set, List.map, List.length, List.replicate, List.cons_append, List.nil_append, List.append_nil, cK, bK, rI0, rI, rU, rIxS, rIxL, rIxT, tRetN, rSlL, rIn, rCatT, gTup, gCons, gNil, tRaiseI, tXInit, tDGet, tDGet1, tDGet2, tDIn, tDNotIn, sDPut, tDNewK, rDictOf, rEqDict, rCount, tCompX_list, xCall, sXFld, tXFld, rSlS, rEq, rNe, sc0, sc1, sc2, sc3, sc4, sc5, sc6, sc7, sc8, sc9, sc10, sc11, sc12, sc13, rCatS, rIsi, LenV, rAll, tFor_list, tFor_tup, tFor_str, tFor_rng1, tFor_rng2, tComp_list, tComp_tup, tComp_str, tComp_rng1, blkSt, tBM, rAppend, rStarts, rIndex, tIf, tMake, tMeth, sFld, tFld, tRepr, tFmt, jNil, jCons, tJoined, rJoin, rIsx, rIst, tRaise, tTryAs, tTry0, un1, xMeth, xDrop, xSet, xRet, xOf, xSeq, List.getElem?_cons_zero, List.getElem?_cons_succ, Option.some.injEq, V.int.injEq, V.str.injEq, V.bl.injEq, V.ref.injEq, V.ty.injEq, List.cons.injEq, exists_eq_left', exists_eq_left, exists_eq', and_assoc, if_true, if_false, Bool.not_false, Bool.not_true, Bool.not_not, Bool.false_eq_true, exists_and_left, and_true, true_and, List.set_cons_zero, List.set_cons_succ, Option.join_some, false_and, or_false, false_or, exists_false, sp_cellat, sp_nameby, sp_wordrow, sp_toldby, sp_drawn, sp_copy, sp_places, sp_twiceN, sp_namesof, sp_whole, sp_spot, sp_due, sp_alike, rSlT, rInD, rUpdD, tFor_rev, tFor_dict, tFor_dictR, tComp_dict, tSortL, tDSd, tLRev, Ends.nx, Nat.reduceSub, Nat.reduceAdd, reduceCtorEq])))
local macro_rules | `(tactic| walk_at "rdi") => `(tactic| (walk_at "rdd"; (try simp only [tSeq, tAsg, gName, tC, tOp, tUn, tVar, tRet, tIfS, tOr, tAnd, tNot, tTest, tB, tChain, tCB, tCons, tNil, tCall, tSl, tNoPart, tPart, tNext, tDrop, tLst, tTup, tYes, tNotV, tAndV, tOrV, L2.start, List.set, List.map, List.length, List.replicate, List.cons_append, List.nil_append, List.append_nil, cK, bK, rI0, rI, rU, rIxS, rIxL, rIxT, tRetN, rSlL, rIn, rCatT, gTup, gCons, gNil, tRaiseI, tXInit, tDGet, tDGet1, tDGet2, tDIn, tDNotIn, sDPut, tDNewK, rDictOf, rEqDict, rCount, tCompX_list, xCall, sXFld, tXFld, rSlS, rEq, rNe, sc0, sc1, sc2, sc3, sc4, sc5, sc6, sc7, sc8, sc9, sc10, sc11, sc12, sc13, rCatS, rIsi, LenV, rAll, tFor_list, tFor_tup, tFor_str, tFor_rng1, tFor_rng2, tComp_list, tComp_tup, tComp_str, tComp_rng1, blkSt, tBM, rAppend, rStarts, rIndex, tIf, tMake, tMeth, sFld, tFld, tRepr, tFmt, jNil, jCons, tJoined, rJoin, rIsx, rIst, tRaise, tTryAs, tTry0, un1, xMeth, xDrop, xSet, xRet, xOf, xSeq, List.getElem?_cons_zero, List.getElem?_cons_succ, Option.some.injEq, V.int.injEq, V.str.injEq, V.bl.injEq, V.ref.injEq, V.ty.injEq, List.cons.injEq, exists_eq_left', exists_eq_left, exists_eq', and_assoc, if_true, if_false, Bool.not_false, Bool.not_true, Bool.not_not, Bool.false_eq_true, exists_and_left, and_true, true_and, List.set_cons_zero, List.set_cons_succ, Option.join_some, false_and, or_false, false_or, exists_false, sp_cellat, sp_nameby, sp_wordrow, sp_toldby, sp_drawn, sp_copy, sp_places, sp_twiceN, sp_namesof, sp_whole, sp_spot, sp_due, sp_alike, rSlT, rInD, rUpdD, tFor_rev, tFor_dict, tFor_dictR, tComp_dict, tSortL, tDSd, tLRev, Ends.nx, Nat.reduceSub, Nat.reduceAdd, reduceCtorEq, decide_true, decide_false, ↓reduceIte])))

section
variable {P : Program} {w : World} {K : PySem.W.Frag} {mg : Str → Option Value} {base : Heap} {A : Ad}
theorem nmTo_succ (c k : Int) (n : Nat) : nmTo c k (n + 1) = nmTo c k n ++ (⟨#[sgn (nmIx c k n)]⟩ : Str) := by
  show (⟨_⟩ : Str) = ⟨_⟩
  congr 1
  rw [List.range_succ, List.map_append]
  apply Array.ext'
  unfold nmTo
  simp
theorem nmTo_len (c k : Int) (n : Nat) : (nmTo c k n).length = n := by
  show ((List.range n).map _).toArray.size = n
  simp
theorem sgn_at {i : Int} (h0 : 0 ≤ i) (h1 : i < 37) : atI signs.cps.toList i = some (sgn i) := by
  have hl : signs.cps.toList.length = 37 := by decide +kernel
  obtain ⟨v, hv, _⟩ := atI_ex (xs := signs.cps.toList) (i := i) (by omega) (by omega)
  unfold sgn
  rw [hv]; rfl
theorem nmIx_lo (c k : Int) (j : Nat) : 0 ≤ nmIx c k j ∧ nmIx c k j < 37 := by
  unfold nmIx
  generalize c / ((j : Int) + 3) + (j : Int) * (j : Int) + k * (if decide ((j : Int) = nmAt c) = true then 1 else 0) = x
  split <;> omega
theorem sgn_sg {i : Int} (h0 : 0 ≤ i) (h1 : i < 37) : sgn i < 16 ^ 8 := by
  have hl : signs.cps.toList.length = 37 := by decide +kernel
  obtain ⟨v, hv, hm⟩ := atI_ex (xs := signs.cps.toList) (i := i) (by omega) (by omega)
  unfold sgn
  rw [hv]
  have all : signs.cps.toList.all (fun c => decide (c < 16 ^ 8)) = true := by decide +kernel
  exact of_decide_eq_true (List.all_eq_true.mp all v hm)
theorem nameOf_ok (c k : Int) (hk : 0 ≤ k) : (nameOf c k).length ≤ 16 ∧ Sg (nameOf c k) := by
  unfold nameOf
  refine ⟨?_, fun x hx => ?_⟩
  · rw [nmTo_len]; unfold nmSize; split <;> omega
  · unfold nmTo at hx
    simp only [List.mem_toArray, List.mem_map, List.mem_range] at hx
    obtain ⟨j, _, rfl⟩ := hx
    exact sgn_sg (nmIx_lo c k j).1 (nmIx_lo c k j).2
theorem G__law_cell_at (T : Txt K mg A) : FnOk P w K mg base CX0 1 A._law_cell_at A.fd__law_cell_at ["_law_script", "_law_k"] (sp_cellat K) := by
  refine T.F__law_cell_at.ok sc__law_cell_at (fun vs H Q E h => ?_) (fun cdv Ar outer s H vs Q E hr h => ?_)
  · obtain ⟨a, ns, k, rfl, _⟩ := h
    rfl
  · obtain ⟨a, ns, i, rfl, hS, hl, h0, k⟩ := h
    refine ⟨_, (@pss_cons _ _ _ _ _ (@ps_if _ _ _ _ _ _ _ _ (@pt_cmpR _ _ _ _ _ _ _ _ op_lt (@pv _ 1 _ _ (by rfl) (by first  |  exact  Or.inl  rfl  |  exact  Or.inr  (    Or.inl  rfl  )  |  exact  Or.inr  (    Or.inr  rfl  )) (by decide) (by decide)) (@pe_callB _ _ _ _ _ _ _ _ _ (call_lenK (K := K) rfl) (by rfl) T.n_len bt_len (@pa_cons _ _ _ _ _ (@pv _ 0 _ _ (by rfl) (by first  |  exact  Or.inl  rfl  |  exact  Or.inr  (    Or.inl  rfl  )  |  exact  Or.inr  (    Or.inr  rfl  )) (by decide) (by decide)) (@pa_nil _) (by rfl)) (by decide) (by decide) (by rfl) (by rfl)) (nomark _)) (@pss_one _ _ _ (@ps_ret _ _ _ _ (@pe_ix _ _ _ _ _ _ _ (ix_listK (K := K) rfl) (@pv _ 0 _ _ (by rfl) (by first  |  exact  Or.inl  rfl  |  exact  Or.inr  (    Or.inl  rfl  )  |  exact  Or.inr  (    Or.inr  rfl  )) (by decide) (by decide)) (@pv _ 1 _ _ (by rfl) (by first  |  exact  Or.inl  rfl  |  exact  Or.inr  (    Or.inl  rfl  )  |  exact  Or.inr  (    Or.inr  rfl  )) (by decide) (by decide)) (fun _ _ => rfl)))) (@pss_nil _)) (@pss_one _ _ _ (@ps_ret _ _ _ _ (@pe_int _ _ _ _)))), ?_⟩
    walk_at "rd"
    refine ⟨ns.length, .inl ⟨_, hS, by simp⟩, ite2 (fun hi => ?_) (fun _ => k 0)⟩
    have hi := of_decide_eq_true hi
    obtain ⟨v, hv, hm⟩ := atI_ex (xs := ns.map V.int) (i := i) (by simp; omega) (by simpa using hi)
    obtain ⟨j, _, rfl⟩ := List.mem_map.mp hm
    exact ⟨_, hS, _, hv, k j⟩
theorem G__law_name_by (T : Txt K mg A) : FnOk P w K mg base CX0 1 A._law_name_by A.fd__law_name_by ["_law_cell", "_law_k"] sp_nameby := by
  refine T.F__law_name_by.ok sc__law_name_by (fun vs H Q E h => ?_) (fun cdv Ar outer s H vs Q E hr h => ?_)
  · obtain ⟨c, k, rfl, _⟩ := h
    rfl
  · obtain ⟨c, i, rfl, k⟩ := h
    refine ⟨_, (@pss_cons _ _ _ _ _ (@ps_set _ _ 2 _ _ _ _ sc__law_name_by.nd rfl (by first | exact Or.inl rfl | exact Or.inr rfl) (@pe_str _ _ _ _) (by rfl) (by first  |  exact  .inl  rfl  |  exact  .inr  rfl  |  assumption)) (@pss_cons _ _ _ _ _ (@ps_set _ _ 3 _ _ _ _ sc__law_name_by.nd rfl (by first | exact Or.inl rfl | exact Or.inr rfl) (@pe_op _ _ _ _ _ _ _ _ op_add (@pe_int _ _ _ _) (@pe_op _ _ _ _ _ _ _ _ op_mod (@pv _ 0 _ _ (by rfl) (by first  |  exact  Or.inl  rfl  |  exact  Or.inr  (    Or.inl  rfl  )  |  exact  Or.inr  (    Or.inr  rfl  )) (by decide) (by decide)) (@pe_int _ _ _ _))) (by rfl) (by first  |  exact  .inl  rfl  |  exact  .inr  rfl  |  assumption)) (@pss_cons _ _ _ _ _ (@ps_set _ _ 4 _ _ _ _ sc__law_name_by.nd rfl (by first | exact Or.inl rfl | exact Or.inr rfl) (@pe_op _ _ _ _ _ _ _ _ op_mod (@pe_op _ _ _ _ _ _ _ _ op_fdiv (@pv _ 0 _ _ (by rfl) (by first  |  exact  Or.inl  rfl  |  exact  Or.inr  (    Or.inl  rfl  )  |  exact  Or.inr  (    Or.inr  rfl  )) (by decide) (by decide)) (@pe_int _ _ _ _)) (@pv _ 3 _ _ (by rfl) (by first  |  exact  Or.inl  rfl  |  exact  Or.inr  (    Or.inl  rfl  )  |  exact  Or.inr  (    Or.inr  rfl  )) (by decide) (by decide))) (by rfl) (by first  |  exact  .inl  rfl  |  exact  .inr  rfl  |  assumption)) (@pss_cons _ _ _ _ _ (@ps_if _ _ _ _ _ _ _ _ (@pt_cmpR _ _ _ _ _ _ _ _ op_eq (@pe_op _ _ _ _ _ _ _ _ op_mod (@pe_op _ _ _ _ _ _ _ _ op_fdiv (@pv _ 0 _ _ (by rfl) (by first  |  exact  Or.inl  rfl  |  exact  Or.inr  (    Or.inl  rfl  )  |  exact  Or.inr  (    Or.inr  rfl  )) (by decide) (by decide)) (@pe_int _ _ _ _)) (@pe_int _ _ _ _)) (@pe_int _ _ _ _) (nomark _)) (@pss_cons _ _ _ _ _ (@ps_set _ _ 3 _ _ _ _ sc__law_name_by.nd rfl (by first | exact Or.inl rfl | exact Or.inr rfl) (@pe_op _ _ _ _ _ _ _ _ op_add (@pe_int _ _ _ _) (@pe_op _ _ _ _ _ _ _ _ op_mod (@pv _ 1 _ _ (by rfl) (by first  |  exact  Or.inl  rfl  |  exact  Or.inr  (    Or.inl  rfl  )  |  exact  Or.inr  (    Or.inr  rfl  )) (by decide) (by decide)) (@pe_int _ _ _ _))) (by rfl) (by first  |  exact  .inl  rfl  |  exact  .inr  rfl  |  assumption)) (@pss_one _ _ _ (@ps_set _ _ 4 _ _ _ _ sc__law_name_by.nd rfl (by first | exact Or.inl rfl | exact Or.inr rfl) (@pe_int _ _ _ _) (by rfl) (by first  |  exact  .inl  rfl  |  exact  .inr  rfl  |  assumption)))) (@pss_nil _)) (@pss_cons _ _ _ _ _ (@ps_set _ _ 5 _ _ _ _ sc__law_name_by.nd rfl (by first | exact Or.inl rfl | exact Or.inr rfl) (@pe_str _ _ _ _) (by rfl) (by first  |  exact  .inl  rfl  |  exact  .inr  rfl  |  assumption)) (@pss_cons _ _ _ _ _ (@ps_for _ _ _ _ _ _ _ _ PassesOwn.never rfl (@pi_range1 _ _ _ _ _ _ rfl T.n_range (@pa_cons _ _ _ _ _ (@pv _ 3 _ _ (by rfl) (by first  |  exact  Or.inl  rfl  |  exact  Or.inr  (    Or.inl  rfl  )  |  exact  Or.inr  (    Or.inr  rfl  )) (by decide) (by decide)) (@pa_nil _) (by rfl)) (by rfl)) (@pg_name _ _ 6 _ sc__law_name_by.nd rfl (by first | exact Or.inl rfl | exact Or.inr rfl) (by first  |  exact  .inl  rfl  |  exact  .inr  rfl  |  assumption)) (@pss_cons _ _ _ _ _ (@ps_set _ _ 7 _ _ _ _ sc__law_name_by.nd rfl (by first | exact Or.inl rfl | exact Or.inr rfl) (@pe_op _ _ _ _ _ _ _ _ op_sub (@pe_int _ _ _ _) (@pe_op _ _ _ _ _ _ _ _ op_mul (@pe_int _ _ _ _) (@pe_callTy _ _ _ _ _ _ _ _ _ call_int1 (by rfl) T.n_int bt_int (@pa_cons _ _ _ _ _ (@pe_cmpR _ _ _ _ _ _ _ _ op_eq (@pv _ 6 _ _ (by rfl) (by first  |  exact  Or.inl  rfl  |  exact  Or.inr  (    Or.inl  rfl  )  |  exact  Or.inr  (    Or.inr  rfl  )) (by decide) (by decide)) (@pe_int _ _ _ _) (nomark _)) (@pa_nil _) (by rfl)) (by decide) (by decide) (by rfl) (by rfl)))) (by rfl) (by first  |  exact  .inl  rfl  |  exact  .inr  rfl  |  assumption)) (@pss_cons _ _ _ _ _ (@ps_set _ _ 8 _ _ _ _ sc__law_name_by.nd rfl (by first | exact Or.inl rfl | exact Or.inr rfl) (@pe_op _ _ _ _ _ _ _ _ op_add (@pe_op _ _ _ _ _ _ _ _ op_add (@pe_op _ _ _ _ _ _ _ _ op_fdiv (@pv _ 0 _ _ (by rfl) (by first  |  exact  Or.inl  rfl  |  exact  Or.inr  (    Or.inl  rfl  )  |  exact  Or.inr  (    Or.inr  rfl  )) (by decide) (by decide)) (@pe_op _ _ _ _ _ _ _ _ op_add (@pv _ 6 _ _ (by rfl) (by first  |  exact  Or.inl  rfl  |  exact  Or.inr  (    Or.inl  rfl  )  |  exact  Or.inr  (    Or.inr  rfl  )) (by decide) (by decide)) (@pe_int _ _ _ _))) (@pe_op _ _ _ _ _ _ _ _ op_mul (@pv _ 6 _ _ (by rfl) (by first  |  exact  Or.inl  rfl  |  exact  Or.inr  (    Or.inl  rfl  )  |  exact  Or.inr  (    Or.inr  rfl  )) (by decide) (by decide)) (@pv _ 6 _ _ (by rfl) (by first  |  exact  Or.inl  rfl  |  exact  Or.inr  (    Or.inl  rfl  )  |  exact  Or.inr  (    Or.inr  rfl  )) (by decide) (by decide)))) (@pe_op _ _ _ _ _ _ _ _ op_mul (@pv _ 1 _ _ (by rfl) (by first  |  exact  Or.inl  rfl  |  exact  Or.inr  (    Or.inl  rfl  )  |  exact  Or.inr  (    Or.inr  rfl  )) (by decide) (by decide)) (@pe_callTy _ _ _ _ _ _ _ _ _ call_int1 (by rfl) T.n_int bt_int (@pa_cons _ _ _ _ _ (@pe_cmpR _ _ _ _ _ _ _ _ op_eq (@pv _ 6 _ _ (by rfl) (by first  |  exact  Or.inl  rfl  |  exact  Or.inr  (    Or.inl  rfl  )  |  exact  Or.inr  (    Or.inr  rfl  )) (by decide) (by decide)) (@pv _ 4 _ _ (by rfl) (by first  |  exact  Or.inl  rfl  |  exact  Or.inr  (    Or.inl  rfl  )  |  exact  Or.inr  (    Or.inr  rfl  )) (by decide) (by decide)) (nomark _)) (@pa_nil _) (by rfl)) (by decide) (by decide) (by rfl) (by rfl)))) (by rfl) (by first  |  exact  .inl  rfl  |  exact  .inr  rfl  |  assumption)) (@pss_one _ _ _ (@ps_set _ _ 5 _ _ _ _ sc__law_name_by.nd rfl (by first | exact Or.inl rfl | exact Or.inr rfl) (@pe_op _ _ _ _ _ _ _ _ op_add_str (@pv _ 5 _ _ (by rfl) (by first  |  exact  Or.inl  rfl  |  exact  Or.inr  (    Or.inl  rfl  )  |  exact  Or.inr  (    Or.inr  rfl  )) (by decide) (by decide)) (@pe_ix _ _ _ _ _ _ _ ix_str (@pv _ 2 _ _ (by rfl) (by first  |  exact  Or.inl  rfl  |  exact  Or.inr  (    Or.inl  rfl  )  |  exact  Or.inr  (    Or.inr  rfl  )) (by decide) (by decide)) (@pe_op _ _ _ _ _ _ _ _ op_mod (@pv _ 8 _ _ (by rfl) (by first  |  exact  Or.inl  rfl  |  exact  Or.inr  (    Or.inl  rfl  )  |  exact  Or.inr  (    Or.inr  rfl  )) (by decide) (by decide)) (@pv _ 7 _ _ (by rfl) (by first  |  exact  Or.inl  rfl  |  exact  Or.inr  (    Or.inl  rfl  )  |  exact  Or.inr  (    Or.inr  rfl  )) (by decide) (by decide))) (fun _ _ => rfl))) (by rfl) (by first  |  exact  .inl  rfl  |  exact  .inr  rfl  |  assumption))))) (by intro  _  ;  rfl)) (@pss_one _ _ _ (@ps_ret _ _ _ _ (@pv _ 5 _ _ (by rfl) (by first  |  exact  Or.inl  rfl  |  exact  Or.inr  (    Or.inl  rfl  )  |  exact  Or.inr  (    Or.inr  rfl  )) (by decide) (by decide)))))))))), ?_⟩
    walk_at "rd"
    refine ⟨by decide, ⟨by decide, by decide⟩, by omega, ⟨by decide, by decide⟩, by decide, ite2 (fun hc => ⟨by decide, ?_⟩) (fun hc => ?_)⟩
    · have hc := of_decide_eq_true hc
      have e1 : nmSize c i = 1 + i % 16 := by unfold nmSize; rw [if_pos hc]
      have e2 : nmAt c = 16 := by unfold nmAt; rw [if_pos hc]
      refine ForR.of (by omega) (by omega) (fun n σ H' => H' = H ∧ ∃ b6 b7 b8, σ = [some (.int c), some (.int i), some (.str signs), some (.int (1 + i % 16)), some (.int 16), some (.str (nmTo c i n)), b6, b7, b8]) ⟨rfl, _, _, _, rfl⟩ ?_ ?_
      · rintro n σ H' hn ⟨rfl, b6, b7, b8, rfl⟩
        walk_at "rd"
        have lo := nmIx_lo c i n
        have at_ := sgn_at lo.1 lo.2
        unfold nmIx at at_ lo
        rw [e2] at at_ lo
        exact ⟨.inl ⟨by decide, by decide⟩, ⟨by omega, by omega⟩, .inl ⟨by omega, by omega⟩, .inr (by split <;> exact ⟨by decide, by decide⟩), by split <;> decide, by rw [sizeLine_eq]; decide +kernel, _, at_, by rw [nmTo_len, sizeLine_eq]; show n + 1 ≤ _; omega, by rw [nmTo_succ]; unfold nmIx; rw [e2]⟩
      · rintro σ H' ⟨rfl, b6, b7, b8, rfl⟩
        walk_at "rd"
        rw [← e1]; exact k
    · have hc : ¬ c / 256 % 3 = 0 := by simpa using hc
      have e1 : nmSize c i = 1 + c % 16 := by unfold nmSize; rw [if_neg hc]
      have e2 : nmAt c = c / 16 % (1 + c % 16) := by unfold nmAt; rw [if_neg hc]
      refine ForR.of (by omega) (by omega) (fun n σ H' => H' = H ∧ ∃ b6 b7 b8, σ = [some (.int c), some (.int i), some (.str signs), some (.int (1 + c % 16)), some (.int (c / 16 % (1 + c % 16))), some (.str (nmTo c i n)), b6, b7, b8]) ⟨rfl, _, _, _, rfl⟩ ?_ ?_
      · rintro n σ H' hn ⟨rfl, b6, b7, b8, rfl⟩
        walk_at "rd"
        have lo := nmIx_lo c i n
        have at_ := sgn_at lo.1 lo.2
        unfold nmIx at at_ lo
        rw [e2] at at_ lo
        exact ⟨.inl ⟨by decide, by decide⟩, ⟨by omega, by omega⟩, .inl ⟨by omega, by omega⟩, .inr (by split <;> exact ⟨by decide, by decide⟩), by split <;> decide, by rw [sizeLine_eq]; decide +kernel, _, at_, by rw [nmTo_len, sizeLine_eq]; show n + 1 ≤ _; omega, by rw [nmTo_succ]; unfold nmIx; rw [e2]⟩
      · rintro σ H' ⟨rfl, b6, b7, b8, rfl⟩
        walk_at "rd"
        rw [← e1]; exact k
theorem G__law_word_row (T : Txt K mg A) : FnOk P w K mg base CX0 2 A._law_word_row A.fd__law_word_row ["_law_cell", "_law_names_by"] sp_wordrow := by
  refine T.F__law_word_row.ok sc__law_word_row (fun vs H Q E h => ?_) (fun cdv Ar outer s H vs Q E hr h => ?_)
  · obtain ⟨c, n, rfl, _⟩ := h
    rfl
  · obtain ⟨c, n, rfl, k⟩ := h
    refine ⟨_, (@pss_cons _ _ _ _ _ (@ps_set _ _ 2 _ _ _ _ sc__law_word_row.nd rfl (by first | exact Or.inl rfl | exact Or.inr rfl) (@pe_op _ _ _ _ _ _ _ _ op_mod (@pv _ 0 _ _ (by rfl) (by first  |  exact  Or.inl  rfl  |  exact  Or.inr  (    Or.inl  rfl  )  |  exact  Or.inr  (    Or.inr  rfl  )) (by decide) (by decide)) (@pe_int _ _ _ _)) (by rfl) (by first  |  exact  .inl  rfl  |  exact  .inr  rfl  |  assumption)) (@pss_cons _ _ _ _ _ (@ps_set _ _ 3 _ _ _ _ sc__law_word_row.nd rfl (by first | exact Or.inl rfl | exact Or.inr rfl) (@pe_op _ _ _ _ _ _ _ _ op_fdiv (@pv _ 0 _ _ (by rfl) (by first  |  exact  Or.inl  rfl  |  exact  Or.inr  (    Or.inl  rfl  )  |  exact  Or.inr  (    Or.inr  rfl  )) (by decide) (by decide)) (@pe_int _ _ _ _)) (by rfl) (by first  |  exact  .inl  rfl  |  exact  .inr  rfl  |  assumption)) (@pss_cons _ _ _ _ _ (@ps_set _ _ 4 _ _ _ _ sc__law_word_row.nd rfl (by first | exact Or.inl rfl | exact Or.inr rfl) (@pe_and _ _ _ _ _ _ _ (@pe_cmpR _ _ _ _ _ _ _ _ op_eq (@pe_op _ _ _ _ _ _ _ _ op_mod (@pe_op _ _ _ _ _ _ _ _ op_fdiv (@pv _ 3 _ _ (by rfl) (by first  |  exact  Or.inl  rfl  |  exact  Or.inr  (    Or.inl  rfl  )  |  exact  Or.inr  (    Or.inr  rfl  )) (by decide) (by decide)) (@pe_int _ _ _ _)) (@pe_int _ _ _ _)) (@pe_int _ _ _ _) (nomark _)) (@pe_one _ _ _ _ _ (@pe_cmpR _ _ _ _ _ _ _ _ op_lt (@pe_op _ _ _ _ _ _ _ _ op_mod (@pv _ 3 _ _ (by rfl) (by first  |  exact  Or.inl  rfl  |  exact  Or.inr  (    Or.inl  rfl  )  |  exact  Or.inr  (    Or.inr  rfl  )) (by decide) (by decide)) (@pe_int _ _ _ _)) (@pe_int _ _ _ _) (nomark _)))) (by rfl) (by first  |  exact  .inl  rfl  |  exact  .inr  rfl  |  assumption)) (@pss_cons _ _ _ _ _ (@ps_set _ _ 5 _ _ _ _ sc__law_word_row.nd rfl (by first | exact Or.inl rfl | exact Or.inr rfl) (@pe_op _ _ _ _ _ _ _ _ op_sub (@pe_op _ _ _ _ _ _ _ _ op_mod (@pe_op _ _ _ _ _ _ _ _ op_fdiv (@pv _ 3 _ _ (by rfl) (by first  |  exact  Or.inl  rfl  |  exact  Or.inr  (    Or.inl  rfl  )  |  exact  Or.inr  (    Or.inr  rfl  )) (by decide) (by decide)) (@pe_int _ _ _ _)) (@pe_int _ _ _ _)) (@pe_int _ _ _ _)) (by rfl) (by first  |  exact  .inl  rfl  |  exact  .inr  rfl  |  assumption)) (@pss_cons _ _ _ _ _ (@ps_if _ _ _ _ _ _ _ _ (@pt_cmpR _ _ _ _ _ _ _ _ op_eq (@pe_op _ _ _ _ _ _ _ _ op_mod (@pe_op _ _ _ _ _ _ _ _ op_fdiv (@pv _ 3 _ _ (by rfl) (by first  |  exact  Or.inl  rfl  |  exact  Or.inr  (    Or.inl  rfl  )  |  exact  Or.inr  (    Or.inr  rfl  )) (by decide) (by decide)) (@pe_int _ _ _ _)) (@pe_int _ _ _ _)) (@pe_int _ _ _ _) (nomark _)) (@pss_one _ _ _ (@ps_set _ _ 5 _ _ _ _ sc__law_word_row.nd rfl (by first | exact Or.inl rfl | exact Or.inr rfl) (@pe_op _ _ _ _ _ _ _ _ op_sub (@pe_op _ _ _ _ _ _ _ _ op_mod (@pe_op _ _ _ _ _ _ _ _ op_mul (@pe_op _ _ _ _ _ _ _ _ op_fdiv (@pv _ 3 _ _ (by rfl) (by first  |  exact  Or.inl  rfl  |  exact  Or.inr  (    Or.inl  rfl  )  |  exact  Or.inr  (    Or.inr  rfl  )) (by decide) (by decide)) (@pe_int _ _ _ _)) (@pe_int _ _ _ _)) (@pe_int _ _ _ _)) (@pe_int _ _ _ _)) (by rfl) (by first  |  exact  .inl  rfl  |  exact  .inr  rfl  |  assumption))) (@pss_nil _)) (@pss_cons _ _ _ _ _ (@ps_set _ _ 6 _ _ _ _ sc__law_word_row.nd rfl (by first | exact Or.inl rfl | exact Or.inr rfl) (@pe_ix _ _ _ _ _ _ _ (ix_listK (K := K) rfl) (@pe_lst _ _ _ _ (@pa_cons _ _ _ _ _ (@pe_str _ _ _ _) (@pa_cons _ _ _ _ _ (@pe_str _ _ _ _) (@pa_cons _ _ _ _ _ (@pe_str _ _ _ _) (@pa_cons _ _ _ _ _ (@pe_str _ _ _ _) (@pa_cons _ _ _ _ _ (@pe_str _ _ _ _) (@pa_nil _) (by rfl)) (by rfl)) (by rfl)) (by rfl)) (by rfl))) (@pe_op _ _ _ _ _ _ _ _ op_mod (@pv _ 3 _ _ (by rfl) (by first  |  exact  Or.inl  rfl  |  exact  Or.inr  (    Or.inl  rfl  )  |  exact  Or.inr  (    Or.inr  rfl  )) (by decide) (by decide)) (@pe_int _ _ _ _)) (fun _ _ => rfl)) (by rfl) (by first  |  exact  .inl  rfl  |  exact  .inr  rfl  |  assumption)) (@pss_cons _ _ _ _ _ (@ps_if _ _ _ _ _ _ _ _ (@pt_cmpR _ _ _ _ _ _ _ _ op_eq (@pv _ 2 _ _ (by rfl) (by first  |  exact  Or.inl  rfl  |  exact  Or.inr  (    Or.inl  rfl  )  |  exact  Or.inr  (    Or.inr  rfl  )) (by decide) (by decide)) (@pe_int _ _ _ _) (nomark _)) (@pss_one _ _ _ (@ps_ret _ _ _ _ (@pe_non _ _ _))) (@pss_nil _)) (@pss_one _ _ _ (@ps_ret _ _ _ _ (@pe_tup _ _ _ _ _ (@pa_cons _ _ _ _ _ (@pv _ 6 _ _ (by rfl) (by first  |  exact  Or.inl  rfl  |  exact  Or.inr  (    Or.inl  rfl  )  |  exact  Or.inr  (    Or.inr  rfl  )) (by decide) (by decide)) (@pa_cons _ _ _ _ _ (@pe_call _ _ _ _ _ _ _ _ _ _ _ _ _ _ _ _ (G__law_name_by T) (hr.mono (by decide)) rfl T.m__law_name_by T.k__law_name_by T.b__law_name_by .nil (@pass0 _) (@pa_cons _ _ _ _ _ (@pv _ 1 _ _ (by rfl) (by first  |  exact  Or.inl  rfl  |  exact  Or.inr  (    Or.inl  rfl  )  |  exact  Or.inr  (    Or.inr  rfl  )) (by decide) (by decide)) (@pa_cons _ _ _ _ _ (@pe_op _ _ _ _ _ _ _ _ op_mod (@pe_op _ _ _ _ _ _ _ _ op_fdiv (@pv _ 3 _ _ (by rfl) (by first  |  exact  Or.inl  rfl  |  exact  Or.inr  (    Or.inl  rfl  )  |  exact  Or.inr  (    Or.inr  rfl  )) (by decide) (by decide)) (@pe_int _ _ _ _)) (@pe_int _ _ _ _)) (@pa_nil _) (by rfl)) (by rfl)) (by decide) (by rfl) (by rfl)) (@pa_cons _ _ _ _ _ (@pv _ 5 _ _ (by rfl) (by first  |  exact  Or.inl  rfl  |  exact  Or.inr  (    Or.inl  rfl  )  |  exact  Or.inr  (    Or.inr  rfl  )) (by decide) (by decide)) (@pa_cons _ _ _ _ _ (@pv _ 4 _ _ (by rfl) (by first  |  exact  Or.inl  rfl  |  exact  Or.inr  (    Or.inl  rfl  )  |  exact  Or.inr  (    Or.inr  rfl  )) (by decide) (by decide)) (@pa_nil _) (by rfl)) (by rfl)) (by rfl)) (by rfl)))))))))))), ?_⟩
    walk_at "rd"
    have five : ∀ (p : Addr) (sf : Bool) (add : Int), H p = none → (sf = true → c / 9 % 5 < 3) → -2147483648 ≤ add → add < 2147483648 → 
        (0 : Int) < 5 ∧ ∃ x, SqL K (upd H p (HO.lst [V.str (Str.ofString "whole"), V.str (Str.ofString "high"), V.str (Str.ofString "low"), V.str (Str.ofString "near"), V.str (Str.ofString "split")])) p x ∧
          ∃ x_1, atI x (c / 9 % 5) = some x_1 ∧
            if decide (c % 9 = 2) = true then Q V.non (upd H p (HO.lst [V.str (Str.ofString "whole"), V.str (Str.ofString "high"), V.str (Str.ofString "low"), V.str (Str.ofString "near"), V.str (Str.ofString "split")]))
            else CDiv (c / 9) 5 ∧ (0 : Int) < 12 ∧ 4 ≤ sizeLine ∧ ∀ (p_1 : Addr),
              upd H p (HO.lst [V.str (Str.ofString "whole"), V.str (Str.ofString "high"), V.str (Str.ofString "low"), V.str (Str.ofString "near"), V.str (Str.ofString "split")]) p_1 = none →
              Q (V.ref p_1) (upd (upd H p (HO.lst [V.str (Str.ofString "whole"), V.str (Str.ofString "high"), V.str (Str.ofString "low"), V.str (Str.ofString "near"), V.str (Str.ofString "split")])) p_1 (HO.tup [x_1, V.str (nameOf n (c / 9 / 5 % 12)), V.int add, V.bl sf])) := by
      intro p sf add hp hsf h1 h2
      refine ⟨by decide, _, SqL.of upd_same, ?_⟩
      obtain ⟨z, hz, hT, hS⟩ : ∃ z : Str, atI [V.str (Str.ofString "whole"), V.str (Str.ofString "high"), V.str (Str.ofString "low"), V.str (Str.ofString "near"), V.str (Str.ofString "split")] (c / 9 % 5) = some (V.str z) ∧ isT z ∧ (c / 9 % 5 < 3 → z = Str.ofString "whole" ∨ z = Str.ofString "high" ∨ z = Str.ofString "low") := by
        have hd : c / 9 % 5 = 0 ∨ c / 9 % 5 = 1 ∨ c / 9 % 5 = 2 ∨ c / 9 % 5 = 3 ∨ c / 9 % 5 = 4 := by omega
        rcases hd with e | e | e | e | e <;> rw [e]
        · exact ⟨_, rfl, .inl rfl, fun _ => .inl rfl⟩
        · exact ⟨_, rfl, .inr (.inl rfl), fun _ => .inr (.inl rfl)⟩
        · exact ⟨_, rfl, .inr (.inr (.inl rfl)), fun _ => .inr (.inr rfl)⟩
        · exact ⟨_, rfl, .inr (.inr (.inr (.inl rfl))), fun h => absurd h (by decide)⟩
        · exact ⟨_, rfl, .inr (.inr (.inr (.inr rfl))), fun h => absurd h (by decide)⟩
      refine ⟨_, hz, ite2 (fun _ => (k _ fun b o e => ?_).1) (fun _ => ⟨⟨by decide, by decide⟩, by decide, by rw [sizeLine_eq]; decide, fun q hq => ?_⟩)⟩
      · rw [upd_ne (ne_of_none e hp)]; exact e
      · have hqp : q ≠ p := fun e => by rw [e, upd_same] at hq; cases hq
        have hq' : H q = none := by rw [upd_ne hqp] at hq; exact hq
        refine (k _ fun b o e => ?_).2 ⟨q, 0, z, nameOf n (c / 9 / 5 % 12), add, sf⟩ ⟨hT, ⟨_, by omega, by omega, rfl⟩, by show (0 : Int) ≤ 0; decide, by show (0 : Int) < (1 : Nat); decide, h1, h2, fun h => hS (hsf h)⟩ upd_same hq'
        rw [upd_ne (ne_of_none e hq'), upd_ne (ne_of_none e hp)]; exact e
    refine ⟨by decide, ⟨by decide, by decide⟩, ⟨by decide, by decide⟩, by decide, ite2 (fun _ => ⟨by decide, ⟨by decide, by decide⟩, by decide, ⟨by decide, by decide⟩, by decide, ite2 (fun _ => ⟨⟨by decide, by decide⟩, .inr ⟨by decide, by decide⟩, by decide, by rw [sizeLine_eq]; decide, fun p hp => ?_⟩) (fun _ => ⟨by rw [sizeLine_eq]; decide, fun p hp => ?_⟩)⟩)
      (fun hs => ⟨⟨by decide, by decide⟩, by decide, ⟨by decide, by decide⟩, by decide, ite2 (fun _ => ⟨⟨by decide, by decide⟩, .inr ⟨by decide, by decide⟩, by decide, by rw [sizeLine_eq]; decide, fun p hp => ?_⟩) (fun _ => ⟨by rw [sizeLine_eq]; decide, fun p hp => ?_⟩)⟩)⟩
    · refine five p _ _ hp (fun h => of_decide_eq_true h) ?_ ?_ <;> omega
    · refine five p _ _ hp (fun h => of_decide_eq_true h) ?_ ?_ <;> omega
    · refine five p _ _ hp (fun h => absurd h (by decide)) ?_ ?_ <;> omega
    · refine five p _ _ hp (fun h => absurd h (by decide)) ?_ ?_ <;> omega
theorem same_new {H : Hp} {p : Addr} {o : HO} (h : H p = none) : Same H (upd H p o) := fun b u e => by rw [upd_ne (ne_of_none e h)]; exact e
theorem free_of {H : Hp} {p q : Addr} {o : HO} (h : upd H p o q = none) : q ≠ p ∧ H q = none := by
  have n : q ≠ p := fun e => by rw [e, upd_same] at h; cases h
  exact ⟨n, by rw [upd_ne n] at h; exact h⟩
theorem atI_last {α : Type} {xs : List α} {x : α} : atI (xs ++ [x]) (-1) = some x := by
  unfold atI ixN
  rw [if_neg (by decide), if_pos (by simp; omega)]
  show (xs ++ [x])[(-1 + ((xs ++ [x]).length : Int)).toNat]? = some x
  have e : (-1 + ((xs ++ [x]).length : Int)).toNat = xs.length := by simp; omega
  rw [e]; simp
theorem inV_str {z : Str} {xs : List Str} : inV (.str z) (xs.map V.str) = true ↔ z ∈ xs := by
  unfold inV
  rw [List.any_map, List.any_eq_true]
  constructor
  · rintro ⟨y, hy, e⟩
    have : y = z := by simpa [Function.comp, eqV] using e
    exact this ▸ hy
  · intro h
    exact ⟨z, h, by simp [Function.comp, eqV]⟩
theorem sort_at {c : Int} : ∃ z : Str, atI [V.str (Str.ofString "tell"), V.str (Str.ofString "weak"), V.str (Str.ofString "own")] (c % 3) = some (V.str z) ∧ isSort z := by
  have hd : c % 3 = 0 ∨ c % 3 = 1 ∨ c % 3 = 2 := by omega
  rcases hd with e | e | e <;> rw [e]
  · exact ⟨_, rfl, .inl rfl⟩
  · exact ⟨_, rfl, .inr (.inl rfl)⟩
  · exact ⟨_, rfl, .inr (.inr rfl)⟩
theorem sIx_m1 (m : Nat) : HT.sIx (m + 1) (m + 1) (some (-1)) = m := by
  unfold HT.sIx; simp; try omega
noncomputable def gO : Option HO → D
  | some (.tup [.str n, .str s]) => .tup [.str n, .str s]
  | _ => .non
noncomputable def rowO (n : ToldM) : Option HO := some (.tup [.str n.name, .str n.sort])
noncomputable def hasS (p : PcM) (z s : Str) : Bool := p.nms.any fun n => decide (n.name = z) && decide (n.sort = s)
theorem any_two {H : Hp} {as : List Addr} {p : PcM} {z s : Str} (e : as.map H = p.nms.map rowO) : (as.any fun a => deq (gO (H a)) (.tup [.str z, .str s])) = hasS p z s := by
  have h : (as.any fun a => deq (gO (H a)) (.tup [.str z, .str s])) = (as.map H).any fun o => deq (gO o) (.tup [.str z, .str s]) := by rw [List.any_map]; rfl
  rw [h, e, List.any_map]
  unfold hasS
  congr 1
  funext n
  show deq (.tup [.str n.name, .str n.sort]) (.tup [.str z, .str s]) = _
  simp only [deq, deqL, Bool.and_true]
  by_cases a : n.name = z <;> by_cases b : n.sort = s <;> simp [a, b]
theorem rows_at {H : Hp} {as : List Addr} {ns : List ToldM} (e : as.map H = ns.map rowO) {a : Addr} (ha : a ∈ as) : ∃ n ∈ ns, H a = rowO n := by
  have h : H a ∈ ns.map rowO := by rw [← e]; exact List.mem_map.mpr ⟨a, ha, rfl⟩
  obtain ⟨n, hn, q⟩ := List.mem_map.mp h
  exact ⟨n, hn, q.symm⟩
theorem rows_mono {H H' : Hp} {as : List Addr} {ns : List ToldM} (e : as.map H = ns.map rowO) (s : ∀ a ∈ as, ∀ o, H a = some o → H' a = some o) : as.map H' = ns.map rowO := by
  rw [← e]
  refine List.map_congr_left fun a ha => ?_
  obtain ⟨n, _, q⟩ := rows_at e ha
  rw [s a ha _ q, q]; rfl
theorem same_upd {H0 H : Hp} {L : Addr} {o : HO} (h : H0 L = none) (e : Same H0 H) : Same H0 (upd H L o) := fun b u q => by rw [upd_ne (ne_of_none q h)]; exact e b u q
theorem G__law_told_by (T : Txt K mg A) : FnOk P w K mg base CX0 2 A._law_told_by A.fd__law_told_by ["_law_pieces", "_law_cell", "_law_names_by", "_law_strict"] (sp_toldby K) := by
  refine T.F__law_told_by.ok sc__law_told_by (fun vs H Q E h => ?_) (fun cdv Ar outer s H vs Q E hr h => ?_)
  · obtain ⟨L, c, n, ps, p, ss, st, rfl, _⟩ := h
    rfl
  · obtain ⟨L, c, n, ps, p, ss, st, rfl, hP, hst, b1, b2, b3, b4, b5, k0, k1⟩ := h
    refine ⟨_, (@pss_cons _ _ _ _ _ (@ps_set _ _ 4 _ _ _ _ sc__law_told_by.nd rfl (by first | exact Or.inl rfl | exact Or.inr rfl) (@pe_ix _ _ _ _ _ _ _ (ix_listK (K := K) rfl) (@pv _ 0 _ _ (by rfl) (by first  |  exact  Or.inl  rfl  |  exact  Or.inr  (    Or.inl  rfl  )  |  exact  Or.inr  (    Or.inr  rfl  )) (by decide) (by decide)) (@pe_un _ _ _ _ _ _ un_neg (@pe_int _ _ _ _)) (fun _ _ => rfl)) (by rfl) (by first  |  exact  .inl  rfl  |  exact  .inr  rfl  |  assumption)) (@pss_cons _ _ _ _ _ (@ps_set _ _ 5 _ _ _ _ sc__law_told_by.nd rfl (by first | exact Or.inl rfl | exact Or.inr rfl) (@pe_call _ _ _ _ _ _ _ _ _ _ _ _ _ _ _ _ (G__law_name_by T) (hr.mono (by decide)) rfl T.m__law_name_by T.k__law_name_by T.b__law_name_by .nil (@pass0 _) (@pa_cons _ _ _ _ _ (@pv _ 2 _ _ (by rfl) (by first  |  exact  Or.inl  rfl  |  exact  Or.inr  (    Or.inl  rfl  )  |  exact  Or.inr  (    Or.inr  rfl  )) (by decide) (by decide)) (@pa_cons _ _ _ _ _ (@pe_op _ _ _ _ _ _ _ _ op_mod (@pe_op _ _ _ _ _ _ _ _ op_fdiv (@pv _ 1 _ _ (by rfl) (by first  |  exact  Or.inl  rfl  |  exact  Or.inr  (    Or.inl  rfl  )  |  exact  Or.inr  (    Or.inr  rfl  )) (by decide) (by decide)) (@pe_int _ _ _ _)) (@pe_int _ _ _ _)) (@pa_nil _) (by rfl)) (by rfl)) (by decide) (by rfl) (by rfl)) (by rfl) (by first  |  exact  .inl  rfl  |  exact  .inr  rfl  |  assumption)) (@pss_cons _ _ _ _ _ (@ps_if _ _ _ _ _ _ _ _ (@pt_cmpR _ _ _ _ _ _ _ _ (op_inSK (K := K) rfl) (@pv _ 5 _ _ (by rfl) (by first  |  exact  Or.inl  rfl  |  exact  Or.inr  (    Or.inl  rfl  )  |  exact  Or.inr  (    Or.inr  rfl  )) (by decide) (by decide)) (@pe_comp _ _ _ _ _ _ _ _ _ _ _ _ _ _ (blk_mk (own := ["_law_row"]) (fr := []) (fm := []) rfl (by decide +kernel) (by decide +kernel) (by decide +kernel) .nil) rfl (@pi_listK _ K _ _ _ rfl (@pe_ix _ _ _ _ _ _ _ (ix_tupK (K := K) rfl) (@pv _ 4 _ _ (by rfl) (by first  |  exact  Or.inl  rfl  |  exact  Or.inr  (    Or.inl  rfl  )  |  exact  Or.inr  (    Or.inr  rfl  )) (by decide) (by decide)) (@pe_int _ _ _ _) (fun _ _ => rfl))) (fun _ _ _ => ⟨(@pg_name _ _ 0 _ (by show List.Nodup (["_law_row"] : List Str) ; decide +kernel) rfl (by first | exact Or.inl rfl | exact Or.inr rfl) (by first  |  exact  .inl  rfl  |  exact  .inr  rfl  |  assumption)) , pts_nil, (@pe_ix _ _ _ _ _ _ _ (ix_tupK (K := K) rfl) (@pv _ 0 _ _ (by rfl) (by first  |  exact  Or.inl  rfl  |  exact  Or.inr  (    Or.inl  rfl  )  |  exact  Or.inr  (    Or.inr  rfl  )) (by decide) (by decide)) (@pe_int _ _ _ _) (fun _ _ => rfl))⟩) (by intro  _  ;  rfl)) (by with_unfolding_all rfl)) (@pss_one _ _ _ (@ps_retN _ _)) (@pss_nil _)) (@pss_cons _ _ _ _ _ (@ps_set _ _ 6 _ _ _ _ sc__law_told_by.nd rfl (by first | exact Or.inl rfl | exact Or.inr rfl) (@pe_ix _ _ _ _ _ _ _ (ix_listK (K := K) rfl) (@pe_lst _ _ _ _ (@pa_cons _ _ _ _ _ (@pe_str _ _ _ _) (@pa_cons _ _ _ _ _ (@pe_str _ _ _ _) (@pa_cons _ _ _ _ _ (@pe_str _ _ _ _) (@pa_nil _) (by rfl)) (by rfl)) (by rfl))) (@pe_op _ _ _ _ _ _ _ _ op_mod (@pv _ 1 _ _ (by rfl) (by first  |  exact  Or.inl  rfl  |  exact  Or.inr  (    Or.inl  rfl  )  |  exact  Or.inr  (    Or.inr  rfl  )) (by decide) (by decide)) (@pe_int _ _ _ _)) (fun _ _ => rfl)) (by rfl) (by first  |  exact  .inl  rfl  |  exact  .inr  rfl  |  assumption)) (@pss_cons _ _ _ _ _ (@ps_for _ _ _ _ _ _ _ _ PassesOwn.never rfl (@pi_listK _ K _ _ _ rfl (@pe_slice _ _ _ _ _ _ _ _ _ _ (sl_listK (K := K) rfl) (@pv _ 0 _ _ (by rfl) (by first  |  exact  Or.inl  rfl  |  exact  Or.inr  (    Or.inl  rfl  )  |  exact  Or.inr  (    Or.inr  rfl  )) (by decide) (by decide)) (@po_none _) (@po_some _ _ _ (@pe_un _ _ _ _ _ _ un_neg (@pe_int _ _ _ _))))) (@pg_name _ _ 7 _ sc__law_told_by.nd rfl (by first | exact Or.inl rfl | exact Or.inr rfl) (by first  |  exact  .inl  rfl  |  exact  .inr  rfl  |  assumption)) (@pss_one _ _ _ (@ps_if _ _ _ _ _ _ _ _ (@PW.pt _ _ _ (@pw_and _ _ _ _ _ _ _ (@pt_cmpR _ _ _ _ _ _ _ _ op_eq (@pv _ 6 _ _ (by rfl) (by first  |  exact  Or.inl  rfl  |  exact  Or.inr  (    Or.inl  rfl  )  |  exact  Or.inr  (    Or.inr  rfl  )) (by decide) (by decide)) (@pe_str _ _ _ _) (nomark _)) (@pw_and _ _ _ _ _ _ _ (@pt_not _ _ _ _ (@pt_val _ _ _ (@pv _ 3 _ _ (by rfl) (by first  |  exact  Or.inl  rfl  |  exact  Or.inr  (    Or.inl  rfl  )  |  exact  Or.inr  (    Or.inr  rfl  )) (by decide) (by decide)) (by intro  _  ;  rfl))) (@pw_and1 _ _ _ _ (@pt_cmpR _ _ _ _ _ _ _ _ (op_inDK hr.units (K := K) rfl) (@pe_tup _ _ _ _ _ (@pa_cons _ _ _ _ _ (@pv _ 5 _ _ (by rfl) (by first  |  exact  Or.inl  rfl  |  exact  Or.inr  (    Or.inl  rfl  )  |  exact  Or.inr  (    Or.inr  rfl  )) (by decide) (by decide)) (@pa_cons _ _ _ _ _ (@pe_str _ _ _ _) (@pa_nil _) (by rfl)) (by rfl))) (@pe_comp _ _ _ _ _ _ _ _ _ _ _ _ _ _ (blk_mk (own := ["_law_row"]) (fr := []) (fm := []) rfl (by decide +kernel) (by decide +kernel) (by decide +kernel) .nil) rfl (@pi_listK _ K _ _ _ rfl (@pe_ix _ _ _ _ _ _ _ (ix_tupK (K := K) rfl) (@pv _ 7 _ _ (by rfl) (by first  |  exact  Or.inl  rfl  |  exact  Or.inr  (    Or.inl  rfl  )  |  exact  Or.inr  (    Or.inr  rfl  )) (by decide) (by decide)) (@pe_int _ _ _ _) (fun _ _ => rfl))) (fun _ _ _ => ⟨(@pg_name _ _ 0 _ (by show List.Nodup (["_law_row"] : List Str) ; decide +kernel) rfl (by first | exact Or.inl rfl | exact Or.inr rfl) (by first  |  exact  .inl  rfl  |  exact  .inr  rfl  |  assumption)) , pts_nil, (@pe_slice _ _ _ _ _ _ _ _ _ _ (sl_tupK (K := K) rfl) (@pv _ 0 _ _ (by rfl) (by first  |  exact  Or.inl  rfl  |  exact  Or.inr  (    Or.inl  rfl  )  |  exact  Or.inr  (    Or.inr  rfl  )) (by decide) (by decide)) (@po_none _) (@po_some _ _ _ (@pe_int _ _ _ _)))⟩) (by intro  _  ;  rfl)) (by with_unfolding_all rfl)))))) (@pss_one _ _ _ (@ps_set _ _ 6 _ _ _ _ sc__law_told_by.nd rfl (by first | exact Or.inl rfl | exact Or.inr rfl) (@pe_str _ _ _ _) (by rfl) (by first  |  exact  .inl  rfl  |  exact  .inr  rfl  |  assumption))) (@pss_nil _))) (by intro  _  ;  rfl)) (@pss_one _ _ _ (@ps_expr _ _ _ _ (@pe_bm _ _ _ _ _ _ _ _ _ _ _ _ PySem.F.plainAttrs_list PySem.F.slot_list_append PySem.F.type_list_append mt_append (@pe_ix _ _ _ _ _ _ _ (ix_tupK (K := K) rfl) (@pv _ 4 _ _ (by rfl) (by first  |  exact  Or.inl  rfl  |  exact  Or.inr  (    Or.inl  rfl  )  |  exact  Or.inr  (    Or.inr  rfl  )) (by decide) (by decide)) (@pe_int _ _ _ _) (fun _ _ => rfl)) (@pa_cons _ _ _ _ _ (@pe_tup _ _ _ _ _ (@pa_cons _ _ _ _ _ (@pv _ 5 _ _ (by rfl) (by first  |  exact  Or.inl  rfl  |  exact  Or.inr  (    Or.inl  rfl  )  |  exact  Or.inr  (    Or.inr  rfl  )) (by decide) (by decide)) (@pa_cons _ _ _ _ _ (@pv _ 6 _ _ (by rfl) (by first  |  exact  Or.inl  rfl  |  exact  Or.inr  (    Or.inl  rfl  )  |  exact  Or.inr  (    Or.inr  rfl  )) (by decide) (by decide)) (@pa_cons _ _ _ _ _ (@pe_op _ _ _ _ _ _ _ _ op_sub (@pe_callB _ _ _ _ _ _ _ _ _ (call_lenK (K := K) rfl) (by rfl) T.n_len bt_len (@pa_cons _ _ _ _ _ (@pe_ix _ _ _ _ _ _ _ (ix_tupK (K := K) rfl) (@pv _ 4 _ _ (by rfl) (by first  |  exact  Or.inl  rfl  |  exact  Or.inr  (    Or.inl  rfl  )  |  exact  Or.inr  (    Or.inr  rfl  )) (by decide) (by decide)) (@pe_int _ _ _ _) (fun _ _ => rfl)) (@pa_nil _) (by rfl)) (by decide) (by decide) (by rfl) (by rfl)) (@pe_int _ _ _ _)) (@pa_cons _ _ _ _ _ (@pe_callB _ _ _ _ _ _ _ _ _ (call_lenK (K := K) rfl) (by rfl) T.n_len bt_len (@pa_cons _ _ _ _ _ (@pe_ix _ _ _ _ _ _ _ (ix_tupK (K := K) rfl) (@pe_ix _ _ _ _ _ _ _ (ix_listK (K := K) rfl) (@pe_ix _ _ _ _ _ _ _ (ix_tupK (K := K) rfl) (@pv _ 4 _ _ (by rfl) (by first  |  exact  Or.inl  rfl  |  exact  Or.inr  (    Or.inl  rfl  )  |  exact  Or.inr  (    Or.inr  rfl  )) (by decide) (by decide)) (@pe_int _ _ _ _) (fun _ _ => rfl)) (@pe_un _ _ _ _ _ _ un_neg (@pe_int _ _ _ _)) (fun _ _ => rfl)) (@pe_int _ _ _ _) (fun _ _ => rfl)) (@pa_nil _) (by rfl)) (by decide) (by decide) (by rfl) (by rfl)) (@pa_nil _) (by rfl)) (by rfl)) (by rfl)) (by rfl))) (@pa_nil _) (by rfl)) (by rfl) (by rfl) (by rfl) (by rfl) (by rfl)) (by rfl)))))))), ?_⟩
    walk_at "rd"
    have hp := hP.at_ p (by simp)
    refine ⟨_, SqL.of hP.top, V.ref p.t, by rw [List.map_append]; exact atI_last, ⟨by decide, by decide⟩, by decide, p.t, rfl, _, SqT.of hp.top, _, rfl, ?_⟩
    refine CompL.of (by rw [List.length_map, sizeLine_eq]; omega) (SqL.of hp.nl) (fun D i ys H' => ys = (p.nms.take i).map (fun m => V.str m.name) ∧ H' = upd H D (.lst ys)) (fun D hD => ⟨rfl, rfl⟩) (fun D i ys H' hD hi ⟨e1, e2⟩ => ?_) (fun D i x ys H' hD hx ⟨e1, e2⟩ => ?_) (fun D ys H' hD ⟨e1, e2⟩ => ?_)
    · subst e2
      refine ⟨SqL.of (by rw [upd_ne (ne_of_none hp.nl hD)]; exact hp.nl), upd_same, ?_⟩
      rw [e1, List.length_map]; exact List.length_take_le ..
    · subst e2
      rw [List.getElem?_map] at hx
      obtain ⟨m, hm, rfl⟩ := Option.map_eq_some_iff.mp hx
      have ma := hp.ns m (List.mem_of_getElem? hm)
      walk_at "rd"
      refine ⟨.no .nil, _, SqT.of (by rw [upd_ne (ne_of_none ma hD)]; exact ma), _, rfl, upd_same, ?_, upd_upd⟩
      rw [e1, List.take_succ, hm, List.map_append]; rfl
    · subst e2
      have e3 : ys = (p.nms.map ToldM.name).map V.str := by rw [e1, List.length_map, List.take_length, List.map_map]; rfl
      refine ⟨D, rfl, ys, .inl (SqL.of upd_same), rfl, ?_, ite2 (fun _ => k0 _ (same_new hD)) (fun hin => ⟨by rw [sizeLine_eq]; decide, fun p1 h1 => ?_⟩)⟩
      · rw [e3, List.all_map]; exact List.all_eq_true.mpr fun _ _ => rfl
      · obtain ⟨z, hz, hs⟩ := sort_at (c := c)
        have sm : Same H (upd (upd H D (.lst ys)) p1 (.lst [V.str (Str.ofString "tell"), V.str (Str.ofString "weak"), V.str (Str.ofString "own")])) := (same_new hD).trans (same_new h1)
        refine ⟨by decide, _, SqL.of upd_same, _, hz, _, SqL.of (sm _ _ hP.top), fun p2 h2 => ?_⟩
        have sm2 := sm.trans (same_new (o := HO.lst (cutV ((ps ++ [p]).map PcM.v) none (some (-1)))) h2)
        generalize hH4 : upd (upd (upd H D (.lst ys)) p1 (.lst [V.str (Str.ofString "tell"), V.str (Str.ofString "weak"), V.str (Str.ofString "own")])) p2 (HO.lst (cutV ((ps ++ [p]).map PcM.v) none (some (-1)))) = H4 at *
        have hl4 : H4 p2 = some (HO.lst (cutV ((ps ++ [p]).map PcM.v) none (some (-1)))) := by rw [← hH4]; exact upd_same
        have ecut : cutV ((ps ++ [p]).map PcM.v) none (some (-1)) = ps.map PcM.v := by
          unfold cutV
          have e : HT.sIx ((ps ++ [p]).map PcM.v).length ((ps ++ [p]).map PcM.v).length (some (-1)) = ps.length := by
            rw [List.length_map, List.length_append, List.length_singleton]
            exact sIx_m1 ps.length
          have e0 : HT.sIx ((ps ++ [p]).map PcM.v).length 0 none = 0 := rfl
          rw [e, e0, List.drop_zero, Nat.sub_zero, List.map_append, List.take_append_of_le_length (by rw [List.length_map]; exact Nat.le_refl _), List.take_of_length_le (by rw [List.length_map]; exact Nat.le_refl _)]
        rw [ecut] at hl4
        have tl : z = Str.ofString "tell" ∨ z ≠ Str.ofString "tell" := Decidable.em _
        refine ForL.of (xs := ps.map PcM.v) (fun i σ H' => ∃ (zz : Str) (b7 : Option V), σ = [some (V.ref L), some (V.int c), some (V.int n), some (V.bl false), some (V.ref p.t), some (V.str (nameOf n (c / 9 % 12))), some (V.str zz), b7] ∧ Same H4 H' ∧ isSort zz ∧ (zz = Str.ofString "tell" → ∀ q ∈ ps.take i, ∀ x ∈ q.nms, x.sort = Str.ofString "tell" → x.name ≠ nameOf n (c / 9 % 12))) ⟨z, _, rfl, Same.refl _, hs, fun _ q hq => by simp at hq⟩ (fun i σ H' _ ⟨_, _, _, s5, _⟩ => SqL.of (s5 _ _ hl4)) ?_ ?_
        · rintro i x σ H' hx ⟨zz, b7, rfl, s5, hzz, no⟩
          rw [List.getElem?_map] at hx
          obtain ⟨ot, hot, rfl⟩ := Option.map_eq_some_iff.mp hx
          have om := List.mem_of_getElem? hot
          have oa := ((hP.at_ ot (List.mem_append_left _ om)).mono sm2).mono s5
          have tk : ps.take (i + 1) = ps.take i ++ [ot] := by rw [List.take_succ, hot]; rfl
          walk_at "rd"
          refine ite2 (fun h1 => ?_) (fun h1 => ⟨s5, hzz, fun e => absurd (decide_eq_true e) h1⟩)
          have ez : zz = Str.ofString "tell" := of_decide_eq_true h1
          refine ⟨by rw [sizeLine_eq]; decide, fun q hq => ⟨_, SqT.of (same_new hq _ _ oa.top), _, rfl, ?_⟩⟩
          have sq := same_new (o := HO.tup [V.str (nameOf n (c / 9 % 12)), V.str (Str.ofString "tell")]) hq
          have hqq : upd H' q (HO.tup [V.str (nameOf n (c / 9 % 12)), V.str (Str.ofString "tell")]) q = some (HO.tup [V.str (nameOf n (c / 9 % 12)), V.str (Str.ofString "tell")]) := upd_same
          have oa3 := oa.mono sq
          have s53 := s5.trans sq
          generalize upd H' q (HO.tup [V.str (nameOf n (c / 9 % 12)), V.str (Str.ofString "tell")]) = H3 at *
          refine CompL.of (xs := ot.nms.map ToldM.v) (by rw [List.length_map, sizeLine_eq]; have := b5 ot om; omega) (SqL.of oa3.nl) (fun D i ys H6 => Same H3 H6 ∧ H6 D = some (.lst ys) ∧ ∃ as : List Addr, ys = as.map V.ref ∧ as.map H6 = (ot.nms.take i).map rowO)
            (fun D hD => ⟨same_new hD, upd_same, [], rfl, rfl⟩) ?_ ?_ ?_
          · rintro D i ys H6 hD hi ⟨s6, hDD, as, rfl, e⟩
            refine ⟨SqL.of (s6 _ _ oa3.nl), hDD, ?_⟩
            have h := congrArg List.length e
            rw [List.length_map, List.length_map, List.length_take] at h
            rw [List.length_map]
            omega
          · rintro D i x ys H6 hD hx ⟨s6, hDD, as, rfl, e⟩
            rw [List.getElem?_map] at hx
            obtain ⟨n', hn, rfl⟩ := Option.map_eq_some_iff.mp hx
            have na := s6 _ _ (oa3.ns n' (List.mem_of_getElem? hn))
            have tk' : (ot.nms.take (i + 1)) = ot.nms.take i ++ [n'] := by rw [List.take_succ, hn]; rfl
            walk_at "rd"
            refine ⟨.no .nil, _, SqT.of na, fun z => absurd (show HT.sIx 4 4 (some 2) = 4 from z.2) (by decide), fun q2 hq2 => ⟨by rw [upd_ne (ne_of_none hDD hq2)]; exact hDD, same_upd hD (s6.trans (same_new hq2)), upd_same, as ++ [q2], by rw [List.map_append]; rfl, ?_⟩⟩
            rw [tk', List.map_append, List.map_append]
            congr 1
            · refine rows_mono e fun a ha o ho => ?_
              obtain ⟨_, _, q'⟩ := rows_at e ha
              have nD : a ≠ D := fun z => by rw [z, hDD] at q'; cases q'
              rw [upd_ne nD, upd_ne (ne_of_none ho hq2)]; exact ho
            · show [upd (upd H6 q2 _) D _ q2] = [rowO n']
              rw [upd_ne (Ne.symm (ne_of_none hDD hq2)), upd_same]; rfl
          · rintro D ys H6 hD ⟨s6, hDD, as, rfl, e⟩
            rw [List.length_map, List.take_length] at e
            have any := any_two (z := nameOf n (c / 9 % 12)) (s := Str.ofString "tell") e
            refine ⟨D, rfl, as, SqL.of hDD, fun a => gO (H6 a), fun a ha => ?_, .tup [.str (nameOf n (c / 9 % 12)), .str (Str.ofString "tell")], ?_, ite2 (fun h2 => ⟨s53.trans s6, .inr (.inl rfl), fun e => absurd e (by decide +kernel)⟩) (fun h2 => ⟨s53.trans s6, hzz, fun _ y hy x hx hxs hxn => ?_⟩)⟩
            · obtain ⟨n', _, q'⟩ := rows_at e ha
              show Rep K H6 (gO (H6 a)) (V.ref a) ∧ dep (gO (H6 a)) ≤ 20
              rw [q']
              refine ⟨?_, by simp [gO, rowO, dep, depL]⟩
              simp only [gO, rowO, Rep]
              exact ⟨_, _, rfl, SqT.of q', by simp [RepL, Rep]⟩
            · simp only [Rep]
              exact ⟨_, _, rfl, SqT.of (s6 _ _ hqq), by simp [RepL, Rep]⟩
            · rw [tk] at hy
              rcases List.mem_append.mp hy with hy | hy
              · exact no ez y hy x hx hxs hxn
              · rw [List.mem_singleton.mp hy] at hx
                rw [any] at h2
                exact h2 (List.any_eq_true.mpr ⟨x, hx, by rw [decide_eq_true hxn, decide_eq_true hxs]; rfl⟩)
        · rintro σ H' ⟨zz, b7, rfl, s5, hzz, no⟩
          rw [List.length_map, List.take_length] at no
          have sm2 := sm2.trans s5
          walk_at "rd"
          have hs' := hp.ss st (by rw [hst]; simp)
          refine ⟨_, SqT.of (sm2 _ _ hp.top), _, rfl, .inl ⟨rfl, _, SqL.of (sm2 _ _ hp.nl)⟩, _, SqT.of (sm2 _ _ hp.top), _, rfl, p.sts.length, .inl ⟨_, SqL.of (sm2 _ _ hp.sl), by simp⟩, _, SqT.of (sm2 _ _ hp.top), _, rfl, p.ls, rfl, _, SqL.of (sm2 _ _ hp.sl), st.v, (by rw [hst, List.map_append]; exact atI_last), st.t, rfl, _, SqT.of (sm2 _ _ hs'.top), _, rfl, st.words.length, .inl ⟨_, SqL.of (sm2 _ _ hs'.wd), by simp⟩, by rw [sizeLine_eq]; decide, fun m hm => ⟨p.ln, rfl, p.nms.map ToldM.v, ?_, ?_, ?_⟩⟩
          · rw [upd_ne (ne_of_none (sm2 _ _ hp.nl) hm)]; exact sm2 _ _ hp.nl
          · rw [List.length_map, sizeLine_eq]; omega
          · refine k1 ⟨m, nameOf n (c / 9 % 12), zz, (p.sts.length : Int) - 1, st.words.length⟩ _ (sm2.trans (same_new hm)) upd_same ⟨_, by omega, by omega, rfl⟩ (fun hn => hin ?_) hzz ?_ rfl no
            · rw [e3]; exact inV_str.mpr hn
            · show (p.sts.length : Int) - 1 = ss.length
              rw [hst, List.length_append]; simp
theorem PcOk.empty {c : Int} {t ls ln : Addr} {nm : Str} : PcOk c ⟨t, ls, ln, nm, [], []⟩ := ⟨fun s hs => absurd hs (by simp), fun n hn => absurd hn (by simp), by simp⟩
theorem Drawn.push {c t : Int} {i : Nat} {ps : List PcM} {a ls ln : Addr} (d : Drawn c t i ps) (h : ps.length < 12) : Drawn c t (i + 1) (ps ++ [⟨a, ls, ln, nameOf t ps.length, [], []⟩]) := by
  refine ⟨fun p hp => ?_, by rw [List.length_append]; simp; omega, ?_, ?_, List.pairwise_append.mpr ⟨d.tw, by simp, fun x hx y hy u hu v hv => by rw [List.mem_singleton.mp hy] at hv; cases hv⟩⟩
  · rcases List.mem_append.mp hp with z | z
    · exact d.ok p z
    · rw [List.mem_singleton.mp z]; exact PcOk.empty
  · rw [List.map_append, d.names, List.length_append, List.length_singleton, List.range_succ, List.map_append]; rfl
  · have := d.size
    rw [List.map_append, List.sum_append]
    simp [PcM.size]
    exact this
theorem Drawn.last {c t : Int} {i : Nat} {ps : List PcM} {p p' : PcM} (d : Drawn c t i (ps ++ [p])) (h : PcOk c p') (hn : p'.name = p.name) (hs : p'.size ≤ p.size + 1) (ht : ∀ m ∈ p'.nms, m ∈ p.nms ∨ (m.sort = Str.ofString "tell" → ∀ q ∈ ps, ∀ x ∈ q.nms, x.sort = Str.ofString "tell" → x.name ≠ m.name)) : Drawn c t (i + 1) (ps ++ [p']) := by
  refine ⟨fun q hq => ?_, by have := d.few; simpa using this, ?_, ?_, ?_⟩
  · rcases List.mem_append.mp hq with z | z
    · exact d.ok q (List.mem_append_left _ z)
    · rw [List.mem_singleton.mp z]; exact h
  · have := d.names
    simpa [hn] using this
  · have := d.size
    rw [List.map_append, List.sum_append] at this ⊢
    simp at this ⊢
    omega
  · obtain ⟨t1, _, t3⟩ := List.pairwise_append.mp d.tw
    refine List.pairwise_append.mpr ⟨t1, by simp, fun x hx y hy u hu v hv h1 h2 => ?_⟩
    rw [List.mem_singleton.mp hy] at hv
    rcases ht v hv with z | z
    · exact t3 x hx p (by simp) u hu v z h1 h2
    · exact z h2 x hx u hu h1
theorem Drawn.lastSize {c t : Int} {i : Nat} {ps : List PcM} {p : PcM} (d : Drawn c t i (ps ++ [p])) : p.size ≤ i := by
  have := d.size
  rw [List.map_append, List.sum_append] at this
  simp at this
  omega
theorem sum_ge {ps : List PcM} {p : PcM} (h : p ∈ ps) : p.size ≤ (ps.map PcM.size).sum := by
  induction ps with
  | nil => cases h
  | cons q r ih =>
    rw [List.map_cons, List.sum_cons]
    rcases List.mem_cons.mp h with e | e
    · rw [e]; omega
    · have := ih e; omega
theorem Drawn.fewN {c t : Int} {i : Nat} {ps : List PcM} {p : PcM} (d : Drawn c t i ps) (h : p ∈ ps) (hi : i < 61) : p.nms.length ≤ 61 := by
  have h1 := sum_ge h
  have h2 := d.size
  have h3 : p.nms.length ≤ p.size := by unfold PcM.size; omega
  omega
theorem Drawn.keep {c t : Int} {i : Nat} {ps : List PcM} (d : Drawn c t i ps) : Drawn c t (i + 1) ps := ⟨d.ok, d.few, d.names, Nat.le_succ_of_le d.size, d.tw⟩
theorem PcOk.stretch {c : Int} {p : PcM} {s : StM} (h : PcOk c p) (hs : StOk c s) : PcOk c { p with sts := p.sts ++ [s] } := by
  refine ⟨fun r hr => ?_, fun n hn => ?_, h.nd⟩
  · rcases List.mem_append.mp hr with z | z
    · exact h.sts r z
    · rw [List.mem_singleton.mp z]; exact hs
  · obtain ⟨a, b, k, r, e, q⟩ := h.nms n hn
    exact ⟨a, b, k, r, by rw [List.getElem?_append_left (List.getElem?_eq_some_iff.mp e).1]; exact e, q⟩
theorem PcOk.lastSt {c : Int} {p : PcM} {ss : List StM} {s s' : StM} (h : PcOk c p) (e : p.sts = ss ++ [s]) (hs : StOk c s') (hw : s.words.length ≤ s'.words.length) : PcOk c { p with sts := ss ++ [s'] } := by
  refine ⟨fun r hr => ?_, fun n hn => ?_, h.nd⟩
  · rcases List.mem_append.mp hr with z | z
    · exact h.sts r (by rw [e]; exact List.mem_append_left _ z)
    · rw [List.mem_singleton.mp z]; exact hs
  · obtain ⟨a, b, k, r, g, q1, q2, q3⟩ := h.nms n hn
    rw [e] at g
    by_cases hk : k < ss.length
    · rw [List.getElem?_append_left hk] at g
      exact ⟨a, b, k, r, by show (ss ++ [s'])[k]? = some r; rw [List.getElem?_append_left hk]; exact g, q1, q2, q3⟩
    · rw [List.getElem?_append_right (by omega)] at g
      have hk0 : k - ss.length = 0 := by
        have := (List.getElem?_eq_some_iff.mp g).1
        simp at this; omega
      rw [hk0] at g
      simp at g
      subst g
      exact ⟨a, b, k, s', by show (ss ++ [s'])[k]? = some s'; rw [List.getElem?_append_right (by omega), hk0]; rfl, q1, q2, Int.le_trans q3 (by omega)⟩
theorem PcOk.told {c : Int} {p : PcM} {m : ToldM} (h : PcOk c p) (hm : ToldOk c p.sts m) (hn : m.name ∉ p.nms.map ToldM.name) : PcOk c { p with nms := p.nms ++ [m] } := by
  refine ⟨h.sts, fun n hn => ?_, ?_⟩
  · rcases List.mem_append.mp hn with z | z
    · exact h.nms n z
    · rw [List.mem_singleton.mp z]; exact hm
  · show ((p.nms ++ [m]).map ToldM.name).Nodup
    rw [List.map_append]
    refine List.nodup_append.mpr ⟨h.nd, by simp, fun x hx y hy e => ?_⟩
    have : y = m.name := by simpa using hy
    subst this
    exact hn (e ▸ hx)
theorem step_at {v : Int} : ∃ z : Int, atI [V.int 1, V.int 1, V.int 2, V.int 4, V.int 16, V.int 65536] (v % 6) = some (V.int z) ∧ (z = 1 ∨ z = 2 ∨ z = 4 ∨ z = 16 ∨ z = 65536) := by
  have hd : v % 6 = 0 ∨ v % 6 = 1 ∨ v % 6 = 2 ∨ v % 6 = 3 ∨ v % 6 = 4 ∨ v % 6 = 5 := by omega
  rcases hd with e | e | e | e | e | e <;> rw [e] <;> exact ⟨_, rfl, by decide⟩
theorem kind_at {v : Int} : ∃ z : Str, atI [V.str (Str.ofString "code"), V.str (Str.ofString "data")] (v % 2) = some (V.str z) ∧ isKind z := by
  have hd : v % 2 = 0 ∨ v % 2 = 1 := by omega
  rcases hd with e | e <;> rw [e]
  · exact ⟨_, rfl, .inl rfl⟩
  · exact ⟨_, rfl, .inr rfl⟩
theorem size_last {p : PcM} {ss : List StM} {s : StM} (e : p.sts = ss ++ [s]) : s.words.length + p.sts.length + p.nms.length < p.size := by
  unfold PcM.size
  rw [e, List.map_append, List.sum_append]
  simp
  omega
theorem size_st {p : PcM} {ss : List StM} {s s' : StM} (e : p.sts = ss ++ [s]) (h : s'.words.length = s.words.length + 1) : ({ p with sts := ss ++ [s'] } : PcM).size ≤ p.size + 1 := by
  unfold PcM.size
  rw [e, List.map_append, List.sum_append, List.map_append, List.sum_append]
  simp [h]
  omega
theorem StOk.word {c : Int} {s : StM} {wd : Int} (h : StOk c s) (h1 : 0 ≤ wd) (h2 : wd < 4294967296) : StOk c { s with words := s.words ++ [wd] } := by
  refine ⟨h.kind, h.step, fun i hi => ?_, fun f hf => ?_, h.asc, ?_⟩
  · rcases List.mem_append.mp hi with z | z
    · exact h.words i z
    · rw [List.mem_singleton.mp z]; exact ⟨h1, h2⟩
  · have g := h.fills f hf
    exact ⟨g.rule, g.name, g.lo, by have := g.hi; show f.at_ < ((s.words ++ [wd]).length : Int); rw [List.length_append]; simp; omega, g.addlo, g.addhi, g.soft⟩
  · have := h.few
    show s.fills.length ≤ (s.words ++ [wd]).length
    rw [List.length_append]; simp; omega
theorem StOk.fill {c : Int} {s : StM} {f : FillM} {wd : Int} (h : StOk c s) (hf : FillOk c 1 { f with at_ := 0 }) (ha : f.at_ = s.words.length) (h1 : 0 ≤ wd) (h2 : wd < 4294967296) : StOk c { s with fills := s.fills ++ [f], words := s.words ++ [wd] } := by
  have w := h.word h1 h2
  refine ⟨h.kind, h.step, w.words, fun g hg => ?_, ?_, ?_⟩
  · rcases List.mem_append.mp hg with z | z
    · exact w.fills g z
    · rw [List.mem_singleton.mp z]
      exact ⟨hf.rule, hf.name, by omega, by show f.at_ < ((s.words ++ [wd]).length : Int); rw [List.length_append]; simp; omega, hf.addlo, hf.addhi, hf.soft⟩
  · show (s.fills ++ [f]).Pairwise _
    refine List.pairwise_append.mpr ⟨h.asc, by simp, fun g hg y hy => ?_⟩
    rw [List.mem_singleton.mp hy, ha]
    exact (h.fills g hg).hi
  · have := h.few
    show (s.fills ++ [f]).length ≤ (s.words ++ [wd]).length
    rw [List.length_append, List.length_append]; simp; omega
theorem G__law_drawn (T : Txt K mg A) : FnOk P w K mg base CX0 3 A._law_drawn A.fd__law_drawn ["_law_cells", "_law_names_by", "_law_titles_by", "_law_strict"] (sp_drawn K) := by
  refine T.F__law_drawn.ok sc__law_drawn (fun vs H Q E h => ?_) (fun cdv Ar outer s H vs Q E hr h => ?_)
  · obtain ⟨a, ns, c, t, rfl, _⟩ := h
    rfl
  · obtain ⟨a, ns, c, t, rfl, hS, hl, k⟩ := h
    refine ⟨_, (@pss_cons _ _ _ _ _ (@ps_set _ _ 4 _ _ _ _ sc__law_drawn.nd rfl (by first | exact Or.inl rfl | exact Or.inr rfl) (@pe_lst _ _ _ _ (@pa_nil _)) (by rfl) (by first  |  exact  .inl  rfl  |  exact  .inr  rfl  |  assumption)) (@pss_cons _ _ _ _ _ (@ps_for _ _ _ _ _ _ _ _ PassesOwn.never rfl (@pi_listK _ K _ _ _ rfl (@pv _ 0 _ _ (by rfl) (by first  |  exact  Or.inl  rfl  |  exact  Or.inr  (    Or.inl  rfl  )  |  exact  Or.inr  (    Or.inr  rfl  )) (by decide) (by decide))) (@pg_name _ _ 5 _ sc__law_drawn.nd rfl (by first | exact Or.inl rfl | exact Or.inr rfl) (by first  |  exact  .inl  rfl  |  exact  .inr  rfl  |  assumption)) (@pss_cons _ _ _ _ _ (@ps_set _ _ 6 _ _ _ _ sc__law_drawn.nd rfl (by first | exact Or.inl rfl | exact Or.inr rfl) (@pe_op _ _ _ _ _ _ _ _ op_mod (@pv _ 5 _ _ (by rfl) (by first  |  exact  Or.inl  rfl  |  exact  Or.inr  (    Or.inl  rfl  )  |  exact  Or.inr  (    Or.inr  rfl  )) (by decide) (by decide)) (@pe_int _ _ _ _)) (by rfl) (by first  |  exact  .inl  rfl  |  exact  .inr  rfl  |  assumption)) (@pss_one _ _ _ (@ps_if _ _ _ _ _ _ _ _ (@pt_weak _ _ _ dT1 (@PW.pt _ _ _ (@pw_or _ _ _ _ _ _ _ (@PW.pt _ _ _ (@pw_and _ _ _ _ _ _ _ (@pt_cmpR _ _ _ _ _ _ _ _ op_eq (@pv _ 6 _ _ (by rfl) (by first  |  exact  Or.inl  rfl  |  exact  Or.inr  (    Or.inl  rfl  )  |  exact  Or.inr  (    Or.inr  rfl  )) (by decide) (by decide)) (@pe_int _ _ _ _) (nomark _)) (@pw_and1 _ _ _ _ (@pt_cmpR _ _ _ _ _ _ _ _ op_lt (@pe_callB _ _ _ _ _ _ _ _ _ (call_lenK (K := K) rfl) (by rfl) T.n_len bt_len (@pa_cons _ _ _ _ _ (@pv _ 4 _ _ (by rfl) (by first  |  exact  Or.inl  rfl  |  exact  Or.inr  (    Or.inl  rfl  )  |  exact  Or.inr  (    Or.inr  rfl  )) (by decide) (by decide)) (@pa_nil _) (by rfl)) (by decide) (by decide) (by rfl) (by rfl)) (@pe_int _ _ _ _) (nomark _))))) (@pw_or1 _ _ _ _ (@pt_cmpR _ _ _ _ _ _ _ _ (op_eqDK hr.units (K := K) rfl) (@pv _ 4 _ _ (by rfl) (by first  |  exact  Or.inl  rfl  |  exact  Or.inr  (    Or.inl  rfl  )  |  exact  Or.inr  (    Or.inr  rfl  )) (by decide) (by decide)) (@pe_lst _ _ _ _ (@pa_nil _)) (nomark _))))) ?wt1) (@pss_weak _ _ _ dB1 (@pss_one _ _ _ (@ps_expr _ _ _ _ (@pe_bm _ _ _ _ _ _ _ _ _ _ _ _ PySem.F.plainAttrs_list PySem.F.slot_list_append PySem.F.type_list_append mt_append (@pv _ 4 _ _ (by rfl) (by first  |  exact  Or.inl  rfl  |  exact  Or.inr  (    Or.inl  rfl  )  |  exact  Or.inr  (    Or.inr  rfl  )) (by decide) (by decide)) (@pa_cons _ _ _ _ _ (@pe_tup _ _ _ _ _ (@pa_cons _ _ _ _ _ (@pe_call _ _ _ _ _ _ _ _ _ _ _ _ _ _ _ _ (G__law_name_by T) (hr.mono (by decide)) rfl T.m__law_name_by T.k__law_name_by T.b__law_name_by .nil (@pass0 _) (@pa_cons _ _ _ _ _ (@pv _ 2 _ _ (by rfl) (by first  |  exact  Or.inl  rfl  |  exact  Or.inr  (    Or.inl  rfl  )  |  exact  Or.inr  (    Or.inr  rfl  )) (by decide) (by decide)) (@pa_cons _ _ _ _ _ (@pe_callB _ _ _ _ _ _ _ _ _ (call_lenK (K := K) rfl) (by rfl) T.n_len bt_len (@pa_cons _ _ _ _ _ (@pv _ 4 _ _ (by rfl) (by first  |  exact  Or.inl  rfl  |  exact  Or.inr  (    Or.inl  rfl  )  |  exact  Or.inr  (    Or.inr  rfl  )) (by decide) (by decide)) (@pa_nil _) (by rfl)) (by decide) (by decide) (by rfl) (by rfl)) (@pa_nil _) (by rfl)) (by rfl)) (by decide) (by rfl) (by rfl)) (@pa_cons _ _ _ _ _ (@pe_lst _ _ _ _ (@pa_nil _)) (@pa_cons _ _ _ _ _ (@pe_lst _ _ _ _ (@pa_nil _)) (@pa_nil _) (by rfl)) (by rfl)) (by rfl))) (@pa_nil _) (by rfl)) (by rfl) (by rfl) (by rfl) (by rfl) (by rfl)) (by rfl))) ?wb1) (@pss_one _ _ _ (@ps_if _ _ _ _ _ _ _ _ (@pt_weak _ _ _ dT2 (@PW.pt _ _ _ (@pw_or _ _ _ _ _ _ _ (@pt_cmpR _ _ _ _ _ _ _ _ op_lt (@pv _ 6 _ _ (by rfl) (by first  |  exact  Or.inl  rfl  |  exact  Or.inr  (    Or.inl  rfl  )  |  exact  Or.inr  (    Or.inr  rfl  )) (by decide) (by decide)) (@pe_int _ _ _ _) (nomark _)) (@pw_or1 _ _ _ _ (@pt_cmpR _ _ _ _ _ _ _ _ (op_eqDK hr.units (K := K) rfl) (@pe_ix _ _ _ _ _ _ _ (ix_tupK (K := K) rfl) (@pe_ix _ _ _ _ _ _ _ (ix_listK (K := K) rfl) (@pv _ 4 _ _ (by rfl) (by first  |  exact  Or.inl  rfl  |  exact  Or.inr  (    Or.inl  rfl  )  |  exact  Or.inr  (    Or.inr  rfl  )) (by decide) (by decide)) (@pe_un _ _ _ _ _ _ un_neg (@pe_int _ _ _ _)) (fun _ _ => rfl)) (@pe_int _ _ _ _) (fun _ _ => rfl)) (@pe_lst _ _ _ _ (@pa_nil _)) (nomark _))))) ?wt2) (@pss_weak _ _ _ dB2 (@pss_cons _ _ _ _ _ (@ps_set _ _ 7 _ _ _ _ sc__law_drawn.nd rfl (by first | exact Or.inl rfl | exact Or.inr rfl) (@pe_ix _ _ _ _ _ _ _ (ix_listK (K := K) rfl) (@pe_lst _ _ _ _ (@pa_cons _ _ _ _ _ (@pe_int _ _ _ _) (@pa_cons _ _ _ _ _ (@pe_int _ _ _ _) (@pa_cons _ _ _ _ _ (@pe_int _ _ _ _) (@pa_cons _ _ _ _ _ (@pe_int _ _ _ _) (@pa_cons _ _ _ _ _ (@pe_int _ _ _ _) (@pa_cons _ _ _ _ _ (@pe_int _ _ _ _) (@pa_nil _) (by rfl)) (by rfl)) (by rfl)) (by rfl)) (by rfl)) (by rfl))) (@pe_op _ _ _ _ _ _ _ _ op_mod (@pe_op _ _ _ _ _ _ _ _ op_fdiv (@pv _ 5 _ _ (by rfl) (by first  |  exact  Or.inl  rfl  |  exact  Or.inr  (    Or.inl  rfl  )  |  exact  Or.inr  (    Or.inr  rfl  )) (by decide) (by decide)) (@pe_int _ _ _ _)) (@pe_int _ _ _ _)) (fun _ _ => rfl)) (by rfl) (by first  |  exact  .inl  rfl  |  exact  .inr  rfl  |  assumption)) (@pss_one _ _ _ (@ps_expr _ _ _ _ (@pe_bm _ _ _ _ _ _ _ _ _ _ _ _ PySem.F.plainAttrs_list PySem.F.slot_list_append PySem.F.type_list_append mt_append (@pe_ix _ _ _ _ _ _ _ (ix_tupK (K := K) rfl) (@pe_ix _ _ _ _ _ _ _ (ix_listK (K := K) rfl) (@pv _ 4 _ _ (by rfl) (by first  |  exact  Or.inl  rfl  |  exact  Or.inr  (    Or.inl  rfl  )  |  exact  Or.inr  (    Or.inr  rfl  )) (by decide) (by decide)) (@pe_un _ _ _ _ _ _ un_neg (@pe_int _ _ _ _)) (fun _ _ => rfl)) (@pe_int _ _ _ _) (fun _ _ => rfl)) (@pa_cons _ _ _ _ _ (@pe_tup _ _ _ _ _ (@pa_cons _ _ _ _ _ (@pe_ix _ _ _ _ _ _ _ (ix_listK (K := K) rfl) (@pe_lst _ _ _ _ (@pa_cons _ _ _ _ _ (@pe_str _ _ _ _) (@pa_cons _ _ _ _ _ (@pe_str _ _ _ _) (@pa_nil _) (by rfl)) (by rfl))) (@pe_op _ _ _ _ _ _ _ _ op_mod (@pe_op _ _ _ _ _ _ _ _ op_fdiv (@pv _ 5 _ _ (by rfl) (by first  |  exact  Or.inl  rfl  |  exact  Or.inr  (    Or.inl  rfl  )  |  exact  Or.inr  (    Or.inr  rfl  )) (by decide) (by decide)) (@pe_int _ _ _ _)) (@pe_int _ _ _ _)) (fun _ _ => rfl)) (@pa_cons _ _ _ _ _ (@pv _ 7 _ _ (by rfl) (by first  |  exact  Or.inl  rfl  |  exact  Or.inr  (    Or.inl  rfl  )  |  exact  Or.inr  (    Or.inr  rfl  )) (by decide) (by decide)) (@pa_cons _ _ _ _ _ (@pe_lst _ _ _ _ (@pa_nil _)) (@pa_cons _ _ _ _ _ (@pe_lst _ _ _ _ (@pa_nil _)) (@pa_nil _) (by rfl)) (by rfl)) (by rfl)) (by rfl))) (@pa_nil _) (by rfl)) (by rfl) (by rfl) (by rfl) (by rfl) (by rfl)) (by rfl)))) ?wb2) (@pss_one _ _ _ (@ps_if _ _ _ _ _ _ _ _ (@pt_cmpR _ _ _ _ _ _ _ _ op_lt (@pv _ 6 _ _ (by rfl) (by first  |  exact  Or.inl  rfl  |  exact  Or.inr  (    Or.inl  rfl  )  |  exact  Or.inr  (    Or.inr  rfl  )) (by decide) (by decide)) (@pe_int _ _ _ _) (nomark _)) (@pss_weak _ _ _ dB3 (@pss_cons _ _ _ _ _ (@ps_set _ _ 8 _ _ _ _ sc__law_drawn.nd rfl (by first | exact Or.inl rfl | exact Or.inr rfl) (@pe_ix _ _ _ _ _ _ _ (ix_listK (K := K) rfl) (@pe_ix _ _ _ _ _ _ _ (ix_tupK (K := K) rfl) (@pe_ix _ _ _ _ _ _ _ (ix_listK (K := K) rfl) (@pv _ 4 _ _ (by rfl) (by first  |  exact  Or.inl  rfl  |  exact  Or.inr  (    Or.inl  rfl  )  |  exact  Or.inr  (    Or.inr  rfl  )) (by decide) (by decide)) (@pe_un _ _ _ _ _ _ un_neg (@pe_int _ _ _ _)) (fun _ _ => rfl)) (@pe_int _ _ _ _) (fun _ _ => rfl)) (@pe_un _ _ _ _ _ _ un_neg (@pe_int _ _ _ _)) (fun _ _ => rfl)) (by rfl) (by first  |  exact  .inl  rfl  |  exact  .inr  rfl  |  assumption)) (@pss_cons _ _ _ _ _ (@ps_set _ _ 9 _ _ _ _ sc__law_drawn.nd rfl (by first | exact Or.inl rfl | exact Or.inr rfl) (@pe_call _ _ _ _ _ _ _ _ _ _ _ _ _ _ _ _ (G__law_word_row T) (hr.mono (by decide)) rfl T.m__law_word_row T.k__law_word_row T.b__law_word_row .nil (@pass0 _) (@pa_cons _ _ _ _ _ (@pv _ 5 _ _ (by rfl) (by first  |  exact  Or.inl  rfl  |  exact  Or.inr  (    Or.inl  rfl  )  |  exact  Or.inr  (    Or.inr  rfl  )) (by decide) (by decide)) (@pa_cons _ _ _ _ _ (@pv _ 1 _ _ (by rfl) (by first  |  exact  Or.inl  rfl  |  exact  Or.inr  (    Or.inl  rfl  )  |  exact  Or.inr  (    Or.inr  rfl  )) (by decide) (by decide)) (@pa_nil _) (by rfl)) (by rfl)) (by decide) (by rfl) (by rfl)) (by rfl) (by first  |  exact  .inl  rfl  |  exact  .inr  rfl  |  assumption)) (@pss_cons _ _ _ _ _ (@ps_if _ _ _ _ _ _ _ _ (@pt_cmpR _ _ _ _ _ _ _ _ op_notN (@pv _ 9 _ _ (by rfl) (by first  |  exact  Or.inl  rfl  |  exact  Or.inr  (    Or.inl  rfl  )  |  exact  Or.inr  (    Or.inr  rfl  )) (by decide) (by decide)) (@pe_non _ _ _) (nomark _)) (@pss_one _ _ _ (@ps_expr _ _ _ _ (@pe_bm _ _ _ _ _ _ _ _ _ _ _ _ PySem.F.plainAttrs_list PySem.F.slot_list_append PySem.F.type_list_append mt_append (@pe_ix _ _ _ _ _ _ _ (ix_tupK (K := K) rfl) (@pv _ 8 _ _ (by rfl) (by first  |  exact  Or.inl  rfl  |  exact  Or.inr  (    Or.inl  rfl  )  |  exact  Or.inr  (    Or.inr  rfl  )) (by decide) (by decide)) (@pe_int _ _ _ _) (fun _ _ => rfl)) (@pa_cons _ _ _ _ _ (@pe_op _ _ _ _ _ _ _ _ (op_catTK (K := K) rfl) (@pe_tup _ _ _ _ _ (@pa_cons _ _ _ _ _ (@pe_callB _ _ _ _ _ _ _ _ _ (call_lenK (K := K) rfl) (by rfl) T.n_len bt_len (@pa_cons _ _ _ _ _ (@pe_ix _ _ _ _ _ _ _ (ix_tupK (K := K) rfl) (@pv _ 8 _ _ (by rfl) (by first  |  exact  Or.inl  rfl  |  exact  Or.inr  (    Or.inl  rfl  )  |  exact  Or.inr  (    Or.inr  rfl  )) (by decide) (by decide)) (@pe_int _ _ _ _) (fun _ _ => rfl)) (@pa_nil _) (by rfl)) (by decide) (by decide) (by rfl) (by rfl)) (@pa_nil _) (by rfl))) (@pv _ 9 _ _ (by rfl) (by first  |  exact  Or.inl  rfl  |  exact  Or.inr  (    Or.inl  rfl  )  |  exact  Or.inr  (    Or.inr  rfl  )) (by decide) (by decide))) (@pa_nil _) (by rfl)) (by rfl) (by rfl) (by rfl) (by rfl) (by rfl)) (by rfl))) (@pss_nil _)) (@pss_one _ _ _ (@ps_expr _ _ _ _ (@pe_bm _ _ _ _ _ _ _ _ _ _ _ _ PySem.F.plainAttrs_list PySem.F.slot_list_append PySem.F.type_list_append mt_append (@pe_ix _ _ _ _ _ _ _ (ix_tupK (K := K) rfl) (@pv _ 8 _ _ (by rfl) (by first  |  exact  Or.inl  rfl  |  exact  Or.inr  (    Or.inl  rfl  )  |  exact  Or.inr  (    Or.inr  rfl  )) (by decide) (by decide)) (@pe_int _ _ _ _) (fun _ _ => rfl)) (@pa_cons _ _ _ _ _ (@pe_op _ _ _ _ _ _ _ _ op_mod (@pe_op _ _ _ _ _ _ _ _ op_mul (@pv _ 5 _ _ (by rfl) (by first  |  exact  Or.inl  rfl  |  exact  Or.inr  (    Or.inl  rfl  )  |  exact  Or.inr  (    Or.inr  rfl  )) (by decide) (by decide)) (@pe_int _ _ _ _)) (@pe_int _ _ _ _)) (@pa_nil _) (by rfl)) (by rfl) (by rfl) (by rfl) (by rfl) (by rfl)) (by rfl)))))) ?wb3) (@pss_weak _ _ _ dB4 (@pss_one _ _ _ (@ps_expr _ _ _ _ (@pe_call _ _ _ _ _ _ _ _ _ _ _ _ _ _ _ _ (G__law_told_by T) (hr.mono (by decide)) rfl T.m__law_told_by T.k__law_told_by T.b__law_told_by .nil (@pass0 _) (@pa_cons _ _ _ _ _ (@pv _ 4 _ _ (by rfl) (by first  |  exact  Or.inl  rfl  |  exact  Or.inr  (    Or.inl  rfl  )  |  exact  Or.inr  (    Or.inr  rfl  )) (by decide) (by decide)) (@pa_cons _ _ _ _ _ (@pv _ 5 _ _ (by rfl) (by first  |  exact  Or.inl  rfl  |  exact  Or.inr  (    Or.inl  rfl  )  |  exact  Or.inr  (    Or.inr  rfl  )) (by decide) (by decide)) (@pa_cons _ _ _ _ _ (@pv _ 1 _ _ (by rfl) (by first  |  exact  Or.inl  rfl  |  exact  Or.inr  (    Or.inl  rfl  )  |  exact  Or.inr  (    Or.inr  rfl  )) (by decide) (by decide)) (@pa_cons _ _ _ _ _ (@pv _ 3 _ _ (by rfl) (by first  |  exact  Or.inl  rfl  |  exact  Or.inr  (    Or.inl  rfl  )  |  exact  Or.inr  (    Or.inr  rfl  )) (by decide) (by decide)) (@pa_nil _) (by rfl)) (by rfl)) (by rfl)) (by rfl)) (by decide) (by rfl) (by rfl)) (by rfl))) ?wb4)))))))) (by intro  _  ;  rfl)) (@pss_one _ _ _ (@ps_ret _ _ _ _ (@pv _ 4 _ _ (by rfl) (by first  |  exact  Or.inl  rfl  |  exact  Or.inr  (    Or.inl  rfl  )  |  exact  Or.inr  (    Or.inr  rfl  )) (by decide) (by decide)))))), ?main⟩
    case wt1 =>
      rintro σ H R ⟨H0, a, L, c, t, v, i, ps, ⟨⟨b7, b8, b9, rfl⟩, sm, hP, hf, hd, hi⟩, k⟩
      walk_at "rd"
      have z : (0 : Nat) ≤ sizeLine := Nat.zero_le _
      have eqd : ∀ q, H q = none → rEqD K (V.ref L) (V.ref q) (upd H q (HO.lst [])) fun x H' => ∃ k, x = V.bl k ∧ R k H' := fun q hq => by
        refine ⟨ps.map PcM.d, [], .inl ⟨(hP.mono (same_new hq)).rep, ⟨q, [], rfl, SqL.of upd_same, by simp [RepL]⟩⟩, Nat.le_trans (depL_le fun p _ => dep_pc p) (by decide), _, rfl, k _ _ (same_new hq) (fun h => ?_) fun h e => ?_⟩
        · rw [deqL_nil] at h
          have e := of_decide_eq_true h
          rw [List.map_eq_nil_iff.mp e]; decide
        · rw [deqL_nil, e] at h
          simp at h
      exact ite2 (fun _ => ⟨ps.length, .inl ⟨_, SqL.of hP.top, by simp⟩, ite2 (fun h => k true H (Same.refl _) (fun _ => by have := of_decide_eq_true h; omega) (fun h => by cases h)) (fun _ => ⟨z, eqd⟩)⟩) (fun _ => ⟨z, eqd⟩)
    case wt2 =>
      rintro σ H R ⟨H0, a, L, c, t, v, i, ps, p, ⟨⟨b7, b8, b9, rfl⟩, sm, hP, hf, hd, hi⟩, k⟩
      walk_at "rd"
      have hp := hP.at_ p (by simp)
      refine ite2 (fun _ => k true H (Same.refl _) (fun h => by cases h)) (fun _ => ⟨_, SqL.of hP.top, V.ref p.t, by rw [List.map_append]; exact atI_last, p.t, rfl, _, SqT.of hp.top, _, rfl, Nat.zero_le _, fun q hq => ?_⟩)
      refine ⟨p.sts.map StM.d, [], .inl ⟨⟨p.ls, _, rfl, SqL.of (same_new hq _ _ hp.sl), RepL.map fun s hs => ((hp.ss s hs).mono (same_new hq)).rep⟩, ⟨q, [], rfl, SqL.of upd_same, by simp [RepL]⟩⟩, Nat.le_trans (depL_le fun p _ => dep_st p) (by decide), _, rfl, k _ _ (same_new hq) fun h e => ?_⟩
      rw [deqL_nil, e] at h
      simp at h
    case wb1 =>
      rintro D σ H ⟨H0, a, L, c, t, v, i, ps, ⟨⟨b7, b8, b9, rfl⟩, sm, hP, hf, hd, hi⟩, hz, k⟩
      walk_at "rd"
      refine ⟨.inl ⟨rfl, _, SqL.of hP.top⟩, ps.length, .inl ⟨_, SqL.of hP.top, by simp⟩, Nat.zero_le _, fun ls h1 => ⟨Nat.zero_le _, fun ln h2 => ⟨by rw [sizeLine_eq]; decide, fun tt h3 => ?_⟩⟩⟩
      obtain ⟨n2, h2'⟩ := free_of h2
      obtain ⟨n3, h3a⟩ := free_of h3
      obtain ⟨n4, h3'⟩ := free_of h3a
      have s3 := ((same_new (o := HO.lst []) h1).trans (same_new (o := HO.lst []) h2)).trans (same_new (o := HO.tup [V.str (nameOf t (ps.length : Int)), V.ref ls, V.ref ln]) h3)
      refine ⟨_, s3 _ _ hP.top, by rw [List.length_map, sizeLine_eq]; omega, ?_⟩
      have hL0 := hf L List.mem_cons_self
      refine k _ _ _ ⟨_, _, _, _, _, rfl⟩ (same_upd hL0 (sm.trans s3)) ((hP.mono s3).newPiece upd_same (by rw [upd_ne (Ne.symm n4), upd_ne (Ne.symm n2), upd_same]) (by rw [upd_ne (Ne.symm n3), upd_same]) (Ne.symm n2) (hP.fresh h1) (hP.fresh h2')) (fun b hb => ?_) (hd.push hz)
      rw [listsOf_snoc, ← List.cons_append] at hb
      rcases List.mem_append.mp hb with e | e
      · exact hf b e
      · simp [PcM.lists] at e
        rcases e with e | e
        · rw [e]; exact sm.free h1
        · rw [e]; exact sm.free h2'
    case wb2 =>
      rintro D σ H ⟨H0, a, L, c, t, v, i, ps, p, ⟨⟨b7, b8, b9, rfl⟩, sm, hP, hf, hd, hi⟩, k⟩
      walk_at "rd"
      have hp := hP.at_ p (by simp)
      have hsz := hd.lastSize
      obtain ⟨z, hz, hz'⟩ := step_at (v := v / 9)
      obtain ⟨kd, hk, hk'⟩ := kind_at (v := v / 54)
      refine ⟨by rw [sizeLine_eq]; decide, fun q1 h1 => ⟨⟨by decide, by decide⟩, by decide, _, SqL.of upd_same, _, hz, _, SqL.of (same_new h1 _ _ hP.top), V.ref p.t, by rw [List.map_append]; exact atI_last, p.t, rfl, _, SqT.of (same_new h1 _ _ hp.top), _, rfl, .inl ⟨rfl, _, SqL.of (same_new h1 _ _ hp.sl)⟩, by rw [sizeLine_eq]; decide, fun q2 h2 => ⟨⟨by decide, by decide⟩, by decide, _, SqL.of upd_same, _, hk, Nat.zero_le _, fun lw h3 => ⟨Nat.zero_le _, fun lf h4 => ⟨by rw [sizeLine_eq]; decide, fun tt h5 => ⟨p.ls, rfl, ?_⟩⟩⟩⟩⟩⟩
      have s2 := (same_new (o := HO.lst [V.int 1, V.int 1, V.int 2, V.int 4, V.int 16, V.int 65536]) h1).trans (same_new (o := HO.lst [V.str (Str.ofString "code"), V.str (Str.ofString "data")]) h2)
      generalize upd (upd H q1 (HO.lst [V.int 1, V.int 1, V.int 2, V.int 4, V.int 16, V.int 65536])) q2 (HO.lst [V.str (Str.ofString "code"), V.str (Str.ofString "data")]) = H2 at *
      obtain ⟨n4, h4'⟩ := free_of h4
      obtain ⟨n5, h5a⟩ := free_of h5
      obtain ⟨n6, h5'⟩ := free_of h5a
      have sA := s2.trans (((same_new (o := HO.lst []) h3).trans (same_new (o := HO.lst []) h4)).trans (same_new (o := HO.tup [V.str kd, V.int z, V.ref lw, V.ref lf]) h5))
      refine ⟨_, sA _ _ hp.sl, by rw [List.length_map, sizeLine_eq]; unfold PcM.size at hsz; omega, ?_⟩
      have mem : ∀ b ∈ p.lists, b ∈ L :: listsOf (ps ++ [p]) := fun b hb => List.mem_cons_of_mem _ (by rw [listsOf_snoc]; exact List.mem_append_right _ hb)
      refine k _ _ _ ⟨_, _, _, _, _, rfl⟩ (same_upd (hf p.ls (mem _ (by simp [PcM.lists]))) (sm.trans sA)) ((hP.mono sA).newStretch upd_same (by rw [upd_ne (Ne.symm n6), upd_ne (Ne.symm n4), upd_same]) (by rw [upd_ne (Ne.symm n5), upd_same]) (Ne.symm n4) ((hP.mono s2).fresh h3) ((hP.mono s2).fresh h4')) (fun b hb => ?_) (hd.last ((hd.ok p (by simp)).stretch ⟨hk', hz', by simp, by simp, by simp, by simp⟩) rfl ?_ fun m hm => .inl hm)
      · have hb' : b ∈ L :: listsOf (ps ++ [p]) ∨ b = lw ∨ b = lf := by
          rw [listsOf_snoc] at hb ⊢
          simp only [PcM.lists, List.flatMap_append, List.mem_cons, List.mem_append, List.flatMap_cons, List.flatMap_nil, StM.lists, List.append_nil, List.not_mem_nil, or_false] at hb ⊢
          grind
        rcases hb' with e | e | e
        · exact hf b e
        · rw [e]; exact (sm.trans s2).free h3
        · rw [e]; exact (sm.trans s2).free h4'
      · unfold PcM.size
        simp
        omega
    case wb3 =>
      rintro D σ H ⟨H0, a, L, c, t, v, i, ps, p, ss, s, ⟨⟨b7, b8, b9, rfl⟩, sm, hP, hf, hd, hi⟩, hs, k⟩
      walk_at "rd"
      have hp := hP.at_ p (by simp)
      have hsz := hd.lastSize
      have hs' := hp.ss s (by rw [hs]; simp)
      have hw := size_last hs
      have mem : ∀ b ∈ p.lists, b ∈ L :: listsOf (ps ++ [p]) := fun b hb => List.mem_cons_of_mem _ (by rw [listsOf_snoc]; exact List.mem_append_right _ hb)
      refine ⟨_, SqL.of hP.top, V.ref p.t, by rw [List.map_append]; exact atI_last, p.t, rfl, _, SqT.of hp.top, _, rfl, p.ls, rfl, _, SqL.of hp.sl, s.v, by rw [hs, List.map_append]; exact atI_last, fun H' s1 => ⟨?_, fun f hf1 hf2 hf3 => ?_⟩⟩
      · rw [if_neg (by simp)]
        refine ⟨s.t, rfl, _, SqT.of (s1 _ _ hs'.top), _, rfl, .inl ⟨rfl, _, SqL.of (s1 _ _ hs'.wd)⟩, .inr ⟨by decide, by decide⟩, by decide, s.lw, rfl, _, s1 _ _ hs'.wd, by rw [List.length_map, sizeLine_eq]; omega, ?_⟩
        refine k _ _ _ ⟨_, _, _, _, _, rfl⟩ (same_upd (hf _ (mem _ (by simp [PcM.lists, hs, StM.lists]))) (sm.trans s1)) ((hP.mono s1).newWord hs) (fun b hb => hf b ?_) (hd.last (PcOk.lastSt (hd.ok p (by simp)) hs (((hd.ok p (by simp)).sts s (by rw [hs]; simp)).word (by omega) (by omega)) (by simp)) rfl (size_st hs (by simp)) fun m hm => .inl hm)
        rw [listsOf_snoc] at hb ⊢
        simpa [PcM.lists, hs, StM.lists] using hb
      · rw [if_pos (by simp)]
        refine ⟨s.t, rfl, _, SqT.of (s1 _ _ hs'.top), _, rfl, .inl ⟨rfl, _, SqL.of (s1 _ _ hs'.fl)⟩, s.t, rfl, _, SqT.of (s1 _ _ hs'.top), _, rfl, s.words.length, .inl ⟨_, SqL.of (s1 _ _ hs'.wd), by simp⟩, by rw [sizeLine_eq]; decide, fun q1 h1 => ⟨_, SqT.of upd_same, _, SqT.of (same_new h1 _ _ hf2), by simp, by rw [sizeLine_eq]; simp, fun e => (by cases e), fun _ q2 h2 => ⟨s.lf, rfl, ?_⟩⟩⟩
        have s3 := s1.trans ((same_new (o := HO.tup [V.int (s.words.length : Int)]) h1).trans (same_new (o := HO.tup ([V.int (s.words.length : Int)] ++ [V.str f.rule, V.str f.name, V.int f.add, V.bl f.soft])) h2))
        have hat : FillM.At (upd (upd H' q1 (HO.tup [V.int (s.words.length : Int)])) q2 (HO.tup ([V.int (s.words.length : Int)] ++ [V.str f.rule, V.str f.name, V.int f.add, V.bl f.soft]))) ⟨q2, s.words.length, f.rule, f.name, f.add, f.soft⟩ := upd_same
        generalize upd (upd H' q1 (HO.tup [V.int (s.words.length : Int)])) q2 (HO.tup ([V.int (s.words.length : Int)] ++ [V.str f.rule, V.str f.name, V.int f.add, V.bl f.soft])) = H3 at *
        have P1 := (hP.mono s3).newFill hs hat
        have ok := PcOk.lastSt (p := p) (s' := { s with fills := s.fills ++ [⟨q2, s.words.length, f.rule, f.name, f.add, f.soft⟩], words := s.words ++ [v * 48271 % 4294967296] }) (hd.ok p (by simp)) hs (StOk.fill ((hd.ok p (by simp)).sts s (by rw [hs]; simp)) (f := ⟨q2, s.words.length, f.rule, f.name, f.add, f.soft⟩) ⟨hf1.rule, hf1.name, hf1.lo, hf1.hi, hf1.addlo, hf1.addhi, hf1.soft⟩ rfl (by omega) (by omega)) (by simp)
        have sz := size_st (p := p) (s' := { s with fills := s.fills ++ [⟨q2, s.words.length, f.rule, f.name, f.add, f.soft⟩], words := s.words ++ [v * 48271 % 4294967296] }) hs (by simp)
        have a1 := (P1.at_ _ (List.mem_append_right _ (List.mem_singleton.mpr rfl))).ss _ (List.mem_append_right _ (List.mem_singleton.mpr rfl))
        refine ⟨_, s3 _ _ hs'.fl, by rw [List.length_map, sizeLine_eq]; have := ((hd.ok p (by simp)).sts s (by rw [hs]; simp)).few; omega, s.t, rfl, _, SqT.of a1.top, _, rfl, .inl ⟨rfl, _, SqL.of a1.wd⟩, .inr ⟨by decide, by decide⟩, by decide, s.lw, rfl, _, a1.wd, by rw [List.length_map, sizeLine_eq]; show s.words.length < _; omega, ?_⟩
        have P2 := P1.newWord (i := v * 48271 % 4294967296) rfl
        refine k (ps ++ [({ p with sts := ss ++ [{ s with fills := s.fills ++ [⟨q2, s.words.length, f.rule, f.name, f.add, f.soft⟩], words := s.words ++ [v * 48271 % 4294967296] }] } : PcM)]) _ _ ⟨_, _, _, _, _, rfl⟩ (same_upd (hf _ (mem _ (by simp [PcM.lists, hs, StM.lists]))) (same_upd (hf _ (mem _ (by simp [PcM.lists, hs, StM.lists]))) (sm.trans s3))) (by exact P2) (fun b hb => hf b ?_) (hd.last ok rfl sz fun m hm => .inl hm)
        rw [listsOf_snoc] at hb ⊢
        simpa [PcM.lists, hs, StM.lists] using hb
    case wb4 =>
      rintro D σ H ⟨H0, a, L, c, t, v, i, ps, p, ss, s, ⟨⟨b7, b8, b9, rfl⟩, sm, hP, hf, hd, hi⟩, hs, k⟩
      walk_at "rd"
      have hsz := hd.lastSize
      have hw := size_last hs
      have hfew := hd.few
      have mem : ∀ b ∈ p.lists, b ∈ L :: listsOf (ps ++ [p]) := fun b hb => List.mem_cons_of_mem _ (by rw [listsOf_snoc]; exact List.mem_append_right _ hb)
      refine ⟨ps, p, hP, ss, s, hs, by simp at hfew; omega, by omega, by omega, by omega, fun q hq => hd.fewN (List.mem_append_left _ hq) hi, fun H' s1 => k _ _ _ ⟨_, _, _, _, _, rfl⟩ (sm.trans s1) (hP.mono s1) hf hd.keep, fun m H' s1 hm hn hne hso hst hoff htw => ?_⟩
      refine k _ _ _ ⟨_, _, _, _, _, rfl⟩ (same_upd (hf _ (mem _ (by simp [PcM.lists]))) (sm.trans s1)) ((hP.mono s1).newTold hm) (fun b hb => hf b ?_) (hd.last ((hd.ok p (by simp)).told ⟨hn, hso, ss.length, s, by rw [hs]; simp, hst, by omega, by omega⟩ hne) rfl ?_ fun x hx => ?_)
      · rw [listsOf_snoc] at hb ⊢
        exact hb
      · unfold PcM.size
        simp
        omega
      · rcases List.mem_append.mp hx with y | y
        · exact .inl y
        · rw [List.mem_singleton.mp y]; exact .inr htw
    case main =>
    walk_at "rd"
    refine ⟨by rw [sizeLine_eq]; decide, fun L hL => ?_⟩
    refine ForL.of (xs := ns.map V.int) (fun i σ H' => ∃ ps b5 b6 b7 b8 b9, σ = [some (V.ref a), some (V.int c), some (V.int t), some (V.bl false), some (V.ref L), b5, b6, b7, b8, b9] ∧ Same H H' ∧ Pcs H' L ps ∧ (∀ b ∈ L :: listsOf ps, H b = none) ∧ Drawn c t i ps)
      ⟨[], _, _, _, _, _, rfl, same_new hL, Pcs.nil upd_same, by simpa [listsOf] using hL, ⟨by simp, by simp, rfl, by simp, .nil⟩⟩ (fun i σ H' _ ⟨_, _, _, _, _, _, _, sm, _⟩ => sm.seq hS) ?_ ?_
    · rintro i x σ H' hx ⟨ps, b5, b6, b7, b8, b9, rfl, sm, hP, hf, hd⟩
      rw [List.getElem?_map] at hx
      obtain ⟨v, hv, rfl⟩ := Option.map_eq_some_iff.mp hx
      have hi : i < 61 := Nat.lt_of_lt_of_le (List.getElem?_eq_some_iff.mp hv).1 hl
      walk_at "rd"
      have dc : DC H a L c t v i ps [some (V.ref a), some (V.int c), some (V.int t), some (V.bl false), some (V.ref L), some (V.int v), some (V.int (v % 9)), b7, b8, b9] H' := ⟨⟨_, _, _, rfl⟩, sm, hP, hf, hd, hi⟩
      refine ⟨by decide, H, a, L, c, t, v, i, ps, dc, fun b H1 s1 ht hn => ?_⟩
      cases b with
      | true => exact ⟨H, a, L, c, t, v, i, ps, dc.mono s1, ht rfl, fun ps' σ' H'' ⟨b5, b6, b7, b8, b9, e⟩ s1 s2 s3 s4 => ⟨ps', b5, b6, b7, b8, b9, e, s1, s2, s3, s4⟩⟩
      | false =>
        obtain ⟨ps0, p, e⟩ : ∃ ps0 p, ps = ps0 ++ [p] := by
          rcases List.eq_nil_or_concat ps with e | ⟨l, x, e⟩
          · exact absurd e (hn rfl)
          · exact ⟨l, x, by rw [e, List.concat_eq_append]⟩
        subst e
        refine ⟨H, a, L, c, t, v, i, ps0, p, dc.mono s1, fun b H2 s2 hn2 => ?_⟩
        cases b with
        | true => exact ⟨H, a, L, c, t, v, i, ps0, p, (dc.mono s1).mono s2, fun ps' σ' H'' ⟨b5, b6, b7, b8, b9, e⟩ s1 s2 s3 s4 => ⟨ps', b5, b6, b7, b8, b9, e, s1, s2, s3, s4⟩⟩
        | false =>
          obtain ⟨ss, r, e⟩ : ∃ ss r, p.sts = ss ++ [r] := by
            rcases List.eq_nil_or_concat p.sts with e | ⟨l, x, e⟩
            · exact absurd e (hn2 rfl)
            · exact ⟨l, x, by rw [e, List.concat_eq_append]⟩
          by_cases h6 : v % 9 < 6
          · rw [if_neg (by decide), if_pos (decide_eq_true h6)]
            exact ⟨H, a, L, c, t, v, i, ps0, p, ss, r, (dc.mono s1).mono s2, e, fun ps' σ' H'' ⟨b5, b6, b7, b8, b9, e⟩ s1 s2 s3 s4 => ⟨ps', b5, b6, b7, b8, b9, e, s1, s2, s3, s4⟩⟩
          · rw [if_neg (by decide), if_neg (by simpa using h6)]
            exact ⟨H, a, L, c, t, v, i, ps0, p, ss, r, (dc.mono s1).mono s2, e, fun ps' σ' H'' ⟨b5, b6, b7, b8, b9, e⟩ s1 s2 s3 s4 => ⟨ps', b5, b6, b7, b8, b9, e, s1, s2, s3, s4⟩⟩
    · rintro σ H' ⟨ps, b5, b6, b7, b8, b9, rfl, sm, hP, hf, hd⟩
      rw [List.length_map] at hd
      walk_at "rd"
      exact k L ps H' sm hP hf hd
theorem G__law_copy (T : Txt K mg A) : FnOk P w K mg base CX0 1 A._law_copy A.fd__law_copy ["_law_piece"] (sp_copy K) := by
  refine T.F__law_copy.ok sc__law_copy (fun vs H Q E h => ?_) (fun cdv Ar outer s H vs Q E hr h => ?_)
  · obtain ⟨p, rfl, _⟩ := h
    rfl
  · obtain ⟨p, rfl, hp, b1, b2, b3, k⟩ := h
    refine ⟨_, (@pss_cons _ _ _ _ _ (@ps_setC _ _ _ _ _ _ _ _ _ _ 1 _ _ _ _ _ _ _ sc__law_copy.nd rfl (by first | exact Or.inl rfl | exact Or.inr rfl) (blk_mk (own := ["_law_row"]) (fr := []) (fm := []) rfl (by decide +kernel) (by decide +kernel) (by decide +kernel) .nil) rfl (@pi_listK _ K _ _ _ rfl (@pe_ix _ _ _ _ _ _ _ (ix_tupK (K := K) rfl) (@pv _ 0 _ _ (by rfl) (by first  |  exact  Or.inl  rfl  |  exact  Or.inr  (    Or.inl  rfl  )  |  exact  Or.inr  (    Or.inr  rfl  )) (by decide) (by decide)) (@pe_int _ _ _ _) (fun _ _ => rfl))) (fun _ _ _ => ⟨(@pg_name _ _ 0 _ (by show List.Nodup (["_law_row"] : List Str) ; decide +kernel) rfl (by first | exact Or.inl rfl | exact Or.inr rfl) (by first  |  exact  .inl  rfl  |  exact  .inr  rfl  |  assumption)) , pts_nil, (@pe_tup _ _ _ _ _ (@pa_cons _ _ _ _ _ (@pe_ix _ _ _ _ _ _ _ (ix_tupK (K := K) rfl) (@pv _ 0 _ _ (by rfl) (by first  |  exact  Or.inl  rfl  |  exact  Or.inr  (    Or.inl  rfl  )  |  exact  Or.inr  (    Or.inr  rfl  )) (by decide) (by decide)) (@pe_int _ _ _ _) (fun _ _ => rfl)) (@pa_cons _ _ _ _ _ (@pe_ix _ _ _ _ _ _ _ (ix_tupK (K := K) rfl) (@pv _ 0 _ _ (by rfl) (by first  |  exact  Or.inl  rfl  |  exact  Or.inr  (    Or.inl  rfl  )  |  exact  Or.inr  (    Or.inr  rfl  )) (by decide) (by decide)) (@pe_int _ _ _ _) (fun _ _ => rfl)) (@pa_cons _ _ _ _ _ (@pe_callTy _ _ _ _ _ _ _ _ _ (call_list_ofK (K := K) rfl) (by rfl) T.n_list bt_list (@pa_cons _ _ _ _ _ (@pe_ix _ _ _ _ _ _ _ (ix_tupK (K := K) rfl) (@pv _ 0 _ _ (by rfl) (by first  |  exact  Or.inl  rfl  |  exact  Or.inr  (    Or.inl  rfl  )  |  exact  Or.inr  (    Or.inr  rfl  )) (by decide) (by decide)) (@pe_int _ _ _ _) (fun _ _ => rfl)) (@pa_nil _) (by rfl)) (by decide) (by decide) (by rfl) (by rfl)) (@pa_cons _ _ _ _ _ (@pe_callTy _ _ _ _ _ _ _ _ _ (call_list_ofK (K := K) rfl) (by rfl) T.n_list bt_list (@pa_cons _ _ _ _ _ (@pe_ix _ _ _ _ _ _ _ (ix_tupK (K := K) rfl) (@pv _ 0 _ _ (by rfl) (by first  |  exact  Or.inl  rfl  |  exact  Or.inr  (    Or.inl  rfl  )  |  exact  Or.inr  (    Or.inr  rfl  )) (by decide) (by decide)) (@pe_int _ _ _ _) (fun _ _ => rfl)) (@pa_nil _) (by rfl)) (by decide) (by decide) (by rfl) (by rfl)) (@pa_nil _) (by rfl)) (by rfl)) (by rfl)) (by rfl)))⟩) (by rfl) (by intro  _  ;  rfl) (by first  |  exact  .inl  rfl  |  exact  .inr  rfl  |  assumption)) (@pss_one _ _ _ (@ps_ret _ _ _ _ (@pe_tup _ _ _ _ _ (@pa_cons _ _ _ _ _ (@pe_ix _ _ _ _ _ _ _ (ix_tupK (K := K) rfl) (@pv _ 0 _ _ (by rfl) (by first  |  exact  Or.inl  rfl  |  exact  Or.inr  (    Or.inl  rfl  )  |  exact  Or.inr  (    Or.inr  rfl  )) (by decide) (by decide)) (@pe_int _ _ _ _) (fun _ _ => rfl)) (@pa_cons _ _ _ _ _ (@pv _ 1 _ _ (by rfl) (by first  |  exact  Or.inl  rfl  |  exact  Or.inr  (    Or.inl  rfl  )  |  exact  Or.inr  (    Or.inr  rfl  )) (by decide) (by decide)) (@pa_cons _ _ _ _ _ (@pe_callTy _ _ _ _ _ _ _ _ _ (call_list_ofK (K := K) rfl) (by rfl) T.n_list bt_list (@pa_cons _ _ _ _ _ (@pe_ix _ _ _ _ _ _ _ (ix_tupK (K := K) rfl) (@pv _ 0 _ _ (by rfl) (by first  |  exact  Or.inl  rfl  |  exact  Or.inr  (    Or.inl  rfl  )  |  exact  Or.inr  (    Or.inr  rfl  )) (by decide) (by decide)) (@pe_int _ _ _ _) (fun _ _ => rfl)) (@pa_nil _) (by rfl)) (by decide) (by decide) (by rfl) (by rfl)) (@pa_nil _) (by rfl)) (by rfl)) (by rfl)))))), ?_⟩
    walk_at "rd"
    refine ⟨_, SqT.of hp.top, _, rfl, ?_⟩
    refine CompL.of (by rw [List.length_map, sizeLine_eq]; omega) (SqL.of hp.sl) (fun D i ys H' => ∃ qs : List StM, ys = qs.map StM.v ∧ qs.map StM.core = (p.sts.take i).map StM.core ∧ Same H H' ∧ H' D = some (.lst ys) ∧ (∀ q ∈ qs, q.At H') ∧ (∀ b ∈ qs.flatMap StM.lists, H b = none ∧ b ≠ D) ∧ (qs.flatMap StM.lists).Nodup)
      (fun D hD => ⟨[], rfl, rfl, same_new hD, upd_same, by simp, by simp, by simp⟩) ?_ ?_ ?_
    · rintro D i ys H' hD hi ⟨qs, rfl, hc, sm, hDD, _⟩
      refine ⟨SqL.of (sm _ _ hp.sl), hDD, ?_⟩
      have e := congrArg List.length hc
      rw [List.length_map, List.length_map] at e
      rw [List.length_map, e]
      exact List.length_take_le ..
    · rintro D i x ys H' hD hx ⟨qs, rfl, hc, sm, hDD, hat, hnew, hnd⟩
      rw [List.getElem?_map] at hx
      obtain ⟨s, hs, rfl⟩ := Option.map_eq_some_iff.mp hx
      have hs' := hp.ss s (List.mem_of_getElem? hs)
      walk_at "rd"
      refine ⟨.no .nil, _, SqT.of (sm _ _ hs'.top), _, rfl, _, SqT.of (sm _ _ hs'.top), _, rfl, _, SqT.of (sm _ _ hs'.top), _, rfl, s.lw, rfl, _, .inl (SqL.of (sm _ _ hs'.wd)), fun lw h1 => ⟨_, SqT.of (same_new h1 _ _ (sm _ _ hs'.top)), _, rfl, s.lf, rfl, _, .inl (SqL.of (same_new h1 _ _ (sm _ _ hs'.fl))), fun lf h2 => ⟨by rw [sizeLine_eq]; decide, fun t h3 => ?_⟩⟩⟩
      obtain ⟨n2, h2'⟩ := free_of h2
      obtain ⟨n3, h3a⟩ := free_of h3
      obtain ⟨n4, h3'⟩ := free_of h3a
      have s3 := ((same_new (o := HO.lst (s.words.map V.int)) h1).trans (same_new (o := HO.lst (s.fills.map FillM.v)) h2)).trans (same_new (o := HO.tup [V.str s.kind, V.int s.step, V.ref lw, V.ref lf]) h3)
      have e1 : upd (upd (upd H' lw (HO.lst (s.words.map V.int))) lf (HO.lst (s.fills.map FillM.v))) t (HO.tup [V.str s.kind, V.int s.step, V.ref lw, V.ref lf]) lw = some (HO.lst (s.words.map V.int)) := by rw [upd_ne (Ne.symm n4), upd_ne (Ne.symm n2), upd_same]
      have e2 : upd (upd (upd H' lw (HO.lst (s.words.map V.int))) lf (HO.lst (s.fills.map FillM.v))) t (HO.tup [V.str s.kind, V.int s.step, V.ref lw, V.ref lf]) lf = some (HO.lst (s.fills.map FillM.v)) := by rw [upd_ne (Ne.symm n3), upd_same]
      have e3 : upd (upd (upd H' lw (HO.lst (s.words.map V.int))) lf (HO.lst (s.fills.map FillM.v))) t (HO.tup [V.str s.kind, V.int s.step, V.ref lw, V.ref lf]) t = some (HO.tup [V.str s.kind, V.int s.step, V.ref lw, V.ref lf]) := upd_same
      generalize upd (upd (upd H' lw (HO.lst (s.words.map V.int))) lf (HO.lst (s.fills.map FillM.v))) t (HO.tup [V.str s.kind, V.int s.step, V.ref lw, V.ref lf]) = H3 at *
      have bt : But H3 (upd H3 D (HO.lst (qs.map StM.v ++ [V.ref t]))) D := But.upd (s3 _ _ hDD)
      have d1 : lw ≠ D := Ne.symm (ne_of_none hDD h1)
      have d2 : lf ≠ D := Ne.symm (ne_of_none hDD h2')
      refine ⟨s3 _ _ hDD, qs ++ [⟨t, lw, lf, s.kind, s.step, s.words, s.fills⟩], by simp, ?_, same_upd hD (sm.trans s3), upd_same, fun q hq => ?_, fun b hb => ?_, ?_⟩
      · rw [List.map_append, hc, List.take_succ, hs, List.map_append]; rfl
      · rcases List.mem_append.mp hq with z | z
        · exact ((hat q z).mono s3).but bt fun y => (hnew D (List.mem_flatMap.mpr ⟨q, z, y⟩)).2 rfl
        · rw [List.mem_singleton.mp z]
          exact ⟨bt.tup e3, bt.2 _ _ e1 d1, bt.2 _ _ e2 d2, fun f hf => (((hs'.fs f hf).mono sm).mono s3).but bt⟩
      · rw [List.flatMap_append] at hb
        rcases List.mem_append.mp hb with z | z
        · exact hnew b z
        · simp [StM.lists] at z
          rcases z with e | e
          · rw [e]; exact ⟨sm.free h1, d1⟩
          · rw [e]; exact ⟨sm.free h2', d2⟩
      · rw [List.flatMap_append]
        refine List.nodup_append.mpr ⟨hnd, by simp [StM.lists, Ne.symm n2], fun x hx y hy e => ?_⟩
        obtain ⟨q, hq, hb'⟩ := List.mem_flatMap.mp hx
        obtain ⟨xs, he⟩ := (hat q hq).list hb'
        simp [StM.lists] at hy
        rcases hy with z | z
        · rw [e, z, h1] at he; cases he
        · rw [e, z, h2'] at he; cases he
    · rintro D ys H' hD ⟨qs, rfl, hc, sm, hDD, hat, hnew, hnd⟩
      rw [List.length_map, List.take_length] at hc
      refine ⟨_, SqT.of (sm _ _ hp.top), _, rfl, _, SqT.of (sm _ _ hp.top), _, rfl, p.ln, rfl, _, .inl (SqL.of (sm _ _ hp.nl)), fun l hl => ⟨by rw [sizeLine_eq]; decide, fun t ht => ?_⟩⟩
      obtain ⟨n1, ht'⟩ := free_of ht
      have s2 := (same_new (o := HO.lst (p.nms.map ToldM.v)) hl).trans (same_new (o := HO.tup [V.str p.name, V.ref D, V.ref l]) ht)
      have nl : ∀ b ∈ qs.flatMap StM.lists, b ≠ l ∧ b ≠ t := fun b hb => by
        obtain ⟨q, hq, hb'⟩ := List.mem_flatMap.mp hb
        obtain ⟨xs, e⟩ := (hat q hq).list hb'
        exact ⟨ne_of_none e hl, ne_of_none e ht'⟩
      refine k ⟨t, D, l, p.name, qs, p.nms⟩ _ (sm.trans s2) ⟨upd_same, s2 _ _ hDD, by rw [upd_ne (Ne.symm n1), upd_same], fun q hq => (hat q hq).mono s2, fun n hn => ((hp.ns n hn).mono sm).mono s2⟩ ⟨rfl, rfl, hc⟩ (fun b hb => ?_) ?_
      · simp only [PcM.lists, List.mem_cons] at hb
        rcases hb with e | e | e
        · rw [e]; exact hD
        · rw [e]; exact sm.free hl
        · exact (hnew b e).1
      · show (D :: l :: qs.flatMap StM.lists).Nodup
        refine List.nodup_cons.mpr ⟨fun z => ?_, List.nodup_cons.mpr ⟨fun z => (nl l z).1 rfl, hnd⟩⟩
        rcases List.mem_cons.mp z with e | e
        · exact ne_of_none hDD hl e
        · exact (hnew D e).2 rfl

theorem G_places_told (T : Txt K mg A) : FnOk P w K mg base CX0 1 A.places_told A.fd_places_told ["piece", "told_by"] sp_places := by
  refine T.F_places_told.ok sc_places_told (fun vs H Q E h => ?_) (fun cdv Ar outer s H vs Q E hr h => ?_)
  · obtain ⟨p, z, rfl, _⟩ := h
    rfl
  · obtain ⟨p, z, rfl, hp, hf, hd, k⟩ := h
    refine ⟨_, (@pss_cons _ _ _ _ _ (@ps_set _ _ 2 _ _ _ _ sc_places_told.nd rfl (by first | exact Or.inl rfl | exact Or.inr rfl) (@pe_dnewK _ _) (by rfl) (by first  |  exact  .inl  rfl  |  exact  .inr  rfl  |  assumption)) (@pss_cons _ _ _ _ _ (@ps_for _ _ _ _ _ _ _ _ PassesOwn.never rfl (@pi_listK _ K _ _ _ rfl (@pe_ix _ _ _ _ _ _ _ (ix_tupK (K := K) rfl) (@pv _ 0 _ _ (by rfl) (by first  |  exact  Or.inl  rfl  |  exact  Or.inr  (    Or.inl  rfl  )  |  exact  Or.inr  (    Or.inr  rfl  )) (by decide) (by decide)) (@pe_int _ _ _ _) (fun _ _ => rfl))) (@pg_tupK _ K _ _ _ 4 _ rfl rfl (@pgs_cons _ _ _ _ _ (@pg_name _ _ 3 _ sc_places_told.nd rfl (by first | exact Or.inl rfl | exact Or.inr rfl) (by first  |  exact  .inl  rfl  |  exact  .inr  rfl  |  assumption)) (@pgs_cons _ _ _ _ _ (@pg_name _ _ 4 _ sc_places_told.nd rfl (by first | exact Or.inl rfl | exact Or.inr rfl) (by first  |  exact  .inl  rfl  |  exact  .inr  rfl  |  assumption)) (@pgs_cons _ _ _ _ _ (@pg_name _ _ 5 _ sc_places_told.nd rfl (by first | exact Or.inl rfl | exact Or.inr rfl) (by first  |  exact  .inl  rfl  |  exact  .inr  rfl  |  assumption)) (@pgs_cons _ _ _ _ _ (@pg_name _ _ 6 _ sc_places_told.nd rfl (by first | exact Or.inl rfl | exact Or.inr rfl) (by first  |  exact  .inl  rfl  |  exact  .inr  rfl  |  assumption)) (@pgs_nil _) (by rfl)) (by rfl)) (by rfl)) (by rfl)) (by rfl) (by rfl)) (@pss_one _ _ _ (@ps_if _ _ _ _ _ _ _ _ (@pt_cmpR _ _ _ _ _ _ _ _ op_eq (@pv _ 4 _ _ (by rfl) (by first  |  exact  Or.inl  rfl  |  exact  Or.inr  (    Or.inl  rfl  )  |  exact  Or.inr  (    Or.inr  rfl  )) (by decide) (by decide)) (@pv _ 1 _ _ (by rfl) (by first  |  exact  Or.inl  rfl  |  exact  Or.inr  (    Or.inl  rfl  )  |  exact  Or.inr  (    Or.inr  rfl  )) (by decide) (by decide)) (nomark _)) (@pss_one _ _ _ (@ps_dput _ _ _ _ _ _ _ _ _ (hu_of hr) (@pv _ 2 _ _ (by rfl) (by first  |  exact  Or.inl  rfl  |  exact  Or.inr  (    Or.inl  rfl  )  |  exact  Or.inr  (    Or.inr  rfl  )) (by decide) (by decide)) (@pv _ 3 _ _ (by rfl) (by first  |  exact  Or.inl  rfl  |  exact  Or.inr  (    Or.inl  rfl  )  |  exact  Or.inr  (    Or.inr  rfl  )) (by decide) (by decide)) (@pe_tup _ _ _ _ _ (@pa_cons _ _ _ _ _ (@pe_ix _ _ _ _ _ _ _ (ix_tupK (K := K) rfl) (@pv _ 0 _ _ (by rfl) (by first  |  exact  Or.inl  rfl  |  exact  Or.inr  (    Or.inl  rfl  )  |  exact  Or.inr  (    Or.inr  rfl  )) (by decide) (by decide)) (@pe_int _ _ _ _) (fun _ _ => rfl)) (@pa_cons _ _ _ _ _ (@pv _ 5 _ _ (by rfl) (by first  |  exact  Or.inl  rfl  |  exact  Or.inr  (    Or.inl  rfl  )  |  exact  Or.inr  (    Or.inr  rfl  )) (by decide) (by decide)) (@pa_cons _ _ _ _ _ (@pv _ 6 _ _ (by rfl) (by first  |  exact  Or.inl  rfl  |  exact  Or.inr  (    Or.inl  rfl  )  |  exact  Or.inr  (    Or.inr  rfl  )) (by decide) (by decide)) (@pa_nil _) (by rfl)) (by rfl)) (by rfl))) rfl)) (@pss_nil _))) (by intro  _  ;  rfl)) (@pss_one _ _ _ (@ps_ret _ _ _ _ (@pv _ 2 _ _ (by rfl) (by first  |  exact  Or.inl  rfl  |  exact  Or.inr  (    Or.inl  rfl  )  |  exact  Or.inr  (    Or.inr  rfl  )) (by decide) (by decide)))))), ?_⟩
    walk_at "rd"
    intro d hdn
    refine ⟨_, SqT.of (same_new hdn _ _ hp.top), _, rfl, ?_⟩
    refine ForL.of (xs := p.nms.map ToldM.v) (fun i σ H' => ∃ ms b3 b4 b5 b6, σ = [some p.v, some (V.str z), some (V.ref d), b3, b4, b5, b6] ∧ Same H H' ∧ Tab H' d ms ∧ ms.map (fun m => (m.name, m.a, m.b, m.c)) = ((p.nms.take i).filter fun n => decide (n.sort = z)).map (fun n => (n.name, p.name, n.st, n.off)))
      ⟨[], _, _, _, _, rfl, same_new hdn, ⟨upd_same, by simp⟩, rfl⟩ (fun i σ H' _ ⟨_, _, _, _, _, _, sm, _⟩ => SqL.of (sm _ _ hp.nl)) ?_ ?_
    · rintro i x σ H' hx ⟨ms, b3, b4, b5, b6, rfl, sm, tab, e⟩
      rw [List.getElem?_map] at hx
      obtain ⟨n, hn, rfl⟩ := Option.map_eq_some_iff.mp hx
      have na := sm _ _ (hp.ns n (List.mem_of_getElem? hn))
      have tk : (p.nms.take (i + 1)) = p.nms.take i ++ [n] := by rw [List.take_succ, hn]; rfl
      have hnew : n.name ∉ ms.map TabM.name := by
        have e1 : ms.map TabM.name = ((p.nms.take i).filter fun n => decide (n.sort = z)).map ToldM.name := by
          have := congrArg (List.map (·.1)) e
          rw [List.map_map, List.map_map] at this
          exact this
        rw [e1]
        intro h
        obtain ⟨n', h1, h2⟩ := List.mem_map.mp h
        have h3 := (List.mem_filter.mp h1).1
        have nd : ((p.nms.take (i + 1)).map ToldM.name).Nodup := List.Nodup.sublist (List.Sublist.map _ (List.take_sublist _ _)) hd
        rw [tk, List.map_append] at nd
        exact (List.nodup_append.mp nd).2.2 n'.name (List.mem_map.mpr ⟨n', h3, rfl⟩) n.name (by simp) h2
      have hlen : ms.length ≤ 61 := by
        have := congrArg List.length e
        rw [List.length_map, List.length_map] at this
        have h1 := List.length_filter_le (fun n : ToldM => decide (n.sort = z)) (p.nms.take i)
        have h2 := List.length_take_le i p.nms
        have h3 : (p.nms.take i).length ≤ p.nms.length := by rw [List.length_take]; omega
        omega
      walk_at "rd"
      refine ⟨_, SqT.of na, rfl, _, _, rfl, _, _, rfl, _, _, rfl, _, _, rfl, rfl, rfl, ite2 (fun hz => ?_) (fun hz => ?_)⟩
      · have hz' : n.sort = z := by
          have := of_decide_eq_true hz
          injection this
        refine ⟨_, SqT.of (sm _ _ hp.top), _, rfl, by rw [sizeLine_eq]; decide, fun q hq => ⟨_, DPut.k (k := Sum.inr n.name) (same_new hq _ _ tab.top) (by rw [List.length_map, sizeLine_eq]; omega), same_upd hdn (sm.trans (same_new hq)), _, (tab.mono (same_new hq)).put (m := ⟨n.name, q, p.name, n.st, n.off⟩) upd_same, ?_⟩⟩
        rw [putT_new hnew, List.map_append, e, tk, List.filter_append, List.map_append]
        simp [hz']
      · have hz' : n.sort ≠ z := fun y => hz (decide_eq_true (by rw [y]))
        refine ⟨sm, ms, tab, ?_⟩
        rw [tk, List.filter_append, e]
        simp [hz']
    · rintro σ H' ⟨ms, b3, b4, b5, b6, rfl, sm, tab, e⟩
      rw [List.length_map, List.take_length] at e
      walk_at "rd"
      exact k d ms H' sm tab e hdn
theorem val_no {es : List (Str × Addr × Str)} {z : Str} (h : z ∉ es.map (·.1)) : valV (es.map fun e => ((.inr e.1 : Key), V.ref e.2.1)) (.inr z) = none := by
  unfold valV
  rw [List.find?_eq_none.mpr]
  · rfl
  · intro x hx
    obtain ⟨e, he, rfl⟩ := List.mem_map.mp hx
    intro q
    exact h (List.mem_map.mpr ⟨e, he, Sum.inr.inj (of_decide_eq_true q)⟩)
theorem put_no {es : List (Str × Addr × Str)} {z : Str} {v : V} (h : z ∉ es.map (·.1)) : putK (es.map fun e => ((.inr e.1 : Key), V.ref e.2.1)) (.inr z) v = (es.map fun e => ((.inr e.1 : Key), V.ref e.2.1)) ++ [(.inr z, v)] := by
  unfold putK
  rw [if_neg]
  intro q
  obtain ⟨x, hx, q⟩ := List.any_eq_true.mp q
  obtain ⟨e, he, rfl⟩ := List.mem_map.mp hx
  exact h (List.mem_map.mpr ⟨e, he, Sum.inr.inj (of_decide_eq_true q)⟩)
theorem val_in {kvs : List (Key × V)} {k : Key} {v : V} (h : (k, v) ∈ kvs) : ∃ v', valV kvs k = some v' ∧ (k, v') ∈ kvs := by
  unfold valV
  cases hf : kvs.find? fun kv => decide (kv.1 = k) with
  | none => exact absurd (decide_eq_true (rfl : k = k)) (List.find?_eq_none.mp hf (k, v) h)
  | some x =>
    have h1 := List.find?_some hf
    have h2 := List.mem_of_find?_eq_some hf
    refine ⟨x.2, rfl, ?_⟩
    rw [← (of_decide_eq_true h1 : x.1 = k)]; exact h2
set_option genInjectivity false in
structure TwI (H : Hp) (d : Addr) (es : List (Str × Addr × Str)) : Prop where
  top : H d = some (.dK (es.map fun e => ((.inr e.1 : Key), V.ref e.2.1)))
  one : ∀ e ∈ es, H e.2.1 = some (.lst [.str e.2.2])
theorem G_refuse_twice (T : Txt K mg A) : FnOk P w K mg base CX0 2 A.refuse_twice A.fd_refuse_twice ["ordered"] sp_twiceN := by
  refine T.F_refuse_twice.ok sc_refuse_twice (fun vs H Q E h => ?_) (fun cdv Ar outer s H vs Q E hr h => ?_)
  · obtain ⟨L, ps, rfl, _⟩ := h
    rfl
  · obtain ⟨L, ps, rfl, hP, hN, k⟩ := h
    refine ⟨_, (@pss_cons _ _ _ _ _ (@ps_set _ _ 1 _ _ _ _ sc_refuse_twice.nd rfl (by first | exact Or.inl rfl | exact Or.inr rfl) (@pe_dnewK _ _) (by rfl) (by first  |  exact  .inl  rfl  |  exact  .inr  rfl  |  assumption)) (@pss_cons _ _ _ _ _ (@ps_for _ _ _ _ _ _ _ _ PassesOwn.never rfl (@pi_listK _ K _ _ _ rfl (@pv _ 0 _ _ (by rfl) (by first  |  exact  Or.inl  rfl  |  exact  Or.inr  (    Or.inl  rfl  )  |  exact  Or.inr  (    Or.inr  rfl  )) (by decide) (by decide))) (@pg_name _ _ 2 _ sc_refuse_twice.nd rfl (by first | exact Or.inl rfl | exact Or.inr rfl) (by first  |  exact  .inl  rfl  |  exact  .inr  rfl  |  assumption)) (@pss_one _ _ _ (@ps_for _ _ _ _ _ _ _ _ PassesOwn.never rfl (@pi_dict _ _ _ _ (@pe_call _ _ _ _ _ _ _ _ _ _ _ _ _ _ _ _ (G_places_told T) (hr.mono (by decide)) rfl T.m_places_told T.k_places_told T.b_places_told .nil (@pass0 _) (@pa_cons _ _ _ _ _ (@pv _ 2 _ _ (by rfl) (by first  |  exact  Or.inl  rfl  |  exact  Or.inr  (    Or.inl  rfl  )  |  exact  Or.inr  (    Or.inr  rfl  )) (by decide) (by decide)) (@pa_cons _ _ _ _ _ (@pe_str _ _ _ _) (@pa_nil _) (by rfl)) (by rfl)) (by decide) (by rfl) (by rfl))) (@pg_name _ _ 3 _ sc_refuse_twice.nd rfl (by first | exact Or.inl rfl | exact Or.inr rfl) (by first  |  exact  .inl  rfl  |  exact  .inr  rfl  |  assumption)) (@pss_one _ _ _ (@ps_expr _ _ _ _ (@pe_bm _ _ _ _ _ _ _ _ _ _ _ _ PySem.F.plainAttrs_list PySem.F.slot_list_append PySem.F.type_list_append mt_append (@pe_dsd _ _ _ _ _ _ _ _ _ (hu_of hr) (@pv _ 1 _ _ (by rfl) (by first  |  exact  Or.inl  rfl  |  exact  Or.inr  (    Or.inl  rfl  )  |  exact  Or.inr  (    Or.inr  rfl  )) (by decide) (by decide)) (@pv _ 3 _ _ (by rfl) (by first  |  exact  Or.inl  rfl  |  exact  Or.inr  (    Or.inl  rfl  )  |  exact  Or.inr  (    Or.inr  rfl  )) (by decide) (by decide)) (@pe_lst _ _ _ _ (@pa_nil _)) ⟨rfl, rfl, rfl, rfl⟩) (@pa_cons _ _ _ _ _ (@pe_ix _ _ _ _ _ _ _ (ix_tupK (K := K) rfl) (@pv _ 2 _ _ (by rfl) (by first  |  exact  Or.inl  rfl  |  exact  Or.inr  (    Or.inl  rfl  )  |  exact  Or.inr  (    Or.inr  rfl  )) (by decide) (by decide)) (@pe_int _ _ _ _) (fun _ _ => rfl)) (@pa_nil _) (by rfl)) (by rfl) (by rfl) (by rfl) (by rfl) (by rfl)) (by rfl))) (by intro  _  ;  rfl))) (by intro  _  ;  rfl)) (@pss_cons _ _ _ _ _ (@ps_setC _ _ _ _ _ _ _ _ _ _ 4 _ _ _ _ _ _ _ sc_refuse_twice.nd rfl (by first | exact Or.inl rfl | exact Or.inr rfl) (blk_mk (own := ["name"]) (fr := ["tellers"]) (fm := [1]) rfl (by decide +kernel) (by decide +kernel) (by decide +kernel) (.cons rfl (by first | exact Or.inl rfl | exact Or.inr rfl) rfl .nil)) rfl (@pi_dict _ _ _ _ (@pv _ 1 _ _ (by rfl) (by first  |  exact  Or.inl  rfl  |  exact  Or.inr  (    Or.inl  rfl  )  |  exact  Or.inr  (    Or.inr  rfl  )) (by decide) (by decide))) (fun _ _ _ => ⟨(@pg_name _ _ 0 _ (by show List.Nodup (["name", "tellers"] : List Str) ; decide +kernel) rfl (by first | exact Or.inl rfl | exact Or.inr rfl) (by first  |  exact  .inl  rfl  |  exact  .inr  rfl  |  assumption)) , (@pts_one _ _ _ (@pt_cmpR _ _ _ _ _ _ _ _ op_gt (@pe_callB _ _ _ _ _ _ _ _ _ (call_lenK (K := K) rfl) (by rfl) T.n_len bt_len (@pa_cons _ _ _ _ _ (@pe_dget _ _ _ _ _ _ (hu_of hr) (@pv _ 1 _ _ (by rfl) (by first  |  exact  Or.inl  rfl  |  exact  Or.inr  (    Or.inl  rfl  )  |  exact  Or.inr  (    Or.inr  rfl  )) (by decide) (by decide)) (@pv _ 0 _ _ (by rfl) (by first  |  exact  Or.inl  rfl  |  exact  Or.inr  (    Or.inl  rfl  )  |  exact  Or.inr  (    Or.inr  rfl  )) (by decide) (by decide)) (fun _ _ => rfl)) (@pa_nil _) (by rfl)) (by decide) (by decide) (by rfl) (by rfl)) (@pe_int _ _ _ _) (nomark _))) , (@pv _ 0 _ _ (by rfl) (by first  |  exact  Or.inl  rfl  |  exact  Or.inr  (    Or.inl  rfl  )  |  exact  Or.inr  (    Or.inr  rfl  )) (by decide) (by decide))⟩) (by rfl) (by intro  _  ;  rfl) (by first  |  exact  .inl  rfl  |  exact  .inr  rfl  |  assumption)) (@pss_one _ _ _ (@ps_if _ _ _ _ _ _ _ _ (@pt_truth _ _ _ (@pv _ 4 _ _ (by rfl) (by first  |  exact  Or.inl  rfl  |  exact  Or.inr  (    Or.inl  rfl  )  |  exact  Or.inr  (    Or.inr  rfl  )) (by decide) (by decide)) (fun _ => rfl)) (@pss_cons _ _ _ _ _ (@ps_never _ _) (@pss_one _ _ _ (@ps_never _ _))) (@pss_nil _)))))), ?_⟩
    walk_at "rd"
    intro d hd
    refine ForL.of (xs := ps.map PcM.v) (fun i σ H' => ∃ (es : List (Str × Addr × Str)) (b2 b3 : Option V), σ = [some (.ref L), some (.ref d), b2, b3, none, none] ∧ Same H H' ∧ TwI H' d es ∧ es.length ≤ 61 * i ∧ ∀ e ∈ es, ∃ p ∈ ps.take i, ∃ n ∈ p.nms, n.sort = sTell ∧ n.name = e.1)
      ⟨[], _, _, rfl, same_new hd, ⟨upd_same, fun e he => by cases he⟩, by simp, fun e he => by cases he⟩ ?_ ?_ ?_
    · rintro i σ H' hi ⟨es, b2, b3, rfl, s1, _⟩
      exact SqL.of (s1 _ _ hP.top)
    · rintro i v σ H' hv ⟨es, b2, b3, rfl, s1, tw, el, ek⟩
      rw [List.getElem?_map] at hv
      obtain ⟨p, hp, rfl⟩ := Option.map_eq_some_iff.mp hv
      have hm := List.mem_of_getElem? hp
      have pa := (hP.at_ p hm).mono s1
      obtain ⟨n1, n2⟩ := hN.nms p hm
      walk_at "rd"
      refine ⟨p, rfl, pa, n1, n2, fun d2 ms H2 s2 tab em f2 => ?_⟩
      refine ForD.of tab.top (fun o j σ H3 => ∃ (es' : List (Str × Addr × Str)) (b3 : Option V), σ = [some (.ref L), some (.ref d), some p.v, b3, none, none] ∧ Same H H3 ∧ H3 d2 = some (.frz o (.dK (ms.map TabM.kv))) ∧ TwI H3 d es' ∧ es'.map (·.1) = es.map (·.1) ++ (ms.take j).map TabM.name) ?_ ?_ ?_ ?_
      · intro o
        have nd2 : d2 ≠ d := fun e => by rw [e, tw.top] at f2; cases f2
        have nf : ∀ x u, H' x = some u → upd H2 d2 (.frz o (.dK (ms.map TabM.kv))) x = some u := fun x u e => by rw [upd_ne (ne_of_none e f2)]; exact s2 _ _ e
        exact ⟨es, _, rfl, fun x u e => nf x u (s1 _ _ e), upd_same, ⟨nf _ _ tw.top, fun e he => nf _ _ (tw.one e he)⟩, by simp⟩
      · rintro o j σ H3 hj ⟨es', b3, rfl, s3, hz, _⟩
        exact hz
      · rintro o j pr σ H3 hv ⟨es', b3, rfl, s3, hz, tw', ek'⟩
        rw [List.getElem?_map] at hv
        obtain ⟨m, hj, rfl⟩ := Option.map_eq_some_iff.mp hv
        have new : m.name ∉ es'.map (·.1) := by
          have nn : ∀ m ∈ ms, ∃ n ∈ p.nms, n.sort = sTell ∧ n.name = m.name := fun m hm => by
            have : (m.name, m.a, m.b, m.c) ∈ ms.map fun m => (m.name, m.a, m.b, m.c) := List.mem_map.mpr ⟨m, hm, rfl⟩
            rw [em] at this
            obtain ⟨n, hn, e⟩ := List.mem_map.mp this
            obtain ⟨q1, q2⟩ := List.mem_filter.mp hn
            exact ⟨n, q1, of_decide_eq_true q2, congrArg (·.1) e⟩
          have mnd : (ms.map TabM.name).Nodup := by
            have e1 : ms.map TabM.name = (p.nms.filter fun n => decide (n.sort = sTell)).map ToldM.name := by
              have := congrArg (List.map (·.1)) em
              rw [List.map_map, List.map_map] at this
              exact this
            rw [e1]
            exact List.Nodup.sublist (List.Sublist.map _ List.filter_sublist) n2
          rw [ek']
          intro z
          rcases List.mem_append.mp z with z | z
          · obtain ⟨e, he, ee⟩ := List.mem_map.mp z
            obtain ⟨q, hq, n, hn, q1, q2⟩ := ek e he
            obtain ⟨n', hn', q3, q4⟩ := nn m (List.mem_of_getElem? hj)
            have pw := hN.tw
            obtain ⟨k', hk', hqk⟩ := List.getElem_of_mem hq
            rw [List.length_take] at hk'
            rw [List.getElem_take] at hqk
            have pi := (List.getElem?_eq_some_iff.mp hp)
            obtain ⟨pi1, pi2⟩ := pi
            have := List.pairwise_iff_getElem.mp pw k' i (by omega) pi1 (by omega)
            rw [hqk, pi2] at this
            exact this n hn n' hn' q1 q3 (by rw [q2, q4, ee])
          · have : (ms.take (j + 1)).map TabM.name = (ms.take j).map TabM.name ++ [m.name] := by rw [List.take_succ, hj, List.map_append]; rfl
            have nd' : ((ms.take (j + 1)).map TabM.name).Nodup := List.Nodup.sublist (List.Sublist.map _ (List.take_sublist _ _)) mnd
            rw [this] at nd'
            exact (List.nodup_append.mp nd').2.2 _ z _ (by simp) rfl
        have pa3 := (hP.at_ p hm).mono s3
        walk_at "rd"
        have vn : valV (es'.map fun e => ((.inr e.1 : Key), V.ref e.2.1)) (.inr m.name) = none := val_no new
        have pn : putK (es'.map fun e => ((.inr e.1 : Key), V.ref e.2.1)) (.inr m.name) (V.ref 0) = (es'.map fun e => ((.inr e.1 : Key), V.ref e.2.1)) ++ [(.inr m.name, V.ref 0)] := put_no new
        have el' := congrArg List.length ek'
        rw [List.length_append, List.length_map, List.length_map, List.length_map, List.length_take] at el'
        have ml : ms.length ≤ 61 := by
          have := congrArg List.length em
          rw [List.length_map, List.length_map] at this
          have h1 := List.length_filter_le (fun n : ToldM => decide (n.sort = Str.ofString "tell")) p.nms
          omega
        have il := (List.getElem?_eq_some_iff.mp hp).1
        have fw := hN.few
        refine ⟨.inl ⟨_, .inl tw'.top⟩, Nat.zero_le _, fun l hl => ?_⟩
        have sl := same_new (o := HO.lst []) hl
        have nl : d ≠ l := ne_of_none tw'.top hl
        refine ⟨none, .inl ⟨_, .inr m.name, .inl (sl _ _ tw'.top), rfl, vn.symm⟩, _, DPut.k (k := .inr m.name) (sl _ _ tw'.top) (by rw [List.length_map, sizeLine_eq]; omega), (fun v hv => by cases hv), fun _ => ?_⟩
        have l1 : upd (upd H3 l (.lst [])) d (.dK (putK (es'.map fun e => ((.inr e.1 : Key), V.ref e.2.1)) (.inr m.name) (.ref l))) l = some (.lst []) := by rw [upd_ne (Ne.symm nl), upd_same]
        have tp : upd (upd H3 l (.lst [])) d (.dK (putK (es'.map fun e => ((.inr e.1 : Key), V.ref e.2.1)) (.inr m.name) (.ref l))) p.t = some (.tup [.str p.name, .ref p.ls, .ref p.ln]) := by
          rw [upd_ne (ne_of pa3.top tw'.top (by intro z; cases z))]; exact sl _ _ pa3.top
        refine ⟨.inl ⟨rfl, _, SqL.of l1⟩, _, SqT.of tp, _, rfl, _, l1, by rw [sizeLine_eq]; decide, ?_, ?_, es' ++ [(m.name, l, p.name)], ⟨?_, fun e he => ?_⟩, ?_⟩
        · exact same_upd (s3.free hl) (same_upd hd (s3.trans sl))
        · have n2' : d2 ≠ d := fun e => by rw [e, tw'.top] at hz; cases hz
          rw [upd_ne (ne_of_none hz hl), upd_ne n2']; exact sl _ _ hz
        · rw [upd_ne nl, upd_same, put_no new, List.map_append]; rfl
        · rcases List.mem_append.mp he with z | z
          · have e1 := tw'.one e z
            rw [upd_ne (ne_of_none e1 hl), upd_ne (ne_of e1 tw'.top (by intro z; cases z))]; exact sl _ _ e1
          · rw [List.mem_singleton.mp z]; exact upd_same
        · rw [List.map_append, ek', List.append_assoc, List.take_succ, hj, List.map_append]; rfl
      · rintro o σ H3 ⟨es', b3, rfl, s3, hz, tw', ek'⟩
        rw [List.length_map, List.take_length] at ek'
        have ml : ms.length ≤ 61 := by
          have := congrArg List.length em
          rw [List.length_map, List.length_map] at this
          have h1 := List.length_filter_le (fun n : ToldM => decide (n.sort = Str.ofString "tell")) p.nms
          omega
        have el' := congrArg List.length ek'
        rw [List.length_append, List.length_map, List.length_map, List.length_map] at el'
        have tk : ps.take (i + 1) = ps.take i ++ [p] := by rw [List.take_succ, hp]; rfl
        refine ⟨es', _, _, rfl, s3, tw', by omega, fun e he => ?_⟩
        have : e.1 ∈ es'.map (·.1) := List.mem_map.mpr ⟨e, he, rfl⟩
        rw [ek'] at this
        rcases List.mem_append.mp this with z | z
        · obtain ⟨e0, he0, e1⟩ := List.mem_map.mp z
          obtain ⟨q, hq, n, hn, q1, q2⟩ := ek e0 he0
          exact ⟨q, by rw [tk]; exact List.mem_append_left _ hq, n, hn, q1, by rw [q2, e1]⟩
        · obtain ⟨m, hm', e1⟩ := List.mem_map.mp z
          have : (m.name, m.a, m.b, m.c) ∈ ms.map fun m => (m.name, m.a, m.b, m.c) := List.mem_map.mpr ⟨m, hm', rfl⟩
          rw [em] at this
          obtain ⟨n, hn, e2⟩ := List.mem_map.mp this
          obtain ⟨q1, q2⟩ := List.mem_filter.mp hn
          exact ⟨p, by rw [tk]; simp, n, q1, of_decide_eq_true q2, by rw [← e1]; exact congrArg (·.1) e2⟩
    · rintro σ H' ⟨es, b2, b3, rfl, s1, tw, el, ek⟩
      walk_at "rd"
      rw [List.length_map] at el
      have few := hN.few
      refine CompD.of (by rw [List.length_map, sizeLine_eq]; omega) tw.top (fun o D i ys H2 => ys = [] ∧ H2 = upd (upd H' d (.frz o (.dK (es.map fun e => ((.inr e.1 : Key), V.ref e.2.1))))) D (.lst [])) (fun o D hD => ⟨rfl, rfl⟩) ?_ ?_ ?_
      · rintro o D i ys H2 hD hi ⟨rfl, rfl⟩
        exact ⟨by rw [upd_ne (ne_of_none tw.top hD), upd_same], upd_same, Nat.zero_le _⟩
      · rintro o D i pr ys H2 hD hv ⟨rfl, rfl⟩
        rw [List.getElem?_map] at hv
        obtain ⟨e, he, rfl⟩ := Option.map_eq_some_iff.mp hv
        walk_at "rd"
        obtain ⟨v', v1, v2⟩ := val_in (List.mem_map.mpr ⟨e, List.mem_of_getElem? he, rfl⟩ : ((.inr e.1 : Key), V.ref e.2.1) ∈ es.map fun e => ((.inr e.1 : Key), V.ref e.2.1))
        obtain ⟨e', he', ee⟩ := List.mem_map.mp v2
        have ev : V.ref e'.2.1 = v' := congrArg (·.2) ee
        subst ev
        have hd2 : upd (upd H' d (.frz o (.dK (es.map fun e => ((.inr e.1 : Key), V.ref e.2.1))))) D (.lst []) d = some (.frz o (.dK (es.map fun e => ((.inr e.1 : Key), V.ref e.2.1)))) := by rw [upd_ne (ne_of_none tw.top hD), upd_same]
        have o1 := tw.one e' he'
        refine ⟨.no (.yes .nil), _, .inl ⟨_, .inr e.1, .inr ⟨o, hd2⟩, rfl, v1.symm⟩, 1, .inl ⟨[.str e'.2.2], SqL.of (by rw [upd_ne (ne_of_none o1 hD), upd_ne (ne_of o1 tw.top (by intro z; cases z))]; exact o1), rfl⟩, ?_⟩
        rw [if_neg (by decide)]
        trivial
      · rintro o D ys H2 hD ⟨rfl, rfl⟩
        refine ⟨false, .inl ⟨[], SqL.of upd_same, rfl⟩, ?_⟩
        rw [if_neg (by decide)]
        exact k _ (same_upd (s1.free hD) (same_upd hd s1))
noncomputable def zF (H : Hp) (b : Addr) : Str := match H b with | some (.tup (.str n :: _)) => n | _ => Str.ofString ""
noncomputable def rF (H : Hp) (b : Addr) : List V := match H b with | some (.tup (.str _ :: r)) => r | _ => []
noncomputable def tellOf (p : PcM) (s z : Str) : Option (Str × Int × Int) := (p.nms.find? fun n => decide (n.name = z) && decide (n.sort = s)).map fun n => (p.name, n.st, n.off)
noncomputable def firstT (so : List PcM) (s z : Str) : Option (Str × Int × Int) := so.findSome? fun p => tellOf p s z
theorem look_put (ms : List TabM) (m : TabM) (z : Str) : lookT (putT ms m) z = if m.name = z then some m else lookT ms z := by
  unfold putT lookT
  by_cases h : (ms.any fun n => decide (n.name = m.name)) = true
  · rw [if_pos h]
    by_cases e : m.name = z
    · rw [if_pos e]
      induction ms with
      | nil => cases h
      | cons n r ih =>
        rw [List.map_cons, List.find?_cons]
        by_cases q : n.name = m.name
        · rw [if_pos q, decide_eq_true e]
        · rw [if_neg q, decide_eq_false (fun y => q (y.trans e.symm))]
          refine ih ?_
          rw [List.any_cons, decide_eq_false q] at h
          exact h
    · rw [if_neg e]
      clear h
      induction ms with
      | nil => rfl
      | cons n r ih =>
        rw [List.map_cons, List.find?_cons, List.find?_cons]
        by_cases q : n.name = m.name
        · rw [if_pos q, decide_eq_false e, decide_eq_false (fun y => e (q.symm.trans y))]; exact ih
        · rw [if_neg q]
          by_cases y : n.name = z
          · rw [decide_eq_true y]
          · rw [decide_eq_false y]; exact ih
  · rw [if_neg h, List.find?_append]
    by_cases e : m.name = z
    · rw [if_pos e, List.find?_eq_none.mpr]
      · rw [List.find?_cons, decide_eq_true e]; rfl
      · intro n hn q
        exact h (List.any_eq_true.mpr ⟨n, hn, decide_eq_true ((of_decide_eq_true q).trans e.symm)⟩)
    · rw [if_neg e, List.find?_cons, decide_eq_false e]
      cases ms.find? fun n => decide (n.name = z) <;> rfl
theorem put_nd {ms : List TabM} {m : TabM} (h : (ms.map TabM.name).Nodup) : ((putT ms m).map TabM.name).Nodup := by
  unfold putT
  by_cases q : (ms.any fun n => decide (n.name = m.name)) = true
  · rw [if_pos q, List.map_map]
    have e : (TabM.name ∘ fun n => if n.name = m.name then m else n) = TabM.name := by
      funext n
      show TabM.name (if n.name = m.name then m else n) = n.name
      by_cases y : n.name = m.name
      · rw [if_pos y, y]
      · rw [if_neg y]
    rw [e]; exact h
  · rw [if_neg q, List.map_append]
    refine List.nodup_append.mpr ⟨h, by simp, fun x hx y hy e => ?_⟩
    obtain ⟨n, hn, rfl⟩ := List.mem_map.mp hx
    rw [List.map_singleton, List.mem_singleton] at hy
    exact q (List.any_eq_true.mpr ⟨n, hn, decide_eq_true (e.trans hy)⟩)
theorem merge_T : ∀ (ns ms : List TabM), mergeK (ms.map TabM.kv) (ns.map TabM.kv) = (ns.foldl putT ms).map TabM.kv
  | [], ms => rfl
  | n :: ns, ms => by
    rw [List.map_cons, List.foldl_cons, ← merge_T ns, ← putK_T]; rfl
theorem merge_nd : ∀ {ns ms : List TabM}, (ms.map TabM.name).Nodup → ((ns.foldl putT ms).map TabM.name).Nodup
  | [], _, h => h
  | n :: ns, ms, h => merge_nd (ns := ns) (put_nd h)
theorem merge_mem : ∀ {ns ms : List TabM} {m : TabM}, m ∈ ns.foldl putT ms → m ∈ ns ∨ m ∈ ms
  | [], _, _, h => .inr h
  | n :: ns, ms, m, h => by
    rcases merge_mem (ns := ns) h with z | z
    · exact .inl (List.mem_cons_of_mem _ z)
    · rcases putT_mem z with y | y
      · exact .inr y
      · exact .inl (y ▸ List.mem_cons_self)
theorem merge_len : ∀ {ns ms : List TabM}, (ns.foldl putT ms).length ≤ ms.length + ns.length
  | [], _ => Nat.le_refl _
  | n :: ns, ms => by
    have h1 := merge_len (ns := ns) (ms := putT ms n)
    have h2 := putT_len (ms := ms) (m := n)
    rw [List.foldl_cons, List.length_cons]
    omega
theorem merge_look : ∀ {ns ms : List TabM} {z : Str}, (ns.map TabM.name).Nodup → lookT (ns.foldl putT ms) z = (lookT ns z).or (lookT ms z)
  | [], ms, z, _ => rfl
  | n :: ns, ms, z, h => by
    rw [List.map_cons] at h
    obtain ⟨h1, h2⟩ := List.nodup_cons.mp h
    rw [List.foldl_cons, merge_look h2, look_put]
    by_cases e : n.name = z
    · rw [if_pos e]
      have : lookT ns z = none := List.find?_eq_none.mpr fun m hm q => h1 (List.mem_map.mpr ⟨m, hm, (of_decide_eq_true q).trans e.symm⟩)
      rw [this]
      unfold lookT
      rw [List.find?_cons, decide_eq_true e]; rfl
    · rw [if_neg e]
      unfold lookT
      rw [List.find?_cons, decide_eq_false e]
theorem told_look {p : PcM} {s z : Str} {ms : List TabM} (e : ms.map (fun m => (m.name, m.a, m.b, m.c)) = (p.nms.filter fun n => decide (n.sort = s)).map (fun n => (n.name, p.name, n.st, n.off))) : (lookT ms z).map TabM.vl = tellOf p s z := by
  have h1 : (lookT ms z).map TabM.vl = ((ms.map (fun m => (m.name, m.a, m.b, m.c))).find? fun t => decide (t.1 = z)).map (·.2) := by
    unfold lookT
    rw [List.find?_map, Option.map_map]; rfl
  rw [h1, e, List.find?_map, Option.map_map, List.find?_filter]
  unfold tellOf
  congr 1
  refine congrArg (fun f => List.find? f p.nms) (funext fun n => ?_)
  show decide (decide (n.sort = s) = true ∧ decide (n.name = z) = true) = _
  by_cases a : n.name = z <;> by_cases b : n.sort = s <;> simp [a, b]
theorem told_nd {p : PcM} {s : Str} {ms : List TabM} (h : (p.nms.map ToldM.name).Nodup) (e : ms.map (fun m => (m.name, m.a, m.b, m.c)) = (p.nms.filter fun n => decide (n.sort = s)).map (fun n => (n.name, p.name, n.st, n.off))) : (ms.map TabM.name).Nodup := by
  have e1 : ms.map TabM.name = (p.nms.filter fun n => decide (n.sort = s)).map ToldM.name := by
    have := congrArg (List.map (·.1)) e
    rw [List.map_map, List.map_map] at this
    exact this
  rw [e1]
  exact List.Nodup.sublist (List.Sublist.map _ List.filter_sublist) h
theorem told_len {p : PcM} {s : Str} {ms : List TabM} (e : ms.map (fun m => (m.name, m.a, m.b, m.c)) = (p.nms.filter fun n => decide (n.sort = s)).map (fun n => (n.name, p.name, n.st, n.off))) : ms.length ≤ p.nms.length := by
  have := congrArg List.length e
  rw [List.length_map, List.length_map] at this
  have h1 := List.length_filter_le (fun n : ToldM => decide (n.sort = s)) p.nms
  omega
theorem tell_some {p : PcM} {s z : Str} {v : Str × Int × Int} (h : tellOf p s z = some v) : ∃ n ∈ p.nms, n.name = z ∧ n.sort = s ∧ v = rvl (p.name, n) := by
  unfold tellOf at h
  obtain ⟨n, h1, h2⟩ := Option.map_eq_some_iff.mp h
  have h3 := List.find?_some h1
  rw [Bool.and_eq_true] at h3
  exact ⟨n, List.mem_of_find?_eq_some h1, of_decide_eq_true h3.1, of_decide_eq_true h3.2, h2.symm⟩
theorem tell_none {p : PcM} {s z : Str} (h : tellOf p s z = none) : ∀ n ∈ p.nms, n.name = z → n.sort ≠ s := fun n hn h1 h2 => by
  unfold tellOf at h
  have := List.find?_eq_none.mp (Option.map_eq_none_iff.mp h) n hn
  exact this (by rw [decide_eq_true h1, decide_eq_true h2]; rfl)
theorem mem_rows {ps : List PcM} {r : Str × ToldM} : r ∈ rowsN ps ↔ ∃ p ∈ ps, p.name = r.1 ∧ r.2 ∈ p.nms := by
  unfold rowsN
  rw [List.mem_flatMap]
  constructor
  · rintro ⟨p, hp, h⟩
    obtain ⟨n, hn, rfl⟩ := List.mem_map.mp h
    exact ⟨p, hp, rfl, hn⟩
  · rintro ⟨p, hp, h1, h2⟩
    exact ⟨p, hp, List.mem_map.mpr ⟨r.2, h2, by rw [h1]⟩⟩
theorem nm_of {ps so : List PcM} {ms : List TabM} (pm : so.Perm ps) (pw : (so.map fun p => ((p.name, 0) : PairD)).Pairwise leP) (nd : (ms.map TabM.name).Nodup) (h : ∀ z, (lookT ms z).map TabM.vl = (firstT so sTell z).or (firstT so sWeak z)) : NmOk (rowsN ps) ms := by
  refine ⟨nd, fun z m hm => ?_, fun z hz r hr hn => ?_⟩
  · have e := h z
    rw [hm] at e
    cases h1 : firstT so sTell z with
    | some v =>
      rw [h1] at e
      obtain ⟨p, hp, hv⟩ := List.exists_of_findSome?_eq_some h1
      obtain ⟨n, hn, q1, q2, q3⟩ := tell_some hv
      exact .inl ⟨(p.name, n), mem_rows.mpr ⟨p, pm.mem_iff.mp hp, rfl, hn⟩, q1, q2, (Option.some.inj e).trans q3⟩
    | none =>
      rw [h1] at e
      refine .inr ⟨fun r hr hn => ?_, ?_⟩
      · obtain ⟨p, hp, q1, q2⟩ := mem_rows.mp hr
        exact tell_none (List.findSome?_eq_none_iff.mp h1 p (pm.mem_iff.mpr hp)) r.2 q2 hn
      · obtain ⟨l1, p, l2, el, hv, nn⟩ := List.findSome?_eq_some_iff.mp (show firstT so sWeak z = some (TabM.vl m) from e.symm)
        obtain ⟨n, hn, q1, q2, q3⟩ := tell_some hv
        have hp : p ∈ so := by rw [el]; simp
        refine ⟨(p.name, n), mem_rows.mpr ⟨p, pm.mem_iff.mp hp, rfl, hn⟩, q1, q2, q3, fun r' hr' n' s' => ?_⟩
        obtain ⟨q, hq, y1, y2⟩ := mem_rows.mp hr'
        have hq' := pm.mem_iff.mpr hq
        rw [el] at hq'
        rcases List.mem_append.mp hq' with y | y
        · exact absurd s' (tell_none (nn q y) r'.2 y2 n')
        · rcases List.mem_cons.mp y with y | y
          · rw [← y1, y]; exact List.lt_irrefl _
          · rw [el, List.map_append, List.map_cons] at pw
            have := (List.pairwise_cons.mp (List.pairwise_append.mp pw).2.1).1 (q.name, 0) (List.mem_map.mpr ⟨q, y, rfl⟩)
            show ¬ r'.1.cps.toList < p.name.cps.toList
            rw [← y1]
            intro z
            unfold leP at this
            rw [(ltP_cases (q.name, 0) (p.name, 0)).mpr (.inl z)] at this
            cases this
  · have e := h z
    rw [hz] at e
    have e : (firstT so sTell z).or (firstT so sWeak z) = none := e.symm
    obtain ⟨e1, e2⟩ := Option.or_eq_none_iff.mp e
    obtain ⟨p, hp, q1, q2⟩ := mem_rows.mp hr
    have hp' := pm.mem_iff.mpr hp
    exact ⟨tell_none (List.findSome?_eq_none_iff.mp e1 p hp') r.2 q2 hn, tell_none (List.findSome?_eq_none_iff.mp e2 p hp') r.2 q2 hn⟩
theorem fold_first (so : List PcM) (s z : Str) (b : Option (Str × Int × Int)) : so.reverse.foldl (fun b p => (tellOf p s z).or b) b = (firstT so s z).or b := by
  induction so with
  | nil => rfl
  | cons p r ih =>
    rw [List.reverse_cons, List.foldl_append, ih]
    unfold firstT
    rw [List.findSome?_cons]
    show (tellOf p s z).or ((r.findSome? fun p => tellOf p s z).or b) = _
    cases tellOf p s z <;> rfl
theorem by_adr {H : Hp} {ps : List PcM} {bs : List Addr} (at_ : ∀ p ∈ ps, p.At H) (nd : (ps.map PcM.name).Nodup) (pm : bs.Perm (ps.map PcM.t)) : ∃ so : List PcM, so.Perm ps ∧ so.map PcM.t = bs := by
  have one : ∀ p ∈ ps, ∀ q ∈ ps, p.t = q.t → p = q := fun p hp q hq e => by
    have h1 := (at_ p hp).top
    have h2 := (at_ q hq).top
    rw [e, h2] at h1
    have en : q.name = p.name := by
      have := Option.some.inj h1
      injection this with this
      injection this with this _
      injection this
    obtain ⟨i, hi, rfl⟩ := List.getElem_of_mem hp
    obtain ⟨j, hj, rfl⟩ := List.getElem_of_mem hq
    have pw := List.pairwise_iff_getElem.mp nd
    rcases Nat.lt_trichotomy i j with z | z | z
    · exact absurd (by rw [List.getElem_map, List.getElem_map]; exact en.symm) (pw i j (by simpa using hi) (by simpa using hj) z)
    · subst z; rfl
    · exact absurd (by rw [List.getElem_map, List.getElem_map]; exact en) (pw j i (by simpa using hj) (by simpa using hi) z)
  let g : Addr → PcM := fun b => (ps.find? fun p => decide (p.t = b)).getD ⟨0, 0, 0, Str.ofString "", [], []⟩
  have hg : ∀ p ∈ ps, g p.t = p := fun p hp => by
    show (ps.find? fun q => decide (q.t = p.t)).getD _ = p
    cases hf : ps.find? fun q => decide (q.t = p.t) with
    | none => exact absurd (decide_eq_true rfl) (List.find?_eq_none.mp hf p hp)
    | some q => exact (one p hp q (List.mem_of_find?_eq_some hf) (of_decide_eq_true (List.find?_some (p := fun q : PcM => decide (q.t = p.t)) hf)).symm).symm
  refine ⟨bs.map g, ?_, ?_⟩
  · have := pm.map g
    rw [List.map_map, (List.map_congr_left (f := g ∘ PcM.t) (g := id) fun p hp => hg p hp), List.map_id] at this
    exact this
  · rw [List.map_map]
    refine (List.map_congr_left (g := id) fun b hb => ?_).trans (List.map_id _)
    obtain ⟨p, hp, rfl⟩ := List.mem_map.mp (pm.mem_iff.mp hb)
    show (g p.t).t = p.t
    rw [hg p hp]
theorem PsN.perm {ps so : List PcM} (h : PsN ps) (pm : so.Perm ps) : PsN so :=
  ⟨by rw [pm.length_eq]; exact h.few, (pm.map _).nodup_iff.mpr h.nd, fun p hp => h.nms p (pm.mem_iff.mp hp), (pm.pairwise_iff fun {x y} r a ha b hb h1 h2 e => r b hb a ha h2 h1 e.symm).mpr h.tw⟩
theorem G_names_of (T : Txt K mg A) : FnOk P w K mg base CX0 6 A.names_of A.fd_names_of ["pieces"] (sp_namesof A) := by
  refine T.F_names_of.okC T.lm_names_of sc_names_of (fun vs H Q E h => ?_) (fun c cdv Ar outer s H vs Q E hcd hcc hr h => ?_)
  · obtain ⟨L, ps, rfl, _⟩ := h
    rfl
  · obtain ⟨L, ps, rfl, hP, hN, tb, k⟩ := h
    refine ⟨_, (@pss_cons _ _ _ _ _ (@ps_set _ _ 1 _ _ _ _ sc_names_of.nd rfl (by first | exact Or.inl rfl | exact Or.inr rfl) (@pe_sortL _ K A.tb_names_of _ _ _ _ _ _ _ _ _ _ "piece" _ rfl (hr.mono (by decide)) (@pv _ 0 _ _ (by rfl) (by first  |  exact  Or.inl  rfl  |  exact  Or.inr  (    Or.inl  rfl  )  |  exact  Or.inr  (    Or.inr  rfl  )) (by decide) (by decide)) (by rfl) T.n_sorted hcd hcc T.bm ⟨rfl, rfl, rfl, by decide +kernel, rfl, by decide +kernel, by decide +kernel⟩ (fun _ _ _ _ _ _ => (@pe_ix _ _ _ _ _ _ _ (ix_tupK (K := K) rfl) (@pv _ 0 _ _ (by rfl) (by first  |  exact  Or.inl  rfl  |  exact  Or.inr  (    Or.inl  rfl  )  |  exact  Or.inr  (    Or.inr  rfl  )) (by decide) (by decide)) (@pe_int _ _ _ _) (fun _ _ => rfl))) (by intros  ;  rfl) (by rfl) (by rfl) (by rfl) (by rfl)) (by rfl) (by first  |  exact  .inl  rfl  |  exact  .inr  rfl  |  assumption)) (@pss_cons _ _ _ _ _ (@ps_expr _ _ _ _ (@pe_call _ _ _ _ _ _ _ _ _ _ _ _ _ _ _ _ (G_refuse_twice T) (hr.mono (by decide)) rfl T.m_refuse_twice T.k_refuse_twice T.b_refuse_twice .nil (@pass0 _) (@pa_cons _ _ _ _ _ (@pv _ 1 _ _ (by rfl) (by first  |  exact  Or.inl  rfl  |  exact  Or.inr  (    Or.inl  rfl  )  |  exact  Or.inr  (    Or.inr  rfl  )) (by decide) (by decide)) (@pa_nil _) (by rfl)) (by decide) (by rfl) (by rfl)) (by rfl)) (@pss_cons _ _ _ _ _ (@ps_set _ _ 2 _ _ _ _ sc_names_of.nd rfl (by first | exact Or.inl rfl | exact Or.inr rfl) (@pe_dnewK _ _) (by rfl) (by first  |  exact  .inl  rfl  |  exact  .inr  rfl  |  assumption)) (@pss_cons _ _ _ _ _ (@ps_for _ _ _ _ _ _ _ _ PassesOwn.never rfl (@pi_tupK _ K _ _ _ rfl (@pe_tup _ _ _ _ _ (@pa_cons _ _ _ _ _ (@pe_str _ _ _ _) (@pa_cons _ _ _ _ _ (@pe_str _ _ _ _) (@pa_nil _) (by rfl)) (by rfl)))) (@pg_name _ _ 3 _ sc_names_of.nd rfl (by first | exact Or.inl rfl | exact Or.inr rfl) (by first  |  exact  .inl  rfl  |  exact  .inr  rfl  |  assumption)) (@pss_one _ _ _ (@ps_for _ _ _ _ _ _ _ _ PassesOwn.never rfl (@pi_rev _ _ K _ _ _ _ rfl rfl T.n_reversed (@pv _ 1 _ _ (by rfl) (by first  |  exact  Or.inl  rfl  |  exact  Or.inr  (    Or.inl  rfl  )  |  exact  Or.inr  (    Or.inr  rfl  )) (by decide) (by decide)) (by rfl)) (@pg_name _ _ 4 _ sc_names_of.nd rfl (by first | exact Or.inl rfl | exact Or.inr rfl) (by first  |  exact  .inl  rfl  |  exact  .inr  rfl  |  assumption)) (@pss_one _ _ _ (@ps_expr _ _ _ _ (@pe_bm _ _ _ _ _ _ _ _ _ _ _ _ PySem.F.plainAttrs_dict PySem.F.slot_dict_update PySem.F.type_dict_update mt_upddict (@pv _ 2 _ _ (by rfl) (by first  |  exact  Or.inl  rfl  |  exact  Or.inr  (    Or.inl  rfl  )  |  exact  Or.inr  (    Or.inr  rfl  )) (by decide) (by decide)) (@pa_cons _ _ _ _ _ (@pe_call _ _ _ _ _ _ _ _ _ _ _ _ _ _ _ _ (G_places_told T) (hr.mono (by decide)) rfl T.m_places_told T.k_places_told T.b_places_told .nil (@pass0 _) (@pa_cons _ _ _ _ _ (@pv _ 4 _ _ (by rfl) (by first  |  exact  Or.inl  rfl  |  exact  Or.inr  (    Or.inl  rfl  )  |  exact  Or.inr  (    Or.inr  rfl  )) (by decide) (by decide)) (@pa_cons _ _ _ _ _ (@pv _ 3 _ _ (by rfl) (by first  |  exact  Or.inl  rfl  |  exact  Or.inr  (    Or.inl  rfl  )  |  exact  Or.inr  (    Or.inr  rfl  )) (by decide) (by decide)) (@pa_nil _) (by rfl)) (by rfl)) (by decide) (by rfl) (by rfl)) (@pa_nil _) (by rfl)) (by rfl) (by rfl) (by rfl) (by rfl) (by rfl)) (by rfl))) (by intro  _  ;  rfl))) (by intro  _  ;  rfl)) (@pss_one _ _ _ (@ps_ret _ _ _ _ (@pv _ 2 _ _ (by rfl) (by first  |  exact  Or.inl  rfl  |  exact  Or.inr  (    Or.inl  rfl  )  |  exact  Or.inr  (    Or.inr  rfl  )) (by decide) (by decide)))))))), ?_⟩
    walk_at "rd"
    obtain ⟨ps0, hT, _⟩ := id tb
    have hz : ∀ p ∈ ps, zF H p.t = p.name ∧ rF H p.t = [.ref p.ls, .ref p.ln] := fun p hp => by
      unfold zF rF
      rw [(hP.at_ p hp).top]; exact ⟨rfl, rfl⟩
    refine ⟨ps.map PcM.t, by rw [List.map_map]; exact SqL.of hP.top, zF H, rF H, fun b hb => ?_, by rw [List.length_map]; have := hN.few; omega, tb, fun l bs H2 l0 pm pw sx tb2 hl => ?_⟩
    · obtain ⟨p, hp, rfl⟩ := List.mem_map.mp hb
      rw [(hz p hp).1, (hz p hp).2]; exact (hP.at_ p hp).top
    obtain ⟨so, sp, rfl⟩ := by_adr hP.at_ hN.nd pm
    have pw2 : (so.map fun p => ((p.name, 0) : PairD)).Pairwise leP := by
      rw [List.map_map] at pw
      rwa [List.map_congr_left (g := fun p : PcM => ((p.name, 0) : PairD)) fun p hp => by show (zF H p.t, (0 : Int)) = _; rw [(hz p (sp.mem_iff.mp hp)).1]] at pw
    have hP2 : PL H2 l so := ⟨by rw [List.map_map] at hl; exact hl, fun p hp => (hP.at_ p (sp.mem_iff.mp hp)).keep hT sx⟩
    have hN2 := hN.perm sp
    refine ⟨so, hP2, hN2, fun H3 s3 d hd => ⟨by rw [sizeLine_eq]; decide, fun q hq => ?_⟩⟩
    have s4 := same_new (o := HO.dK []) hd
    have s5 := same_new (o := HO.tup [V.str (Str.ofString "weak"), V.str (Str.ofString "tell")]) hq
    have d5 : upd (upd H3 d (.dK [])) q (.tup [V.str (Str.ofString "weak"), V.str (Str.ofString "tell")]) d = some (.dK []) := s5 _ _ upd_same
    have q5 : upd (upd H3 d (.dK [])) q (.tup [V.str (Str.ofString "weak"), V.str (Str.ofString "tell")]) q = some (.tup [V.str (Str.ofString "weak"), V.str (Str.ofString "tell")]) := upd_same
    have s25 : Same H2 (upd (upd H3 d (.dK [])) q (.tup [V.str (Str.ofString "weak"), V.str (Str.ofString "tell")])) := s3.trans (s4.trans s5)
    have d2 : H2 d = none := s3.free hd
    have ndq : d ≠ q := ne_of_none (upd_same (H := H3) (a := d) (o := HO.dK [])) hq
    have few := hN2.few
    generalize upd (upd H3 d (.dK [])) q (.tup [V.str (Str.ofString "weak"), V.str (Str.ofString "tell")]) = H5 at *
    refine ForT.of (xs := [V.str (Str.ofString "weak"), V.str (Str.ofString "tell")]) (fun a σ H' => ∃ (ms : List TabM) (b3 b4 : Option V), σ = [some (.ref L), some (.ref l), some (.ref d), b3, b4] ∧ Same H2 H' ∧ H' q = some (.tup [V.str (Str.ofString "weak"), V.str (Str.ofString "tell")]) ∧ Tab H' d ms ∧ ms.length ≤ 61 * 12 * a ∧ (ms.map TabM.name).Nodup ∧ ∀ z, (lookT ms z).map TabM.vl = if a = 0 then none else if a = 1 then firstT so sWeak z else (firstT so sTell z).or (firstT so sWeak z))
      ⟨[], _, _, rfl, s25, q5, ⟨d5, fun m hm => by cases hm⟩, by simp, by simp, fun z => rfl⟩ ?_ ?_ ?_
    · rintro a σ H' ha ⟨ms, b3, b4, rfl, s6, hq6, _⟩
      exact SqT.of hq6
    · rintro a v σ H' hv ⟨ms, b3, b4, rfl, s6, hq6, tab, len, nd, look⟩
      obtain ⟨s, hs, rfl, ha⟩ : ∃ s : Str, True ∧ v = .str s ∧ ((a = 0 ∧ s = sWeak) ∨ (a = 1 ∧ s = sTell)) := by
        match a, hv with
        | 0, hv => cases hv; exact ⟨_, trivial, rfl, .inl ⟨rfl, rfl⟩⟩
        | 1, hv => cases hv; exact ⟨_, trivial, rfl, .inr ⟨rfl, rfl⟩⟩
      walk_at "rd"
      refine ForV.of (xs := so.map PcM.v) (fun i σ H' => ∃ (ms' : List TabM) (b4 : Option V), σ = [some (.ref L), some (.ref l), some (.ref d), some (.str s), b4] ∧ Same H2 H' ∧ H' q = some (.tup [V.str (Str.ofString "weak"), V.str (Str.ofString "tell")]) ∧ Tab H' d ms' ∧ ms'.length ≤ 61 * 12 * a + 61 * i ∧ (ms'.map TabM.name).Nodup ∧ ∀ z, (lookT ms' z).map TabM.vl = (so.reverse.take i).foldl (fun b p => (tellOf p s z).or b) ((lookT ms z).map TabM.vl))
        ⟨ms, _, rfl, s6, hq6, tab, by omega, nd, fun z => rfl⟩ ?_ ?_ ?_
      · rintro i σ H7 hi ⟨ms', b4, rfl, s7, _⟩
        exact SqL.of (s7 _ _ hP2.top)
      · rintro i v σ H7 hv ⟨ms', b4, rfl, s7, hq7, tab7, len7, nd7, look7⟩
        rw [← List.map_reverse, List.getElem?_map] at hv
        obtain ⟨p, hp, rfl⟩ := Option.map_eq_some_iff.mp hv
        have pm' : p ∈ so := List.mem_reverse.mp (List.mem_of_getElem? hp)
        have il := (List.getElem?_eq_some_iff.mp hp).1
        rw [List.length_reverse] at il
        have pa := (hP2.at_ p pm').mono s7
        obtain ⟨n1, n2⟩ := hN2.nms p pm'
        walk_at "rd"
        refine ⟨.inr (.inr (.inl ⟨rfl, .inl ⟨_, tab7.top⟩⟩)), p, rfl, pa, n1, n2, fun d8 ns H8 s8 tab8 em f8 => ?_⟩
        have nd8 : d ≠ d8 := ne_of_none tab7.top f8
        have tl := told_len em
        have tab7' := tab7.mono s8
        refine ⟨_, tab7'.top, _, tab8.top, nd8, by rw [List.length_map, List.length_map]; rcases ha with ⟨rfl, _⟩ | ⟨rfl, _⟩ <;> omega, ?_⟩
        rw [merge_T]
        refine ⟨same_upd d2 (s7.trans s8), ?_, ns.foldl putT ms', ⟨upd_same, fun m hm => ?_⟩, ?_, merge_nd nd7, fun z => ?_⟩
        · rw [upd_ne (ne_of hq7 tab7.top (by intro z; cases z))]; exact s8 _ _ hq7
        · have key : TabM.At H8 m := (merge_mem hm).elim (fun y => tab8.at_ m y) fun y => tab7'.at_ m y
          unfold TabM.At
          rw [upd_ne (ne_of key tab7'.top (by intro z; cases z))]; exact key
        · have := merge_len (ns := ns) (ms := ms')
          omega
        · rw [merge_look (told_nd n2 em), List.take_succ, hp, List.foldl_append]
          show _ = (tellOf p s z).or _
          rw [← look7 z, ← told_look em]
          cases lookT ns z <;> rfl
      · rintro σ H7 ⟨ms', b4, rfl, s7, hq7, tab7, len7, nd7, look7⟩
        rw [List.length_map] at len7
        refine ⟨ms', _, _, rfl, s7, hq7, tab7, by omega, nd7, fun z => ?_⟩
        rw [look7 z, List.length_map, List.take_of_length_le (by rw [List.length_reverse]; exact Nat.le_refl _), fold_first, look z]
        rcases ha with ⟨rfl, rfl⟩ | ⟨rfl, rfl⟩
        · show (firstT so sWeak z).or none = firstT so sWeak z
          rw [Option.or_none]
        · rfl
    · rintro σ H' ⟨ms, b3, b4, rfl, s6, hq6, tab, len, nd, look⟩
      walk_at "rd"
      have dP : d ≠ A.tb_names_of := fun e => by
        obtain ⟨_, e1, _⟩ := tb2
        rw [e, e1] at d2; cases d2
      exact k d ms H' (fun b o n e => s6 _ _ (sx b o n e)) (tb2.more s6) tab (nm_of sp pw2 nd fun z => by rw [look z]; rfl) (sx.free dP d2)
theorem sgn_inj {i j : Int} (h0 : 0 ≤ i) (h1 : i < 37) (g0 : 0 ≤ j) (g1 : j < 37) (e : sgn i = sgn j) : i = j := by
  obtain ⟨m, rfl⟩ := Int.eq_ofNat_of_zero_le h0
  obtain ⟨n, rfl⟩ := Int.eq_ofNat_of_zero_le g0
  have hm : m < 37 := by omega
  have hn : n < 37 := by omega
  have : ∀ a : Nat, a < 37 → ∀ b : Nat, b < 37 → sgn (a : Int) = sgn (b : Int) → a = b := by decide +kernel
  rw [this m hm n hn e]
theorem nameOf_inj {t k k' : Int} (h0 : 0 ≤ k) (h1 : k < 16) (g0 : 0 ≤ k') (g1 : k' < 16) (e : nameOf t k = nameOf t k') : k = k' := by
  unfold nameOf at e
  by_cases hc : t / 256 % 3 = 0
  · have l := congrArg Str.length e
    rw [nmTo_len, nmTo_len] at l
    unfold nmSize at l
    rw [if_pos hc, if_pos hc] at l
    omega
  · unfold nmSize at e
    rw [if_neg hc, if_neg hc] at e
    have a0 : 0 ≤ t / 16 % (1 + t % 16) := Int.emod_nonneg _ (by omega)
    have a1 : t / 16 % (1 + t % 16) < 1 + t % 16 := Int.emod_lt_of_pos _ (by omega)
    have ea : nmAt t = t / 16 % (1 + t % 16) := by unfold nmAt; rw [if_neg hc]
    obtain ⟨j, ej⟩ := Int.eq_ofNat_of_zero_le a0
    have hj : j < (1 + t % 16).toNat := by omega
    have e1 := congrArg (fun z : Str => z.cps.toList[j]?) e
    have get : ∀ k : Int, (nmTo t k (1 + t % 16).toNat).cps.toList[j]? = some (sgn (nmIx t k j)) := fun k => by
      unfold nmTo
      simp [hj]
    have e2 : sgn (nmIx t k j) = sgn (nmIx t k' j) := by
      have e1 : (nmTo t k (1 + t % 16).toNat).cps.toList[j]? = (nmTo t k' (1 + t % 16).toNat).cps.toList[j]? := e1
      rw [get, get] at e1
      exact Option.some.inj e1
    have e3 := sgn_inj (nmIx_lo t k j).1 (nmIx_lo t k j).2 (nmIx_lo t k' j).1 (nmIx_lo t k' j).2 e2
    unfold nmIx at e3
    rw [decide_eq_true (show (j : Int) = nmAt t by rw [ea, ej])] at e3
    simp only [if_true, Int.mul_one] at e3
    generalize t / ((j : Int) + 3) + (j : Int) * (j : Int) = y at e3
    by_cases hj0 : (j : Int) = 0
    · rw [decide_eq_true hj0] at e3
      simp at e3
      omega
    · rw [decide_eq_false hj0] at e3
      simp at e3
      omega
theorem range_nd {t : Int} : ∀ n : Nat, n ≤ 12 → (((List.range n).map fun i : Nat => nameOf t i) ++ [nameOf t 14]).Nodup := fun n hn => by
  rw [List.nodup_append]
  refine ⟨?_, by simp, fun x hx y hy e => ?_⟩
  · rw [List.Nodup, List.pairwise_map]
    refine List.Pairwise.imp_of_mem (fun {a b} ha hb hne e => hne ?_) (List.nodup_range (n := n))
    have := nameOf_inj (k := (a : Int)) (k' := (b : Int)) (by omega) (by have := List.mem_range.mp ha; omega) (by omega) (by have := List.mem_range.mp hb; omega) e
    omega
  · obtain ⟨i, hi, rfl⟩ := List.mem_map.mp hx
    rw [List.mem_singleton.mp hy] at e
    have := nameOf_inj (k := (i : Int)) (k' := 14) (by omega) (by have := List.mem_range.mp hi; omega) (by omega) (by omega) e
    have := List.mem_range.mp hi
    omega
theorem sum_mem {l : List Nat} {x : Nat} (h : x ∈ l) : x ≤ l.sum := by
  induction l with
  | nil => cases h
  | cons a l ih =>
    rw [List.sum_cons]
    rcases List.mem_cons.mp h with e | e
    · omega
    · have := ih e
      omega
theorem Drawn.pc {c t : Int} {n : Nat} {ps : List PcM} {p : PcM} (d : Drawn c t n ps) (h : p ∈ ps) : (p.name.length ≤ 16 ∧ Sg p.name) ∧ p.nms.length ≤ n ∧ p.sts.length ≤ n ∧ ∀ s ∈ p.sts, s.words.length ≤ n ∧ s.fills.length ≤ n := by
  have h1 : p.size ≤ n := Nat.le_trans (sum_mem (List.mem_map.mpr ⟨p, h, rfl⟩)) d.size
  have h2 : p.name ∈ (List.range ps.length).map fun i : Nat => nameOf t i := by rw [← d.names]; exact List.mem_map.mpr ⟨p, h, rfl⟩
  obtain ⟨i, _, e⟩ := List.mem_map.mp h2
  unfold PcM.size at h1
  refine ⟨by rw [← e]; exact nameOf_ok t i (Int.natCast_nonneg i), by omega, by omega, fun s hs => ?_⟩
  have h3 := sum_mem (List.mem_map.mpr ⟨s, hs, rfl⟩ : s.words.length ∈ p.sts.map fun s => s.words.length)
  have h4 := ((d.ok p h).sts s hs).few
  exact ⟨by omega, by omega⟩
theorem cut_ints (ns : List Int) (h : ns.length ≤ 63) : ∃ ms : List Int, cutV (ns.map V.int) (some 2) (some 202) = ms.map V.int ∧ ms.length ≤ 61 := by
  refine ⟨(ns.drop (HT.sIx (ns.map V.int).length 0 (some 2))).take (HT.sIx (ns.map V.int).length (ns.map V.int).length (some 202) - HT.sIx (ns.map V.int).length 0 (some 2)), ?_, ?_⟩
  · unfold cutV
    rw [List.map_take, List.map_drop]
  · have e : HT.sIx (ns.map V.int).length 0 (some 2) = min 2 ns.length := by
      rw [show (some (2 : Int)) = some ((2 : Nat) : Int) from rfl, HT.sIx_nat, List.length_map]
    rw [List.length_take, List.length_drop, e]
    omega
theorem G__law_whole (T : Txt K mg A) : FnOk P w K mg base CX0 1 A._law_whole A.fd__law_whole ["_law_found"] sp_whole := by
  refine T.F__law_whole.ok sc__law_whole (fun vs H Q E h => ?_) (fun cdv Ar outer s H vs Q E hr h => ?_)
  · obtain ⟨c, rfl, _⟩ := h
    rfl
  · obtain ⟨c, rfl, k⟩ := h
    refine ⟨_, (@pss_one _ _ _ (@ps_ret _ _ _ _ (@pe_and _ _ _ _ _ _ _ (@pe_callB _ _ _ _ _ _ _ _ _ (call_isiK (K := K) rfl) (by rfl) T.n_isinstance bt_isinstance (@pa_cons _ _ _ _ _ (@pv _ 0 _ _ (by rfl) (by first  |  exact  Or.inl  rfl  |  exact  Or.inr  (    Or.inl  rfl  )  |  exact  Or.inr  (    Or.inr  rfl  )) (by decide) (by decide)) (@pa_cons _ _ _ _ _ (@pe_bltn _ _ _ _ _ rfl T.n_int bt_int relT (by decide) (by decide)) (@pa_nil _) (by rfl)) (by rfl)) (by decide) (by decide) (by rfl) (by rfl)) (@pe_one _ _ _ _ _ (@pe_not _ _ _ _ (@pe_callB _ _ _ _ _ _ _ _ _ (call_isiK (K := K) rfl) (by rfl) T.n_isinstance bt_isinstance (@pa_cons _ _ _ _ _ (@pv _ 0 _ _ (by rfl) (by first  |  exact  Or.inl  rfl  |  exact  Or.inr  (    Or.inl  rfl  )  |  exact  Or.inr  (    Or.inr  rfl  )) (by decide) (by decide)) (@pa_cons _ _ _ _ _ (@pe_bltn _ _ _ _ _ rfl T.n_bool bt_bool relT (by decide) (by decide)) (@pa_nil _) (by rfl)) (by rfl)) (by decide) (by decide) (by rfl) (by rfl))))))), ?_⟩
    walk_at "rd"
    exact ⟨_, .int c, true, rfl, iteT ⟨_, .int c, false, rfl, k⟩⟩
theorem G__law_spot (T : Txt K mg A) : FnOk P w K mg base CX0 2 A._law_spot A.fd__law_spot ["_law_found", "_law_due_here"] sp_spot := by
  refine T.F__law_spot.ok sc__law_spot (fun vs H Q E h => ?_) (fun cdv Ar outer s H vs Q E hr h => ?_)
  · obtain ⟨a, b, x, rfl, _⟩ := h
    rfl
  · obtain ⟨a, b, x, rfl, ha, hb, k⟩ := h
    refine ⟨_, (@pss_cons _ _ _ _ _ (@ps_if _ _ _ _ _ _ _ _ (@PW.pt _ _ _ (@pw_or _ _ _ _ _ _ _ (@pt_not _ _ _ _ (@pt_val _ _ _ (@pe_callB _ _ _ _ _ _ _ _ _ (call_isiK (K := K) rfl) (by rfl) T.n_isinstance bt_isinstance (@pa_cons _ _ _ _ _ (@pv _ 0 _ _ (by rfl) (by first  |  exact  Or.inl  rfl  |  exact  Or.inr  (    Or.inl  rfl  )  |  exact  Or.inr  (    Or.inr  rfl  )) (by decide) (by decide)) (@pa_cons _ _ _ _ _ (@pe_bltn _ _ _ _ _ rfl T.n_tuple bt_tuple relT (by decide) (by decide)) (@pa_nil _) (by rfl)) (by rfl)) (by decide) (by decide) (by rfl) (by rfl)) (by intro  _  ;  rfl))) (@pw_or _ _ _ _ _ _ _ (@pt_cmpR _ _ _ _ _ _ _ _ op_ne (@pe_callB _ _ _ _ _ _ _ _ _ (call_lenK (K := K) rfl) (by rfl) T.n_len bt_len (@pa_cons _ _ _ _ _ (@pv _ 0 _ _ (by rfl) (by first  |  exact  Or.inl  rfl  |  exact  Or.inr  (    Or.inl  rfl  )  |  exact  Or.inr  (    Or.inr  rfl  )) (by decide) (by decide)) (@pa_nil _) (by rfl)) (by decide) (by decide) (by rfl) (by rfl)) (@pe_int _ _ _ _) (nomark _)) (@pw_or1 _ _ _ _ (@pt_not _ _ _ _ (@pt_val _ _ _ (@pe_callB _ _ _ _ _ _ _ _ _ (call_isiK (K := K) rfl) (by rfl) T.n_isinstance bt_isinstance (@pa_cons _ _ _ _ _ (@pe_ix _ _ _ _ _ _ _ (ix_tupK (K := K) rfl) (@pv _ 0 _ _ (by rfl) (by first  |  exact  Or.inl  rfl  |  exact  Or.inr  (    Or.inl  rfl  )  |  exact  Or.inr  (    Or.inr  rfl  )) (by decide) (by decide)) (@pe_int _ _ _ _) (fun _ _ => rfl)) (@pa_cons _ _ _ _ _ (@pe_bltn _ _ _ _ _ rfl T.n_str bt_str relT (by decide) (by decide)) (@pa_nil _) (by rfl)) (by rfl)) (by decide) (by decide) (by rfl) (by rfl)) (by intro  _  ;  rfl))))))) (@pss_one _ _ _ (@ps_ret _ _ _ _ (@pe_bl _ _ _ _))) (@pss_nil _)) (@pss_one _ _ _ (@ps_ret _ _ _ _ (@pe_and _ _ _ _ _ _ _ (@pe_call _ _ _ _ _ _ _ _ _ _ _ _ _ _ _ _ (G__law_whole T) (hr.mono (by decide)) rfl T.m__law_whole T.k__law_whole T.b__law_whole .nil (@pass0 _) (@pa_cons _ _ _ _ _ (@pe_ix _ _ _ _ _ _ _ (ix_tupK (K := K) rfl) (@pv _ 0 _ _ (by rfl) (by first  |  exact  Or.inl  rfl  |  exact  Or.inr  (    Or.inl  rfl  )  |  exact  Or.inr  (    Or.inr  rfl  )) (by decide) (by decide)) (@pe_int _ _ _ _) (fun _ _ => rfl)) (@pa_nil _) (by rfl)) (by decide) (by rfl) (by rfl)) (@pe_and _ _ _ _ _ _ _ (@pe_call _ _ _ _ _ _ _ _ _ _ _ _ _ _ _ _ (G__law_whole T) (hr.mono (by decide)) rfl T.m__law_whole T.k__law_whole T.b__law_whole .nil (@pass0 _) (@pa_cons _ _ _ _ _ (@pe_ix _ _ _ _ _ _ _ (ix_tupK (K := K) rfl) (@pv _ 0 _ _ (by rfl) (by first  |  exact  Or.inl  rfl  |  exact  Or.inr  (    Or.inl  rfl  )  |  exact  Or.inr  (    Or.inr  rfl  )) (by decide) (by decide)) (@pe_int _ _ _ _) (fun _ _ => rfl)) (@pa_nil _) (by rfl)) (by decide) (by rfl) (by rfl)) (@pe_one _ _ _ _ _ (@pe_cmpR _ _ _ _ _ _ _ _ (op_eqDK hr.units (K := K) rfl) (@pv _ 0 _ _ (by rfl) (by first  |  exact  Or.inl  rfl  |  exact  Or.inr  (    Or.inl  rfl  )  |  exact  Or.inr  (    Or.inr  rfl  )) (by decide) (by decide)) (@pv _ 1 _ _ (by rfl) (by first  |  exact  Or.inl  rfl  |  exact  Or.inr  (    Or.inl  rfl  )  |  exact  Or.inr  (    Or.inr  rfl  )) (by decide) (by decide)) (nomark _)))))))), ?_⟩
    walk_at "rd"
    refine ⟨_, .tup ha, true, rfl, ?_⟩
    rw [if_neg (by decide)]
    refine ⟨3, .inr ⟨_, SqT.of ha, rfl⟩, ?_⟩
    rw [if_neg (by decide)]
    refine ⟨_, SqT.of ha, _, rfl, _, .str _, true, rfl, ?_⟩
    rw [if_neg (by decide)]
    refine ⟨_, SqT.of ha, _, rfl, _, rfl, _, SqT.of ha, _, rfl, _, rfl, [.str x.1, .int x.2.1, .int x.2.2], [.str x.1, .int x.2.1, .int x.2.2], .inr ⟨?_, ?_⟩, by simp [dep, depL], by rw [deqL_refl]; exact k⟩
    · simp only [Rep]
      exact ⟨_, _, rfl, SqT.of ha, by simp [RepL, Rep]⟩
    · simp only [Rep]
      exact ⟨_, _, rfl, SqT.of hb, by simp [RepL, Rep]⟩
set_option genInjectivity false in
structure DuI (R : List (Str × ToldM)) (du wk : List TabM) : Prop where
  nd : (du.map TabM.name).Nodup
  nw : (wk.map TabM.name).Nodup
  ds : ∀ z m, lookT du z = some m → ∃ r ∈ R, r.2.name = z ∧ r.2.sort = sTell ∧ TabM.vl m = rvl r
  dn : ∀ z, lookT du z = none → ∀ r ∈ R, r.2.name = z → r.2.sort ≠ sTell
  ws : ∀ z m, lookT wk z = some m → ∃ r ∈ R, r.2.name = z ∧ r.2.sort = sWeak ∧ TabM.vl m = rvl r ∧ ∀ r' ∈ R, r'.2.name = z → r'.2.sort = sWeak → leN r.1 r'.1
  wn : ∀ z, lookT wk z = none → ∀ r ∈ R, r.2.name = z → r.2.sort ≠ sWeak
theorem tell_weak : sTell ≠ sWeak := by decide +kernel
noncomputable def rowT (t : Addr) (r : Str × ToldM) : TabM := ⟨r.2.name, t, r.1, r.2.st, r.2.off⟩
theorem DuI.tell {R : List (Str × ToldM)} {du wk : List TabM} {r : Str × ToldM} {t : Addr} (h : DuI R du wk) (e : r.2.sort = sTell) : DuI (R ++ [r]) (putT du (rowT t r)) wk := by
  have inL : ∀ x ∈ R, x ∈ R ++ [r] := fun x hx => List.mem_append_left _ hx
  refine ⟨put_nd h.nd, h.nw, fun z m hm => ?_, fun z hz x hx hn => ?_, fun z m hm => ?_, fun z hz x hx hn => ?_⟩
  · rw [look_put] at hm
    by_cases q : (rowT t r).name = z
    · rw [if_pos q] at hm
      cases hm
      exact ⟨r, by simp, q, e, rfl⟩
    · rw [if_neg q] at hm
      obtain ⟨x, hx, y⟩ := h.ds z m hm
      exact ⟨x, inL x hx, y⟩
  · rw [look_put] at hz
    by_cases q : (rowT t r).name = z
    · rw [if_pos q] at hz; cases hz
    · rw [if_neg q] at hz
      rcases List.mem_append.mp hx with y | y
      · exact h.dn z hz x y hn
      · rw [List.mem_singleton.mp y] at hn
        exact absurd hn q
  · obtain ⟨x, hx, y1, y2, y3, y4⟩ := h.ws z m hm
    refine ⟨x, inL x hx, y1, y2, y3, fun r' hr' n' s' => ?_⟩
    rcases List.mem_append.mp hr' with y | y
    · exact y4 r' y n' s'
    · rw [List.mem_singleton.mp y] at s'
      exact absurd (e.symm.trans s') tell_weak
  · rcases List.mem_append.mp hx with y | y
    · exact h.wn z hz x y hn
    · rw [List.mem_singleton.mp y, e]; exact tell_weak
theorem DuI.weak1 {R : List (Str × ToldM)} {du wk : List TabM} {r : Str × ToldM} {t : Addr} (h : DuI R du wk) (e : r.2.sort = sWeak) (hw : ∀ m, lookT wk r.2.name = some m → r.1.cps.toList < m.a.cps.toList) : DuI (R ++ [r]) du (putT wk (rowT t r)) := by
  have inL : ∀ x ∈ R, x ∈ R ++ [r] := fun x hx => List.mem_append_left _ hx
  refine ⟨h.nd, put_nd h.nw, fun z m hm => ?_, fun z hz x hx hn => ?_, fun z m hm => ?_, fun z hz x hx hn => ?_⟩
  · obtain ⟨x, hx, y⟩ := h.ds z m hm
    exact ⟨x, inL x hx, y⟩
  · rcases List.mem_append.mp hx with y | y
    · exact h.dn z hz x y hn
    · rw [List.mem_singleton.mp y, e]; exact tell_weak.symm
  · rw [look_put] at hm
    by_cases q : (rowT t r).name = z
    · rw [if_pos q] at hm
      cases hm
      refine ⟨r, by simp, q, e, rfl, fun r' hr' n' s' => ?_⟩
      rcases List.mem_append.mp hr' with y | y
      · cases hl : lookT wk z with
        | none => exact absurd s' (h.wn z hl r' y n')
        | some m0 =>
          obtain ⟨x, hx, y1, y2, y3, y4⟩ := h.ws z m0 hl
          have lt := hw m0 (by rw [show r.2.name = z from q]; exact hl)
          have ea : m0.a = x.1 := congrArg (·.1) y3
          rw [ea] at lt
          exact fun lt2 => y4 r' y n' s' (List.lt_trans lt2 lt)
      · rw [List.mem_singleton.mp y]; exact List.lt_irrefl _
    · rw [if_neg q] at hm
      obtain ⟨x, hx, y1, y2, y3, y4⟩ := h.ws z m hm
      refine ⟨x, inL x hx, y1, y2, y3, fun r' hr' n' s' => ?_⟩
      rcases List.mem_append.mp hr' with y | y
      · exact y4 r' y n' s'
      · rw [List.mem_singleton.mp y] at n'
        exact absurd n' q
  · rw [look_put] at hz
    by_cases q : (rowT t r).name = z
    · rw [if_pos q] at hz; cases hz
    · rw [if_neg q] at hz
      rcases List.mem_append.mp hx with y | y
      · exact h.wn z hz x y hn
      · rw [List.mem_singleton.mp y] at hn
        exact absurd hn q
theorem DuI.weak2 {R : List (Str × ToldM)} {du wk : List TabM} {r : Str × ToldM} {m0 : TabM} (h : DuI R du wk) (e : r.2.sort = sWeak) (hw : lookT wk r.2.name = some m0) (lt : ¬ r.1.cps.toList < m0.a.cps.toList) : DuI (R ++ [r]) du wk := by
  have inL : ∀ x ∈ R, x ∈ R ++ [r] := fun x hx => List.mem_append_left _ hx
  refine ⟨h.nd, h.nw, fun z m hm => ?_, fun z hz x hx hn => ?_, fun z m hm => ?_, fun z hz x hx hn => ?_⟩
  · obtain ⟨x, hx, y⟩ := h.ds z m hm
    exact ⟨x, inL x hx, y⟩
  · rcases List.mem_append.mp hx with y | y
    · exact h.dn z hz x y hn
    · rw [List.mem_singleton.mp y, e]; exact tell_weak.symm
  · obtain ⟨x, hx, y1, y2, y3, y4⟩ := h.ws z m hm
    refine ⟨x, inL x hx, y1, y2, y3, fun r' hr' n' s' => ?_⟩
    rcases List.mem_append.mp hr' with y | y
    · exact y4 r' y n' s'
    · have er := List.mem_singleton.mp y
      rw [er] at n' ⊢
      rw [n', hm] at hw
      cases hw
      have ea : m0.a = x.1 := congrArg (·.1) y3
      rw [ea] at lt
      exact lt
  · rcases List.mem_append.mp hx with y | y
    · exact h.wn z hz x y hn
    · rw [List.mem_singleton.mp y] at hn
      rw [hn, hz] at hw; cases hw
theorem DuI.other {R : List (Str × ToldM)} {du wk : List TabM} {r : Str × ToldM} (h : DuI R du wk) (e1 : r.2.sort ≠ sTell) (e2 : r.2.sort ≠ sWeak) : DuI (R ++ [r]) du wk := by
  have inL : ∀ x ∈ R, x ∈ R ++ [r] := fun x hx => List.mem_append_left _ hx
  refine ⟨h.nd, h.nw, fun z m hm => ?_, fun z hz x hx hn => ?_, fun z m hm => ?_, fun z hz x hx hn => ?_⟩
  · obtain ⟨x, hx, y⟩ := h.ds z m hm
    exact ⟨x, inL x hx, y⟩
  · rcases List.mem_append.mp hx with y | y
    · exact h.dn z hz x y hn
    · rw [List.mem_singleton.mp y]; exact e1
  · obtain ⟨x, hx, y1, y2, y3, y4⟩ := h.ws z m hm
    refine ⟨x, inL x hx, y1, y2, y3, fun r' hr' n' s' => ?_⟩
    rcases List.mem_append.mp hr' with y | y
    · exact y4 r' y n' s'
    · rw [List.mem_singleton.mp y] at s'
      exact absurd s' e2
  · rcases List.mem_append.mp hx with y | y
    · exact h.wn z hz x y hn
    · rw [List.mem_singleton.mp y]; exact e2
theorem DuI.done {R : List (Str × ToldM)} {du wk ms : List TabM} (h : DuI R du wk) (nd : (ms.map TabM.name).Nodup) (e : ∀ z, lookT ms z = (lookT du z).or (lookT wk z)) : NmOk R ms := by
  refine ⟨nd, fun z m hm => ?_, fun z hz r hr hn => ?_⟩
  · rw [e z] at hm
    cases hd : lookT du z with
    | some m' => rw [hd] at hm; cases hm; exact .inl (h.ds z m hd)
    | none =>
      rw [hd] at hm
      exact .inr ⟨h.dn z hd, h.ws z m hm⟩
  · rw [e z] at hz
    obtain ⟨h1, h2⟩ := Option.or_eq_none_iff.mp hz
    exact ⟨h.dn z h1 r hr hn, h.wn z h2 r hr hn⟩
theorem row_one {ps : List PcM} (hN : PsN ps) {r r' : Str × ToldM} (hr : r ∈ rowsN ps) (hr' : r' ∈ rowsN ps) (e1 : r.1 = r'.1) (e2 : r.2.name = r'.2.name) : r = r' := by
  obtain ⟨p, hp, q1, q2⟩ := mem_rows.mp hr
  obtain ⟨p', hp', q3, q4⟩ := mem_rows.mp hr'
  have pe : p = p' := by
    obtain ⟨i, hi, rfl⟩ := List.getElem_of_mem hp
    obtain ⟨j, hj, rfl⟩ := List.getElem_of_mem hp'
    have pw := List.pairwise_iff_getElem.mp hN.nd
    have en : ps[i].name = ps[j].name := by rw [q1, q3, e1]
    rcases Nat.lt_trichotomy i j with z | z | z
    · exact absurd (by rw [List.getElem_map, List.getElem_map]; exact en) (pw i j (by simpa using hi) (by simpa using hj) z)
    · subst z; rfl
    · exact absurd (by rw [List.getElem_map, List.getElem_map]; exact en.symm) (pw j i (by simpa using hj) (by simpa using hi) z)
  subst pe
  have nn := (hN.nms p hp).2
  obtain ⟨i, hi, h1⟩ := List.getElem_of_mem q2
  obtain ⟨j, hj, h2⟩ := List.getElem_of_mem q4
  have pw := List.pairwise_iff_getElem.mp nn
  have : r.2 = r'.2 := by
    rcases Nat.lt_trichotomy i j with z | z | z
    · exact absurd (by rw [List.getElem_map, List.getElem_map, h1, h2]; exact e2) (pw i j (by simpa using hi) (by simpa using hj) z)
    · subst z; exact h1.symm.trans h2
    · exact absurd (by rw [List.getElem_map, List.getElem_map, h1, h2]; exact e2.symm) (pw j i (by simpa using hj) (by simpa using hi) z)
  exact Prod.ext e1 this
theorem row_tell {ps : List PcM} (hN : PsN ps) {r r' : Str × ToldM} (hr : r ∈ rowsN ps) (hr' : r' ∈ rowsN ps) (s1 : r.2.sort = sTell) (s2 : r'.2.sort = sTell) (e2 : r.2.name = r'.2.name) : r = r' := by
  obtain ⟨p, hp, q1, q2⟩ := mem_rows.mp hr
  obtain ⟨p', hp', q3, q4⟩ := mem_rows.mp hr'
  obtain ⟨i, hi, rfl⟩ := List.getElem_of_mem hp
  obtain ⟨j, hj, rfl⟩ := List.getElem_of_mem hp'
  have pw := List.pairwise_iff_getElem.mp hN.tw
  rcases Nat.lt_trichotomy i j with z | z | z
  · exact absurd e2 (pw i j hi hj z r.2 q2 r'.2 q4 s1 s2)
  · subst z
    exact row_one hN hr hr' (by rw [← q1, ← q3]) e2
  · exact absurd e2.symm (pw j i hj hi z r'.2 q4 r.2 q2 s2 s1)
theorem NmOk.one {ps : List PcM} {ms ns : List TabM} (hN : PsN ps) (h : NmOk (rowsN ps) ms) (h' : NmOk (rowsN ps) ns) {z : Str} {m n : TabM} (hm : lookT ms z = some m) (hn : lookT ns z = some n) : TabM.vl m = TabM.vl n := by
  rcases h.som z m hm with ⟨r, hr, a1, a2, a3⟩ | ⟨no, r, hr, a1, a2, a3, a4⟩ <;> rcases h'.som z n hn with ⟨r', hr', b1, b2, b3⟩ | ⟨no', r', hr', b1, b2, b3, b4⟩
  · rw [a3, b3, row_tell hN hr hr' a2 b2 (a1.trans b1.symm)]
  · exact absurd a2 (no' r hr a1)
  · exact absurd b2 (no r' hr' b1)
  · have e : r.1 = r'.1 := cps_inj (List.le_antisymm (List.not_lt.mp (a4 r' hr' b1 b2)) (List.not_lt.mp (b4 r hr a1 a2)))
    rw [a3, b3, row_one hN hr hr' e (a1.trans b1.symm)]
theorem look_mem {ms : List TabM} {z : Str} : z ∈ ms.map TabM.name ↔ lookT ms z ≠ none := by
  constructor
  · intro h e
    obtain ⟨m, hm, q⟩ := List.mem_map.mp h
    exact List.find?_eq_none.mp e m hm (decide_eq_true q)
  · intro h
    cases e : lookT ms z with
    | none => exact absurd e h
    | some m => exact List.mem_map.mpr ⟨m, List.mem_of_find?_eq_some e, of_decide_eq_true (List.find?_some (p := fun m : TabM => decide (m.name = z)) e)⟩
theorem NmOk.mem {R : List (Str × ToldM)} {ms : List TabM} (h : NmOk R ms) {z : Str} : z ∈ ms.map TabM.name ↔ ∃ r ∈ R, r.2.name = z ∧ (r.2.sort = sTell ∨ r.2.sort = sWeak) := by
  rw [look_mem]
  constructor
  · intro q
    cases e : lookT ms z with
    | none => exact absurd e q
    | some m =>
      rcases h.som z m e with ⟨r, hr, a1, a2, _⟩ | ⟨_, r, hr, a1, a2, _⟩
      · exact ⟨r, hr, a1, .inl a2⟩
      · exact ⟨r, hr, a1, .inr a2⟩
  · rintro ⟨r, hr, a1, a2⟩ e
    have := h.non z e r hr a1
    exact a2.elim this.1 this.2
theorem sub_len {l m : List Str} (h : l.Nodup) (s : ∀ x ∈ l, x ∈ m) : l.length ≤ m.length := by
  induction l generalizing m with
  | nil => exact Nat.zero_le _
  | cons x r ih =>
    obtain ⟨h1, h2⟩ := List.nodup_cons.mp h
    have hx := s x List.mem_cons_self
    have := ih (m := m.erase x) h2 fun y hy => (List.mem_erase_of_ne (fun (e : y = x) => h1 (e ▸ hy))).mpr (s y (List.mem_cons_of_mem _ hy))
    rw [List.length_erase_of_mem hx] at this
    have := List.length_pos_of_mem hx
    rw [List.length_cons]
    omega
theorem NmOk.len {R : List (Str × ToldM)} {ms ns : List TabM} (h : NmOk R ms) (h' : NmOk R ns) : ms.length = ns.length := by
  have a := sub_len h.nd fun x hx => h'.mem.mpr (h.mem.mp hx)
  have b := sub_len h'.nd fun x hx => h.mem.mpr (h'.mem.mp hx)
  rw [List.length_map, List.length_map] at a b
  omega
theorem look_self {ms : List TabM} {m : TabM} (nd : (ms.map TabM.name).Nodup) (h : m ∈ ms) : lookT ms m.name = some m := by
  unfold lookT
  induction ms with
  | nil => cases h
  | cons n r ih =>
    rw [List.map_cons] at nd
    obtain ⟨n1, n2⟩ := List.nodup_cons.mp nd
    rw [List.find?_cons]
    rcases List.mem_cons.mp h with e | e
    · rw [e, decide_eq_true rfl]
    · rw [decide_eq_false (fun q => n1 (List.mem_map.mpr ⟨m, e, q.symm⟩))]
      exact ih n2 e
theorem tab_put {H0 H : Hp} {d e t : Addr} {du wk : List TabM} {r : Str × ToldM} (s : Same H0 H) (f : H0 d = none) (nde : d ≠ e) (td : Tab H d du) (te : Tab H e wk) (ht : H t = none) (len : du.length ≤ 1000) :
    ∃ H', DPut (upd H t (.tup [.str r.1, .int r.2.st, .int r.2.off])) d (V.str r.2.name) (V.ref t) H' ∧ Same H0 H' ∧ Tab H' d (putT du (rowT t r)) ∧ Tab H' e wk := by
  have sn := same_new (o := HO.tup [.str r.1, .int r.2.st, .int r.2.off]) ht
  refine ⟨_, DPut.k (k := .inr r.2.name) (sn _ _ td.top) (by rw [List.length_map, sizeLine_eq]; omega), same_upd f (s.trans sn), (td.mono sn).put (m := rowT t r) (show upd H t _ t = _ from upd_same), ?_⟩
  have te' := te.mono sn
  exact ⟨by rw [upd_ne (Ne.symm nde)]; exact te'.top, fun m hm => by
    unfold TabM.At
    rw [upd_ne (ne_of (te'.at_ m hm) (sn _ _ td.top) (by intro z; cases z))]; exact te'.at_ m hm⟩
theorem G__law_due (T : Txt K mg A) : FnOk P w K mg base CX0 1 A._law_due A.fd__law_due ["_law_pieces"] sp_due := by
  refine T.F__law_due.ok sc__law_due (fun vs H Q E h => ?_) (fun cdv Ar outer s H vs Q E hr h => ?_)
  · obtain ⟨L, ps, rfl, _⟩ := h
    rfl
  · obtain ⟨L, ps, rfl, hP, hN, k⟩ := h
    refine ⟨_, (@pss_cons _ _ _ _ _ (@ps_set _ _ 1 _ _ _ _ sc__law_due.nd rfl (by first | exact Or.inl rfl | exact Or.inr rfl) (@pe_dnewK _ _) (by rfl) (by first  |  exact  .inl  rfl  |  exact  .inr  rfl  |  assumption)) (@pss_cons _ _ _ _ _ (@ps_set _ _ 2 _ _ _ _ sc__law_due.nd rfl (by first | exact Or.inl rfl | exact Or.inr rfl) (@pe_dnewK _ _) (by rfl) (by first  |  exact  .inl  rfl  |  exact  .inr  rfl  |  assumption)) (@pss_cons _ _ _ _ _ (@ps_for _ _ _ _ _ _ _ _ PassesOwn.never rfl (@pi_listK _ K _ _ _ rfl (@pv _ 0 _ _ (by rfl) (by first  |  exact  Or.inl  rfl  |  exact  Or.inr  (    Or.inl  rfl  )  |  exact  Or.inr  (    Or.inr  rfl  )) (by decide) (by decide))) (@pg_tupK _ K _ _ _ 3 _ rfl rfl (@pgs_cons _ _ _ _ _ (@pg_name _ _ 3 _ sc__law_due.nd rfl (by first | exact Or.inl rfl | exact Or.inr rfl) (by first  |  exact  .inl  rfl  |  exact  .inr  rfl  |  assumption)) (@pgs_cons _ _ _ _ _ (@pg_name _ _ 4 _ sc__law_due.nd rfl (by first | exact Or.inl rfl | exact Or.inr rfl) (by first  |  exact  .inl  rfl  |  exact  .inr  rfl  |  assumption)) (@pgs_cons _ _ _ _ _ (@pg_name _ _ 5 _ sc__law_due.nd rfl (by first | exact Or.inl rfl | exact Or.inr rfl) (by first  |  exact  .inl  rfl  |  exact  .inr  rfl  |  assumption)) (@pgs_nil _) (by rfl)) (by rfl)) (by rfl)) (by rfl) (by rfl)) (@pss_one _ _ _ (@ps_for _ _ _ _ _ _ _ _ PassesOwn.never rfl (@pi_listK _ K _ _ _ rfl (@pv _ 5 _ _ (by rfl) (by first  |  exact  Or.inl  rfl  |  exact  Or.inr  (    Or.inl  rfl  )  |  exact  Or.inr  (    Or.inr  rfl  )) (by decide) (by decide))) (@pg_tupK _ K _ _ _ 4 _ rfl rfl (@pgs_cons _ _ _ _ _ (@pg_name _ _ 6 _ sc__law_due.nd rfl (by first | exact Or.inl rfl | exact Or.inr rfl) (by first  |  exact  .inl  rfl  |  exact  .inr  rfl  |  assumption)) (@pgs_cons _ _ _ _ _ (@pg_name _ _ 7 _ sc__law_due.nd rfl (by first | exact Or.inl rfl | exact Or.inr rfl) (by first  |  exact  .inl  rfl  |  exact  .inr  rfl  |  assumption)) (@pgs_cons _ _ _ _ _ (@pg_name _ _ 8 _ sc__law_due.nd rfl (by first | exact Or.inl rfl | exact Or.inr rfl) (by first  |  exact  .inl  rfl  |  exact  .inr  rfl  |  assumption)) (@pgs_cons _ _ _ _ _ (@pg_name _ _ 9 _ sc__law_due.nd rfl (by first | exact Or.inl rfl | exact Or.inr rfl) (by first  |  exact  .inl  rfl  |  exact  .inr  rfl  |  assumption)) (@pgs_nil _) (by rfl)) (by rfl)) (by rfl)) (by rfl)) (by rfl) (by rfl)) (@pss_cons _ _ _ _ _ (@ps_if _ _ _ _ _ _ _ _ (@pt_cmpR _ _ _ _ _ _ _ _ op_eq (@pv _ 7 _ _ (by rfl) (by first  |  exact  Or.inl  rfl  |  exact  Or.inr  (    Or.inl  rfl  )  |  exact  Or.inr  (    Or.inr  rfl  )) (by decide) (by decide)) (@pe_str _ _ _ _) (nomark _)) (@pss_one _ _ _ (@ps_dput _ _ _ _ _ _ _ _ _ (hu_of hr) (@pv _ 1 _ _ (by rfl) (by first  |  exact  Or.inl  rfl  |  exact  Or.inr  (    Or.inl  rfl  )  |  exact  Or.inr  (    Or.inr  rfl  )) (by decide) (by decide)) (@pv _ 6 _ _ (by rfl) (by first  |  exact  Or.inl  rfl  |  exact  Or.inr  (    Or.inl  rfl  )  |  exact  Or.inr  (    Or.inr  rfl  )) (by decide) (by decide)) (@pe_tup _ _ _ _ _ (@pa_cons _ _ _ _ _ (@pv _ 3 _ _ (by rfl) (by first  |  exact  Or.inl  rfl  |  exact  Or.inr  (    Or.inl  rfl  )  |  exact  Or.inr  (    Or.inr  rfl  )) (by decide) (by decide)) (@pa_cons _ _ _ _ _ (@pv _ 8 _ _ (by rfl) (by first  |  exact  Or.inl  rfl  |  exact  Or.inr  (    Or.inl  rfl  )  |  exact  Or.inr  (    Or.inr  rfl  )) (by decide) (by decide)) (@pa_cons _ _ _ _ _ (@pv _ 9 _ _ (by rfl) (by first  |  exact  Or.inl  rfl  |  exact  Or.inr  (    Or.inl  rfl  )  |  exact  Or.inr  (    Or.inr  rfl  )) (by decide) (by decide)) (@pa_nil _) (by rfl)) (by rfl)) (by rfl))) rfl)) (@pss_nil _)) (@pss_one _ _ _ (@ps_if _ _ _ _ _ _ _ _ (@PW.pt _ _ _ (@pw_and _ _ _ _ _ _ _ (@pt_cmpR _ _ _ _ _ _ _ _ op_eq (@pv _ 7 _ _ (by rfl) (by first  |  exact  Or.inl  rfl  |  exact  Or.inr  (    Or.inl  rfl  )  |  exact  Or.inr  (    Or.inr  rfl  )) (by decide) (by decide)) (@pe_str _ _ _ _) (nomark _)) (@pw_and1 _ _ _ _ (@PW.pt _ _ _ (@pw_or _ _ _ _ _ _ _ (@pt_cmp _ _ _ _ _ _ (@pc_dnotin _ _ _ _ _ (hu_of hr) (@pv _ 6 _ _ (by rfl) (by first  |  exact  Or.inl  rfl  |  exact  Or.inr  (    Or.inl  rfl  )  |  exact  Or.inr  (    Or.inr  rfl  )) (by decide) (by decide)) (@pv _ 2 _ _ (by rfl) (by first  |  exact  Or.inl  rfl  |  exact  Or.inr  (    Or.inl  rfl  )  |  exact  Or.inr  (    Or.inr  rfl  )) (by decide) (by decide))) (by first  |  exact  nobehind  _  (    by  decide  )  (    by  decide  )  |  rfl)) (@pw_or1 _ _ _ _ (@pt_cmpR _ _ _ _ _ _ _ _ op_lt_str (@pv _ 3 _ _ (by rfl) (by first  |  exact  Or.inl  rfl  |  exact  Or.inr  (    Or.inl  rfl  )  |  exact  Or.inr  (    Or.inr  rfl  )) (by decide) (by decide)) (@pe_ix _ _ _ _ _ _ _ (ix_tupK (K := K) rfl) (@pe_dget _ _ _ _ _ _ (hu_of hr) (@pv _ 2 _ _ (by rfl) (by first  |  exact  Or.inl  rfl  |  exact  Or.inr  (    Or.inl  rfl  )  |  exact  Or.inr  (    Or.inr  rfl  )) (by decide) (by decide)) (@pv _ 6 _ _ (by rfl) (by first  |  exact  Or.inl  rfl  |  exact  Or.inr  (    Or.inl  rfl  )  |  exact  Or.inr  (    Or.inr  rfl  )) (by decide) (by decide)) (fun _ _ => rfl)) (@pe_int _ _ _ _) (fun _ _ => rfl)) (nomark _)))))))) (@pss_one _ _ _ (@ps_dput _ _ _ _ _ _ _ _ _ (hu_of hr) (@pv _ 2 _ _ (by rfl) (by first  |  exact  Or.inl  rfl  |  exact  Or.inr  (    Or.inl  rfl  )  |  exact  Or.inr  (    Or.inr  rfl  )) (by decide) (by decide)) (@pv _ 6 _ _ (by rfl) (by first  |  exact  Or.inl  rfl  |  exact  Or.inr  (    Or.inl  rfl  )  |  exact  Or.inr  (    Or.inr  rfl  )) (by decide) (by decide)) (@pe_tup _ _ _ _ _ (@pa_cons _ _ _ _ _ (@pv _ 3 _ _ (by rfl) (by first  |  exact  Or.inl  rfl  |  exact  Or.inr  (    Or.inl  rfl  )  |  exact  Or.inr  (    Or.inr  rfl  )) (by decide) (by decide)) (@pa_cons _ _ _ _ _ (@pv _ 8 _ _ (by rfl) (by first  |  exact  Or.inl  rfl  |  exact  Or.inr  (    Or.inl  rfl  )  |  exact  Or.inr  (    Or.inr  rfl  )) (by decide) (by decide)) (@pa_cons _ _ _ _ _ (@pv _ 9 _ _ (by rfl) (by first  |  exact  Or.inl  rfl  |  exact  Or.inr  (    Or.inl  rfl  )  |  exact  Or.inr  (    Or.inr  rfl  )) (by decide) (by decide)) (@pa_nil _) (by rfl)) (by rfl)) (by rfl))) rfl)) (@pss_nil _)))) (by intro  _  ;  rfl))) (by intro  _  ;  rfl)) (@pss_cons _ _ _ _ _ (@ps_for _ _ _ _ _ _ _ _ PassesOwn.never rfl (@pi_dict _ _ _ _ (@pv _ 2 _ _ (by rfl) (by first  |  exact  Or.inl  rfl  |  exact  Or.inr  (    Or.inl  rfl  )  |  exact  Or.inr  (    Or.inr  rfl  )) (by decide) (by decide))) (@pg_name _ _ 6 _ sc__law_due.nd rfl (by first | exact Or.inl rfl | exact Or.inr rfl) (by first  |  exact  .inl  rfl  |  exact  .inr  rfl  |  assumption)) (@pss_one _ _ _ (@ps_if _ _ _ _ _ _ _ _ (@pt_cmp _ _ _ _ _ _ (@pc_dnotin _ _ _ _ _ (hu_of hr) (@pv _ 6 _ _ (by rfl) (by first  |  exact  Or.inl  rfl  |  exact  Or.inr  (    Or.inl  rfl  )  |  exact  Or.inr  (    Or.inr  rfl  )) (by decide) (by decide)) (@pv _ 1 _ _ (by rfl) (by first  |  exact  Or.inl  rfl  |  exact  Or.inr  (    Or.inl  rfl  )  |  exact  Or.inr  (    Or.inr  rfl  )) (by decide) (by decide))) (by first  |  exact  nobehind  _  (    by  decide  )  (    by  decide  )  |  rfl)) (@pss_one _ _ _ (@ps_dput _ _ _ _ _ _ _ _ _ (hu_of hr) (@pv _ 1 _ _ (by rfl) (by first  |  exact  Or.inl  rfl  |  exact  Or.inr  (    Or.inl  rfl  )  |  exact  Or.inr  (    Or.inr  rfl  )) (by decide) (by decide)) (@pv _ 6 _ _ (by rfl) (by first  |  exact  Or.inl  rfl  |  exact  Or.inr  (    Or.inl  rfl  )  |  exact  Or.inr  (    Or.inr  rfl  )) (by decide) (by decide)) (@pe_dget _ _ _ _ _ _ (hu_of hr) (@pv _ 2 _ _ (by rfl) (by first  |  exact  Or.inl  rfl  |  exact  Or.inr  (    Or.inl  rfl  )  |  exact  Or.inr  (    Or.inr  rfl  )) (by decide) (by decide)) (@pv _ 6 _ _ (by rfl) (by first  |  exact  Or.inl  rfl  |  exact  Or.inr  (    Or.inl  rfl  )  |  exact  Or.inr  (    Or.inr  rfl  )) (by decide) (by decide)) (fun _ _ => rfl)) rfl)) (@pss_nil _))) (by intro  _  ;  rfl)) (@pss_one _ _ _ (@ps_ret _ _ _ _ (@pv _ 1 _ _ (by rfl) (by first  |  exact  Or.inl  rfl  |  exact  Or.inr  (    Or.inl  rfl  )  |  exact  Or.inr  (    Or.inr  rfl  )) (by decide) (by decide)))))))), ?_⟩
    walk_at "rd"
    intro d hd e he
    obtain ⟨ned, he'⟩ := free_of he
    have s0 : Same H (upd (upd H d (.dK [])) e (.dK [])) := (same_new hd).trans (same_new he)
    have few := hN.few
    refine ForL.of (xs := ps.map PcM.v) (fun i σ H' => ∃ (du wk : List TabM) (b3 b4 b5 b6 b7 b8 b9 : Option V), σ = [some (.ref L), some (.ref d), some (.ref e), b3, b4, b5, b6, b7, b8, b9] ∧ Same H H' ∧ Tab H' d du ∧ Tab H' e wk ∧ du.length ≤ 61 * i ∧ wk.length ≤ 61 * i ∧ DuI (rowsN (ps.take i)) du wk)
      ⟨[], [], _, _, _, _, _, _, _, rfl, s0, ⟨by rw [upd_ne (Ne.symm ned), upd_same]; rfl, fun m hm => by cases hm⟩, ⟨upd_same, fun m hm => by cases hm⟩, by simp, by simp, ⟨by simp, by simp, (fun z m hm => by cases hm), (fun z _ r hr => by simp [rowsN] at hr), (fun z m hm => by cases hm), (fun z _ r hr => by simp [rowsN] at hr)⟩⟩ ?_ ?_ ?_
    · rintro i σ H' hi ⟨du, wk, b3, b4, b5, b6, b7, b8, b9, rfl, s1, _⟩
      exact SqL.of (s1 _ _ hP.top)
    · rintro i v σ H' hv ⟨du, wk, b3, b4, b5, b6, b7, b8, b9, rfl, s1, td, te, ld, lw, I⟩
      rw [List.getElem?_map] at hv
      obtain ⟨p, hp, rfl⟩ := Option.map_eq_some_iff.mp hv
      have hm := List.mem_of_getElem? hp
      have il := (List.getElem?_eq_some_iff.mp hp).1
      have pa := (hP.at_ p hm).mono s1
      have pn := (hN.nms p hm).1
      have tk : rowsN (ps.take (i + 1)) = rowsN (ps.take i) ++ p.nms.map fun n => (p.name, n) := by
        unfold rowsN
        rw [List.take_succ, hp, List.flatMap_append]; simp
      walk_at "rd"
      refine ⟨_, SqT.of pa.top, rfl, _, _, rfl, _, _, rfl, _, _, rfl, rfl, ?_⟩
      refine ForL.of (xs := p.nms.map ToldM.v) (fun j σ H2 => ∃ (du wk : List TabM) (b6 b7 b8 b9 : Option V), σ = [some (.ref L), some (.ref d), some (.ref e), some (.str p.name), some (.ref p.ls), some (.ref p.ln), b6, b7, b8, b9] ∧ Same H H2 ∧ Tab H2 d du ∧ Tab H2 e wk ∧ du.length ≤ 61 * i + j ∧ wk.length ≤ 61 * i + j ∧ DuI (rowsN (ps.take i) ++ (p.nms.take j).map fun n => (p.name, n)) du wk)
        ⟨du, wk, _, _, _, _, rfl, s1, td, te, ld, lw, by simpa using I⟩ ?_ ?_ ?_
      · rintro j σ H2 hj ⟨du, wk, b6, b7, b8, b9, rfl, s2, _⟩
        exact SqL.of (s2 _ _ (hP.at_ p hm).nl)
      · rintro j v σ H2 hv ⟨du, wk, b6, b7, b8, b9, rfl, s2, td, te, ld, lw, I⟩
        rw [List.getElem?_map] at hv
        obtain ⟨n, hn, rfl⟩ := Option.map_eq_some_iff.mp hv
        have jl := (List.getElem?_eq_some_iff.mp hn).1
        have na := s2 _ _ ((hP.at_ p hm).ns n (List.mem_of_getElem? hn))
        have tj : rowsN (ps.take i) ++ ((p.nms.take (j + 1)).map fun n => (p.name, n)) = (rowsN (ps.take i) ++ (p.nms.take j).map fun n => (p.name, n)) ++ [(p.name, n)] := by rw [List.take_succ, hn, List.map_append, List.append_assoc]; rfl
        rw [tj]
        have nde : d ≠ e := Ne.symm ned
        walk_at "rd"
        refine ⟨_, SqT.of na, rfl, _, _, rfl, _, _, rfl, _, _, rfl, _, _, rfl, rfl, rfl, ?_⟩
        have weakP : ∀ Hx : Hp, Same H Hx → Tab Hx d du → Tab Hx e wk → n.sort = sWeak → ∃ x, DGet Hx e (V.str n.name) x ∧ if (!x.isSome) = true then 3 ≤ sizeLine ∧ ∀ (p_1 : Addr), Hx p_1 = none → ∃ x, DPut (upd Hx p_1 (HO.tup [V.str p.name, V.int n.st, V.int n.off])) e (V.str n.name) (V.ref p_1) x ∧ Same H x ∧ ∃ x_1, Tab x d x_1 ∧ ∃ x_2, Tab x e x_2 ∧ x_1.length ≤ 61 * i + (j + 1) ∧ x_2.length ≤ 61 * i + (j + 1) ∧ DuI (rowsN (List.take i ps) ++ List.map (fun n => (p.name, n)) (List.take j p.nms) ++ [(p.name, n)]) x_1 x_2 else ∃ x, DGet Hx e (V.str n.name) (some x) ∧ ∃ p_1, x = V.ref p_1 ∧ ∃ x, SqT K Hx p_1 x ∧ ∃ x_1, atI x 0 = some x_1 ∧ ∃ x, x_1 = V.str x ∧ if decide (p.name.cps.toList < x.cps.toList) = true then 3 ≤ sizeLine ∧ ∀ (p_2 : Addr), Hx p_2 = none → ∃ x, DPut (upd Hx p_2 (HO.tup [V.str p.name, V.int n.st, V.int n.off])) e (V.str n.name) (V.ref p_2) x ∧ Same H x ∧ ∃ x_2, Tab x d x_2 ∧ ∃ x_3, Tab x e x_3 ∧ x_2.length ≤ 61 * i + (j + 1) ∧ x_3.length ≤ 61 * i + (j + 1) ∧ DuI (rowsN (List.take i ps) ++ List.map (fun n => (p.name, n)) (List.take j p.nms) ++ [(p.name, n)]) x_2 x_3 else Same H Hx ∧ ∃ x, Tab Hx d x ∧ ∃ x_2, Tab Hx e x_2 ∧ x.length ≤ 61 * i + (j + 1) ∧ x_2.length ≤ 61 * i + (j + 1) ∧ DuI (rowsN (List.take i ps) ++ List.map (fun n => (p.name, n)) (List.take j p.nms) ++ [(p.name, n)]) x x_2 := by
          intro Hx sx td te hs
          have wl := putT_len (ms := wk) (m := rowT 0 (p.name, n))
          have put : ∀ t, Hx t = none → (∀ m, lookT wk n.name = some m → p.name.cps.toList < m.a.cps.toList) → ∃ x, DPut (upd Hx t (HO.tup [V.str p.name, V.int n.st, V.int n.off])) e (V.str n.name) (V.ref t) x ∧ Same H x ∧ ∃ x_1, Tab x d x_1 ∧ ∃ x_2, Tab x e x_2 ∧ x_1.length ≤ 61 * i + (j + 1) ∧ x_2.length ≤ 61 * i + (j + 1) ∧ DuI (rowsN (List.take i ps) ++ List.map (fun n => (p.name, n)) (List.take j p.nms) ++ [(p.name, n)]) x_1 x_2 := fun t ht hw => by
            obtain ⟨H', q1, q2, q3, q4⟩ := tab_put (r := (p.name, n)) sx he' ned te td ht (by omega)
            exact ⟨H', q1, q2, du, q4, _, q3, by omega, by have := putT_len (ms := wk) (m := rowT t (p.name, n)); omega, I.weak1 hs hw⟩
          cases hl : lookT wk n.name with
          | none =>
            refine ⟨none, .inl ⟨_, .inr n.name, .inl te.top, rfl, by rw [valT, hl]; rfl⟩, ?_⟩
            rw [if_pos (by simp)]
            exact ⟨by rw [sizeLine_eq]; decide, fun t ht => put t ht fun m hm => by rw [hl] at hm; cases hm⟩
          | some m0 =>
            have vm : valV (wk.map TabM.kv) (.inr n.name) = some (.ref m0.t) := by rw [valT, hl]; rfl
            refine ⟨some (.ref m0.t), .inl ⟨_, .inr n.name, .inl te.top, rfl, vm.symm⟩, ?_⟩
            rw [if_neg (by simp)]
            refine ⟨_, .inl ⟨_, .inr n.name, .inl te.top, rfl, vm.symm⟩, _, rfl, _, SqT.of (te.at_ m0 (List.mem_of_find?_eq_some hl)), _, rfl, _, rfl, ite2 (fun lt => ⟨by rw [sizeLine_eq]; decide, fun t ht => put t ht fun m hm => ?_⟩) (fun lt => ⟨sx, du, td, wk, te, by omega, by omega, I.weak2 hs hl (fun y => lt (decide_eq_true y))⟩)⟩
            rw [hl] at hm
            cases hm
            exact of_decide_eq_true lt
        by_cases st : n.sort = sTell
        · rw [decide_eq_true (show V.str n.sort = V.str (Str.ofString "tell") from congrArg V.str st), if_pos rfl]
          refine ⟨by rw [sizeLine_eq]; decide, fun t ht => ?_⟩
          obtain ⟨H3, q1, q2, q3, q4⟩ := tab_put (r := (p.name, n)) s2 hd nde td te ht (by omega)
          refine ⟨H3, q1, rfl, ?_⟩
          rw [decide_eq_false (show ¬ V.str n.sort = V.str (Str.ofString "weak") from fun q => tell_weak (st.symm.trans (V.str.inj q))), if_neg (by decide)]
          exact ⟨q2, _, q3, wk, q4, by have := putT_len (ms := du) (m := rowT t (p.name, n)); omega, by omega, I.tell st⟩
        · rw [decide_eq_false (show ¬ V.str n.sort = V.str (Str.ofString "tell") from fun q => st (V.str.inj q)), if_neg (by decide)]
          refine ⟨rfl, ?_⟩
          by_cases sw : n.sort = sWeak
          · rw [decide_eq_true (show V.str n.sort = V.str (Str.ofString "weak") from congrArg V.str sw), if_pos rfl]
            exact weakP H2 s2 td te sw
          · rw [decide_eq_false (show ¬ V.str n.sort = V.str (Str.ofString "weak") from fun q => sw (V.str.inj q)), if_neg (by decide)]
            exact ⟨s2, du, td, wk, te, by omega, by omega, I.other st sw⟩
      · rintro σ H2 ⟨du, wk, b6, b7, b8, b9, rfl, s2, td, te, ld, lw, I⟩
        rw [List.length_map, List.take_length] at I
        rw [List.length_map] at ld lw
        exact ⟨du, wk, _, _, _, _, _, _, _, rfl, s2, td, te, by omega, by omega, by rw [tk]; exact I⟩
    · rintro σ H' ⟨du, wk, b3, b4, b5, b6, b7, b8, b9, rfl, s1, td, te, ld, lw, I⟩
      rw [List.length_map, List.take_length] at I
      rw [List.length_map] at ld lw
      walk_at "rd"
      refine ForD.of te.top (fun o j σ H2 => ∃ (du' : List TabM) (b6 : Option V), σ = [some (.ref L), some (.ref d), some (.ref e), b3, b4, b5, b6, b7, b8, b9] ∧ Same H H2 ∧ H2 e = some (.frz o (.dK (wk.map TabM.kv))) ∧ (∀ m ∈ wk, TabM.At H2 m) ∧ Tab H2 d du' ∧ du'.length ≤ 61 * 12 + j ∧ (du'.map TabM.name).Nodup ∧ ∀ z, lookT du' z = (lookT du z).or (lookT (wk.take j) z)) ?_ ?_ ?_ ?_
      · intro o
        have nf : ∀ x u, x ≠ e → H' x = some u → upd H' e (.frz o (.dK (wk.map TabM.kv))) x = some u := fun x u ne q => by rw [upd_ne ne]; exact q
        refine ⟨du, _, rfl, fun x u q => nf x u (ne_of_none q he') (s1 _ _ q), upd_same, fun m hm => nf _ _ (ne_of (te.at_ m hm) te.top (by intro z; cases z)) (te.at_ m hm), ⟨nf _ _ (Ne.symm ned) td.top, fun m hm => nf _ _ (ne_of (td.at_ m hm) te.top (by intro z; cases z)) (td.at_ m hm)⟩, by omega, I.nd, fun z => by simp [lookT]⟩
      · rintro o j σ H2 hj ⟨du', b6, rfl, s2, hz, _⟩
        exact hz
      · rintro o j pr σ H2 hv ⟨du', b6, rfl, s2, hz, aw, td', ld', nd', look⟩
        rw [List.getElem?_map] at hv
        obtain ⟨m, hj, rfl⟩ := Option.map_eq_some_iff.mp hv
        have jl := (List.getElem?_eq_some_iff.mp hj).1
        have mm := List.mem_of_getElem? hj
        walk_at "rd"
        have tk : ∀ z, lookT (wk.take (j + 1)) z = (lookT (wk.take j) z).or (if m.name = z then some m else none) := fun z => by
          unfold lookT
          rw [List.take_succ, hj, List.find?_append]
          congr 1
          show [m].find? _ = _
          rw [List.find?_cons]
          by_cases q : m.name = z
          · rw [if_pos q, decide_eq_true q]
          · rw [if_neg q, decide_eq_false q]; rfl
        have ntk : lookT (wk.take j) m.name = none := by
          cases q : lookT (wk.take j) m.name with
          | none => rfl
          | some m' =>
            have nd' : ((wk.take (j + 1)).map TabM.name).Nodup := List.Nodup.sublist (List.Sublist.map _ (List.take_sublist _ _)) I.nw
            rw [List.take_succ, hj, List.map_append] at nd'
            exact absurd (of_decide_eq_true (List.find?_some (p := fun n : TabM => decide (n.name = m.name)) q)) ((List.nodup_append.mp nd').2.2 _ (List.mem_map.mpr ⟨m', List.mem_of_find?_eq_some q, rfl⟩) _ (by simp))
        cases hl : lookT du' m.name with
        | none =>
          refine ⟨none, .inl ⟨_, .inr m.name, .inl td'.top, rfl, by rw [valT, hl]; rfl⟩, ?_⟩
          rw [if_pos (by simp)]
          have vm : valV (wk.map TabM.kv) (.inr m.name) = some (.ref m.t) := by rw [valT, look_self I.nw mm]; rfl
          have nde : d ≠ e := Ne.symm ned
          have nf : ∀ x u, x ≠ d → H2 x = some u → upd H2 d (.dK (putK (du'.map TabM.kv) (.inr m.name) (.ref m.t))) x = some u := fun x u ne q => by rw [upd_ne ne]; exact q
          refine ⟨_, .inl ⟨_, .inr m.name, .inr ⟨o, hz⟩, rfl, vm.symm⟩, _, DPut.k (k := .inr m.name) td'.top (by rw [List.length_map, sizeLine_eq]; omega), same_upd hd s2, nf _ _ ned hz, fun x hx => nf _ _ (ne_of (aw x hx) td'.top (by intro z; cases z)) (aw x hx), putT du' m, td'.put (aw m mm), by have := putT_len (ms := du') (m := m); omega, put_nd nd', fun z => ?_⟩
          rw [look_put, tk z]
          by_cases q : m.name = z
          · rw [if_pos q, if_pos q, ← q]
            rw [look m.name, Option.or_eq_none_iff] at hl
            rw [hl.1, hl.2]; rfl
          · rw [if_neg q, if_neg q, look z, Option.or_none]
        | some m' =>
          refine ⟨some (.ref m'.t), .inl ⟨_, .inr m.name, .inl td'.top, rfl, by rw [valT, hl]; rfl⟩, ?_⟩
          rw [if_neg (by simp)]
          refine ⟨s2, hz, aw, du', td', by omega, nd', fun z => ?_⟩
          rw [look z, tk z]
          by_cases q : m.name = z
          · rw [if_pos q, ← q]
            rw [look m.name, ntk, Option.or_none] at hl
            rw [hl, ntk]; rfl
          · rw [if_neg q, Option.or_none]
      · rintro o σ H2 ⟨du', b6, rfl, s2, hz, aw, td', ld', nd', look⟩
        walk_at "rd"
        refine k d du' H2 s2 td' (I.done nd' fun z => ?_) hd
        rw [look z, List.length_map, List.take_length]
theorem G__law_alike (T : Txt K mg A) : FnOk P w K mg base CX0 3 A._law_alike A.fd__law_alike ["_law_found", "_law_due_here"] sp_alike := by
  refine T.F__law_alike.ok sc__law_alike (fun vs H Q E h => ?_) (fun cdv Ar outer s H vs Q E hr h => ?_)
  · obtain ⟨a, b, ms, ns, ps, rfl, _⟩ := h
    rfl
  · obtain ⟨a, b, ms, ns, ps, rfl, ta, tb, nab, hN, oa, ob, k⟩ := h
    refine ⟨_, (@pss_cons _ _ _ _ _ (@ps_if _ _ _ _ _ _ _ _ (@PW.pt _ _ _ (@pw_or _ _ _ _ _ _ _ (@pt_not _ _ _ _ (@pt_val _ _ _ (@pe_callB _ _ _ _ _ _ _ _ _ (call_isiK (K := K) rfl) (by rfl) T.n_isinstance bt_isinstance (@pa_cons _ _ _ _ _ (@pv _ 0 _ _ (by rfl) (by first  |  exact  Or.inl  rfl  |  exact  Or.inr  (    Or.inl  rfl  )  |  exact  Or.inr  (    Or.inr  rfl  )) (by decide) (by decide)) (@pa_cons _ _ _ _ _ (@pe_bltn _ _ _ _ _ rfl T.n_dict bt_dict relT (by decide) (by decide)) (@pa_nil _) (by rfl)) (by rfl)) (by decide) (by decide) (by rfl) (by rfl)) (by intro  _  ;  rfl))) (@pw_or1 _ _ _ _ (@pt_cmpR _ _ _ _ _ _ _ _ op_ne (@pe_callB _ _ _ _ _ _ _ _ _ call_lenD (by rfl) T.n_len bt_len (@pa_cons _ _ _ _ _ (@pv _ 0 _ _ (by rfl) (by first  |  exact  Or.inl  rfl  |  exact  Or.inr  (    Or.inl  rfl  )  |  exact  Or.inr  (    Or.inr  rfl  )) (by decide) (by decide)) (@pa_nil _) (by rfl)) (by decide) (by decide) (by rfl) (by rfl)) (@pe_callB _ _ _ _ _ _ _ _ _ call_lenR (by rfl) T.n_len bt_len (@pa_cons _ _ _ _ _ (@pv _ 1 _ _ (by rfl) (by first  |  exact  Or.inl  rfl  |  exact  Or.inr  (    Or.inl  rfl  )  |  exact  Or.inr  (    Or.inr  rfl  )) (by decide) (by decide)) (@pa_nil _) (by rfl)) (by decide) (by decide) (by rfl) (by rfl)) (nomark _))))) (@pss_one _ _ _ (@ps_ret _ _ _ _ (@pe_bl _ _ _ _))) (@pss_nil _)) (@pss_cons _ _ _ _ _ (@ps_for _ _ _ _ _ _ _ _ PassesOwn.never rfl (pi_dictR (@pv _ 1 _ _ (by rfl) (by first  |  exact  Or.inl  rfl  |  exact  Or.inr  (    Or.inl  rfl  )  |  exact  Or.inr  (    Or.inr  rfl  )) (by decide) (by decide))) (@pg_name _ _ 2 _ sc__law_alike.nd rfl (by first | exact Or.inl rfl | exact Or.inr rfl) (by first  |  exact  .inl  rfl  |  exact  .inr  rfl  |  assumption)) (@pss_one _ _ _ (@ps_if _ _ _ _ _ _ _ _ (@PW.pt _ _ _ (@pw_or _ _ _ _ _ _ _ (@pt_cmp _ _ _ _ _ _ (@pc_dnotin _ _ _ _ _ (hu_of hr) (@pv _ 2 _ _ (by rfl) (by first  |  exact  Or.inl  rfl  |  exact  Or.inr  (    Or.inl  rfl  )  |  exact  Or.inr  (    Or.inr  rfl  )) (by decide) (by decide)) (@pv _ 0 _ _ (by rfl) (by first  |  exact  Or.inl  rfl  |  exact  Or.inr  (    Or.inl  rfl  )  |  exact  Or.inr  (    Or.inr  rfl  )) (by decide) (by decide))) (by first  |  exact  nobehind  _  (    by  decide  )  (    by  decide  )  |  rfl)) (@pw_or1 _ _ _ _ (@pt_not _ _ _ _ (@pt_val _ _ _ (@pe_call _ _ _ _ _ _ _ _ _ _ _ _ _ _ _ _ (G__law_spot T) (hr.mono (by decide)) rfl T.m__law_spot T.k__law_spot T.b__law_spot .nil (@pass0 _) (@pa_cons _ _ _ _ _ (@pe_dget _ _ _ _ _ _ (hu_of hr) (@pv _ 0 _ _ (by rfl) (by first  |  exact  Or.inl  rfl  |  exact  Or.inr  (    Or.inl  rfl  )  |  exact  Or.inr  (    Or.inr  rfl  )) (by decide) (by decide)) (@pv _ 2 _ _ (by rfl) (by first  |  exact  Or.inl  rfl  |  exact  Or.inr  (    Or.inl  rfl  )  |  exact  Or.inr  (    Or.inr  rfl  )) (by decide) (by decide)) (fun _ _ => rfl)) (@pa_cons _ _ _ _ _ (@pe_dget _ _ _ _ _ _ (hu_of hr) (@pv _ 1 _ _ (by rfl) (by first  |  exact  Or.inl  rfl  |  exact  Or.inr  (    Or.inl  rfl  )  |  exact  Or.inr  (    Or.inr  rfl  )) (by decide) (by decide)) (@pv _ 2 _ _ (by rfl) (by first  |  exact  Or.inl  rfl  |  exact  Or.inr  (    Or.inl  rfl  )  |  exact  Or.inr  (    Or.inr  rfl  )) (by decide) (by decide)) (fun _ _ => rfl)) (@pa_nil _) (by rfl)) (by rfl)) (by decide) (by rfl) (by rfl)) (by intro  _  ;  rfl)))))) (@pss_one _ _ _ (@ps_ret _ _ _ _ (@pe_bl _ _ _ _))) (@pss_nil _))) (by intro  _  ;  rfl)) (@pss_one _ _ _ (@ps_ret _ _ _ _ (@pe_bl _ _ _ _))))), ?_⟩
    walk_at "rd"
    refine ⟨_, .dK ta.top, true, rfl, ?_⟩
    rw [if_neg (by decide)]
    refine ⟨_, ta.top, _, tb.top, ?_⟩
    rw [List.length_map, List.length_map, oa.len ob, decide_eq_true rfl, if_neg (by decide)]
    refine ForDR.of tb.top (fun o i σ H' => ∃ b2 : Option V, σ = [some (.ref a), some (.ref b), b2] ∧ H' b = some (.frz o (.dK (ns.map TabM.kv))) ∧ ∀ x u, x ≠ b → H x = some u → H' x = some u) ?_ ?_ ?_ ?_
    · intro o H2 e1 e2
      exact ⟨_, rfl, e1, fun x u ne q => by rw [e2 x ne]; exact q⟩
    · rintro o i σ H' hi ⟨b2, rfl, hz, _⟩
      exact hz
    · rintro o i pr σ H' hv ⟨b2, rfl, hz, fr⟩
      rw [List.getElem?_map] at hv
      obtain ⟨n, hn, rfl⟩ := Option.map_eq_some_iff.mp hv
      have nm := List.mem_of_getElem? hn
      have l1 := look_self ob.nd nm
      obtain ⟨m, hm⟩ : ∃ m, lookT ms n.name = some m := by
        cases q : lookT ms n.name with
        | some m => exact ⟨m, rfl⟩
        | none => exact absurd q (look_mem.mp (oa.mem.mpr (ob.mem.mp (List.mem_map.mpr ⟨n, nm, rfl⟩))))
      have ev := oa.one hN ob hm l1
      have mmem := List.mem_of_find?_eq_some hm
      have ta' := fr _ _ nab ta.top
      have nt : ∀ x : TabM, TabM.At H x → TabM.At H' x := fun x hx => fr _ _ (fun q => by
        have := hx
        unfold TabM.At at this
        rw [q] at this
        rcases tb.top with y | ⟨_, y⟩
        · rw [y] at this; cases this
        · rw [y] at this; cases this) hx
      have ma := nt m (ta.at_ m mmem)
      have na := nt n (tb.at_ n nm)
      have va : valV (ms.map TabM.kv) (.inr n.name) = some (.ref m.t) := by rw [valT, hm]; rfl
      have vb : valV (ns.map TabM.kv) (.inr n.name) = some (.ref n.t) := by rw [valT, l1]; rfl
      walk_at "rd"
      refine ⟨_, .inl ⟨_, .inr n.name, .inl ta', rfl, rfl⟩, ?_⟩
      rw [va, if_neg (by simp)]
      refine ⟨_, .inl ⟨_, .inr n.name, .inl ta', rfl, va.symm⟩, _, .inl ⟨_, .inr n.name, .inr ⟨o, hz⟩, rfl, vb.symm⟩, _, rfl, _, rfl, TabM.vl n, ?_, na, hz, fr⟩
      rw [← ev]; exact ma
    · rintro o σ H' ⟨b2, rfl, hz, fr⟩
      walk_at "rd"
      refine k H' fr ⟨.inr ⟨o, hz⟩, fun m hm => fr _ _ (fun q => ?_) (tb.at_ m hm)⟩
      have := tb.at_ m hm
      unfold TabM.At at this
      rw [q] at this
      rcases tb.top with y | ⟨_, y⟩
      · rw [y] at this; cases this
      · rw [y] at this; cases this
theorem pl_mono {H H' : Hp} {L : Addr} {ps : List PcM} (h : PL H L ps) (s : Same H H') : PL H' L ps := ⟨s _ _ h.top, fun p hp => (h.at_ p hp).mono s⟩
theorem Drawn.psn {c t : Int} {n : Nat} {ps : List PcM} (d : Drawn c t n ps) (hn : n ≤ 61) : PsN ps ∧ ∀ p ∈ ps, CpB p := by
  refine ⟨⟨d.few, ?_, fun p hp => ⟨by have := (d.pc hp).2.1; omega, (d.ok p hp).nd⟩, d.tw⟩, fun p hp => ?_⟩
  · rw [d.names]
    exact (List.nodup_append.mp (range_nd (t := t) ps.length d.few)).1
  · obtain ⟨_, h1, h2, h3⟩ := d.pc hp
    exact ⟨by omega, by omega, fun s hs => by have := h3 s hs; omega⟩
theorem rows_copy {ps qs : List PcM} (h : qs.map (fun p => (p.name, p.nms)) = ps.map fun p => (p.name, p.nms)) : rowsN qs = rowsN ps := by
  have e : ∀ l : List PcM, rowsN l = (l.map fun p => (p.name, p.nms)).flatMap fun x => x.2.map fun n => (x.1, n) := fun l => by
    unfold rowsN
    rw [List.flatMap_map]
  rw [e, e, h]
theorem psn_copy {ps qs : List PcM} (h : qs.map (fun p => (p.name, p.nms)) = ps.map fun p => (p.name, p.nms)) (hN : PsN ps) : PsN qs := by
  have nm : qs.map PcM.name = ps.map PcM.name := by
    have := congrArg (List.map (·.1)) h
    rw [List.map_map, List.map_map] at this
    exact this
  have ln : qs.length = ps.length := by have := congrArg List.length nm; rwa [List.length_map, List.length_map] at this
  refine ⟨by rw [ln]; exact hN.few, by rw [nm]; exact hN.nd, fun q hq => ?_, ?_⟩
  · have : (q.name, q.nms) ∈ qs.map fun p => (p.name, p.nms) := List.mem_map.mpr ⟨q, hq, rfl⟩
    rw [h] at this
    obtain ⟨p, hp, e⟩ := List.mem_map.mp this
    have e2 : p.nms = q.nms := congrArg (·.2) e
    rw [← e2]; exact hN.nms p hp
  · have tw := hN.tw
    have f : ∀ l : List PcM, (l.Pairwise fun p q => ∀ x ∈ p.nms, ∀ y ∈ q.nms, x.sort = sTell → y.sort = sTell → x.name ≠ y.name) ↔ (l.map fun p => (p.name, p.nms)).Pairwise fun p q => ∀ x ∈ p.2, ∀ y ∈ q.2, x.sort = sTell → y.sort = sTell → x.name ≠ y.name := fun l => by rw [List.pairwise_map]
    rw [f, h, ← f]; exact tw
theorem rows_len {ps : List PcM} (h : ∀ p ∈ ps, p.nms.length ≤ 61) : (rowsN ps).length ≤ 61 * ps.length := by
  induction ps with
  | nil => exact Nat.le_refl _
  | cons p r ih =>
    have h1 := ih fun q hq => h q (List.mem_cons_of_mem _ hq)
    have h2 := h p List.mem_cons_self
    have e : rowsN (p :: r) = (p.nms.map fun n => (p.name, n)) ++ rowsN r := rfl
    rw [e, List.length_append, List.length_map, List.length_cons]
    omega
theorem PsN.drop {ps : List PcM} (h : PsN ps) (n : Nat) : PsN (ps.drop n) :=
  ⟨by rw [List.length_drop]; have := h.few; omega, by rw [List.map_drop]; exact List.Nodup.sublist (List.drop_sublist _ _) h.nd, fun p hp => h.nms p (List.mem_of_mem_drop hp), List.Pairwise.sublist (List.drop_sublist _ _) h.tw⟩
theorem cut1 (xs : List V) : cutV xs (some 1) none = xs.drop 1 := by
  unfold cutV
  have e : HT.sIx xs.length 0 (some 1) = min 1 xs.length := HT.sIx_nat _ _ 1
  have e0 : HT.sIx xs.length xs.length none = xs.length := rfl
  rw [e, e0]
  cases xs with
  | nil => rfl
  | cons x r =>
    rw [show min 1 (x :: r).length = 1 by simp, List.take_of_length_le (by rw [List.length_drop]; omega)]
noncomputable def SameLT (H H' : Hp) : Prop := ∀ b o, ((∃ xs, o = .lst xs) ∨ ∃ xs, o = .tup xs) → H b = some o → H' b = some o
theorem pl_lt {H H' : Hp} {L : Addr} {ps : List PcM} (s : SameLT H H') (h : PL H L ps) : PL H' L ps := by
  have l : ∀ b xs, H b = some (.lst xs) → H' b = some (.lst xs) := fun b xs => s b _ (.inl ⟨_, rfl⟩)
  have t : ∀ b xs, H b = some (.tup xs) → H' b = some (.tup xs) := fun b xs => s b _ (.inr ⟨_, rfl⟩)
  exact ⟨l _ _ h.top, fun p hp => have q := h.at_ p hp; ⟨t _ _ q.top, l _ _ q.sl, l _ _ q.nl, fun s hs => have y := q.ss s hs; ⟨t _ _ y.top, l _ _ y.wd, l _ _ y.fl, fun f hf => t _ _ (y.fs f hf)⟩, fun n hn => t _ _ (q.ns n hn)⟩⟩
theorem lt_x {H H' : Hp} {T : Addr} {qs : Array Value} (hT : H T = some (.tbl qs)) (s : SameX T H H') : SameLT H H' := fun b o h e => s.get hT e fun ps z => by rcases h with ⟨_, h⟩ | ⟨_, h⟩ <;> rw [h] at z <;> cases z
theorem lt_d {H H' : Hp} {dd : Addr} {kvs : List (Key × V)} (hd : Rd H dd (.dK kvs)) (s : SameX dd H H') : SameLT H H' := fun b o h e => s b o (fun q => by
  rw [q] at e
  rcases hd with y | ⟨_, y⟩ <;> rw [y] at e <;> rcases h with ⟨_, h⟩ | ⟨_, h⟩ <;> rw [h] at e <;> cases e) e
theorem tb_d {H H' : Hp} {T dd : Addr} {kvs : List (Key × V)} {p : Pos} {q : Str} (hd : Rd H dd (.dK kvs)) (s : SameX dd H H') (h : TbOk T p q H) : TbOk T p q H' := by
  have ne : ∀ {b : Addr} {o : HO}, H b = some o → (∀ k, o ≠ .dK k) → (∀ u k, o ≠ .frz u k) → b ≠ dd := fun {b o} e n1 n2 z => by
    rw [z] at e
    rcases hd with y | ⟨u, y⟩ <;> rw [y] at e <;> have e := (Option.some.inj e).symm
    · exact n1 _ e
    · exact n2 _ _ e
  obtain ⟨ps, h1, h2, h3⟩ := h
  refine ⟨ps, s _ _ (ne h1 (fun k z => by cases z) (fun u k z => by cases z)) h1, h2, h3.imp id fun ⟨c, h4, h5⟩ => ⟨c, h4, s _ _ (ne h5 (fun k z => by cases z) (fun u k z => by cases z)) h5⟩⟩
theorem tabm_lt {H H' : Hp} {m : TabM} (s : SameLT H H') (h : TabM.At H m) : TabM.At H' m := s _ _ (.inr ⟨_, rfl⟩) h
set_option genInjectivity false in
structure WS (A : Ad) (Da L d : Addr) (qs ps : List PcM) (du : List TabM) (H : Hp) : Prop where
  a : PL H Da qs
  b : PL H L ps
  t : TbOk A.tb_names_of lamP lamQ H
  r : TabR H d du
theorem TabR.same {H H' : Hp} {d : Addr} {ms : List TabM} (h : TabR H d ms) (s : Same H H') : TabR H' d ms := ⟨h.top.imp (fun y => s _ _ y) fun ⟨o, y⟩ => ⟨o, s _ _ y⟩, fun m hm => s _ _ (h.at_ m hm)⟩
theorem TabR.x {H H' : Hp} {d P : Addr} {ms : List TabM} (h : TabR H d ms) (s : SameX P H H') (n : d ≠ P) (lt : SameLT H H') : TabR H' d ms := ⟨h.top.imp (fun y => s _ _ n y) fun ⟨o, y⟩ => ⟨o, s _ _ n y⟩, fun m hm => tabm_lt lt (h.at_ m hm)⟩
theorem WS.same {A : Ad} {Da L d : Addr} {qs ps : List PcM} {du : List TabM} {H H' : Hp} (w : WS A Da L d qs ps du H) (s : Same H H') : WS A Da L d qs ps du H' := ⟨pl_mono w.a s, pl_mono w.b s, w.t.more s, w.r.same s⟩
theorem WS.x {A : Ad} {Da L d : Addr} {qs ps : List PcM} {du : List TabM} {H H' : Hp} (w : WS A Da L d qs ps du H) (s : SameX A.tb_names_of H H') (t : TbOk A.tb_names_of lamP lamQ H') : WS A Da L d qs ps du H' := by
  obtain ⟨q, hT, _⟩ := w.t
  have lt := lt_x hT s
  exact ⟨pl_lt lt w.a, pl_lt lt w.b, t, w.r.x s (fun e => by rcases w.r.top with y | ⟨_, y⟩ <;> rw [e, hT] at y <;> cases y) lt⟩
theorem WS.d_ {A : Ad} {Da L d dd : Addr} {qs ps : List PcM} {du : List TabM} {H H' : Hp} {kvs : List (Key × V)} (w : WS A Da L d qs ps du H) (hd : Rd H dd (.dK kvs)) (s : SameX dd H H') (r : TabR H' d du) : WS A Da L d qs ps du H' :=
  ⟨pl_lt (lt_d hd s) w.a, pl_lt (lt_d hd s) w.b, tb_d hd s w.t, r⟩
theorem tab_x {H H' : Hp} {d P : Addr} {ms : List TabM} (h : Tab H d ms) (s : SameX P H H') (n : d ≠ P) (lt : SameLT H H') : Tab H' d ms := ⟨s _ _ n h.top, fun m hm => tabm_lt lt (h.at_ m hm)⟩
theorem G_law (T : Txt K mg A) : FnOk P w K mg base CX0 8 A.law A.fd_law ["_law_script"] (sp_law K A.tb_names_of) := by
  refine T.F_law.ok sc_law (fun vs H Q E h => ?_) (fun cdv Ar outer s H vs Q E hr h => ?_)
  · obtain ⟨a, ns, rfl, _⟩ := h
    rfl
  · obtain ⟨sc, ns, rfl, hS, hl, hT, k⟩ := h
    refine ⟨_, (@pss_cons _ _ _ _ _ (@ps_set _ _ 1 _ _ _ _ sc_law.nd rfl (by first | exact Or.inl rfl | exact Or.inr rfl) (@pe_call _ _ _ _ _ _ _ _ _ _ _ _ _ _ _ _ (G__law_drawn T) (hr.mono (by decide)) rfl T.m__law_drawn T.k__law_drawn T.b__law_drawn .nil (@pass0 _) (@pa_cons _ _ _ _ _ (@pe_slice _ _ _ _ _ _ _ _ _ _ (sl_listK (K := K) rfl) (@pv _ 0 _ _ (by rfl) (by first  |  exact  Or.inl  rfl  |  exact  Or.inr  (    Or.inl  rfl  )  |  exact  Or.inr  (    Or.inr  rfl  )) (by decide) (by decide)) (@po_some _ _ _ (@pe_int _ _ _ _)) (@po_some _ _ _ (@pe_int _ _ _ _))) (@pa_cons _ _ _ _ _ (@pe_call _ _ _ _ _ _ _ _ _ _ _ _ _ _ _ _ (G__law_cell_at T) (hr.mono (by decide)) rfl T.m__law_cell_at T.k__law_cell_at T.b__law_cell_at .nil (@pass0 _) (@pa_cons _ _ _ _ _ (@pv _ 0 _ _ (by rfl) (by first  |  exact  Or.inl  rfl  |  exact  Or.inr  (    Or.inl  rfl  )  |  exact  Or.inr  (    Or.inr  rfl  )) (by decide) (by decide)) (@pa_cons _ _ _ _ _ (@pe_int _ _ _ _) (@pa_nil _) (by rfl)) (by rfl)) (by decide) (by rfl) (by rfl)) (@pa_cons _ _ _ _ _ (@pe_call _ _ _ _ _ _ _ _ _ _ _ _ _ _ _ _ (G__law_cell_at T) (hr.mono (by decide)) rfl T.m__law_cell_at T.k__law_cell_at T.b__law_cell_at .nil (@pass0 _) (@pa_cons _ _ _ _ _ (@pv _ 0 _ _ (by rfl) (by first  |  exact  Or.inl  rfl  |  exact  Or.inr  (    Or.inl  rfl  )  |  exact  Or.inr  (    Or.inr  rfl  )) (by decide) (by decide)) (@pa_cons _ _ _ _ _ (@pe_int _ _ _ _) (@pa_nil _) (by rfl)) (by rfl)) (by decide) (by rfl) (by rfl)) (@pa_cons _ _ _ _ _ (@pe_bl _ _ _ _) (@pa_nil _) (by rfl)) (by rfl)) (by rfl)) (by rfl)) (by decide) (by rfl) (by rfl)) (by rfl) (by first  |  exact  .inl  rfl  |  exact  .inr  rfl  |  assumption)) (@pss_cons _ _ _ _ _ (@ps_if _ _ _ _ _ _ _ _ (@pt_cmpR _ _ _ _ _ _ _ _ op_eq (@pe_op _ _ _ _ _ _ _ _ op_mod (@pe_op _ _ _ _ _ _ _ _ op_fdiv (@pe_call _ _ _ _ _ _ _ _ _ _ _ _ _ _ _ _ (G__law_cell_at T) (hr.mono (by decide)) rfl T.m__law_cell_at T.k__law_cell_at T.b__law_cell_at .nil (@pass0 _) (@pa_cons _ _ _ _ _ (@pv _ 0 _ _ (by rfl) (by first  |  exact  Or.inl  rfl  |  exact  Or.inr  (    Or.inl  rfl  )  |  exact  Or.inr  (    Or.inr  rfl  )) (by decide) (by decide)) (@pa_cons _ _ _ _ _ (@pe_int _ _ _ _) (@pa_nil _) (by rfl)) (by rfl)) (by decide) (by rfl) (by rfl)) (@pe_int _ _ _ _)) (@pe_int _ _ _ _)) (@pe_int _ _ _ _) (nomark _)) (@pss_one _ _ _ (@ps_set _ _ 1 _ _ _ _ sc_law.nd rfl (by first | exact Or.inl rfl | exact Or.inr rfl) (@pe_lrev _ _ _ _ _ _ _ K rfl rfl (@pv _ 1 _ _ (by rfl) (by first  |  exact  Or.inl  rfl  |  exact  Or.inr  (    Or.inl  rfl  )  |  exact  Or.inr  (    Or.inr  rfl  )) (by decide) (by decide)) (by rfl) T.n_list (by rfl) T.n_reversed (by rfl) (by rfl)) (by rfl) (by first  |  exact  .inl  rfl  |  exact  .inr  rfl  |  assumption))) (@pss_nil _)) (@pss_weak _ _ _ (lB A) (@pss_cons _ _ _ _ _ (@ps_set _ _ 2 _ _ _ _ sc_law.nd rfl (by first | exact Or.inl rfl | exact Or.inr rfl) (@pe_call _ _ _ _ _ _ _ _ _ _ _ _ _ _ _ _ (G__law_due T) (hr.mono (by decide)) rfl T.m__law_due T.k__law_due T.b__law_due .nil (@pass0 _) (@pa_cons _ _ _ _ _ (@pv _ 1 _ _ (by rfl) (by first  |  exact  Or.inl  rfl  |  exact  Or.inr  (    Or.inl  rfl  )  |  exact  Or.inr  (    Or.inr  rfl  )) (by decide) (by decide)) (@pa_nil _) (by rfl)) (by decide) (by rfl) (by rfl)) (by rfl) (by first  |  exact  .inl  rfl  |  exact  .inr  rfl  |  assumption)) (@pss_cons _ _ _ _ _ (@ps_setC _ _ _ _ _ _ _ _ _ _ 3 _ _ _ _ _ _ _ sc_law.nd rfl (by first | exact Or.inl rfl | exact Or.inr rfl) (blk_mk (own := ["_law_piece"]) (fr := []) (fm := []) rfl (by decide +kernel) (by decide +kernel) (by decide +kernel) .nil) rfl (@pi_listK _ K _ _ _ rfl (@pv _ 1 _ _ (by rfl) (by first  |  exact  Or.inl  rfl  |  exact  Or.inr  (    Or.inl  rfl  )  |  exact  Or.inr  (    Or.inr  rfl  )) (by decide) (by decide))) (fun _ _ _ => ⟨(@pg_name _ _ 0 _ (by show List.Nodup (["_law_piece"] : List Str) ; decide +kernel) rfl (by first | exact Or.inl rfl | exact Or.inr rfl) (by first  |  exact  .inl  rfl  |  exact  .inr  rfl  |  assumption)) , pts_nil, (@pe_call _ _ _ _ _ _ _ _ _ _ _ _ _ _ _ _ (G__law_copy T) (hr.mono (by decide)) rfl T.m__law_copy T.k__law_copy T.b__law_copy .nil (@pass0 _) (@pa_cons _ _ _ _ _ (@pv _ 0 _ _ (by rfl) (by first  |  exact  Or.inl  rfl  |  exact  Or.inr  (    Or.inl  rfl  )  |  exact  Or.inr  (    Or.inr  rfl  )) (by decide) (by decide)) (@pa_nil _) (by rfl)) (by decide) (by rfl) (by rfl))⟩) (by rfl) (by intro  _  ;  rfl) (by first  |  exact  .inl  rfl  |  exact  .inr  rfl  |  assumption)) (@pss_cons _ _ _ _ _ (@ps_set _ _ 4 _ _ _ _ sc_law.nd rfl (by first | exact Or.inl rfl | exact Or.inr rfl) (@pe_call _ _ _ _ _ _ _ _ _ _ _ _ _ _ _ _ (G_names_of T) (hr.mono (by decide)) rfl T.m_names_of T.k_names_of T.b_names_of .nil (@pass0 _) (@pa_cons _ _ _ _ _ (@pv _ 3 _ _ (by rfl) (by first  |  exact  Or.inl  rfl  |  exact  Or.inr  (    Or.inl  rfl  )  |  exact  Or.inr  (    Or.inr  rfl  )) (by decide) (by decide)) (@pa_nil _) (by rfl)) (by decide) (by rfl) (by rfl)) (by rfl) (by first  |  exact  .inl  rfl  |  exact  .inr  rfl  |  assumption)) (@pss_cons _ _ _ _ _ (@ps_if _ _ _ _ _ _ _ _ (@pt_not _ _ _ _ (@pt_val _ _ _ (@pe_call _ _ _ _ _ _ _ _ _ _ _ _ _ _ _ _ (G__law_alike T) (hr.mono (by decide)) rfl T.m__law_alike T.k__law_alike T.b__law_alike .nil (@pass0 _) (@pa_cons _ _ _ _ _ (@pv _ 4 _ _ (by rfl) (by first  |  exact  Or.inl  rfl  |  exact  Or.inr  (    Or.inl  rfl  )  |  exact  Or.inr  (    Or.inr  rfl  )) (by decide) (by decide)) (@pa_cons _ _ _ _ _ (@pv _ 2 _ _ (by rfl) (by first  |  exact  Or.inl  rfl  |  exact  Or.inr  (    Or.inl  rfl  )  |  exact  Or.inr  (    Or.inr  rfl  )) (by decide) (by decide)) (@pa_nil _) (by rfl)) (by rfl)) (by decide) (by rfl) (by rfl)) (by intro  _  ;  rfl))) (@pss_one _ _ _ (@ps_ret _ _ _ _ (@pe_bl _ _ _ _))) (@pss_nil _)) (@pss_cons _ _ _ _ _ (@ps_dput _ _ _ _ _ _ _ _ _ (hu_of hr) (@pv _ 4 _ _ (by rfl) (by first  |  exact  Or.inl  rfl  |  exact  Or.inr  (    Or.inl  rfl  )  |  exact  Or.inr  (    Or.inr  rfl  )) (by decide) (by decide)) (@pe_str _ _ _ _) (@pe_tup _ _ _ _ _ (@pa_cons _ _ _ _ _ (@pe_str _ _ _ _) (@pa_cons _ _ _ _ _ (@pe_int _ _ _ _) (@pa_cons _ _ _ _ _ (@pe_int _ _ _ _) (@pa_nil _) (by rfl)) (by rfl)) (by rfl))) rfl) (@pss_cons _ _ _ _ _ (@ps_if _ _ _ _ _ _ _ _ (@pt_not _ _ _ _ (@pt_val _ _ _ (@pe_call _ _ _ _ _ _ _ _ _ _ _ _ _ _ _ _ (G__law_alike T) (hr.mono (by decide)) rfl T.m__law_alike T.k__law_alike T.b__law_alike .nil (@pass0 _) (@pa_cons _ _ _ _ _ (@pe_call _ _ _ _ _ _ _ _ _ _ _ _ _ _ _ _ (G_names_of T) (hr.mono (by decide)) rfl T.m_names_of T.k_names_of T.b_names_of .nil (@pass0 _) (@pa_cons _ _ _ _ _ (@pe_slice _ _ _ _ _ _ _ _ _ _ (sl_listK (K := K) rfl) (@pv _ 3 _ _ (by rfl) (by first  |  exact  Or.inl  rfl  |  exact  Or.inr  (    Or.inl  rfl  )  |  exact  Or.inr  (    Or.inr  rfl  )) (by decide) (by decide)) (@po_some _ _ _ (@pe_int _ _ _ _)) (@po_none _)) (@pa_nil _) (by rfl)) (by decide) (by rfl) (by rfl)) (@pa_cons _ _ _ _ _ (@pe_call _ _ _ _ _ _ _ _ _ _ _ _ _ _ _ _ (G__law_due T) (hr.mono (by decide)) rfl T.m__law_due T.k__law_due T.b__law_due .nil (@pass0 _) (@pa_cons _ _ _ _ _ (@pe_slice _ _ _ _ _ _ _ _ _ _ (sl_listK (K := K) rfl) (@pv _ 1 _ _ (by rfl) (by first  |  exact  Or.inl  rfl  |  exact  Or.inr  (    Or.inl  rfl  )  |  exact  Or.inr  (    Or.inr  rfl  )) (by decide) (by decide)) (@po_some _ _ _ (@pe_int _ _ _ _)) (@po_none _)) (@pa_nil _) (by rfl)) (by decide) (by rfl) (by rfl)) (@pa_nil _) (by rfl)) (by rfl)) (by decide) (by rfl) (by rfl)) (by intro  _  ;  rfl))) (@pss_one _ _ _ (@ps_ret _ _ _ _ (@pe_bl _ _ _ _))) (@pss_nil _)) (@pss_one _ _ _ (@ps_ret _ _ _ _ (@pe_and _ _ _ _ _ _ _ (@pe_call _ _ _ _ _ _ _ _ _ _ _ _ _ _ _ _ (G__law_alike T) (hr.mono (by decide)) rfl T.m__law_alike T.k__law_alike T.b__law_alike .nil (@pass0 _) (@pa_cons _ _ _ _ _ (@pe_call _ _ _ _ _ _ _ _ _ _ _ _ _ _ _ _ (G_names_of T) (hr.mono (by decide)) rfl T.m_names_of T.k_names_of T.b_names_of .nil (@pass0 _) (@pa_cons _ _ _ _ _ (@pv _ 3 _ _ (by rfl) (by first  |  exact  Or.inl  rfl  |  exact  Or.inr  (    Or.inl  rfl  )  |  exact  Or.inr  (    Or.inr  rfl  )) (by decide) (by decide)) (@pa_nil _) (by rfl)) (by decide) (by rfl) (by rfl)) (@pa_cons _ _ _ _ _ (@pv _ 2 _ _ (by rfl) (by first  |  exact  Or.inl  rfl  |  exact  Or.inr  (    Or.inl  rfl  )  |  exact  Or.inr  (    Or.inr  rfl  )) (by decide) (by decide)) (@pa_nil _) (by rfl)) (by rfl)) (by decide) (by rfl) (by rfl)) (@pe_one _ _ _ _ _ (@pe_cmpR _ _ _ _ _ _ _ _ (op_eqDK hr.units (K := K) rfl) (@pv _ 3 _ _ (by rfl) (by first  |  exact  Or.inl  rfl  |  exact  Or.inr  (    Or.inl  rfl  )  |  exact  Or.inr  (    Or.inr  rfl  )) (by decide) (by decide)) (@pv _ 1 _ _ (by rfl) (by first  |  exact  Or.inl  rfl  |  exact  Or.inr  (    Or.inl  rfl  )  |  exact  Or.inr  (    Or.inr  rfl  )) (by decide) (by decide)) (nomark _)))))))))))) ?lb))), ?main⟩
    case main =>
      walk_at "rd"
      obtain ⟨ms, em, lm⟩ := cut_ints ns hl
      refine ⟨_, hS, fun p hp => ?_⟩
      rw [em]
      have s1 := same_new (o := HO.lst (ms.map V.int)) hp
      refine ⟨ns, s1.seq hS, hl, by decide, fun c => ⟨ns, s1.seq hS, hl, by decide, fun t => ⟨ms, SqL.of upd_same, lm, fun L ps H1 s2 hP _ dr => ?_⟩⟩⟩
      obtain ⟨hN, cb⟩ := dr.psn lm
      have tb : TbOk A.tb_names_of lamP lamQ H := ⟨#[], hT, trivial, .inl rfl⟩
      have tb1 := tb.more (s1.trans s2)
      refine ⟨ns, (s1.trans s2).seq hS, hl, by decide, fun v => ⟨⟨by decide, by decide⟩, by decide, ite2 (fun _ => ?_) (fun _ => ?_)⟩⟩
      · refine ⟨_, SqL.of hP.top, by rw [List.length_map, sizeLine_eq]; have := hN.few; omega, fun l hl0 => ?_⟩
        have s3 := same_new (o := HO.lst (ps.map PcM.v).reverse) hl0
        have pm := List.reverse_perm ps
        exact ⟨sc, l, ps.reverse, rfl, ⟨by rw [upd_same, List.map_reverse], fun q hq => (hP.at_ q (List.mem_reverse.mp hq)).mono s3⟩, hN.perm pm, fun q hq => cb q (List.mem_reverse.mp hq), tb1.more s3, k⟩
      · exact ⟨sc, L, ps, rfl, ⟨hP.top, hP.at_⟩, hN, cb, tb1, k⟩
    case lb =>
      rintro D σ H ⟨sc, L, ps, rfl, hP, hN, cb, tb, k⟩
      walk_at "rd"
      refine ⟨ps, hP, hN, fun d du H1 s1 td od fd => ?_⟩
      have hP1 := pl_mono hP s1
      refine CompL.of (xs := ps.map PcM.v) (by rw [List.length_map, sizeLine_eq]; have := hN.few; omega) (SqL.of hP1.top) (fun Da i ys H' => ∃ qs : List PcM, ys = qs.map PcM.v ∧ Same H1 H' ∧ H' Da = some (.lst ys) ∧ (∀ q ∈ qs, q.At H') ∧ (∀ q ∈ qs, Da ∉ q.lists) ∧ qs.map PcM.d = (ps.take i).map PcM.d ∧ qs.map (fun p => (p.name, p.nms)) = (ps.take i).map fun p => (p.name, p.nms))
        (fun Da hD => ⟨[], rfl, same_new hD, upd_same, (fun q hq => by cases hq), (fun q hq => by cases hq), rfl, rfl⟩) ?_ ?_ ?_
      · rintro Da i ys H' hD hi ⟨qs, rfl, s2, hDD, _, _, _, e⟩
        refine ⟨SqL.of (s2 _ _ hP1.top), hDD, ?_⟩
        have := congrArg List.length e
        rw [List.length_map, List.length_map, List.length_take] at this
        rw [List.length_map]; omega
      · rintro Da i x ys H' hD hx ⟨qs, rfl, s2, hDD, at_, nD, e1, e2⟩
        rw [List.getElem?_map] at hx
        obtain ⟨p, hp, rfl⟩ := Option.map_eq_some_iff.mp hx
        have hm := List.mem_of_getElem? hp
        obtain ⟨c1, c2, c3⟩ := cb p hm
        walk_at "rd"
        refine ⟨.no .nil, p, rfl, (hP1.at_ p hm).mono s2, c1, c2, c3, fun q H2 s3 qa cp fr nd => ⟨s3 _ _ hDD, qs ++ [q], by simp, same_upd hD (s2.trans s3), upd_same, fun y hy => ?_, fun y hy => ?_, ?_, ?_⟩⟩
        · have bt : But H2 (upd H2 Da (.lst (qs.map PcM.v ++ [q.v]))) Da := But.upd (s3 _ _ hDD)
          rcases List.mem_append.mp hy with z | z
          · exact ((at_ y z).mono s3).but bt (nD y z)
          · rw [List.mem_singleton.mp z]
            exact qa.but bt fun z => by have := fr Da z; rw [hDD] at this; cases this
        · rcases List.mem_append.mp hy with z | z
          · exact nD y z
          · rw [List.mem_singleton.mp z]
            exact fun z => by have := fr Da z; rw [hDD] at this; cases this
        · rw [List.map_append, e1, List.take_succ, hp, List.map_append]
          congr 1
          show [q.d] = [p.d]
          rw [cp.d]
        · rw [List.map_append, e2, List.take_succ, hp, List.map_append]
          congr 1
          show [(q.name, q.nms)] = [(p.name, p.nms)]
          rw [cp.name, cp.nms]
      · rintro Da ys H2 hD ⟨qs, rfl, s2, hDD, at_, nD, e1, e2⟩
        rw [List.length_map, List.take_length] at e1 e2
        have hQ : PL H2 Da qs := ⟨hDD, at_⟩
        have hNq := psn_copy e2 hN
        have rq := rows_copy e2
        have tb2 := tb.more (s1.trans s2)
        obtain ⟨t0, hT2, _⟩ := id tb2
        have td2 := td.mono s2
        have hP2 := pl_mono hP1 s2
        have Dd : Da ≠ A.tb_names_of := fun e => by rw [e, hT2] at hDD; cases hDD
        have w2 : WS A Da L d qs ps du H2 := ⟨hQ, hP2, tb2, ⟨.inl td2.top, td2.at_⟩⟩
        refine ⟨Da, rfl, qs, hQ, hNq, tb2, fun d1 m1 H3 x3 t3 tab3 o3 f1 => ?_⟩
        rw [rq] at o3
        have w3 := w2.x x3 t3
        have n1d : d1 ≠ d := fun e => by rw [e, td2.top] at f1; cases f1
        refine ⟨m1, tab3, du, w3.r, n1d, ps, hN, o3, od, fun H4 x4 r4 => ?_⟩
        have w4 := w3.d_ w3.r.top x4 r4
        have tab4 := tab_x tab3 x4 n1d (lt_d w3.r.top x4)
        refine ⟨by rw [sizeLine_eq]; decide, fun p5 f5 => ?_⟩
        have s5 := same_new (o := HO.tup [V.str (Str.ofString "more"), V.int 0, V.int 0]) f5
        have w5 := w4.same s5
        have tab5 := tab4.mono s5
        have len1 : m1.length ≤ 1000 := by
          have := sub_len (m := (rowsN ps).map fun r => r.2.name) o3.nd fun z hz => by
            obtain ⟨r, hr, q, _⟩ := o3.mem.mp hz
            exact List.mem_map.mpr ⟨r, hr, q⟩
          rw [List.length_map, List.length_map] at this
          have rl : (rowsN ps).length ≤ 61 * ps.length := rows_len fun p hp => (hN.nms p hp).1
          have := hN.few
          omega
        refine ⟨_, DPut.k (k := .inr (Str.ofString "more")) tab5.top (by rw [List.length_map, sizeLine_eq]; omega), Da, rfl, ?_⟩
        have x6 : SameX d1 (upd H4 p5 (HO.tup [V.str (Str.ofString "more"), V.int 0, V.int 0])) (upd (upd H4 p5 (HO.tup [V.str (Str.ofString "more"), V.int 0, V.int 0])) d1 (.dK (putK (m1.map TabM.kv) (.inr (Str.ofString "more")) (.ref p5)))) := fun b u n e => by rw [upd_ne n]; exact e
        have w6 := w5.d_ (.inl tab5.top) x6 (w5.r.x x6 (Ne.symm n1d) (lt_d (.inl tab5.top) x6))
        generalize upd (upd H4 p5 (HO.tup [V.str (Str.ofString "more"), V.int 0, V.int 0])) d1 (.dK (putK (m1.map TabM.kv) (.inr (Str.ofString "more")) (.ref p5))) = H6 at *
        refine ⟨_, SqL.of w6.a.top, fun p7 f7 => ?_⟩
        rw [cut1, ← List.map_drop]
        have s7 := same_new (o := HO.lst ((qs.drop 1).map PcM.v)) f7
        have w7 := w6.same s7
        have eD : (qs.drop 1).map (fun p => (p.name, p.nms)) = (ps.drop 1).map fun p => (p.name, p.nms) := by rw [List.map_drop, e2, List.map_drop]
        refine ⟨qs.drop 1, ⟨upd_same, fun p hp => w7.a.at_ p (List.mem_of_mem_drop hp)⟩, hNq.drop 1, w7.t, fun d2 m2 H8 x8 t8 tab8 o8 f8 => ?_⟩
        rw [rows_copy eD] at o8
        have w8 := w7.x x8 t8
        refine ⟨_, SqL.of w8.b.top, fun p9 f9 => ?_⟩
        rw [cut1, ← List.map_drop]
        have s9 := same_new (o := HO.lst ((ps.drop 1).map PcM.v)) f9
        have w9 := w8.same s9
        have tab9 := tab8.mono s9
        refine ⟨ps.drop 1, ⟨upd_same, fun p hp => w9.b.at_ p (List.mem_of_mem_drop hp)⟩, hN.drop 1, fun d3 m3 H10 s10 tab10 o10 f10 => ?_⟩
        have w10 := w9.same s10
        have n23 : d2 ≠ d3 := fun e => by rw [← e, tab9.top] at f10; cases f10
        have n3d : d ≠ d3 := fun e => by
          rw [← e] at f10
          rcases w9.r.top with y | ⟨_, y⟩ <;> rw [y] at f10 <;> cases f10
        refine ⟨m2, tab9.mono s10, m3, ⟨.inl tab10.top, tab10.at_⟩, n23, ps.drop 1, hN.drop 1, o8, o10, fun H11 x11 r11 => ?_⟩
        have w11 := w10.d_ (.inl tab10.top) x11 (w10.r.x x11 n3d (lt_d (.inl tab10.top) x11))
        refine ⟨Da, rfl, qs, w11.a, hNq, w11.t, fun d4 m4 H12 x12 t12 tab12 o12 f12 => ?_⟩
        rw [rq] at o12
        have w12 := w11.x x12 t12
        have n4d : d4 ≠ d := fun e => by
          rw [e] at f12
          rcases w11.r.top with y | ⟨_, y⟩ <;> rw [y] at f12 <;> cases f12
        refine ⟨m4, tab12, du, w12.r, n4d, ps, hN, o12, od, fun H13 x13 r13 => ?_⟩
        have w13 := w12.d_ w12.r.top x13 r13
        refine ⟨qs.map PcM.d, ps.map PcM.d, .inl ⟨?_, ?_⟩, Nat.le_trans (depL_le (n := 5) fun x _ => dep_pc x) (by decide), by rw [e1, deqL_refl]; exact k _⟩
        · simp only [Rep]
          exact ⟨_, _, rfl, SqL.of w13.a.top, RepL.map fun p hp => (w13.a.at_ p hp).rep⟩
        · simp only [Rep]
          exact ⟨_, _, rfl, SqL.of w13.b.top, RepL.map fun p hp => (w13.b.at_ p hp).rep⟩
end
@[elab_as_elim] theorem len1 {α : Type} {p : List α → Prop} (us : List α) (h : us.length = 1) (f : ∀ a, p [a]) : p us := by
  match us, h with | [a], _ => exact f a
@[elab_as_elim] theorem len2 {α : Type} {p : List α → Prop} (us : List α) (h : us.length = 2) (f : ∀ a b, p [a, b]) : p us := by
  match us, h with | [a, b], _ => exact f a b
@[elab_as_elim] theorem len4 {α : Type} {p : List α → Prop} (us : List α) (h : us.length = 4) (f : ∀ a b c d, p [a, b, c, d]) : p us := by
  match us, h with | [a, b, c, d], _ => exact f a b c d
noncomputable def FO (K : PySem.W.Frag) (f : Addr) (st : Stmt) (x q : Str) : Prop := ∃ (oc : Value) (od an : Option Addr) (sl : Array (Option Value)) (kV dc pm cd ct : Value), K.lookup f = some ⟨oc, od, .func (PySem.W.fnOf x q (defArgs st) (defBody st) (defScope st) .none kV dc pm an cd ct), sl⟩ ∧ PySem.W.codeIn K cd q = true ∧ PySem.W.keepIn K (.ref f) = true
noncomputable def BMO (K : PySem.W.Frag) (bm : Addr) : Prop := ∃ sl, bm ≠ builtinsNs ∧ bm ≠ mainGlobals ∧ K.lookup bm = some ⟨.type "module", some builtinsNs, .plain, sl⟩
theorem all_mk {l : PySem.W.OpenLaw} {w : World} {K : PySem.W.Frag} {h : Heap} {mg : Str → Option Value} {fa f_names_of f_refuse_twice f_places_told f__law_cell_at f__law_name_by f__law_word_row f__law_told_by f__law_drawn f__law_copy f__law_whole f__law_spot f__law_due f__law_alike f_law bm tb_names_of : Addr} (X : K.In h) (G : h.Ns mainGlobals mg) (hfa : mg "law" = some (.ref fa))
    
    (a_names_of : PySem.W.nsIn K mainGlobals "names_of" = some (some (.ref f_names_of)))
    (l_names_of : FOT K f_names_of tb_names_of s_names_of "names_of" "names_of")
    (a_refuse_twice : PySem.W.nsIn K mainGlobals "refuse_twice" = some (some (.ref f_refuse_twice)))
    (l_refuse_twice : FO K f_refuse_twice s_refuse_twice "refuse_twice" "refuse_twice")
    (a_places_told : PySem.W.nsIn K mainGlobals "places_told" = some (some (.ref f_places_told)))
    (l_places_told : FO K f_places_told s_places_told "places_told" "places_told")
    (a__law_cell_at : PySem.W.nsIn K mainGlobals "_law_cell_at" = some (some (.ref f__law_cell_at)))
    (l__law_cell_at : FO K f__law_cell_at s__law_cell_at "_law_cell_at" "_law_cell_at")
    (a__law_name_by : PySem.W.nsIn K mainGlobals "_law_name_by" = some (some (.ref f__law_name_by)))
    (l__law_name_by : FO K f__law_name_by s__law_name_by "_law_name_by" "_law_name_by")
    (a__law_word_row : PySem.W.nsIn K mainGlobals "_law_word_row" = some (some (.ref f__law_word_row)))
    (l__law_word_row : FO K f__law_word_row s__law_word_row "_law_word_row" "_law_word_row")
    (a__law_told_by : PySem.W.nsIn K mainGlobals "_law_told_by" = some (some (.ref f__law_told_by)))
    (l__law_told_by : FO K f__law_told_by s__law_told_by "_law_told_by" "_law_told_by")
    (a__law_drawn : PySem.W.nsIn K mainGlobals "_law_drawn" = some (some (.ref f__law_drawn)))
    (l__law_drawn : FO K f__law_drawn s__law_drawn "_law_drawn" "_law_drawn")
    (a__law_copy : PySem.W.nsIn K mainGlobals "_law_copy" = some (some (.ref f__law_copy)))
    (l__law_copy : FO K f__law_copy s__law_copy "_law_copy" "_law_copy")
    (a__law_whole : PySem.W.nsIn K mainGlobals "_law_whole" = some (some (.ref f__law_whole)))
    (l__law_whole : FO K f__law_whole s__law_whole "_law_whole" "_law_whole")
    (a__law_spot : PySem.W.nsIn K mainGlobals "_law_spot" = some (some (.ref f__law_spot)))
    (l__law_spot : FO K f__law_spot s__law_spot "_law_spot" "_law_spot")
    (a__law_due : PySem.W.nsIn K mainGlobals "_law_due" = some (some (.ref f__law_due)))
    (l__law_due : FO K f__law_due s__law_due "_law_due" "_law_due")
    (a__law_alike : PySem.W.nsIn K mainGlobals "_law_alike" = some (some (.ref f__law_alike)))
    (l__law_alike : FO K f__law_alike s__law_alike "_law_alike" "_law_alike")
    (a_law : PySem.W.nsIn K mainGlobals "law" = some (some (.ref f_law)))
    (l_law : FO K f_law s_law "law" "law")
    (n_bool : PySem.W.nsIn K mainGlobals "bool" = some none)
    (n_dict : PySem.W.nsIn K mainGlobals "dict" = some none)
    (n_int : PySem.W.nsIn K mainGlobals "int" = some none)
    (n_isinstance : PySem.W.nsIn K mainGlobals "isinstance" = some none)
    (n_len : PySem.W.nsIn K mainGlobals "len" = some none)
    (n_list : PySem.W.nsIn K mainGlobals "list" = some none)
    (n_range : PySem.W.nsIn K mainGlobals "range" = some none)
    (n_reversed : PySem.W.nsIn K mainGlobals "reversed" = some none)
    (n_sorted : PySem.W.nsIn K mainGlobals "sorted" = some none)
    (n_str : PySem.W.nsIn K mainGlobals "str" = some none)
    (n_tuple : PySem.W.nsIn K mainGlobals "tuple" = some none)
    (a_bm : PySem.W.nsIn K mainGlobals "__builtins__" = some (some (.ref bm)))
    (l_bm : BMO K bm) :
    ∃ fd : FuncData, (∀ (s : Shared) (v : Value), BindsTo s fd ⟨[v], []⟩ [("_law_script", v)]) ∧ ∀ base : Heap, K.In base → base.Ns mainGlobals mg → FnOk l.prog w K mg base CX0 8 fa fd ["_law_script"] (sp_law K tb_names_of) := by
  have e := hfa.symm.trans (PySem.W.mg_of X G a_law)
  cases e
  obtain ⟨_, _, _, _, _, _, _, _, _, l_names_of, e_names_of, k_names_of, h_names_of⟩ := l_names_of
  have F_names_of := fun_mk l_names_of e_names_of k_names_of
  have b_names_of := F_names_of.binds (ps := ["pieces"]) fun _ _ _ _ _ _ us hl => len1 us hl fun _ => rfl
  obtain ⟨_, _, _, _, _, _, _, _, _, l_refuse_twice, e_refuse_twice, k_refuse_twice⟩ := l_refuse_twice
  have F_refuse_twice := fun_mk l_refuse_twice e_refuse_twice k_refuse_twice
  have b_refuse_twice := F_refuse_twice.binds (ps := ["ordered"]) fun _ _ _ _ _ _ us hl => len1 us hl fun _ => rfl
  obtain ⟨_, _, _, _, _, _, _, _, _, l_places_told, e_places_told, k_places_told⟩ := l_places_told
  have F_places_told := fun_mk l_places_told e_places_told k_places_told
  have b_places_told := F_places_told.binds (ps := ["piece", "told_by"]) fun _ _ _ _ _ _ us hl => len2 us hl fun _ _ => rfl
  obtain ⟨_, _, _, _, _, _, _, _, _, l__law_cell_at, e__law_cell_at, k__law_cell_at⟩ := l__law_cell_at
  have F__law_cell_at := fun_mk l__law_cell_at e__law_cell_at k__law_cell_at
  have b__law_cell_at := F__law_cell_at.binds (ps := ["_law_script", "_law_k"]) fun _ _ _ _ _ _ us hl => len2 us hl fun _ _ => rfl
  obtain ⟨_, _, _, _, _, _, _, _, _, l__law_name_by, e__law_name_by, k__law_name_by⟩ := l__law_name_by
  have F__law_name_by := fun_mk l__law_name_by e__law_name_by k__law_name_by
  have b__law_name_by := F__law_name_by.binds (ps := ["_law_cell", "_law_k"]) fun _ _ _ _ _ _ us hl => len2 us hl fun _ _ => rfl
  obtain ⟨_, _, _, _, _, _, _, _, _, l__law_word_row, e__law_word_row, k__law_word_row⟩ := l__law_word_row
  have F__law_word_row := fun_mk l__law_word_row e__law_word_row k__law_word_row
  have b__law_word_row := F__law_word_row.binds (ps := ["_law_cell", "_law_names_by"]) fun _ _ _ _ _ _ us hl => len2 us hl fun _ _ => rfl
  obtain ⟨_, _, _, _, _, _, _, _, _, l__law_told_by, e__law_told_by, k__law_told_by⟩ := l__law_told_by
  have F__law_told_by := fun_mk l__law_told_by e__law_told_by k__law_told_by
  have b__law_told_by := F__law_told_by.binds (ps := ["_law_pieces", "_law_cell", "_law_names_by", "_law_strict"]) fun _ _ _ _ _ _ us hl => len4 us hl fun _ _ _ _ => rfl
  obtain ⟨_, _, _, _, _, _, _, _, _, l__law_drawn, e__law_drawn, k__law_drawn⟩ := l__law_drawn
  have F__law_drawn := fun_mk l__law_drawn e__law_drawn k__law_drawn
  have b__law_drawn := F__law_drawn.binds (ps := ["_law_cells", "_law_names_by", "_law_titles_by", "_law_strict"]) fun _ _ _ _ _ _ us hl => len4 us hl fun _ _ _ _ => rfl
  obtain ⟨_, _, _, _, _, _, _, _, _, l__law_copy, e__law_copy, k__law_copy⟩ := l__law_copy
  have F__law_copy := fun_mk l__law_copy e__law_copy k__law_copy
  have b__law_copy := F__law_copy.binds (ps := ["_law_piece"]) fun _ _ _ _ _ _ us hl => len1 us hl fun _ => rfl
  obtain ⟨_, _, _, _, _, _, _, _, _, l__law_whole, e__law_whole, k__law_whole⟩ := l__law_whole
  have F__law_whole := fun_mk l__law_whole e__law_whole k__law_whole
  have b__law_whole := F__law_whole.binds (ps := ["_law_found"]) fun _ _ _ _ _ _ us hl => len1 us hl fun _ => rfl
  obtain ⟨_, _, _, _, _, _, _, _, _, l__law_spot, e__law_spot, k__law_spot⟩ := l__law_spot
  have F__law_spot := fun_mk l__law_spot e__law_spot k__law_spot
  have b__law_spot := F__law_spot.binds (ps := ["_law_found", "_law_due_here"]) fun _ _ _ _ _ _ us hl => len2 us hl fun _ _ => rfl
  obtain ⟨_, _, _, _, _, _, _, _, _, l__law_due, e__law_due, k__law_due⟩ := l__law_due
  have F__law_due := fun_mk l__law_due e__law_due k__law_due
  have b__law_due := F__law_due.binds (ps := ["_law_pieces"]) fun _ _ _ _ _ _ us hl => len1 us hl fun _ => rfl
  obtain ⟨_, _, _, _, _, _, _, _, _, l__law_alike, e__law_alike, k__law_alike⟩ := l__law_alike
  have F__law_alike := fun_mk l__law_alike e__law_alike k__law_alike
  have b__law_alike := F__law_alike.binds (ps := ["_law_found", "_law_due_here"]) fun _ _ _ _ _ _ us hl => len2 us hl fun _ _ => rfl
  obtain ⟨_, _, _, _, _, _, _, _, _, l_law, e_law, k_law⟩ := l_law
  have F_law := fun_mk l_law e_law k_law
  have b_law := F_law.binds (ps := ["_law_script"]) fun _ _ _ _ _ _ us hl => len1 us hl fun _ => rfl
  obtain ⟨_, n1_bm, n2_bm, l_bm⟩ := l_bm
  have T : Txt K mg { names_of := f_names_of, fd_names_of := _, refuse_twice := f_refuse_twice, fd_refuse_twice := _, places_told := f_places_told, fd_places_told := _, _law_cell_at := f__law_cell_at, fd__law_cell_at := _, _law_name_by := f__law_name_by, fd__law_name_by := _, _law_word_row := f__law_word_row, fd__law_word_row := _, _law_told_by := f__law_told_by, fd__law_told_by := _, _law_drawn := f__law_drawn, fd__law_drawn := _, _law_copy := f__law_copy, fd__law_copy := _, _law_whole := f__law_whole, fd__law_whole := _, _law_spot := f__law_spot, fd__law_spot := _, _law_due := f__law_due, fd__law_due := _, _law_alike := f__law_alike, fd__law_alike := _, law := fa, fd_law := _, tb_names_of := tb_names_of } := {
    lm_names_of := ⟨_, rfl, h_names_of⟩
    m_names_of := PySem.W.mg_of X G a_names_of
    k_names_of := k_names_of
    b_names_of := b_names_of
    F_names_of := F_names_of
    m_refuse_twice := PySem.W.mg_of X G a_refuse_twice
    k_refuse_twice := k_refuse_twice
    b_refuse_twice := b_refuse_twice
    F_refuse_twice := F_refuse_twice
    m_places_told := PySem.W.mg_of X G a_places_told
    k_places_told := k_places_told
    b_places_told := b_places_told
    F_places_told := F_places_told
    m__law_cell_at := PySem.W.mg_of X G a__law_cell_at
    k__law_cell_at := k__law_cell_at
    b__law_cell_at := b__law_cell_at
    F__law_cell_at := F__law_cell_at
    m__law_name_by := PySem.W.mg_of X G a__law_name_by
    k__law_name_by := k__law_name_by
    b__law_name_by := b__law_name_by
    F__law_name_by := F__law_name_by
    m__law_word_row := PySem.W.mg_of X G a__law_word_row
    k__law_word_row := k__law_word_row
    b__law_word_row := b__law_word_row
    F__law_word_row := F__law_word_row
    m__law_told_by := PySem.W.mg_of X G a__law_told_by
    k__law_told_by := k__law_told_by
    b__law_told_by := b__law_told_by
    F__law_told_by := F__law_told_by
    m__law_drawn := PySem.W.mg_of X G a__law_drawn
    k__law_drawn := k__law_drawn
    b__law_drawn := b__law_drawn
    F__law_drawn := F__law_drawn
    m__law_copy := PySem.W.mg_of X G a__law_copy
    k__law_copy := k__law_copy
    b__law_copy := b__law_copy
    F__law_copy := F__law_copy
    m__law_whole := PySem.W.mg_of X G a__law_whole
    k__law_whole := k__law_whole
    b__law_whole := b__law_whole
    F__law_whole := F__law_whole
    m__law_spot := PySem.W.mg_of X G a__law_spot
    k__law_spot := k__law_spot
    b__law_spot := b__law_spot
    F__law_spot := F__law_spot
    m__law_due := PySem.W.mg_of X G a__law_due
    k__law_due := k__law_due
    b__law_due := b__law_due
    F__law_due := F__law_due
    m__law_alike := PySem.W.mg_of X G a__law_alike
    k__law_alike := k__law_alike
    b__law_alike := b__law_alike
    F__law_alike := F__law_alike
    m_law := PySem.W.mg_of X G a_law
    k_law := k_law
    b_law := b_law
    F_law := F_law
    bm := ⟨bm, _, PySem.W.mg_of X G a_bm, n1_bm, n2_bm, l_bm⟩
    n_bool := PySem.W.mg_none_of X G n_bool
    n_dict := PySem.W.mg_none_of X G n_dict
    n_int := PySem.W.mg_none_of X G n_int
    n_isinstance := PySem.W.mg_none_of X G n_isinstance
    n_len := PySem.W.mg_none_of X G n_len
    n_list := PySem.W.mg_none_of X G n_list
    n_range := PySem.W.mg_none_of X G n_range
    n_reversed := PySem.W.mg_none_of X G n_reversed
    n_sorted := PySem.W.mg_none_of X G n_sorted
    n_str := PySem.W.mg_none_of X G n_str
    n_tuple := PySem.W.mg_none_of X G n_tuple }
  exact ⟨_, fun s v => .of_eq rfl, fun base _ _ => G_law T⟩
theorem walk {l : PySem.W.OpenLaw} {q : Program} {loose : List Str} {XP : (Str → Option Value) → Heap → Prop} {YP : World → Heap → Prop} {d : DefRec} {K : Params → PySem.W.Frag} {tb_names_of : Addr} (hn : l.most = some 63) (hdf : d.params.defaults = [])
    (hY : ∀ (w : World) (h : Heap), YP w h → (K w.params).In h)
    (hT : ∀ (w : World) (h : Heap) (lo : List Str) (mean : ExcName → Option Value) (mg mb : Str → Option Value), (K w.params).In h → Top q lo mean mg mb h → ∀ T ∈ [tb_names_of], TabIn (K w.params) h T)
    (F : ∀ (w : World) (mg : Str → Option Value) (fa : Addr) (h : Heap), (K w.params).In h → h.Ns mainGlobals mg → mg d.name = some (.ref fa) →
      ∃ fd : FuncData, (∀ (s : Shared) (u : Value), BindsTo s fd ⟨[u], []⟩ [("_law_script", u)]) ∧ ∀ base : Heap, (K w.params).In base → base.Ns mainGlobals mg → FnOk l.prog w (K w.params) mg base CX0 8 fa fd ["_law_script"] (sp_law (K w.params) tb_names_of)) :
    PySem.W.WalkO q loose XP YP l.row.toRowW d [] (fun f vs => PySem.call f vs) :=
  L2.walk_ofT (n := 63) (k := 8) (x := "_law_script") (CX := fun _ => CX0) (sp := fun w => sp_law (K w.params) tb_names_of) hn (by decide) hdf ⟨rfl, by decide, by decide⟩ hY hT F (fun _ _ a ns hl hE hS => ⟨a, ns, rfl, hS, hl, hE _ (by simp), fun _ => rfl⟩) fun _ _ _ _ _ z => z

end My
namespace Hd
open PySem PySem.W PySem.Calls PyProof.Rows
noncomputable abbrev pw : Program := PySem.Challenge.pw_joinload_k16_what_names_stand_for
noncomputable def T (i : Nat) : Stmt := My.top i
noncomputable def C (i j : Nat) : Stmt := L2.inClass (My.top i) j
noncomputable abbrev k (P : Params) (x : Str) (t : Tok) (v : Value) : DictEntry := ⟨PyData.keyHash P x, .str x t, v⟩
noncomputable abbrev fn (s : Stmt) (x q : Str) (dV kV doc pm : Value) (an : Option Addr) (cd ct : Value) : FuncData := fnOf x q (L2.defArgs s) (L2.defBody s) (L2.defScope s) dV kV doc pm an cd ct
noncomputable abbrev e1 : Obj := ⟨.type "tuple", none, .seq #[] 0, #[]⟩
noncomputable abbrev e2 : Obj := ⟨.none, none, .fields #[], #[]⟩
noncomputable abbrev bp : Obj := ⟨.type "builtin_function_or_method", none, .fields #[.builtin "type.__prepare__", .type "type"], #[]⟩
noncomputable abbrev tu (x : Array Value) : Obj := ⟨.type "tuple", none, .seq x 0, #[]⟩
noncomputable abbrev nf (x : Array Value) : Obj := ⟨.none, none, .fields x, #[]⟩
noncomputable abbrev bs (a : Addr) : Obj := ⟨.type "builtin_function_or_method", none, .fields #[.builtin "object.__init_subclass__", .ref a], #[]⟩
noncomputable abbrev su (a : Addr) : Obj := ⟨.type "super", none, .fields #[.ref a, .ref a, .ref a], #[]⟩
noncomputable abbrev co (x q : Str) (t : Nat) (l a b : Int) (r : Addr) (o : Bool) (r2 : Addr) (v : Value) (u : Nat) : Obj := ⟨.type "code", none, .fields #[.str x t, .str q (t + 1), .str "/claim/cut.py" (t + 2), .int l 0, .int a 0, .int 0 0, .int 0 0, .int b 0, .ref r, .bool o, .int 181 0, .ref r2, .none, .none, .none, v, .int (Int.ofNat u) 0, .int l 0, .str "/claim/cut.py" (u + 1)], #[]⟩
noncomputable abbrev fm (a b : Addr) (v : Value) : Obj := ⟨.type "frame", none, .plain, #[some (.ref a), some (.ref 3), some (.ref b), none, some v, none, some (.ref 0)]⟩
noncomputable abbrev fo (s : Stmt) (x q m : Str) (t : Nat) (c : Addr) : Obj := ⟨.type "function", none, .func (fn s x q .none .none .none (.str m t) none (.ref c) .none), #[]⟩
noncomputable abbrev ft (s : Stmt) (x q : Str) : Obj := ⟨.none, none, .func { fn s x q .none .none .none .none none .none .none with globals := 0, closure := [], builtins := 0 }, #[]⟩
noncomputable abbrev di (l : List DictEntry) (n : Nat) : Obj := ⟨.type "dict", none, .dict l.toArray n, #[]⟩
noncomputable def od : List (Nat × Obj) → List (Nat × Obj)
  | [] => []
  | (i, o) :: r => match Nat.beq (i % 2) 1 with
    | true => (i / 2, o) :: od r
    | false => od r
noncomputable def ev : List (Nat × Obj) → List (Nat × Obj)
  | [] => []
  | (i, o) :: r => match Nat.beq i 0 with
    | true => ev r
    | false => match Nat.beq (i % 2) 1 with
      | true => ev r
      | false => (i / 2 - 1, o) :: ev r
noncomputable def at0 (v : Obj) : List (Nat × Obj) → Obj
  | [] => v
  | (i, o) :: r => match Nat.beq i 0 with
    | true => o
    | false => at0 v r
noncomputable def mg : Nat → BT → List (Nat × Obj) → BT
  | 0, t, _ => t
  | f + 1, t, d => match d with
    | [] => t
    | x :: r => match t with
      | .nil => .node (at0 default (x :: r)) (mg f .nil (od (x :: r))) (mg f .nil (ev (x :: r)))
      | .node v a b => .node (at0 v (x :: r)) (mg f a (od (x :: r))) (mg f b (ev (x :: r)))
noncomputable def bd : List Stmt := behindTheImports pw
noncomputable def en : Env := { scope := pw.main.scope, locals := mainNs, globals := mainNs, cells := [], code := (.ref 13), frame := some 14 }
noncomputable abbrev cE : Code := .body bd en
noncomputable abbrev B : List Frame := [topFrame ⟨0, 0, 0, 0⟩]
noncomputable def li : Life := { registered := [], finalised := [], alive := [], known := 0, ids := [], orphanDicts := [], counting := false, cnt := ⟨[]⟩, zero := [], soft := 0, below := false, collecting := false, loading := false, debug := 0, thresholds := [2000, 10, 10], woke := false, asked := 0, gcEnabled := true, old := [], middle := [], young := 0, intoMiddle := false }
noncomputable abbrev an : Option Value := (some (.ref 6))
noncomputable abbrev sT (t : BT) (n k : Nat) (os : OsState) : SharedT := ⟨t, n, li, ⟨[]⟩, boot_drawn, k, os⟩
noncomputable abbrev sR (w : World) (n : Nat) (S S' : World → OsState → SharedT) (l : List Stmt) (p p' : Pos) : Prop := (fun os => segRunT treeTable pw w 11 an 1 n (S w os) (piecesOf l en cE p B)) = fun os => some (.next, S' w os, cE, p')
noncomputable def o11_0 : Obj := e1
noncomputable def o12_0 : Obj := e2
noncomputable def o13_0 : Obj := co "<module>" "<module>" 182 1 0 0 11 false 12 .none 185
noncomputable def o14_0 : Obj := fm 13 3 (.str "__main__" 164)
noncomputable def Ha (P : Params) : Heap := ⟨⟨boot_o_0 P :: boot_o_1 P :: boot_o_2 P :: boot_o_3 P :: boot_o_4 P :: boot_o_5 P :: boot_o_6 P :: boot_o_7 P :: boot_o_8 P :: boot_o_9 P :: boot_o_10 P :: o11_0 :: o12_0 :: o13_0 :: o14_0 :: []⟩, li⟩
noncomputable def S0 (w : World) (os : OsState) : Shared := ⟨boot_heap w.params, ⟨[]⟩, boot_drawn, boot_toks, os⟩
noncomputable def Sa (w : World) (os : OsState) : Shared := ⟨Ha w.params, ⟨[]⟩, boot_drawn, 187, os⟩
noncomputable def Pre (w : World) : Prop := (fun os => topGo treeTable pw w 11 an 12 (S0 w os) (topStub pw)) = fun os => some (Sa w os, ⟨denote treeTable cE, cE, ⟨0, 0, 0, 0⟩, B⟩)
noncomputable def D0 (P : Params) : List (Nat × Obj) := (0, boot_o_0 P) :: (1, boot_o_1 P) :: (2, boot_o_2 P) :: (3, boot_o_3 P) :: (4, boot_o_4 P) :: (5, boot_o_5 P) :: (6, boot_o_6 P) :: (7, boot_o_7 P) :: (8, boot_o_8 P) :: (9, boot_o_9 P) :: (10, boot_o_10 P) :: (11, o11_0) :: (12, o12_0) :: (13, o13_0) :: (14, o14_0) :: []
noncomputable def T0 (P : Params) : BT := mg 14 .nil (D0 P)
noncomputable def S0T (w : World) : OsState → SharedT := sT (T0 w.params) 15 187
noncomputable def Blk (w : World) : Prop := (fun os => segRun treeTable pw w 11 an 1 1 (Sa w os) (blockOf bd en cE ⟨0, 0, 0, 0⟩ B)) = fun os => some (.next, (S0T w os).abs, cE, ⟨0, 0, 0, 0⟩)
noncomputable def g3_2 (P : Params) : List DictEntry := [k P "__name__" 165 (.str "law_joinload_k16_what_names_stand_for" 268), k P "__doc__" 166 .none, k P "__package__" 167 .none, k P "__loader__" 168 (.builtin "__main__.__loader__#opaque"), k P "__spec__" 169 .none, k P "__annotations__" 170 (.ref 6), k P "__builtins__" 171 (.ref 4), k P "__file__" 173 (.str "/claim/cut.py" 172), k P "__cached__" 174 .none, k P "JoinError" 206 (.ref 24), k P "Twice" 235 (.ref 44), k P "names_of" 248 (.ref 53), k P "refuse_twice" 254 (.ref 58), k P "places_told" 267 (.ref 65), k P "_law_cell_at" 277 (.ref 72), k P "_law_name_by" 292 (.ref 79), k P "_law_word_row" 305 (.ref 86), k P "_law_told_by" 311 (.ref 91), k P "_law_drawn" 327 (.ref 98), k P "_law_copy" 333 (.ref 103), k P "_law_whole" 340 (.ref 110), k P "_law_spot" 348 (.ref 117), k P "_law_due" 364 (.ref 124), k P "_law_alike" 373 (.ref 131)]
noncomputable def o3_2 (P : Params) : Obj := ⟨(.type "dict"), none, .dict (g3_2 P).toArray 24, #[]⟩
noncomputable def o12_2 : Obj := nf #[(.int (2) 0), (.int (0) 0), (.ref 20), (.int (4) 0), (.int (0) 0), (.ref 33), (.int (12) 0), (.int (0) 0), (.ref 52), (.int (20) 0), (.int (0) 0), (.ref 57), (.int (29) 0), (.int (0) 0), (.ref 64), (.int (36) 0), (.int (0) 0), (.ref 71), (.int (40) 0), (.int (0) 0), (.ref 78), (.int (53) 0), (.int (0) 0), (.ref 85), (.int (64) 0), (.int (0) 0), (.ref 90), (.int (74) 0), (.int (0) 0), (.ref 97), (.int (92) 0), (.int (0) 0), (.ref 102), (.int (95) 0), (.int (0) 0), (.ref 109), (.int (97) 0), (.int (0) 0), (.ref 116), (.int (101) 0), (.int (0) 0), (.ref 123), (.int (114) 0), (.int (0) 0), (.ref 130)]
noncomputable def o15_2 : Obj := tu #[(.type "ValueError")]
noncomputable def o16_2 : Obj := bp
noncomputable def o17_2 (P : Params) : Obj := di [k P "__module__" 196 (.str "joinload.errors" 187), k P "__qualname__" 198 (.str "JoinError" 197), k P "__firstlineno__" 200 (.int (2) 199), k P "__static_attributes__" 201 (.ref 22)] 4
noncomputable def o18_2 : Obj := e1
noncomputable def o19_2 : Obj := e2
noncomputable def o20_2 : Obj := co "JoinError" "JoinError" 191 2 0 0 18 false 19 .none 194
noncomputable def o21_2 : Obj := fm 20 17 (.str "joinload.errors" 187)
noncomputable def o22_2 : Obj := e1
noncomputable def o23_2 (P : Params) : Obj := di [k P "__module__" 196 (.str "joinload.errors" 187), k P "__firstlineno__" 200 (.int (2) 199), k P "__static_attributes__" 201 (.ref 22), k P "__weakref__" 203 (.ref 25), k P "__doc__" 204 .none] 3
noncomputable def o24_2 : Obj := ⟨(.type "type"), none, (.cls ⟨"JoinError", [(.type "ValueError")], [(.ref 24), (.type "ValueError"), (.type "Exception"), (.type "BaseException"), (.type "object")], 23, "JoinError", true, [], [(.ref 44)], false, none, false⟩), #[(some (.ref 15)), none, (some (.str "JoinError" 189)), (some (.str "JoinError" 197)), (some (.builtin "ValueError.__new__")), (some (.bool true))]⟩
noncomputable def o25_2 : Obj := ⟨(.type "getset_descriptor"), none, (.fields #[(.str "__weakref__" 202), (.ref 24), (.builtin "ExceptionGroup.__weakref__"), .none]), #[]⟩
noncomputable def o26_2 : Obj := su 24
noncomputable def o27_2 : Obj := bs 24
noncomputable def o28_2 : Obj := tu #[(.ref 24)]
noncomputable def o29_2 : Obj := bp
noncomputable def o30_2 (P : Params) : Obj := di [k P "__module__" 214 (.str "joinload.errors" 187), k P "__qualname__" 216 (.str "Twice" 215), k P "__firstlineno__" 218 (.int (4) 217), k P "__init__" 228 (.ref 41), k P "__static_attributes__" 232 (.ref 42)] 5
noncomputable def o31_2 : Obj := e1
noncomputable def o32_2 : Obj := nf #[(.int (6) 0), (.int (4) 0), (.ref 40)]
noncomputable def o33_2 : Obj := co "Twice" "Twice" 209 4 0 0 31 false 32 .none 212
noncomputable def o34_2 : Obj := fm 33 30 (.str "joinload.errors" 187)
noncomputable def o35_2 : Obj := e1
noncomputable def o36_2 : Obj := e2
noncomputable def o37_2 : Obj := tu #[(.str "self" 222), (.str "name" 223), (.str "one" 224), (.str "other" 225)]
noncomputable def o38_2 : Obj := e1
noncomputable def o39_2 : Obj := ft (C 2 0) "__init__" "Twice.__init__"
noncomputable def o40_2 : Obj := ⟨(.type "code"), none, (.fields #[(.str "__init__" 219), (.str "Twice.__init__" 220), (.str "/claim/cut.py" 221), (.int (6) 0), (.int (4) 0), (.int (0) 0), (.int (0) 0), (.int (3) 0), (.ref 35), (.bool true), (.int (181) 0), (.ref 36), .none, (.ref 37), (.ref 38), (.ref 39), (.int (226) 0), (.int (6) 0), (.str "/claim/cut.py" 227)]), #[]⟩
noncomputable def o41_2 : Obj := fo (C 2 0) "__init__" "Twice.__init__" "joinload.errors" 187 40
noncomputable def o42_2 : Obj := tu #[(.str "name" 229), (.str "one" 230), (.str "other" 231)]
noncomputable def o43_2 (P : Params) : Obj := di [k P "__module__" 214 (.str "joinload.errors" 187), k P "__firstlineno__" 218 (.int (4) 217), k P "__init__" 228 (.ref 41), k P "__static_attributes__" 232 (.ref 42), k P "__doc__" 233 .none] 2
noncomputable def o44_2 : Obj := ⟨(.type "type"), none, (.cls ⟨"Twice", [(.ref 24)], [(.ref 44), (.ref 24), (.type "ValueError"), (.type "Exception"), (.type "BaseException"), (.type "object")], 43, "Twice", true, [], [], false, none, false⟩), #[(some (.ref 28)), none, (some (.str "Twice" 207)), (some (.str "Twice" 215)), (some (.builtin "ValueError.__new__")), (some (.bool true))]⟩
noncomputable def o45_2 : Obj := su 44
noncomputable def o46_2 : Obj := bs 44
noncomputable def o47_2 : Obj := e1
noncomputable def o48_2 : Obj := e2
noncomputable def o49_2 : Obj := tu #[(.str "pieces" 241), (.str "ordered" 242), (.str "names" 243), (.str "sort" 244), (.str "piece" 245)]
noncomputable def o50_2 : Obj := e1
noncomputable def o51_2 : Obj := ft (T 4) "names_of" "names_of"
noncomputable def o52_2 : Obj := ⟨(.type "code"), none, (.fields #[(.str "names_of" 238), (.str "names_of" 239), (.str "/claim/cut.py" 240), (.int (12) 0), (.int (1) 0), (.int (0) 0), (.int (0) 0), (.int (3) 0), (.ref 47), (.bool true), (.int (181) 0), (.ref 48), .none, (.ref 49), (.ref 50), (.ref 51), (.int (246) 0), (.int (12) 0), (.str "/claim/cut.py" 247)]), #[]⟩
noncomputable def o53_2 : Obj := fo (T 4) "names_of" "names_of" "joinload.names" 236 52
noncomputable def o54_2 : Obj := e1
noncomputable def o55_2 : Obj := e2
noncomputable def o56_2 : Obj := ft (T 5) "refuse_twice" "refuse_twice"
noncomputable def o57_2 : Obj := co "refuse_twice" "refuse_twice" 249 20 1 3 54 true 55 (.ref 56) 252
noncomputable def o58_2 : Obj := fo (T 5) "refuse_twice" "refuse_twice" "joinload.names" 236 57
noncomputable def o59_2 : Obj := e1
noncomputable def o60_2 : Obj := e2
noncomputable def o61_2 : Obj := tu #[(.str "piece" 258), (.str "told_by" 259), (.str "places" 260), (.str "name" 261), (.str "sort" 262), (.str "stretch" 263), (.str "offset" 264)]
noncomputable def o62_2 : Obj := e1
noncomputable def o63_2 : Obj := ft (T 6) "places_told" "places_told"
noncomputable def o64_2 : Obj := ⟨(.type "code"), none, (.fields #[(.str "places_told" 255), (.str "places_told" 256), (.str "/claim/cut.py" 257), (.int (29) 0), (.int (2) 0), (.int (0) 0), (.int (0) 0), (.int (3) 0), (.ref 59), (.bool true), (.int (181) 0), (.ref 60), .none, (.ref 61), (.ref 62), (.ref 63), (.int (265) 0), (.int (29) 0), (.str "/claim/cut.py" 266)]), #[]⟩
noncomputable def o65_2 : Obj := fo (T 6) "places_told" "places_told" "joinload.names" 236 64
noncomputable def o66_2 : Obj := e1
noncomputable def o67_2 : Obj := e2
noncomputable def o68_2 : Obj := tu #[(.str "_law_script" 273), (.str "_law_k" 274)]
noncomputable def o69_2 : Obj := e1
noncomputable def o70_2 : Obj := ft (T 8) "_law_cell_at" "_law_cell_at"
noncomputable def o71_2 : Obj := ⟨(.type "code"), none, (.fields #[(.str "_law_cell_at" 270), (.str "_law_cell_at" 271), (.str "/claim/cut.py" 272), (.int (36) 0), (.int (2) 0), (.int (0) 0), (.int (0) 0), (.int (3) 0), (.ref 66), (.bool true), (.int (181) 0), (.ref 67), .none, (.ref 68), (.ref 69), (.ref 70), (.int (275) 0), (.int (36) 0), (.str "/claim/cut.py" 276)]), #[]⟩
noncomputable def o72_2 : Obj := fo (T 8) "_law_cell_at" "_law_cell_at" "law_joinload_k16_what_names_stand_for" 268 71
noncomputable def o73_2 : Obj := e1
noncomputable def o74_2 : Obj := e2
noncomputable def o75_2 : Obj := tu #[(.str "_law_cell" 281), (.str "_law_k" 282), (.str "_law_signs" 283), (.str "_law_size" 284), (.str "_law_at" 285), (.str "_law_name" 286), (.str "_law_j" 287), (.str "_law_many" 288), (.str "_law_place" 289)]
noncomputable def o76_2 : Obj := e1
noncomputable def o77_2 : Obj := ft (T 9) "_law_name_by" "_law_name_by"
noncomputable def o78_2 : Obj := ⟨(.type "code"), none, (.fields #[(.str "_law_name_by" 278), (.str "_law_name_by" 279), (.str "/claim/cut.py" 280), (.int (40) 0), (.int (2) 0), (.int (0) 0), (.int (0) 0), (.int (3) 0), (.ref 73), (.bool true), (.int (181) 0), (.ref 74), .none, (.ref 75), (.ref 76), (.ref 77), (.int (290) 0), (.int (40) 0), (.str "/claim/cut.py" 291)]), #[]⟩
noncomputable def o79_2 : Obj := fo (T 9) "_law_name_by" "_law_name_by" "law_joinload_k16_what_names_stand_for" 268 78
noncomputable def o80_2 : Obj := e1
noncomputable def o81_2 : Obj := e2
noncomputable def o82_2 : Obj := tu #[(.str "_law_cell" 296), (.str "_law_names_by" 297), (.str "_law_what" 298), (.str "_law_rest" 299), (.str "_law_soft" 300), (.str "_law_add" 301), (.str "_law_rule" 302)]
noncomputable def o83_2 : Obj := e1
noncomputable def o84_2 : Obj := ft (T 10) "_law_word_row" "_law_word_row"
noncomputable def o85_2 : Obj := ⟨(.type "code"), none, (.fields #[(.str "_law_word_row" 293), (.str "_law_word_row" 294), (.str "/claim/cut.py" 295), (.int (53) 0), (.int (2) 0), (.int (0) 0), (.int (0) 0), (.int (3) 0), (.ref 80), (.bool true), (.int (181) 0), (.ref 81), .none, (.ref 82), (.ref 83), (.ref 84), (.int (303) 0), (.int (53) 0), (.str "/claim/cut.py" 304)]), #[]⟩
noncomputable def o86_2 : Obj := fo (T 10) "_law_word_row" "_law_word_row" "law_joinload_k16_what_names_stand_for" 268 85
noncomputable def o87_2 : Obj := e1
noncomputable def o88_2 : Obj := e2
noncomputable def o89_2 : Obj := ft (T 11) "_law_told_by" "_law_told_by"
noncomputable def o90_2 : Obj := co "_law_told_by" "_law_told_by" 306 64 4 3 87 true 88 (.ref 89) 309
noncomputable def o91_2 : Obj := fo (T 11) "_law_told_by" "_law_told_by" "law_joinload_k16_what_names_stand_for" 268 90
noncomputable def o92_2 : Obj := e1
noncomputable def o93_2 : Obj := e2
noncomputable def o94_2 : Obj := tu #[(.str "_law_cells" 315), (.str "_law_names_by" 316), (.str "_law_titles_by" 317), (.str "_law_strict" 318), (.str "_law_pieces" 319), (.str "_law_cell" 320), (.str "_law_what" 321), (.str "_law_step" 322), (.str "_law_stretch" 323), (.str "_law_more" 324)]
noncomputable def o95_2 : Obj := e1
noncomputable def o96_2 : Obj := ft (T 12) "_law_drawn" "_law_drawn"
noncomputable def o97_2 : Obj := ⟨(.type "code"), none, (.fields #[(.str "_law_drawn" 312), (.str "_law_drawn" 313), (.str "/claim/cut.py" 314), (.int (74) 0), (.int (4) 0), (.int (0) 0), (.int (0) 0), (.int (3) 0), (.ref 92), (.bool true), (.int (181) 0), (.ref 93), .none, (.ref 94), (.ref 95), (.ref 96), (.int (325) 0), (.int (74) 0), (.str "/claim/cut.py" 326)]), #[]⟩
noncomputable def o98_2 : Obj := fo (T 12) "_law_drawn" "_law_drawn" "law_joinload_k16_what_names_stand_for" 268 97
noncomputable def o99_2 : Obj := e1
noncomputable def o100_2 : Obj := e2
noncomputable def o101_2 : Obj := ft (T 13) "_law_copy" "_law_copy"
noncomputable def o102_2 : Obj := co "_law_copy" "_law_copy" 328 92 1 3 99 true 100 (.ref 101) 331
noncomputable def o103_2 : Obj := fo (T 13) "_law_copy" "_law_copy" "law_joinload_k16_what_names_stand_for" 268 102
noncomputable def o104_2 : Obj := e1
noncomputable def o105_2 : Obj := e2
noncomputable def o106_2 : Obj := tu #[(.str "_law_found" 337)]
noncomputable def o107_2 : Obj := e1
noncomputable def o108_2 : Obj := ft (T 14) "_law_whole" "_law_whole"
noncomputable def o109_2 : Obj := ⟨(.type "code"), none, (.fields #[(.str "_law_whole" 334), (.str "_law_whole" 335), (.str "/claim/cut.py" 336), (.int (95) 0), (.int (1) 0), (.int (0) 0), (.int (0) 0), (.int (3) 0), (.ref 104), (.bool true), (.int (181) 0), (.ref 105), .none, (.ref 106), (.ref 107), (.ref 108), (.int (338) 0), (.int (95) 0), (.str "/claim/cut.py" 339)]), #[]⟩
noncomputable def o110_2 : Obj := fo (T 14) "_law_whole" "_law_whole" "law_joinload_k16_what_names_stand_for" 268 109
noncomputable def o111_2 : Obj := e1
noncomputable def o112_2 : Obj := e2
noncomputable def o113_2 : Obj := tu #[(.str "_law_found" 344), (.str "_law_due_here" 345)]
noncomputable def o114_2 : Obj := e1
noncomputable def o115_2 : Obj := ft (T 15) "_law_spot" "_law_spot"
noncomputable def o116_2 : Obj := ⟨(.type "code"), none, (.fields #[(.str "_law_spot" 341), (.str "_law_spot" 342), (.str "/claim/cut.py" 343), (.int (97) 0), (.int (2) 0), (.int (0) 0), (.int (0) 0), (.int (3) 0), (.ref 111), (.bool true), (.int (181) 0), (.ref 112), .none, (.ref 113), (.ref 114), (.ref 115), (.int (346) 0), (.int (97) 0), (.str "/claim/cut.py" 347)]), #[]⟩
noncomputable def o117_2 : Obj := fo (T 15) "_law_spot" "_law_spot" "law_joinload_k16_what_names_stand_for" 268 116
noncomputable def o118_2 : Obj := e1
noncomputable def o119_2 : Obj := e2
noncomputable def o120_2 : Obj := tu #[(.str "_law_pieces" 352), (.str "_law_due_here" 353), (.str "_law_weak" 354), (.str "_law_title" 355), (.str "_law_stretches" 356), (.str "_law_told" 357), (.str "_law_name" 358), (.str "_law_sort" 359), (.str "_law_stretch" 360), (.str "_law_offset" 361)]
noncomputable def o121_2 : Obj := e1
noncomputable def o122_2 : Obj := ft (T 16) "_law_due" "_law_due"
noncomputable def o123_2 : Obj := ⟨(.type "code"), none, (.fields #[(.str "_law_due" 349), (.str "_law_due" 350), (.str "/claim/cut.py" 351), (.int (101) 0), (.int (1) 0), (.int (0) 0), (.int (0) 0), (.int (3) 0), (.ref 118), (.bool true), (.int (181) 0), (.ref 119), .none, (.ref 120), (.ref 121), (.ref 122), (.int (362) 0), (.int (101) 0), (.str "/claim/cut.py" 363)]), #[]⟩
noncomputable def o124_2 : Obj := fo (T 16) "_law_due" "_law_due" "law_joinload_k16_what_names_stand_for" 268 123
noncomputable def o125_2 : Obj := e1
noncomputable def o126_2 : Obj := e2
noncomputable def o127_2 : Obj := tu #[(.str "_law_found" 368), (.str "_law_due_here" 369), (.str "_law_name" 370)]
noncomputable def o128_2 : Obj := e1
noncomputable def o129_2 : Obj := ft (T 17) "_law_alike" "_law_alike"
noncomputable def o130_2 : Obj := ⟨(.type "code"), none, (.fields #[(.str "_law_alike" 365), (.str "_law_alike" 366), (.str "/claim/cut.py" 367), (.int (114) 0), (.int (2) 0), (.int (0) 0), (.int (0) 0), (.int (3) 0), (.ref 125), (.bool true), (.int (181) 0), (.ref 126), .none, (.ref 127), (.ref 128), (.ref 129), (.int (371) 0), (.int (114) 0), (.str "/claim/cut.py" 372)]), #[]⟩
noncomputable def o131_2 : Obj := fo (T 17) "_law_alike" "_law_alike" "law_joinload_k16_what_names_stand_for" 268 130
noncomputable def d1_0 (P : Params) (r : List (Nat × Obj)) : List (Nat × Obj) := (3, o3_2 P) :: (12, o12_2) :: (15, o15_2) :: (16, o16_2) :: (17, o17_2 P) :: (18, o18_2) :: (19, o19_2) :: (20, o20_2) :: (21, o21_2) :: (22, o22_2) :: (23, o23_2 P) :: (24, o24_2) :: (25, o25_2) :: (26, o26_2) :: (27, o27_2) :: (28, o28_2) :: (29, o29_2) :: (30, o30_2 P) :: (31, o31_2) :: (32, o32_2) :: (33, o33_2) :: (34, o34_2) :: (35, o35_2) :: (36, o36_2) :: r
noncomputable def d1_1 (P : Params) (r : List (Nat × Obj)) : List (Nat × Obj) := (37, o37_2) :: (38, o38_2) :: (39, o39_2) :: (40, o40_2) :: (41, o41_2) :: (42, o42_2) :: (43, o43_2 P) :: (44, o44_2) :: (45, o45_2) :: (46, o46_2) :: (47, o47_2) :: (48, o48_2) :: (49, o49_2) :: (50, o50_2) :: (51, o51_2) :: (52, o52_2) :: (53, o53_2) :: (54, o54_2) :: (55, o55_2) :: (56, o56_2) :: (57, o57_2) :: (58, o58_2) :: (59, o59_2) :: (60, o60_2) :: r
noncomputable def d1_2 (P : Params) (r : List (Nat × Obj)) : List (Nat × Obj) := (61, o61_2) :: (62, o62_2) :: (63, o63_2) :: (64, o64_2) :: (65, o65_2) :: (66, o66_2) :: (67, o67_2) :: (68, o68_2) :: (69, o69_2) :: (70, o70_2) :: (71, o71_2) :: (72, o72_2) :: (73, o73_2) :: (74, o74_2) :: (75, o75_2) :: (76, o76_2) :: (77, o77_2) :: (78, o78_2) :: (79, o79_2) :: (80, o80_2) :: (81, o81_2) :: (82, o82_2) :: (83, o83_2) :: (84, o84_2) :: r
noncomputable def d1_3 (P : Params) (r : List (Nat × Obj)) : List (Nat × Obj) := (85, o85_2) :: (86, o86_2) :: (87, o87_2) :: (88, o88_2) :: (89, o89_2) :: (90, o90_2) :: (91, o91_2) :: (92, o92_2) :: (93, o93_2) :: (94, o94_2) :: (95, o95_2) :: (96, o96_2) :: (97, o97_2) :: (98, o98_2) :: (99, o99_2) :: (100, o100_2) :: (101, o101_2) :: (102, o102_2) :: (103, o103_2) :: (104, o104_2) :: (105, o105_2) :: (106, o106_2) :: (107, o107_2) :: (108, o108_2) :: r
noncomputable def d1_4 (P : Params) (r : List (Nat × Obj)) : List (Nat × Obj) := (109, o109_2) :: (110, o110_2) :: (111, o111_2) :: (112, o112_2) :: (113, o113_2) :: (114, o114_2) :: (115, o115_2) :: (116, o116_2) :: (117, o117_2) :: (118, o118_2) :: (119, o119_2) :: (120, o120_2) :: (121, o121_2) :: (122, o122_2) :: (123, o123_2) :: (124, o124_2) :: (125, o125_2) :: (126, o126_2) :: (127, o127_2) :: (128, o128_2) :: (129, o129_2) :: (130, o130_2) :: (131, o131_2) :: r
noncomputable def T1 (P : Params) : BT := mg 14 (T0 P) (d1_0 P (d1_1 P (d1_2 P (d1_3 P (d1_4 P ([]))))))
noncomputable def S1T (w : World) : OsState → SharedT := sT (T1 w.params) 132 374
noncomputable def L0 : List Stmt := My.top 0 :: My.top 1 :: My.top 2 :: My.top 3 :: My.top 4 :: My.top 5 :: My.top 6 :: My.top 7 :: My.top 8 :: My.top 9 :: My.top 10 :: My.top 11 :: My.top 12 :: My.top 13 :: My.top 14 :: My.top 15 :: My.top 16 :: My.top 17 :: []
noncomputable def P0 (w : World) : Prop := sR w 877 S0T S1T L0 ⟨0, 0, 0, 0⟩ ⟨114, 0, 120, 15⟩
noncomputable def g3_3 (P : Params) : List DictEntry := g3_2 P ++ [k P "law" 379 (.ref 136)]
noncomputable def o3_3 (P : Params) : Obj := ⟨(.type "dict"), none, .dict (g3_3 P).toArray 25, #[]⟩
noncomputable def o12_3 : Obj := nf #[(.int (2) 0), (.int (0) 0), (.ref 20), (.int (4) 0), (.int (0) 0), (.ref 33), (.int (12) 0), (.int (0) 0), (.ref 52), (.int (20) 0), (.int (0) 0), (.ref 57), (.int (29) 0), (.int (0) 0), (.ref 64), (.int (36) 0), (.int (0) 0), (.ref 71), (.int (40) 0), (.int (0) 0), (.ref 78), (.int (53) 0), (.int (0) 0), (.ref 85), (.int (64) 0), (.int (0) 0), (.ref 90), (.int (74) 0), (.int (0) 0), (.ref 97), (.int (92) 0), (.int (0) 0), (.ref 102), (.int (95) 0), (.int (0) 0), (.ref 109), (.int (97) 0), (.int (0) 0), (.ref 116), (.int (101) 0), (.int (0) 0), (.ref 123), (.int (114) 0), (.int (0) 0), (.ref 130), (.int (121) 0), (.int (0) 0), (.ref 135)]
noncomputable def o132_3 : Obj := e1
noncomputable def o133_3 : Obj := e2
noncomputable def o134_3 : Obj := ft (T 18) "law" "law"
noncomputable def o135_3 : Obj := co "law" "law" 374 121 1 3 132 true 133 (.ref 134) 377
noncomputable def o136_3 : Obj := fo (T 18) "law" "law" "law_joinload_k16_what_names_stand_for" 268 135
noncomputable def d2_0 (P : Params) (r : List (Nat × Obj)) : List (Nat × Obj) := (3, o3_3 P) :: (12, o12_3) :: (132, o132_3) :: (133, o133_3) :: (134, o134_3) :: (135, o135_3) :: (136, o136_3) :: r
noncomputable def T2 (P : Params) : BT := mg 14 (T1 P) (d2_0 P ([]))
noncomputable def S2T (w : World) : OsState → SharedT := sT (T2 w.params) 137 380
noncomputable def L1 : List Stmt := My.top 18 :: []
noncomputable def P1 (w : World) : Prop := sR w 27 S1T S2T L1 ⟨114, 0, 120, 15⟩ ⟨121, 0, 133, 90⟩
noncomputable def h_0 (P : Params) (r : List Obj) : List Obj := boot_o_0 P :: boot_o_1 P :: boot_o_2 P :: o3_3 P :: boot_o_4 P :: boot_o_5 P :: boot_o_6 P :: boot_o_7 P :: boot_o_8 P :: boot_o_9 P :: boot_o_10 P :: o11_0 :: o12_3 :: o13_0 :: o14_0 :: o15_2 :: o16_2 :: o17_2 P :: o18_2 :: o19_2 :: o20_2 :: o21_2 :: o22_2 :: o23_2 P :: r
noncomputable def h_1 (P : Params) (r : List Obj) : List Obj := o24_2 :: o25_2 :: o26_2 :: o27_2 :: o28_2 :: o29_2 :: o30_2 P :: o31_2 :: o32_2 :: o33_2 :: o34_2 :: o35_2 :: o36_2 :: o37_2 :: o38_2 :: o39_2 :: o40_2 :: o41_2 :: o42_2 :: o43_2 P :: o44_2 :: o45_2 :: o46_2 :: o47_2 :: r
noncomputable def h_2 (P : Params) (r : List Obj) : List Obj := o48_2 :: o49_2 :: o50_2 :: o51_2 :: o52_2 :: o53_2 :: o54_2 :: o55_2 :: o56_2 :: o57_2 :: o58_2 :: o59_2 :: o60_2 :: o61_2 :: o62_2 :: o63_2 :: o64_2 :: o65_2 :: o66_2 :: o67_2 :: o68_2 :: o69_2 :: o70_2 :: o71_2 :: r
noncomputable def h_3 (P : Params) (r : List Obj) : List Obj := o72_2 :: o73_2 :: o74_2 :: o75_2 :: o76_2 :: o77_2 :: o78_2 :: o79_2 :: o80_2 :: o81_2 :: o82_2 :: o83_2 :: o84_2 :: o85_2 :: o86_2 :: o87_2 :: o88_2 :: o89_2 :: o90_2 :: o91_2 :: o92_2 :: o93_2 :: o94_2 :: o95_2 :: r
noncomputable def h_4 (P : Params) (r : List Obj) : List Obj := o96_2 :: o97_2 :: o98_2 :: o99_2 :: o100_2 :: o101_2 :: o102_2 :: o103_2 :: o104_2 :: o105_2 :: o106_2 :: o107_2 :: o108_2 :: o109_2 :: o110_2 :: o111_2 :: o112_2 :: o113_2 :: o114_2 :: o115_2 :: o116_2 :: o117_2 :: o118_2 :: o119_2 :: r
noncomputable def h_5 (P : Params) (r : List Obj) : List Obj := o120_2 :: o121_2 :: o122_2 :: o123_2 :: o124_2 :: o125_2 :: o126_2 :: o127_2 :: o128_2 :: o129_2 :: o130_2 :: o131_2 :: o132_3 :: o133_3 :: o134_3 :: o135_3 :: o136_3 :: r
noncomputable def Hf (P : Params) : Heap := ⟨⟨h_0 P (h_1 P (h_2 P (h_3 P (h_4 P (h_5 P ([]))))))⟩, li⟩
noncomputable def Sf (w : World) (os : OsState) : Shared := ⟨Hf w.params, ⟨[]⟩, boot_drawn, 380, os⟩
noncomputable def Fin (w : World) : Prop := (fun os => topRun treeTable pw w 11 an 2 (S2T w os).abs ⟨doneF .next, cE, ⟨121, 0, 133, 90⟩, B⟩) = fun os => some (Sf w os)
noncomputable def q : Program := { pw with main := { pw.main with body := My.top 1 :: My.top 2 :: My.top 4 :: My.top 5 :: My.top 6 :: My.top 8 :: My.top 9 :: My.top 10 :: My.top 11 :: My.top 12 :: My.top 13 :: My.top 14 :: My.top 15 :: My.top 16 :: My.top 17 :: My.top 18 :: [] } }
noncomputable def K (P : Params) : Frag := (nat_lit 2, boot_o_2 P) :: (nat_lit 3, o3_3 P) :: (nat_lit 4, boot_o_4 P) :: (nat_lit 6, boot_o_6 P) :: (nat_lit 15, o15_2) :: (nat_lit 22, o22_2) :: (nat_lit 23, o23_2 P) :: (nat_lit 24, o24_2) :: (nat_lit 25, o25_2) :: (nat_lit 28, o28_2) :: (nat_lit 35, o35_2) :: (nat_lit 37, o37_2) :: (nat_lit 38, o38_2) :: (nat_lit 40, o40_2) :: (nat_lit 41, o41_2) :: (nat_lit 42, o42_2) :: (nat_lit 43, o43_2 P) :: (nat_lit 44, o44_2) :: (nat_lit 47, o47_2) :: (nat_lit 49, o49_2) :: (nat_lit 50, o50_2) :: (nat_lit 52, o52_2) :: (nat_lit 53, o53_2) :: (nat_lit 54, o54_2) :: (nat_lit 57, o57_2) :: (nat_lit 58, o58_2) :: (nat_lit 59, o59_2) :: (nat_lit 61, o61_2) :: (nat_lit 62, o62_2) :: (nat_lit 64, o64_2) :: (nat_lit 65, o65_2) :: (nat_lit 66, o66_2) :: (nat_lit 68, o68_2) :: (nat_lit 69, o69_2) :: (nat_lit 71, o71_2) :: (nat_lit 72, o72_2) :: (nat_lit 73, o73_2) :: (nat_lit 75, o75_2) :: (nat_lit 76, o76_2) :: (nat_lit 78, o78_2) :: (nat_lit 79, o79_2) :: (nat_lit 80, o80_2) :: (nat_lit 82, o82_2) :: (nat_lit 83, o83_2) :: (nat_lit 85, o85_2) :: (nat_lit 86, o86_2) :: (nat_lit 87, o87_2) :: (nat_lit 90, o90_2) :: (nat_lit 91, o91_2) :: (nat_lit 92, o92_2) :: (nat_lit 94, o94_2) :: (nat_lit 95, o95_2) :: (nat_lit 97, o97_2) :: (nat_lit 98, o98_2) :: (nat_lit 99, o99_2) :: (nat_lit 102, o102_2) :: (nat_lit 103, o103_2) :: (nat_lit 104, o104_2) :: (nat_lit 106, o106_2) :: (nat_lit 107, o107_2) :: (nat_lit 109, o109_2) :: (nat_lit 110, o110_2) :: (nat_lit 111, o111_2) :: (nat_lit 113, o113_2) :: (nat_lit 114, o114_2) :: (nat_lit 116, o116_2) :: (nat_lit 117, o117_2) :: (nat_lit 118, o118_2) :: (nat_lit 120, o120_2) :: (nat_lit 121, o121_2) :: (nat_lit 123, o123_2) :: (nat_lit 124, o124_2) :: (nat_lit 125, o125_2) :: (nat_lit 127, o127_2) :: (nat_lit 128, o128_2) :: (nat_lit 130, o130_2) :: (nat_lit 131, o131_2) :: (nat_lit 132, o132_3) :: (nat_lit 135, o135_3) :: (nat_lit 136, o136_3) :: []
noncomputable def f_0 (P : Params) (r : List (Nat × Obj)) : List (Nat × Obj) := (2, boot_o_2 P) :: (3, o3_3 P) :: (4, boot_o_4 P) :: (6, boot_o_6 P) :: (15, o15_2) :: (22, o22_2) :: (23, o23_2 P) :: (24, o24_2) :: (25, o25_2) :: (28, o28_2) :: (35, o35_2) :: (37, o37_2) :: (38, o38_2) :: (40, o40_2) :: (41, o41_2) :: (42, o42_2) :: (43, o43_2 P) :: (44, o44_2) :: (47, o47_2) :: (49, o49_2) :: (50, o50_2) :: (52, o52_2) :: (53, o53_2) :: (54, o54_2) :: r
noncomputable def f_1 (P : Params) (r : List (Nat × Obj)) : List (Nat × Obj) := (57, o57_2) :: (58, o58_2) :: (59, o59_2) :: (61, o61_2) :: (62, o62_2) :: (64, o64_2) :: (65, o65_2) :: (66, o66_2) :: (68, o68_2) :: (69, o69_2) :: (71, o71_2) :: (72, o72_2) :: (73, o73_2) :: (75, o75_2) :: (76, o76_2) :: (78, o78_2) :: (79, o79_2) :: (80, o80_2) :: (82, o82_2) :: (83, o83_2) :: (85, o85_2) :: (86, o86_2) :: (87, o87_2) :: (90, o90_2) :: r
noncomputable def f_2 (P : Params) (r : List (Nat × Obj)) : List (Nat × Obj) := (91, o91_2) :: (92, o92_2) :: (94, o94_2) :: (95, o95_2) :: (97, o97_2) :: (98, o98_2) :: (99, o99_2) :: (102, o102_2) :: (103, o103_2) :: (104, o104_2) :: (106, o106_2) :: (107, o107_2) :: (109, o109_2) :: (110, o110_2) :: (111, o111_2) :: (113, o113_2) :: (114, o114_2) :: (116, o116_2) :: (117, o117_2) :: (118, o118_2) :: (120, o120_2) :: (121, o121_2) :: (123, o123_2) :: (124, o124_2) :: r
noncomputable def f_3 (P : Params) (r : List (Nat × Obj)) : List (Nat × Obj) := (125, o125_2) :: (127, o127_2) :: (128, o128_2) :: (130, o130_2) :: (131, o131_2) :: (132, o132_3) :: (135, o135_3) :: (136, o136_3) :: r
noncomputable def K2 (P : Params) : Frag := f_0 P (f_1 P (f_2 P (f_3 P ([]))))
noncomputable def as : List Addr := nat_lit 2 :: nat_lit 3 :: nat_lit 4 :: nat_lit 6 :: nat_lit 15 :: nat_lit 22 :: nat_lit 23 :: nat_lit 24 :: nat_lit 25 :: nat_lit 28 :: nat_lit 35 :: nat_lit 37 :: nat_lit 38 :: nat_lit 40 :: nat_lit 41 :: nat_lit 42 :: nat_lit 43 :: nat_lit 44 :: nat_lit 47 :: nat_lit 49 :: nat_lit 50 :: nat_lit 52 :: nat_lit 53 :: nat_lit 54 :: nat_lit 57 :: nat_lit 58 :: nat_lit 59 :: nat_lit 61 :: nat_lit 62 :: nat_lit 64 :: nat_lit 65 :: nat_lit 66 :: nat_lit 68 :: nat_lit 69 :: nat_lit 71 :: nat_lit 72 :: nat_lit 73 :: nat_lit 75 :: nat_lit 76 :: nat_lit 78 :: nat_lit 79 :: nat_lit 80 :: nat_lit 82 :: nat_lit 83 :: nat_lit 85 :: nat_lit 86 :: nat_lit 87 :: nat_lit 90 :: nat_lit 91 :: nat_lit 92 :: nat_lit 94 :: nat_lit 95 :: nat_lit 97 :: nat_lit 98 :: nat_lit 99 :: nat_lit 102 :: nat_lit 103 :: nat_lit 104 :: nat_lit 106 :: nat_lit 107 :: nat_lit 109 :: nat_lit 110 :: nat_lit 111 :: nat_lit 113 :: nat_lit 114 :: nat_lit 116 :: nat_lit 117 :: nat_lit 118 :: nat_lit 120 :: nat_lit 121 :: nat_lit 123 :: nat_lit 124 :: nat_lit 125 :: nat_lit 127 :: nat_lit 128 :: nat_lit 130 :: nat_lit 131 :: nat_lit 132 :: nat_lit 135 :: nat_lit 136 :: []
noncomputable def H : Hook := kHook K as (fun _ => by kernel_rfl)
noncomputable abbrev R : WRecords := RowW.records (OpenRow.toRowW (OpenLaw.row PySem.Challenge.rw_joinload_k16_what_names_stand_for))
noncomputable abbrev Xt (s : Shared) : Bool := xlAt q [] s && recOk R s
noncomputable def Size (w : World) : Prop := ((boot_heap w.params).isNs mainGlobals && (⟨[]⟩ : Array GenState).size == 0, (boot_heap w.params).objs.size, (boot_heap w.params).nsMap mainGlobals "__annotations__") = (true, 11, an)
noncomputable def LA (w : World) : Prop := (fun os => staticsOk (importedModules pw.main.body) (boot_heap w.params) (Hf w.params) && namesBound pw (Hf w.params) && gensDone (Sf w os) && laidKept (boot_heap w.params) (Hf w.params)) = fun _ => true
noncomputable def Ls1 (w : World) : Prop := (fun os => seen ((recsOf q).map (·.name)) (ownsOf q) [] { Sf w os with gens := #[] }) = fun _ => expectedOf q
noncomputable def Ls2 (w : World) : Prop := (fun os => (Sf w os).heap.bltView) = fun _ => bltViewBooted
noncomputable def Ls3 (w : World) : Prop := (fun os => (Sf w os).heap.keysOk (looseW q []) ((recsOf q).map (·.name)) ((litsOf q).map (·.1)) ((clssOf q (looseW q [])).map (·.name)) && (Sf w os).heap.accountedOkI (importedModules pw.main.body) && (Sf w os).heap.isNs mainGlobals && (Sf w os).heap.isNs builtinsNs && tablesOk q (Sf w os).heap && Xt (Sf w os) && (if true then (Sf w os).gens.size == 0 else !leftWithCleanup (Sf w os).gens)) = fun _ => true
noncomputable def Ls4 (w : World) : Prop := (fun os => tabsOk q (Sf w os)) = fun _ => true
noncomputable def Ls5 (w : World) : Prop := (fun os => pinSeenD q (drecsOf q) (Sf w os)) = fun _ => pinGoodD (drecsOf q)
noncomputable def Ls6 (w : World) : Prop := (fun os => plainSeenE q (looseW q []) (Sf w os)) = fun _ => plainGoodE q (looseW q [])
noncomputable def Ls7 (w : World) : Prop := (fun os => plainSeenD q [] (Sf w os)) = fun _ => plainGoodD q []
noncomputable def Ls8 (w : World) : Prop := (fun os => wideSeen q (Sf w os)) = fun _ => wideGood q
noncomputable def Ls9 (w : World) : Prop := (fun os => clsSeenW q [] (Sf w os)) = fun _ => clsGoodW q []
noncomputable def Yk (w : World) : Prop := (fun os => as.map (Sf w os).heap.get?) = fun _ => (K2 w.params).map fun p => some p.2
theorem K_is : K = K2 := by kernel_rfl
theorem Pre_r : Pre = Pre := rfl
theorem Blk_r : Blk = Blk := rfl
theorem P0_r : P0 = P0 := rfl
theorem P1_r : P1 = P1 := rfl
theorem Fin_r : Fin = Fin := rfl
theorem Size_r : Size = Size := rfl
theorem LA_r : LA = LA := rfl
theorem Ls1_r : Ls1 = Ls1 := rfl
theorem Ls2_r : Ls2 = Ls2 := rfl
theorem Ls3_r : Ls3 = Ls3 := rfl
theorem Ls4_r : Ls4 = Ls4 := rfl
theorem Ls5_r : Ls5 = Ls5 := rfl
theorem Ls6_r : Ls6 = Ls6 := rfl
theorem Ls7_r : Ls7 = Ls7 := rfl
theorem Ls8_r : Ls8 = Ls8 := rfl
theorem Ls9_r : Ls9 = Ls9 := rfl
theorem Yk_r : Yk = Yk := rfl
end Hd
name_quick hdPre for Hd.Pre by Hd.Pre_r
name_quick hdBlk for Hd.Blk by Hd.Blk_r
name_quick hdP0 for Hd.P0 by Hd.P0_r
name_quick hdP1 for Hd.P1 by Hd.P1_r
name_quick hdFin for Hd.Fin by Hd.Fin_r
name_quick hdSize for Hd.Size by Hd.Size_r
name_quick hdLA for Hd.LA by Hd.LA_r
name_quick hdLs1 for Hd.Ls1 by Hd.Ls1_r
name_quick hdLs2 for Hd.Ls2 by Hd.Ls2_r
name_quick hdLs3 for Hd.Ls3 by Hd.Ls3_r
name_quick hdLs4 for Hd.Ls4 by Hd.Ls4_r
name_quick hdLs5 for Hd.Ls5 by Hd.Ls5_r
name_quick hdLs6 for Hd.Ls6 by Hd.Ls6_r
name_quick hdLs7 for Hd.Ls7 by Hd.Ls7_r
name_quick hdLs8 for Hd.Ls8 by Hd.Ls8_r
name_quick hdLs9 for Hd.Ls9 by Hd.Ls9_r
name_quick hdYk for Hd.Yk by Hd.Yk_r
namespace Hd
open PySem PySem.W PySem.Calls PyProof.Rows
theorem Pre_h (w : World) : Pre w := by
  rw [show Pre w = PySem.W.Fast.hdPre w from congrFun PySem.W.Fast.hdPre_eq _]
  delta PySem.W.Fast.hdPre PySem.W.Fast.tw7651035101826984186
  kernel_rfl
theorem Blk_h (w : World) : Blk w := by
  rw [show Blk w = PySem.W.Fast.hdBlk w from congrFun PySem.W.Fast.hdBlk_eq _]
  delta PySem.W.Fast.hdBlk PySem.W.Fast.tw10272554187927912860
  kernel_rfl
theorem P0_h (w : World) : P0 w := by
  rw [show P0 w = PySem.W.Fast.hdP0 w from congrFun PySem.W.Fast.hdP0_eq _]
  delta PySem.W.Fast.hdP0 PySem.W.Fast.tw2223480372460268926 PySem.W.Fast.tw16301345103801407739
  kernel_rfl
theorem P1_h (w : World) : P1 w := by
  rw [show P1 w = PySem.W.Fast.hdP1 w from congrFun PySem.W.Fast.hdP1_eq _]
  delta PySem.W.Fast.hdP1 PySem.W.Fast.tw14855786421978465553 PySem.W.Fast.tw16301345103801407739
  kernel_rfl
theorem Fin_h (w : World) : Fin w := by
  rw [show Fin w = PySem.W.Fast.hdFin w from congrFun PySem.W.Fast.hdFin_eq _]
  delta PySem.W.Fast.hdFin PySem.W.Fast.tw4976735305809376593
  kernel_rfl
theorem Size_h (w : World) : Size w := by
  rw [show Size w = PySem.W.Fast.hdSize w from congrFun PySem.W.Fast.hdSize_eq _]
  delta PySem.W.Fast.hdSize PySem.W.Fast.tw14461627914784175761
  kernel_rfl
theorem LA_h (w : World) : LA w := by
  rw [show LA w = PySem.W.Fast.hdLA w from congrFun PySem.W.Fast.hdLA_eq _]
  delta PySem.W.Fast.hdLA PySem.W.Fast.tw11134583137455730433
  kernel_rfl
theorem Ls1_h (w : World) : Ls1 w := by
  rw [show Ls1 w = PySem.W.Fast.hdLs1 w from congrFun PySem.W.Fast.hdLs1_eq _]
  delta PySem.W.Fast.hdLs1 PySem.W.Fast.tw14098396552713008135
  kernel_rfl
theorem Ls2_h (w : World) : Ls2 w := by
  rw [show Ls2 w = PySem.W.Fast.hdLs2 w from congrFun PySem.W.Fast.hdLs2_eq _]
  delta PySem.W.Fast.hdLs2 PySem.W.Fast.tw6547580189001637342
  kernel_rfl
theorem Ls3_h (w : World) : Ls3 w := by
  rw [show Ls3 w = PySem.W.Fast.hdLs3 w from congrFun PySem.W.Fast.hdLs3_eq _]
  delta PySem.W.Fast.hdLs3 PySem.W.Fast.tw10934468223134025866
  kernel_rfl
theorem Ls4_h (w : World) : Ls4 w := by
  rw [show Ls4 w = PySem.W.Fast.hdLs4 w from congrFun PySem.W.Fast.hdLs4_eq _]
  delta PySem.W.Fast.hdLs4 PySem.W.Fast.tw13894289833044730176
  kernel_rfl
theorem Ls5_h (w : World) : Ls5 w := by
  rw [show Ls5 w = PySem.W.Fast.hdLs5 w from congrFun PySem.W.Fast.hdLs5_eq _]
  delta PySem.W.Fast.hdLs5 PySem.W.Fast.tw11162159950934395656
  kernel_rfl
theorem Ls6_h (w : World) : Ls6 w := by
  rw [show Ls6 w = PySem.W.Fast.hdLs6 w from congrFun PySem.W.Fast.hdLs6_eq _]
  delta PySem.W.Fast.hdLs6 PySem.W.Fast.tw9014929701734557122
  kernel_rfl
theorem Ls7_h (w : World) : Ls7 w := by
  rw [show Ls7 w = PySem.W.Fast.hdLs7 w from congrFun PySem.W.Fast.hdLs7_eq _]
  delta PySem.W.Fast.hdLs7 PySem.W.Fast.tw16695146034332369646
  kernel_rfl
theorem Ls8_h (w : World) : Ls8 w := by
  rw [show Ls8 w = PySem.W.Fast.hdLs8 w from congrFun PySem.W.Fast.hdLs8_eq _]
  delta PySem.W.Fast.hdLs8 PySem.W.Fast.tw13045354483572663336
  kernel_rfl
theorem Ls9_h (w : World) : Ls9 w := by
  rw [show Ls9 w = PySem.W.Fast.hdLs9 w from congrFun PySem.W.Fast.hdLs9_eq _]
  delta PySem.W.Fast.hdLs9 PySem.W.Fast.tw9459536174771691377
  kernel_rfl
theorem Yk_h (w : World) : Yk w := by
  rw [show Yk w = PySem.W.Fast.hdYk w from congrFun PySem.W.Fast.hdYk_eq _]
  delta PySem.W.Fast.hdYk PySem.W.Fast.tw3491827284470035837
  kernel_rfl
noncomputable def R1 : List Stmt := L1 ++ []
noncomputable def R0 : List Stmt := L0 ++ R1
theorem bd_is : bd = R0 := by kernel_rfl
theorem rest_h (w : World) (os : OsState) : topRun treeTable pw w 11 an (877 + (27 + 2)) (S0T w os).abs (restOf R0 en cE ⟨0, 0, 0, 0⟩ B) = some (Sf w os) :=
  (piece_app (l := L0) (segRun_of (congrFun (P0_h w) os)) (piece_app (l := L1) (segRun_of (congrFun (P1_h w) os)) (congrFun (Fin_h w) os)))
theorem run_h (w : World) (os : OsState) : topRun treeTable pw w 11 an (12 + (1 + (877 + (27 + 2)))) (S0 w os) (topStub pw) = some (Sf w os) :=
  go_top (congrFun (Pre_h w) os) (piece_block (congrFun (Blk_h w) os) (by
    rw [show restOf bd en cE ⟨0, 0, 0, 0⟩ B = restOf R0 en cE ⟨0, 0, 0, 0⟩ B from congrArg (fun l => restOf l en cE ⟨0, 0, 0, 0⟩ B) bd_is]
    exact rest_h w os))
theorem Yk_k (w : World) (os : OsState) : Hook.obs H (Sf w os) = Hook.val H w := by
  show as.map (Sf w os).heap.get? = (K w.params).map fun p => some p.2
  rw [K_is]; exact congrFun (Yk_h w) os
theorem left_h : LeftO pw q [] Xt (Hook.obs H) (Hook.val H) 1930 :=
  LeftO.of_pieces (H₀ := boot_heap) (H₁ := Hf) (m₀ := 11) (ann := an) (boot_open rfl rfl (fun _ => rfl)) Size_h run_h (by decide +kernel) fun w => funext fun os =>
    looks_pair (congrFun (LA_h w) os) (looks_pair
      (show openSeen q [] (importedModules pw.main.body) Xt true (Sf w os) = openGood q [] from
        looks_pair (congrFun (Ls1_h w) os) (looks_pair (congrFun (Ls2_h w) os) (looks_pair (congrFun (Ls3_h w) os) (looks_pair (congrFun (Ls4_h w) os) (looks_pair (congrFun (Ls5_h w) os) (looks_pair (congrFun (Ls6_h w) os) (looks_pair (congrFun (Ls7_h w) os) (looks_pair (congrFun (Ls8_h w) os) (congrFun (Ls9_h w) os)))))))))
      (Yk_k w os))
end Hd
open PySem PySem.W PyProof.Rows
set_option maxRecDepth 100000 in
set_option maxHeartbeats 0 in
theorem PySem.Challenge.cw_joinload_k16_what_names_stand_for_holds : PySem.Challenge.rw_joinload_k16_what_names_stand_for.Holds := by
  w_on; o_law
  refine holds_open (q := Hd.q) (loose := []) (Xt := Hd.Xt) (XP := XL Hd.q []) (Yf := Hook.obs Hd.H) (Ya := Hook.val Hd.H) (YP := InK Hd.K) Hd.left_h (Hook.of Hd.H) (Hook.keeps Hd.H) (fun s e => xl_of s (Bool.and_eq_true_iff.mp e).1) XL.keeps (by rfl) (by rfl) (by rfl) (fun s e => recFacts_of (Bool.and_eq_true_iff.mp e).2) (by rfl) (by first | assumption | decide +kernel) (by decide +kernel) ⟨rfl, rfl, rfl, rfl, rfl, by decide +kernel⟩ ?hw ?hc
  (case hw => w_witness2)
  k_fill
  refine My.walk (l := PySem.Challenge.rw_joinload_k16_what_names_stand_for) (K := Hd.K) (tb_names_of := 48) rfl rfl (fun w h Y => Y) ?hT ?F
  case hT =>
    intro w h lo mean mg mb KX TP T hT
    simp only [List.mem_cons, List.not_mem_nil, or_false] at hT
    rcases hT with rfl
    · refine' L2.tab_in (x := "names_of") (y := "names_of") (st := My.s_names_of) (T := 48) KX TP (by kernel_rfl) _ _ _
      all_goals first | exact ⟨_, _, _, _, _, _, _, _, _, by k_is, by k_is, by k_is, by kernel_rfl⟩ | k_is | kernel_rfl | skip
  case F =>
    intro w mg fa h KX G hmg
    refine' My.all_mk (tb_names_of := 48) KX G hmg _ _ _ _ _ _ _ _ _ _ _ _ _ _ _ _ _ _ _ _ _ _ _ _ _ _ _ _ _ _ _ _ _ _ _ _ _ _ _ _ _
    all_goals first | exact ⟨_, _, _, _, _, _, _, _, _, by k_is, by k_is, by k_is⟩ | exact ⟨_, _, _, _, _, _, _, _, _, by k_is, by k_is, by k_is, by kernel_rfl⟩ | exact ⟨_, by decide, by decide, by k_is⟩ | k_is | skip
#print axioms PySem.Challenge.cw_joinload_k16_what_names_stand_for_holds
