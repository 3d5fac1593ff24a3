import PyProof.Rows.All
import Wide.All
import OpenK.AllK
import Wide.FinOn
import Lean
import PyProof.EqAt
import PyProof.EqKinds
import PyProof.TupleCall
import PyProof.StationsW
import PyProof.ExcAttrAll.ValueError
import KE.KIsAll
import PyProof.RulesAs
import PyProof.NsDelKeeps
import PyProof.FString
import PyProof.FString4
import PyProof.Rows.FStr
import PyProof.Rows.FStrParts
import PyProof.StrCalls2
import PyProof.StrLawsRepr
import PyProof.StrLawsJoin
import PyProof.StrLaws
import PyProof.Rows.ReprOcc
import PyProof.ExcInit
import PyProof.InstStoreFacts
import KE.KDictOf
import PyProof.AttrMissHeap
import PyProof.AttrMissSeq
import PyProof.WalksS
import PyProof.Walks
import PyProof.Seq
import PyProof.DictList
import PyProof.DictUpdate
import PyProof.MakeMany
import PyProof.Rows.SetFrom
import PyProof.ZipIter
import PyProof.Rows.TupDisplay
import PyProof.EnumFor
import PyProof.EnumMake
import PyProof.EnumStmt
import PyProof.SeqI3
import PyProof.Rows.SumAny
import KE.KDictIter
import PyProof.DictWalks
import PySem.Challenge.RW_joinload_k45_loaded_words
set_option Elab.async false
set_option linter.all false
set_option maxRecDepth 100000
set_option genSizeOfSpec false
/-! THE HAND LAYER, for ints, bools, texts, own classes, LISTS and tuples (index, slices, in, append, pop ..), calls, loops. Paste it whole ahead of your own text; what your proof does not reach may be deleted. -/
namespace L2
open PySem PySem.Spec PyProof.Rows

noncomputable abbrev Key := Sum Int Str
noncomputable def keyIs : Key → Value → Bool
  | .inl k, v => Value.isInt k v
  | .inr x, v => Value.isStrOf x v
noncomputable def keyH (w : World) : Key → Int
  | .inl k => hashInt k
  | .inr x => hashStr w x
theorem keyIs_shape : ∀ {k : Key} {v : Value}, keyIs k v = true → (∃ i t, k = Sum.inl i ∧ v = Value.int i t) ∨ (∃ x t, k = Sum.inr x ∧ v = Value.str x t)
  | .inl i, v, h => by
    obtain ⟨t, e⟩ := Value.isInt_shape (k := i) (v := v) h
    exact .inl ⟨i, t, rfl, e⟩
  | .inr x, v, h => by
    obtain ⟨t, e⟩ := Value.isStrOf_shape (x := x) (v := v) h
    exact .inr ⟨x, t, rfl, e⟩
theorem keyIs_int (i : Int) (t : Tok) : keyIs (.inl i) (.int i t) = true := by simp [keyIs, Value.isInt]
theorem keyIs_str (x : Str) (t : Tok) : keyIs (.inr x) (.str x t) = true := by simp [keyIs, Value.isStrOf]
theorem key_ll (a b : Int) : decide ((Sum.inl a : Key) = Sum.inl b) = (a == b) := by
  by_cases e : a = b
  · subst e; simp
  · have h : ¬ (Sum.inl a : Key) = Sum.inl b := fun q => e (Sum.inl.inj q)
    rw [decide_eq_false h]
    exact (beq_eq_false_iff_ne.mpr e).symm
theorem key_rr (a b : Str) : decide ((Sum.inr a : Key) = Sum.inr b) = decide (a = b) := by
  by_cases e : a = b
  · subst e; simp
  · have h : ¬ (Sum.inr a : Key) = Sum.inr b := fun q => e (Sum.inr.inj q)
    rw [decide_eq_false h, decide_eq_false e]
theorem key_lr (a : Int) (b : Str) : decide ((Sum.inl a : Key) = Sum.inr b) = false := decide_eq_false (fun q => nomatch q)
theorem key_rl (a : Str) (b : Int) : decide ((Sum.inr a : Key) = Sum.inl b) = false := decide_eq_false (fun q => nomatch q)

noncomputable def mixKind (prog : Program) (w : World) : PySem.KeyKind prog w Key where
  is := keyIs
  hash := keyH w
  inj := fun v a b ha hb => by
    rcases keyIs_shape ha with ⟨i, t, rfl, rfl⟩ | ⟨x, t, rfl, rfl⟩
    · rcases keyIs_shape hb with ⟨j, u, rfl, e⟩ | ⟨y, u, rfl, e⟩
      · injection e with e1 _; rw [e1]
      · exact nomatch e
    · rcases keyIs_shape hb with ⟨j, u, rfl, e⟩ | ⟨y, u, rfl, e⟩
      · exact nomatch e
      · injection e with e1 _; rw [e1]
  byValue := fun k v h => by
    rcases keyIs_shape h with ⟨i, t, rfl, rfl⟩ | ⟨x, t, rfl, rfl⟩ <;> rfl
  pyHash := fun hv h => by
    rcases keyIs_shape hv with ⟨i, t, rfl, rfl⟩ | ⟨x, t, rfl, rfl⟩
    · exact wpAny_pyHash_int h
    · exact wpAny_pyHash_str h
  eqBool := fun hu hv h => by
    rcases keyIs_shape hu with ⟨i, t, rfl, rfl⟩ | ⟨x, t, rfl, rfl⟩
    · rcases keyIs_shape hv with ⟨j, u, rfl, rfl⟩ | ⟨y, u, rfl, rfl⟩
      · rw [key_ll] at h; exact wpAny_eqBool_int h
      · rw [key_lr] at h; exact SeqAt.EqAt.int_str i t y u _ _ _ _ h
    · rcases keyIs_shape hv with ⟨j, u, rfl, rfl⟩ | ⟨y, u, rfl, rfl⟩
      · rw [key_rl] at h; exact SeqAt.EqAt.str_int x t j u _ _ _ _ h
      · rw [key_rr] at h; exact wpAny_eqBool_str h
  «strs» := fun k x t v h => by
    rcases keyIs_shape h with ⟨i, u, rfl, e⟩ | ⟨y, u, rfl, e⟩
    · exact nomatch e
    · injection e with e1 _
      subst e1
      cases v <;> rfl

theorem mixKind_int (prog : Program) (w : World) (i : Int) (t : Tok) : (mixKind prog w).is (.inl i) (.int i t) = true := keyIs_int i t
theorem mixKind_str (prog : Program) (w : World) (x : Str) (t : Tok) : (mixKind prog w).is (.inr x) (.str x t) = true := keyIs_str x t
end L2

namespace L2
open PySem PySem.Spec PyProof.Rows

inductive V where
  | non | bl (b : Bool) | int (i : Int) | str (x : Str) | byt (b : Array UInt8) | flt (b : UInt64) | ref (a : Addr) | ty (n : String)
  deriving DecidableEq

noncomputable def RelV : V → Value → Prop
  | .non, u => u = Value.none
  | .bl b, u => u = Value.bool b
  | .int i, u => ∃ t, u = Value.int i t
  | .str x, u => ∃ t, u = Value.str x t
  | .byt b, u => ∃ t, u = Value.bytes b t
  | .flt b, u => ∃ t, u = Value.float b t
  | .ref a, u => u = Value.ref a
  | .ty n, u => u = Value.type n

noncomputable abbrev Vals : List V → List Value → Prop := Paired RelV
theorem Vals.length {xs : List V} {us : List Value} (r : Vals xs us) : xs.length = us.length := Paired.length r
theorem Vals.get : ∀ {xs : List V} {us : List Value} {i : Nat} {x : V}, Vals xs us → xs[i]? = some x → ∃ u, us[i]? = some u ∧ RelV x u
  | _, _, _, _, .nil, e => by simp at e
  | _, _, 0, _, .cons r _, e => by simp at e; subst e; exact ⟨_, rfl, r⟩
  | _, _, i + 1, x, .cons _ t, e => by
    obtain ⟨u, h1, h2⟩ := Vals.get (i := i) (x := x) t (by simpa using e)
    exact ⟨u, by simpa using h1, h2⟩
theorem Vals.append : ∀ {xs ys : List V} {us ws : List Value}, Vals xs us → Vals ys ws → Vals (xs ++ ys) (us ++ ws)
  | _, _, _, _, .nil, s => s
  | _, _, _, _, .cons r t, s => .cons r (Vals.append t s)
theorem Vals.take : ∀ {xs : List V} {us : List Value} (n : Nat), Vals xs us → Vals (xs.take n) (us.take n)
  | _, _, 0, _ => .nil
  | _, _, _ + 1, .nil => .nil
  | _, _, n + 1, .cons r t => .cons r (Vals.take n t)
theorem Vals.drop : ∀ {xs : List V} {us : List Value} (n : Nat), Vals xs us → Vals (xs.drop n) (us.drop n)
  | _, _, 0, r => r
  | _, _, _ + 1, .nil => .nil
  | _, _, n + 1, .cons _ t => Vals.drop n t

noncomputable def RelO : Option V → Option Value → Prop
  | some v, some u => RelV v u
  | none, none => True
  | _, _ => False
noncomputable def KV {κ : Type} : List (κ × V) → List (κ × Value) → Prop := Paired fun (p : κ × V) (q : κ × Value) => p.1 = q.1 ∧ RelV p.2 q.2

noncomputable def kV : Key → V
  | .inl i => .int i
  | .inr x => .str x

inductive HO where
    | lst (xs : List V)
    | tup (xs : List V)
    | dK (kvs : List (Key × V)) | dT (kvs : List (List Key × V))
    | set (S : Int → Bool) (n : Nat)
    | ins (C dx : Addr) (fs : List (Str × V))
    | own (x : Addr)
    | xd (fs : List (Str × V))
    | met (f x : Addr)
    | rng (lo hi : Int)
    | frz (o : Obj) (u : HO)
    | tbl (ps : Array Value)
    | ext (φ : Heap → Prop)

noncomputable abbrev Hp := Addr → Option HO
noncomputable def upd (H : Hp) (a : Addr) (o : HO) : Hp := fun b => if b = a then some o else H b
theorem upd_same {H : Hp} {a : Addr} {o : HO} : upd H a o a = some o := by unfold upd; rw [if_pos rfl]
theorem upd_ne {H : Hp} {a b : Addr} {o : HO} (h : b ≠ a) : upd H a o b = H b := by unfold upd; rw [if_neg h]
theorem ne_of {H : Hp} {a b : Addr} {o u : HO} (h : H a = some o) (h' : H b = some u) (d : o ≠ u) : a ≠ b := by
  intro e; subst e; rw [h] at h'; exact d (Option.some.inj h')
theorem ne_of_none {H : Hp} {a b : Addr} {o : HO} (h : H a = some o) (h' : H b = none) : a ≠ b := by
  intro e; subst e; rw [h] at h'; cases h'

section
variable (P : Program) (w : World)
noncomputable def ObjOk (H : Hp) (h : Heap) (a : Addr) : HO → Prop
  | .lst xs => xs.length ≤ sizeLine ∧ ∃ (its : List Value) (n : Nat), Vals xs its ∧ h.get? a = some { cls := .type "list", data := .seq its.toArray n }
  | .tup xs => xs.length ≤ sizeLine ∧ ∃ its : List Value, Vals xs its ∧ IsTup h a its.toArray
  | .dK kvs => kvs.length ≤ sizeLine ∧ (a == sysModules) = false ∧ ∃ vs, KV kvs vs ∧ h.DictOf (mixKind P w) a vs
  | .dT kvs => kvs.length ≤ sizeLine ∧ (a == sysModules) = false ∧ ∃ xs : List (List Key × Addr × Value),
      Paired (fun (p : List Key × V) (q : List Key × Addr × Value) => p.1 = q.1 ∧ H q.2.1 = some (.tup (p.1.map kV)) ∧ RelV p.2 q.2.2) kvs xs ∧
      ∃ o es ep, h.get? a = some o ∧ o.ExactDict ∧ o.data = .dict es ep ∧ es.toList = xs.map (entryOfKey (tupleKind (mixKind P w))) ∧ (xs.map (·.1)).Nodup
  | .set S n => h.SetOf (intKind P w) a S n
  | .ins C dx fs => H dx = some (.own a) ∧ fs.length ≤ 1000 ∧ dx ≠ a ∧ h.get? a = some (PySem.W.instObj C dx) ∧
      ∃ mA, h.Ns1 dx mA ∧ (∀ f, RelO (fs.lookup f) (mA f)) ∧ PySem.Within mA (fs.map (·.1))
  | .own _ => ∃ o, h.get? a = some o
  | .xd fs => ∃ mA, h.Ns1 a mA ∧ ∀ f, RelO (fs.lookup f) (mA f)
  | .rng lo hi => ∃ t u v, h.get? a = some { cls := .type "range", data := .fields #[.int lo t, .int hi u, .int 1 v] }
  | .frz o u => h.get? a = some o ∧ ObjOk H h a u
  | .tbl ps => h.get? a = some { cls := .none, data := .fields ps }
  | .met f x => h.get? a = some (PySem.W.methodObj (.ref f) (.ref x))
  | .ext φ => φ h ∧ (∃ o, h.get? a = some o) ∧ ∀ h1 h2 : Heap, φ h1 → (∀ o, h1.get? a = some o → h2.get? a = some o) → φ h2
noncomputable def HOk (H : Hp) (h : Heap) : Prop := ∀ a o, H a = some o → ObjOk P w H h a o
end

section
variable {P : Program} {w : World} {H H' : Hp} {h h' : Heap} {a : Addr} {o : HO}
theorem ObjOk.lt (x : ObjOk P w H h a o) : a < h.objs.size := by
  cases o with
  | lst xs => obtain ⟨_, _, _, _, e⟩ := x; exact Heap.lt_size e
  | tup xs => obtain ⟨_, _, _, p⟩ := x; exact p.lt
  | dK kvs => obtain ⟨_, _, _, _, o, _, _, e, _⟩ := x; exact Heap.lt_size e
  | dT kvs => obtain ⟨_, _, _, _, o, _, _, e, _⟩ := x; exact Heap.lt_size e
  | set S n => obtain ⟨o, _, _, _, e, _⟩ := x; exact Heap.lt_size e
  | ins C dx fs => obtain ⟨_, _, _, e, _⟩ := x; exact Heap.lt_size e
  | own y => obtain ⟨_, e⟩ := x; exact Heap.lt_size e
  | xd fs => obtain ⟨_, ⟨_, _, _, e, _⟩, _⟩ := x; exact Heap.lt_size e
  | rng lo hi => obtain ⟨_, _, _, e⟩ := x; exact Heap.lt_size e
  | frz ob u => obtain ⟨e, _⟩ := x; exact Heap.lt_size e
  | tbl ps => exact Heap.lt_size (show h.get? a = some _ from x)
  | met f y => exact Heap.lt_size (show h.get? a = some _ from x)
  | ext φ => obtain ⟨_, ⟨_, e⟩, _⟩ := x; exact Heap.lt_size e
theorem Paired.mapP {α β : Type} {F G : α → β → Prop} : ∀ {l₁ : List α} {l₂ : List β}, Paired F l₁ l₂ → (∀ a b, F a b → G a b) → Paired G l₁ l₂
  | _, _, .nil, _ => .nil
  | _, _, .cons r t, f => .cons (f _ _ r) (Paired.mapP t f)
theorem ObjOk.stay (x : ObjOk P w H h a o) (k : ∀ b u, (b = a ∨ H b = some (.own a)) → h.get? b = some u → h'.get? b = some u)
    (ho : ∀ b, H b = some (.own a) → H' b = some (.own a)) (ht : ∀ b xs, H b = some (.tup xs) → H' b = some (.tup xs)) : ObjOk P w H' h' a o := by
  induction o with
  | lst xs => obtain ⟨z, its, n, r, e⟩ := x; exact ⟨z, its, n, r, k _ _ (.inl rfl) e⟩
  | tup xs => obtain ⟨z, its, r, ob, e, c⟩ := x; exact ⟨z, its, r, ob, k _ _ (.inl rfl) e, c⟩
  | dK kvs => obtain ⟨z, y, vs, r, ob, es, ep, e, c⟩ := x; exact ⟨z, y, vs, r, ob, es, ep, k _ _ (.inl rfl) e, c⟩
  | dT kvs =>
    obtain ⟨z, y, xs, r, ob, es, ep, e, c⟩ := x
    exact ⟨z, y, xs, Paired.mapP r fun p q z => ⟨z.1, ht _ _ z.2.1, z.2.2⟩, ob, es, ep, k _ _ (.inl rfl) e, c⟩
  | set S n => obtain ⟨ob, es, ep, t, e, c⟩ := x; exact ⟨ob, es, ep, t, k _ _ (.inl rfl) e, c⟩
  | ins C dx fs =>
    obtain ⟨d, z, ne, e, mA, ⟨od, es, ep, e2, c⟩, r⟩ := x
    exact ⟨ho _ d, z, ne, k _ _ (.inl rfl) e, mA, ⟨od, es, ep, k _ _ (.inr d) e2, c⟩, r⟩
  | own y => obtain ⟨ob, e⟩ := x; exact ⟨ob, k _ _ (.inl rfl) e⟩
  | xd fs => obtain ⟨mA, ⟨od, es, ep, e, c⟩, r⟩ := x; exact ⟨mA, ⟨od, es, ep, k _ _ (.inl rfl) e, c⟩, r⟩
  | rng lo hi => obtain ⟨t, u, v, e⟩ := x; exact ⟨t, u, v, k _ _ (.inl rfl) e⟩
  | frz ob u ih => obtain ⟨e, q⟩ := x; exact ⟨k _ _ (.inl rfl) e, ih q⟩
  | tbl ps =>
    have e : h.get? a = some { cls := .none, data := .fields ps } := x
    show h'.get? a = some { cls := .none, data := .fields ps }
    exact k a _ (.inl rfl) e
  | met f y =>
    have e : h.get? a = some (PySem.W.methodObj (.ref f) (.ref y)) := x
    show h'.get? a = some (PySem.W.methodObj (.ref f) (.ref y))
    exact k a _ (.inl rfl) e
  | ext φ => obtain ⟨p, ⟨o, e⟩, st⟩ := x; exact ⟨st _ _ p fun o q => k _ _ (.inl rfl) q, ⟨o, k _ _ (.inl rfl) e⟩, st⟩
theorem HOk.lt (x : HOk P w H h) (e : H a = some o) : a < h.objs.size := (x a o e).lt
theorem HOk.fresh (x : HOk P w H h) (e : h.objs.size ≤ a) : H a = none := by
  cases q : H a with
  | none => rfl
  | some u => exact absurd (Nat.lt_of_lt_of_le (x.lt q) e) (Nat.lt_irrefl _)
theorem HOk.kept (x : HOk P w H h) (k : ∀ b u, h.get? b = some u → h'.get? b = some u) : HOk P w H h' := fun a o e =>
  (x a o e).stay (fun b u _ q => k b u q) (fun _ q => q) fun _ _ q => q
theorem HOk.laid (x : HOk P w H h) (k : ∀ b u, h.get? b = some u → h'.get? b = some u) (hp : h.objs.size ≤ a) (new : ObjOk P w (upd H a o) h' a o) : HOk P w (upd H a o) h' := fun b u e => by
  have hn := x.fresh hp
  by_cases hb : b = a
  · subst hb; rw [upd_same] at e; cases e; exact new
  · rw [upd_ne hb] at e
    exact (x b u e).stay (fun c v _ q => k c v q) (fun c q => by rw [upd_ne (ne_of_none q hn)]; exact q) fun c xs q => by rw [upd_ne (ne_of_none q hn)]; exact q
end

noncomputable def Rd (H : Hp) (a : Addr) (u : HO) : Prop := H a = some u ∨ ∃ o, H a = some (.frz o u)
theorem Rd.ok {P : Program} {w : World} {H : Hp} {h : Heap} {a : Addr} {u : HO} (r : Rd H a u) (x : HOk P w H h) : ObjOk P w H h a u := by
  rcases r with r | ⟨o, r⟩
  · exact x a u r
  · obtain ⟨_, q⟩ := x a _ r
    exact q
noncomputable def Mut : Option HO → Prop
  | some (.lst _) => True
  | some (.dK _) => True
  | some (.dT _) => True
  | some (.set _ _) => True
  | some (.ins _ _ _) => True
  | some (.ext _) => True
  | _ => False
section
variable {P : Program} {w : World} {H : Hp} {h h' : Heap} {x e : Addr} {o' : HO}
theorem HOk.write (ok : HOk P w H h) (mu : Mut (H x)) (he : e = x ∨ H e = some (.own x)) (k : ∀ b u, b ≠ e → h.get? b = some u → h'.get? b = some u) (heo : ∃ u, h'.get? e = some u)
    (new : ObjOk P w (upd H x o') h' x o') : HOk P w (upd H x o') h' := fun b u q => by
  have nown : ∀ c y, H c = some (.own y) → c ≠ x := fun c y r z => by subst z; rw [r] at mu; exact mu
  have ntup : ∀ c xs, H c = some (.tup xs) → c ≠ x := fun c xs r z => by subst z; rw [r] at mu; exact mu
  by_cases hb : b = x
  · subst hb; rw [upd_same] at q; cases q; exact new
  · rw [upd_ne hb] at q
    by_cases hbe : b = e
    · have q' : H b = some (.own x) := by
        rcases he with z | z
        · exact absurd (hbe.trans z) hb
        · rw [hbe]; exact z
      rw [q] at q'; cases q'
      obtain ⟨v, hv⟩ := heo
      exact ⟨v, by rw [hbe]; exact hv⟩
    · refine (ok b u q).stay (fun c v hc r => k c v ?_ r) (fun c r => by rw [upd_ne (nown c b r)]; exact r) fun c xs r => by rw [upd_ne (ntup c xs r)]; exact r
      rcases hc with rfl | hc
      · exact hbe
      · rintro rfl
        rcases he with z | z
        · exact nown c b hc z
        · rw [hc] at z; cases z; exact hb rfl
end

/-! ### kept unless tracked; of the frames at fs (the callers') the slots may change (an exception that passes writes there); of the records at ex (iterators) nothing is said -/
set_option genInjectivity false in
structure Un (fs ex : List Addr) (H H' : Hp) (h h' : Heap) : Prop where
  keep : ∀ b o, h.get? b = some o → H b = none → b ∉ fs → b ∉ ex → h'.get? b = some o
  slot : ∀ b o, h.get? b = some o → H b = none → b ∈ fs → b ∉ ex → ∃ sl, h'.get? b = some { o with slots := sl }
  free : ∀ b o, h.get? b = some o → H b = none → b ∉ ex → H' b = none
  there : ∀ b o, h.get? b = some o → b ∉ ex → ∃ o', h'.get? b = some o'
  tups : ∀ b xs, H b = some (.tup xs) → H' b = some (.tup xs)
  frzs : ∀ b o u, H b = some (.frz o u) → H' b = some (.frz o u)
  tbls : ∀ b ps, H b = some (.tbl ps) → ∃ more, H' b = some (.tbl (ps ++ more))
section
variable {fs fs' ex ex' : List Addr} {H H1 H2 : Hp} {h h1 h2 h' : Heap} {a x e : Addr} {o : HO}
theorem Un.any (u : Un fs ex H H1 h h1) {b : Addr} {ob : Obj} (q : h.get? b = some ob) (n : H b = none) (hx : b ∉ ex) : ∃ sl, h1.get? b = some { ob with slots := sl } := by
  by_cases hb : b ∈ fs
  · exact u.slot b ob q n hb hx
  · exact ⟨ob.slots, u.keep b ob q n hb hx⟩
theorem Un.kept (k : ∀ b u, h.get? b = some u → h'.get? b = some u) : Un fs ex H H h h' :=
  ⟨fun b ob q _ _ _ => k b ob q, fun b ob q _ _ _ => ⟨ob.slots, k b ob q⟩, fun _ _ _ n _ => n, fun b ob q _ => ⟨ob, k b ob q⟩, fun _ _ q => q, fun _ _ _ q => q, fun _ ps q => ⟨#[], by rw [q]; simp⟩⟩
theorem Un.refl : Un fs ex H H h h := Un.kept fun _ _ q => q
theorem Un.laid (k : ∀ b u, h.get? b = some u → h'.get? b = some u) (hp : h.objs.size ≤ a) (hn : H a = none) : Un fs ex H (upd H a o) h h' where
  keep := fun b u q _ _ _ => k b u q
  slot := fun b u q _ _ _ => ⟨u.slots, k b u q⟩
  free := fun b u q n _ => by rw [upd_ne (Nat.ne_of_lt (Nat.lt_of_lt_of_le (Heap.lt_size q) hp))]; exact n
  there := fun b u q _ => ⟨u, k b u q⟩
  tups := fun b xs q => by rw [upd_ne (ne_of_none q hn)]; exact q
  frzs := fun b u xs q => by rw [upd_ne (ne_of_none q hn)]; exact q
  tbls := fun b ps q => ⟨#[], by rw [upd_ne (ne_of_none q hn), q]; simp⟩
theorem Un.write (mu : Mut (H x)) (he : e = x ∨ H e = some (.own x)) (k : ∀ b u, b ≠ e → h.get? b = some u → h'.get? b = some u) (heo : ∃ u, h'.get? e = some u) : Un fs ex H (upd H x o) h h' := by
  have hx : ∀ b, H b = none → b ≠ x := fun b n z => by subst z; rw [n] at mu; exact mu
  have hb : ∀ b, H b = none → b ≠ e := fun b n z => by
    subst z
    rcases he with r | r
    · exact hx b n r
    · rw [n] at r; cases r
  have hm : ∀ b u, H b = some u → ¬ Mut (some u) → b ≠ x := fun b u q nm z => by subst z; rw [q] at mu; exact nm mu
  refine ⟨fun b u q n _ _ => k b u (hb b n) q, fun b u q n _ _ => ⟨u.slots, k b u (hb b n) q⟩, fun b u q n _ => by rw [upd_ne (hx b n)]; exact n, fun b u q _ => ?_,
    fun b xs q => by rw [upd_ne (hm b _ q fun z => z)]; exact q, fun b u xs q => by rw [upd_ne (hm b _ q fun z => z)]; exact q, fun b ps q => ⟨#[], by rw [upd_ne (hm b _ q fun z => z), q]; simp⟩⟩
  by_cases hbe : b = e
  · subst hbe; exact heo
  · exact ⟨u, k b u hbe q⟩
end

/-! ### the heap without what is tracked -/
noncomputable def trk (h : Heap) (H : Hp) : List Addr := (List.range h.objs.size).filter fun a => (H a).isSome
noncomputable def hidT (h : Heap) (H : Hp) : Heap := PySem.W.hideAll h (trk h H)
theorem hidT_size (h : Heap) (H : Hp) : (hidT h H).objs.size = h.objs.size := PySem.W.hideAll_size _ _
theorem hidT_get {h : Heap} {H : Hp} {b : Addr} {o : Obj} (e : h.get? b = some o) (n : H b = none) : (hidT h H).get? b = some o :=
  PySem.W.hideAll_get _ e fun hm => by
    have q : (H b).isSome = true := (List.mem_filter.mp hm).2
    rw [n] at q; simp at q
theorem of_hidT {h : Heap} {H : Hp} {b : Addr} {o : Obj} (e : (hidT h H).get? b = some o) : h.get? b = some o ∧ H b = none := by
  have e' : h.get? b = some o := PySem.W.of_hideAll (trk h H) e
  refine ⟨e', ?_⟩
  cases q : H b with
  | none => rfl
  | some x =>
    have hm : b ∈ trk h H := List.mem_filter.mpr ⟨List.mem_range.mpr (Heap.lt_size e'), by simp [q]⟩
    have z : (hidT h H).get? b = none := PySem.W.hideAll_none (trk h H) hm
    rw [z] at e; cases e

/-! ### OpenK's ledger, filled with every new object but one -/
noncomputable def allNews (g h : Heap) (L : Addr) : List (Addr × Obj) := (List.range h.objs.size).filterMap fun a => if a = L ∨ (g.get? a).isSome = true then none else (h.get? a).map fun o => (a, o)
noncomputable def rest (g h : Heap) (L d : Addr) : List (Addr × Obj) := (allNews g h L).filter fun p => decide (p.1 ≠ d)
end L2

namespace L2
open PySem PySem.Spec PyProof.Rows

set_option genInjectivity false in
structure Mod (K : PySem.W.Frag) (mg : Str → Option Value) (base : Heap) : Prop where
  kin : K.In base
  glob : base.Ns mainGlobals mg
  blt : ∃ mb, base.Ns builtinsNs mb ∧ ∀ x : Str, x ≠ "__name__" → mb x = bootBuiltins x
  nolimit : base.NoLimit

set_option genInjectivity false in
structure Cx where
  prog : Program
  w : World
  K : PySem.W.Frag
  mg : Str → Option Value
  base : Heap
  A : Around
  N : List Str
  s₀ : Shared
  H₀ : Hp
  env : Env
  outer : List Env
  stack : List Env
  ex : List Addr
  fn : Str → Bool
  calm : Bool
  pn : List (Addr × Obj)
  xe : Value → Shared → Prop
noncomputable def frs (l : List Env) : List Addr := l.filterMap (·.frame)
noncomputable abbrev Cx.fs (X : Cx) : List Addr := frs X.outer

noncomputable def Vis (sc : Scope) (x : Str) : Prop := sc.names.lookup x = some .local ∨ sc.names.lookup x = some .cell ∨ sc.names.lookup x = some .free
noncomputable def Loc (sc : Scope) (x : Str) : Prop := sc.names.lookup x = some .local ∨ sc.names.lookup x = some .cell
noncomputable def Look (env : Env) (h : Heap) (m : Str → Option Value) (x : Str) (u : Value) : Prop :=
  (env.kindOf x = some .local ∧ m x = some u) ∨ ((env.kindOf x = some .cell ∨ env.kindOf x = some .free) ∧ ∃ c, env.cells.lookup x = some c ∧ h.IsCell c (some u))

set_option genInjectivity false in
structure Cx.Ok (X : Cx) : Prop where
  mod : Mod X.K X.mg X.base
  kind : X.env.scope.kind = .function
  glob : X.env.globals = mainGlobals
  blt : X.env.builtins = builtinsNs
  above : X.s₀.heap.objs.size ≤ X.env.locals
  inj : ∀ x y c, X.env.cells.lookup x = some c → X.env.cells.lookup y = some c → x = y
  has : ∀ x, (X.env.kindOf x = some .cell ∨ X.env.kindOf x = some .free) → ∃ c, X.env.cells.lookup x = some c
  cab : ∀ x c, X.fn x = true → X.env.cells.lookup x = some c → X.s₀.heap.objs.size ≤ c
  hd : X.calm = true → X.A.handled = none
  frames : X.A.frames = some X.stack
  stk : X.stack = X.outer ∨ (X.stack = X.env :: X.outer ∧ X.env.frame = some X.env.locals)
  exf : ∀ b ∈ X.ex, b ≠ X.env.locals ∧ ∀ x c, X.env.cells.lookup x = some c → c ≠ b
  bs : ∀ b o, X.base.get? b = some o → X.s₀.heap.get? b = some o ∧ X.H₀ b = none
  bsz : X.base.objs.size ≤ X.s₀.heap.objs.size
  noex : ∀ b o, X.base.get? b = some o → b ∉ X.ex
  exfs : ∀ b ∈ X.ex, b ∉ X.fs
  funs : X.s₀.heap.FunFrames X.base X.outer
  frf : ∀ b ∈ X.fs, X.H₀ b = none

set_option genInjectivity false in
structure Inv (X : Cx) (pins : List (Addr × Obj)) (σ : List (Option V)) (H : Hp) (s : Shared) : Prop where
  ok : X.Ok
  os : s.os = X.s₀.os
  bare : AllBare s.gens
  base : Un X.fs X.ex X.H₀ H X.s₀.heap s.heap
  loc : ∃ m, s.heap.Ns X.env.locals m ∧ ∀ (i : Nat) (x : Str) (v : V), X.N[i]? = some x → σ[i]? = some (some v) → Vis X.env.scope x → ∃ u, RelV v u ∧ Look X.env s.heap m x u
  cell : ∀ x c, X.env.cells.lookup x = some c → ∃ v, s.heap.IsCell c v
  free : H X.env.locals = none
  freeC : ∀ x c, X.env.cells.lookup x = some c → H c = none
  pin : ∀ p ∈ X.pn ++ pins, s.heap.get? p.1 = some p.2 ∧ H p.1 = none ∧ p.1 ≠ X.env.locals ∧ p.1 ∉ X.fs ∧ ∀ v, p.2.data ≠ .cell v
  hok : HOk X.prog X.w H s.heap
  len : σ.length = X.N.length

section
variable {X : Cx} {pins : List (Addr × Obj)} {σ : List (Option V)} {H H' : Hp} {s : Shared} {h' : Heap}

theorem Cx.Ok.nofr (ok : X.Ok) {b : Addr} {o : Obj} (e : X.base.get? b = some o) : b ∉ X.fs := fun hb => by
  have := (ok.funs.mem hb).1
  rw [e] at this; cases this
theorem Inv.bs (I : Inv X pins σ H s) : ∀ b o, X.base.get? b = some o → s.heap.get? b = some o ∧ H b = none := fun b o e =>
  ⟨I.base.keep b o (I.ok.bs b o e).1 (I.ok.bs b o e).2 (I.ok.nofr e) (I.ok.noex b o e), I.base.free b o (I.ok.bs b o e).1 (I.ok.bs b o e).2 (I.ok.noex b o e)⟩
theorem Inv.bk (I : Inv X pins σ H s) : ∀ b o, X.base.get? b = some o → s.heap.get? b = some o := fun b o e => (I.bs b o e).1
theorem Inv.mod (I : Inv X pins σ H s) : Mod X.K X.mg X.base := I.ok.mod
theorem Inv.kIn (I : Inv X pins σ H s) : X.K.In s.heap := I.ok.mod.kin.keeps I.bk
theorem Inv.fr (I : Inv X pins σ H s) : ∃ m, Fr X.base X.env.locals s.heap m :=
  let ⟨m, hn, _⟩ := I.loc
  ⟨m, hn, I.bk, Nat.le_trans I.ok.bsz I.ok.above⟩
theorem Inv.lt (I : Inv X pins σ H s) : X.env.locals < s.heap.objs.size := let ⟨_, hn, _⟩ := I.loc; hn.lt
theorem Inv.sz (I : Inv X pins σ H s) : X.s₀.heap.objs.size ≤ s.heap.objs.size := Nat.le_trans I.ok.above (Nat.le_of_lt I.lt)
theorem Inv.nofs (I : Inv X pins σ H s) {a : Addr} (h : s.heap.objs.size ≤ a) : a ∉ X.fs := fun hb => by
  obtain ⟨_, o, ho, _⟩ := I.ok.funs.mem hb
  exact absurd (Nat.lt_of_lt_of_le (Heap.lt_size ho) (Nat.le_trans I.sz h)) (Nat.lt_irrefl _)
theorem Inv.cne (I : Inv X pins σ H s) : ∀ x c, X.env.cells.lookup x = some c → c ≠ X.env.locals := fun x c e z => by
  obtain ⟨v, o, ho, hd⟩ := I.cell x c e
  obtain ⟨m, ⟨o', es, ep, ho', hd', _⟩, _⟩ := I.loc
  rw [z, ho'] at ho; cases ho; rw [hd'] at hd; cases hd
theorem Inv.funs (I : Inv X pins σ H s) : s.heap.FunFrames X.base X.outer := by
  have all : ∀ (l : List Env), (∀ b ∈ frs l, b ∈ X.fs) → X.s₀.heap.FunFrames X.base l → s.heap.FunFrames X.base l := by
    intro l
    induction l with
    | nil => intro _ _; trivial
    | cons env r ih =>
      intro hs hl
      obtain ⟨hk, ⟨L, o, hf, hn, ho, hd⟩, hr⟩ := hl
      have hL : L ∈ X.fs := hs L (by unfold frs; rw [List.filterMap_cons, hf]; exact List.mem_cons_self)
      obtain ⟨sl, e⟩ := I.base.slot L o ho (I.ok.frf L hL) hL fun z => I.ok.exfs L z hL
      exact ⟨hk, ⟨L, _, hf, hn, e, hd⟩, ih (fun b hb => hs b (by unfold frs; rw [List.filterMap_cons, hf]; exact List.mem_cons_of_mem _ hb)) hr⟩
  exact all X.outer (fun _ hb => hb) I.ok.funs

theorem Inv.stack (I : Inv X pins σ H s) : s.heap.FunFrames X.base X.stack := by
  rcases I.ok.stk with e | ⟨e, hf⟩
  · rw [e]; exact I.funs
  · rw [e]
    obtain ⟨m, hn, _⟩ := I.loc
    refine .cons (by rw [I.ok.kind]; decide) hf hn ?_ I.funs
    exact Heap.get?_none_of_le (Nat.le_trans I.ok.bsz I.ok.above)
theorem Inv.stkSub (I : Inv X pins σ H s) : ∀ b ∈ frs X.stack, b ∈ X.env.locals :: X.fs := fun b hb => by
  rcases I.ok.stk with e | ⟨e, hf⟩
  · rw [e] at hb; exact List.mem_cons_of_mem _ hb
  · rw [e] at hb
    unfold frs at hb
    rw [List.filterMap_cons, hf] at hb
    exact hb
theorem Inv.stkFree (I : Inv X pins σ H s) : ∀ b ∈ frs X.stack, H b = none := fun b hb => by
  rcases List.mem_cons.mp (I.stkSub b hb) with e | hb
  · rw [e]; exact I.free
  · obtain ⟨_, o, ho, _⟩ := I.ok.funs.mem hb
    exact I.base.free b o ho (I.ok.frf b hb) fun z => I.ok.exfs b z hb

theorem Inv.step {g' : Array GenState} {t' : Nat} {d' : Drawn} {ch : List Addr} (I : Inv X pins σ H s)
    (hch : ∀ b ∈ ch, (b ∈ X.ex ∨ X.s₀.heap.objs.size ≤ b) ∧ b ≠ X.env.locals ∧ (∀ x c, X.env.cells.lookup x = some c → c ≠ b) ∧ ∀ p ∈ X.pn ++ pins, p.1 ≠ b)
    (keep : ∀ b o, b ≠ X.env.locals → b ∉ X.fs → b ∉ ch → s.heap.get? b = some o → H b = none → h'.get? b = some o)
    (slot : ∀ b o, b ≠ X.env.locals → b ∈ X.fs → b ∉ ch → s.heap.get? b = some o → H b = none → ∃ sl, h'.get? b = some { o with slots := sl }) (free : ∀ b o, b ∉ ch → s.heap.get? b = some o → H b = none → H' b = none)
    (there : ∀ b o, b ∉ ch → s.heap.get? b = some o → ∃ o', h'.get? b = some o')
    (tups : ∀ b xs, H b = some (.tup xs) → H' b = some (.tup xs)) (frzs : ∀ b o u, H b = some (.frz o u) → H' b = some (.frz o u)) (tbls : ∀ b ps, H b = some (.tbl ps) → ∃ more, H' b = some (.tbl (ps ++ more)))
    (ns : ∀ m, s.heap.Ns X.env.locals m → h'.Ns X.env.locals m) (hok : HOk X.prog X.w H' h') (hg : AllBare g') :
    Inv X pins σ H' { s with heap := h', gens := g', drawn := d', toks := t' } := by
  have neL : ∀ b o, X.s₀.heap.get? b = some o → b ≠ X.env.locals := fun b o e => Nat.ne_of_lt (Nat.lt_of_lt_of_le (Heap.lt_size e) I.ok.above)
  have neC : ∀ b o, X.s₀.heap.get? b = some o → b ∉ X.ex → b ∉ ch := fun b o e hx hb => by
    rcases (hch b hb).1 with z | z
    · exact hx z
    · exact absurd (Nat.lt_of_lt_of_le (Heap.lt_size e) z) (Nat.lt_irrefl _)
  have cellK : ∀ x c, X.env.cells.lookup x = some c → ∀ v, s.heap.IsCell c v → h'.IsCell c v := fun x c e v ⟨o, ho, hd⟩ => by
    have nch : c ∉ ch := fun z => (hch c z).2.2.1 x c e rfl
    by_cases hc : c ∈ X.fs
    · obtain ⟨sl, q⟩ := slot c o (I.cne x c e) hc nch ho (I.freeC x c e)
      exact ⟨_, q, hd⟩
    · exact ⟨o, keep c o (I.cne x c e) hc nch ho (I.freeC x c e), hd⟩
  refine ⟨I.ok, I.os, hg, ⟨fun b o e n hb hx => ?_, fun b o e n hb hx => ?_, fun b o e n hx => ?_, fun b o e hx => ?_, fun b xs e => tups b xs (I.base.tups b xs e), fun b o xs e => frzs b o xs (I.base.frzs b o xs e), fun b ps e => ?_⟩, ?_, fun x c e => ?_, ?_, fun x c e => ?_, fun p hp => ?_, hok, I.len⟩
  · exact keep b o (neL b o e) hb (neC b o e hx) (I.base.keep b o e n hb hx) (I.base.free b o e n hx)
  · obtain ⟨sl, e1⟩ := I.base.slot b o e n hb hx
    obtain ⟨sl', e2⟩ := slot b _ (neL b o e) hb (neC b o e hx) e1 (I.base.free b o e n hx)
    exact ⟨sl', e2⟩
  · obtain ⟨o', e1⟩ := I.base.there b o e hx
    exact free b o' (neC b o e hx) e1 (I.base.free b o e n hx)
  · obtain ⟨o', e1⟩ := I.base.there b o e hx
    exact there b o' (neC b o e hx) e1
  · obtain ⟨m1, e1⟩ := I.base.tbls b ps e
    obtain ⟨m2, e2⟩ := tbls b _ e1
    exact ⟨m1 ++ m2, by rw [e2, Array.append_assoc]⟩
  · obtain ⟨m, hn, hl⟩ := I.loc
    refine ⟨m, ns m hn, fun i x v e1 e2 e3 => ?_⟩
    obtain ⟨u, r, l⟩ := hl i x v e1 e2 e3
    refine ⟨u, r, ?_⟩
    rcases l with l | ⟨k, c, e, z⟩
    · exact .inl l
    · exact .inr ⟨k, c, e, cellK x c e _ z⟩
  · obtain ⟨v, z⟩ := I.cell x c e
    exact ⟨v, cellK x c e v z⟩
  · obtain ⟨m, ⟨o, _, _, ho, _⟩, _⟩ := I.loc
    exact free _ o (fun z => (hch _ z).2.1 rfl) ho I.free
  · obtain ⟨v, o, ho, hd⟩ := I.cell x c e
    exact free c o (fun z => (hch c z).2.2.1 x c e rfl) ho (I.freeC x c e)
  · obtain ⟨e, n, ne, nf, d⟩ := I.pin p hp
    have nch : p.1 ∉ ch := fun z => (hch p.1 z).2.2.2 p hp rfl
    exact ⟨keep p.1 p.2 ne nf nch e n, free p.1 p.2 nch e n, ne, nf, d⟩
theorem Inv.un {t' : Nat} (I : Inv X pins σ H s) (u : Un X.fs [] H H' s.heap h') (hok : HOk X.prog X.w H' h') : Inv X pins σ H' { s with heap := h', toks := t' } := by
  obtain ⟨m, ⟨o, es, ep, ho, r⟩, _⟩ := id I.loc
  obtain ⟨sl, hL⟩ := u.any ho I.free (by simp)
  exact I.step (g' := s.gens) (d' := s.drawn) (ch := []) (fun _ z => nomatch z) (fun b o _ hb _ e n => u.keep b o e n hb (by simp)) (fun b o _ hb _ e n => u.slot b o e n hb (by simp)) (fun b o _ e n => u.free b o e n (by simp)) (fun b o _ e => u.there b o e (by simp)) u.tups u.frzs u.tbls (fun m' hm => by
    obtain ⟨o', es', ep', ho', r'⟩ := hm
    rw [ho] at ho'; cases ho'
    exact ⟨_, es', ep', hL, r'⟩) hok I.bare
theorem Inv.call {g' : Array GenState} {t' : Nat} {d' : Drawn} {ch : List Addr} (I : Inv X pins σ H s) (u : Un (frs X.stack) ch H H' s.heap h') (hok : HOk X.prog X.w H' h') (hg : AllBare g')
    (hch : ∀ b ∈ ch, (b ∈ X.ex ∨ X.s₀.heap.objs.size ≤ b) ∧ b ≠ X.env.locals ∧ (∀ x c, X.env.cells.lookup x = some c → c ≠ b) ∧ ∀ p ∈ X.pn ++ pins, p.1 ≠ b) :
    Inv X pins σ H' { s with heap := h', gens := g', drawn := d', toks := t' } := by
  obtain ⟨m, ⟨o, es, ep, ho, r⟩, _⟩ := id I.loc
  obtain ⟨sl, hL⟩ := u.any ho I.free fun z => (hch _ z).2.1 rfl
  exact I.step (ch := ch) hch (fun b o hL hb hc e n => u.keep b o e n (fun z => (List.mem_cons.mp (I.stkSub b z)).elim hL hb) hc) (fun b o _ _ hc e n => u.any e n hc) (fun b o hc e n => u.free b o e n hc) (fun b o hc e => u.there b o e hc) u.tups u.frzs u.tbls (fun m' hm => by
    obtain ⟨o', es', ep', ho', r'⟩ := hm
    rw [ho] at ho'; cases ho'
    exact ⟨_, es', ep', hL, r'⟩) hok hg
theorem Inv.turned {t' : Nat} {it : Addr} (I : Inv X pins σ H s) (k : ∀ b o, b ≠ it → s.heap.get? b = some o → h'.get? b = some o) (hn : H it = none) (hL : it ≠ X.env.locals)
    (h1 : it ∈ X.ex ∨ X.s₀.heap.objs.size ≤ it) (h2 : ∀ x c, X.env.cells.lookup x = some c → c ≠ it) (h3 : ∀ p ∈ X.pn ++ pins, p.1 ≠ it) : Inv X pins σ H { s with heap := h', toks := t' } := by
  have nit : ∀ b u, H b = some u → b ≠ it := fun b u e z => by rw [z, hn] at e; cases e
  refine I.step (g' := s.gens) (d' := s.drawn) (ch := [it]) (fun b hb => ?_) (fun b o _ _ hc e _ => k b o (fun z => hc (by simp [z])) e) (fun b o _ _ hc e _ => ⟨o.slots, k b o (fun z => hc (by simp [z])) e⟩) (fun _ _ _ _ n => n)
    (fun b o hc e => ⟨o, k b o (fun z => hc (by simp [z])) e⟩) (fun _ _ e => e) (fun _ _ _ e => e) (fun b ps e => ⟨#[], by rw [e]; simp⟩) (fun m hm => ?_) (fun b u e => ?_) I.bare
  · have e : b = it := by simpa using hb
    subst e
    exact ⟨h1, hL, h2, h3⟩
  · obtain ⟨o, es, ep, ho, r⟩ := hm
    exact ⟨o, es, ep, k _ o (Ne.symm hL) ho, r⟩
  · refine (I.hok b u e).stay (fun c v hc q => k c v ?_ q) (fun _ q => q) fun _ _ q => q
    rcases hc with z | z
    · rw [z]; exact nit b u e
    · exact nit c _ z
theorem Inv.tok (I : Inv X pins σ H s) (t : Nat) : Inv X pins σ H { s with toks := t } := I.un (h' := s.heap) (t' := t) Un.refl I.hok
theorem Inv.kept {t' : Nat} (I : Inv X pins σ H s) (k : ∀ b u, s.heap.get? b = some u → h'.get? b = some u) : Inv X pins σ H { s with heap := h', toks := t' } := I.un (Un.kept k) (I.hok.kept k)
theorem Inv.laid {a : Addr} {o : HO} {t' : Nat} (I : Inv X pins σ H s) (k : ∀ b u, s.heap.get? b = some u → h'.get? b = some u) (hp : s.heap.objs.size ≤ a) (new : ObjOk X.prog X.w (upd H a o) h' a o) :
    Inv X pins σ (upd H a o) { s with heap := h', toks := t' } := I.un (Un.laid k hp (I.hok.fresh hp)) (I.hok.laid k hp new)
theorem Inv.write {x e : Addr} {o : HO} {t' : Nat} (I : Inv X pins σ H s) (mu : Mut (H x)) (he : e = x ∨ H e = some (.own x)) (k : ∀ b u, b ≠ e → s.heap.get? b = some u → h'.get? b = some u) (heo : ∃ u, h'.get? e = some u)
    (new : ObjOk X.prog X.w (upd H x o) h' x o) : Inv X pins σ (upd H x o) { s with heap := h', toks := t' } := I.un (Un.write mu he k heo) (I.hok.write mu he k heo new)
theorem Inv.weak {σ' : List (Option V)} (I : Inv X pins σ H s) (hl : σ'.length = σ.length) (w : ∀ (i : Nat) v, σ'[i]? = some (some v) → σ[i]? = some (some v)) : Inv X pins σ' H s :=
  ⟨I.ok, I.os, I.bare, I.base, let ⟨m, hn, hl'⟩ := I.loc; ⟨m, hn, fun i x v e1 e2 e3 => hl' i x v e1 (w i v e2) e3⟩, I.cell, I.free, I.freeC, I.pin, I.hok, hl.trans I.len⟩
theorem Inv.pins_of {pins' : List (Addr × Obj)} (I : Inv X pins σ H s) (h : ∀ p ∈ pins', s.heap.get? p.1 = some p.2 ∧ H p.1 = none ∧ p.1 ≠ X.env.locals ∧ p.1 ∉ X.fs ∧ ∀ v, p.2.data ≠ .cell v) : Inv X pins' σ H s :=
  ⟨I.ok, I.os, I.bare, I.base, I.loc, I.cell, I.free, I.freeC, fun p hp => (List.mem_append.mp hp).elim (fun z => I.pin p (List.mem_append_left _ z)) (h p), I.hok, I.len⟩

theorem nodup_ix {N : List Str} (hN : N.Nodup) {i j : Nat} {x : Str} (a : N[i]? = some x) (b : N[j]? = some x) : i = j := by
  obtain ⟨h1, e1⟩ := List.getElem?_eq_some_iff.mp a
  obtain ⟨h2, e2⟩ := List.getElem?_eq_some_iff.mp b
  exact (List.getElem_inj hN).mp (e1.trans e2.symm)

theorem store_ok2 {M : Model} {A : Around} {E : Value → Shared → Prop} {i : Nat} {x : Str} {v : V} {u : Value} {Q : Unit → Shared → Prop} (I : Inv X pins σ H s) (hN : X.N.Nodup) (hi : X.N[i]? = some x) (hx : Loc X.env.scope x) (r : RelV v u)
    (h : ∀ s', Inv X pins (σ.set i (some v)) H s' → (∃ a, Heap.SameBut a s.heap s'.heap ∧ (a = X.env.locals ∨ X.env.cells.lookup x = some a)) → Q () s') (hf : X.fn x = true ∨ X.env.scope.names.lookup x = some .local := by first | exact .inl rfl | exact .inr rfl | assumption) : wpAny M A (storeName X.env x u) Q E s := by
  obtain ⟨m, hn, hl⟩ := id I.loc
  have hcls : (X.env.scope.kind == .class || (X.env.scope.kind == .module && X.env.locals != X.env.globals)) = false := by rw [I.ok.kind]; rfl
  have hiσ : i < σ.length := by rw [I.len]; exact (List.getElem?_eq_some_iff.mp hi).1
  have cne := I.cne
  have tracked : ∀ {a : Addr} {h' : Heap}, (∃ o, s.heap.get? a = some o ∧ H a = none) → Heap.SameBut a s.heap h' → HOk X.prog X.w H h' := fun {a h'} ha hs b ob e => by
    obtain ⟨_, _, hfree⟩ := ha
    refine (I.hok b ob e).stay (fun c w' hc q => (hs.2 c ?_).trans q) (fun _ q => q) fun _ _ q => q
    rintro rfl
    rcases hc with rfl | hc
    · rw [hfree] at e; cases e
    · rw [hfree] at hc; cases hc
  rcases hx with hk | hk
  · refine wpAny_storeName_local hk hn (fun h' hn' hs => ?_) hcls
    obtain ⟨oL, _, _, hoL, _⟩ := id hn
    refine h _ ⟨I.ok, I.os, I.bare, ⟨fun b o e n hb hx => ?_, fun b o e n hb hx => ?_, I.base.free, fun b o e hx => ?_, I.base.tups, I.base.frzs, I.base.tbls⟩, ⟨_, hn', fun j y v' e1 e2 e3 => ?_⟩, fun y c e => ?_, I.free, I.freeC, fun p hp => ?_, tracked ⟨oL, hoL, I.free⟩ hs, by simpa using I.len⟩ ⟨_, hs, .inl rfl⟩
    · exact (hs.2 b (Nat.ne_of_lt (Nat.lt_of_lt_of_le (Heap.lt_size e) I.ok.above))).trans (I.base.keep b o e n hb hx)
    · obtain ⟨sl, e1⟩ := I.base.slot b o e n hb hx
      exact ⟨sl, (hs.2 b (Nat.ne_of_lt (Nat.lt_of_lt_of_le (Heap.lt_size e) I.ok.above))).trans e1⟩
    · obtain ⟨o', e1⟩ := I.base.there b o e hx
      exact ⟨o', (hs.2 b (Nat.ne_of_lt (Nat.lt_of_lt_of_le (Heap.lt_size e) I.ok.above))).trans e1⟩
    · by_cases hj : j = i
      · subst hj
        rw [hi] at e1; cases e1
        rw [List.getElem?_set_self hiσ] at e2
        cases e2
        exact ⟨u, r, .inl ⟨hk, by simp⟩⟩
      · rw [List.getElem?_set_ne (Ne.symm hj)] at e2
        obtain ⟨u', r', q⟩ := hl j y v' e1 e2 e3
        refine ⟨u', r', ?_⟩
        rcases q with ⟨k, e⟩ | ⟨k, c, e, z⟩
        · refine .inl ⟨k, ?_⟩
          have : y ≠ x := fun e => hj (nodup_ix hN e1 (e ▸ hi))
          simp [this, e]
        · exact .inr ⟨k, c, e, z.sameBut hs (cne y c e)⟩
    · obtain ⟨w', z⟩ := I.cell y c e
      exact ⟨w', z.sameBut hs (cne y c e)⟩
    · obtain ⟨e, n, ne, nf, d⟩ := I.pin p hp
      exact ⟨(hs.2 p.1 ne).trans e, n, ne, nf, d⟩
  · have hfn : X.fn x = true := by
      rcases hf with z | z
      · exact z
      · rw [z] at hk; cases hk
    obtain ⟨c, hc⟩ := I.ok.has x (.inl hk)
    obtain ⟨w', z⟩ := I.cell x c hc
    refine wpAny_storeName_cell I.ok.kind hk hc z (fun h' hc' hs => ?_)
    obtain ⟨oc, hoc, hocd⟩ := id z
    refine h { s with heap := h' } ⟨I.ok, I.os, I.bare, ⟨fun b o e n hb hx => ?_, fun b o e n hb hx => ?_, I.base.free, fun b o e hx => ?_, I.base.tups, I.base.frzs, I.base.tbls⟩, ⟨m, hn.sameBut hs (Ne.symm (cne x c hc)), fun j y v' e1 e2 e3 => ?_⟩, fun y c' e => ?_, I.free, I.freeC, fun p hp => ?_, tracked ⟨oc, hoc, I.freeC x c hc⟩ hs, by simpa using I.len⟩ ⟨c, hs, .inr hc⟩
    · exact (hs.2 b (Nat.ne_of_lt (Nat.lt_of_lt_of_le (Heap.lt_size e) (I.ok.cab x c hfn hc)))).trans (I.base.keep b o e n hb hx)
    · obtain ⟨sl, e1⟩ := I.base.slot b o e n hb hx
      exact ⟨sl, (hs.2 b (Nat.ne_of_lt (Nat.lt_of_lt_of_le (Heap.lt_size e) (I.ok.cab x c hfn hc)))).trans e1⟩
    · obtain ⟨o', e1⟩ := I.base.there b o e hx
      exact ⟨o', (hs.2 b (Nat.ne_of_lt (Nat.lt_of_lt_of_le (Heap.lt_size e) (I.ok.cab x c hfn hc)))).trans e1⟩
    · by_cases hj : j = i
      · subst hj
        rw [hi] at e1; cases e1
        rw [List.getElem?_set_self hiσ] at e2
        cases e2
        exact ⟨u, r, .inr ⟨.inl hk, c, hc, hc'⟩⟩
      · rw [List.getElem?_set_ne (Ne.symm hj)] at e2
        obtain ⟨u', r', q⟩ := hl j y v' e1 e2 e3
        refine ⟨u', r', ?_⟩
        rcases q with q | ⟨k, c', e, z'⟩
        · exact .inl q
        · refine .inr ⟨k, c', e, z'.sameBut hs ?_⟩
          rintro rfl
          exact hj (nodup_ix hN e1 (I.ok.inj _ _ _ e hc ▸ hi))
    · by_cases hcc : c' = c
      · subst hcc; exact ⟨_, hc'⟩
      · obtain ⟨w2, z2⟩ := I.cell y c' e
        exact ⟨w2, z2.sameBut hs hcc⟩
    · obtain ⟨e, n, ne, nf, d⟩ := I.pin p hp
      refine ⟨(hs.2 p.1 ?_).trans e, n, ne, nf, d⟩
      intro q
      rw [q, hoc] at e
      have q' : oc = p.2 := Option.some.inj e
      exact d w' (by rw [← q']; exact hocd)
theorem store_ok {M : Model} {A : Around} {E : Value → Shared → Prop} {i : Nat} {x : Str} {v : V} {u : Value} {Q : Unit → Shared → Prop} (I : Inv X pins σ H s) (hN : X.N.Nodup) (hi : X.N[i]? = some x) (hx : Loc X.env.scope x) (r : RelV v u)
    (h : ∀ s', Inv X pins (σ.set i (some v)) H s' → Q () s') (hf : X.fn x = true ∨ X.env.scope.names.lookup x = some .local := by first | exact .inl rfl | exact .inr rfl | assumption) : wpAny M A (storeName X.env x u) Q E s :=
  store_ok2 I hN hi hx r (fun s' I' _ => h s' I') hf
theorem Inv.call' {s' : Shared} {ch : List Addr} (I : Inv X pins σ H s) (ho : s'.os = s.os) (u : Un (frs X.stack) ch H H' s.heap s'.heap) (hok : HOk X.prog X.w H' s'.heap) (hg : AllBare s'.gens)
    (hch : ∀ b ∈ ch, (b ∈ X.ex ∨ X.s₀.heap.objs.size ≤ b) ∧ b ≠ X.env.locals ∧ (∀ x c, X.env.cells.lookup x = some c → c ≠ b) ∧ ∀ p ∈ X.pn ++ pins, p.1 ≠ b) : Inv X pins σ H' s' := by
  obtain ⟨h', g', d', t', o'⟩ := s'
  have e : o' = s.os := ho
  subst e
  exact I.call (g' := g') (t' := t') (d' := d') u hok hg hch
end

/-! ### the judgements -/
noncomputable abbrev XK := Value → Option Addr → Hp → Prop
noncomputable abbrev St := List (Option V)
noncomputable abbrev VK := V → Hp → Prop
noncomputable abbrev TE := St → Hp → VK → Prop
noncomputable abbrev TT := St → Hp → (Bool → Hp → Prop) → Prop
noncomputable abbrev TA := St → Hp → (List V → Hp → Prop) → Prop
set_option genInjectivity false in
structure Ends where
  nx : St → Hp → Prop
  rt : VK
  bk : St → Hp → Prop := fun _ _ => False
  ct : St → Hp → Prop := fun _ _ => False
noncomputable abbrev TS := Ends → St → Hp → Prop

noncomputable def EP (X : Cx) (pins : List (Addr × Obj)) (σ : St) (Q : VK) (u : Value) (s' : Shared) : Prop := ∃ v H', Inv X pins σ H' s' ∧ RelV v u ∧ Q v H'
noncomputable def TP (X : Cx) (pins : List (Addr × Obj)) (σ : St) (Q : Bool → Hp → Prop) (b : Bool) (s' : Shared) : Prop := ∃ H', Inv X pins σ H' s' ∧ Q b H'
noncomputable def AP (X : Cx) (pins : List (Addr × Obj)) (σ : St) (Q : List V → Hp → Prop) (us : List Value) (s' : Shared) : Prop := ∃ vs H', Inv X pins σ H' s' ∧ Vals vs us ∧ Q vs H'
noncomputable def SP (X : Cx) (pins : List (Addr × Obj)) (D : Ends) (f : Flow) (s' : Shared) : Prop :=
  match f with
  | .next => ∃ σ' H', Inv X pins σ' H' s' ∧ D.nx σ' H'
  | .brk => ∃ σ' H', Inv X pins σ' H' s' ∧ D.bk σ' H'
  | .cont => ∃ σ' H', Inv X pins σ' H' s' ∧ D.ct σ' H'
  | .ret u => ∃ v σ' H', Inv X pins σ' H' s' ∧ RelV v u ∧ D.rt v H'

noncomputable def PE (X : Cx) (e : Expr) (t : TE) : Prop :=
  ∀ (pins : List (Addr × Obj)) (s : Shared) (σ : St) (H : Hp) (Q : VK), Inv X pins σ H s → t σ H Q → wpAny (model X.prog X.w) X.A (eval e X.env) (EP X pins σ Q) X.xe s
noncomputable def PT (X : Cx) (e : Expr) (t : TT) : Prop :=
  ∀ (pins : List (Addr × Obj)) (s : Shared) (σ : St) (H : Hp) (Q : Bool → Hp → Prop), Inv X pins σ H s → t σ H Q → wpAny (model X.prog X.w) X.A (isTrue e X.env (eval e X.env)) (TP X pins σ Q) X.xe s
noncomputable def PW (X : Cx) (e : Expr) (t : TT) : Prop :=
  ∀ (whole : Sem Value) (pins : List (Addr × Obj)) (s : Shared) (σ : St) (H : Hp) (Q : Bool → Hp → Prop), Inv X pins σ H s → t σ H Q → wpAny (model X.prog X.w) X.A (isTrue e X.env whole) (TP X pins σ Q) X.xe s
theorem PW.pt {X : Cx} {e : Expr} {t : TT} (h : PW X e t) : PT X e t := h _
noncomputable def PA (X : Cx) (es : List Expr) (t : TA) : Prop :=
  ∀ (pos : Pos) (pins : List (Addr × Obj)) (s : Shared) (σ : St) (H : Hp) (Q : List V → Hp → Prop), Inv X pins σ H s → t σ H Q → wpAny (model X.prog X.w) X.A (spliced (backTo pos (starEach es X.env))) (AP X pins σ Q) X.xe s
noncomputable def PS (X : Cx) (st : Stmt) (t : TS) : Prop :=
  ∀ (pins : List (Addr × Obj)) (s : Shared) (σ : St) (H : Hp) (D : Ends), Inv X pins σ H s → t D σ H → wpAny (model X.prog X.w) X.A (exec st X.env) (SP X pins D) X.xe s
noncomputable def PSs (X : Cx) (st : List Stmt) (t : TS) : Prop :=
  ∀ (pins : List (Addr × Obj)) (s : Shared) (σ : St) (H : Hp) (D : Ends), Inv X pins σ H s → t D σ H → wpAny (model X.prog X.w) X.A (execs st X.env) (SP X pins D) X.xe s
theorem thn {α : Type} {t : Sem α} {Q Q' : α → Shared → Prop} {M : Model} {A : Around} {E : Value → Shared → Prop} {s : Shared} (h : wpAny M A t Q E s) (hQ : ∀ a s, Q a s → Q' a s) : wpAny M A t Q' E s := wpAny_mono h hQ fun _ _ x => x
end L2

namespace L2
open PySem PySem.Spec PyProof.Rows
section
variable {X : Cx}

theorem bin {a b : Expr} {ta tb : TE} (ha : PE X a ta) (hb : PE X b tb) {pins : List (Addr × Obj)} {s : Shared} {σ : St} {H : Hp} {R : V → V → Hp → Prop} (I : Inv X pins σ H s) (h : ta σ H fun x H1 => tb σ H1 fun y H2 => R x y H2)
    {α : Type} {Q : α → Shared → Prop} {f : Value → Value → Sem α}
    (hf : ∀ v u s2 x y H2, Inv X pins σ H2 s2 → RelV x v → RelV y u → R x y H2 → wpAny (model X.prog X.w) X.A (f v u) Q X.xe s2) :
    wpAny (model X.prog X.w) X.A (eval a X.env) (fun v s₁ => wpAny (model X.prog X.w) X.A (eval b X.env) (fun u s₂ => wpAny (model X.prog X.w) X.A (f v u) Q X.xe s₂) X.xe s₁) X.xe s := by
  refine thn (ha pins s σ H _ I h) fun v s1 ⟨x, H1, I1, r1, q1⟩ => ?_
  refine thn (hb pins s1 σ H1 _ I1 q1) fun u s2 ⟨y, H2, I2, r2, q2⟩ => ?_
  exact hf v u s2 x y H2 I2 r1 r2 q2

/-! ### names and constants -/
noncomputable def tVar (i : Nat) : TE := fun σ H Q => ∃ v, σ[i]? = some (some v) ∧ Q v H
noncomputable def tC (v : V) : TE := fun _ H Q => Q v H
theorem pe_var {i : Nat} {x : Str} {pos : Pos} (hN : X.N[i]? = some x) (hv : Vis X.env.scope x) (hd : (x == ("__debug__" : Str)) = false := by decide) (hcd : (x == ("__classdict__" : Str)) = false := by decide) : PE X (.Name x pos) (tVar i) := by
  intro pins s σ H Q I h
  obtain ⟨v, e, h⟩ := h
  obtain ⟨m, hn, hl⟩ := I.loc
  obtain ⟨u, r, l⟩ := hl i x v hN e hv
  have fin : EP X pins σ Q u s := ⟨v, H, I, r, h⟩
  rcases l with ⟨hk, hm⟩ | ⟨hk, c, hc, hcell⟩
  · exact wpAny_Name (wpAny_loadName_local I.ok.kind hk hn hm fin) hd
  · rcases hk with hk | hk
    · exact wpAny_Name (wpAny_loadName_cell I.ok.kind hk hc hcell fin) hd
    · exact wpAny_Name (wpAny_loadName_free I.ok.kind hk hc hcell fin hcd) hd
theorem pe_int {i j pos} : PE X (.Constant (.int i) j pos) (tC (.int i)) := fun _ _ _ H _ I h => wpAny_Constant_int ⟨.int i, H, I.tok _, ⟨_, rfl⟩, h⟩
theorem pe_bl {b j pos} : PE X (.Constant (.bool b) j pos) (tC (.bl b)) := fun _ _ _ H _ I h => Constant_bool ⟨.bl b, H, I, rfl, h⟩
theorem pe_str {x j pos} : PE X (.Constant (.str x) j pos) (tC (.str x)) := fun _ _ _ H _ I h => Calls.Constant_str ⟨.str x, H, I.tok _, ⟨_, rfl⟩, h⟩

noncomputable def Gl (X : Cx) (x : Str) : Prop := X.env.kindOf x = some .globalImplicit
theorem ld_glob {E : Value → Shared → Prop} {pins : List (Addr × Obj)} {s : Shared} {σ : St} {H : Hp} {x : Str} {u : Value} {pos : Pos} {Q : Value → Shared → Prop} (I : Inv X pins σ H s) (hg : Gl X x) (hm : X.mg x = some u) (h : Q u s)
    (hd : (x == ("__debug__" : Str)) = false := by decide) : wpAny (model X.prog X.w) X.A (eval (.Name x pos) X.env) Q E s :=
  Calls.Name_function_global I.ok.kind hg (Calls.loadGlobal_global (by rw [I.ok.glob]; exact I.mod.glob.keeps I.bk) hm h) hd
theorem ld_blt {E : Value → Shared → Prop} {pins : List (Addr × Obj)} {s : Shared} {σ : St} {H : Hp} {x : Str} {u : Value} {pos : Pos} {Q : Value → Shared → Prop} (I : Inv X pins σ H s) (hg : Gl X x) (hm : X.mg x = none) (hv : bootBuiltins x = some u) (h : Q u s)
    (hn : x ≠ "__name__" := by decide) (hd : (x == ("__debug__" : Str)) = false := by decide) : wpAny (model X.prog X.w) X.A (eval (.Name x pos) X.env) Q E s := by
  obtain ⟨mb, h1, h2⟩ := I.mod.blt
  exact Calls.Name_function_global I.ok.kind hg (Calls.loadGlobal_builtin (by rw [I.ok.glob]; exact I.mod.glob.keeps I.bk) hm (by rw [I.ok.blt]; exact h1.keeps I.bk) ((h2 x hn).trans hv) h) hd
theorem pe_glob {x : Str} {v : V} {u : Value} {pos : Pos} (hg : Gl X x) (hm : X.mg x = some u) (r : RelV v u) (hd : (x == ("__debug__" : Str)) = false := by decide) : PE X (.Name x pos) (tC v) :=
  fun _ _ _ H _ I h => ld_glob I hg hm ⟨v, H, I, r, h⟩ hd
theorem pe_bltn {x : Str} {v : V} {u : Value} {pos : Pos} (hg : Gl X x) (hm : X.mg x = none) (hv : bootBuiltins x = some u) (r : RelV v u) (hn : x ≠ "__name__" := by decide) (hd : (x == ("__debug__" : Str)) = false := by decide) : PE X (.Name x pos) (tC v) :=
  fun _ _ _ H _ I h => ld_blt I hg hm hv ⟨v, H, I, r, h⟩ hn hd

/-! ### arithmetic -/
variable {a b : Expr} {ta tb : TE} {pos : Pos}

/-! ### comparisons -/
noncomputable def PC (X : Cx) (op : CmpOp) (a b : Expr) (t : TE) : Prop :=
  ∀ (pins : List (Addr × Obj)) (s : Shared) (σ : St) (H : Hp) (Q : VK), Inv X pins σ H s → t σ H Q →
    wpAny (model X.prog X.w) X.A (eval a X.env) (fun v s₁ => wpAny (model X.prog X.w) X.A (eval b X.env) (fun u s₂ => wpAny (model X.prog X.w) X.A (compareOp op v u) (EP X pins σ Q) X.xe s₂) X.xe s₁) X.xe s
theorem nobehind (b : Expr) {op : CmpOp} (h : op ≠ .In) (h2 : op ≠ .NotIn) : behindInMarks op b = false := by
  have e1 : (op == CmpOp.In) = false := by cases op <;> first | rfl | exact absurd rfl h
  have e2 : (op == CmpOp.NotIn) = false := by cases op <;> first | rfl | exact absurd rfl h2
  cases b <;> simp [behindInMarks, e1, e2]
noncomputable def tB (t : TE) : TT := fun σ H Q => t σ H fun x H1 => ∃ c, x = .bl c ∧ Q c H1
theorem pt_cmp {op : CmpOp} {t : TE} (h : PC X op a b t) (h1 : behindInMarks op b = false := by first | exact nobehind _ (by decide) (by decide) | rfl) : PT X (.Compare a [op] [b] pos) (tB t) := by
  intro pins s σ H Q I hw
  refine wpAny_isTrue_Compare1 (thn (h pins s σ H _ I hw) fun v s1 h1 => thn h1 fun u s2 h2 => thn h2 fun c s3 ⟨x, H1, I1, r1, q1⟩ => ?_) h1
  obtain ⟨d, rfl, q⟩ := q1
  cases r1
  exact wpAny_truthy_bool ⟨H1, I1, q⟩
theorem pt_val {e : Expr} {t : TE} (h : PE X e t) (he : ∀ whole, isTrue e X.env whole = (do let v ← whole; standAt e.pos; holding [v] (truthy v)) := by intro _; rfl) : PT X e (tB t) := by
  intro pins s σ H Q I hw
  refine isTrue_plain (thn (h pins s σ H _ I hw) fun v s1 ⟨x, H1, I1, r1, q1⟩ => ?_) (he _)
  obtain ⟨d, rfl, q⟩ := q1
  cases r1
  exact wpAny_truthy_bool ⟨H1, I1, q⟩

/-! ### and, or, not -/
variable {tA tB' : TT} {rest : List Expr}
noncomputable def tAnd (t u : TT) : TT := fun σ H Q => t σ H fun c H1 => if c = true then u σ H1 Q else Q false H1
noncomputable def tOr (t u : TT) : TT := fun σ H Q => t σ H fun c H1 => if c = true then Q true H1 else u σ H1 Q
noncomputable def tNot (t : TT) : TT := fun σ H Q => t σ H fun c H1 => Q (!c) H1
theorem pw_or1 (ha : PT X a tA) : PW X (.BoolOp .Or [a] pos) tA := by
  intro wh pins s σ H Q I h
  refine isTrue_or (thn (ha pins s σ H Q I h) fun c s1 e => ?_)
  cases c with
  | false => exact isTrue_or_nil e
  | true => exact e
theorem pw_or (ha : PT X a tA) (hb : PW X (.BoolOp .Or (b :: rest) pos) tB') : PW X (.BoolOp .Or (a :: b :: rest) pos) (tOr tA tB') := by
  intro wh pins s σ H Q I h
  refine isTrue_or (thn (ha pins s σ H _ I h) fun c s1 ⟨H1, I1, q1⟩ => ?_)
  cases c with
  | true => exact ⟨H1, I1, q1⟩
  | false => exact hb wh pins s1 σ H1 Q I1 q1
theorem pt_not (ha : PT X a tA) : PT X (.UnaryOp .Not a pos) (tNot tA) := by
  intro pins s σ H Q I h
  exact isTrue_not (ha pins s σ H (fun c H1 => Q (!c) H1) I h)
noncomputable def tAndV (ta tb : TE) : TE := fun σ H Q => ta σ H fun x H1 => ∃ c, x = .bl c ∧ if c = true then tb σ H1 Q else Q (.bl false) H1
noncomputable def tOrV (ta tb : TE) : TE := fun σ H Q => ta σ H fun x H1 => ∃ c, x = .bl c ∧ if c = true then Q (.bl true) H1 else tb σ H1 Q
noncomputable def tNotV (ta : TE) : TE := fun σ H Q => ta σ H fun x H1 => ∃ c, x = .bl c ∧ Q (.bl (!c)) H1
theorem pe_one {op} {t : TE} (h : PE X a t) : PE X (.BoolOp op [a] pos) t := fun pins s σ H Q I hw => BoolOp_one (h pins s σ H Q I hw)
theorem pe_and (ha : PE X a ta) (hb : PE X (.BoolOp .And (b :: rest) pos) tb) : PE X (.BoolOp .And (a :: b :: rest) pos) (tAndV ta tb) := by
  intro pins s σ H Q I h
  refine BoolOp_and (thn (ha pins s σ H _ I h) fun v s1 ⟨x, H1, I1, r1, q1⟩ => ?_)
  obtain ⟨c, rfl, q1⟩ := q1
  cases r1
  refine wpAny_truthy_bool ?_
  cases c with
  | true => exact hb pins s1 σ H1 Q I1 q1
  | false => exact ⟨.bl false, H1, I1, rfl, q1⟩
theorem pe_not (ha : PE X a ta) : PE X (.UnaryOp .Not a pos) (tNotV ta) := by
  intro pins s σ H Q I h
  refine UnaryOp_ (thn (ha pins s σ H _ I h) fun v s1 ⟨x, H1, I1, r1, q1⟩ => ?_)
  obtain ⟨c, rfl, q1⟩ := q1
  cases r1
  exact not_of (wpAny_truthy_bool ⟨.bl (!c), H1, I1, rfl, q1⟩)
noncomputable def tIf (t : TT) (ta tb : TE) : TE := fun σ H Q => t σ H fun c H1 => if c = true then ta σ H1 Q else tb σ H1 Q
end
end L2

namespace L2
open PySem PySem.Spec PyProof.Rows

/-! ### a list, a tuple that is read: tracked, frozen, or an object of the module -/
noncomputable def SqL (K : PySem.W.Frag) (H : Hp) (a : Addr) (xs : List V) : Prop :=
  Rd H a (.lst xs) ∨
    ∃ (o : Obj) (its : Array Value) (n : Nat), K.lookup a = some o ∧ o.cls = .type "list" ∧ o.dict = none ∧ o.data = .seq its n ∧ its.size ≤ sizeLine ∧ Vals xs its.toList
noncomputable def SqT (K : PySem.W.Frag) (H : Hp) (a : Addr) (xs : List V) : Prop :=
  Rd H a (.tup xs) ∨
    ∃ (o : Obj) (its : Array Value) (n : Nat), K.lookup a = some o ∧ o.cls = .type "tuple" ∧ o.data = .seq its n ∧ its.size ≤ sizeLine ∧ Vals xs its.toList
noncomputable def absV : Value → Option V
  | .none => some .non
  | .bool b => some (.bl b)
  | .int i _ => some (.int i)
  | .str x _ => some (.str x)
  | .bytes b _ => some (.byt b)
  | .float b _ => some (.flt b)
  | .ref a => some (.ref a)
  | .type n => some (.ty n)
  | _ => none
theorem RelV.abs {x : V} {u : Value} (r : RelV x u) : absV u = some x := by
  cases x with
  | non => cases r; rfl
  | bl _ => cases r; rfl
  | int _ => obtain ⟨t, rfl⟩ := r; rfl
  | str _ => obtain ⟨t, rfl⟩ := r; rfl
  | byt _ => obtain ⟨t, rfl⟩ := r; rfl
  | flt _ => obtain ⟨t, rfl⟩ := r; rfl
  | ref _ => cases r; rfl
  | ty _ => cases r; rfl
theorem RelV.inj {x y : V} {u : Value} (r : RelV x u) (q : RelV y u) : x = y := Option.some.inj (r.abs.symm.trans q.abs)
theorem Vals.inj : ∀ {xs ys : List V} {us : List Value}, Vals xs us → Vals ys us → xs = ys
  | _, _, _, .nil, .nil => rfl
  | _, _, _, .cons r t, .cons r' t' => by rw [r.inj r', Vals.inj t t']
section
variable {X : Cx} {pins : List (Addr × Obj)} {σ : St} {H : Hp} {s : Shared} {a : Addr} {xs ys : List V}
theorem SqL.of {K : PySem.W.Frag} (h : H a = some (.lst xs)) : SqL K H a xs := .inl (.inl h)
theorem SqT.of {K : PySem.W.Frag} (h : H a = some (.tup xs)) : SqT K H a xs := .inl (.inl h)
theorem Inv.list (I : Inv X pins σ H s) (h : SqL X.K H a xs) : ∃ its : List Value, Vals xs its ∧ PlainL s.heap a its.toArray ∧ xs.length ≤ sizeLine := by
  rcases h with h | ⟨o, its, n, hk, hc, hd, hs, hz, r⟩
  · obtain ⟨z, its, n, r, e⟩ := h.ok I.hok
    exact ⟨its, r, ⟨_, n, e, rfl, rfl, rfl⟩, z⟩
  · refine ⟨its.toList, r, ⟨o, n, I.kIn a o hk, hc, hd, by simpa using hs⟩, ?_⟩
    have e := r.length
    simp only [Array.length_toList] at e
    omega
theorem Inv.tuple (I : Inv X pins σ H s) (h : SqT X.K H a xs) : ∃ its : List Value, Vals xs its ∧ IsTup s.heap a its.toArray ∧ xs.length ≤ sizeLine := by
  rcases h with h | ⟨o, its, n, hk, hc, hs, hz, r⟩
  · obtain ⟨z, its, r, p⟩ := h.ok I.hok
    exact ⟨its, r, p, z⟩
  · refine ⟨its.toList, r, ⟨o, I.kIn a o hk, hc, n, by simpa using hs⟩, ?_⟩
    have e := r.length
    simp only [Array.length_toList] at e
    omega
theorem Inv.list_inj (I : Inv X pins σ H s) (h : SqL X.K H a xs) (h' : SqL X.K H a ys) : xs = ys := by
  obtain ⟨its, r, ⟨o, n, e, _, _, d⟩, _⟩ := I.list h
  obtain ⟨its', r', ⟨o', n', e', _, _, d'⟩, _⟩ := I.list h'
  rw [e] at e'; cases e'
  rw [d] at d'
  injection d' with d1 _
  have : its = its' := by simpa using congrArg Array.toList d1
  subst this
  exact r.inj r'
theorem Inv.tuple_inj (I : Inv X pins σ H s) (h : SqT X.K H a xs) (h' : SqT X.K H a ys) : xs = ys := by
  obtain ⟨its, r, ⟨o, e, _, n, d⟩, _⟩ := I.tuple h
  obtain ⟨its', r', ⟨o', e', _, n', d'⟩, _⟩ := I.tuple h'
  rw [e] at e'; cases e'
  rw [d] at d'
  injection d' with d1 _
  have : its = its' := by simpa using congrArg Array.toList d1
  subst this
  exact r.inj r'
end

/-! ### another wish about exceptions -/
noncomputable abbrev Cx.wish (X : Cx) (E : Value → Shared → Prop) : Cx := { X with xe := E }
noncomputable abbrev Cx.nox (X : Cx) : Cx := X.wish fun _ _ => False
theorem Cx.Ok.wish {X : Cx} (ok : X.Ok) (E : Value → Shared → Prop) : (X.wish E).Ok :=
  ⟨ok.mod, ok.kind, ok.glob, ok.blt, ok.above, ok.inj, ok.has, ok.cab, ok.hd, ok.frames, ok.stk, ok.exf, ok.bs, ok.bsz, ok.noex, ok.exfs, ok.funs, ok.frf⟩
theorem Cx.Ok.unwish {X : Cx} {E : Value → Shared → Prop} (ok : (X.wish E).Ok) : X.Ok :=
  ⟨ok.mod, ok.kind, ok.glob, ok.blt, ok.above, ok.inj, ok.has, ok.cab, ok.hd, ok.frames, ok.stk, ok.exf, ok.bs, ok.bsz, ok.noex, ok.exfs, ok.funs, ok.frf⟩
section
variable {X : Cx} {pins : List (Addr × Obj)} {σ : St} {H : Hp} {s : Shared} {E : Value → Shared → Prop}
theorem Inv.wish (I : Inv X pins σ H s) (E : Value → Shared → Prop) : Inv (X.wish E) pins σ H s := ⟨I.ok.wish E, I.os, I.bare, I.base, I.loc, I.cell, I.free, I.freeC, I.pin, I.hok, I.len⟩
theorem Inv.unwish (I : Inv (X.wish E) pins σ H s) : Inv X pins σ H s := ⟨I.ok.unwish, I.os, I.bare, I.base, I.loc, I.cell, I.free, I.freeC, I.pin, I.hok, I.len⟩
theorem SP.unwish {D : Ends} {f : Flow} {s' : Shared} (h : SP (X.wish E) pins D f s') : SP X pins D f s' := by
  cases f with
  | next => obtain ⟨σ', H', I, q⟩ := h; exact ⟨σ', H', I.unwish, q⟩
  | brk => obtain ⟨σ', H', I, q⟩ := h; exact ⟨σ', H', I.unwish, q⟩
  | cont => obtain ⟨σ', H', I, q⟩ := h; exact ⟨σ', H', I.unwish, q⟩
  | ret u => obtain ⟨v, σ', H', I, r, q⟩ := h; exact ⟨v, σ', H', I.unwish, r, q⟩
theorem PSs.nox {st : List Stmt} {t : TS} (h : PSs X.nox st t) : PSs X st t := fun pins s σ H D I hw =>
  wpAny_mono (h pins s σ H D (I.wish _) hw) (fun _ _ q => q.unwish) fun _ _ z => False.elim z
end

/-! ### blocks and small statements -/
section
variable {X : Cx} {st : Stmt} {rest : List Stmt} {t u : TS} {e : Expr} {te : TE} {pos : Pos}
noncomputable def tNext : TS := fun D σ H => D.nx σ H
noncomputable def tSeq (t u : TS) : TS := fun D σ H => t { D with nx := u D } σ H
theorem pss_nil : PSs X [] tNext := fun _ _ σ H _ I h => wpAny_execs_nil ⟨σ, H, I, h⟩
theorem pss_cons (h1 : PS X st t) (h2 : PSs X rest u) : PSs X (st :: rest) (tSeq t u) := by
  intro pins s σ H D I h
  refine wpAny_execs_cons (thn (h1 pins s σ H { D with nx := u D } I h) fun f s1 q => ?_)
  cases f with
  | next =>
    obtain ⟨σ', H', I', q⟩ := q
    exact h2 pins s1 σ' H' D I' q
  | ret v => exact q
  | brk => exact q
  | cont => exact q
theorem pss_one (h1 : PS X st t) : PSs X [st] t := by
  intro pins s σ H D I h
  refine wpAny_execs_cons (thn (h1 pins s σ H D I h) fun f s1 q => ?_)
  cases f with
  | next => exact wpAny_execs_nil q
  | ret v => exact q
  | brk => exact q
  | cont => exact q
noncomputable def tCont : TS := fun D σ H => D.ct σ H
theorem ps_continue : PS X (.Continue pos) tCont := fun _ _ σ H _ I h => wpAny_Continue ⟨σ, H, I, h⟩
theorem Inv.quiet {pins : List (Addr × Obj)} {σ : St} {H : Hp} {s : Shared} (I : Inv X pins σ H s) : interactive X.env = false := by simp [interactive, I.ok.kind]
noncomputable def tDrop (te : TE) : TS := fun D σ H => te σ H fun _ H1 => D.nx σ H1
theorem ps_expr (he : PE X e te) (hs : swapsWith e none pos.line X.env = pure false := by rfl) : PS X (.Expr e pos) (tDrop te) := by
  intro pins s σ H D I h
  exact wpAny_Expr_any (thn (he pins s σ H _ I h) fun v s1 ⟨x, H1, I1, r1, q1⟩ => ⟨σ, H1, I1, q1⟩) I.quiet hs
noncomputable def tRet (te : TE) : TS := fun D σ H => te σ H D.rt
theorem ps_ret (he : PE X e te) : PS X (.Return (some e) pos) (tRet te) := by
  intro pins s σ H D I h
  exact wpAny_Return_some (thn (he pins s σ H _ I h) fun v s1 ⟨x, H1, I1, r1, q1⟩ => ⟨x, σ, H1, I1, r1, q1⟩)
noncomputable def tRetN : TS := fun D _ H => D.rt .non H
noncomputable def tIfS (c : TT) (t u : TS) : TS := fun D σ H => c σ H fun b H1 => if b = true then t D σ H1 else u D σ H1
theorem ps_if {c : Expr} {a b : List Stmt} {tc : TT} (hc : PT X c tc) (ha : PSs X a t) (hb : PSs X b u) : PS X (.If c a b pos) (tIfS tc t u) := by
  intro pins s σ H D I h
  refine wpAny_If (thn (hc pins s σ H _ I h) fun d s1 ⟨H1, I1, q1⟩ => ?_)
  cases d with
  | true => exact ha pins s1 σ H1 D I1 q1
  | false => exact hb pins s1 σ H1 D I1 q1
noncomputable def tNever : TS := fun _ _ _ => False
theorem ps_never : PS X st tNever := fun _ _ _ _ _ _ h => h.elim
end

/-! ### targets -/
noncomputable abbrev TG := V → St → Hp → (St → Hp → Prop) → Prop
noncomputable abbrev TGs := List V → St → Hp → (St → Hp → Prop) → Prop
noncomputable def PG (X : Cx) (target : Expr) (t : TG) : Prop :=
  ∀ (pins : List (Addr × Obj)) (s : Shared) (σ : St) (H : Hp) (v : V) (u : Value) (Q : St → Hp → Prop), Inv X pins σ H s → RelV v u → t v σ H Q →
    wpAny (model X.prog X.w) X.A (assign target X.env u) (fun _ s' => ∃ σ' H', Inv X pins σ' H' s' ∧ Q σ' H') X.xe s
noncomputable def PGs (X : Cx) (ts : List Expr) (t : TGs) : Prop :=
  ∀ (pins : List (Addr × Obj)) (s : Shared) (σ : St) (H : Hp) (vs : List V) (us : List Value) (Q : St → Hp → Prop), Inv X pins σ H s → Vals vs us → t vs σ H Q →
    wpAny (model X.prog X.w) X.A (assignInOrder ((assignEach ts X.env).map (·.2)) us) (fun _ s' => ∃ σ' H', Inv X pins σ' H' s' ∧ Q σ' H') X.xe s
section
variable {X : Cx} {pos : Pos}
noncomputable def gName (i : Nat) : TG := fun v σ H Q => Q (σ.set i (some v)) H
theorem pg_name {i : Nat} {x : Str} (hN : X.N.Nodup) (hi : X.N[i]? = some x) (hx : Loc X.env.scope x) (hf : X.fn x = true ∨ X.env.scope.names.lookup x = some .local := by first | exact .inl rfl | exact .inr rfl | assumption) : PG X (.Name x pos) (gName i) := by
  intro pins s σ H v u Q I r h
  exact wpAny_assign_Name (store_ok I hN hi hx r (fun s' I' => ⟨_, H, I', h⟩) hf)
noncomputable def gNil : TGs := fun vs σ H Q => vs = [] ∧ Q σ H
noncomputable def gCons (t : TG) (u : TGs) : TGs := fun vs σ H Q => ∃ v r, vs = v :: r ∧ t v σ H fun σ' H' => u r σ' H' Q
theorem pgs_nil : PGs X [] gNil := by
  intro pins s σ H vs us Q I r h
  obtain ⟨e, h⟩ := h
  subst e
  cases r
  exact assignInOrder_nil ⟨σ, H, I, h⟩
theorem pgs_cons {e : Expr} {es : List Expr} {t : TG} {u : TGs} (h1 : PG X e t) (h2 : PGs X es u)
    (hs : (assignEach (e :: es) X.env).map (·.2) = assign e X.env :: (assignEach es X.env).map (·.2) := by rfl) : PGs X (e :: es) (gCons t u) := by
  intro pins s σ H vs us Q I r h
  obtain ⟨v, vr, e1, h⟩ := h
  subst e1
  cases r with
  | cons r rr =>
    rw [hs]
    refine assignInOrder_cons (thn (h1 pins s σ H _ _ _ I r h) fun _ s1 ⟨σ1, H1, I1, q1⟩ => ?_)
    exact h2 pins s1 σ1 H1 _ _ Q I1 rr q1
noncomputable def gTup (K : PySem.W.Frag) (n : Nat) (t : TGs) : TG := fun v σ H Q => ∃ a xs, v = .ref a ∧ SqT K H a xs ∧ xs.length = n ∧ t xs σ H Q
theorem pg_tup {es : List Expr} {k : Nat} {t : TGs} {n : Nat} (hc : X.calm = true) (h : PGs X es t)
    (hn : (assignEach es X.env).length = n := by rfl) (hst : (assignEach es X.env).findIdx? (·.1) = none := by rfl) : PG X (.Tuple es k pos) (gTup X.K n t) := by
  intro pins s σ H v u Q I r hw
  obtain ⟨a, xs, e1, hq, hl, hw⟩ := hw
  subst e1
  cases r
  obtain ⟨its, rv, ht, hz⟩ := I.tuple hq
  refine assign_Tuple_tuple (I.ok.hd hc) ht (by simp [hn, ← hl, rv.length]) hst fun h' hx => ?_
  have I1 : Inv X pins σ H { s with heap := h' } := I.kept (t' := s.toks) fun b o e => hx b o (Nat.ne_of_lt (Heap.lt_size e)) e
  exact h pins _ σ H xs _ Q I1 (by simpa using rv) hw
noncomputable def tAsg (te : TE) (g : TG) : TS := fun D σ H => te σ H fun x H1 => g x σ H1 D.nx
theorem ps_asg {tg e : Expr} {te : TE} {g : TG} (he : PE X e te) (hg : PG X tg g) (hs : swapsWithSole [tg] e pos.line X.env = pure false := by rfl) (hw : swappedStores [tg] e X.env = pure none := by rfl)
    (h1 : (assignEach [tg] X.env).map (·.2) = [assign tg X.env] := by rfl) : PS X (.Assign [tg] e pos) (tAsg te g) := by
  intro pins s σ H D I h
  refine wpAny_Assign_stores (thn (he pins s σ H _ I h) fun v s1 ⟨x, H1, I1, r1, q1⟩ => ?_) hs hw
  rw [h1]
  exact thn (hg pins s1 σ H1 x v _ I1 r1 q1) fun _ s2 q => q
theorem ps_set {i : Nat} {x : Str} {e : Expr} {te : TE} {pos' : Pos} (hN : X.N.Nodup) (hi : X.N[i]? = some x) (hx : Loc X.env.scope x) (he : PE X e te) (hs : swapsWith e (some (.Name x pos')) pos.line X.env = pure false := by rfl) (hf : X.fn x = true ∨ X.env.scope.names.lookup x = some .local := by first | exact .inl rfl | exact .inr rfl | assumption) :
    PS X (.Assign [.Name x pos'] e pos) (tAsg te (gName i)) := by
  intro pins s σ H D I h
  refine wpAny_Assign_Name (thn (he pins s σ H _ I h) fun v s1 ⟨y, H1, I1, r1, q1⟩ => ?_) hs
  exact store_ok I1 hN hi hx r1 (fun s2 I2 => ⟨_, H1, I2, q1⟩) hf
end

/-! ### while -/
section
variable {X : Cx} {pos : Pos}
end

/-! ### what a loop or a comprehension walks -/
set_option genInjectivity false in
structure It where
  go : Nat → Hp → Prop
  yld : Nat → Hp → V → Hp → Prop
  stop : Nat → Hp → Prop
noncomputable def FpOk (X : Cx) (pins : List (Addr × Obj)) (H : Hp) (b : Addr) : Prop :=
  H b = none ∧ b ≠ X.env.locals ∧ b ∉ X.fs ∧ (b ∈ X.ex ∨ X.s₀.heap.objs.size ≤ b) ∧ (∀ x c, X.env.cells.lookup x = some c → c ≠ b) ∧ ∀ p ∈ X.pn ++ pins, p.1 ≠ b
theorem Inv.fpOk {X : Cx} {pins : List (Addr × Obj)} {σ : St} {H H' : Hp} {s : Shared} {b : Addr} (I : Inv X pins σ H s) (hb : s.heap.objs.size ≤ b) (hn : H' b = none) : FpOk X pins H' b := by
  refine ⟨hn, Nat.ne_of_gt (Nat.lt_of_lt_of_le I.lt hb), I.nofs hb, .inr (Nat.le_trans I.sz hb), fun x c e z => ?_, fun p hp z => ?_⟩
  · obtain ⟨v, q⟩ := I.cell x c e
    exact absurd (Nat.lt_of_lt_of_le q.lt (by rw [z]; exact hb)) (Nat.lt_irrefl _)
  · exact absurd (Nat.lt_of_lt_of_le (Heap.lt_size (I.pin p hp).1) (by rw [z]; exact hb)) (Nat.lt_irrefl _)
set_option genInjectivity false in
structure Turn (P : Program) (w : World) (K : PySem.W.Frag) (tg : Expr) (J : It) (fp : List Addr) (it : Addr) (tn : Nat → Heap → Prop) : Prop where
  mem : it ∈ fp
  obj : ∀ i h, tn i h → ∀ b ∈ fp, ∃ o, h.get? b = some o ∧ ∀ v, o.data ≠ .cell v
  keep : ∀ i h h', tn i h → (∀ b ∈ fp, ∀ o, h.get? b = some o → h'.get? b = some o) → tn i h'
  item : ∀ (X : Cx), X.prog = P → X.w = w → X.K = K → X.calm = true → ∀ (i : Nat) (pins : List (Addr × Obj)) (s : Shared) (σ : St) (H : Hp) (E : Value → Shared → Prop), Inv X pins σ H s → (∀ b ∈ fp, FpOk X pins H b) → tn i s.heap → J.go i H →
    wpAny (model P w) X.A (pyNext (.ref it)) (fun r s1 => ∃ u, r = some u ∧
      wpAny (model P w) X.A (letOwnedTupleGo tg (.ref it) u) (fun _ s2 => ∃ x H', Inv X pins σ H' s2 ∧ RelV x u ∧ J.yld i H x H' ∧ tn (i + 1) s2.heap ∧ ∀ b ∈ fp, H' b = none) E s1) E s
  done : ∀ (X : Cx), X.prog = P → X.w = w → X.K = K → X.calm = true → ∀ (i : Nat) (pins : List (Addr × Obj)) (s : Shared) (σ : St) (H : Hp) (E : Value → Shared → Prop), Inv X pins σ H s → (∀ b ∈ fp, FpOk X pins H b) → tn i s.heap → J.stop i H →
    wpAny (model P w) X.A (pyNext (.ref it)) (fun r s1 => r = none ∧ Inv X pins σ H s1) E s
  self : ∀ (A : Around) (i : Nat) (s : Shared) (Q : Value → Shared → Prop) (E : Value → Shared → Prop), tn i s.heap → Q (.ref it) s → wpAny (model P w) A (pyIter (.ref it)) Q E s
noncomputable abbrev TI := St → Hp → (It → Hp → Prop) → Prop
noncomputable def PIE (X : Cx) (pins : List (Addr × Obj)) (σ : St) (tg : Expr) (R : It → Hp → Prop) (itv : Value) (s2 : Shared) : Prop :=
  ∃ (it : Addr) (fp : List Addr) (tn : Nat → Heap → Prop) (J : It) (H' : Hp), itv = .ref it ∧ Inv X pins σ H' s2 ∧ Turn X.prog X.w X.K tg J fp it tn ∧ tn 0 s2.heap ∧ (∀ b ∈ fp, FpOk X pins H' b) ∧ R J H'
noncomputable def PI (X : Cx) (tg iter : Expr) (wi : TI) : Prop :=
  ∀ (pins : List (Addr × Obj)) (s : Shared) (σ : St) (H : Hp) (R : It → Hp → Prop), Inv X pins σ H s → wi σ H R →
    wpAny (model X.prog X.w) X.A (eval iter X.env) (fun v s1 => wpAny (model X.prog X.w) X.A (pyIter v) (PIE X pins σ tg R) X.xe s1) X.xe s

theorem go_of {M : Model} {A : Around} {E : Value → Shared → Prop} {s : Shared} {tg : Expr} {it : Addr} {u : Value} {o : Obj} {n : String} {vs : Array Value} {Q : Unit → Shared → Prop} (ho : s.heap.get? it = some o) (hc : o.cls = .type n) (hd : o.data = .fields vs)
    (hn : ["enumerate", "zip", "dict_itemiterator", "dict_reverseitemiterator", "odict_iterator", "itertools.zip_longest", "itertools.pairwise"].contains n = false) (hQ : Q () s) : wpAny M A (letOwnedTupleGo tg (.ref it) u) Q E s := by
  unfold letOwnedTupleGo
  cases tg <;> first
    | exact wpAny_pure hQ
    | (cases u <;> first
        | exact wpAny_pure hQ
        | (refine wpAny_bind (wpAny_load ho ?_)
           rw [hc, hd]
           show wpAny M A (if (["enumerate", "zip", "dict_itemiterator", "dict_reverseitemiterator", "odict_iterator", "itertools.zip_longest", "itertools.pairwise"].contains n && vs[0]? == some (rawInt _)) = true then _ else _) Q E s
           rw [if_neg (by intro h; rw [hn, Bool.false_and] at h; cases h)]
           exact wpAny_pure hQ))

noncomputable def Itl (K : PySem.W.Frag) (a : Addr) : It :=
  ⟨fun i H => ∃ xs x, SqL K H a xs ∧ xs[i]? = some x, fun i H x H' => H' = H ∧ ∀ xs, SqL K H a xs → xs[i]? = some x, fun i H => ∃ xs, SqL K H a xs ∧ xs.length ≤ i⟩
noncomputable def Itt (K : PySem.W.Frag) (a : Addr) : It :=
  ⟨fun i H => ∃ xs x, SqT K H a xs ∧ xs[i]? = some x, fun i H x H' => H' = H ∧ ∀ xs, SqT K H a xs → xs[i]? = some x, fun i H => ∃ xs, SqT K H a xs ∧ xs.length ≤ i⟩
noncomputable def Itr (lo : Int) (n : Nat) : It := ⟨fun i _ => i < n, fun i H x H' => H' = H ∧ x = .int (lo + i), fun i _ => n ≤ i⟩
theorem turn_list {P : Program} {w : World} {K : PySem.W.Frag} {tg : Expr} (a it : Addr) : Turn P w K tg (Itl K a) [it] it (fun i h => h.IsListIter it a i) where
  mem := by simp
  obj := fun i h st b hb => by
    have e : b = it := by simpa using hb
    subst e
    obtain ⟨o, e, c, d⟩ := st
    exact ⟨o, e, fun v z => by rw [d] at z; cases z⟩
  keep := fun i h h' st k => st.at fun o e => k it (by simp) o e
  item := by
    intro X hP hw hK hc i pins s σ H E I hf st hg
    subst hP hw hK
    obtain ⟨xs, x, hq, hx⟩ := hg
    obtain ⟨its, rv, p, hz⟩ := I.list hq
    obtain ⟨u, hu, ru⟩ := rv.get hx
    obtain ⟨f0, f1, f2, f3, f4, f5⟩ := hf it (by simp)
    refine wpAny_pyNext_list_item st p.isList (x := u) (by simpa using hu) fun h' st' sb => ?_
    have I1 : Inv X pins σ H { s with heap := h' } := I.turned (t' := s.toks) (fun b o hb e => (sb.2 b hb).trans e) f0 f1 f3 f4 f5
    obtain ⟨o, e, c, d⟩ := id st'
    exact ⟨u, rfl, go_of (s := { s with heap := h' }) e c d (by decide) ⟨x, H, I1, ru, ⟨rfl, fun ys hy => by rw [I.list_inj hy hq]; exact hx⟩, st', fun b hb => (hf b hb).1⟩⟩
  done := by
    intro X hP hw hK hc i pins s σ H E I hf st hg
    subst hP hw hK
    obtain ⟨xs, hq, hx⟩ := hg
    obtain ⟨its, rv, p, hz⟩ := I.list hq
    obtain ⟨f0, f1, f2, f3, f4, f5⟩ := hf it (by simp)
    have hl := rv.length
    exact wpAny_pyNext_list_end (I.ok.hd hc) st p.isList (by simp; omega) fun h' eb => ⟨rfl, I.turned (t' := s.toks) (fun b o hb e => eb b o hb e) f0 f1 f3 f4 f5⟩
  self := fun _ _ _ _ _ st h => wpAny_pyIter_listiter st h
theorem turn_range {P : Program} {w : World} {K : PySem.W.Frag} {tg : Expr} (it : Addr) (lo : Int) (n : Nat) : Turn P w K tg (Itr lo n) [it] it (fun i h => IsRangeIter h it (lo + (i : Nat) * 1) ((n : Int) - (i : Nat)) 1) where
  mem := by simp
  obj := fun i h st b hb => by
    have e : b = it := by simpa using hb
    subst e
    exact ⟨_, st, fun v z => by
      have z' : Data.fields _ = Data.cell v := z
      cases z'⟩
  keep := fun i h h' st k => k it (by simp) _ st
  item := by
    intro X hP hw hK hc i pins s σ H E I hf st hg
    subst hP hw hK
    obtain ⟨f0, f1, f2, f3, f4, f5⟩ := hf it (by simp)
    have W := Walks.range (prog := X.prog) (w := X.w) (I.ok.hd hc) it lo 1 n
    refine W.item i s _ _ hg st fun v h' tk hv st' kk => ?_
    obtain ⟨t, rfl⟩ := hv
    have I1 : Inv X pins σ H { s with heap := h', toks := tk } := I.turned (fun b o hb e => kk b o (by simpa using hb) e) f0 f1 f3 f4 f5
    refine ⟨_, rfl, go_of (s := { s with heap := h', toks := tk }) (n := "range_iterator") st' rfl rfl (by decide) ⟨.int (lo + i), H, I1, ⟨t, ?_⟩, ⟨rfl, rfl⟩, st', fun b hb => (hf b hb).1⟩⟩
    rw [Int.mul_one]
  done := by
    intro X hP hw hK hc i pins s σ H E I hf st hg
    subst hP hw hK
    obtain ⟨f0, f1, f2, f3, f4, f5⟩ := hf it (by simp)
    exact wpAny_pyNext_range_end (I.ok.hd hc) st (by have : n ≤ i := hg; omega) fun h' eb => ⟨rfl, I.turned (t' := s.toks) (fun b o hb e => eb b o hb e) f0 f1 f3 f4 f5⟩
  self := fun _ _ _ _ _ st h => wpAny_pyIter_rangeiter st h
end L2

namespace L2
open PySem PySem.Spec PyProof.Rows
section
variable {X : Cx} {tg : Expr}
noncomputable def iList (K : PySem.W.Frag) (tl : TE) : TI := fun σ H R => tl σ H fun x H1 => ∃ a, x = .ref a ∧ (∃ xs, SqL K H1 a xs) ∧ R (Itl K a) H1
noncomputable def iTup (K : PySem.W.Frag) (tl : TE) : TI := fun σ H R => tl σ H fun x H1 => ∃ a, x = .ref a ∧ (∃ xs, SqT K H1 a xs) ∧ R (Itt K a) H1
theorem pi_list {l : Expr} {tl : TE} (hl : PE X l tl) : PI X tg l (iList X.K tl) := by
  intro pins s σ H R I h
  refine thn (hl pins s σ H _ I h) fun v s1 ⟨x, H1, I1, r1, q1⟩ => ?_
  obtain ⟨a, e, ⟨xs, hq⟩, q⟩ := q1
  subst e
  cases r1
  obtain ⟨its, rv, p, hz⟩ := I1.list hq
  refine wpAny_pyIter_list p.isList ?_
  refine ⟨s1.heap.objs.size, [s1.heap.objs.size], _, _, H1, rfl, I1.kept (t' := s1.toks) fun b o e => Heap.get?_push_of_some _ e, turn_list a _, ⟨_, Heap.get?_push_size _ rfl, rfl, rfl⟩, fun b hb => ?_, q⟩
  have e : b = s1.heap.objs.size := by simpa using hb
  subst e
  exact I1.fpOk (Nat.le_refl _) (I1.hok.fresh (Nat.le_refl _))
theorem range_it {pins : List (Addr × Obj)} {σ : St} {H : Hp} {s : Shared} {R : It → Hp → Prop} {E : Value → Shared → Prop} {lo hi : Int} {t u v : Tok} {tk : Nat} (I : Inv X pins σ H s) (h1 : -(2 ^ 62) ≤ lo) (h2 : lo < 2 ^ 62) (h3 : -(2 ^ 62) ≤ hi) (h4 : hi < 2 ^ 62)
    (q : R (Itr lo (hi - lo).toNat) H) : wpAny (model X.prog X.w) X.A (pyIter (.ref s.heap.objs.size)) (PIE X pins σ tg R) E { s with heap := s.heap.push { cls := .type "range", data := .fields #[.int lo t, .int hi u, .int 1 v] }, toks := tk } := by
  refine wpAny_pyIter_range (IsRange.new ..) (small_one h1 h2 h3 h4) ?_
  have I1 : Inv X pins σ H { s with heap := s.heap.push { cls := .type "range", data := .fields #[.int lo t, .int hi u, .int 1 v] }, toks := tk } := I.kept fun b o e => Heap.get?_push_of_some _ e
  refine ⟨(s.heap.push { cls := .type "range", data := .fields #[.int lo t, .int hi u, .int 1 v] }).objs.size, [(s.heap.push { cls := .type "range", data := .fields #[.int lo t, .int hi u, .int 1 v] }).objs.size], _, _, H, rfl,
    I1.kept (t' := tk) fun b o e => Heap.get?_push_of_some _ e, turn_range _ lo (hi - lo).toNat, ?_, fun b hb => ?_, q⟩
  · have e1 : lo + ((0 : Nat) : Int) * 1 = lo := by simp
    have e2 : (((hi - lo).toNat : Nat) : Int) - ((0 : Nat) : Int) = Builtin.Range.rangeSize lo hi 1 := by rw [rangeSize_one]; split <;> omega
    show IsRangeIter _ _ (lo + ((0 : Nat) : Int) * 1) ((((hi - lo).toNat : Nat) : Int) - ((0 : Nat) : Int)) 1
    rw [e1, e2]
    exact Heap.get?_push_size _ rfl
  · have e : b = (s.heap.push { cls := .type "range", data := .fields #[.int lo t, .int hi u, .int 1 v] }).objs.size := by simpa using hb
    subst e
    exact I1.fpOk (Nat.le_refl _) (I1.hok.fresh (Nat.le_refl _))
noncomputable def iRng1 (ta : TA) : TI := fun σ H R => ta σ H fun vs H1 => ∃ j : Int, vs = [.int j] ∧ -(2 ^ 62) ≤ j ∧ j < 2 ^ 62 ∧ R (Itr 0 j.toNat) H1
noncomputable def iRng2 (ta : TA) : TI := fun σ H R => ta σ H fun vs H1 => ∃ i j : Int, vs = [.int i, .int j] ∧ (-(2 ^ 62) ≤ i ∧ i < 2 ^ 62 ∧ -(2 ^ 62) ≤ j ∧ j < 2 ^ 62) ∧ R (Itr i (j - i).toNat) H1
theorem pi_range1 {a : Expr} {ta : TA} {p pos : Pos} (hg : Gl X "range") (hm : X.mg "range" = none) (ha : PA X [a] ta) (hs : starEach [a] X.env = [(false, eval a X.env)] := by rfl) : PI X tg (.Call (.Name "range" p) [a] [] pos) (iRng1 ta) := by
  intro pins s σ H R I h
  refine Call_ (ld_blt I hg hm boot_range (PyProof.Rows.callWith_type1 (thn (ha pos pins s σ H _ I h) fun us s1 ⟨vs, H1, I1, r1, q1⟩ => ?_) hs rfl))
  obtain ⟨j, e, q1, q2, q⟩ := q1
  subst e
  cases r1 with
  | cons r rr =>
    cases rr
    obtain ⟨t, rfl⟩ := r
    exact call_range_1 (range_it I1 (by omega) (by omega) q1 q2 (by simpa using q))

/-! ### for -/
noncomputable def tFor (wi : TI) (g : TG) (tb : TS) : TS := fun D σ H => wi σ H fun J H1 => ∃ W : Nat → Nat → St → Hp → Prop, (∃ m, W 0 m σ H1) ∧ ∀ i m σ H, W i m σ H →
  (J.stop i H ∧ D.nx σ H) ∨ (J.go i H ∧ ∃ N : St → Hp → Prop, (∀ σ' H', N σ' H' → ∃ m', m' < m ∧ W (i + 1) m' σ' H') ∧ ∀ x H', J.yld i H x H' → g x σ H' fun σ2 H2 => tb { D with nx := N, ct := N, bk := D.nx } σ2 H2)
noncomputable def pinsAt (fp : List Addr) (h : Heap) : List (Addr × Obj) := fp.filterMap fun b => (h.get? b).map fun o => (b, o)
theorem mem_pinsAt {fp : List Addr} {h : Heap} {b : Addr} {o : Obj} (hb : b ∈ fp) (e : h.get? b = some o) : (b, o) ∈ pinsAt fp h := List.mem_filterMap.mpr ⟨b, hb, by rw [e]; rfl⟩
theorem of_pinsAt {fp : List Addr} {h : Heap} {p : Addr × Obj} (hp : p ∈ pinsAt fp h) : p.1 ∈ fp ∧ h.get? p.1 = some p.2 := by
  obtain ⟨b, hb, e⟩ := List.mem_filterMap.mp hp
  cases q : h.get? b with
  | none => rw [q] at e; cases e
  | some o =>
    rw [q] at e
    have e' : (b, o) = p := Option.some.inj e
    subst e'
    exact ⟨hb, q⟩
theorem Inv.pinned {pins : List (Addr × Obj)} {σ : St} {H : Hp} {s : Shared} {fp : List Addr} (I : Inv X pins σ H s) (hf : ∀ b ∈ fp, FpOk X pins H b) (ho : ∀ b ∈ fp, ∃ o, s.heap.get? b = some o ∧ ∀ v, o.data ≠ .cell v) : Inv X (pins ++ pinsAt fp s.heap) σ H s :=
  I.pins_of fun p hp => (List.mem_append.mp hp).elim (fun z => I.pin p (List.mem_append_right _ z)) fun z => by
    obtain ⟨hb, e⟩ := of_pinsAt z
    obtain ⟨f0, f1, f2, _⟩ := hf p.1 hb
    obtain ⟨o, e', d⟩ := ho p.1 hb
    rw [e] at e'; cases e'
    exact ⟨e, f0, f1, f2, d⟩
theorem Inv.unpinned {pins pl : List (Addr × Obj)} {σ : St} {H : Hp} {s : Shared} (I : Inv X (pins ++ pl) σ H s) : Inv X pins σ H s := I.pins_of fun p hp => I.pin p (List.mem_append_right _ (List.mem_append_left _ hp))
theorem ps_for {iter : Expr} {body : List Stmt} {wi : TI} {g : TG} {tb : TS} {pos : Pos} (hp : PassesOwn (model X.prog X.w) X.A X.env X.xe) (hc : X.calm = true) (hi : PI X tg iter wi) (hg : PG X tg g) (hb : PSs X body tb)
    (hs : ∀ x, foldedSetIterable iter X.env x = pure x := by intro _; rfl) : PS X (.For tg iter body [] pos) (tFor wi g tb) := by
  intro pins s σ H D I h
  refine wpAny_For (thn (hi pins s σ H _ I h) fun v s1 h1 => thn h1 fun itv s2 h2 => ?_) hs
  obtain ⟨it, fp, tn, J, H2, e, I2, T, st2, f2, W, ⟨m0, w0⟩, turn⟩ := h2
  subst e
  -- what stays true of the iterator's objects through the loop
  have stat : ∀ {H' : Hp}, (∀ b ∈ fp, H' b = none) → ∀ b ∈ fp, FpOk X pins H' b := fun hn b hb => ⟨hn b hb, (f2 b hb).2⟩
  refine codeAny_forLoop_any (fun n s' => ∃ i σ' H', Inv X pins σ' H' s' ∧ tn i s'.heap ∧ (∀ b ∈ fp, H' b = none) ∧ W i n σ' H') ?_ m0 ⟨0, σ, H2, I2, st2, fun b hb => (f2 b hb).1, w0⟩
  rintro n s3 ⟨i, σ3, H3, I3, st3, fr3, w3⟩
  rcases turn i n σ3 H3 w3 with ⟨stop, qn⟩ | ⟨go, N, hN, step⟩
  · refine wpAny_passesOwn hp (thn (T.done X rfl rfl rfl hc i pins s3 σ3 H3 X.xe I3 (stat fr3) st3 stop) fun r s4 ⟨hr, I4⟩ => ?_)
    subst hr
    exact wpAny_execs_nil ⟨σ3, H3, I4, qn⟩
  · refine wpAny_passesOwn hp (thn (T.item X rfl rfl rfl hc i pins s3 σ3 H3 X.xe I3 (stat fr3) st3 go) fun r s4 ⟨u, hr, h4⟩ => ?_)
    subst hr
    refine wpAny_passesOwn hp (thn h4 fun _ s5 ⟨x, H5, I5, r5, y5, st5, fr5⟩ => ?_)
    have I5' := I5.pinned (stat fr5) (T.obj _ _ st5)
    refine wpAny_passesOwn hp (thn (hg _ s5 σ3 H5 x u _ I5' r5 (step x H5 y5)) fun _ s6 ⟨σ6, H6, I6, q6⟩ => ?_)
    refine wpAny_passesOwn hp (thn (hb _ s6 σ6 H6 _ I6 q6) fun f s7 q7 => ?_)
    have again : ∀ {σ7 : St} {H7 : Hp}, Inv X (pins ++ pinsAt fp s5.heap) σ7 H7 s7 → N σ7 H7 → ∃ m, m < n ∧ ∃ i σ' H', Inv X pins σ' H' s7 ∧ tn i s7.heap ∧ (∀ b ∈ fp, H' b = none) ∧ W i m σ' H' := fun {σ7 H7} I7 n7 => by
      obtain ⟨m', hm, w7⟩ := hN σ7 H7 n7
      refine ⟨m', hm, i + 1, σ7, H7, I7.unpinned, T.keep _ _ _ st5 fun b hb o e => (I7.pin (b, o) (List.mem_append_right _ (List.mem_append_right _ (mem_pinsAt hb e)))).1, fun b hb => ?_, w7⟩
      obtain ⟨o, e, d⟩ := T.obj _ _ st5 b hb
      exact (I7.pin (b, o) (List.mem_append_right _ (List.mem_append_right _ (mem_pinsAt hb e)))).2.1
    cases f with
    | next => obtain ⟨σ7, H7, I7, n7⟩ := q7; exact again I7 n7
    | cont => obtain ⟨σ7, H7, I7, n7⟩ := q7; exact again I7 n7
    | brk => obtain ⟨σ7, H7, I7, q7⟩ := q7; exact ⟨σ7, H7, I7.unpinned, q7⟩
    | ret v => obtain ⟨x7, σ7, H7, I7, r7, q7⟩ := q7; exact ⟨x7, σ7, H7, I7.unpinned, r7, q7⟩
end

/-! ### the forms one uses -/
theorem for_list {K : PySem.W.Frag} {a : Addr} {xs : List V} {g : TG} {tb : TS} {D : Ends} {σ : St} {H : Hp} (Pv : Nat → St → Hp → Prop) (h0 : Pv 0 σ H) (hl : ∀ i σ H, i ≤ xs.length → Pv i σ H → SqL K H a xs)
    (hs : ∀ i x σ H, xs[i]? = some x → Pv i σ H → g x σ H fun σ2 H2 => tb { D with nx := Pv (i + 1), ct := Pv (i + 1), bk := D.nx } σ2 H2) (hd : ∀ σ H, Pv xs.length σ H → D.nx σ H) :
    ∃ W : Nat → Nat → St → Hp → Prop, (∃ m, W 0 m σ H) ∧ ∀ i m σ H, W i m σ H →
      ((Itl K a).stop i H ∧ D.nx σ H) ∨ ((Itl K a).go i H ∧ ∃ N : St → Hp → Prop, (∀ σ' H', N σ' H' → ∃ m', m' < m ∧ W (i + 1) m' σ' H') ∧ ∀ x H', (Itl K a).yld i H x H' → g x σ H' fun σ2 H2 => tb { D with nx := N, ct := N, bk := D.nx } σ2 H2) := by
  refine ⟨fun i m σ H => m = xs.length - i ∧ i ≤ xs.length ∧ Pv i σ H, ⟨xs.length, by simp, Nat.zero_le _, h0⟩, ?_⟩
  rintro i m σ H ⟨rfl, hi, p⟩
  have q := hl i σ H hi p
  by_cases hlt : i < xs.length
  · refine .inr ⟨⟨xs, xs[i], q, by simp [hlt]⟩, Pv (i + 1), fun σ' H' p' => ⟨xs.length - (i + 1), by omega, rfl, hlt, p'⟩, fun x H' y => ?_⟩
    obtain ⟨e, y⟩ := y
    subst e
    exact hs i x σ _ (y xs q) p
  · have e : i = xs.length := by omega
    subst e
    exact .inl ⟨⟨xs, q, Nat.le_refl _⟩, hd σ H p⟩
theorem for_range {lo : Int} {n : Nat} {g : TG} {tb : TS} {D : Ends} {σ : St} {H : Hp} (Pv : Nat → St → Hp → Prop) (h0 : Pv 0 σ H)
    (hs : ∀ i σ H, i < n → Pv i σ H → g (.int (lo + i)) σ H fun σ2 H2 => tb { D with nx := Pv (i + 1), ct := Pv (i + 1), bk := D.nx } σ2 H2) (hd : ∀ σ H, Pv n σ H → D.nx σ H) :
    ∃ W : Nat → Nat → St → Hp → Prop, (∃ m, W 0 m σ H) ∧ ∀ i m σ H, W i m σ H →
      ((Itr lo n).stop i H ∧ D.nx σ H) ∨ ((Itr lo n).go i H ∧ ∃ N : St → Hp → Prop, (∀ σ' H', N σ' H' → ∃ m', m' < m ∧ W (i + 1) m' σ' H') ∧ ∀ x H', (Itr lo n).yld i H x H' → g x σ H' fun σ2 H2 => tb { D with nx := N, ct := N, bk := D.nx } σ2 H2) := by
  refine ⟨fun i m σ H => m = n - i ∧ i ≤ n ∧ Pv i σ H, ⟨n, by simp, Nat.zero_le _, h0⟩, ?_⟩
  rintro i m σ H ⟨rfl, hi, p⟩
  by_cases hlt : i < n
  · refine .inr ⟨hlt, Pv (i + 1), fun σ' H' p' => ⟨n - (i + 1), by omega, rfl, hlt, p'⟩, fun x H' y => ?_⟩
    obtain ⟨e, y⟩ := y
    subst e y
    exact hs i σ _ hlt p
  · have e : i = n := by omega
    subst e
    exact .inl ⟨Nat.le_refl _, hd σ H p⟩
end L2

namespace L2
open PySem PySem.Spec PyProof.Rows

noncomputable abbrev R2 := V → V → Hp → VK → Prop
noncomputable def OpR (X : Cx) (f : Value → Value → Sem Value) (r : R2) : Prop :=
  ∀ (pins : List (Addr × Obj)) (s : Shared) (σ : St) (H : Hp) (x y : V) (v u : Value) (Q : VK), Inv X pins σ H s → RelV x v → RelV y u → r x y H Q →
    wpAny (model X.prog X.w) X.A (f v u) (EP X pins σ Q) X.xe s
noncomputable def UnR (X : Cx) (f : Value → Sem Value) (r : V → Hp → VK → Prop) : Prop :=
  ∀ (pins : List (Addr × Obj)) (s : Shared) (σ : St) (H : Hp) (x : V) (v : Value) (Q : VK), Inv X pins σ H s → RelV x v → r x H Q →
    wpAny (model X.prog X.w) X.A (f v) (EP X pins σ Q) X.xe s
noncomputable def CallR (X : Cx) (f : Value) (r : List V → Hp → VK → Prop) : Prop :=
  ∀ (pins : List (Addr × Obj)) (s : Shared) (σ : St) (H : Hp) (xs : List V) (us : List Value) (Q : VK), Inv X pins σ H s → Vals xs us → r xs H Q →
    wpAny (model X.prog X.w) X.A (call f us) (EP X pins σ Q) X.xe s
noncomputable def TruR (X : Cx) (r : V → Hp → (Bool → Hp → Prop) → Prop) : Prop :=
  ∀ (pins : List (Addr × Obj)) (s : Shared) (σ : St) (H : Hp) (x : V) (v : Value) (Q : Bool → Hp → Prop), Inv X pins σ H s → RelV x v → r x H Q →
    wpAny (model X.prog X.w) X.A (truthy v) (TP X pins σ Q) X.xe s

noncomputable def tOp (r : R2) (ta tb : TE) : TE := fun σ H Q => ta σ H fun x H1 => tb σ H1 fun y H2 => r x y H2 Q
noncomputable def tUn (r : V → Hp → VK → Prop) (ta : TE) : TE := fun σ H Q => ta σ H fun x H1 => r x H1 Q
noncomputable def rI (C : Int → Int → Prop) (g : Int → Int → V) : R2 := fun x y H Q => ∃ i j, x = .int i ∧ y = .int j ∧ C i j ∧ Q (g i j) H
noncomputable def rI0 (g : Int → Int → V) : R2 := fun x y H Q => ∃ i j, x = .int i ∧ y = .int j ∧ Q (g i j) H
noncomputable def rU (g : Int → V) : V → Hp → VK → Prop := fun x H Q => ∃ i, x = .int i ∧ Q (g i) H

section
variable {X : Cx} {a b c : Expr} {ta tb tc : TE} {pos : Pos}

theorem binT (ha : PE X a ta) (hb : PE X b tb) {pins : List (Addr × Obj)} {s : Shared} {σ : St} {H : Hp} {R : V → V → Hp → Prop} (I : Inv X pins σ H s)
    (h : ta σ H fun x H1 => tb σ H1 fun y H2 => R x y H2) {Q : Value → Shared → Prop} {f : Value → Value → Sem Value}
    (hf : ∀ v u s2 x y H2, Inv X pins σ H2 s2 → RelV x v → RelV y u → R x y H2 → wpAny (model X.prog X.w) X.A (f v u) Q X.xe s2) :
    wpAny (model X.prog X.w) X.A (eval a X.env) (fun v s₁ => wpAny (model X.prog X.w) X.A (eval b X.env) (fun u s₂ => wpAny (model X.prog X.w) X.A (f v u) Q X.xe s₂) X.xe s₁) X.xe s := by
  refine thn (ha pins s σ H _ I h) fun v s1 ⟨x, H1, I1, r1, q1⟩ => ?_
  refine thn (hb pins s1 σ H1 _ I1 q1) fun u s2 ⟨y, H2, I2, r2, q2⟩ => ?_
  exact hf v u s2 x y H2 I2 r1 r2 q2

theorem pe_op {op : Operator} {r : R2} (ho : OpR X (binaryOp op) r) (ha : PE X a ta) (hb : PE X b tb) : PE X (.BinOp a op b pos) (tOp r ta tb) := by
  intro pins s σ H Q I h
  exact wpAny_BinOp (binT ha hb I h fun v u s2 x y H2 I2 rx ry q => ho pins s2 σ H2 x y v u Q I2 rx ry q)
theorem pe_un {op : UnaryOp} {r : V → Hp → VK → Prop} (ho : UnR X (unaryOp op) r) (ha : PE X a ta) : PE X (.UnaryOp op a pos) (tUn r ta) := by
  intro pins s σ H Q I h
  exact UnaryOp_ (thn (ha pins s σ H _ I h) fun v s1 ⟨x, H1, I1, r1, q1⟩ => ho pins s1 σ H1 x v Q I1 r1 q1)

/-! ### ints -/
theorem opI {f : Value → Value → Sem Value} {C : Int → Int → Prop} {g : Int → Int → Int}
    (rule : ∀ (i j : Int) (t u : Tok) (s : Shared) (Q : Value → Shared → Prop) (E : Value → Shared → Prop), C i j → Q (.int (g i j) s.toks) { s with toks := s.toks + 1 } → wpAny (model X.prog X.w) X.A (f (.int i t) (.int j u)) Q E s) :
    OpR X f (rI C fun i j => .int (g i j)) := by
  intro pins s σ H x y v u Q I rx ry h
  obtain ⟨i, j, rfl, rfl, hc, q⟩ := h
  obtain ⟨t, rfl⟩ := rx
  obtain ⟨t', rfl⟩ := ry
  exact rule i j t t' s _ _ hc ⟨.int (g i j), H, I.tok _, ⟨_, rfl⟩, q⟩
theorem opI0 {f : Value → Value → Sem Value} {g : Int → Int → Int}
    (rule : ∀ (i j : Int) (t u : Tok) (s : Shared) (Q : Value → Shared → Prop) (E : Value → Shared → Prop), Q (.int (g i j) s.toks) { s with toks := s.toks + 1 } → wpAny (model X.prog X.w) X.A (f (.int i t) (.int j u)) Q E s) :
    OpR X f (rI0 fun i j => .int (g i j)) := by
  intro pins s σ H x y v u Q I rx ry h
  obtain ⟨i, j, rfl, rfl, q⟩ := h
  obtain ⟨t, rfl⟩ := rx
  obtain ⟨t', rfl⟩ := ry
  exact rule i j t t' s _ _ ⟨.int (g i j), H, I.tok _, ⟨_, rfl⟩, q⟩
theorem opB0 {f : Value → Value → Sem Value} {g : Int → Int → Bool}
    (rule : ∀ (i j : Int) (t u : Tok) (s : Shared) (Q : Value → Shared → Prop) (E : Value → Shared → Prop), Q (.bool (g i j)) s → wpAny (model X.prog X.w) X.A (f (.int i t) (.int j u)) Q E s) :
    OpR X f (rI0 fun i j => .bl (g i j)) := by
  intro pins s σ H x y v u Q I rx ry h
  obtain ⟨i, j, rfl, rfl, q⟩ := h
  obtain ⟨t, rfl⟩ := rx
  obtain ⟨t', rfl⟩ := ry
  exact rule i j t t' s _ _ ⟨.bl (g i j), H, I, rfl, q⟩

noncomputable def CDiv (i j : Int) : Prop := 0 < j ∧ j < 1073741824
noncomputable def CPow (i j : Int) : Prop := 0 ≤ j ∧ j ≤ 1000000 ∧ i.natAbs < 2 ^ 64
noncomputable def CMul (i j : Int) : Prop := (-(2 ^ 64) < i ∧ i < 2 ^ 64) ∨ (-(2 ^ 64) < j ∧ j < 2 ^ 64)
theorem CMul.ok {i j : Int} (h : CMul i j) : IntMulOk i j := by
  rcases h with ⟨h1, h2⟩ | ⟨h1, h2⟩
  · exact .of_left (intBits_le_64 h1 h2)
  · exact .of_right (intBits_le_64 h1 h2)
theorem two_pow_nn (k : Nat) : (0 : Int) ≤ 2 ^ k := by
  rw [two_pow_cast]
  exact Int.natCast_nonneg _

theorem op_add : OpR X (binaryOp .Add) (rI0 fun i j => .int (i + j)) := opI0 fun _ _ _ _ _ _ _ q => add_int q
theorem op_sub : OpR X (binaryOp .Sub) (rI0 fun i j => .int (i - j)) := opI0 fun _ _ _ _ _ _ _ q => sub_int q
theorem op_mul : OpR X (binaryOp .Mult) (rI CMul fun i j => .int (i * j)) := opI fun _ _ _ _ _ _ _ hc q => mul_int q hc.ok
theorem op_fdiv : OpR X (binaryOp .FloorDiv) (rI CDiv fun i j => .int (i / j)) := opI fun i j _ _ _ _ _ hc q => by
  have h1 : (0 : Int) < j := hc.1
  have h2 : j < 1073741824 := hc.2
  exact floordiv_int (by omega) (by rw [Int.fdiv_eq_ediv_of_nonneg i (by omega)]; exact q) (.inl (PyProof.noPylong_small (by omega)))
theorem op_mod : OpR X (binaryOp .Mod) (rI (fun _ j => 0 < j) fun i j => .int (i % j)) := opI fun i j _ _ _ _ _ hc q => by
  have h1 : (0 : Int) < j := hc
  exact mod_int' (by omega) (by rw [Int.fmod_eq_emod_of_nonneg i (by omega)]; exact q)
theorem op_shl : OpR X (binaryOp .LShift) (rI CPow fun i j => .int (i * 2 ^ j.toNat)) := opI fun _ _ _ _ _ _ _ hc q => lshift_int_small hc.1 hc.2.1 hc.2.2 q
theorem op_shr : OpR X (binaryOp .RShift) (rI (fun _ j => 0 ≤ j) fun i j => .int (i / 2 ^ j.toNat)) := opI fun i j _ _ _ _ _ hc q =>
  rshift_int hc (by rw [Int.fdiv_eq_ediv_of_nonneg i (two_pow_nn _)]; exact q)
theorem op_and : OpR X (binaryOp .BitAnd) (rI0 fun i j => .int (Builtin.bitAnd i j)) := opI0 fun _ _ _ _ _ _ _ q => and_int q
theorem op_or : OpR X (binaryOp .BitOr) (rI0 fun i j => .int (Builtin.bitOr i j)) := opI0 fun _ _ _ _ _ _ _ q => or_int q


theorem unI {f : Value → Sem Value} {g : Int → Int}
    (rule : ∀ (i : Int) (t : Tok) (s : Shared) (Q : Value → Shared → Prop) (E : Value → Shared → Prop), Q (.int (g i) s.toks) { s with toks := s.toks + 1 } → wpAny (model X.prog X.w) X.A (f (.int i t)) Q E s) :
    UnR X f (rU fun i => .int (g i)) := by
  intro pins s σ H x v Q I rx h
  obtain ⟨i, rfl, q⟩ := h
  obtain ⟨t, rfl⟩ := rx
  exact rule i t s _ _ ⟨.int (g i), H, I.tok _, ⟨_, rfl⟩, q⟩
theorem un_neg : UnR X (unaryOp .USub) (rU fun i => .int (-i)) := unI fun _ _ _ _ _ q => neg_int q
theorem un_inv : UnR X (unaryOp .Invert) (rU fun i => .int (Builtin.bitNot i)) := unI fun _ _ _ _ _ q => invert_int q

/-! ### bools among ints: n += (a < b) -/
end

/-! ### comparisons -/
noncomputable def scal : V → V → Bool
  | .non, .non => true | .non, .int _ => true | .int _, .non => true | .non, .bl _ => true | .bl _, .non => true | .non, .str _ => true | .str _, .non => true
  | .int _, .int _ => true | .bl _, .bl _ => true | .str _, .str _ => true | .byt _, .byt _ => true
  | .int _, .str _ => true | .str _, .int _ => true | .bl _, .str _ => true | .str _, .bl _ => true
  | _, _ => false
theorem sc0 : scal .non .non = true := rfl
theorem sc1 {i : Int} : scal .non (.int i) = true := rfl
theorem sc2 {i : Int} : scal (.int i) .non = true := rfl
theorem sc3 {i : Bool} : scal .non (.bl i) = true := rfl
theorem sc4 {i : Bool} : scal (.bl i) .non = true := rfl
theorem sc5 {i : Str} : scal .non (.str i) = true := rfl
theorem sc6 {i : Str} : scal (.str i) .non = true := rfl
theorem sc7 {i : Int} {j : Int} : scal (.int i) (.int j) = true := rfl
theorem sc8 {i : Bool} {j : Bool} : scal (.bl i) (.bl j) = true := rfl
theorem sc9 {i : Str} {j : Str} : scal (.str i) (.str j) = true := rfl
theorem sc10 {i : Int} {j : Str} : scal (.int i) (.str j) = true := rfl
theorem sc11 {i : Str} {j : Int} : scal (.str i) (.int j) = true := rfl
theorem sc12 {i : Bool} {j : Str} : scal (.bl i) (.str j) = true := rfl
theorem sc13 {i : Str} {j : Bool} : scal (.str i) (.bl j) = true := rfl
noncomputable def rEq : R2 := fun x y H Q => scal x y = true ∧ Q (.bl (decide (x = y))) H
noncomputable def rNe : R2 := fun x y H Q => scal x y = true ∧ Q (.bl (!decide (x = y))) H

theorem dec_int {i j : Int} : decide (V.int i = V.int j) = (i == j) := by
  rw [Bool.eq_iff_iff]
  simp
theorem dec_bl {i j : Bool} : decide (V.bl i = V.bl j) = (i == j) := by
  rw [Bool.eq_iff_iff]
  simp
theorem dec_str {i j : Str} : decide (V.str i = V.str j) = (i == j) := by
  rw [Bool.eq_iff_iff]
  simp
theorem dec_byt {i j : Array UInt8} : decide (V.byt i = V.byt j) = (i.toList == j.toList) := by
  rw [Bool.eq_iff_iff]
  cases i
  cases j
  simp

section
variable {X : Cx} {a b c : Expr} {ta tb tc : TE} {pos : Pos}
theorem fin_bl {pins : List (Addr × Obj)} {σ : St} {H : Hp} {s : Shared} {Q : VK} {k k' : Bool} (I : Inv X pins σ H s) (q : Q (.bl k) H) (e : k = k') : EP X pins σ Q (.bool k') s := by
  subst e
  exact ⟨.bl k, H, I, rfl, q⟩
theorem op_eq : OpR X (compareOp .Eq) rEq := by
  intro pins s σ H x y v u Q I rx ry h
  obtain ⟨hs, q⟩ := h
  cases x with
  | non =>
    cases rx
    cases y with
    | non => cases ry; exact PySem.EqNone.eq_none_none (fin_bl I q (by simp))
    | bl j => cases ry; exact PySem.EqNone.eq_none_bool (fin_bl I q (by simp))
    | int j => obtain ⟨t', rfl⟩ := ry; exact PySem.EqNone.eq_none_int (fin_bl I q (by simp))
    | str j => obtain ⟨t', rfl⟩ := ry; exact PySem.EqNone.eq_none_str (fin_bl I q (by simp))
    | _ => exact absurd (show false = true from hs) Bool.false_ne_true
  | bl i =>
    cases rx
    cases y with
    | non => cases ry; exact PySem.EqNone.eq_bool_none (fin_bl I q (by simp))
    | bl j => cases ry; exact eq_bool (fin_bl I q dec_bl)
    | str j => obtain ⟨t', rfl⟩ := ry; exact PySem.EqMixed.eq_bool_str (fin_bl I q (by simp))
    | _ => exact absurd (show false = true from hs) Bool.false_ne_true
  | int i =>
    obtain ⟨t, rfl⟩ := rx
    cases y with
    | non => cases ry; exact PySem.EqNone.eq_int_none (fin_bl I q (by simp))
    | int j => obtain ⟨t', rfl⟩ := ry; exact eq_int (fin_bl I q dec_int)
    | str j => obtain ⟨t', rfl⟩ := ry; exact PySem.EqMixed.eq_int_str (fin_bl I q (by simp))
    | _ => exact absurd (show false = true from hs) Bool.false_ne_true
  | str i =>
    obtain ⟨t, rfl⟩ := rx
    cases y with
    | non => cases ry; exact PySem.EqNone.eq_str_none (fin_bl I q (by simp))
    | bl j => cases ry; exact PySem.EqMixed.eq_str_bool (fin_bl I q (by simp))
    | int j => obtain ⟨t', rfl⟩ := ry; exact PySem.EqMixed.eq_str_int (fin_bl I q (by simp))
    | str j => obtain ⟨t', rfl⟩ := ry; exact eq_str (fin_bl I q dec_str)
    | _ => exact absurd (show false = true from hs) Bool.false_ne_true
  | byt i =>
    obtain ⟨t, rfl⟩ := rx
    cases y with
    | byt j => obtain ⟨t', rfl⟩ := ry; exact PySem.W.eq_bytes (fin_bl I q dec_byt)
    | _ => exact absurd (show false = true from hs) Bool.false_ne_true
  | _ => cases y <;> exact absurd (show false = true from hs) Bool.false_ne_true
theorem op_ne : OpR X (compareOp .NotEq) rNe := by
  intro pins s σ H x y v u Q I rx ry h
  obtain ⟨hs, q⟩ := h
  cases x with
  | non =>
    cases rx
    cases y with
    | non => cases ry; exact PySem.EqNone.ne_none_none (fin_bl I q (by simp))
    | bl j => cases ry; exact PySem.EqNone.ne_none_bool (fin_bl I q (by simp))
    | int j => obtain ⟨t', rfl⟩ := ry; exact PySem.EqNone.ne_none_int (fin_bl I q (by simp))
    | str j => obtain ⟨t', rfl⟩ := ry; exact PySem.EqNone.ne_none_str (fin_bl I q (by simp))
    | _ => exact absurd (show false = true from hs) Bool.false_ne_true
  | bl i =>
    cases rx
    cases y with
    | non => cases ry; exact PySem.EqNone.ne_bool_none (fin_bl I q (by simp))
    | bl j => cases ry; exact ne_bool (fin_bl I q (congrArg not dec_bl))
    | str j => obtain ⟨t', rfl⟩ := ry; exact PySem.EqMixed.ne_bool_str (fin_bl I q (by simp))
    | _ => exact absurd (show false = true from hs) Bool.false_ne_true
  | int i =>
    obtain ⟨t, rfl⟩ := rx
    cases y with
    | non => cases ry; exact PySem.EqNone.ne_int_none (fin_bl I q (by simp))
    | int j => obtain ⟨t', rfl⟩ := ry; exact ne_int (fin_bl I q (congrArg not dec_int))
    | str j => obtain ⟨t', rfl⟩ := ry; exact PySem.EqMixed.ne_int_str (fin_bl I q (by simp))
    | _ => exact absurd (show false = true from hs) Bool.false_ne_true
  | str i =>
    obtain ⟨t, rfl⟩ := rx
    cases y with
    | non => cases ry; exact PySem.EqNone.ne_str_none (fin_bl I q (by simp))
    | bl j => cases ry; exact PySem.EqMixed.ne_str_bool (fin_bl I q (by simp))
    | int j => obtain ⟨t', rfl⟩ := ry; exact PySem.EqMixed.ne_str_int (fin_bl I q (by simp))
    | str j => obtain ⟨t', rfl⟩ := ry; exact ne_str (fin_bl I q (congrArg not dec_str))
    | _ => exact absurd (show false = true from hs) Bool.false_ne_true
  | byt i =>
    obtain ⟨t, rfl⟩ := rx
    cases y with
    | byt j => obtain ⟨t', rfl⟩ := ry; exact PySem.W.ne_bytes (fin_bl I q (congrArg not dec_byt))
    | _ => exact absurd (show false = true from hs) Bool.false_ne_true
  | _ => cases y <;> exact absurd (show false = true from hs) Bool.false_ne_true

theorem op_lt : OpR X (compareOp .Lt) (rI0 fun i j => .bl (decide (i < j))) := opB0 fun _ _ _ _ _ _ _ q => lt_int q
theorem op_le : OpR X (compareOp .LtE) (rI0 fun i j => .bl (decide (i ≤ j))) := opB0 fun _ _ _ _ _ _ _ q => le_int q
theorem op_gt : OpR X (compareOp .Gt) (rI0 fun i j => .bl (decide (j < i))) := opB0 fun _ _ _ _ _ _ _ q => gt_int q
theorem op_ge : OpR X (compareOp .GtE) (rI0 fun i j => .bl (decide (j ≤ i))) := opB0 fun _ _ _ _ _ _ _ q => ge_int q




theorem nomark (b : Expr) {op : CmpOp} (h : op ≠ .In := by decide) (h2 : op ≠ .NotIn := by decide) : behindInMarks op b = false := by
  have e1 : (op == CmpOp.In) = false := by cases op <;> first | rfl | exact absurd rfl h
  have e2 : (op == CmpOp.NotIn) = false := by cases op <;> first | rfl | exact absurd rfl h2
  cases b <;> simp [behindInMarks, e1, e2]
theorem pe_cmpR {op : CmpOp} {r : R2} (ho : OpR X (compareOp op) r) (ha : PE X a ta) (hb : PE X b tb) (hm : behindInMarks op b = false) : PE X (.Compare a [op] [b] pos) (tOp r ta tb) := by
  intro pins s σ H Q I h
  exact wpAny_Compare1 (binT ha hb I h fun v u s2 x y H2 I2 rx ry q => ho pins s2 σ H2 x y v u Q I2 rx ry q) hm
noncomputable def tTest (t : TE) : TT := fun σ H Q => t σ H fun x H' => ∃ k, x = .bl k ∧ Q k H'
theorem pt_cmpR {op : CmpOp} {r : R2} (ho : OpR X (compareOp op) r) (ha : PE X a ta) (hb : PE X b tb) (hm : behindInMarks op b = false) : PT X (.Compare a [op] [b] pos) (tTest (tOp r ta tb)) := by
  intro pins s σ H Q I h
  refine wpAny_isTrue_Compare1 (thn (ha pins s σ H _ I h) fun v s1 ⟨x, H1, I1, r1, q1⟩ => thn (hb pins s1 σ H1 _ I1 q1) fun u s2 ⟨y, H2, I2, r2, q2⟩ =>
    thn (ho pins s2 σ H2 x y v u _ I2 r1 r2 q2) fun c s3 ⟨z, H3, I3, r3, k, e, q3⟩ => ?_) hm
  subst e
  cases r3
  exact wpAny_truthy_bool ⟨H3, I3, q3⟩
noncomputable def tChain (r r' : R2) (ta tb tc : TE) : TE := fun σ H Q => ta σ H fun x H1 => tb σ H1 fun y H2 => r x y H2 fun z H3 => ∃ k, z = .bl k ∧
  (if k = true then tc σ H3 fun w' H4 => r' y w' H4 Q else Q (.bl false) H3)
theorem pt_chain {op op' : CmpOp} {r r' : R2} (ho : OpR X (compareOp op) r) (ho' : OpR X (compareOp op') r') (ha : PE X a ta) (hb : PE X b tb) (hc : PE X c tc)
    (hm : lastMarks [op, op'] [b, c] = false := by with_unfolding_all rfl) : PT X (.Compare a [op, op'] [b, c] pos) (tTest (tChain r r' ta tb tc)) := by
  intro pins s σ H Q I h
  refine isTrue_chain (thn (ha pins s σ H _ I h) fun v s1 ⟨x, H1, I1, r1, q1⟩ => test_link (thn (hb pins s1 σ H1 _ I1 q1) fun u s2 ⟨y, H2, I2, r2, q2⟩ =>
    thn (ho pins s2 σ H2 x y v u _ I2 r1 r2 q2) fun d s3 ⟨z, H3, I3, r3, k, e, q3⟩ => ?_)) hm
  subst e
  cases r3
  refine wpAny_truthy_bool ?_
  cases k with
  | false =>
    obtain ⟨k', e', q'⟩ := q3
    cases e'
    exact ite_ff ⟨H3, I3, q'⟩
  | true =>
    refine ite_tt (test_last (thn (hc pins s3 σ H3 _ I3 q3) fun w' s4 ⟨z', H4, I4, r4, q4⟩ => thn (ho' pins s4 σ H4 y z' u w' _ I4 r2 r4 q4) fun d' s5 ⟨z2, H5, I5, r5, k2, e2, q5⟩ => ?_))
    subst e2
    cases r5
    exact wpAny_truthy_bool ⟨H5, I5, q5⟩

/-! ### truth -/
noncomputable def TruV (K : PySem.W.Frag) (x : V) (H : Hp) (k : Bool) : Prop :=
  match x with
  | .non => k = false
  | .bl b => k = b
  | .int i => k = (i != 0)
  | .str y => y.length ≤ sizeLine ∧ k = ((y.length : Int) != 0)
  | .byt y => y.size ≤ sizeLine ∧ k = ((y.size : Int) != 0)
  | .ref p => (∃ xs, SqL K H p xs ∧ k = !xs.isEmpty) ∨ (∃ xs, SqT K H p xs ∧ k = !xs.isEmpty) ∨ ∃ kvs, H p = some (.dK kvs) ∧ k = !kvs.isEmpty
  | _ => False
theorem isEmpty_kv {κ : Type} {kvs : List (κ × V)} {vs : List (κ × Value)} (r : KV kvs vs) : (!vs.isEmpty) = !kvs.isEmpty := by
  cases r <;> rfl
theorem isEmpty_of {xs : List V} {its : List Value} (r : Vals xs its) : (!its.toArray.isEmpty) = !xs.isEmpty := by
  cases r <;> simp
theorem line63 : (sizeLine : Nat) < 2 ^ 63 := by rw [sizeLine_eq]; decide
theorem tru_ok : TruR X (fun x H Q => ∃ k, TruV X.K x H k ∧ Q k H) := by
  intro pins s σ H x v Q I rx h
  obtain ⟨k, e, q⟩ := h
  have hl := line63
  have hs : sizeLine = 16777216 := sizeLine_eq
  cases x with
  | non =>
    cases rx
    have e' : k = false := e
    subst e'
    exact truthy_none ⟨H, I, q⟩
  | bl b =>
    cases rx
    have e' : k = b := e
    subst e'
    exact wpAny_truthy_bool ⟨H, I, q⟩
  | int i =>
    obtain ⟨t, rfl⟩ := rx
    have e' : k = (i != 0) := e
    subst e'
    exact PySem.P.truthy_int ⟨H, I, q⟩
  | str y =>
    obtain ⟨t, rfl⟩ := rx
    obtain ⟨hy, e'⟩ : y.length ≤ sizeLine ∧ k = ((y.length : Int) != 0) := e
    subst e'
    exact PySem.P.truthy_str (by omega) ⟨H, I.tok _, q⟩
  | byt y =>
    obtain ⟨t, rfl⟩ := rx
    obtain ⟨hy, e'⟩ : y.size ≤ sizeLine ∧ k = ((y.size : Int) != 0) := e
    subst e'
    exact PySem.W.truthy_bytes (by omega) ⟨H, I.tok _, q⟩
  | ref p =>
    cases rx
    have e' : (∃ xs, SqL X.K H p xs ∧ k = !xs.isEmpty) ∨ (∃ xs, SqT X.K H p xs ∧ k = !xs.isEmpty) ∨ ∃ kvs, H p = some (.dK kvs) ∧ k = !kvs.isEmpty := e
    rcases e' with ⟨xs, hx, e'⟩ | ⟨xs, hx, e'⟩ | ⟨kvs, hx, e'⟩
    · subst e'
      obtain ⟨its, r, pl, hz⟩ := I.list hx
      have hlen := r.length
      exact wpAny_truthy_list pl.isList (by simp only [List.size_toArray]; omega) ⟨H, I.tok _, by rw [isEmpty_of r]; exact q⟩
    · subst e'
      obtain ⟨its, r, pl, hz⟩ := I.tuple hx
      have hlen := r.length
      exact truthy_tuple pl (by simp only [List.size_toArray]; omega) ⟨H, I.tok _, by rw [isEmpty_of r]; exact q⟩
    · subst e'
      obtain ⟨hz, hS, vs, r, m⟩ : kvs.length ≤ sizeLine ∧ (p == sysModules) = false ∧ ∃ vs, KV kvs vs ∧ s.heap.DictOf (mixKind X.prog X.w) p vs := I.hok p _ hx
      have hlen : kvs.length = vs.length := Paired.length r
      exact wpAny_truthy_dict hS m (by omega) ⟨H, I.tok _, by rw [isEmpty_kv r]; exact q⟩
  | _ => exact (show False from e).elim

/-! ### strs and bytes -/
theorem op_add_str : OpR X (binaryOp .Add) (fun x y H Q => ∃ i j, x = .str i ∧ y = .str j ∧ i.length + j.length ≤ sizeLine ∧ Q (.str (i ++ j)) H) := by
  intro pins s σ H x y v u Q I rx ry h
  obtain ⟨i, j, rfl, rfl, hz, q⟩ := h
  obtain ⟨t, rfl⟩ := rx
  obtain ⟨t', rfl⟩ := ry
  exact add_str (fun t' tk => ⟨.str (i ++ j), H, I.tok _, ⟨_, rfl⟩, q⟩) hz


/-! ### scalar builtins, by CallR -/
theorem vals1 {x : V} {us : List Value} (r : Vals [x] us) : ∃ u, us = [u] ∧ RelV x u := by
  cases r with
  | cons r1 r2 => cases r2; exact ⟨_, rfl, r1⟩
theorem vals2 {x y : V} {us : List Value} (r : Vals [x, y] us) : ∃ u w', us = [u, w'] ∧ RelV x u ∧ RelV y w' := by
  cases r with
  | cons r1 r2 =>
    cases r2 with
    | cons r3 r4 => cases r4; exact ⟨_, _, rfl, r1, r3⟩
theorem call_max2 (hc : X.calm = true) : CallR X (.builtin "max") (fun xs H Q => ∃ i j, xs = [.int i, .int j] ∧ Q (.int (if j > i then j else i)) H) := by
  intro pins s σ H xs us Q I r h
  obtain ⟨i, j, rfl, q⟩ := h
  obtain ⟨u, w', rfl, ⟨t, rfl⟩, ⟨t', rfl⟩⟩ := vals2 r
  refine max_two_ints (I.ok.hd hc) fun h' tk k => ⟨_, H, I.kept k, ?_, q⟩
  by_cases hj : j > i
  · rw [if_pos hj, if_pos hj]; exact ⟨_, rfl⟩
  · rw [if_neg hj, if_neg hj]; exact ⟨_, rfl⟩
theorem call_str_int : CallR X (.type "str") (fun xs H Q => ∃ i, xs = [.int i] ∧ i.natAbs.log2 < 1920 ∧ Q (.str (toString i)) H) := by
  intro pins s σ H xs us Q I r h
  obtain ⟨i, rfl, hz, q⟩ := h
  obtain ⟨u, rfl, t, rfl⟩ := vals1 r
  exact PySem.P.str_of_int hz ⟨.str _, H, I.tok _, ⟨_, rfl⟩, q⟩
noncomputable def LenV (K : PySem.W.Frag) (x : V) (H : Hp) (n : Nat) : Prop :=
  match x with
  | .str y => y.length ≤ sizeLine ∧ n = y.length
  | .byt y => y.size ≤ sizeLine ∧ n = y.size
  | .ref p => (∃ xs, SqL K H p xs ∧ n = xs.length) ∨ ∃ xs, SqT K H p xs ∧ n = xs.length
  | _ => False
theorem call_len : CallR X (.builtin "len") (fun xs H Q => ∃ x n, xs = [x] ∧ LenV X.K x H n ∧ Q (.int n) H) := by
  intro pins s σ H xs us Q I r h
  obtain ⟨x, n, rfl, e, q⟩ := h
  obtain ⟨u, rfl, rx⟩ := vals1 r
  have hl := line63
  have hs : sizeLine = 16777216 := sizeLine_eq
  cases x with
  | str y =>
    obtain ⟨t, rfl⟩ := rx
    obtain ⟨hy, e'⟩ : y.length ≤ sizeLine ∧ n = y.length := e
    subst e'
    exact len_str (by omega) ⟨.int _, H, I.tok _, ⟨_, rfl⟩, q⟩
  | byt y =>
    obtain ⟨t, rfl⟩ := rx
    obtain ⟨hy, e'⟩ : y.size ≤ sizeLine ∧ n = y.size := e
    subst e'
    exact PySem.W.len_bytes (by omega) ⟨.int _, H, I.tok _, ⟨_, rfl⟩, q⟩
  | ref p =>
    cases rx
    have e' : (∃ xs, SqL X.K H p xs ∧ n = xs.length) ∨ ∃ xs, SqT X.K H p xs ∧ n = xs.length := e
    rcases e' with ⟨xs, hx, e'⟩ | ⟨xs, hx, e'⟩
    · subst e'
      obtain ⟨its, r', pl, hz⟩ := I.list hx
      have hlen := r'.length
      exact Calls.call_len_list pl.isList (by simp only [List.size_toArray]; omega) ⟨.int xs.length, H, I.tok _, ⟨_, by simp only [List.size_toArray]; rw [hlen]⟩, q⟩
    · subst e'
      obtain ⟨its, r', pl, hz⟩ := I.tuple hx
      have hlen := r'.length
      exact len_tuple pl (by simp only [List.size_toArray]; omega) ⟨.int xs.length, H, I.tok _, ⟨_, by simp only [List.size_toArray]; rw [hlen]⟩, q⟩
  | _ => exact (show False from e).elim
end
end L2

namespace L2
open PySem PySem.Spec PyProof.Rows

/-! ### an instance, its attributes a map -/
set_option genInjectivity false in
structure ObjM (h : Heap) (x dx C : Addr) (mA : Str → Option Value) : Prop where
  obj : h.get? x = some (PySem.W.instObj C dx)
  ns : h.Ns1 dx mA
  ne : dx ≠ x

theorem lookIn_ns {h : Heap} {dx : Addr} {mA : Str → Option Value} (n : h.Ns1 dx mA) : ∃ od, h.get? dx = some od ∧ ∀ name, PySem.W.lookIn name od = some (mA name) := by
  obtain ⟨o, es, ep, ho, hd, hk, _, hm⟩ := n
  refine ⟨o, ho, fun name => ?_⟩
  have e := hm name
  unfold nsFind findBy at e
  rw [← Array.find?_toList] at e
  unfold PySem.W.lookIn
  rw [hd]
  dsimp only
  split
  · rename_i y q
    rw [q] at e
    exact congrArg some e
  · rename_i q
    rw [q] at e
    have a : es.toList.any (·.refKey) = false := by
      rw [List.any_eq_false]
      intro y hy
      obtain ⟨z, t, hkey⟩ := hk y (Array.mem_toList_iff.mp hy)
      simp [DictEntry.refKey, hkey]
    have a' : ¬ es.toList.any (·.refKey) = true := by rw [a]; exact Bool.false_ne_true
    rw [if_neg a']
    exact congrArg some e

theorem ObjM.look {h : Heap} {x dx C : Addr} {mA : Str → Option Value} (I : ObjM h x dx C mA) : ∃ od, PySem.W.InstAt h x (PySem.W.instObj C dx) C (some od) ∧ ∀ name, PySem.W.lookIn name od = some (mA name) :=
  let ⟨od, ho, hl⟩ := lookIn_ns I.ns
  ⟨od, ⟨I.obj, rfl, rfl, ho⟩, hl⟩

section
variable {prog : Program} {w : World} {A : Around} {E : Value → Shared → Prop} {s : Shared} {K : PySem.W.Frag} {x dx C f : Addr} {mA : Str → Option Value} {name : Str} {v : Value}



theorem get_meth {pl : Sem Bool} {Q : Value × List Value → Shared → Prop} (X : K.In s.heap) (I : ObjM s.heap x dx C mA) (hg : PySem.W.plainGet K C name = true)
    (hf : PySem.W.findIn K (.ref C) name = some (some (.ref f))) (ht : PySem.W.isFn K (.ref f) = true) (hv : mA name = none) (h : Q (.ref f, [.ref x]) s) :
    wpAny (model prog w) A (getMethod (.ref x) name pl) Q E s := by
  obtain ⟨od, J, hl⟩ := I.look
  exact PySem.W.method_fn X J (PySem.W.plainGet_of hg).1 (PySem.W.plainGet_of hg).2 hf (beq_iff_eq.mp ht) (by show (PySem.W.lookIn name od).map (·.isSome) = some false; rw [hl, hv]; rfl) h

theorem set_map {ns : List Str} {Q : Unit → Shared → Prop} (X : K.In s.heap) (I : ObjM s.heap x dx C mA)
    (hs : PySem.W.findIn K (.ref C) "__setattr__" = some (some (.builtin "object.__setattr__"))) (hp : PySem.W.plainOver K C = true) (ht : PySem.W.takerIn K C name = some none) (hh : PySem.W.hasDictIn K C = true)
    (hw : PySem.Within mA ns) (hsz : ns.length ≤ sizeLine)
    (h : ∀ h', ObjM h' x dx C (fun y => if y = name then some v else mA y) → Heap.SameBut dx s.heap h' → Q () { s with heap := h', toks := s.toks + 2 }) :
    wpAny (model prog w) A (setAttr (.ref x) name v) Q E s := by
  obtain ⟨od, J, hl⟩ := I.look
  refine PySem.W.set_plain X J hs (PySem.W.osa_open (s := { s with toks := s.toks + 1 }) (r := none) X J hp ht fun b => ?_)
  obtain ⟨cd, hc, hd'⟩ := PySem.W.any_some hh
  have hx : s.heap.get? x = some ⟨.ref C, some dx, .plain, #[]⟩ := I.obj
  refine wpAny_bind (wpAny_pure (wpAny_bind (wpAny_bind (wpAny_loadPart hx (wpAny_bind (PySem.W.Looks.here (s := { s with toks := s.toks + 1 }) (PySem.W.looks_clsIn X hc) ?_))))))
  rw [hd']
  refine wpAny_pure (a := some dx) (wpAny_bind (wpAny_pure (wpAny_bind ?_)))
  refine wpAny_nsSet1 (s := { s with toks := s.toks + 1 }) I.ns fun h' hn2 hs2 => ?_
  obtain ⟨oD, esD, epD, hoD, hdD, hcD⟩ := hn2.count (PySem.Within.cons name v hw)
  refine wpAny_bind (wpAny_lookBehind hoD (by rw [hdD]; exact pastItsLine_dict (Nat.le_trans hcD (by rw [List.length_cons]; omega))) ?_)
  exact wpAny_pure (h _ ⟨(hs2.2 _ (Ne.symm I.ne)).trans I.obj, hn2, I.ne⟩ hs2)

theorem make_map {R : Result → Shared → Prop} {vs : List Value} {kw : List (Str × Value)} (X : K.In s.heap) (hm : PySem.W.makesIn K C = true)
    (hi : PySem.W.findIn K (.ref C) "__init__" = some (some (.ref f))) (hf : PySem.W.typeIn K (.ref f) = some (.type "function"))
    (h : codeAny (model prog w) (A.under (.builtin "type.__call__" ⟨.ref C :: vs, kw⟩)) (.call (.ref f) ⟨.ref (s.heap.objs.size + 1) :: vs, kw⟩) (PySem.W.InitBack (s.heap.objs.size + 1) R)
      { s with heap := (s.heap.push PySem.W.emptyDict).push (PySem.W.instObj C s.heap.objs.size) }) :
    codeAny (model prog w) A (.call (.ref C) ⟨vs, kw⟩) R s := by
  obtain ⟨hh, g, d, t, os⟩ := s
  exact PySem.W.make_core (PySem.W.makes_of X hm) (PySem.W.looks_findIn X hi) (fun self => PySem.W.bind_fn X self hf) (.inl rfl) h
end

/-! ### the attributes as a list of pairs -/
noncomputable def putF (f : Str) (v : V) : List (Str × V) → List (Str × V)
  | [] => [(f, v)]
  | (g, x) :: r => if g = f then (g, v) :: r else (g, x) :: putF f v r
theorem lookup_putF (f g : Str) (v : V) : ∀ fs : List (Str × V), (putF f v fs).lookup g = if g = f then some v else fs.lookup g
  | [] => by
    show List.lookup g [(f, v)] = _
    by_cases h : g = f
    · have hb : (g == f) = true := beq_iff_eq.mpr h
      simp only [List.lookup, hb, if_pos h]
    · have hb : (g == f) = false := beq_eq_false_iff_ne.mpr h
      simp only [List.lookup, hb, if_neg h]
  | (k, x) :: r => by
    have ih := lookup_putF f g v r
    rw [show putF f v ((k, x) :: r) = (if k = f then (k, v) :: r else (k, x) :: putF f v r) from rfl]
    by_cases hk : k = f
    · rw [if_pos hk]
      by_cases h : g = k
      · have hb : (g == k) = true := beq_iff_eq.mpr h
        simp only [List.lookup, hb, if_pos (h.trans hk)]
      · have hb : (g == k) = false := beq_eq_false_iff_ne.mpr h
        simp only [List.lookup, hb, if_neg (fun e : g = f => h (e.trans hk.symm))]
    · rw [if_neg hk]
      by_cases h : g = k
      · have hb : (g == k) = true := beq_iff_eq.mpr h
        simp only [List.lookup, hb, if_neg (fun e : g = f => hk (h.symm.trans e))]
      · have hb : (g == k) = false := beq_eq_false_iff_ne.mpr h
        simp only [List.lookup, hb]
        exact ih
theorem keys_putF (f : Str) (v : V) : ∀ fs : List (Str × V), f ∈ (putF f v fs).map (·.1) ∧ ∀ g, g ∈ fs.map (·.1) → g ∈ (putF f v fs).map (·.1)
  | [] => ⟨by simp [putF], fun g h => by simp at h⟩
  | (k, x) :: r => by
    obtain ⟨i1, i2⟩ := keys_putF f v r
    rw [show putF f v ((k, x) :: r) = (if k = f then (k, v) :: r else (k, x) :: putF f v r) from rfl]
    by_cases hk : k = f
    · rw [if_pos hk]
      subst hk
      exact ⟨by simp, fun g h => by simpa using h⟩
    · rw [if_neg hk]
      refine ⟨?_, fun g h => ?_⟩
      · rw [List.map_cons]
        exact List.mem_cons_of_mem _ i1
      · rw [List.map_cons] at h ⊢
        rcases List.mem_cons.mp h with e | e
        · exact List.mem_cons.mpr (.inl e)
        · exact List.mem_cons_of_mem _ (i2 g e)
theorem length_putF (f : Str) (v : V) : ∀ fs : List (Str × V), (putF f v fs).length ≤ fs.length + 1
  | [] => by simp [putF]
  | (k, x) :: r => by
    have ih := length_putF f v r
    rw [show putF f v ((k, x) :: r) = (if k = f then (k, v) :: r else (k, x) :: putF f v r) from rfl]
    by_cases hk : k = f
    · rw [if_pos hk, List.length_cons, List.length_cons]; omega
    · rw [if_neg hk, List.length_cons, List.length_cons]; omega

theorem RelO.some_of {v : V} {o : Option Value} (r : RelO (some v) o) : ∃ u, o = some u ∧ RelV v u := by
  cases o with
  | none => exact (show False from r).elim
  | some u => exact ⟨u, rfl, r⟩
theorem RelO.none_of {o : Option Value} (r : RelO none o) : o = none := by
  cases o with
  | none => rfl
  | some u => exact (show False from r).elim

section
variable {P : Program} {w : World} {H H' : Hp} {h h' : Heap} {a C dx : Addr} {fs fs' : List (Str × V)}
theorem ins_get (hok : HOk P w H h) (e : H a = some (.ins C dx fs)) : ∃ mA, ObjM h a dx C mA ∧ (∀ f, RelO (fs.lookup f) (mA f)) ∧ PySem.Within mA (fs.map (·.1)) ∧ fs.length ≤ 1000 ∧ H dx = some (.own a) := by
  obtain ⟨d, z, ne, ob, mA, n, r, q⟩ := (show ObjOk P w H h a (.ins C dx fs) from hok a _ e)
  exact ⟨mA, ⟨ob, n, ne⟩, r, q, z, d⟩
end

/-! ### what of the text a class must have -/
set_option genInjectivity false in
structure Cls (K : PySem.W.Frag) (C : Addr) : Prop where
  pg : PySem.W.plainGet K C Str.empty = true
  hd : PySem.W.hasDictIn K C = true
  po : PySem.W.plainOver K C = true
  sa : PySem.W.findIn K (.ref C) "__setattr__" = some (some (.builtin "object.__setattr__"))
theorem Cls.get {K : PySem.W.Frag} {C : Addr} (c : Cls K C) (f : Str) : PySem.W.plainGet K C f = true := c.pg
noncomputable def NoAttr (K : PySem.W.Frag) (C : Addr) (f : Str) : Prop := PySem.W.findIn K (.ref C) f = some none
theorem NoAttr.taker {K : PySem.W.Frag} {C : Addr} {f : Str} (n : NoAttr K C f) : PySem.W.takerIn K C f = some none := by
  unfold PySem.W.takerIn
  rw [show PySem.W.findIn K (.ref C) f = some none from n]
  rfl
set_option genInjectivity false in
structure Meth (K : PySem.W.Frag) (C : Addr) (m : Str) (f : Addr) : Prop where
  at_ : PySem.W.findIn K (.ref C) m = some (some (.ref f))
  fn : PySem.W.isFn K (.ref f) = true
  kp : PySem.W.keepIn K (.ref f) = true

section
variable {X : Cx} {pins : List (Addr × Obj)} {σ : St} {H : Hp} {s : Shared} {a C dx : Addr} {fs : List (Str × V)} {f : Str} {v : V} {A : Around} {E : Value → Shared → Prop}



theorem getmeth_ok {m : Str} {g : Addr} {pl : Sem Bool} {Q : Value × List Value → Shared → Prop} (I : Inv X pins σ H s) (e : H a = some (.ins C dx fs)) (c : Cls X.K C) (k : Meth X.K C m g) (l : fs.lookup m = none)
    (h : Q (.ref g, [.ref a]) s) : wpAny (model X.prog X.w) A (getMethod (.ref a) m pl) Q E s := by
  obtain ⟨mA, O, r, _, _, _⟩ := ins_get I.hok e
  have hn : mA m = none := RelO.none_of (by rw [← l]; exact r m)
  exact get_meth I.kIn O (c.get m) k.at_ k.fn hn h

theorem setattr_ok {y : V} {u : Value} {Q : Unit → Shared → Prop} (I : Inv X pins σ H s) (e : H a = some (.ins C dx fs)) (c : Cls X.K C) (n : NoAttr X.K C f) (hl : fs.length < 1000) (ry : RelV y u)
    (h : ∀ s', Inv X pins σ (upd H a (.ins C dx (putF f y fs))) s' → Q () s') : wpAny (model X.prog X.w) A (setAttr (.ref a) f u) Q E s := by
  obtain ⟨mA, O, r, wi, _, ho⟩ := ins_get I.hok e
  have hz : (fs.map (·.1)).length ≤ sizeLine := by rw [List.length_map, sizeLine_eq]; omega
  refine set_map I.kIn O c.sa c.po n.taker c.hd wi hz fun h' O' sb => h _ ?_
  have hd : ∃ o, h'.get? dx = some o := let ⟨o, _, _, e', _⟩ := O'.ns; ⟨o, e'⟩
  refine I.write (x := a) (e := dx) (by rw [e]; exact True.intro) (.inr ho) (fun b q hb z => (sb.2 b hb).trans z) hd ?_
  refine ⟨by rw [upd_ne O.ne]; exact ho, ?_, O.ne, O'.obj, _, O'.ns, fun g => ?_, fun g hg => ?_⟩
  · have := length_putF f y fs; omega
  · show RelO ((putF f y fs).lookup g) (if g = f then some u else mA g)
    rw [lookup_putF]
    by_cases q : g = f
    · rw [if_pos q, if_pos q]; exact ry
    · rw [if_neg q, if_neg q]; exact r g
  · by_cases q : g = f
    · rw [q]; exact (keys_putF f y fs).1
    · refine (keys_putF f y fs).2 g (wi g fun z => hg ?_)
      show (if g = f then some u else mA g) = none
      rw [if_neg q]; exact z

theorem Inv.made (I : Inv X pins σ H s) : Inv X pins σ (upd (upd H s.heap.objs.size (.own (s.heap.objs.size + 1))) (s.heap.objs.size + 1) (.ins C s.heap.objs.size []))
    { s with heap := (s.heap.push PySem.W.emptyDict).push (PySem.W.instObj C s.heap.objs.size) } := by
  have e1 : (s.heap.push PySem.W.emptyDict).get? s.heap.objs.size = some PySem.W.emptyDict := Heap.get?_push_size s.heap rfl
  have e2 : ((s.heap.push PySem.W.emptyDict).push (PySem.W.instObj C s.heap.objs.size)).get? (s.heap.objs.size + 1) = some (PySem.W.instObj C s.heap.objs.size) := by
    have := Heap.get?_push_size (s.heap.push PySem.W.emptyDict) (o := PySem.W.instObj C s.heap.objs.size) rfl
    rwa [Heap.size_push] at this
  have e3 : (s.heap.push PySem.W.emptyDict).Ns s.heap.objs.size (fun _ => none) := ⟨PySem.W.emptyDict, #[], _, e1, rfl, (fun e he => absurd he (by simp)), fun _ => rfl⟩
  have I1 := I.laid (a := s.heap.objs.size) (o := .own (s.heap.objs.size + 1)) (h' := s.heap.push PySem.W.emptyDict) (t' := s.toks) (fun b u q => Heap.get?_push_of_some _ q) (Nat.le_refl _) ⟨_, e1⟩
  refine I1.laid (a := s.heap.objs.size + 1) (o := .ins C s.heap.objs.size []) (t' := s.toks) (fun b u q => Heap.get?_push_of_some _ q) (Nat.le_of_eq (Heap.size_push _ _)) ?_
  have ne : s.heap.objs.size ≠ s.heap.objs.size + 1 := Nat.ne_of_lt (Nat.lt_succ_self _)
  refine ⟨by rw [upd_ne ne, upd_same], Nat.zero_le _, ne, e2, fun _ => none, (Heap.Ns1.of_empty e3).at fun o q => Heap.get?_push_of_some _ q, fun _ => True.intro, fun y hy => absurd rfl hy⟩

end

/-! ### readings and rules -/
noncomputable def tFld (K : PySem.W.Frag) (ta : TE) (f : Str) : TE := fun σ H Q => ta σ H fun x H1 => ∃ a C dx fs v, x = .ref a ∧ H1 a = some (.ins C dx fs) ∧ Cls K C ∧ NoAttr K C f ∧ fs.lookup f = some v ∧ Q v H1
noncomputable def sFld (K : PySem.W.Frag) (ta tv : TE) (f : Str) : TS := fun D σ H => tv σ H fun y H1 => ta σ H1 fun x H2 => ∃ a C dx fs, x = .ref a ∧ H2 a = some (.ins C dx fs) ∧ Cls K C ∧ NoAttr K C f ∧ fs.length < 1000 ∧
  D.nx σ (upd H2 a (.ins C dx (putF f y fs)))

section
variable {X : Cx} {o e value : Expr} {f : Str} {pos pos' tpos : Pos} {ta tv : TE}
theorem ps_fld (ha : PE X o ta) (hv : PE X value tv) (hs : swapsWith value (some (.Attribute o f pos')) pos.line X.env = pure false) : PS X (.Assign [.Attribute o f pos'] value pos) (sFld X.K ta tv f) := by
  intro pins s σ H D I h
  refine plainObj_wpAny_Assign_Attribute (thn (hv pins s σ H _ I h) fun u s1 ⟨y, H1, I1, ry, q⟩ => thn (ha pins s1 σ H1 _ I1 q) fun ov s2 ⟨x, H2, I2, rx, a, C, dx, fs, ex, ea, c, n, l, q2⟩ => ?_) hs
  subst ex
  obtain rfl : ov = Value.ref a := rx
  exact setattr_ok I2 ea c n l ry fun s3 I3 => ⟨σ, _, I3, q2⟩

theorem methcall_of {pl : Sem Bool} {m : Str} {apos : Pos} {args : List Expr} {pins : List (Addr × Obj)} {s : Shared} {σ : St} {H : Hp} {Q : Value → Shared → Prop} {te : TE} (he : PE X e te) (I : Inv X pins σ H s)
    (h : te σ H fun x H1 => ∃ a C dx fs g, x = .ref a ∧ H1 a = some (.ins C dx fs) ∧ Cls X.K C ∧ Meth X.K C m g ∧ fs.lookup m = none ∧
      ∀ s1, Inv X pins σ H1 s1 → wpAny (model X.prog X.w) X.A (callWith pos (.ref g) [.ref a] (backTo pos (starEach args X.env)) (backToKw pos (keywordEach [] X.env))) Q X.xe s1)
    (ht : eval (.Call (.Attribute e m apos) args [] pos) X.env = (do
      let ov ← eval e X.env
      standAt apos.atName
      let (f, first) ← holding [ov] (getMethod ov m pl)
      callWith pos f first (backTo pos (starEach args X.env)) (backToKw pos (keywordEach [] X.env)))) :
    wpAny (model X.prog X.w) X.A (eval (.Call (.Attribute e m apos) args [] pos) X.env) Q X.xe s := by
  refine PySem.W.methodCall_KW (pl := pl) (thn (he pins s σ H _ I h) fun u s1 ⟨x, H1, I1, rx, a, C, dx, fs, g, ex, ea, c, k, l, q⟩ => ?_) ht
  subst ex
  obtain rfl : u = Value.ref a := rx
  exact getmeth_ok I1 ea c k l (q s1 I1)
end

/-! ### isinstance -/
section
variable {X : Cx} {pins : List (Addr × Obj)} {σ : St} {H : Hp} {s : Shared} {A : Around} {E : Value → Shared → Prop} {Q : Value → Shared → Prop} {c : Value} {b : Bool}
inductive TyOf (K : PySem.W.Frag) (H : Hp) : V → Value → Prop where
  | non : TyOf K H .non (.type "NoneType")
  | bl (x : Bool) : TyOf K H (.bl x) (.type "bool")
  | int (i : Int) : TyOf K H (.int i) (.type "int")
  | str (x : Str) : TyOf K H (.str x) (.type "str")
  | flt (x : UInt64) : TyOf K H (.flt x) (.type "float")
  | lst {a : Addr} {xs : List V} (e : H a = some (.lst xs)) : TyOf K H (.ref a) (.type "list")
  | frz {a : Addr} {o : Obj} {xs : List V} (e : H a = some (.frz o (.lst xs))) : TyOf K H (.ref a) (.type "list")
  | tup {a : Addr} {xs : List V} (e : H a = some (.tup xs)) : TyOf K H (.ref a) (.type "tuple")
  | dK {a : Addr} {kvs : List (Key × V)} (e : H a = some (.dK kvs)) : TyOf K H (.ref a) (.type "dict")
  | dT {a : Addr} {kvs : List (List Key × V)} (e : H a = some (.dT kvs)) : TyOf K H (.ref a) (.type "dict")
  | ins {a C dx : Addr} {fs : List (Str × V)} (e : H a = some (.ins C dx fs)) (cl : Cls K C) (ha : PySem.W.findIn K (.ref C) "__class__" = some (some (.builtin "object.__class__")))
      (hn : PySem.W.specialIn K (.builtin "object.__class__") "__get__" = some (some (.builtin "getset_descriptor.__get__"))) (htk : PySem.W.takesIn K (.builtin "object.__class__") = some true)
      (hm : PySem.W.mroIn K C (.type "object") = some true) : TyOf K H (.ref a) (.ref C)
theorem isinst_ok {x : V} {u t : Value} (I : Inv X pins σ H s) (rx : RelV x u) (ty : TyOf X.K H x t) (e : PySem.W.kitOne X.K t c = some b) (h : ∀ tk, Q (.bool b) { s with toks := tk }) :
    wpAny (model X.prog X.w) A (call (.builtin "isinstance") [u, c]) Q E s := by
  cases ty with
  | non => cases (show u = Value.none from rx); exact PySem.W.kia_one PySem.W.kitx_none I.kIn True.intro e (fun z => nomatch z) h
  | bl y => cases (show u = Value.bool y from rx); exact PySem.W.kia_one PySem.W.kitx_bool I.kIn True.intro e (fun z => nomatch z) h
  | int i => obtain ⟨t, q⟩ := (show ∃ t, u = Value.int i t from rx); cases q; exact PySem.W.kia_one PySem.W.kitx_int I.kIn True.intro e (fun z => nomatch z) h
  | str y => obtain ⟨t, q⟩ := (show ∃ t, u = Value.str y t from rx); cases q; exact PySem.W.kia_one PySem.W.kitx_str I.kIn True.intro e (fun z => nomatch z) h
  | flt y => obtain ⟨t, q⟩ := (show ∃ t, u = Value.float y t from rx); cases q; exact PySem.W.kia_one PySem.W.kitx_float I.kIn True.intro e (fun z => nomatch z) h
  | @lst a xs ea =>
    cases (show u = Value.ref a from rx)
    obtain ⟨_, _, n, _, h1⟩ := (show ObjOk X.prog X.w H s.heap a (.lst xs) from I.hok a _ ea)
    exact PySem.W.kia_one PySem.W.kitx_list I.kIn ⟨_, h1, rfl⟩ e (fun z => nomatch z) h
  | @frz a ob xs ea =>
    cases (show u = Value.ref a from rx)
    obtain ⟨_, _, _, n, _, h1⟩ := (show ObjOk X.prog X.w H s.heap a (.frz ob (.lst xs)) from I.hok a _ ea)
    exact PySem.W.kia_one PySem.W.kitx_list I.kIn ⟨_, h1, rfl⟩ e (fun z => nomatch z) h
  | @tup a xs ea =>
    cases (show u = Value.ref a from rx)
    obtain ⟨_, _, _, p⟩ := (show ObjOk X.prog X.w H s.heap a (.tup xs) from I.hok a _ ea)
    obtain ⟨o, h1, h2, _⟩ := p
    exact PySem.W.kia_one PySem.W.kitx_tuple I.kIn ⟨o, h1, h2⟩ e (fun z => nomatch z) h
  | @dK a kvs ea =>
    cases (show u = Value.ref a from rx)
    obtain ⟨_, _, vs, _, p⟩ := (show ObjOk X.prog X.w H s.heap a (.dK kvs) from I.hok a _ ea)
    obtain ⟨o, es, ep, h1, h2, _⟩ := p
    exact PySem.W.kia_one PySem.W.kitx_dict I.kIn ⟨o, h1, h2.1⟩ e (fun z => nomatch z) h
  | @dT a kvs ea =>
    cases (show u = Value.ref a from rx)
    obtain ⟨_, _, xs, _, o, es, ep, h1, h2, _⟩ := (show ObjOk X.prog X.w H s.heap a (.dT kvs) from I.hok a _ ea)
    exact PySem.W.kia_one PySem.W.kitx_dict I.kIn ⟨o, h1, h2.1⟩ e (fun z => nomatch z) h
  | @ins a C dx fs ea cl ha hn htk hm =>
    cases (show u = Value.ref a from rx)
    obtain ⟨mA, O, _⟩ := ins_get I.hok ea
    obtain ⟨od, J, _⟩ := O.look
    exact PySem.W.kia_one (PySem.W.kitx_own (cl.get _) cl.hd ha hn htk hm) I.kIn J e (fun z => nomatch z) h
end
end L2

namespace L2
open PySem PySem.Spec PyProof.Rows

/-! ### room -/
set_option genInjectivity false in
structure Room (k : Nat) (A : Around) : Prop where
  hd : A.handled = none
  dp : A.depth + 3 * k + 5 < recursionLimit
  un : A.units + 16 * k + 200 < cLine
theorem Room.mono {j k : Nat} {A : Around} (r : Room k A) (h : j ≤ k) : Room j A := ⟨r.hd, by have := r.dp; omega, by have := r.un; omega⟩
theorem Room.deeper {k : Nat} {A : Around} (r : Room (k + 1) A) (env : Env) : Room k (A.deeper env) :=
  ⟨r.hd, by have := r.dp; show A.depth + 1 + 3 * k + 5 < _; omega, by have := r.un; show A.units + 3 + 16 * k + 200 < _; omega⟩
theorem make_depth {A : Around} {C : Addr} {us : List Value} {kw : List (Str × Value)} : (A.under (.builtin "type.__call__" ⟨.ref C :: us, kw⟩)).depth = A.depth + 1 := by
  first | rfl | simp [Around.under, Code.weight, Code.isCreation, Code.isGuard, Code.isCaller, Code.frames, Code.isFrame, guardIds]
theorem make_units {A : Around} {C : Addr} {us : List Value} {kw : List (Str × Value)} : (A.under (.builtin "type.__call__" ⟨.ref C :: us, kw⟩)).units = A.units + 1 := by
  first | rfl | simp [Around.under, Code.cUnits, Code.frames, Code.isFrame]
theorem Room.make {k : Nat} {A : Around} (r : Room (k + 1) A) (C : Addr) (us : List Value) (kw : List (Str × Value)) : Room k (A.under (.builtin "type.__call__" ⟨.ref C :: us, kw⟩)) :=
  ⟨r.hd, by have := r.dp; rw [make_depth]; omega, by have := r.un; rw [make_units]; omega⟩
theorem Room.depth {k : Nat} {A : Around} (r : Room k A) : A.depth < recursionLimit := by have := r.dp; omega
theorem Room.units {k : Nat} {A : Around} (r : Room k A) : A.units + 64 < cLine := by have := r.un; omega

/-! ### argument lists and displays -/
noncomputable def tNil : TA := fun _ H Q => Q [] H
noncomputable def tCons (ta : TE) (tr : TA) : TA := fun σ H Q => ta σ H fun x H1 => tr σ H1 fun xs H2 => Q (x :: xs) H2
section
variable {X : Cx} {e : Expr} {es : List Expr} {te : TE} {t : TA} {pos : Pos}
theorem pa_nil : PA X [] tNil := fun _ _ _ _ H Q I h => Calls.spliced_nil ⟨[], H, I, .nil, h⟩
theorem pa_cons (ha : PE X e te) (hr : PA X es t) (hs : starEach (e :: es) X.env = (false, eval e X.env) :: starEach es X.env := by rfl) : PA X (e :: es) (tCons te t) := by
  intro pos pins s σ H Q I h
  rw [hs]
  show wpAny _ _ (spliced ((false, eval e X.env) :: backTo pos (starEach es X.env))) _ _ s
  refine Calls.spliced_cons (thn (ha pins s σ H _ I h) fun u s1 ⟨x, H1, I1, r1, q1⟩ => ?_)
  exact thn (hr pos pins s1 σ H1 _ I1 q1) fun us s2 ⟨xs, H2, I2, r2, q2⟩ => ⟨x :: xs, H2, I2, .cons r1 r2, q2⟩

noncomputable def tTup (t : TA) : TE := fun σ H Q => t σ H fun xs H1 => xs.length ≤ sizeLine ∧ ∀ p, H1 p = none → Q (.ref p) (upd H1 p (.tup xs))
noncomputable def tLst (t : TA) : TE := fun σ H Q => t σ H fun xs H1 => xs.length ≤ sizeLine ∧ ∀ p, H1 p = none → Q (.ref p) (upd H1 p (.lst xs))
theorem pe_tup {x1} (h : PA X es t) : PE X (.Tuple es x1 pos) (tTup t) := by
  intro pins s σ H Q I hq
  refine wpAny_Tuple_spliced (thn (h pos pins s σ H _ I hq) fun us s1 ⟨xs, H1, I1, r, z, q⟩ => ⟨by rw [← r.length]; exact z, ?_⟩)
  have hf : H1 s1.heap.objs.size = none := I1.hok.fresh (Nat.le_refl _)
  refine ⟨.ref s1.heap.objs.size, upd H1 s1.heap.objs.size (.tup xs), I1.laid (t' := s1.toks) (fun b u e => Heap.get?_push_of_some _ e) (Nat.le_refl _) ?_, rfl, q _ hf⟩
  exact ⟨z, us, r, ⟨_, Heap.get?_push_size _ rfl, rfl, _, rfl⟩⟩
theorem pe_lst (h : PA X es t) : PE X (.List es pos) (tLst t) := by
  intro pins s σ H Q I hq
  refine wpAny_List_spliced (thn (h pos pins s σ H _ I hq) fun us s1 ⟨xs, H1, I1, r, z, q⟩ => ⟨by rw [← r.length]; exact z, ?_⟩)
  have hf : H1 s1.heap.objs.size = none := I1.hok.fresh (Nat.le_refl _)
  refine ⟨.ref s1.heap.objs.size, upd H1 s1.heap.objs.size (.lst xs), I1.laid (t' := s1.toks) (fun b u e => Heap.get?_push_of_some _ e) (Nat.le_refl _) ?_, rfl, q _ hf⟩
  exact ⟨z, us, 0, r, Heap.get?_push_size _ rfl⟩
end

/-! ### what a def promises -/
noncomputable abbrev Sp := List V → Hp → VK → XK → Prop
noncomputable abbrev CXT := List Env → Hp → Shared → XK → Value → Shared → Prop

set_option genInjectivity false in
structure Env0 (P : Program) (w : World) (K : PySem.W.Frag) (mg : Str → Option Value) (base : Heap) (A : Around) (outer : List Env) (s : Shared) (H : Hp) : Prop where
  frames : A.frames = some outer
  mod : Mod K mg base
  bs : ∀ b o, base.get? b = some o → s.heap.get? b = some o ∧ H b = none
  bsz : base.objs.size ≤ s.heap.objs.size
  funs : s.heap.FunFrames base outer
  frf : ∀ b ∈ frs outer, H b = none
  hok : HOk P w H s.heap
  bare : AllBare s.gens
noncomputable def CE (outer : List Env) (P : Program) (w : World) (H : Hp) (s : Shared) (Q : VK) (u : Value) (s' : Shared) : Prop :=
  ∃ v H', s'.os = s.os ∧ AllBare s'.gens ∧ Un (frs outer) [] H H' s.heap s'.heap ∧ HOk P w H' s'.heap ∧ RelV v u ∧ Q v H'
noncomputable def CR (CX : CXT) (outer : List Env) (P : Program) (w : World) (H : Hp) (s : Shared) (Q : VK) (E : XK) (r : Result) (s' : Shared) : Prop :=
  match r with
  | .ok (.ret u) => CE outer P w H s Q u s'
  | .ok _ => False
  | .error e => CX outer H s E e s'
set_option genInjectivity false in
structure FnOk (P : Program) (w : World) (K : PySem.W.Frag) (mg : Str → Option Value) (base : Heap) (CX : CXT) (k : Nat) (f : Addr) (fd : FuncData) (ps : List Str) (sp : Sp) : Prop where
  len : ∀ vs H Q E, sp vs H Q E → vs.length = ps.length
  run : ∀ (A : Around) (outer : List Env) (s : Shared) (H : Hp) (args : Args) (us : List Value) (vs : List V) (Q : VK) (E : XK), Room k A → Env0 P w K mg base A outer s H → BindsTo s fd args (ps.zip us) → Vals vs us → sp vs H Q E →
    codeAny (model P w) A (.call (.ref f) args) (CR CX outer P w H s Q E) s

theorem Env0.make {P : Program} {w : World} {K : PySem.W.Frag} {mg : Str → Option Value} {base : Heap} {A : Around} {outer : List Env} {s : Shared} {H : Hp} (e : Env0 P w K mg base A outer s H) (C : Addr) (us : List Value) (kw : List (Str × Value)) :
    Env0 P w K mg base (A.under (.builtin "type.__call__" ⟨.ref C :: us, kw⟩)) outer s H := ⟨by first | exact e.frames | (simpa [Around.under, Code.envs, Code.isFrame, pushEnvs] using e.frames), e.mod, e.bs, e.bsz, e.funs, e.frf, e.hok, e.bare⟩

section
variable {X : Cx} {pins : List (Addr × Obj)} {σ : St} {H : Hp} {s s' : Shared}
theorem Inv.env0 (I : Inv X pins σ H s) : Env0 X.prog X.w X.K X.mg X.base X.A X.stack s H :=
  ⟨I.ok.frames, I.ok.mod, I.bs, Nat.le_trans I.ok.bsz I.sz, I.stack, I.stkFree, I.hok, I.bare⟩
theorem Inv.after {Q : VK} {u : Value} (I : Inv X pins σ H s) (h : CE X.stack X.prog X.w H s Q u s') : EP X pins σ Q u s' := by
  obtain ⟨v, H', os, bare, un, hok, r, q⟩ := h
  obtain ⟨hh, g, d, t, os'⟩ := s'
  obtain rfl : os' = s.os := os
  exact ⟨v, H', I.call (h' := hh) (g' := g) (d' := d) (t' := t) (ch := []) un hok bare (fun b z => absurd z (by simp)), r, q⟩
end

/-! ### calls -/
noncomputable def tCall (sp : Sp) (dvs : List V) (E : XK) (t : TA) : TE := fun σ H Q => t σ H fun vs H1 => sp (vs ++ dvs) H1 Q E
noncomputable def tMeth (C : Addr) (m : Str) (sp : Sp) (dvs : List V) (E : XK) (ta : TE) (t : TA) : TE := fun σ H Q => ta σ H fun x H1 => ∃ a dx fs, x = .ref a ∧ H1 a = some (.ins C dx fs) ∧ fs.lookup m = none ∧
  t σ H1 fun vs H2 => sp (x :: (vs ++ dvs)) H2 Q E
noncomputable def tMake (C : Addr) (sp : Sp) (dvs : List V) (E : XK) (t : TA) : TE := fun σ H Q => t σ H fun vs H1 => ∀ x dx, H1 x = none → H1 dx = none → dx ≠ x →
  sp (.ref x :: (vs ++ dvs)) (upd (upd H1 dx (.own x)) x (.ins C dx [])) (fun v H2 => v = .non ∧ Q (.ref x) H2) E

noncomputable def Binds (K : PySem.W.Frag) (fd : FuncData) (ps : List Str) (ds : List Value) : Prop :=
  ∀ (s : Shared) (us : List Value), K.In s.heap → (us ++ ds).length = ps.length → BindsTo s fd ⟨us, []⟩ (ps.zip (us ++ ds))
theorem Binds.all {K : PySem.W.Frag} {fd : FuncData} {ps : List Str} (h : ∀ us : List Value, us.length = ps.length → bindArgs fd ⟨us, []⟩ = pure (ps.zip us)) : Binds K fd ps [] := fun s us _ hl => by
  rw [List.append_nil] at hl ⊢
  exact .of_eq (h us hl)

noncomputable def Passes (CX : CXT) (X : Cx) (E : XK) : Prop := ∀ (pins : List (Addr × Obj)) (σ : St) (H : Hp) (s : Shared) (e : Value) (s' : Shared), Inv X pins σ H s → CX X.stack H s E e s' → X.xe e s'

section
variable {X : Cx} {CX : CXT} {k : Nat} {f C : Addr} {fd : FuncData} {ps : List Str} {sp : Sp} {dvs : List V} {ds : List Value} {E : XK} {x m : Str} {p pos apos : Pos} {e o : Expr} {es : List Expr} {ta : TE} {t : TA}

theorem run_fn {pins : List (Addr × Obj)} {σ : St} {H : Hp} {s : Shared} {Q : VK} {us : List Value} {vs : List V} (F : FnOk X.prog X.w X.K X.mg X.base CX k f fd ps sp) (hr : Room k X.A) (hb : Binds X.K fd ps ds) (hd : Vals dvs ds) (hx : Passes CX X E)
    (I : Inv X pins σ H s) (r : Vals vs us) (h : sp (vs ++ dvs) H Q E) : wpAny (model X.prog X.w) X.A (call (.ref f) us) (EP X pins σ Q) X.xe s := by
  have r2 : Vals (vs ++ dvs) (us ++ ds) := r.append hd
  have hl : (us ++ ds).length = ps.length := by rw [← r2.length]; exact F.len _ _ _ _ h
  refine wpAny_call (codeAny_mono (F.run X.A X.stack s H ⟨us, []⟩ (us ++ ds) (vs ++ dvs) Q E hr I.env0 (hb s us I.kIn hl) r2 h) fun r s' hq => ?_)
  cases r with
  | error e => exact hx pins σ H s e s' I hq
  | ok fl =>
    cases fl with
    | ret u => exact I.after hq
    | next => exact False.elim hq
    | brk => exact False.elim hq
    | cont => exact False.elim hq

theorem pe_call (F : FnOk X.prog X.w X.K X.mg X.base CX k f fd ps sp) (hr : Room k X.A) (hg : Gl X x) (hm : X.mg x = some (.ref f)) (hk : PySem.W.keepIn X.K (.ref f) = true) (hb : Binds X.K fd ps ds) (hd : Vals dvs ds) (hx : Passes CX X E)
    (ha : PA X (e :: es) t) (hdb : (x == ("__debug__" : Str)) = false := by decide) (he : starEach (e :: es) X.env = (false, eval e X.env) :: starEach es X.env := by rfl) (hpl : (backTo pos (starEach es X.env)).any (·.1) = false := by rfl) :
    PE X (.Call (.Name x p) (e :: es) [] pos) (tCall sp dvs E t) := by
  intro pins s σ H Q I h
  refine wpAny_Call_Name_kw (ld_glob I hg hm ?_ hdb)
  refine PySem.W.callWith_K (h₀ := X.base) I.ok.mod.kin hk (thn (ha pos pins s σ H _ I h) fun us s1 ⟨vs, H1, I1, r, q⟩ => ⟨I1.kIn, ?_⟩) he hpl
  exact run_fn F hr hb hd hx I1 r q

theorem pe_meth {pl : Sem Bool} (he : PE X o ta) (c : Cls X.K C) (hm : Meth X.K C m f) (F : FnOk X.prog X.w X.K X.mg X.base CX k f fd ps sp) (hr : Room k X.A) (hb : Binds X.K fd ps ds) (hd : Vals dvs ds) (hx : Passes CX X E) (ha : PA X (e :: es) t)
    (hst : starEach (e :: es) X.env = (false, eval e X.env) :: starEach es X.env := by rfl) (hpl : (backTo pos (starEach es X.env)).any (·.1) = false := by rfl)
    (ht : eval (.Call (.Attribute o m apos) (e :: es) [] pos) X.env = (do
      let ov ← eval o X.env
      standAt apos.atName
      let (f, first) ← holding [ov] (getMethod ov m pl)
      callWith pos f first (backTo pos (starEach (e :: es) X.env)) (backToKw pos (keywordEach [] X.env))) := by rfl) :
    PE X (.Call (.Attribute o m apos) (e :: es) [] pos) (tMeth C m sp dvs E ta t) := by
  intro pins s σ H Q I h
  refine PySem.W.methodCall_KW (pl := pl) (thn (he pins s σ H _ I h) fun u s1 ⟨x, H1, I1, rx, a, dx, fs, ex, ea, l, q⟩ => ?_) ht
  subst ex
  obtain rfl : u = Value.ref a := rx
  refine getmeth_ok I1 ea c hm l ?_
  refine PySem.W.callWith_K (first := [.ref a]) (h₀ := X.base) I.ok.mod.kin hm.kp (thn (ha pos pins s1 σ H1 _ I1 q) fun us s2 ⟨vs, H2, I2, r, q2⟩ => ⟨I2.kIn, ?_⟩) hst hpl
  exact run_fn (us := .ref a :: us) (vs := .ref a :: vs) F hr hb hd hx I2 (.cons rfl r) q2

set_option genInjectivity false in
structure Mk (K : PySem.W.Frag) (C f : Addr) : Prop where
  makes : PySem.W.makesIn K C = true
  init : PySem.W.findIn K (.ref C) "__init__" = some (some (.ref f))
  fn : PySem.W.isFn K (.ref f) = true
  kp : PySem.W.keepIn K (.ref C) = true

theorem run_make {pins : List (Addr × Obj)} {σ : St} {H : Hp} {s : Shared} {Q : VK} {us : List Value} {vs : List V} (M : Mk X.K C f) (F : FnOk X.prog X.w X.K X.mg X.base CX k f fd ps sp) (hr : Room (k + 1) X.A) (hb : Binds X.K fd ps ds) (hd : Vals dvs ds)
    (hx : Passes CX X E) (I : Inv X pins σ H s) (r : Vals vs us)
    (h : ∀ x dx, H x = none → H dx = none → dx ≠ x → sp (.ref x :: (vs ++ dvs)) (upd (upd H dx (.own x)) x (.ins C dx [])) (fun v H2 => v = .non ∧ Q (.ref x) H2) E) :
    wpAny (model X.prog X.w) X.A (call (.ref C) us) (EP X pins σ Q) X.xe s := by
  have hq := h (s.heap.objs.size + 1) s.heap.objs.size (I.hok.fresh (Nat.le_succ _)) (I.hok.fresh (Nat.le_refl _)) (Nat.ne_of_lt (Nat.lt_succ_self _))
  have I2 := Inv.made (C := C) I
  have r2 : Vals (V.ref (s.heap.objs.size + 1) :: (vs ++ dvs)) (Value.ref (s.heap.objs.size + 1) :: (us ++ ds)) := .cons rfl (r.append hd)
  have hl : (Value.ref (s.heap.objs.size + 1) :: us ++ ds).length = ps.length := by
    have e := r2.length
    rw [F.len _ _ _ _ hq] at e
    exact e.symm
  refine wpAny_call (make_map (f := f) I.kIn M.makes M.init (beq_iff_eq.mp M.fn) (codeAny_mono (F.run _ X.stack _ _ ⟨Value.ref (s.heap.objs.size + 1) :: us, []⟩ (Value.ref (s.heap.objs.size + 1) :: (us ++ ds)) _ _ E (hr.make C us [])
    (I2.env0.make C us []) (hb _ (Value.ref (s.heap.objs.size + 1) :: us) I2.kIn hl) r2 hq) fun r s' hq' => ?_))
  cases r with
  | error e => exact hx pins σ _ _ e s' I2 hq'
  | ok fl =>
    cases fl with
    | ret u =>
      obtain ⟨v, H', I3, rv, ev, q3⟩ := I2.after hq'
      subst ev
      exact ⟨rv, ⟨V.ref (s.heap.objs.size + 1), H', I3, rfl, q3⟩⟩
    | next => exact False.elim hq'
    | brk => exact False.elim hq'
    | cont => exact False.elim hq'
theorem pe_make (M : Mk X.K C f) (F : FnOk X.prog X.w X.K X.mg X.base CX k f fd ps sp) (hr : Room (k + 1) X.A) (hg : Gl X x) (hm : X.mg x = some (.ref C)) (hb : Binds X.K fd ps ds) (hd : Vals dvs ds) (hx : Passes CX X E)
    (ha : PA X (e :: es) t) (hdb : (x == ("__debug__" : Str)) = false := by decide) (he : starEach (e :: es) X.env = (false, eval e X.env) :: starEach es X.env := by rfl) (hpl : (backTo pos (starEach es X.env)).any (·.1) = false := by rfl) :
    PE X (.Call (.Name x p) (e :: es) [] pos) (tMake C sp dvs E t) := by
  intro pins s σ H Q I h
  refine wpAny_Call_Name_kw (ld_glob I hg hm ?_ hdb)
  refine PySem.W.callWith_K (h₀ := X.base) I.ok.mod.kin M.kp (thn (ha pos pins s σ H _ I h) fun us s1 ⟨vs, H1, I1, r, q⟩ => ⟨I1.kIn, ?_⟩) he hpl
  exact run_make M F hr hb hd hx I1 r q
end

/-! ### keywords -/
section
variable {X : Cx} {CX : CXT} {k : Nat} {f C : Addr} {fd : FuncData} {ps ks : List Str} {sp : Sp} {E : XK} {x m : Str} {p pos apos kpos : Pos} {e o : Expr} {es : List Expr} {kws : List Keyword} {te ta : TE} {t tk : TA} {nm : Option Str}

variable {g : List Value → List Value → List Value} {gV : List V → List V → List V}
end

/-! ### a def's body keeps its promise -/
set_option genInjectivity false in
structure FnScope (N P : List Str) (sc : Scope) : Prop where
  kind : sc.kind = .function
  co : sc.isCoroutine = false
  gen : sc.isGenerator = false
  nd : N.Nodup
  pre : N.take P.length = P
  par : ∀ x ∈ P, sc.names.lookup x = some .local ∨ sc.names.lookup x = some .cell
  nofree : ∀ y ∈ sc.names, y.2 ≠ .free

theorem bindL_out {kindOf : Str → Option NameKind} {x : Str} : ∀ {binds : List (Str × Value)} {m : Str → Option Value}, (∀ v, (x, v) ∉ binds) → bindL kindOf binds m x = m x
  | [], _, _ => rfl
  | (n, v) :: r, m, h => by
    unfold bindL
    rw [bindL_out fun w hw => h w (List.mem_cons_of_mem _ hw)]
    split
    · have : x ≠ n := by rintro rfl; exact h v List.mem_cons_self
      simp [this]
    · rfl
theorem bindC_out {kindOf : Str → Option NameKind} {x : Str} : ∀ {binds : List (Str × Value)} {m : Str → Option Value}, (∀ v, (x, v) ∉ binds) → bindC kindOf binds m x = m x
  | [], _, _ => rfl
  | (n, v) :: r, m, h => by
    unfold bindC
    rw [bindC_out fun w hw => h w (List.mem_cons_of_mem _ hw)]
    split
    · rfl
    · have : x ≠ n := by rintro rfl; exact h v List.mem_cons_self
      simp [this]
theorem bindL_get {kindOf : Str → Option NameKind} {x : Str} {v : Value} : ∀ {P : List Str} {vs : List Value} {i : Nat} {m : Str → Option Value}, P.Nodup → P[i]? = some x → vs[i]? = some v → kindOf x = some .local →
    bindL kindOf (P.zip vs) m x = some v
  | [], _, _, _, _, h, _, _ => by simp at h
  | _ :: _, [], _, _, _, _, h, _ => by simp at h
  | p :: P, w :: vs, 0, m, nd, h1, h2, hk => by
    simp at h1 h2; subst h1; subst h2
    show bindL kindOf ((p, w) :: P.zip vs) m p = _
    unfold bindL
    rw [bindL_out fun v hv => (List.nodup_cons.mp nd).1 (List.of_mem_zip hv).1, if_pos hk]
    simp
  | p :: P, w :: vs, i + 1, m, nd, h1, h2, hk => by
    show bindL kindOf ((p, w) :: P.zip vs) m x = _
    unfold bindL
    exact bindL_get (i := i) (List.nodup_cons.mp nd).2 (by simpa using h1) (by simpa using h2) hk
theorem bindC_get {kindOf : Str → Option NameKind} {x : Str} {v : Value} : ∀ {P : List Str} {vs : List Value} {i : Nat} {m : Str → Option Value}, P.Nodup → P[i]? = some x → vs[i]? = some v → kindOf x ≠ some .local →
    bindC kindOf (P.zip vs) m x = some v
  | [], _, _, _, _, h, _, _ => by simp at h
  | _ :: _, [], _, _, _, _, h, _ => by simp at h
  | p :: P, w :: vs, 0, m, nd, h1, h2, hk => by
    simp at h1 h2; subst h1; subst h2
    show bindC kindOf ((p, w) :: P.zip vs) m p = _
    unfold bindC
    rw [bindC_out fun v hv => (List.nodup_cons.mp nd).1 (List.of_mem_zip hv).1, if_neg hk]
    simp
  | p :: P, w :: vs, i + 1, m, nd, h1, h2, hk => by
    show bindC kindOf ((p, w) :: P.zip vs) m x = _
    unfold bindC
    exact bindC_get (i := i) (List.nodup_cons.mp nd).2 (by simpa using h1) (by simpa using h2) hk

noncomputable def start (N : List Str) (vs : List V) : St := vs.map some ++ List.replicate (N.length - vs.length) none

noncomputable def cxOf (CX : CXT) (P : Program) (w : World) (K : PySem.W.Frag) (mg : Str → Option Value) (base : Heap) (N : List Str) (qual : Str) (scope : Scope) (f : Addr) (cd : Value) (A : Around) (outer : List Env) (s : Shared) (H : Hp) (E : XK) : Cx where
  prog := P
  w := w
  K := K
  mg := mg
  base := base
  A := A.deeper (envOfC qual scope s.heap.objs.size f cd)
  N := N
  s₀ := s
  H₀ := H
  env := envOfC qual scope s.heap.objs.size f cd
  outer := outer
  stack := envOfC qual scope s.heap.objs.size f cd :: outer
  ex := []
  calm := true
  fn := fun _ => true
  pn := []
  xe := fun e s' => wpAny (model P w) (A.deeper (envOfC qual scope s.heap.objs.size f cd)) (leaving (envOfC qual scope s.heap.objs.size f cd) e) (fun _ s'' => CX outer H s E e s'') (fun e' s'' => CX outer H s E e' s'') s'

theorem cell_has {sc : Scope} {n : Nat} {x : Str} (h : sc.names.lookup x = some .cell) : ∃ c, (cellsFrom n sc.names []).lookup x = some c := by
  have q := PySem.W.cellsFrom_some sc.names n [] (.inl h)
  exact Option.isSome_iff_exists.mp q

theorem inv_start {CX : CXT} {P : Program} {w : World} {K : PySem.W.Frag} {mg : Str → Option Value} {base : Heap} {N ps : List Str} {qual : Str} {scope : Scope} {f : Addr} {cd : Value} {A : Around} {outer : List Env} {s s1 : Shared} {H : Hp} {E : XK} {us : List Value} {vs : List V}
    (S : FnScope N ps scope) (hd : A.handled = none) (e0 : Env0 P w K mg base A outer s H) (hl : vs.length = ps.length) (r : Vals vs us)
    (x : InCallC s s.heap.objs.size (bindL (envOfC qual scope s.heap.objs.size f cd).kindOf (ps.zip us) fun _ => none) (cellsFrom (s.heap.objs.size + 1) scope.names []) (bindC (envOfC qual scope s.heap.objs.size f cd).kindOf (ps.zip us) fun _ => none) s1) :
    Inv (cxOf CX P w K mg base N qual scope f cd A outer s H E) [] (start N vs) H s1 := by
  have hpl : ps.length ≤ N.length := by have := congrArg List.length S.pre; rw [List.length_take] at this; omega
  obtain ⟨h1, tk, rfl, hk⟩ := x.done
  have noA : ∀ b : Addr, b ∉ (cxOf CX P w K mg base N qual scope f cd A outer s H E).ex := fun b z => absurd (show b ∈ ([] : List Addr) from z) (by simp)
  refine ⟨⟨e0.mod, S.kind, rfl, rfl, Nat.le_refl _, fun y z c h1 h2 => ?_, fun y hy => ?_, fun y c _ h => ?_, fun _ => hd, Around.frames_deeper e0.frames, .inr ⟨rfl, rfl⟩, fun b z => absurd z (noA b), e0.bs, e0.bsz, fun b _ _ => noA b, fun b z => absurd z (noA b), e0.funs, e0.frf⟩,
    rfl, e0.bare, Un.kept hk, ⟨_, x.toInCall.ns, fun i y v h1 h2 h3 => ?_⟩, fun y c h => ⟨_, x.cell y c h⟩, e0.hok.fresh (Nat.le_refl _), fun y c h => ?_, fun p hp => absurd (show p ∈ ([] : List (Addr × Obj)) from hp) (by simp), e0.hok.kept hk, ?_⟩
  · exact name_of_addr x.apart (PySem.mem_of_lookup h1) (PySem.mem_of_lookup h2)
  · have hy : scope.names.lookup y = some .cell ∨ scope.names.lookup y = some .free := hy
    rcases hy with hy | hy
    · exact cell_has hy
    · exact absurd rfl (S.nofree _ (PySem.mem_of_lookup hy))
  · exact Nat.le_of_lt (x.above y c (PySem.mem_of_lookup h))
  · have hi : i < vs.length := by
      unfold start at h2
      by_cases hi : i < vs.length
      · exact hi
      · rw [List.getElem?_append_right (by simpa using hi)] at h2
        rw [List.getElem?_replicate] at h2
        split at h2 <;> cases h2
    have ha : vs[i]? = some v := by
      unfold start at h2
      rw [List.getElem?_append_left (by simpa using hi), List.getElem?_map] at h2
      cases e : vs[i]? with
      | none => rw [e] at h2; cases h2
      | some a => rw [e] at h2; cases h2; rfl
    obtain ⟨u, hu, rv⟩ := r.get ha
    have hp : ps[i]? = some y := by
      rw [← S.pre, List.getElem?_take_of_lt (by omega)]; exact h1
    have ndP : ps.Nodup := by rw [← S.pre]; exact S.nd.sublist (List.take_sublist _ _)
    refine ⟨u, rv, ?_⟩
    rcases S.par y (List.mem_of_getElem? hp) with k | k
    · exact .inl ⟨k, bindL_get ndP hp hu k⟩
    · obtain ⟨c, e⟩ := cell_has (n := s.heap.objs.size + 1) k
      refine .inr ⟨.inl k, c, e, ?_⟩
      have q := x.cell y c e
      rw [bindC_get ndP hp hu (by show scope.names.lookup y ≠ _; rw [k]; decide)] at q
      exact q
  · exact e0.hok.fresh (Nat.le_of_lt (x.above y c (PySem.mem_of_lookup h)))
  · unfold start
    show _ = N.length
    rw [List.length_append, List.length_map, List.length_replicate]
    omega

theorem fn_of {CX : CXT} {P : Program} {w : World} {K : PySem.W.Frag} {mg : Str → Option Value} {base : Heap} {k : Nat} {f : Addr} {name qual : Str} {params : Arguments} {body : List Stmt} {scope : Scope} {dV kV doc pm cdv ct oc : Value} {an od : Option Addr}
    {osl : Array (Option Value)} {N ps : List Str} {sp : Sp} (lk : K.lookup f = some ⟨oc, od, .func (PySem.W.fnOf name qual params body scope dV kV doc pm an cdv ct), osl⟩) (hcd : PySem.W.codeIn K cdv qual = true) (S : FnScope N ps scope)
    (len : ∀ vs H Q E, sp vs H Q E → vs.length = ps.length)
    (hbody : ∀ (A : Around) (outer : List Env) (s : Shared) (H : Hp) (vs : List V) (Q : VK) (E : XK), Room k (A.deeper (envOfC qual scope s.heap.objs.size f cdv)) → sp vs H Q E →
      ∃ t, PSs (cxOf CX P w K mg base N qual scope f cdv A outer s H E) body t ∧ t { nx := fun _ H' => Q .non H', rt := Q } (start N vs) H) :
    FnOk P w K mg base CX (k + 1) f (PySem.W.fnOf name qual params body scope dV kV doc pm an cdv ct) ps sp := by
  refine ⟨len, fun A outer s H args us vs Q E hr e0 hb r hsp => ?_⟩
  have hl := len _ _ _ _ hsp
  have KX : K.In s.heap := e0.mod.kin.keeps fun b o e => (e0.bs b o e).1
  have lim : s.heap.NoLimit := e0.mod.nolimit.keeps fun b o e => (e0.bs b o e).1
  have hkind : ∀ y ∈ ps.zip us, scope.names.lookup y.1 = some .local ∨ (scope.names.lookup y.1 = some .cell ∧ ((cellsFrom (s.heap.objs.size + 1) scope.names []).lookup y.1).isSome = true) := fun ⟨n, v⟩ hy => by
    rcases S.par n (List.of_mem_zip hy).1 with q | q
    · exact .inl q
    · exact .inr ⟨q, PySem.W.cellsFrom_some _ _ _ (.inl q)⟩
  refine codeAny_call_function hr.depth (KX _ _ lk) rfl S.co S.gen rfl (PySem.W.codeRec_of KX hcd) (hb _ _ _ _ ?_)
  refine wpAny_newFunctionEnv_cells S.kind hkind fun env he s1 x => ?_
  subst he
  refine ⟨lim.keeps x.toInCall.keep, codeAny_func ?_⟩
  obtain ⟨t, ht, hq⟩ := hbody A outer s H vs Q E (hr.deeper _) hsp
  have I : Inv (cxOf CX P w K mg base N qual scope f cdv A outer s H E) [] (start N vs) H s1 := inv_start S hr.hd e0 hl r x
  refine wpAny_mono (ht [] s1 (start N vs) H _ I hq) (fun fl s' hs => ?_) fun e s' hs => hs
  have fin : ∀ {σ' : St} {H' : Hp} {v : V} {u : Value}, Inv (cxOf CX P w K mg base N qual scope f cdv A outer s H E) [] σ' H' s' → RelV v u → Q v H' → CE outer P w H s Q u s' :=
    fun {σ' H' v u} J rv q => ⟨v, H', J.os, J.bare, J.base, J.hok, rv, q⟩
  cases fl with
  | ret u =>
    obtain ⟨v, σ', H', J, rv, q⟩ := hs
    exact fin J rv q
  | next =>
    obtain ⟨σ', H', J, q⟩ := hs
    exact fin (v := V.non) (u := Value.none) J rfl q
  | brk =>
    obtain ⟨_, _, _, q⟩ := hs
    exact False.elim q
  | cont =>
    obtain ⟨_, _, _, q⟩ := hs
    exact False.elim q
end L2

namespace L2
open PySem PySem.Spec PyProof.Rows
section
variable {X : Cx} {x : Str} {p pos : Pos} {e : Expr} {es : List Expr} {t : TA} {id T : String} {r : List V → Hp → VK → Prop}

noncomputable def tCB (r : List V → Hp → VK → Prop) (t : TA) : TE := fun σ H Q => t σ H fun vs H1 => r vs H1 Q
theorem pe_callB (hc : CallR X (.builtin id) r) (hg : Gl X x) (hm : X.mg x = none) (hv : bootBuiltins x = some (.builtin id)) (ha : PA X (e :: es) t) (hn : x ≠ "__name__" := by decide) (hdb : (x == ("__debug__" : Str)) = false := by decide)
    (he : starEach (e :: es) X.env = (false, eval e X.env) :: starEach es X.env := by rfl) (hpl : (backTo pos (starEach es X.env)).any (·.1) = false := by rfl) : PE X (.Call (.Name x p) (e :: es) [] pos) (tCB r t) := by
  intro pins s σ H Q I h
  refine wpAny_Call_Name_kw (ld_blt I hg hm hv ?_ hn hdb)
  exact PyProof.Rows.callWith_builtin1 (thn (ha pos pins s σ H _ I h) fun us s1 ⟨vs, H1, I1, r1, q1⟩ => hc pins s1 σ H1 vs us Q I1 r1 q1) he hpl
theorem pe_callTy (hc : CallR X (.type T) r) (hg : Gl X x) (hm : X.mg x = none) (hv : bootBuiltins x = some (.type T)) (ha : PA X (e :: es) t) (hn : x ≠ "__name__" := by decide) (hdb : (x == ("__debug__" : Str)) = false := by decide)
    (he : starEach (e :: es) X.env = (false, eval e X.env) :: starEach es X.env := by rfl) (hpl : (backTo pos (starEach es X.env)).any (·.1) = false := by rfl) : PE X (.Call (.Name x p) (e :: es) [] pos) (tCB r t) := by
  intro pins s σ H Q I h
  refine wpAny_Call_Name_kw (ld_blt I hg hm hv ?_ hn hdb)
  exact PyProof.Rows.callWith_type1 (thn (ha pos pins s σ H _ I h) fun us s1 ⟨vs, H1, I1, r1, q1⟩ => hc pins s1 σ H1 vs us Q I1 r1 q1) he hpl
end
end L2

namespace HT
open PySem PyProof.Rows



section
open PySem.SeqAt
open PySem.AutoSeq1 (wpAny_loadPart')
open PySem.MeetsSeq PySem.MeetsSeq2 PySem.MeetsSeq3

end

section
variable {prog : Program} {w : World} {A : Around} {E : Value → Shared → Prop} {s : Shared}


theorem cat_tup {t b : Addr} {vs ws : List Value} {Q : Value → Shared → Prop} (ht : IsTup s.heap t vs.toArray) (hb : IsTup s.heap b ws.toArray) (hv : vs ≠ [])
    (h1 : ws = [] → Q (.ref t) s) (h2 : ws ≠ [] → Q (.ref s.heap.objs.size) { s with heap := s.heap.push { cls := .type "tuple", data := .seq (vs ++ ws).toArray } })
    (hsz : vs.length + ws.length ≤ sizeLine) : wpAny (model prog w) A (binaryOp .Add (.ref t) (.ref b)) Q E s := by
  obtain ⟨⟨cls, dd, data, sl⟩, ho, hc, n, hd⟩ := id ht
  obtain ⟨⟨cls2, dd2, data2, sl2⟩, ho2, hc2, n2, hd2⟩ := id hb
  simp only at hc hd hc2 hd2
  subst hc hd hc2 hd2
  have e : vs.toArray ++ ws.toArray = (vs ++ ws).toArray := by simp
  by_cases hw : ws = []
  · exact concat_meets ⟨_, ho, rfl⟩ ⟨_, ho2, rfl⟩ noFill_tuple_add seq_tuple_add PySem.F.slot_tuple_add PySem.F.entry_tuple_add (PySem.F.args_tuple_add_2 _ _)
      (tuple_addW1 t b vs.toArray ws.toArray n n2 dd dd2 sl sl2 (by simpa using hv) (by simp [hw])) ⟨ho, ho2, h1 hw⟩
  · refine concat_meets ⟨_, ho, rfl⟩ ⟨_, ho2, rfl⟩ noFill_tuple_add seq_tuple_add PySem.F.slot_tuple_add PySem.F.entry_tuple_add (PySem.F.args_tuple_add_2 _ _)
      (tuple_addW2 t b vs.toArray ws.toArray n n2 dd dd2 sl sl2 (by simpa using hv) (by simpa using hw) (by rw [List.size_toArray, List.size_toArray]; exact hsz)) ⟨ho, ho2, ?_⟩
    rw [e]
    exact h2 hw

/-! ### t[a:b], not the whole -/
noncomputable def sIx (n d : Nat) : Option Int → Nat
  | none => d
  | some v => if v < 0 then (v + (n : Int)).toNat else min v.toNat n
theorem sIx_nat (n d k : Nat) : sIx n d (some (k : Int)) = min k n := by
  show (if (k : Int) < 0 then ((k : Int) + (n : Int)).toNat else min (k : Int).toNat n) = min k n
  rw [if_neg (by omega), Int.toNat_natCast]
theorem sIx_le (n d : Nat) (hd : d ≤ n) (o : Option Int) : sIx n d o ≤ n := by
  cases o with
  | none => exact hd
  | some v =>
    show (if v < 0 then (v + (n : Int)).toNat else min v.toNat n) ≤ n
    by_cases hv : v < 0
    · rw [if_pos hv]; omega
    · rw [if_neg hv]; exact Nat.min_le_right _ _
theorem clip_eq (v : Int) (n d : Nat) : (if v < 0 then max (v + (n : Int)) 0 else min v (n : Int)) = ((sIx n d (some v) : Nat) : Int) := by
  show (if v < 0 then max (v + (n : Int)) 0 else min v (n : Int)) = (((if v < 0 then (v + (n : Int)).toNat else min v.toNat n) : Nat) : Int)
  by_cases hv : v < 0
  · simp only [if_pos hv]; omega
  · simp only [if_neg hv]; omega
theorem adjust_gen (lo hi : Option Int) (n : Nat) : Builtin.Slice.sliceAdjust lo hi 1 (n : Int) = (((sIx n 0 lo : Nat) : Int), ((sIx n n hi : Nat) : Int)) := by
  have h1 : ¬ ((1 : Int) < 0) := by omega
  unfold Builtin.Slice.sliceAdjust
  simp only [h1, if_false]
  refine Prod.ext ?_ ?_
  · cases lo with
    | none => rfl
    | some v => exact clip_eq v n 0
  · cases hi with
    | none => rfl
    | some v => exact clip_eq v n n
theorem places_gen (i j : Nat) : Builtin.Slice.slicePlaces (i : Int) (j : Int) 1 = j - i := by
  unfold Builtin.Slice.slicePlaces
  have h1 : (1 : Int) > 0 := by omega
  simp only [h1, if_true, Int.ediv_one]
  split <;> omega
theorem slicePart_ {v : Value} {o : Option Int} {Q : Option Int → Shared → Prop} (p : IsPart v o) (h : Q o s) : wpAny (model prog w) A (Builtin.Slice.slicePartIndex v) Q E s := by
  cases p with
  | none => exact slicePart_none h
  | int i t => exact slicePart_int h
theorem sliceApplied_gen {sl : Addr} {vl vu : Value} {lo hi : Option Int} {n : Nat} {Q : Int × Int × Nat → Shared → Prop} (hs : s.heap.IsSliceOf sl vl vu .none) (pl : IsPart vl lo) (pu : IsPart vu hi)
    (h : Q (((sIx n 0 lo : Nat) : Int), 1, sIx n n hi - sIx n 0 lo) s) : wpAny (model prog w) A (Builtin.Slice.sliceApplied (.ref sl) (pure (n : Int))) Q E s := by
  obtain ⟨os, hos, hcs, hds⟩ := id hs
  unfold Builtin.Slice.sliceApplied Builtin.Slice.sliceFields
  refine wpAny_bind (wpAny_bind (wpAny_field hos hds (x := vl) rfl (wpAny_bind (wpAny_field hos hds (x := vu) rfl (wpAny_bind (wpAny_field hos hds (x := .none) rfl (wpAny_pure ?_)))))))
  refine wpAny_bind (slicePart_none ?_)
  show wpAny _ _ (if ((1 : Int) == 0) = true then _ else _) _ _ s
  rw [if_neg (by decide)]
  refine wpAny_bind (slicePart_ pl (wpAny_bind (slicePart_ pu (wpAny_bind (wpAny_pure ?_)))))
  show wpAny _ _ (match Builtin.Slice.sliceAdjust lo hi 1 (n : Int) with | (lo, hi) => pure (lo, (1 : Int), Builtin.Slice.slicePlaces lo hi 1)) _ _ s
  rw [adjust_gen lo hi n]
  show wpAny _ _ (pure (((sIx n 0 lo : Nat) : Int), (1 : Int), Builtin.Slice.slicePlaces ((sIx n 0 lo : Nat) : Int) ((sIx n n hi : Nat) : Int) 1)) _ _ s
  rw [places_gen]
  exact wpAny_pure h
theorem pick_gen (xs : Array Value) (i k : Nat) : ((List.range k).filterMap fun (m : Nat) => xs[((i : Int) + (m : Int) * 1).toNat]?).toArray = ((xs.toList.drop i).take k).toArray := by
  have e : (fun (m : Nat) => xs[((i : Int) + (m : Int) * 1).toNat]?) = fun m => xs[i + m]? := by
    funext m
    have : ((i : Int) + (m : Int) * 1).toNat = i + m := by omega
    rw [this]
  rw [e]
  have := pick_run xs i k
  rw [List.filterMap_map] at this
  have e2 : ((fun x => xs[x]?) ∘ fun x => i + x) = fun m => xs[i + m]? := rfl
  rw [e2] at this
  rw [this]

theorem getItem_tuple_cut {t sl : Addr} {items : Array Value} {vl vu : Value} {lo hi : Option Int} {Q : Value → Shared → Prop} (ht : IsTup s.heap t items) (hs : s.heap.IsSliceOf sl vl vu .none) (pl : IsPart vl lo) (pu : IsPart vu hi)
    (hw : ¬ (sIx items.size 0 lo = 0 ∧ sIx items.size items.size hi = items.size))
    (h : Q (.ref s.heap.objs.size) { s with heap := s.heap.push { cls := .type "tuple", data := .seq ((items.toList.drop (sIx items.size 0 lo)).take (sIx items.size items.size hi - sIx items.size 0 lo)).toArray } })
    (hsz : items.size ≤ sizeLine) : wpAny (model prog w) A (getItem (.ref t) (.ref sl)) Q E s := by
  have htake : sizeOk (.seq ((items.toList.drop (sIx items.size 0 lo)).take (sIx items.size items.size hi - sIx items.size 0 lo)).toArray) := by
    show ((items.toList.drop (sIx items.size 0 lo)).take (sIx items.size items.size hi - sIx items.size 0 lo)).toArray.size ≤ sizeLine
    rw [List.size_toArray, List.length_take, List.length_drop, Array.length_toList]
    omega
  have hj : sIx items.size items.size hi ≤ items.size := sIx_le _ _ (Nat.le_refl _) hi
  obtain ⟨os, hos, hcs, hds⟩ := id hs
  have hTs : s.TypeIs (.ref sl) "slice" := ⟨os, hos, hcs⟩
  unfold getItem
  try with_reducible refine wpAny_holding ?_
  first | refine wpAny_bind (wpAny_pure ?_) | skip
  refine wpAny_bind (wpAny_sequenceKey ht.typeIs (by decide) ?_)
  refine wpAny_bind (wpAny_callSpecial?_slot (name := Str.ofString "__getitem__") ht.typeIs PyProof.Rows.slot_tuple_getitem
    (wpAny_call_entry PyProof.Rows.slot_tuple_getitem ht.typeIs entry_tuple_getitem ?_ (args_tuple_getitem _ _)))
  show wpAny _ _ (Builtin.Tuple.tupleItemsOf (.ref t) >>= _) _ _ s
  refine wpAny_bind (tupleItemsOf_ ht ?_)
  refine wpAny_bind (wpAny_typeOf hTs ?_)
  rw [if_pos (by decide)]
  refine wpAny_bind (sliceApplied_gen hs pl pu ?_)
  have hno : ¬ ((((sIx items.size 0 lo : Nat) : Int) == 0 && (1 : Int) == 1 && (sIx items.size items.size hi - sIx items.size 0 lo) == items.size) = true) := by
    intro q
    rw [Bool.and_eq_true, Bool.and_eq_true] at q
    have q1 : ((sIx items.size 0 lo : Nat) : Int) = 0 := eq_of_beq q.1.1
    have q2 : sIx items.size items.size hi - sIx items.size 0 lo = items.size := eq_of_beq q.2
    exact hw ⟨by omega, by omega⟩
  show wpAny _ _ (if (((sIx items.size 0 lo : Nat) : Int) == 0 && (1 : Int) == 1 && (sIx items.size items.size hi - sIx items.size 0 lo) == items.size) = true then _ else _) _ _ s
  rw [if_neg hno, pick_gen]
  first
    | exact wpAny_bind (m := Builtin.Tuple.tupleExact _) (wpAny_newObj_type (wpAny_pure ⟨_, rfl, wpAny_pure h⟩) htake)
    | exact wpAny_bind (m := Builtin.Tuple.tupleExact _) (wpAny_newObj_type (wpAny_bind (wpAny_pure (wpAny_pure ⟨_, rfl, wpAny_pure h⟩))) htake)
    | exact wpAny_bind (wpAny_bind (m := Builtin.Tuple.tupleExact _) (wpAny_newObj_type (wpAny_pure (wpAny_pure ⟨_, rfl, wpAny_pure h⟩)) htake))
    | exact wpAny_bind (wpAny_bind (m := Builtin.Tuple.tupleExact _) (wpAny_newObj_type (wpAny_pure ⟨_, rfl, wpAny_pure h⟩) htake))
end
end HT

namespace L2
open PySem PySem.Spec PyProof.Rows

/-! ### the parts of a slice -/
noncomputable abbrev TO := St → Hp → (Option Int → Hp → Prop) → Prop
noncomputable def PO (X : Cx) (e : Option Expr) (t : TO) : Prop :=
  ∀ (pins : List (Addr × Obj)) (s : Shared) (σ : St) (H : Hp) (Q : Option Int → Hp → Prop), Inv X pins σ H s → t σ H Q →
    wpAny (model X.prog X.w) X.A (evalPart e X.env) (fun u s' => ∃ o H', Inv X pins σ H' s' ∧ IsPart u o ∧ Q o H') X.xe s
noncomputable def tNoPart : TO := fun _ H Q => Q none H
noncomputable def tPart (t : TE) : TO := fun σ H Q => t σ H fun x H1 => ∃ i, x = .int i ∧ Q (some i) H1


section
variable {X : Cx} {e : Expr} {te : TE} {lo hi : Option Expr} {tl th : TO} {pos p2 : Pos}

theorem po_none : PO X none tNoPart := by
  intro pins s σ H Q I h
  rw [evalPart_none]
  exact wpAny_pure ⟨none, H, I, .none, h⟩
theorem po_some (h : PE X e te) : PO X (some e) (tPart te) := by
  intro pins s σ H Q I hw
  rw [evalPart_some]
  refine thn (h pins s σ H _ I hw) fun u s1 ⟨x, H1, I1, r1, q1⟩ => ?_
  obtain ⟨i, rfl, q⟩ := q1
  obtain ⟨t, rfl⟩ := r1
  exact ⟨some i, H1, I1, .int i t, q⟩

noncomputable def SlR (X : Cx) (r : V → Option Int → Option Int → Hp → VK → Prop) : Prop :=
  ∀ (pins : List (Addr × Obj)) (s : Shared) (σ : St) (H : Hp) (x : V) (v vl vu : Value) (lo hi : Option Int) (sl : Addr) (Q : VK), Inv X pins σ H s → RelV x v → s.heap.IsSliceOf sl vl vu .none → IsPart vl lo → IsPart vu hi → r x lo hi H Q →
    ∃ T id, typeLookup (.type T) "__getitem__" = pure (some (.builtin id)) ∧ s.TypeIs v T ∧ wpAny (model X.prog X.w) X.A (getItem v (.ref sl)) (EP X pins σ Q) X.xe s
noncomputable def tSl (r : V → Option Int → Option Int → Hp → VK → Prop) (te : TE) (tl th : TO) : TE := fun σ H Q => te σ H fun x H1 => tl σ H1 fun l H2 => th σ H2 fun u H3 => r x l u H3 Q
theorem pe_slice {r : V → Option Int → Option Int → Hp → VK → Prop} (hr : SlR X r) (he : PE X e te) (hl : PO X lo tl) (hu : PO X hi th) : PE X (.Subscript e (.Slice lo hi none p2) pos) (tSl r te tl th) := by
  intro pins s σ H Q I h
  refine Subscript_ (thn (he pins s σ H _ I h) fun v s1 ⟨x, H1, I1, r1, q1⟩ => ?_)
  refine wpAny_Slice (thn (hl pins s1 σ H1 _ I1 q1) fun vl s2 ⟨l, H2, I2, pl, q2⟩ => thn (hu pins s2 σ H2 _ I2 q2) fun vu s3 ⟨u, H3, I3, pu, q3⟩ => ?_)
  rw [evalPart_none]
  refine wpAny_pure ?_
  have I4 : Inv X pins σ H3 { s3 with heap := s3.heap.push { cls := .type "slice", data := .fields #[vl, vu, .none] } } := I3.kept (t' := s3.toks) fun b ob q => Heap.get?_push_of_some _ q
  obtain ⟨T, id, hT, ht, hg⟩ := hr pins { s3 with heap := s3.heap.push { cls := .type "slice", data := .fields #[vl, vu, .none] } } σ H3 x v vl vu l u s3.heap.objs.size Q I4 r1 (Heap.IsSliceOf.new ..) pl pu q3
  show wpAny (model X.prog X.w) X.A (subscriptTail e (.Slice lo hi none p2) v (.ref s3.heap.objs.size)) (EP X pins σ Q) X.xe { s3 with heap := s3.heap.push { cls := .type "slice", data := .fields #[vl, vu, .none] } }
  exact tail_any (ops := [.ref s3.heap.objs.size, v]) ht hT hg (by with_unfolding_all rfl)

noncomputable def cutV (xs : List V) (lo hi : Option Int) : List V := (xs.drop (HT.sIx xs.length 0 lo)).take (HT.sIx xs.length xs.length hi - HT.sIx xs.length 0 lo)
theorem cutV_length (xs : List V) (lo hi : Option Int) : (cutV xs lo hi).length ≤ xs.length := by
  unfold cutV
  rw [List.length_take, List.length_drop]
  omega
noncomputable def rSlT (K : PySem.W.Frag) : V → Option Int → Option Int → Hp → VK → Prop := fun x lo hi H Q => ∃ a xs, x = .ref a ∧ SqT K H a xs ∧
  ¬ (HT.sIx xs.length 0 lo = 0 ∧ HT.sIx xs.length xs.length hi = xs.length) ∧ ∀ p, H p = none → Q (.ref p) (upd H p (.tup (cutV xs lo hi)))
theorem sl_tup : SlR X (rSlT X.K) := by
  intro pins s σ H x v vl vu lo hi sl Q I rx hs pl pu h
  obtain ⟨a, xs, rfl, hx, hw, q⟩ := h
  cases rx
  obtain ⟨its, r, ht, hz⟩ := I.tuple hx
  have hlen : its.toArray.size = xs.length := by rw [List.size_toArray]; exact r.length.symm
  refine ⟨"tuple", _, PyProof.Rows.slot_tuple_getitem.lookup, ht.typeIs, ?_⟩
  refine HT.getItem_tuple_cut ht hs pl pu (by rw [hlen]; exact hw) ?_ (by rw [hlen]; exact hz)
  rw [hlen]
  refine ⟨.ref s.heap.objs.size, _, I.laid (t' := s.toks) (o := .tup (cutV xs lo hi)) (fun b ob q => Heap.get?_push_of_some _ q) (Nat.le_refl _) ?_, rfl, q _ (I.hok.fresh (Nat.le_refl _))⟩
  exact ⟨Nat.le_trans (cutV_length xs lo hi) hz, _, (r.drop (HT.sIx xs.length 0 lo)).take (HT.sIx xs.length xs.length hi - HT.sIx xs.length 0 lo), IsTup.new _ _⟩

/-! ### t < u, t + u -/
noncomputable def rCatT (K : PySem.W.Frag) : R2 := fun x y H Q => ∃ a b xs ys, x = .ref a ∧ y = .ref b ∧ SqT K H a xs ∧ SqT K H b ys ∧ xs ≠ [] ∧ xs.length + ys.length ≤ sizeLine ∧
  (ys = [] → Q (.ref a) H) ∧ (ys ≠ [] → ∀ p, H p = none → Q (.ref p) (upd H p (.tup (xs ++ ys))))
theorem Vals.nil_iff {xs : List V} {us : List Value} (r : Vals xs us) : us = [] ↔ xs = [] := by
  cases r with
  | nil => simp
  | cons _ _ => simp
theorem op_catT : OpR X (binaryOp .Add) (rCatT X.K) := by
  intro pins s σ H x y v u Q I rx ry h
  obtain ⟨a, b, xs, ys, rfl, rfl, ha, hb, hx, hz, q1, q2⟩ := h
  cases rx
  cases ry
  obtain ⟨its, r1, p1, _⟩ := I.tuple ha
  obtain ⟨its2, r2, p2, _⟩ := I.tuple hb
  refine HT.cat_tup p1 p2 (fun z => hx (r1.nil_iff.mp z)) (fun z => ⟨.ref a, H, I, rfl, q1 (r2.nil_iff.mp z)⟩) (fun z => ?_) (by rw [← r1.length, ← r2.length]; exact hz)
  refine ⟨.ref s.heap.objs.size, _, I.laid (t' := s.toks) (o := .tup (xs ++ ys)) (fun b ob q => Heap.get?_push_of_some _ q) (Nat.le_refl _) ?_, rfl, q2 (fun w => z (r2.nil_iff.mpr w)) _ (I.hok.fresh (Nat.le_refl _))⟩
  exact ⟨by rw [List.length_append]; exact hz, _, r1.append r2, IsTup.new _ _⟩
end
end L2

namespace L2
open PySem PySem.Spec PyProof.Rows

/-! ### places -/
noncomputable def ixN (n : Nat) (i : Int) : Option Nat := if 0 ≤ i then (if i < n then some i.toNat else none) else if -(n : Int) ≤ i then some (i + n).toNat else none
noncomputable def atI {α : Type} (xs : List α) (i : Int) : Option α := (ixN xs.length i).bind fun j => xs[j]?
theorem ixN_seq {n : Nat} {i : Int} {j : Nat} (h : ixN n i = some j) : seqIndex? i n = some j ∧ j < n ∧ -(n : Int) ≤ i ∧ i < n := by
  unfold ixN at h
  by_cases h0 : 0 ≤ i
  · rw [if_pos h0] at h
    by_cases h1 : i < n
    · rw [if_pos h1] at h
      have e : i.toNat = j := Option.some.inj h
      exact ⟨by rw [seqIndex_of h0 h1, e], by omega, by omega, h1⟩
    · rw [if_neg h1] at h; cases h
  · rw [if_neg h0] at h
    by_cases h1 : -(n : Int) ≤ i
    · rw [if_pos h1] at h
      have e : (i + n).toNat = j := Option.some.inj h
      exact ⟨by rw [seqIndex_neg (by omega) h1, e], by omega, h1, by omega⟩
    · rw [if_neg h1] at h; cases h
theorem atI_get {α : Type} {xs : List α} {i : Int} {v : α} (h : atI xs i = some v) : ∃ j, seqIndex? i xs.length = some j ∧ xs[j]? = some v ∧ j < xs.length ∧ -(xs.length : Int) ≤ i ∧ i < xs.length := by
  unfold atI at h
  cases e : ixN xs.length i with
  | none => rw [e] at h; cases h
  | some j =>
    rw [e] at h
    obtain ⟨h1, h2, h3, h4⟩ := ixN_seq e
    exact ⟨j, h1, h, h2, h3, h4⟩
theorem atI_nat {α : Type} {xs : List α} {j : Nat} {v : α} (h : xs[j]? = some v) : atI xs (j : Int) = some v := by
  have hj : j < xs.length := (List.getElem?_eq_some_iff.mp h).1
  have e : ixN xs.length (j : Int) = some j := by
    unfold ixN
    rw [if_pos (by omega), if_pos (by omega)]; simp
  unfold atI; rw [e]; exact h
theorem atI_last {α : Type} (xs : List α) (v : α) : atI (xs ++ [v]) (-1) = some v := by
  have hl : (xs ++ [v]).length = xs.length + 1 := by simp
  have e : ixN (xs ++ [v]).length (-1) = some xs.length := by
    unfold ixN
    rw [hl, if_neg (by decide), if_pos (by omega)]
    congr 1
    omega
  unfold atI
  rw [e]
  show (xs ++ [v])[xs.length]? = some v
  simp

/-! ### what may be subscripted -/
noncomputable def PlainIx (b : Expr) : Prop := ∀ o i, subscripted b false o i = operate [o, i] (getItem o i)
noncomputable def IxR (X : Cx) (r : R2) : Prop :=
  ∀ (value slice : Expr) (pins : List (Addr × Obj)) (s : Shared) (σ : St) (H : Hp) (x y : V) (v u : Value) (Q : VK), Inv X pins σ H s → RelV x v → RelV y u → r x y H Q →
    subscripted slice false v u = operate [v, u] (getItem v u) → wpAny (model X.prog X.w) X.A (subscriptTail value slice v u) (EP X pins σ Q) X.xe s
noncomputable def MtR (X : Cx) (id : String) (r : V → List V → Hp → VK → Prop) : Prop :=
  ∀ (pins : List (Addr × Obj)) (s : Shared) (σ : St) (H : Hp) (x : V) (xs : List V) (v : Value) (us : List Value) (Q : VK), Inv X pins σ H s → RelV x v → Vals xs us → r x xs H Q →
    wpAny (model X.prog X.w) X.A (call (.builtin id) (v :: us)) (EP X pins σ Q) X.xe s
section
variable {X : Cx} {a b : Expr} {ta tb : TE} {pos : Pos}
theorem pe_ix {r : R2} (hr : IxR X r) (ha : PE X a ta) (hb : PE X b tb) (hs : PlainIx b) : PE X (.Subscript a b pos) (tOp r ta tb) := by
  intro pins s σ H Q I h
  exact Subscript_ (binT ha hb I h fun v u s2 x y H2 I2 rx ry q => hr a b pins s2 σ H2 x y v u Q I2 rx ry q (hs _ _))

noncomputable def rIxL (K : PySem.W.Frag) : R2 := fun x y H Q => ∃ p xs i v, x = .ref p ∧ y = .int i ∧ SqL K H p xs ∧ atI xs i = some v ∧ Q v H
noncomputable def rIxT (K : PySem.W.Frag) : R2 := fun x y H Q => ∃ p xs i v, x = .ref p ∧ y = .int i ∧ SqT K H p xs ∧ atI xs i = some v ∧ Q v H
noncomputable def rIxS : R2 := fun x y H Q => ∃ z i c, x = .str z ∧ y = .int i ∧ z.length ≤ sizeLine ∧ atI z.cps.toList i = some c ∧ Q (.str ⟨#[c]⟩) H
theorem ix_list : IxR X (rIxL X.K) := by
  intro value slice pins s σ H x y v u Q I rx ry h hs
  obtain ⟨p, xs, i, z, rfl, rfl, hq, he, q⟩ := h
  cases rx
  obtain ⟨t, rfl⟩ := ry
  obtain ⟨its, r, pl, hz⟩ := I.list hq
  obtain ⟨j, h1, h2, h3, h4, h5⟩ := atI_get he
  obtain ⟨w, ew, rw'⟩ := r.get h2
  have hl := r.length
  have hn := line63
  have fin : EP X pins σ Q w s := ⟨z, H, I, rw', q⟩
  by_cases h0 : 0 ≤ i
  · have hj : i.toNat = j := by
      rw [seqIndex_of h0 h5] at h1
      exact Option.some.inj h1
    exact item_listR pl.isList h0 (by omega) (by rw [hj]; simpa using ew) fin hs
  · have hj : (i + (its.toArray.size : Int)).toNat = j := by
      rw [seqIndex_neg (by omega) h4] at h1
      rw [List.size_toArray, ← hl]
      exact Option.some.inj h1
    exact subscriptTail_builtinR (x := w) pl.isList.typeIs slot_list_getitem.lookup
      (wpAny_getItem_list_neg (Q := fun r s' => r = w ∧ EP X pins σ Q r s') pl.isList (by omega) (by rw [List.size_toArray] <;> omega) (by omega) (by rw [hj]; simpa using ew) ⟨rfl, fin⟩) hs
theorem ix_tup : IxR X (rIxT X.K) := by
  intro value slice pins s σ H x y v u Q I rx ry h hs
  obtain ⟨p, xs, i, z, rfl, rfl, hq, he, q⟩ := h
  cases rx
  obtain ⟨t, rfl⟩ := ry
  obtain ⟨its, r, pl, hz⟩ := I.tuple hq
  obtain ⟨j, h1, h2, h3, h4, h5⟩ := atI_get he
  obtain ⟨w, ew, rw'⟩ := r.get h2
  have hl := r.length
  have hn := line63
  have fin : EP X pins σ Q w s := ⟨z, H, I, rw', q⟩
  exact subscriptTail_builtinR (x := w) pl.typeIs slot_tuple_getitem.lookup
    (getItem_tuple (j := j) (Q := fun r s' => r = w ∧ EP X pins σ Q r s') pl (by omega) (by omega) (by rw [List.size_toArray, ← hl]; exact h1) (by simpa using ew) ⟨rfl, fin⟩) hs

/-! ### xs[i] = v, any sign -/

/-! ### slices -/
theorem slice_bounds (lo hi : Option Int) (n : Nat) : (sliceBounds lo hi none n).1 = ((HT.sIx n 0 lo : Nat) : Int) ∧ (sliceBounds lo hi none n).2.1 = ((HT.sIx n n hi : Nat) : Int) ∧ (sliceBounds lo hi none n).2.2 = 1 := by
  refine ⟨?_, ?_, rfl⟩
  · cases lo with
    | none => simp [sliceBounds, HT.sIx]
    | some i =>
      simp only [sliceBounds, HT.sIx, Option.getD_none, show (1 : Int) > 0 by decide, if_true]
      by_cases h : i < 0
      · simp only [h, if_true] <;> omega
      · simp only [h, if_false] <;> omega
  · cases hi with
    | none => simp [sliceBounds, HT.sIx]
    | some i =>
      simp only [sliceBounds, HT.sIx, Option.getD_none, show (1 : Int) > 0 by decide, if_true]
      by_cases h : i < 0
      · simp only [h, if_true] <;> omega
      · simp only [h, if_false] <;> omega
theorem slicePick_cut (its : List Value) (lo hi : Option Int) : slicePick its.toArray lo hi none = ((its.drop (HT.sIx its.length 0 lo)).take (HT.sIx its.length its.length hi - HT.sIx its.length 0 lo)).toArray := by
  obtain ⟨h1, h2, h3⟩ := slice_bounds lo hi its.toArray.size
  unfold slicePick
  rw [h1, h2, h3]
  simp only [sliceRange_one, pick_run, List.size_toArray] <;> rfl
noncomputable def rSlL (K : PySem.W.Frag) : V → Option Int → Option Int → Hp → VK → Prop := fun x lo hi H Q => ∃ a xs, x = .ref a ∧ SqL K H a xs ∧ ∀ p, H p = none → Q (.ref p) (upd H p (.lst (cutV xs lo hi)))
theorem sl_list : SlR X (rSlL X.K) := by
  intro pins s σ H x v vl vu lo hi sl Q I rx hs pl pu h
  obtain ⟨a, xs, rfl, hx, q⟩ := h
  cases rx
  obtain ⟨its, r, ht, hz⟩ := I.list hx
  have hlen := r.length
  refine ⟨"list", _, slot_list_getitem.lookup, ht.isList.typeIs, ?_⟩
  refine wpAny_getItem_list_slice ht.isList hs pl pu .none (by simp) ?_ (by rw [List.size_toArray] <;> omega)
  rw [slicePick_cut, ← hlen]
  refine ⟨.ref s.heap.objs.size, _, I.laid (t' := s.toks) (o := .lst (cutV xs lo hi)) (fun b ob q => Heap.get?_push_of_some _ q) (Nat.le_refl _) ?_, rfl, q _ (I.hok.fresh (Nat.le_refl _))⟩
  exact ⟨Nat.le_trans (cutV_length xs lo hi) hz, _, 0, (r.drop (HT.sIx xs.length 0 lo)).take (HT.sIx xs.length xs.length hi - HT.sIx xs.length 0 lo), Heap.get?_push_size _ rfl⟩

/-! ### in, not in: flat items -/
noncomputable def flatV : V → Bool
  | .non => true
  | .bl _ => true
  | .int _ => true
  | .str _ => true
  | _ => false
noncomputable def eqV : V → V → Bool
  | .non, .non => true
  | .bl a, .bl b => a == b
  | .bl a, .int b => (if a then 1 else 0) == b
  | .int a, .bl b => a == (if b then 1 else 0)
  | .int a, .int b => a == b
  | .str a, .str b => a == b
  | _, _ => false
noncomputable def inV (x : V) (xs : List V) : Bool := xs.any fun y => eqV y x
noncomputable def rIn (K : PySem.W.Frag) (neg : Bool) : R2 := fun x y H Q => ∃ p xs, y = .ref p ∧ (SqL K H p xs ∨ SqT K H p xs) ∧ flatV x = true ∧ xs.all flatV = true ∧ Q (.bl (if neg then !inV x xs else inV x xs)) H

/-! ### len, list(x), tuple(x) of any list or tuple that is read -/
theorem call_list_of : CallR X (.type "list") (fun xs H Q => ∃ p ys, xs = [.ref p] ∧ (SqL X.K H p ys ∨ SqT X.K H p ys) ∧ ∀ l, H l = none → Q (.ref l) (upd H l (.lst ys))) := by
  intro pins s σ H xs us Q I r h
  obtain ⟨p, ys, rfl, hq, q⟩ := h
  obtain ⟨u, rfl, rx⟩ := vals1 r
  cases rx
  have fin : ∀ (its : List Value), Vals ys its → ys.length ≤ sizeLine → ∀ (h' : Heap) (c' : Nat), (∀ b o', s.heap.get? b = some o' → h'.get? b = some o') →
      h'.get? s.heap.objs.size = some { cls := .type "list", dict := none, data := .seq its.toArray c', slots := #[] } → EP X pins σ Q (.ref s.heap.objs.size) { s with heap := h' } := fun its r' hz h' c' kp e =>
    ⟨.ref s.heap.objs.size, _, I.laid (t' := s.toks) kp (Nat.le_refl _) (show ObjOk X.prog X.w _ h' _ (.lst ys) from ⟨hz, its, c', r', e⟩), rfl, q _ (I.hok.fresh (Nat.le_refl _))⟩
  rcases hq with hq | hq
  · obtain ⟨its, r', pl, hz⟩ := I.list hq
    have hlen := r'.length
    obtain ⟨o, ho, hc, n, hd⟩ := pl.isList
    exact call_list_seq p (.inl rfl) ho hc hd (fun h' c' kp e => fin its r' hz h' c' kp e) (by simp only [List.size_toArray] <;> omega)
  · obtain ⟨its, r', pl, hz⟩ := I.tuple hq
    have hlen := r'.length
    obtain ⟨o, ho, hc, n, hd⟩ := pl
    exact call_list_seq p (.inr rfl) ho hc hd (fun h' c' kp e => fin its r' hz h' c' kp e) (by simp only [List.size_toArray] <;> omega)

/-! ### the call of a builtin's method: o.m(..) -/
noncomputable def tyV (K : PySem.W.Frag) (T : String) (x : V) (H : Hp) : Prop := match x with
  | .str _ => T = "str"
  | .int _ => T = "int"
  | .ref p => (T = "list" ∧ ∃ xs, SqL K H p xs) ∨ (T = "tuple" ∧ ∃ o, K.lookup p = some o ∧ o.cls = .type "tuple" ∧ o.dict = none) ∨
      (T = "dict" ∧ ((∃ kvs, H p = some (.dK kvs)) ∨ ∃ kvs, H p = some (.dT kvs))) ∨ (T = "set" ∧ ∃ S n, H p = some (.set S n))
  | _ => False
theorem tyV_is {pins : List (Addr × Obj)} {σ : St} {H : Hp} {s : Shared} {T : String} {x : V} {v : Value} (I : Inv X pins σ H s) (r : RelV x v) (ty : tyV X.K T x H) :
    s.TypeIs v T ∧ ∀ a, v = .ref a → ∃ ob, s.heap.get? a = some ob ∧ ob.dict = none := by
  cases x with
  | str z =>
    obtain ⟨t, rfl⟩ := r
    cases (show T = "str" from ty)
    exact ⟨typeIs_str s z t, fun _ e => nomatch e⟩
  | int i =>
    obtain ⟨t, rfl⟩ := r
    cases (show T = "int" from ty)
    exact ⟨typeIs_int s i t, fun _ e => nomatch e⟩
  | ref p =>
    cases r
    rcases ty with ⟨rfl, xs, hq⟩ | ⟨rfl, o, hk, hc, hd⟩ | ⟨rfl, hk⟩ | ⟨rfl, S, n, hk⟩
    · obtain ⟨its, _, pl, _⟩ := I.list hq
      refine ⟨pl.isList.typeIs, fun a e => ?_⟩
      cases e
      obtain ⟨o, n, e, c, hd, _⟩ := pl
      exact ⟨o, e, hd⟩
    · refine ⟨⟨o, I.kIn p o hk, hc⟩, fun a e => ?_⟩
      cases e
      exact ⟨o, I.kIn _ o hk, hd⟩
    · have z : ∃ o, s.heap.get? p = some o ∧ o.ExactDict := by
        rcases hk with ⟨kvs, hk⟩ | ⟨kvs, hk⟩
        · obtain ⟨_, _, _, _, o, _, _, e, ex, _⟩ := I.hok p _ hk
          exact ⟨o, e, ex⟩
        · obtain ⟨_, _, _, _, o, _, _, e, ex, _⟩ := I.hok p _ hk
          exact ⟨o, e, ex⟩
      obtain ⟨o, e, ex⟩ := z
      refine ⟨⟨o, e, ex.1⟩, fun a e2 => ?_⟩
      cases e2
      exact ⟨o, e, ex.2.1⟩
    · obtain ⟨o, _, _, _, e, ex, _⟩ := I.hok p _ hk
      refine ⟨⟨o, e, ex.1⟩, fun a e2 => ?_⟩
      cases e2
      exact ⟨o, e, ex.2.1⟩
  | _ => exact False.elim ty
noncomputable def tBM0 (K : PySem.W.Frag) (T : String) (r : V → List V → Hp → VK → Prop) (to : TE) : TE := fun σ H Q => to σ H fun x H1 => tyV K T x H1 ∧ r x [] H1 Q
noncomputable def tBM (K : PySem.W.Frag) (T : String) (r : V → List V → Hp → VK → Prop) (to : TE) (t : TA) : TE := fun σ H Q => to σ H fun x H1 => tyV K T x H1 ∧ t σ H1 fun xs H2 => r x xs H2 Q
variable {o e : Expr} {es : List Expr} {to : TE} {t : TA} {name : Str} {apos cpos : Pos} {T id : String} {r : V → List V → Hp → VK → Prop}
theorem pe_bm0 (pa : PlainAttrs T) (slot : Slot T name id) (hty : typeOf (.builtin id) = pure (.type "method_descriptor")) (hm : MtR X id r) (ho : PE X o to)
    (hbase : attributeBase o name X.env (eval o X.env) = eval o X.env := by rfl) (hline : (apos.endLine == cpos.line) = true := by rfl) : PE X (.Call (.Attribute o name apos) [] [] cpos) (tBM0 X.K T r to) := by
  intro pins s σ H Q I h
  refine wpAny_Call_method0_late hbase hline (thn (ho pins s σ H _ I h) fun v s1 ⟨x, H1, I1, r1, ty, q1⟩ => ?_)
  obtain ⟨h1, h2⟩ := tyV_is I1 r1 ty
  exact ⟨T, id, pa, slot, hty, h1, h2, Calls.callWith_builtin rfl (PySem.evalArgs_none (hm pins s1 σ H1 x [] v [] Q I1 r1 .nil q1))⟩
theorem pe_bm (pa : PlainAttrs T) (slot : Slot T name id) (hty : typeOf (.builtin id) = pure (.type "method_descriptor")) (hm : MtR X id r) (ho : PE X o to) (ha : PA X (e :: es) t)
    (hbase : attributeBase o name X.env (eval o X.env) = eval o X.env := by rfl)
    (hfew : ((backTo cpos (starEach (e :: es) X.env)).all (fun x => !x.1) && (backToKw cpos (keywordEach [] X.env)).all (fun x => x.1.isSome)
      && decide ((e :: es).length + ([] : List Keyword).length + (if ([] : List Keyword).isEmpty then 0 else 1) < 30)) = true := by rfl)
    (hline : (apos.endLine == cpos.line) = true := by rfl) (hs : starEach (e :: es) X.env = (false, eval e X.env) :: starEach es X.env := by rfl) (hplain : (backTo cpos (starEach es X.env)).any (·.1) = false := by rfl) :
    PE X (.Call (.Attribute o name apos) (e :: es) [] cpos) (tBM X.K T r to t) := by
  intro pins s σ H Q I h
  refine wpAny_Call_method_late hbase hfew hline rfl (thn (ho pins s σ H _ I h) fun v s1 ⟨x, H1, I1, r1, ty, q1⟩ => ?_)
  obtain ⟨h1, h2⟩ := tyV_is I1 r1 ty
  refine ⟨T, id, pa, slot, hty, h1, h2, ?_⟩
  have hA := ha cpos pins s1 σ H1 _ I1 q1
  rw [hs] at hA ⊢
  refine Calls.callWith_builtin (by show (false || (backTo cpos (starEach es X.env)).any (·.1)) = false; rw [hplain] <;> rfl) (Calls.evalArgs_plain ?_)
  exact thn hA fun us s2 ⟨vs, H2, I2, r2, q2⟩ => hm pins s2 σ H2 x vs v us Q I2 r1 r2 q2
/- xs.append(e), list.index on a module's tuple .. are MtR facts of 06m -/
end
end L2

namespace L2
open PySem PySem.Spec PyProof.Rows

noncomputable def MtM (X : Cx) (id : String) (r : V → List V → Hp → VK → Prop) : Prop :=
  ∀ (pins : List (Addr × Obj)) (s : Shared) (σ : St) (H : Hp) (x : V) (xs : List V) (v : Value) (us : List Value) (Q : VK), Inv X pins σ H s → RelV x v → Vals xs us → r x xs H Q →
    wpAny (model X.prog X.w) X.A (call (.builtin id) (v :: us)) (EP X pins σ Q) X.xe s

/-! ### lists of values -/
theorem Vals.one : ∀ {x : V} {us : List Value}, Vals [x] us → ∃ u, us = [u] ∧ RelV x u
  | _, _, .cons r .nil => ⟨_, rfl, r⟩
theorem Vals.zero : ∀ {us : List Value}, Vals [] us → us = []
  | _, .nil => rfl
theorem Vals.dropLast {xs : List V} {us : List Value} (h : Vals xs us) : Vals xs.dropLast us.dropLast := by
  induction h with
  | nil => exact .nil
  | cons r t ih =>
    cases t with
    | nil => exact .nil
    | cons q t' => exact .cons r ih
theorem erase_last {α : Type} (l : List α) : l.eraseIdx (l.length - 1) = l.dropLast := by
  induction l with
  | nil => rfl
  | cons a r ih =>
    cases r with
    | nil => rfl
    | cons b r =>
      have e : (a :: b :: r).length - 1 = ((b :: r).length - 1) + 1 := by
        have h1 : (a :: b :: r).length = r.length + 2 := rfl
        have h2 : (b :: r).length = r.length + 1 := rfl
        omega
      rw [e, List.eraseIdx_cons_succ, ih]
      all_goals rfl

section
variable {X : Cx} {pins : List (Addr × Obj)} {σ : St} {H : Hp} {s : Shared} {l b : Addr} {xs ys zs : List V}

/-! ### the two steps: a tracked list is rewritten, a new list is laid -/
theorem Inv.lset {its its' : List Value} {n : Nat} {f : Array Value → Array Value} {t' : Nat} (I : Inv X pins σ H s) (hH : H l = some (.lst xs))
    (e : s.heap.get? l = some { cls := .type "list", data := .seq its.toArray n }) (hf : f its.toArray = its'.toArray) (hv : Vals ys its') (hz : ys.length ≤ sizeLine) :
    Inv X pins σ (upd H l (.lst ys)) { s with heap := s.heap.update l (Obj.mapSeq f), toks := t' } := by
  have q := PySem.IsL.update e f
  rw [hf] at q
  refine I.write (x := l) (e := l) (by rw [hH]; exact trivial) (.inl rfl) (fun b' u hb hu => (Heap.get?_update_other s.heap (Obj.mapSeq f) (Ne.symm hb)).trans hu) ⟨_, q⟩ ?_
  exact ⟨hz, its', _, hv, q⟩
theorem Inv.lnew {its : List Value} {t' : Nat} (I : Inv X pins σ H s) (hv : Vals ys its) (hz : ys.length ≤ sizeLine) :
    Inv X pins σ (upd H s.heap.objs.size (.lst ys)) { s with heap := s.heap.push { cls := .type "list", data := .seq its.toArray }, toks := t' } :=
  I.laid (fun _ _ q => Heap.get?_push_of_some _ q) (Nat.le_refl _) ⟨hz, its, 0, hv, Heap.get?_push_size _ rfl⟩
theorem Inv.fresh (I : Inv X pins σ H s) : H s.heap.objs.size = none := I.hok.fresh (Nat.le_refl _)
theorem Inv.lstM (I : Inv X pins σ H s) (hH : H l = some (.lst xs)) : xs.length ≤ sizeLine ∧ ∃ (its : List Value) (n : Nat), Vals xs its ∧ xs.length = its.length ∧ s.heap.get? l = some { cls := .type "list", data := .seq its.toArray n } := by
  obtain ⟨z, its, n, r, e⟩ := I.hok l _ hH
  exact ⟨z, its, n, r, r.length, e⟩

end

section
variable {X : Cx}

/-! ### methods -/
noncomputable def rAppend : V → List V → Hp → VK → Prop := fun x vs H Q => ∃ l xs y, x = .ref l ∧ vs = [y] ∧ H l = some (.lst xs) ∧ xs.length < sizeLine ∧ Q .non (upd H l (.lst (xs ++ [y])))
theorem mt_append : MtM X "list.append" rAppend := by
  intro pins s σ H x vs v us Q I rx rv h
  obtain ⟨l, xs, y, rfl, rfl, hH, hz, q⟩ := h
  cases rx
  obtain ⟨u, rfl, ru⟩ := rv.one
  obtain ⟨z, its, n, r, hl, e⟩ := I.lstM hH
  refine call_meets F.slot_list_append ⟨_, e, rfl⟩ F.entry_list_append (F.args_list_append_2 _ _) (PySem.list_append l its.toArray n u (by rw [List.size_toArray]; omega)) ⟨e, ?_⟩
  refine ⟨.non, _, I.lset (its' := its ++ [u]) hH e (by simp) (r.append (.cons ru .nil)) ?_, rfl, q⟩
  rw [List.length_append, List.length_singleton]
  omega


noncomputable def rPop : V → List V → Hp → VK → Prop := fun x vs H Q => ∃ l xs y, x = .ref l ∧ vs = [] ∧ H l = some (.lst xs) ∧ xs[xs.length - 1]? = some y ∧ Q y (upd H l (.lst xs.dropLast))
theorem mt_pop : MtM X "list.pop" rPop := by
  intro pins s σ H x vs v us Q I rx rv h
  obtain ⟨l, xs, y, rfl, rfl, hH, hy, q⟩ := h
  cases rx
  have hus := rv.zero
  subst hus
  obtain ⟨z, its, n, r, hl, e⟩ := I.lstM hH
  obtain ⟨u, hu, ru⟩ := r.get hy
  have hy' : its.toArray[its.toArray.size - 1]? = some u := by
    show its.toArray[its.length - 1]? = some u
    rw [← Array.getElem?_toList, ← hl]
    exact hu
  refine call_meets F.slot_list_pop ⟨_, e, rfl⟩ F.entry_list_pop (F.args_list_pop_1 _) (MeetsSeq.list_pop_last l its.toArray n u hy' (by rw [List.size_toArray]; omega)) ⟨e, ?_⟩
  refine ⟨y, _, I.lset (its' := its.dropLast) hH e ?_ r.dropLast ?_, ru, q⟩
  · show its.toArray.eraseIdxIfInBounds (its.toArray.size - 1) = its.dropLast.toArray
    rw [List.size_toArray, List.eraseIdxIfInBounds_toArray, erase_last]
  · rw [List.length_dropLast]
    omega



noncomputable def rClear : V → List V → Hp → VK → Prop := fun x vs H Q => ∃ l xs, x = .ref l ∧ vs = [] ∧ H l = some (.lst xs) ∧ Q .non (upd H l (.lst []))
theorem mt_clear : MtM X "list.clear" rClear := by
  intro pins s σ H x vs v us Q I rx rv h
  obtain ⟨l, xs, rfl, rfl, hH, q⟩ := h
  cases rx
  have hus := rv.zero
  subst hus
  obtain ⟨z, its, n, r, hl, e⟩ := I.lstM hH
  refine call_meets F.slot_list_clear ⟨_, e, rfl⟩ F.entry_list_clear (F.args_list_clear_1 _) (AutoSeq1.list_clear_list_0 l its.toArray n (by rw [List.size_toArray]; omega)) ⟨e, ?_⟩
  exact ⟨.non, _, I.lset (its' := []) (ys := []) hH e rfl .nil (Nat.zero_le _), rfl, q⟩

/-! ### list + list, list += list, list * int -/

/-! ### del xs[i] -/
end

/-! ### xs[a:b] = ys -/
section
variable {prog : Program} {w : World} {A : Around} {E : Value → Shared → Prop} {s : Shared}
set_option maxRecDepth 100000 in
end

section
variable {X : Cx}
end
end L2

namespace L2
open PySem PySem.Spec PyProof.Rows

/-! ### lists of pairs as tables -/
section
variable {κ : Type} [DecidableEq κ]
noncomputable def valV (kvs : List (κ × V)) (k : κ) : Option V := (kvs.find? fun kv => decide (kv.1 = k)).map (·.2)
noncomputable def putK (kvs : List (κ × V)) (k : κ) (v : V) : List (κ × V) :=
  if (kvs.any fun kv => decide (kv.1 = k)) = true then kvs.map (fun kv => if kv.1 = k then (kv.1, v) else kv) else kvs ++ [(k, v)]

theorem valV_pos {p : κ × V} {r : List (κ × V)} {k : κ} (e : p.1 = k) : valV (p :: r) k = some p.2 := by simp [valV, List.find?_cons, e]
theorem valV_neg {p : κ × V} {r : List (κ × V)} {k : κ} (e : ¬ p.1 = k) : valV (p :: r) k = valV r k := by simp [valV, List.find?_cons, e]
theorem valV_any (k : κ) : ∀ kvs : List (κ × V), (kvs.any fun kv => decide (kv.1 = k)) = (valV kvs k).isSome
  | [] => rfl
  | p :: r => by
    rw [List.any_cons]
    by_cases e : p.1 = k
    · simp only [valV_pos e, decide_eq_true e, Bool.true_or, Option.isSome_some]
    · rw [valV_neg e, decide_eq_false e, Bool.false_or]; exact valV_any k r
theorem valV_map (k j : κ) (y : V) : ∀ kvs : List (κ × V), valV (kvs.map fun kv => if kv.1 = k then (kv.1, y) else kv) j = (valV kvs j).map fun x => if j = k then y else x
  | [] => rfl
  | p :: r => by
    have ih := valV_map k j y r
    rw [List.map_cons]
    by_cases h : p.1 = k
    · rw [if_pos h]
      by_cases e : p.1 = j
      · rw [valV_pos (p := (p.1, y)) e, valV_pos e, Option.map_some, if_pos (e.symm.trans h)]
      · rw [valV_neg (p := (p.1, y)) e, valV_neg e, ih]
    · rw [if_neg h]
      by_cases e : p.1 = j
      · rw [valV_pos (p := p) e, valV_pos e, Option.map_some, if_neg (fun z => h (e.trans z))]
      · rw [valV_neg (p := p) e, valV_neg e, ih]
theorem valV_snoc (k j : κ) (y : V) : ∀ kvs : List (κ × V), valV kvs k = none → valV (kvs ++ [(k, y)]) j = if j = k then some y else valV kvs j
  | [], _ => by
    by_cases e : k = j
    · rw [if_pos e.symm]; exact valV_pos (p := (k, y)) e
    · rw [if_neg (fun z => e z.symm)]; exact valV_neg (p := (k, y)) e
  | p :: r, hn => by
    rw [List.cons_append]
    have hk : ¬ p.1 = k := fun z => by rw [valV_pos z] at hn; cases hn
    rw [valV_neg hk] at hn
    have ih := valV_snoc k j y r hn
    by_cases e : p.1 = j
    · rw [valV_pos e, valV_pos e, if_neg (fun z => hk (e.trans z))]
    · rw [valV_neg e, valV_neg e, ih]
theorem valV_put (kvs : List (κ × V)) (k j : κ) (y : V) : valV (putK kvs k y) j = if j = k then some y else valV kvs j := by
  unfold putK
  by_cases a : (kvs.any fun kv => decide (kv.1 = k)) = true
  · rw [if_pos a, valV_map]
    rw [valV_any] at a
    by_cases e : j = k
    · obtain ⟨x, hx⟩ := Option.isSome_iff_exists.mp a
      rw [if_pos e, e, hx, Option.map_some, if_pos rfl]
    · rw [if_neg e]
      cases valV kvs j with
      | none => rfl
      | some x => rw [Option.map_some, if_neg e]
  · rw [if_neg a]
    refine valV_snoc k j y kvs ?_
    rw [valV_any] at a
    cases q : valV kvs k with
    | none => rfl
    | some x => rw [q] at a; exact (a rfl).elim
theorem length_putK (kvs : List (κ × V)) (k : κ) (v : V) : (putK kvs k v).length ≤ kvs.length + 1 := by
  unfold putK
  split
  · rw [List.length_map]; omega
  · rw [List.length_append, List.length_cons, List.length_nil]; omega
theorem putK_new {kvs : List (κ × V)} {k : κ} (v : V) (h : valV kvs k = none) : putK kvs k v = kvs ++ [(k, v)] := by
  unfold putK
  rw [valV_any, h]
  exact if_neg (by decide)

theorem RelO.isSome_eq {o : Option V} {u : Option Value} (r : RelO o u) : o.isSome = u.isSome := by
  cases o with
  | none => cases u with
    | none => rfl
    | some _ => exact (show False from r).elim
  | some _ => cases u with
    | none => exact (show False from r).elim
    | some _ => rfl
theorem RelO.getD {o : Option V} {u : Option Value} {d : V} {d' : Value} (r : RelO o u) (rd : RelV d d') : RelV (o.getD d) (u.getD d') := by
  cases o with
  | none => cases u with
    | none => exact rd
    | some _ => exact (show False from r).elim
  | some _ => cases u with
    | none => exact (show False from r).elim
    | some _ => exact r

theorem KV.val {kvs : List (κ × V)} {vs : List (κ × Value)} (r : KV kvs vs) (k : κ) : RelO (valV kvs k) (valueAt vs k) := by
  unfold KV at r
  induction r with
  | nil => exact True.intro
  | @cons p q ps qs h t ih =>
    obtain ⟨h1, h2⟩ := h
    by_cases e : p.1 = k
    · have e' : q.1 = k := h1.symm.trans e
      have b : valueAt (q :: qs) k = some q.2 := by simp [valueAt, List.find?_cons, e']
      rw [valV_pos e, b]; exact h2
    · have e' : ¬ q.1 = k := fun z => e (h1.trans z)
      have b : valueAt (q :: qs) k = valueAt qs k := by simp [valueAt, List.find?_cons, e']
      rw [valV_neg e, b]; exact ih
theorem KV.any {kvs : List (κ × V)} {vs : List (κ × Value)} (r : KV kvs vs) (k : κ) : (kvs.any fun kv => decide (kv.1 = k)) = vs.any fun kv => decide (kv.1 = k) := by
  unfold KV at r
  induction r with
  | nil => rfl
  | cons h t ih => rw [List.any_cons, List.any_cons, ih, h.1]
theorem KV.repl {kvs : List (κ × V)} {vs : List (κ × Value)} (r : KV kvs vs) (k : κ) {y : V} {u : Value} (ry : RelV y u) :
    KV (kvs.map fun kv => if kv.1 = k then (kv.1, y) else kv) (vs.map fun kv => if kv.1 = k then (kv.1, u) else kv) := by
  unfold KV at r ⊢
  induction r with
  | nil => exact .nil
  | @cons p q ps qs h t ih =>
    rw [List.map_cons, List.map_cons]
    refine .cons ?_ ih
    obtain ⟨h1, h2⟩ := h
    by_cases e : p.1 = k
    · rw [if_pos e, if_pos (h1.symm.trans e)]; exact ⟨h1, ry⟩
    · rw [if_neg e, if_neg (fun z => e (h1.trans z))]; exact ⟨h1, h2⟩
theorem KV.put {kvs : List (κ × V)} {vs : List (κ × Value)} (r : KV kvs vs) (k : κ) {y : V} {u : Value} (ry : RelV y u) : KV (putK kvs k y) (stored vs k u) := by
  unfold putK stored
  rw [r.any k]
  by_cases e : (vs.any fun kv => decide (kv.1 = k)) = true
  · rw [if_pos e, if_pos e]; exact r.repl k ry
  · rw [if_neg e, if_neg e]; exact Paired.snoc r ⟨rfl, ry⟩
theorem KV.length {kvs : List (κ × V)} {vs : List (κ × Value)} (r : KV kvs vs) : kvs.length = vs.length := Paired.length r
end


/-! ### a tracked dict, its keys ints and texts or tuples of these -/
theorem kV_is {P : Program} {w : World} {k : Key} {u : Value} (r : RelV (kV k) u) : (mixKind P w).is k u = true := by
  cases k with
  | inl i => obtain ⟨t, e⟩ := (show ∃ t, u = Value.int i t from r); subst e; exact mixKind_int P w i t
  | inr x => obtain ⟨t, e⟩ := (show ∃ t, u = Value.str x t from r); subst e; exact mixKind_str P w x t
theorem items_are {P : Program} {w : World} : ∀ {ks : List Key} {us : List Value}, Vals (ks.map kV) us → ItemsAre (mixKind P w) ks us
  | [], _, r => by rw [List.map_nil] at r; cases r; exact .nil
  | k :: ks, _, r => by
    rw [List.map_cons] at r
    cases r with
    | cons h t => exact .cons (kV_is h) (items_are t)

noncomputable abbrev KT (H : Hp) : List (List Key × V) → List (List Key × Addr × Value) → Prop := Paired fun p q => p.1 = q.1 ∧ H q.2.1 = some (.tup (p.1.map kV)) ∧ RelV p.2 q.2.2
theorem KT.val {H : Hp} {kvs : List (List Key × V)} {xs : List (List Key × Addr × Value)} (r : KT H kvs xs) (k : List Key) : RelO (valV kvs k) ((atKey xs k).map (·.2)) := by
  induction r with
  | nil => exact True.intro
  | @cons p q ps qs h t ih =>
    obtain ⟨h1, _, h2⟩ := h
    by_cases e : p.1 = k
    · have e' : q.1 = k := h1.symm.trans e
      have b : atKey (q :: qs) k = some q.2 := by simp [atKey, List.find?_cons, e']
      rw [valV_pos e, b]; exact h2
    · have e' : ¬ q.1 = k := fun z => e (h1.trans z)
      have b : atKey (q :: qs) k = atKey qs k := by simp [atKey, List.find?_cons, e']
      rw [valV_neg e, b]; exact ih
theorem KT.repl {H : Hp} {kvs : List (List Key × V)} {xs : List (List Key × Addr × Value)} (r : KT H kvs xs) (k : List Key) {y : V} {u : Value} (ry : RelV y u) :
    KT H (kvs.map fun kv => if kv.1 = k then (kv.1, y) else kv) (xs.map (putAt k u)) := by
  induction r with
  | nil => exact .nil
  | @cons p q ps qs h t ih =>
    rw [List.map_cons, List.map_cons]
    refine .cons ?_ ih
    obtain ⟨h1, h2, h3⟩ := h
    unfold putAt
    by_cases e : p.1 = k
    · rw [if_pos e, if_pos (h1.symm.trans e)]; exact ⟨h1, h2, ry⟩
    · rw [if_neg e, if_neg (fun z => e (h1.trans z))]; exact ⟨h1, h2, h3⟩
theorem KT.put {H : Hp} {kvs : List (List Key × V)} {xs : List (List Key × Addr × Value)} (r : KT H kvs xs) (k : List Key) {b : Addr} {y : V} {u : Value} (hb : H b = some (.tup (k.map kV))) (ry : RelV y u) :
    KT H (putK kvs k y) (storedH xs k b u) := by
  have e : (kvs.any fun kv => decide (kv.1 = k)) = (atKey xs k).isSome := by
    rw [valV_any, (r.val k).isSome_eq, Option.isSome_map]
  unfold putK storedH
  rw [e]
  by_cases q : (atKey xs k).isSome = true
  · rw [if_pos q, if_pos q]; exact r.repl k ry
  · rw [if_neg q, if_neg q]; exact Paired.snoc r ⟨rfl, hb, ry⟩
theorem KT.keeps {H H' : Hp} {kvs : List (List Key × V)} {xs : List (List Key × Addr × Value)} (r : KT H kvs xs) (ht : ∀ b ys, H b = some (.tup ys) → H' b = some (.tup ys)) : KT H' kvs xs :=
  Paired.mapP r fun _ _ z => ⟨z.1, ht _ _ z.2.1, z.2.2⟩

section
variable {P : Program} {w : World} {H : Hp} {h : Heap} {a : Addr}
theorem rd_of {u : HO} (ok : HOk P w H h) (e : Rd H a u) : ObjOk P w H h a u := e.ok ok
theorem dk_rd {kvs : List (Key × V)} (ok : HOk P w H h) (e : Rd H a (.dK kvs)) : kvs.length ≤ sizeLine ∧ (a == sysModules) = false ∧ ∃ vs, KV kvs vs ∧ h.DictOf (mixKind P w) a vs :=
  show ObjOk P w H h a (.dK kvs) from rd_of ok e
theorem dk_of {kvs : List (Key × V)} (ok : HOk P w H h) (e : H a = some (.dK kvs)) : kvs.length ≤ sizeLine ∧ (a == sysModules) = false ∧ ∃ vs, KV kvs vs ∧ h.DictOf (mixKind P w) a vs := dk_rd ok (.inl e)
theorem key_of {ks : List Key} (ok : HOk P w H h) (e : H a = some (.tup (ks.map kV))) : (tupleKind (mixKind P w)).is h ks a := by
  obtain ⟨_, its, r, o, h1, h2, n, h3⟩ := (show ObjOk P w H h a (.tup (ks.map kV)) from ok a _ e)
  exact ⟨o, its.toArray, n, h1, h2, h3, by simpa using items_are r⟩
theorem dt_rd {kvs : List (List Key × V)} (ok : HOk P w H h) (e : Rd H a (.dT kvs)) : kvs.length ≤ sizeLine ∧ (a == sysModules) = false ∧
    ∃ xs, KT H kvs xs ∧ h.DictOfH (tupleKind (mixKind P w)) a xs := by
  obtain ⟨z, y, xs, r, o, es, ep, h1, h2, h3, h4, h5⟩ := (show ObjOk P w H h a (.dT kvs) from rd_of ok e)
  refine ⟨z, y, xs, r, o, es, ep, h1, h2, h3, h4, fun x hx => ?_, h5⟩
  have all : ∀ {l : List (List Key × V)} {m : List (List Key × Addr × Value)}, KT H l m → ∀ x ∈ m, (tupleKind (mixKind P w)).is h x.1 x.2.1 := by
    intro l m q
    induction q with
    | nil => intro x hx; exact nomatch hx
    | @cons p q ps qs hq t ih =>
      intro x hx
      rcases List.mem_cons.mp hx with e | hx
      · subst e
        exact key_of ok (by rw [← hq.1]; exact hq.2.1)
      · exact ih x hx
  exact all r x hx
theorem dt_of {kvs : List (List Key × V)} (ok : HOk P w H h) (e : H a = some (.dT kvs)) : kvs.length ≤ sizeLine ∧ (a == sysModules) = false ∧
    ∃ xs, KT H kvs xs ∧ h.DictOfH (tupleKind (mixKind P w)) a xs := dt_rd ok (.inl e)
end

noncomputable def DGet (H : Hp) (a : Addr) (y : V) (r : Option V) : Prop :=
  (∃ kvs k, Rd H a (.dK kvs) ∧ y = kV k ∧ r = valV kvs k) ∨ ∃ kvs k b, Rd H a (.dT kvs) ∧ y = .ref b ∧ H b = some (.tup (k.map kV)) ∧ r = valV kvs k
noncomputable def DPut (H : Hp) (a : Addr) (y v : V) (H' : Hp) : Prop :=
  (∃ kvs k, H a = some (.dK kvs) ∧ y = kV k ∧ kvs.length < sizeLine ∧ H' = upd H a (.dK (putK kvs k v))) ∨
  ∃ kvs k b, H a = some (.dT kvs) ∧ y = .ref b ∧ H b = some (.tup (k.map kV)) ∧ kvs.length < sizeLine ∧ H' = upd H a (.dT (putK kvs k v))
theorem DGet.k {H : Hp} {a : Addr} {kvs : List (Key × V)} {k : Key} (e : H a = some (.dK kvs)) : DGet H a (kV k) (valV kvs k) := .inl ⟨kvs, k, .inl e, rfl, rfl⟩
theorem DPut.k {H : Hp} {a : Addr} {kvs : List (Key × V)} {k : Key} {v : V} (e : H a = some (.dK kvs)) (hl : kvs.length < sizeLine) : DPut H a (kV k) v (upd H a (.dK (putK kvs k v))) := .inl ⟨kvs, k, e, rfl, hl, rfl⟩


section
variable {X : Cx} {pins : List (Addr × Obj)} {σ : St} {H : Hp} {s : Shared} {a : Addr} {y v : V} {u r : Value} {o : Option V} {A : Around} {E : Value → Shared → Prop}

theorem Inv.big (I : Inv X pins σ H s) : sysModules < s.heap.objs.size := by
  have h : mainGlobals < s.heap.objs.size := (I.mod.glob.keeps I.bk).lt
  exact Nat.lt_trans (by decide) h

theorem d_getItem {Q : Value → Shared → Prop} (hu : A.units + 1 < cLine) (I : Inv X pins σ H s) (g : DGet H a y (some v)) (ry : RelV y u) (h : ∀ w' s', Inv X pins σ H s' → RelV v w' → Q w' s') :
    wpAny (model X.prog X.w) A (getItem (.ref a) u) Q E s := by
  rcases g with ⟨kvs, k, e, ey, l⟩ | ⟨kvs, k, b, e, ey, eb, l⟩
  · subst ey
    obtain ⟨z, hd, vs, rel, dd⟩ := dk_rd I.hok e
    obtain ⟨w', hw, rw'⟩ := RelO.some_of (v := v) (o := valueAt vs k) (by rw [l]; exact rel.val k)
    exact wpAny_getItem_of (kV_is ry) dd.mapOf hw (h w' _ (I.tok _) rw')
  · subst ey
    cases (show u = Value.ref b from ry)
    obtain ⟨z, hd, xs, rel, dd⟩ := dt_rd I.hok e
    obtain ⟨w', hw, rw'⟩ := RelO.some_of (v := v) (o := (atKey xs k).map (·.2)) (by rw [l]; exact rel.val k)
    obtain ⟨p, hp, hp2⟩ := Option.map_eq_some_iff.mp hw
    refine wpAny_getItem_heap (tupleKind_room_in1 hu) (key_of I.hok eb) dd hp ?_
    rw [hp2]
    exact h w' _ (I.tok _) rw'
theorem d_notIn {Q : Value → Shared → Prop} (hu : A.units + 1 < cLine) (I : Inv X pins σ H s) (g : DGet H a y o) (ry : RelV y u) (h : ∀ s', Inv X pins σ H s' → Q (.bool (!o.isSome)) s') :
    wpAny (model X.prog X.w) A (compareOp .NotIn u (.ref a)) Q E s := by
  rcases g with ⟨kvs, k, e, ey, l⟩ | ⟨kvs, k, b, e, ey, eb, l⟩
  · subst ey
    obtain ⟨z, hd, vs, rel, dd⟩ := dk_rd I.hok e
    refine wpAny_notIn_of (kV_is ry) hd dd.mapOf ?_
    rw [← (rel.val k).isSome_eq, ← l]
    exact h _ (I.tok _)
  · subst ey
    cases (show u = Value.ref b from ry)
    obtain ⟨z, hd, xs, rel, dd⟩ := dt_rd I.hok e
    refine wpAny_notIn_heap (tupleKind_room_in1 hu) (key_of I.hok eb) hd dd ?_
    have q := (rel.val k).isSome_eq
    rw [Option.isSome_map] at q
    rw [← q, ← l]
    exact h _ (I.tok _)
theorem d_write {h' : Heap} {t' : Nat} {ob : HO} (I : Inv X pins σ H s) (mu : Mut (H a)) (hs : Heap.SameBut a s.heap h') (he : ∃ q, h'.get? a = some q) (new : ObjOk X.prog X.w (upd H a ob) h' a ob) :
    Inv X pins σ (upd H a ob) { s with heap := h', toks := t' } :=
  I.write (x := a) (e := a) mu (.inl rfl) (fun b q hb z => (hs.2 b hb).trans z) he new
theorem dk_new {P : Program} {w : World} {H' : Hp} {h' : Heap} {kvs : List (Key × V)} {vs : List (Key × Value)} (z : kvs.length ≤ sizeLine) (hd : (a == sysModules) = false) (rel : KV kvs vs) (dd : h'.DictOf (mixKind P w) a vs) :
    ObjOk P w H' h' a (.dK kvs) := ⟨z, hd, vs, rel, dd⟩
theorem d_setItem {H' : Hp} {Q : Unit → Shared → Prop} (hu : A.units + 1 < cLine) (I : Inv X pins σ H s) (g : DPut H a y v H') (ry : RelV y u) (rv : RelV v r) (h : ∀ s', Inv X pins σ H' s' → Q () s') :
    wpAny (model X.prog X.w) A (setItem (.ref a) u r) Q E s := by
  rcases g with ⟨kvs, k, e, ey, l, eH⟩ | ⟨kvs, k, b, e, ey, eb, l, eH⟩
  · subst ey eH
    obtain ⟨z, hd, vs, rel, dd⟩ := dk_of I.hok e
    have hz : vs.length ≤ sizeLine := by rw [← rel.length]; exact z
    have hl : (putK kvs k v).length ≤ sizeLine := by have := length_putK kvs k v; omega
    refine wpAny_setItem_pairs (hsz := hz) (kV_is ry) dd fun h' dd' hs => h _ ?_
    have he : ∃ q, h'.get? a = some q := let ⟨q, _, _, hq, _⟩ := dd'; ⟨q, hq⟩
    exact d_write I (by rw [e]; exact True.intro) hs he (dk_new hl hd (rel.put k rv) dd')
  · subst ey eH
    cases (show u = Value.ref b from ry)
    obtain ⟨z, hd, xs, rel, dd⟩ := dt_of I.hok e
    have hz : xs.length ≤ sizeLine := by rw [← Paired.length rel]; exact z
    have hl : (putK kvs k v).length ≤ sizeLine := by have := length_putK kvs k v; omega
    refine wpAny_setItem_heap (hsz := hz) (tupleKind_room_in1 hu) (key_of I.hok eb) dd fun h' dd' hs => h _ ?_
    obtain ⟨q, es, ep, hq, h2, h3, h4, _, h5⟩ := dd'
    refine d_write I (by rw [e]; exact True.intro) hs ⟨q, hq⟩ ⟨hl, hd, _, (rel.put k eb rv).keeps fun c ys ec => ?_, q, es, ep, hq, h2, h3, h4, h5⟩
    rw [upd_ne (ne_of ec e (fun z => nomatch z))]
    exact ec
end

section
variable {X : Cx} {pins : List (Addr × Obj)} {σ : St} {H : Hp} {s : Shared} {a : Addr} {kvs : List (Key × V)} {k : Key} {u : Value} {A : Around} {E : Value → Shared → Prop}
theorem d_clear {Q : Value → Shared → Prop} (I : Inv X pins σ H s) (e : H a = some (.dK kvs)) (h : ∀ s', Inv X pins σ (upd H a (.dK [])) s' → Q .none s') : wpAny (model X.prog X.w) A (call (.builtin "dict.clear") [.ref a]) Q E s := by
  obtain ⟨z, hd, vs, rel, dd⟩ := dk_of I.hok e
  refine call_meetsIn PySem.F.slot_dict_clear dd.typeIs PySem.F.entry_dict_clear (PySem.F.args_dict_clear_1 _) (meets_dict_clear (mixKind X.prog X.w) a) ⟨vs, dd, by rw [← rel.length]; exact z, fun h' dd' hs => h _ ?_⟩
  have he : ∃ q, h'.get? a = some q := let ⟨q, _, _, hq, _⟩ := dd'; ⟨q, hq⟩
  exact d_write (t' := s.toks) I (by rw [e]; exact True.intro) hs he (dk_new (Nat.zero_le _) hd .nil dd')
theorem d_len {Q : Value → Shared → Prop} (I : Inv X pins σ H s) (e : Rd H a (.dK kvs)) (h : ∀ t s', Inv X pins σ H s' → Q (.int kvs.length t) s') : wpAny (model X.prog X.w) A (call (.builtin "len") [.ref a]) Q E s := by
  obtain ⟨z, hd, vs, rel, dd⟩ := dk_rd I.hok e
  refine call_len_dict hd dd (by rw [← rel.length]; rw [sizeLine_eq] at z; omega) ?_
  rw [← rel.length]
  exact h _ _ (I.tok _)
end


/-! ### readings and rules -/
noncomputable def NoSl (i : Expr) : Prop := ∀ ov iv, subscripted i false ov iv = operate [ov, iv] (getItem ov iv)
theorem subD_of {prog : Program} {w : World} {A : Around} {E : Value → Shared → Prop} {s : Shared} {env : Env} {value slice : Expr} {pos : Pos} {T id : String} {Q : Value → Shared → Prop}
    (hl : typeLookup (.type T) "__getitem__" = pure (some (.builtin id))) (hs : NoSl slice)
    (h : wpAny (model prog w) A (eval value env) (fun o s₁ => wpAny (model prog w) A (eval slice env) (fun i s₂ => s₂.TypeIs o T ∧ wpAny (model prog w) A (getItem o i) Q E s₂) E s₁) E s) :
    wpAny (model prog w) A (eval (.Subscript value slice pos) env) Q E s := by
  refine Subscript_ (wpAny_mono h (fun o s₁ h₁ => wpAny_mono h₁ (fun i s₂ h₂ => ?_) fun _ _ x => x) fun _ _ x => x)
  obtain ⟨hT, h₂⟩ := h₂
  unfold subscriptTail
  refine wpAny_bind ?_
  rw [getitemInPython_of_ne hT.not_modules]
  refine wpAny_bind (wpAny_specialOf hT hl ?_)
  have fin : wpAny (model prog w) A (subscripted slice false o i) (fun r s₃ => wpAny (model prog w) A (letTemporaryGo value o r >>= fun _ => pure r) Q E s₃) E s₂ := by
    rw [hs o i]
    exact wpAny_operating (wpAny_mono h₂ (fun r s₃ h₃ => wpAny_bind (wpAny_letTemporaryGo (wpAny_pure h₃))) fun _ _ x => x)
  first
    | exact wpAny_pure (wpAny_bind fin)
    | exact wpAny_bind (wpAny_pure (wpAny_bind fin))
    | exact wpAny_bind fin

theorem dict_typeIs {X : Cx} {pins : List (Addr × Obj)} {σ : St} {H : Hp} {s : Shared} {a : Addr} {y : V} {o : Option V} (I : Inv X pins σ H s) (g : DGet H a y o) : s.TypeIs (.ref a) "dict" := by
  rcases g with ⟨kvs, k, e, _, _⟩ | ⟨kvs, k, b, e, _, _, _⟩
  · obtain ⟨_, _, vs, _, dd⟩ := dk_rd I.hok e
    exact dd.typeIs
  · obtain ⟨_, _, xs, _, dd⟩ := dt_rd I.hok e
    exact dd.typeIs

noncomputable def tDGet (td ty : TE) : TE := fun σ H Q => td σ H fun x H1 => ty σ H1 fun y H2 => ∃ a v, x = .ref a ∧ DGet H2 a y (some v) ∧ Q v H2
noncomputable def tDIn (ty td : TE) : TE := fun σ H Q => ty σ H fun y H1 => td σ H1 fun x H2 => ∃ a o, x = .ref a ∧ DGet H2 a y o ∧ Q (.bl o.isSome) H2
noncomputable def tDNotIn (ty td : TE) : TE := fun σ H Q => ty σ H fun y H1 => td σ H1 fun x H2 => ∃ a o, x = .ref a ∧ DGet H2 a y o ∧ Q (.bl (!o.isSome)) H2
noncomputable def sDPut (td ty tv : TE) : TS := fun D σ H => tv σ H fun v H1 => td σ H1 fun x H2 => ty σ H2 fun y H3 => ∃ a H4, x = .ref a ∧ DPut H3 a y v H4 ∧ D.nx σ H4

section
variable {X : Cx} {o i e value : Expr} {pos pos' tpos : Pos} {td ty tv : TE}
theorem pe_dget (hu : X.A.units + 1 < cLine) (ho : PE X o td) (hi : PE X i ty) (hs : NoSl i) : PE X (.Subscript o i pos) (tDGet td ty) := by
  intro pins s σ H Q I h
  refine subD_of PySem.F.slot_dict_getitem.lookup hs (thn (ho pins s σ H _ I h) fun u s1 ⟨x, H1, I1, rx, q1⟩ => thn (hi pins s1 σ H1 _ I1 q1) fun iv s2 ⟨y, H2, I2, ry, a, v, ex, g, q2⟩ => ?_)
  subst ex
  obtain rfl : u = Value.ref a := rx
  exact ⟨dict_typeIs I2 g, d_getItem hu I2 g ry fun w' s3 I3 rw' => ⟨v, H2, I3, rw', q2⟩⟩
theorem pc_dnotin (hu : X.A.units + 1 < cLine) (hi : PE X i ty) (ho : PE X o td) : PC X .NotIn i o (tDNotIn ty td) := by
  intro pins s σ H Q I h
  refine thn (hi pins s σ H _ I h) fun iv s1 ⟨y, H1, I1, ry, q1⟩ => thn (ho pins s1 σ H1 _ I1 q1) fun u s2 ⟨x, H2, I2, rx, a, ov, ex, g, q2⟩ => ?_
  subst ex
  obtain rfl : u = Value.ref a := rx
  exact d_notIn hu I2 g ry fun s3 I3 => ⟨.bl (!ov.isSome), H2, I3, rfl, q2⟩
theorem ps_dput (hu : X.A.units + 1 < cLine) (ho : PE X o td) (hi : PE X i ty) (hv : PE X value tv) (hs : swapsWith value (some (.Subscript o i pos')) pos.line X.env = pure false) :
    PS X (.Assign [.Subscript o i pos'] value pos) (sDPut td ty tv) := by
  intro pins s σ H D I h
  refine wpAny_Assign_Subscript (thn (hv pins s σ H _ I h) fun r s1 ⟨v, H1, I1, rv, q1⟩ => thn (ho pins s1 σ H1 _ I1 q1) fun u s2 ⟨x, H2, I2, rx, q2⟩ => thn (hi pins s2 σ H2 _ I2 q2) fun iv s3 ⟨y, H3, I3, ry, a, H4, ex, g, q3⟩ => ?_) hs
  subst ex
  obtain rfl : u = Value.ref a := rx
  exact d_setItem hu I3 g ry rv fun s4 I4 => ⟨σ, H4, I4, q3⟩
end


/-! ### displays -/
theorem dk_empty {P : Program} {w : World} {H : Hp} (h : Heap) (hb : sysModules < h.objs.size) : ObjOk P w H (h.push { cls := .type "dict", data := .dict #[] }) h.objs.size (.dK []) :=
  ⟨Nat.zero_le _, beq_eq_false_iff_ne.mpr (Ne.symm (Nat.ne_of_lt hb)), [], .nil, Heap.DictOf.new h⟩
noncomputable def tDNewK : TE := fun _ H Q => ∀ p, H p = none → Q (.ref p) (upd H p (.dK []))
section
variable {X : Cx} {pos : Pos}
theorem pe_dnewK : PE X (.Dict [] [] pos) tDNewK := fun pins s σ H Q I h =>
  wpAny_Dict_empty ⟨.ref s.heap.objs.size, _, I.laid (a := s.heap.objs.size) (o := .dK []) (t' := s.toks) (fun _ _ q => Heap.get?_push_of_some _ q) (Nat.le_refl _) (dk_empty s.heap I.big), rfl, h _ (I.hok.fresh (Nat.le_refl _))⟩
end




/-! ### methods -/
set_option genInjectivity false in
structure M1 (X : Cx) (o : Expr) (m : Str) (apos : Pos) (e : Expr) (cpos : Pos) : Prop where
  base : attributeBase o m X.env (eval o X.env) = eval o X.env
  few : ((backTo cpos (starEach [e] X.env)).all (fun x => !x.1) && (backToKw cpos (keywordEach [] X.env)).all (fun x => x.1.isSome)
    && decide (([e] : List Expr).length + ([] : List Keyword).length + (if ([] : List Keyword).isEmpty then 0 else 1) < 30)) = true
  line : (apos.endLine == cpos.line) = true
  trees : backTo cpos (starEach [e] X.env) = [(false, eval e X.env)]

noncomputable def IsD (H : Hp) (a : Addr) : Prop := (∃ kvs, Rd H a (.dK kvs)) ∨ ∃ kvs, Rd H a (.dT kvs)
theorem isD_at {X : Cx} {pins : List (Addr × Obj)} {σ : St} {H : Hp} {s : Shared} {a : Addr} (I : Inv X pins σ H s) (d : IsD H a) :
    s.TypeIs (.ref a) "dict" ∧ (∀ b, Value.ref a = .ref b → ∃ ob, s.heap.get? b = some ob ∧ ob.dict = none) ∧ (a == sysModules) = false := by
  rcases d with ⟨kvs, e⟩ | ⟨kvs, e⟩
  · obtain ⟨_, hd, vs, _, dd⟩ := dk_rd I.hok e
    refine ⟨dd.typeIs, fun b q => ?_, hd⟩
    cases q
    obtain ⟨ob, _, _, h1, h2, _⟩ := dd
    exact ⟨ob, h1, h2.2.1⟩
  · obtain ⟨_, hd, xs, _, dd⟩ := dt_rd I.hok e
    refine ⟨dd.typeIs, fun b q => ?_, hd⟩
    cases q
    obtain ⟨ob, _, _, h1, h2, _⟩ := dd
    exact ⟨ob, h1, h2.2.1⟩

section
variable {X : Cx} {pins : List (Addr × Obj)} {σ : St} {H : Hp} {s : Shared} {a : Addr} {y d : V} {u r : Value} {o : Option V} {A : Around} {E : Value → Shared → Prop}
theorem d_get1 {Q : Value → Shared → Prop} (hu : A.units + 1 < cLine) (I : Inv X pins σ H s) (g : DGet H a y o) (ry : RelV y u) (h : ∀ w' s', Inv X pins σ H s' → RelV (o.getD .non) w' → Q w' s') :
    wpAny (model X.prog X.w) A (call (.builtin "dict.get") [.ref a, u]) Q E s := by
  rcases g with ⟨kvs, k, e, ey, l⟩ | ⟨kvs, k, b, e, ey, eb, l⟩
  · subst ey
    obtain ⟨z, hd, vs, rel, dd⟩ := dk_rd I.hok e
    refine call_meetsIn PySem.F.slot_dict_get dd.typeIs PySem.F.entry_dict_get (PySem.F.args_dict_get_2 _ _) (meets_dict_get (mixKind X.prog X.w) a (kV_is ry) hd) ⟨_, dd.mapOf, h _ _ (I.tok _) ?_⟩
    rw [l]
    exact (rel.val k).getD rfl
  · subst ey
    cases (show u = Value.ref b from ry)
    obtain ⟨z, hd, xs, rel, dd⟩ := dt_rd I.hok e
    refine call_meetsIn PySem.F.slot_dict_get dd.typeIs PySem.F.entry_dict_get (PySem.F.args_dict_get_2 _ _) (meetsH_dict_get (tupleKind (mixKind X.prog X.w)) a b hd) ⟨tupleKind_room_in1 hu, k, xs, key_of I.hok eb, dd, h _ _ (I.tok _) ?_⟩
    rw [l]
    exact (rel.val k).getD rfl
end

noncomputable def tDGet1 (td ty : TE) : TE := fun σ H Q => td σ H fun x H1 => ∃ a, x = .ref a ∧ IsD H1 a ∧ ty σ H1 fun y H2 => ∃ o, DGet H2 a y o ∧ Q (o.getD .non) H2
noncomputable def tDGet2 (td ty tx : TE) : TE := fun σ H Q => td σ H fun x H1 => ∃ a, x = .ref a ∧ IsD H1 a ∧ ty σ H1 fun y H2 => tx σ H2 fun z H3 => ∃ o, DGet H3 a y o ∧ Q (o.getD z) H3
section
variable {X : Cx} {o e f : Expr} {apos cpos : Pos} {td ty tx : TE}
theorem pe_dget1 (hu : X.A.units + 1 < cLine) (ho : PE X o td) (he : PE X e ty) (m : M1 X o "get" apos e cpos) : PE X (.Call (.Attribute o "get" apos) [e] [] cpos) (tDGet1 td ty) := by
  intro pins s σ H Q I h
  refine wpAny_Call_method m.base m.few m.line PySem.F.plainAttrs_dict PySem.F.slot_dict_get PySem.F.type_dict_get (thn (ho pins s σ H _ I h) fun u s1 ⟨x, H1, I1, rx, a, ex, d, q1⟩ => ?_)
  subst ex
  obtain rfl : u = Value.ref a := rx
  obtain ⟨t1, t2, _⟩ := isD_at I1 d
  refine ⟨t1, t2, ?_⟩
  rw [m.trees]
  refine Calls.callWith_builtin rfl (Calls.evalArgs_plain (Calls.spliced_cons (thn (he pins s1 σ H1 _ I1 q1) fun iv s2 ⟨y, H2, I2, ry, ov, g, q2⟩ => Calls.spliced_nil ?_)))
  exact d_get1 hu I2 g ry fun w' s3 I3 rw' => ⟨_, H2, I3, rw', q2⟩
end

/-! ### dict(d): a copy -/
section
variable {X : Cx} {pins : List (Addr × Obj)} {σ : St} {H : Hp} {s : Shared} {a : Addr} {kvs : List (Key × V)} {A : Around} {E : Value → Shared → Prop}
end


section
variable {X : Cx} {pins : List (Addr × Obj)} {σ : St} {H : Hp} {s : Shared} {a : Addr} {y : V} {u : Value} {A : Around} {E : Value → Shared → Prop}
end
end L2

namespace Att
open PySem PySem.W PySem.Calls PyProof.Rows

/-! ### the script -/
theorem ints_of_wellAll {P : Params} {h : Heap} : ∀ (ns : List Int) (vs : List Value), WellAll P h vs (ns.map WData.int) → IntsAre vs ns := by
  intro ns
  induction ns with
  | nil =>
    intro vs w
    rw [List.map_nil] at w
    cases w
    exact .nil
  | cons n ns ih =>
    intro vs w
    rw [List.map_cons] at w
    cases w with
    | cons a b =>
      cases a
      exact .cons _ _ (ih _ b)

theorem script_of {l : OpenLaw} {n : Nat} (hn : l.most = some n) {P : Params} {h : Heap} {args : List WData} {vals : List Value}
    (hpre : l.row.toRowW.claim.pre args = true) (hwl : WellAll P h vals args) :
    ∃ a vs ns, vals = [Value.ref a] ∧ args = [WData.list (ns.map WData.int)] ∧ h.get? a = some { cls := .type "list", data := .seq vs.toArray } ∧ IntsAre vs ns ∧ ns.length ≤ n := by
  have hsh : WShape.hasAll [] args [.list .int] = true := (pre_splitW hpre).1
  have hc : l.pre.holds [] { args := args } = true := (pre_splitW hpre).2
  obtain ⟨d, r, rfl, h1, h2⟩ := hasAllW_cons hsh
  obtain rfl := hasAllW_nil h2
  obtain ⟨xs, rfl, h3⟩ := hasW_list h1
  obtain ⟨ns, rfl⟩ := items_int h3
  have hlen : ns.length ≤ n := by
    unfold OpenLaw.pre at hc
    have h4 : (WTm.not (.lt (.lit (.int (n : Int))) (.len (.arg 0)))).holds [] { args := [.list (ns.map .int)] } = true := by
      have h4 := (holds_andW hc).1
      rw [hn] at h4
      exact h4
    have h5 := condW_of h4 (w_not (w_lt w_lit (w_len_list (w_arg rfl))))
    rw [List.length_map] at h5
    refine Nat.le_of_not_lt fun q => ?_
    have q' : (n : Int) < ((ns.length : Nat) : Int) := by omega
    first
      | (rw [decide_eq_true q'] at h5; exact absurd h5 (by decide))
      | (simp at h5; omega)
  cases hwl with
  | cons w1 w2 =>
    cases w2
    cases w1 with
    | list ho hall => exact ⟨_, _, ns, rfl, rfl, ho, ints_of_wellAll ns _ hall, hlen⟩

theorem post_true (l : OpenLaw) (args : List WData) : l.row.toRowW.claim.post args (.bool true) args = true :=
  postW_of (r := l.row.toRowW) (X := (true == true))
    (show WShape.has [] (.bool true) .bool = true by first | rfl | decide | simp [WShape.has, WShape.arms, WShape.armsAll])
    (show (WTm.eq .res (.lit (.bool true))).value [] { args := args, res := some (.bool true), after := args } = some (.bool (true == true)) from w_eq_bool (w_res rfl) w_lit) rfl

/-! ### the attachment: holds_open's last premise (the goal 'hc' behind k_head) from a wpAny of the law's body -/

theorem attach_call {l : OpenLaw} {n : Nat} {q : Program} {loose : List Str} {XP : (Str → Option Value) → Heap → Prop} {YP : World → Heap → Prop} {d : DefRec}
    (hn : l.most = some n) (hdf : d.params.defaults = [])
    (call : ∀ (w : World) (s₀ s₁ : Shared) (mg mb : Str → Option Value) (fa : Addr) (o : Obj) (pm cd doc : Value) (a : Addr) (vs : List Value) (ns : List Int),
      Ground q loose [] XP w s₀ mg mb s₁.heap → YP w s₁.heap →
      s₁.heap.get? fa = some o → o.data = .func (docDef d.name d.params d.body d.scope pm cd doc) → s₁.heap.CodeRec cd d.name → mg d.name = some (.ref fa) →
      s₁.heap.get? a = some { cls := .type "list", data := .seq vs.toArray } → IntsAre vs ns → ns.length ≤ n → s₁.gens = #[] →
      codeAny (model l.prog w) callerA (.call (.ref fa) ⟨[.ref a], []⟩) (fun r s' => r = .ok (.ret (.bool true)) ∧ OldK s₁.heap s'.heap ∧ s'.os = s₁.os ∧ AllBare s'.gens) s₁) :
    WalkO q loose XP YP l.row.toRowW d [] (fun f vs => PySem.call f vs) := by
  intro w s₀ s₁ mg mb G Y fa o pm cd doc dV kV ho hd hcd hD hmg hg args vals as hpre hlay hrd hwl hlo
  obtain rfl : dV = .none := Dflts.none hD hdf
  obtain rfl : kV = .none := Dflts.noKw hD
  obtain ⟨a, vs, ns, rfl, rfl, hobj, hints, hlen⟩ := script_of hn hpre hwl
  refine enter_call (codeAny_mono (call w s₀ s₁ mg mb fa o pm cd doc a vs ns G Y ho (fd_plain hd) hcd hmg hobj hints hlen hg) fun r s' hq => ?_)
  obtain ⟨rfl, h2, h3, h4⟩ := hq
  exact ⟨.inl ⟨.bool true, .bool true, [], rfl, fun _ => rfl, .bool true, post_true l _, fun _ => ⟨List.Pairwise.nil, fun _ hm => (nomatch hm)⟩⟩, h2, h3, h4⟩


/-! ### rules over ANY heap (no ledger) from facts about the written part K: the library's own take a ledger (News) for what they write -/
section
variable {prog : Program} {w : World} {A : Around} {E : Value → Shared → Prop} {s : Shared} {K : Frag}





/-! the whole heap as the ledger: makes every rule that writes through a ledger a rule over any heap -/
noncomputable def ledger (h : Heap) (L d : Addr) : List (Addr × Obj) := (List.range h.objs.size).filterMap fun a => if a = L ∨ a = d then none else (h.get? a).map fun o => (a, o)

end
end Att

namespace L2
open PySem PySem.Spec PyProof.Rows

theorem vals_ints : ∀ {vs : List Value} {ns : List Int}, IntsAre vs ns → Vals (ns.map V.int) vs
  | _, _, .nil => .nil
  | _, _, .cons n t h => .cons ⟨t, rfl⟩ (vals_ints h)

noncomputable def Only (H : Hp) : Prop := ∀ b, H b = none ∨ ∃ o xs, H b = some (.frz o (.lst xs))

theorem law_call {P : Program} {w : World} {K : PySem.W.Frag} {mg mb : Str → Option Value} {CX : CXT} {k : Nat} {fa a : Addr} {fd : FuncData} {x : Str} {sp : Sp} {s₁ : Shared} {vs : List Value} {ns : List Int}
    (KX : K.In s₁.heap) (hns : s₁.heap.Ns mainGlobals mg) (hb : s₁.heap.Ns builtinsNs mb) (hbb : ∀ x : Str, x ≠ "__name__" → mb x = bootBuiltins x) (hlim : s₁.heap.NoLimit) (hg : s₁.gens = #[])
    (ha : s₁.heap.get? a = some { cls := .type "list", data := .seq vs.toArray }) (hi : IntsAre vs ns) (hl : ns.length ≤ sizeLine) (hr : Room k callerA)
    (F : ∀ base : Heap, K.In base → base.Ns mainGlobals mg → FnOk P w K mg base CX k fa fd [x] sp) (hbind : ∀ (s : Shared) (u : Value), BindsTo s fd ⟨[u], []⟩ [(x, u)])
    (hsp : ∀ H : Hp, Only H → SqL K H a (ns.map V.int) → sp [.ref a] H (fun v _ => v = .bl true) fun _ _ _ => False)
    (hCX : ∀ H e s', CX [] H s₁ (fun _ _ _ => False) e s' → False) :
    codeAny (model P w) callerA (.call (.ref fa) ⟨[.ref a], []⟩) (fun r s' => r = .ok (.ret (.bool true)) ∧ OldK s₁.heap s'.heap ∧ s'.os = s₁.os ∧ AllBare s'.gens) s₁ := by
  have rv := vals_ints hi
  have lenV := hi.length
  -- from an abstract heap in which nothing but the script may be tracked
  have core : ∀ H : Hp, Only H → SqL K H a (ns.map V.int) → HOk P w H s₁.heap → (∀ b, H b ≠ none → b = a) → (H a ≠ none → K.lookup a = none) →
      codeAny (model P w) callerA (.call (.ref fa) ⟨[.ref a], []⟩) (fun r s' => r = .ok (.ret (.bool true)) ∧ OldK s₁.heap s'.heap ∧ s'.os = s₁.os ∧ AllBare s'.gens) s₁ := by
    intro H hO hS hok hA hK
    have base_of : ∀ {b : Addr} {o : Obj}, s₁.heap.get? b = some o → H b = none → (hidT s₁.heap H).get? b = some o := fun e n => hidT_get e n
    have noA : ∀ {b : Addr} {o : Obj} {es : Array DictEntry} {ep : Nat}, s₁.heap.get? b = some o → o.data = .dict es ep → H b = none := fun {b o es ep} e d => by
      cases q : H b with
      | none => rfl
      | some u =>
        have e' : b = a := hA b (by rw [q]; simp)
        subst e'
        rw [ha] at e; cases e
        have d' : Data.seq vs.toArray _ = Data.dict es ep := d
        cases d'
    have nsK : ∀ {b : Addr} {m : Str → Option Value}, s₁.heap.Ns b m → (hidT s₁.heap H).Ns b m := fun {b m} ⟨o, es, ep, e, d, r⟩ => ⟨o, es, ep, base_of e (noA e d), d, r⟩
    have hKb : K.In (hidT s₁.heap H) := fun b o e => base_of (KX b o e) (by
      cases q : H b with
      | none => rfl
      | some u =>
        have e' : b = a := hA b (by rw [q]; simp)
        subst e'
        rw [hK (by rw [q]; simp)] at e; cases e)
    have hM : Mod K mg (hidT s₁.heap H) := ⟨hKb, nsK hns, ⟨mb, nsK hb, hbb⟩, let ⟨mc, h1, h2⟩ := hlim; ⟨mc, nsK h1, h2⟩⟩
    have e0 : Env0 P w K mg (hidT s₁.heap H) callerA [] s₁ H := ⟨rfl, hM, fun b o e => of_hidT e, Nat.le_of_eq (hidT_size _ _), trivial, fun b hb => absurd (show b ∈ ([] : List Addr) from hb) (by simp), hok, .of_eq hg⟩
    refine codeAny_mono ((F _ hKb (nsK hns)).run callerA [] s₁ H ⟨[.ref a], []⟩ [.ref a] [.ref a] _ _ hr e0 (hbind s₁ (.ref a)) (.cons rfl .nil) (hsp H hO hS)) fun r s' h => ?_
    cases r with
    | error e => exact (hCX H e s' h).elim
    | ok fl =>
      cases fl with
      | next => exact False.elim h
      | brk => exact False.elim h
      | cont => exact False.elim h
      | ret u =>
        obtain ⟨v, H', os, bare, un, hok', r', q⟩ := h
        have q' : v = .bl true := q
        subst q'
        obtain rfl : u = Value.bool true := r'
        refine ⟨rfl, OldK.of_keep fun b o e => ?_, os, bare⟩
        cases q : H b with
        | none => exact un.keep b o e q (by intro z; exact absurd (show b ∈ ([] : List Addr) from z) (by simp)) (by simp)
        | some u =>
          rcases hO b with z | ⟨ob, xs, z⟩
          · rw [q] at z; cases z
          · have z2 := un.frzs b ob _ z
            obtain ⟨e1, _⟩ := hok b _ z
            obtain ⟨e2, _⟩ := hok' b _ z2
            rw [e] at e1; cases e1
            exact e2
  cases hk : K.lookup a with
  | some o =>
    -- the script is one of the module's own objects
    have e := KX a o hk
    rw [ha] at e
    cases e
    refine core (fun _ => none) (fun _ => .inl rfl) (.inr ⟨_, vs.toArray, _, hk, rfl, rfl, rfl, by rw [List.size_toArray, lenV]; exact hl, by simpa using rv⟩) (fun b u z => by have z' : (none : Option HO) = some u := z; cases z') (fun b z => absurd rfl z) fun z => absurd rfl z
  | none =>
    refine core (fun b => if b = a then some (.frz { cls := .type "list", data := .seq vs.toArray } (.lst (ns.map V.int))) else none) (fun b => ?_) (.inl (.inr ⟨{ cls := .type "list", data := .seq vs.toArray }, if_pos rfl⟩)) (fun b u z => ?_) (fun b z => ?_) fun _ => hk
    · by_cases hb : b = a
      · exact .inr ⟨_, _, if_pos hb⟩
      · exact .inl (if_neg hb)
    · by_cases hb : b = a
      · have z' := (if_pos hb).symm.trans z
        cases z'
        subst hb
        exact ⟨ha, by rw [List.length_map]; exact hl, vs, _, rv, ha⟩
      · have z' := (if_neg hb).symm.trans z
        cases z'
    · by_cases hb : b = a
      · exact hb
      · exact absurd (if_neg hb) z
end L2

namespace L2
open PySem PySem.Spec PyProof.Rows


theorem walk_of {l : PySem.W.OpenLaw} {n k : Nat} {q : Program} {loose : List Str} {XP : (Str → Option Value) → Heap → Prop} {YP : World → Heap → Prop} {d : DefRec} {K : Params → PySem.W.Frag} {CX : World → CXT} {sp : World → Sp} {x : Str}
    (hn : l.most = some n) (hn2 : n ≤ sizeLine) (hdf : d.params.defaults = []) (hr : Room k callerA)
    (hY : ∀ (w : World) (h : Heap), YP w h → (K w.params).In h)
    (F : ∀ (w : World) (mg : Str → Option Value) (fa : Addr) (h : Heap), (K w.params).In h → h.Ns mainGlobals mg → mg d.name = some (.ref fa) →
      ∃ fd : FuncData, (∀ (s : Shared) (u : Value), BindsTo s fd ⟨[u], []⟩ [(x, u)]) ∧
        ∀ base : Heap, (K w.params).In base → base.Ns mainGlobals mg → FnOk l.prog w (K w.params) mg base (CX w) k fa fd [x] (sp w))
    (hsp : ∀ (w : World) (H : Hp) (a : Addr) (ns : List Int), ns.length ≤ n → Only H → SqL (K w.params) H a (ns.map V.int) → sp w [.ref a] H (fun v _ => v = .bl true) fun _ _ _ => False)
    (hCX : ∀ (w : World) (H : Hp) (s : Shared) (e : Value) (s' : Shared), CX w [] H s (fun _ _ _ => False) e s' → False) :
    PySem.W.WalkO q loose XP YP l.row.toRowW d [] (fun f vs => PySem.call f vs) := by
  refine Att.attach_call hn hdf fun w s₀ s₁ mg mb fa o pm cd doc a vs ns G Y ho hd hcd hmg hobj hints hlen hg => ?_
  have KX := hY w _ Y
  obtain ⟨fd, hb, hF⟩ := F w mg fa _ KX G.T.g hmg
  exact law_call KX G.T.g G.T.b G.T.builtins G.T.nolimit hg hobj hints (Nat.le_trans hlen hn2) hr hF hb (fun H hO hS => hsp w H a ns hlen hO hS) fun H e s' => hCX w H s₁ e s'
end L2

/-! SHORT WORDS over the layer: a def of the text, its body, what a loop and a test want. -/
namespace L2
open PySem PySem.Spec PyProof.Rows

/-! ### the text by places -/
noncomputable def inClass (s : Stmt) (j : Nat) : Stmt := match s with
  | .ClassDef _ _ _ body _ _ _ _ _ _ _ => body.getD j (.Pass ⟨0, 0, 0, 0⟩)
  | _ => .Pass ⟨0, 0, 0, 0⟩
noncomputable def defArgs (s : Stmt) : Arguments := match s with
  | .FunctionDef _ a _ _ _ _ _ _ _ _ => a
  | _ => { posonlyargs := [], args := [], vararg := none, kwonlyargs := [], kw_defaults := [], kwarg := none, defaults := [] }
noncomputable def defBody (s : Stmt) : List Stmt := match s with
  | .FunctionDef _ _ b _ _ _ _ _ _ _ => b
  | _ => []
noncomputable def defScope (s : Stmt) : Scope := match s with
  | .FunctionDef _ _ _ _ _ _ sc _ _ _ => sc
  | _ => { kind := .function, names := [], isGenerator := false, isCoroutine := false }

/-! ### no exception leaves a def -/
noncomputable abbrev CX0 : CXT := fun _ _ _ _ _ _ => False
noncomputable abbrev E0 : XK := fun _ _ _ => False
theorem pass0 {X : Cx} : Passes CX0 X E0 := fun _ _ _ _ _ _ _ h => h.elim

/-! ### a def (or method) of the text as it stands behind the top -/
set_option genInjectivity false in
structure Fun (K : PySem.W.Frag) (x qual : Str) (st : Stmt) (f : Addr) (fd : FuncData) : Prop where
  ex : ∃ (oc : Value) (od : Option Addr) (kV doc pm : Value) (an : Option Addr) (cdv ct : Value) (osl : Array (Option Value)),
    fd = PySem.W.fnOf x qual (defArgs st) (defBody st) (defScope st) .none kV doc pm an cdv ct ∧ K.lookup f = some ⟨oc, od, .func fd, osl⟩ ∧ PySem.W.codeIn K cdv qual = true
  kp : PySem.W.keepIn K (.ref f) = true
section
variable {P : Program} {w : World} {K : PySem.W.Frag} {mg : Str → Option Value} {base : Heap}
theorem Fun.ok {x qual : Str} {st : Stmt} {f : Addr} {fd : FuncData} {N ps : List Str} {k : Nat} {sp : Sp} (F : Fun K x qual st f fd) (S : FnScope N ps (defScope st)) (len : ∀ vs H Q E, sp vs H Q E → vs.length = ps.length)
    (hbody : ∀ (cdv : Value) (A : Around) (outer : List Env) (s : Shared) (H : Hp) (vs : List V) (Q : VK) (E : XK), Room k (A.deeper (envOfC qual (defScope st) s.heap.objs.size f cdv)) → sp vs H Q E →
      ∃ t, PSs (cxOf CX0 P w K mg base N qual (defScope st) f cdv A outer s H E).nox (defBody st) t ∧ t { nx := fun _ H' => Q .non H', rt := Q } (start N vs) H) : FnOk P w K mg base CX0 (k + 1) f fd ps sp := by
  obtain ⟨oc, od, kV, doc, pm, an, cdv, ct, osl, rfl, lk, hcd⟩ := F.ex
  refine fn_of lk hcd S len fun A outer s H vs Q E hr hsp => ?_
  obtain ⟨t, h, q⟩ := hbody cdv A outer s H vs Q E hr hsp
  exact ⟨t, h.nox, q⟩
theorem Fun.binds {x qual : Str} {st : Stmt} {f : Addr} {fd : FuncData} {ps : List Str} (F : Fun K x qual st f fd)
    (h : ∀ (kV doc pm : Value) (an : Option Addr) (cdv ct : Value) (us : List Value), us.length = ps.length → bindArgs (PySem.W.fnOf x qual (defArgs st) (defBody st) (defScope st) .none kV doc pm an cdv ct) ⟨us, []⟩ = pure (ps.zip us)) : Binds K fd ps [] := by
  obtain ⟨oc, od, kV, doc, pm, an, cdv, ct, osl, rfl, lk, hcd⟩ := F.ex
  exact .all (h kV doc pm an cdv ct)
theorem fun_mk {x qual : Str} {st : Stmt} {f : Addr} {oc : Value} {od an : Option Addr} {osl : Array (Option Value)} {kV doc pm cdv ct : Value} (l : K.lookup f = some ⟨oc, od, .func (PySem.W.fnOf x qual (defArgs st) (defBody st) (defScope st) .none kV doc pm an cdv ct), osl⟩)
    (c : PySem.W.codeIn K cdv qual = true) (k : PySem.W.keepIn K (.ref f) = true) : Fun K x qual st f (PySem.W.fnOf x qual (defArgs st) (defBody st) (defScope st) .none kV doc pm an cdv ct) := ⟨⟨oc, od, kV, doc, pm, an, cdv, ct, osl, rfl, l, c⟩, k⟩
end
theorem hu_of {A : Around} {k : Nat} (hr : Room k A) : A.units + 1 < cLine := Nat.lt_of_le_of_lt (Nat.add_le_add_left (by decide : 1 ≤ 64) _) hr.units

/-! ### expressions in short: the name that stands in the i-th slot -/
section
variable {X : Cx}
theorem pv (i : Nat) {x : Str} {pos : Pos} (hN : X.N[i]? = some x := by rfl) (hv : Vis X.env.scope x := by first | exact Or.inl rfl | exact Or.inr (Or.inl rfl) | exact Or.inr (Or.inr rfl)) (hd : (x == ("__debug__" : Str)) = false := by decide)
    (hcd : (x == ("__classdict__" : Str)) = false := by decide) : PE X (.Name x pos) (tVar i) := pe_var hN hv hd hcd
end

/-! ### tests -/
theorem iteT {A B : Prop} (h : A) : if true = true then A else B := by
  rw [if_pos rfl]
  exact h
theorem ite2 {c A B : Prop} [Decidable c] (h1 : c → A) (h2 : ¬ c → B) : if c then A else B := by
  by_cases h : c
  · rw [if_pos h]
    exact h1 h
  · rw [if_neg h]
    exact h2 h

/-! ### heaps -/
noncomputable def Same (H H' : Hp) : Prop := ∀ b o, H b = some o → H' b = some o
theorem Same.trans {H H1 H2 : Hp} (a : Same H H1) (b : Same H1 H2) : Same H H2 := fun c o h => b c o (a c o h)
theorem Same.seq {K : PySem.W.Frag} {H H' : Hp} {a : Addr} {xs : List V} (e : Same H H') (h : SqL K H a xs) : SqL K H' a xs := by
  rcases h with (h | ⟨o, h⟩) | h
  · exact .inl (.inl (e _ _ h))
  · exact .inl (.inr ⟨o, e _ _ h⟩)
  · exact .inr h

end L2

namespace L2
open PySem PySem.Spec PyProof.Rows
section
variable {X : Cx}
theorem call_lenD : CallR X (.builtin "len") (fun xs H Q => ∃ a kvs, xs = [V.ref a] ∧ H a = some (.dK kvs) ∧ Q (.int kvs.length) H) := by
  intro pins s σ H xs us Q I r h
  obtain ⟨a, kvs, rfl, ha, q⟩ := h
  obtain ⟨u, rfl, ru⟩ := vals1 r
  cases ru
  exact d_len I (.inl ha) fun t s' I' => ⟨.int kvs.length, H, I', ⟨t, rfl⟩, q⟩
end
/-! ### a dict's pairs: keys that differ -/
section
variable {κ : Type} [DecidableEq κ]
end
end L2

namespace L2
open PySem PySem.Spec PyProof.Rows

/-! ### a comprehension's cells: those of the names that it takes from around it -/
noncomputable def clOf (env : Env) : List (Str × NameKind) → List (Str × Addr) → List (Str × Addr)
  | [], acc => acc
  | (n, k) :: r, acc => clOf env r (if (k == NameKind.free) = true then (n, (env.cells.lookup n).getD 0) :: acc else acc)
theorem clOf_ok {env : Env} : ∀ (ns : List (Str × NameKind)) (acc : List (Str × Addr)), (∀ x ∈ ns, x.2 = .free → ∃ c, env.cells.lookup x.1 = some c) →
    (∀ x c, acc.lookup x = some c → env.cells.lookup x = some c) → ∀ x c, (clOf env ns acc).lookup x = some c → env.cells.lookup x = some c
  | [], acc, _, ha => ha
  | (n, k) :: r, acc, hn, ha => by
    refine clOf_ok r _ (fun x hx => hn x (List.mem_cons_of_mem _ hx)) ?_
    intro x c e
    by_cases hk : (k == NameKind.free) = true
    · rw [if_pos hk] at e
      have hk' : k = .free := by simpa using hk
      obtain ⟨c', ec⟩ := hn (n, k) List.mem_cons_self hk'
      rw [List.lookup_cons] at e
      cases hx : x == n with
      | true =>
        rw [hx] at e
        have : x = n := by simpa using hx
        subst this
        have ec' : List.lookup x env.cells = some c' := ec
        rw [ec'] at e
        simp at e
        rw [← e]; exact ec'
      | false => rw [hx] at e; exact ha x c e
    · rw [if_neg hk] at e; exact ha x c e
theorem clOf_keep {env : Env} : ∀ (ns : List (Str × NameKind)) (acc : List (Str × Addr)) (x : Str), (∃ c, acc.lookup x = some c) → ∃ c, (clOf env ns acc).lookup x = some c
  | [], acc, x, h => h
  | (n, k) :: r, acc, x, h => by
    refine clOf_keep r _ x ?_
    by_cases hk : (k == NameKind.free) = true
    · rw [if_pos hk, List.lookup_cons]
      cases hx : x == n with
      | true => exact ⟨_, rfl⟩
      | false => exact h
    · rw [if_neg hk]; exact h
theorem clOf_has {env : Env} : ∀ (ns : List (Str × NameKind)) (acc : List (Str × Addr)) (x : Str), (x, NameKind.free) ∈ ns → ∃ c, (clOf env ns acc).lookup x = some c
  | [], acc, x, h => absurd h (by simp)
  | (n, k) :: r, acc, x, h => by
    rcases List.mem_cons.mp h with e | e
    · injection e with e1 e2
      subst e1 e2
      refine clOf_keep r _ x ⟨(env.cells.lookup x).getD 0, ?_⟩
      rw [if_pos (by decide)]
      simp
    · exact clOf_has r _ x e
theorem closureFor_eq {scope : Scope} {env : Env} (h : ∀ x ∈ scope.names, x.2 = .free → ∃ c, env.cells.lookup x.1 = some c) : closureFor scope env = pure (clOf env scope.names []) := by
  have key : ∀ (ns : List (Str × NameKind)) (acc : List (Str × Addr)), (∀ x ∈ ns, x.2 = .free → ∃ c, env.cells.lookup x.1 = some c) →
      (do let r ← forIn (m := Sem) ns acc (fun x r => if (x.2 == NameKind.free) = true then do let c ← cellOf env x.1; pure (ForInStep.yield ((x.1, c) :: r)) else pure (ForInStep.yield r)); pure r : Sem (List (Str × Addr))) = pure (clOf env ns acc) := by
    intro ns
    induction ns with
    | nil => intro acc _; rfl
    | cons y r ih =>
      intro acc hy
      obtain ⟨n, k⟩ := y
      rw [List.forIn_cons]
      by_cases hk : (k == NameKind.free) = true
      · have hk' : k = .free := by simpa using hk
        obtain ⟨c, ec⟩ := hy (n, k) List.mem_cons_self hk'
        have ec' : List.lookup n env.cells = some c := ec
        have e1 : cellOf env n = pure c := by unfold cellOf; rw [ec']
        simp only [hk, if_true, e1]
        have := ih ((n, c) :: acc) fun x hx => hy x (List.mem_cons_of_mem _ hx)
        show _ = pure (clOf env r (if (k == NameKind.free) = true then (n, (List.lookup n env.cells).getD 0) :: acc else acc))
        rw [if_pos hk, ec']
        exact this
      · simp only [hk]
        have := ih acc fun x hx => hy x (List.mem_cons_of_mem _ hx)
        show _ = pure (clOf env r (if (k == NameKind.free) = true then (n, (List.lookup n env.cells).getD 0) :: acc else acc))
        rw [if_neg hk]
        exact this
  simp only [closureFor]
  rw [key scope.names [] h]
  rfl
/-! ### the turns of a comprehension -/
section
variable {prog : Program} {w : World} {A : Around} {R : Result → Shared → Prop} {s : Shared}
theorem compLoop_any {elt target iter : Expr} {ifs : List Expr} {scope : Scope} {pos : Pos} {it acc : Value} {env : Env} (I : Nat → Shared → Prop)
    (turn : ∀ n s, I n s → wpAny (model prog w) A (pyNext it) (fun r s₁ => match r with
      | none => R (.ok .next) s₁
      | some v => wpAny (model prog w) A (letOwnedTupleGo target it v) (fun _ s₁' => wpAny (model prog w) A (assign target env v) (fun _ s₂ =>
          wpAny (model prog w) A (forIn ifs true fun c r => if r = true then do let ok ← isTrue c env (eval c env); pure (ForInStep.yield ok) else pure (ForInStep.yield r)) (fun ok s₃ =>
            if ok = true then wpAny (model prog w) A (eval elt env) (fun x s₄ =>
              wpAny (model prog w) A (call (.builtin "list.append") [acc, x]) (fun _ s₅ => ∃ m, m < n ∧ I m s₅) (fun _ _ => False) s₄) (fun _ _ => False) s₃
            else ∃ m, m < n ∧ I m s₃) (fun _ _ => False) s₂) (fun _ _ => False) s₁') (fun _ _ => False) s₁) (fun _ _ => False) s)
    (n : Nat) (h : I n s) :
    codeAny (model prog w) A (.compLoop (.ListComp elt [⟨target, iter, ifs, 0⟩] scope pos) 0 it acc env) R s := by
  refine codeAny_loop rfl I (fun n s hI => ?_) n h
  show wpAny _ A ((compTurn (.ListComp elt [⟨target, iter, ifs, 0⟩] scope pos) 0 it acc env).onRaise (fun x => do noteFrame x env; theTreesLotGoes x)) _ _ s
  refine wpAny_noted ?_
  rw [compTurn_list]
  refine wpAny_bind (wpAny_standAt (wpAny_bind (wpAny_mono (turn n s hI) (fun r s₁ h₁ => ?_) fun _ _ h' => h'.elim)))
  cases r with
  | none => exact wpAny_pure h₁
  | some v =>
    refine wpAny_bind (wpAny_mono h₁ (fun _ s₁' h₁' => ?_) fun _ _ h' => h'.elim)
    refine wpAny_bind (wpAny_mono h₁' (fun _ s₂ h₂ => wpAny_bind (wpAny_mono h₂ (fun ok s₃ h₃ => ?_) fun _ _ h' => h'.elim)) fun _ _ h' => h'.elim)
    cases ok with
    | false => exact wpAny_pure ⟨rfl, h₃⟩
    | true =>
      exact wpAny_bind (wpAny_bind (wpAny_mono h₃ (fun x s₄ h₄ => wpAny_bind (wpAny_mono h₄ (fun _ s₅ h₅ => wpAny_pure (wpAny_pure ⟨rfl, h₅⟩)) fun _ _ h' => h'.elim)) fun _ _ h' => h'.elim))
end

/-! ### the block's context -/
noncomputable def blk (X : Cx) (N' : List Str) (scope : Scope) (fp : List Addr) (s : Shared) (H : Hp) : Cx :=
  { X with N := N', s₀ := s, H₀ := H, env := compEnvC scope (clOf X.env scope.names []) s.heap.objs.size X.env, outer := X.stack, stack := X.stack, ex := fp, fn := fun _ => false, xe := fun _ _ => False }
noncomputable def PTs (X : Cx) (ifs : List Expr) (t : TT) : Prop :=
  ∀ (pins : List (Addr × Obj)) (s : Shared) (σ : St) (H : Hp) (Q : Bool → Hp → Prop), Inv X pins σ H s → t σ H Q →
    wpAny (model X.prog X.w) X.A (forIn ifs true fun c r => if r = true then do let ok ← isTrue c X.env (eval c X.env); pure (ForInStep.yield ok) else pure (ForInStep.yield r)) (TP X pins σ Q) X.xe s
noncomputable def tYes : TT := fun _ H Q => Q true H
theorem pts_nil {X : Cx} : PTs X [] tYes := fun _ _ _ H _ I h => wpAny_tests_nil ⟨H, I, h⟩
inductive Ext : St → St → Prop
  | nil : Ext [] []
  | no {σ τ : St} {a : Option V} : Ext σ τ → Ext (none :: σ) (a :: τ)
  | yes {σ τ : St} {v : V} : Ext σ τ → Ext (some v :: σ) (some v :: τ)
theorem Ext.len : ∀ {σ τ : St}, Ext σ τ → σ.length = τ.length
  | _, _, .nil => rfl
  | _, _, .no h => by simp [h.len]
  | _, _, .yes h => by simp [h.len]
theorem Ext.get : ∀ {σ τ : St}, Ext σ τ → ∀ (i : Nat) (v : V), σ[i]? = some (some v) → τ[i]? = some (some v)
  | _, _, .nil, i, v, e => e
  | _, _, .no h, 0, v, e => by simp at e
  | _, _, .no h, i + 1, v, e => by simpa using h.get i v (by simpa using e)
  | _, _, .yes h, 0, v, e => by simpa using e
  | _, _, .yes h, i + 1, v, e => by simpa using h.get i v (by simpa using e)
noncomputable def blkSt (k : Nat) (fm : List Nat) (σ : St) : St := List.replicate k none ++ fm.map fun j => (σ[j]?).join
noncomputable def tComp (k : Nat) (fm : List Nat) (wi : TI) (g : TG) (tt : TT) (te : TE) : TE := fun σ H Q => wi σ H fun J H1 => ∀ D, H1 D = none → ∃ W : Nat → Nat → List V → Hp → Prop,
  (∃ m, W 0 m [] (upd H1 D (.lst []))) ∧ ∀ i m ys H2, W i m ys H2 → H2 D = some (.lst ys) ∧ ys.length < sizeLine ∧ ((J.stop i H2 ∧ Q (.ref D) H2) ∨ (J.go i H2 ∧ ∃ N : List V → Hp → Prop, (∀ ys' H', N ys' H' → ∃ m', m' < m ∧ W (i + 1) m' ys' H') ∧ ∀ x H3, J.yld i H2 x H3 →
    g x (blkSt k fm σ) H3 fun σ3 H4 => Ext (blkSt k fm σ) σ3 ∧ tt σ3 H4 fun b H5 => if b = true then te σ3 H5 fun y H6 => H6 D = some (.lst ys) ∧ N (ys ++ [y]) (upd H6 D (.lst (ys ++ [y]))) else N ys H5))
theorem Un.tail {fs ex : List Addr} {H H' : Hp} {h h1 h2 : Heap} {C : Addr} (u : Un fs ex H H' h h1) (k : ∀ b o, b ≠ C → h1.get? b = some o → h2.get? b = some o) (hC : h.get? C = none) : Un fs ex H H' h h2 := by
  have ne : ∀ b o, h.get? b = some o → b ≠ C := fun b o e z => by rw [z, hC] at e; cases e
  exact ⟨fun b o e n hf hx => k b o (ne b o e) (u.keep b o e n hf hx), fun b o e n hf hx => let ⟨sl, q⟩ := u.slot b o e n hf hx; ⟨sl, k b _ (ne b o e) q⟩, u.free,
    fun b o e hx => let ⟨o', q⟩ := u.there b o e hx; ⟨o', k b _ (ne b o e) q⟩, u.tups, u.frzs, u.tbls⟩
theorem HOk.tail {P : Program} {w : World} {H : Hp} {h1 h2 : Heap} {C : Addr} (ok : HOk P w H h1) (k : ∀ b o, b ≠ C → h1.get? b = some o → h2.get? b = some o) (hC : H C = none) : HOk P w H h2 := fun a o e => by
  have ne : ∀ b u, H b = some u → b ≠ C := fun b u q z => by rw [z, hC] at q; cases q
  refine (ok a o e).stay (fun b u hb q => k b u ?_ q) (fun _ q => q) fun _ _ q => q
  rcases hb with z | z
  · rw [z]; exact ne a o e
  · exact ne b _ z
theorem lookup_relabel {env : Env} : ∀ {names : List (Str × NameKind)} {x : Str} {k : NameKind},
    (names.map fun (n, k) => if (k == NameKind.free && env.scope.kind == .function && env.kindOf n == some .cell) then (n, NameKind.cell) else (n, k)).lookup x = some k → ∃ k', names.lookup x = some k' ∧ (k = k' ∨ (k' = .free ∧ k = .cell))
  | [], _, _, h => by simp at h
  | (n, k0) :: r, x, k, h => by
    have ih := @lookup_relabel env r x k
    have h : List.lookup x ((if (k0 == NameKind.free && env.scope.kind == .function && env.kindOf n == some .cell) = true then (n, NameKind.cell) else (n, k0)) :: (r.map fun (n, k) => if (k == NameKind.free && env.scope.kind == .function && env.kindOf n == some .cell) then (n, NameKind.cell) else (n, k))) = some k := h
    by_cases hc : (k0 == NameKind.free && env.scope.kind == .function && env.kindOf n == some .cell) = true
    · rw [if_pos hc, List.lookup_cons] at h
      have k0f : k0 = .free := by
        simp only [Bool.and_eq_true] at hc
        simpa using hc.1.1
      rw [List.lookup_cons]
      cases hx : x == n with
      | true => rw [hx] at h; injection h with h; exact ⟨k0, rfl, .inr ⟨k0f, h.symm⟩⟩
      | false => rw [hx] at h; exact ih h
    · rw [if_neg hc, List.lookup_cons] at h
      rw [List.lookup_cons]
      cases hx : x == n with
      | true => rw [hx] at h; injection h with h; exact ⟨k0, rfl, .inl h.symm⟩
      | false => rw [hx] at h; exact ih h
set_option genInjectivity false in
structure BlkScope (X : Cx) (N' : List Str) (k : Nat) (fm : List Nat) (scope : Scope) : Prop where
  kind : scope.kind = .function
  nocell : ∀ y ∈ scope.names, y.2 ≠ .cell
  names : ∀ y ∈ scope.names, y.2 = .local → scope.names.lookup y.1 = some .local
  free : ∀ y ∈ scope.names, y.2 = .free → X.env.kindOf y.1 = some .cell ∨ X.env.kindOf y.1 = some .free
  len : N'.length = k + fm.length
  slots : ∀ i x, k ≤ i → N'[i]? = some x → scope.names.lookup x = some .free ∧ ∃ j, fm[i - k]? = some j ∧ X.N[j]? = some x
section
variable {X : Cx} {pins : List (Addr × Obj)} {σ : St} {H : Hp} {s : Shared}
theorem Inv.block {N' : List Str} {k : Nat} {fm : List Nat} {scope : Scope} {fp : List Addr} {h' : Heap} {tk : Nat} (B : BlkScope X N' k fm scope) (I : Inv X pins σ H s) (hf : ∀ b ∈ fp, FpOk X pins H b) (ho : ∀ b ∈ fp, ∃ o, s.heap.get? b = some o)
    (ns : h'.Ns s.heap.objs.size (fun _ => none)) (kp : ∀ b o, s.heap.get? b = some o → h'.get? b = some o) : Inv (blk X N' scope fp s H) [] (blkSt k fm σ) H { s with heap := h', toks := tk } := by
  have hfree : ∀ x ∈ scope.names, x.2 = .free → ∃ c, X.env.cells.lookup x.1 = some c := fun x hx hk => I.ok.has x.1 (B.free x hx hk)
  have hcl : ∀ x c, (clOf X.env scope.names []).lookup x = some c → X.env.cells.lookup x = some c := clOf_ok scope.names [] hfree fun x c e => by simp at e
  have stk : ∀ b ∈ frs X.stack, b ∈ X.env.locals :: X.fs := I.stkSub
  have hC : H s.heap.objs.size = none := I.hok.fresh (Nat.le_refl _)
  have ok : (blk X N' scope fp s H).Ok := {
    mod := I.ok.mod
    kind := B.kind
    glob := I.ok.glob
    blt := I.ok.blt
    above := Nat.le_refl _
    inj := fun x y c h1 h2 => I.ok.inj x y c (hcl x c h1) (hcl y c h2)
    has := fun x hx => by
      have hx : (relabel scope X.env).names.lookup x = some .cell ∨ (relabel scope X.env).names.lookup x = some .free := hx
      have : scope.names.lookup x = some .free := by
        rcases hx with e | e
        · obtain ⟨k', e1, e2⟩ := lookup_relabel e
          rcases e2 with e2 | ⟨e2, _⟩
          · subst e2; exact absurd rfl (B.nocell _ (PySem.mem_of_lookup e1))
          · rw [e1, e2]
        · obtain ⟨k', e1, e2⟩ := lookup_relabel e
          rcases e2 with e2 | ⟨e2, e3⟩
          · rw [e1, e2]
          · rw [e1, e2]
      exact clOf_has scope.names [] x (PySem.mem_of_lookup this)
    cab := fun x c e => by cases e
    hd := I.ok.hd
    frames := I.ok.frames
    stk := .inl rfl
    exf := fun b hb => ⟨fun z => by
        obtain ⟨o, e⟩ := ho b hb
        have hlt := Heap.lt_size e
        rw [z] at hlt
        exact Nat.lt_irrefl _ hlt, fun x c e => (hf b hb).2.2.2.2.1 x c (hcl x c e)⟩
    bs := I.bs
    bsz := Nat.le_trans I.ok.bsz I.sz
    noex := fun b o e hb => by
      rcases (hf b hb).2.2.2.1 with z | z
      · exact I.ok.noex b o e z
      · exact absurd (Nat.lt_of_lt_of_le (Heap.lt_size e) (Nat.le_trans I.ok.bsz z)) (Nat.lt_irrefl _)
    exfs := fun b hb z => (List.mem_cons.mp (stk b z)).elim (hf b hb).2.1 (hf b hb).2.2.1
    funs := I.stack
    frf := I.stkFree }
  refine ⟨ok, rfl, I.bare, Un.kept kp, ⟨_, ns, fun i x v h1 h2 h3 => ?_⟩, fun x c e => ?_, hC, fun x c e => I.freeC x c (hcl x c e), fun p hp => ?_, I.hok.kept kp, ?_⟩
  · have hk : k ≤ i := by
      refine Nat.le_of_not_lt fun z => ?_
      unfold blkSt at h2
      rw [List.getElem?_append_left (by simpa using z), List.getElem?_replicate, if_pos z] at h2
      cases h2
    obtain ⟨e1, j, e2, e3⟩ := B.slots i x hk h1
    have e4 : σ[j]? = some (some v) := by
      unfold blkSt at h2
      rw [List.getElem?_append_right (by simpa using hk), List.length_replicate, List.getElem?_map, e2] at h2
      have h2 : some (σ[j]?).join = some (some v) := h2
      injection h2 with h2
      cases e : σ[j]? with
      | none => rw [e] at h2; cases h2
      | some o => rw [e] at h2; rw [show o = some v from h2]
    have kf := B.free (x, .free) (PySem.mem_of_lookup e1) rfl
    obtain ⟨m, hn, hl⟩ := I.loc
    obtain ⟨u, ru, lk⟩ := hl j x v e3 e4 (.inr kf)
    refine ⟨u, ru, .inr ⟨?_, ?_⟩⟩
    · have h3 : (relabel scope X.env).names.lookup x = some .local ∨ (relabel scope X.env).names.lookup x = some .cell ∨ (relabel scope X.env).names.lookup x = some .free := h3
      rcases h3 with z | z
      · obtain ⟨k', q1, q2⟩ := lookup_relabel z
        rw [e1] at q1
        injection q1 with q1
        subst q1
        rcases q2 with q2 | ⟨_, q2⟩ <;> cases q2
      · exact z
    · obtain ⟨c, hc⟩ := clOf_has (env := X.env) scope.names [] x (PySem.mem_of_lookup e1)
      refine ⟨c, hc, ?_⟩
      rcases lk with ⟨z, _⟩ | ⟨_, c', ec, ic⟩
      · rcases kf with y | y <;> (rw [z] at y; cases y)
      · rw [hcl x c hc] at ec
        injection ec with ec
        subst ec
        exact ic.keeps kp
  · obtain ⟨v, q⟩ := I.cell x c (hcl x c e)
    exact ⟨v, q.keeps kp⟩
  · obtain ⟨p1, p2, p3, p4, p5⟩ := I.pin p ((List.mem_append.mp hp).elim (fun z => List.mem_append_left _ z) fun z => absurd z (by simp))
    refine ⟨kp _ _ p1, p2, fun z => ?_, fun z => (List.mem_cons.mp (stk _ z)).elim p3 p4, p5⟩
    have hlt := Heap.lt_size p1
    rw [z] at hlt
    exact Nat.lt_irrefl _ hlt
  · show (blkSt k fm σ).length = N'.length
    unfold blkSt
    rw [List.length_append, List.length_replicate, List.length_map, B.len]
theorem blk_loop {X : Cx} {elt iter tg : Expr} {ifs : List Expr} {scope : Scope} {pos : Pos} {g : TG} {tt : TT} {te : TE} {J : It} {fp : List Addr} {it D : Addr} {tn : Nat → Heap → Prop} {σ0 : St} {H3 : Hp} {s4 : Shared} {Q : VK} {R : Result → Shared → Prop} {W : Nat → Nat → List V → Hp → Prop} {m0 : Nat}
    (hx : X.xe = fun _ _ => False) (hc : X.calm = true) (T : Turn X.prog X.w X.K tg J fp it tn) (stat : ∀ {H' : Hp}, (∀ b ∈ fp, H' b = none) → ∀ b ∈ fp, FpOk X [] H' b) (hg : PG X tg g) (ht : PTs X ifs tt) (he : PE X elt te)
    (turn : ∀ i m ys H2, W i m ys H2 → H2 D = some (.lst ys) ∧ ys.length < sizeLine ∧ ((J.stop i H2 ∧ Q (.ref D) H2) ∨ (J.go i H2 ∧ ∃ N : List V → Hp → Prop, (∀ ys' H', N ys' H' → ∃ m', m' < m ∧ W (i + 1) m' ys' H') ∧ ∀ x H3, J.yld i H2 x H3 →
      g x σ0 H3 fun σ3 H4 => Ext σ0 σ3 ∧ tt σ3 H4 fun b H5 => if b = true then te σ3 H5 fun y H6 => H6 D = some (.lst ys) ∧ N (ys ++ [y]) (upd H6 D (.lst (ys ++ [y]))) else N ys H5)))
    (I4 : Inv X [] σ0 H3 s4) (st4 : tn 0 s4.heap) (fr4 : ∀ b ∈ fp, H3 b = none) (w4 : W 0 m0 [] H3)
    (hR : ∀ H' s', Inv X [] σ0 H' s' → Q (.ref D) H' → R (.ok .next) s') :
    codeAny (model X.prog X.w) X.A (.compLoop (.ListComp elt [⟨tg, iter, ifs, 0⟩] scope pos) 0 (.ref it) (.ref D) X.env) R s4 := by
  refine compLoop_any (fun n s' => ∃ i ys H', Inv X [] σ0 H' s' ∧ tn i s'.heap ∧ (∀ b ∈ fp, H' b = none) ∧ W i n ys H') ?_ m0 ⟨0, [], H3, I4, st4, fr4, w4⟩
  rintro n s5 ⟨i, ys, H5, I5, st5, fr5, w5⟩
  obtain ⟨hD, hl, cs⟩ := turn i n ys H5 w5
  rcases cs with ⟨stop, q⟩ | ⟨go, N, hN, step⟩
  · refine thn (T.done X rfl rfl rfl hc i [] s5 σ0 H5 _ I5 (stat fr5) st5 stop) fun r s6 ⟨hr, I6⟩ => ?_
    subst hr
    exact hR H5 s6 I6 q
  · refine thn (T.item X rfl rfl rfl hc i [] s5 σ0 H5 _ I5 (stat fr5) st5 go) fun r s6 ⟨u, hr, h6⟩ => ?_
    subst hr
    refine thn h6 fun _ s7 ⟨x, H7, I7, r7, y7, st7, fr7⟩ => ?_
    have I7' := I7.pinned (stat fr7) (T.obj _ _ st7)
    have again : ∀ {σ' : St} {H' : Hp} {s' : Shared}, Ext σ0 σ' → Inv X ([] ++ pinsAt fp s7.heap) σ' H' s' → Inv X [] σ0 H' s' ∧ tn (i + 1) s'.heap ∧ ∀ b ∈ fp, H' b = none := fun {σ' H' s'} ex I' => by
      refine ⟨I'.unpinned.weak ex.len ex.get, T.keep _ _ _ st7 fun b hb o e => (I'.pin (b, o) (List.mem_append_right _ (List.mem_append_right _ (mem_pinsAt hb e)))).1, fun b hb => ?_⟩
      obtain ⟨o, e, d⟩ := T.obj _ _ st7 b hb
      exact (I'.pin (b, o) (List.mem_append_right _ (List.mem_append_right _ (mem_pinsAt hb e)))).2.1
    have w8 := hg _ s7 σ0 H7 x u _ I7' r7 (step x H7 y7)
    rw [hx] at w8
    refine thn w8 fun _ s8 ⟨σ8, H8, I8, ex8, q8⟩ => ?_
    have w9 := ht _ s8 σ8 H8 _ I8 q8
    rw [hx] at w9
    refine thn w9 fun ok s9 ⟨H9, I9, q9⟩ => ?_
    cases ok with
    | false =>
      obtain ⟨m', hm, w'⟩ := hN _ _ q9
      obtain ⟨a1, a2, a3⟩ := again ex8 I9
      exact ⟨m', hm, i + 1, ys, H9, a1, a2, a3, w'⟩
    | true =>
      have w10 := he _ s9 σ8 H9 _ I9 q9
      rw [hx] at w10
      refine thn w10 fun y s10 ⟨yv, H10, I10, r10, hD10, n10⟩ => ?_
      obtain ⟨m', hm, w'⟩ := hN _ _ n10
      have w11 := mt_append (X := X) _ s10 σ8 H10 (.ref D) [yv] (.ref D) [y] (fun v H' => v = .non ∧ H' = upd H10 D (.lst (ys ++ [yv]))) I10 rfl (.cons r10 .nil) ⟨D, ys, yv, rfl, rfl, hD10, hl, rfl, rfl⟩
      rw [hx] at w11
      refine thn w11 fun _ s11 ⟨_, H11, I11, _, _, e11⟩ => ?_
      subst e11
      obtain ⟨a1, a2, a3⟩ := again ex8 I11
      exact ⟨m', hm, i + 1, _, _, a1, a2, a3, w'⟩
theorem pe_comp {elt iter tg : Expr} {ifs : List Expr} {scope : Scope} {pos : Pos} {N' : List Str} {k : Nat} {fm : List Nat} {wi : TI} {g : TG} {tt : TT} {te : TE} (B : BlkScope X N' k fm scope) (hc : X.calm = true) (hi : PI X tg iter wi)
    (hb : ∀ fp s H, PG (blk X N' scope fp s H) tg g ∧ PTs (blk X N' scope fp s H) ifs tt ∧ PE (blk X N' scope fp s H) elt te)
    (hs : ∀ x, foldedSetIterable iter X.env x = pure x := by intro _; rfl) : PE X (.ListComp elt [⟨tg, iter, ifs, 0⟩] scope pos) (tComp k fm wi g tt te) := by
  intro pins s σ H Q I h
  have hfree : ∀ x ∈ scope.names, x.2 = .free → ∃ c, X.env.cells.lookup x.1 = some c := fun x hx hk => I.ok.has x.1 (B.free x hx hk)
  rw [eval_ListComp]
  refine wpAny_comprehension_free (use := none) rfl hs (closureFor_eq hfree) B.kind B.names (thn (hi pins s σ H _ I h) fun v s1 h1 => thn h1 fun itv s2 h2 => ?_)
  obtain ⟨it, fp, tn, J, H2, e, I2, T, st2, f2, h2⟩ := h2
  subst e
  obtain ⟨W, ⟨m0, w0⟩, turn⟩ := h2 s2.heap.objs.size I2.fresh
  refine wpAny_newObj_type (wpAny_newFunctionEnv B.nocell (by intro y hy; simp at hy) (fun h4 hns4 hsb4 => ?_) B.kind)
  have I3 := I2.lnew (its := []) (ys := []) (t' := s2.toks) .nil (Nat.zero_le _)
  have hf3 : ∀ b ∈ fp, FpOk X pins (upd H2 s2.heap.objs.size (.lst [])) b := fun b hb => by
    obtain ⟨o, e, _⟩ := T.obj _ _ st2 b hb
    refine ⟨?_, (f2 b hb).2⟩
    rw [upd_ne (fun z => Nat.lt_irrefl _ (z ▸ Heap.lt_size e))]
    exact (f2 b hb).1
  have ho3 : ∀ b ∈ fp, ∃ o, (s2.heap.push { cls := .type "list", data := .seq ([] : List Value).toArray }).get? b = some o := fun b hb => by
    obtain ⟨o, e, _⟩ := T.obj _ _ st2 b hb
    exact ⟨o, Heap.get?_push_of_some _ e⟩
  have kp4 : ∀ b o, (s2.heap.push { cls := .type "list", data := .seq ([] : List Value).toArray }).get? b = some o → h4.get? b = some o := fun b o e =>
    hsb4.extBut b o (fun z => Nat.lt_irrefl _ (z ▸ Heap.lt_size e)) (Heap.get?_push_of_some _ e)
  have I4 := I3.block (fp := fp) (h' := h4) (tk := s2.toks + ([] : List (Str × Value)).length) B hf3 ho3 hns4 kp4
  generalize hs3 : ({ s2 with heap := s2.heap.push { cls := .type "list", data := .seq ([] : List Value).toArray }, toks := s2.toks } : Shared) = s3 at *
  obtain ⟨hg, ht, he⟩ := hb fp s3 (upd H2 s2.heap.objs.size (.lst []))
  have st4 : tn 0 h4 := T.keep _ _ _ st2 fun b hb o e => kp4 b o (Heap.get?_push_of_some _ e)
  have stat : ∀ {H' : Hp}, (∀ b ∈ fp, H' b = none) → ∀ b ∈ fp, FpOk (blk X N' scope fp s3 (upd H2 s2.heap.objs.size (.lst []))) [] H' b := fun {H'} hn b hb => by
    obtain ⟨f0, f1, f3, f4, f5, f6⟩ := hf3 b hb
    obtain ⟨g1, g2⟩ := I4.ok.exf b hb
    exact ⟨hn b hb, g1, I4.ok.exfs b hb, .inl hb, g2, fun p hp => f6 p ((List.mem_append.mp hp).elim (fun z => List.mem_append_left _ z) fun z => absurd z (by simp))⟩
  have loop : codeAny (model X.prog X.w) X.A (.compLoop (.ListComp elt [⟨tg, iter, ifs, 0⟩] scope pos) 0 (.ref it) (.ref s2.heap.objs.size) (compEnvC scope (clOf X.env scope.names []) s3.heap.objs.size X.env))
      (compPost (model X.prog X.w) X.A X.xe none (EP X pins σ Q) (.ref s2.heap.objs.size) s3.heap.objs.size) { s3 with heap := h4, toks := s2.toks + ([] : List (Str × Value)).length } := by
    refine blk_loop (X := blk X N' scope fp s3 (upd H2 s2.heap.objs.size (.lst []))) (D := s2.heap.objs.size) (Q := Q) (W := W) (m0 := m0) rfl hc T stat hg ht he turn I4 st4 (fun b hb => (hf3 b hb).1) w0 ?_
    intro H' s' I' q
    obtain ⟨m, hn, _⟩ := I'.loc
    refine ⟨m, hn, fun h'' hs'' => ?_⟩
    have hC : s3.heap.get? s3.heap.objs.size = none := by
      cases e : s3.heap.get? s3.heap.objs.size with
      | none => rfl
      | some o => exact absurd (Heap.lt_size e) (Nat.lt_irrefl _)
    have u : Un (frs X.stack) fp (upd H2 s2.heap.objs.size (.lst [])) H' s3.heap h'' := Un.tail I'.base (fun b o hb e => hs''.extBut b o hb e) hC
    refine ⟨.ref s2.heap.objs.size, H', ?_, rfl, q⟩
    refine I3.call' (s' := { s' with heap := h'' }) (ch := fp) I'.os u (I'.hok.tail (fun b o hb e => hs''.extBut b o hb e) I'.free) I'.bare fun b hb => ?_
    obtain ⟨f0, f1, f3, f4, f5, f6⟩ := hf3 b hb
    exact ⟨f4, f1, f5, f6⟩
  subst hs3
  exact codeAny_compStart_list loop (T.self X.A 0 _ _ _ st4 loop)
end
end L2

namespace L2
open PySem PySem.Spec PyProof.Rows

/-! ### the signs of a text, walked -/
noncomputable def Its (z : Str) : It := ⟨fun i _ => i < z.cps.size, fun i H x H' => H' = H ∧ ∃ c, z.cps[i]? = some c ∧ x = .str ⟨#[c]⟩, fun i _ => z.cps.size ≤ i⟩
section
variable {X : Cx} {tg : Expr}
noncomputable def iStr (tl : TE) : TI := fun σ H R => tl σ H fun x H1 => ∃ z, x = .str z ∧ R (Its z) H1
end

/-! ### a part of a text -/
section
variable {X : Cx}
noncomputable def rSlS : V → Option Int → Option Int → Hp → VK → Prop := fun x lo hi H Q => ∃ z, x = .str z ∧ z.length ≤ sizeLine ∧ Q (.str (Txt.slice z lo hi)) H

/-! ### all of a list of truths -/
noncomputable def rAll (K : PySem.W.Frag) : List V → Hp → VK → Prop := fun xs H Q => ∃ (a : Addr) (bs : List Bool), xs = [.ref a] ∧ SqL K H a (bs.map V.bl) ∧ Q (.bl (bs.all id)) H

/-! ### isinstance -/
noncomputable def rIsi (K : PySem.W.Frag) : List V → Hp → VK → Prop := fun xs H Q => ∃ x n t b, xs = [x, .ty n] ∧ TyOf K H x t ∧ PySem.W.kitOne K t (.type n) = some b ∧ Q (.bl b) H
theorem call_isi : CallR X (.builtin "isinstance") (rIsi X.K) := by
  intro pins s σ H xs us Q I r h
  obtain ⟨x, n, t, b, rfl, ty, e, q⟩ := h
  obtain ⟨u, u2, rfl, ru, ru2⟩ := vals2 r
  cases ru2
  exact isinst_ok I ru ty e fun tk => ⟨.bl b, H, I.tok tk, rfl, q⟩

/-! ### list + list, lists that are read -/
noncomputable def rCatS (K : PySem.W.Frag) : R2 := fun x y H Q => ∃ l b xs zs, x = .ref l ∧ y = .ref b ∧ SqL K H l xs ∧ SqL K H b zs ∧ xs.length + zs.length ≤ sizeLine ∧ ∀ p, H p = none → Q (.ref p) (upd H p (.lst (xs ++ zs)))
theorem op_catS : OpR X (binaryOp .Add) (rCatS X.K) := by
  intro pins s σ H x y v u Q I rx ry h
  obtain ⟨l, b, xs, zs, rfl, rfl, hH, hB, hz, q⟩ := h
  cases rx
  cases ry
  obtain ⟨vs, r, p, z⟩ := I.list hH
  obtain ⟨ws, r2, p2, z2⟩ := I.list hB
  have l1 := r.length
  have l2 := r2.length
  obtain ⟨⟨cls, dd, data, sl⟩, n, ho, hc, hdd, hd⟩ := p
  obtain ⟨⟨cls2, dd2, data2, sl2⟩, n2, ho2, hc2, hdd2, hd2⟩ := p2
  simp only at hc hd hc2 hd2
  subst hc hd hc2 hd2
  have e : vs.toArray ++ ws.toArray = (vs ++ ws).toArray := by simp
  refine concat_meets ⟨_, ho, rfl⟩ ⟨_, ho2, rfl⟩ noFill_list_add seq_list_add PySem.F.slot_list_add PySem.F.entry_list_add (PySem.F.args_list_add_2 _ _) (list_addW l b vs.toArray ws.toArray n n2 dd dd2 sl sl2 (by simp; omega)) ⟨ho, ho2, ?_⟩
  rw [e]
  exact ⟨.ref _, _, I.lnew (t' := s.toks) (r.append r2) (by rw [List.length_append]; omega), rfl, q _ I.fresh⟩
end
end L2

namespace L2
open PySem PySem.Spec PyProof.Rows
/-! ### a comprehension's scope, by lists -/
inductive Slots (X : Cx) (scope : Scope) : List Str → List Nat → Prop
  | nil : Slots X scope [] []
  | cons {x : Str} {j : Nat} {xs : List Str} {js : List Nat} (h1 : scope.names.lookup x = some .free) (h2 : X.env.kindOf x = some .cell ∨ X.env.kindOf x = some .free) (h3 : X.N[j]? = some x) (r : Slots X scope xs js) : Slots X scope (x :: xs) (j :: js)
theorem Slots.len {X : Cx} {scope : Scope} : ∀ {xs : List Str} {js : List Nat}, Slots X scope xs js → xs.length = js.length
  | _, _, .nil => rfl
  | _, _, .cons _ _ _ r => by simp [r.len]
theorem Slots.kind {X : Cx} {scope : Scope} : ∀ {xs : List Str} {js : List Nat}, Slots X scope xs js → ∀ x ∈ xs, X.env.kindOf x = some .cell ∨ X.env.kindOf x = some .free
  | _, _, .nil, x, h => absurd h (by simp)
  | _, _, .cons _ h2 _ r, x, h => by
    rcases List.mem_cons.mp h with e | e
    · subst e; exact h2
    · exact r.kind x e
theorem Slots.get {X : Cx} {scope : Scope} : ∀ {xs : List Str} {js : List Nat}, Slots X scope xs js → ∀ (i : Nat) (x : Str), xs[i]? = some x → scope.names.lookup x = some .free ∧ ∃ j, js[i]? = some j ∧ X.N[j]? = some x
  | _, _, .nil, i, x, h => by simp at h
  | _, _, .cons h1 _ h3 r, 0, x, h => by
    simp only [List.getElem?_cons_zero, Option.some.injEq] at h
    subst h
    exact ⟨h1, _, by simp, h3⟩
  | _, _, .cons _ _ _ r, i + 1, x, h => by simpa using r.get i x (by simpa using h)
theorem blk_mk {X : Cx} {own fr : List Str} {fm : List Nat} {scope : Scope} (kind : scope.kind = .function) (h1 : ∀ y ∈ scope.names, y.2 ≠ .cell) (h2 : ∀ y ∈ scope.names, y.2 = .local → scope.names.lookup y.1 = some .local)
    (h3 : ∀ y ∈ scope.names, y.2 = .free → y.1 ∈ fr) (S : Slots X scope fr fm) : BlkScope X (own ++ fr) own.length fm scope :=
  ⟨kind, h1, h2, fun y hy hk => S.kind y.1 (h3 y hy hk), by rw [List.length_append, S.len], fun i x hi h => by
    rw [List.getElem?_append_right hi] at h
    exact S.get _ x h⟩
section
variable {X : Cx}
/-! ### rules that serve several kinds at once -/
end
/-! ### a comprehension, by what its turns keep -/
theorem comp_list {K : PySem.W.Frag} {a : Addr} {xs : List V} {g : TG} {tt : TT} {te : TE} {σ0 : St} {H : Hp} {D : Addr} {Q : VK} (hz : xs.length < sizeLine) (Pv : Nat → List V → Hp → Prop) (h0 : Pv 0 [] (upd H D (.lst [])))
    (hl : ∀ i ys H, i ≤ xs.length → Pv i ys H → SqL K H a xs ∧ H D = some (.lst ys) ∧ ys.length ≤ i)
    (hs : ∀ i x ys H, xs[i]? = some x → Pv i ys H → g x σ0 H fun σ3 H4 => Ext σ0 σ3 ∧ tt σ3 H4 fun b H5 => if b = true then te σ3 H5 fun y H6 => H6 D = some (.lst ys) ∧ Pv (i + 1) (ys ++ [y]) (upd H6 D (.lst (ys ++ [y]))) else Pv (i + 1) ys H5)
    (hd : ∀ ys H, Pv xs.length ys H → Q (.ref D) H) :
    ∃ W : Nat → Nat → List V → Hp → Prop, (∃ m, W 0 m [] (upd H D (.lst []))) ∧ ∀ i m ys H2, W i m ys H2 → H2 D = some (.lst ys) ∧ ys.length < sizeLine ∧ (((Itl K a).stop i H2 ∧ Q (.ref D) H2) ∨ ((Itl K a).go i H2 ∧ ∃ N : List V → Hp → Prop, (∀ ys' H', N ys' H' → ∃ m', m' < m ∧ W (i + 1) m' ys' H') ∧ ∀ x H3, (Itl K a).yld i H2 x H3 →
      g x σ0 H3 fun σ3 H4 => Ext σ0 σ3 ∧ tt σ3 H4 fun b H5 => if b = true then te σ3 H5 fun y H6 => H6 D = some (.lst ys) ∧ N (ys ++ [y]) (upd H6 D (.lst (ys ++ [y]))) else N ys H5)) := by
  refine ⟨fun i m ys H => m = xs.length - i ∧ i ≤ xs.length ∧ Pv i ys H, ⟨xs.length, by simp, Nat.zero_le _, h0⟩, ?_⟩
  rintro i m ys H2 ⟨rfl, hi, p⟩
  obtain ⟨l0, l1, l2⟩ := hl i ys H2 hi p
  refine ⟨l1, by omega, ?_⟩
  by_cases hlt : i < xs.length
  · refine .inr ⟨⟨xs, xs[i], l0, by simp [hlt]⟩, Pv (i + 1), fun ys' H' p' => ⟨_, (by omega : xs.length - (i + 1) < xs.length - i), rfl, hlt, p'⟩, fun x H3 y => ?_⟩
    obtain ⟨e, y⟩ := y
    subst e
    exact hs i x ys _ (y xs l0) p
  · have e : i = xs.length := by omega
    subst e
    exact .inl ⟨⟨xs, l0, Nat.le_refl _⟩, hd ys H2 p⟩
/-! ### the same, with what is walked reckoned first -/
noncomputable def ForW (g : TG) (tb : TS) (D : Ends) (σ : St) (J : It) (H1 : Hp) : Prop := ∃ W : Nat → Nat → St → Hp → Prop, (∃ m, W 0 m σ H1) ∧ ∀ i m σ H, W i m σ H →
  (J.stop i H ∧ D.nx σ H) ∨ (J.go i H ∧ ∃ N : St → Hp → Prop, (∀ σ' H', N σ' H' → ∃ m', m' < m ∧ W (i + 1) m' σ' H') ∧ ∀ x H', J.yld i H x H' → g x σ H' fun σ2 H2 => tb { D with nx := N, ct := N, bk := D.nx } σ2 H2)
noncomputable def ForL (K : PySem.W.Frag) (g : TG) (tb : TS) (D : Ends) (σ : St) : VK := fun x H1 => ∃ a, x = .ref a ∧ (∃ xs, SqL K H1 a xs) ∧ ForW g tb D σ (Itl K a) H1
noncomputable def ForT (K : PySem.W.Frag) (g : TG) (tb : TS) (D : Ends) (σ : St) : VK := fun x H1 => ∃ a, x = .ref a ∧ (∃ xs, SqT K H1 a xs) ∧ ForW g tb D σ (Itt K a) H1
noncomputable def ForS (g : TG) (tb : TS) (D : Ends) (σ : St) : VK := fun x H1 => ∃ z, x = .str z ∧ ForW g tb D σ (Its z) H1
noncomputable def ForR (g : TG) (tb : TS) (D : Ends) (σ : St) : List V → Hp → Prop := fun vs H1 => ∃ j : Int, vs = [.int j] ∧ -(2 ^ 62) ≤ j ∧ j < 2 ^ 62 ∧ ForW g tb D σ (Itr 0 j.toNat) H1
noncomputable def ForR2 (g : TG) (tb : TS) (D : Ends) (σ : St) : List V → Hp → Prop := fun vs H1 => ∃ i j : Int, vs = [.int i, .int j] ∧ (-(2 ^ 62) ≤ i ∧ i < 2 ^ 62 ∧ -(2 ^ 62) ≤ j ∧ j < 2 ^ 62) ∧ ForW g tb D σ (Itr i (j - i).toNat) H1
section
variable {K : PySem.W.Frag} {te : TE} {ta : TA} {g : TG} {tb : TS} {D : Ends} {σ : St} {H : Hp}
theorem tFor_list : tFor (iList K te) g tb D σ H = te σ H (ForL K g tb D σ) := rfl
theorem tFor_tup : tFor (iTup K te) g tb D σ H = te σ H (ForT K g tb D σ) := rfl
theorem tFor_str : tFor (iStr te) g tb D σ H = te σ H (ForS g tb D σ) := rfl
theorem tFor_rng1 : tFor (iRng1 ta) g tb D σ H = ta σ H (ForR g tb D σ) := rfl
theorem tFor_rng2 : tFor (iRng2 ta) g tb D σ H = ta σ H (ForR2 g tb D σ) := rfl
theorem ForL.of {a : Addr} {xs : List V} (Pv : Nat → St → Hp → Prop) (h0 : Pv 0 σ H) (hl : ∀ i σ H, i ≤ xs.length → Pv i σ H → SqL K H a xs)
    (hs : ∀ i x σ H, xs[i]? = some x → Pv i σ H → g x σ H fun σ2 H2 => tb { D with nx := Pv (i + 1), ct := Pv (i + 1), bk := D.nx } σ2 H2) (hd : ∀ σ H, Pv xs.length σ H → D.nx σ H) : ForL K g tb D σ (.ref a) H :=
  ⟨a, rfl, ⟨xs, hl 0 _ _ (Nat.zero_le _) h0⟩, for_list Pv h0 hl hs hd⟩
theorem ForR.of {n : Int} (h1 : n < 2 ^ 62) (h2 : -(2 ^ 62) ≤ n) (Pv : Nat → St → Hp → Prop) (h0 : Pv 0 σ H)
    (hs : ∀ i σ H, i < n.toNat → Pv i σ H → g (.int (i : Int)) σ H fun σ2 H2 => tb { D with nx := Pv (i + 1), ct := Pv (i + 1), bk := D.nx } σ2 H2) (hd : ∀ σ H, Pv n.toNat σ H → D.nx σ H) : ForR g tb D σ [.int n] H :=
  ⟨n, rfl, h2, h1, for_range (n := n.toNat) Pv h0 (fun i σ H hi p => by
    have e : (0 : Int) + (i : Int) = i := by omega
    rw [e]; exact hs i σ H hi p) hd⟩
end
noncomputable def CompW (g : TG) (tt : TT) (te : TE) (σ0 : St) (Q : VK) (J : It) (H1 : Hp) : Prop := ∀ DD, H1 DD = none → ∃ W : Nat → Nat → List V → Hp → Prop,
  (∃ m, W 0 m [] (upd H1 DD (.lst []))) ∧ ∀ i m ys H2, W i m ys H2 → H2 DD = some (.lst ys) ∧ ys.length < sizeLine ∧ ((J.stop i H2 ∧ Q (.ref DD) H2) ∨ (J.go i H2 ∧ ∃ N : List V → Hp → Prop, (∀ ys' H', N ys' H' → ∃ m', m' < m ∧ W (i + 1) m' ys' H') ∧ ∀ x H3, J.yld i H2 x H3 →
    g x σ0 H3 fun σ3 H4 => Ext σ0 σ3 ∧ tt σ3 H4 fun b H5 => if b = true then te σ3 H5 fun y H6 => H6 DD = some (.lst ys) ∧ N (ys ++ [y]) (upd H6 DD (.lst (ys ++ [y]))) else N ys H5))
noncomputable def CompL (K : PySem.W.Frag) (g : TG) (tt : TT) (te : TE) (σ0 : St) (Q : VK) : VK := fun x H1 => ∃ a, x = .ref a ∧ (∃ xs, SqL K H1 a xs) ∧ CompW g tt te σ0 Q (Itl K a) H1
noncomputable def CompT (K : PySem.W.Frag) (g : TG) (tt : TT) (te : TE) (σ0 : St) (Q : VK) : VK := fun x H1 => ∃ a, x = .ref a ∧ (∃ xs, SqT K H1 a xs) ∧ CompW g tt te σ0 Q (Itt K a) H1
noncomputable def CompS (g : TG) (tt : TT) (te : TE) (σ0 : St) (Q : VK) : VK := fun x H1 => ∃ z, x = .str z ∧ CompW g tt te σ0 Q (Its z) H1
noncomputable def CompR (g : TG) (tt : TT) (te : TE) (σ0 : St) (Q : VK) : List V → Hp → Prop := fun vs H1 => ∃ j : Int, vs = [.int j] ∧ -(2 ^ 62) ≤ j ∧ j < 2 ^ 62 ∧ CompW g tt te σ0 Q (Itr 0 j.toNat) H1
section
variable {K : PySem.W.Frag} {k : Nat} {fm : List Nat} {tl te : TE} {ta : TA} {g : TG} {tt : TT} {σ σ0 : St} {H H1 : Hp} {Q : VK}
theorem tComp_list : tComp k fm (iList K tl) g tt te σ H Q = tl σ H (CompL K g tt te (blkSt k fm σ) Q) := rfl
theorem tComp_tup : tComp k fm (iTup K tl) g tt te σ H Q = tl σ H (CompT K g tt te (blkSt k fm σ) Q) := rfl
theorem tComp_str : tComp k fm (iStr tl) g tt te σ H Q = tl σ H (CompS g tt te (blkSt k fm σ) Q) := rfl
theorem tComp_rng1 : tComp k fm (iRng1 ta) g tt te σ H Q = ta σ H (CompR g tt te (blkSt k fm σ) Q) := rfl
theorem CompL.of {a : Addr} {xs : List V} (hz : xs.length < sizeLine) (hx : SqL K H1 a xs) (Pv : Addr → Nat → List V → Hp → Prop) (h0 : ∀ D, H1 D = none → Pv D 0 [] (upd H1 D (.lst [])))
    (hl : ∀ D i ys H', H1 D = none → i ≤ xs.length → Pv D i ys H' → SqL K H' a xs ∧ H' D = some (.lst ys) ∧ ys.length ≤ i)
    (hs : ∀ D i x ys H', H1 D = none → xs[i]? = some x → Pv D i ys H' → g x σ0 H' fun σ3 H4 => Ext σ0 σ3 ∧ tt σ3 H4 fun b H5 => if b = true then te σ3 H5 fun y H6 => H6 D = some (.lst ys) ∧ Pv D (i + 1) (ys ++ [y]) (upd H6 D (.lst (ys ++ [y]))) else Pv D (i + 1) ys H5)
    (hd : ∀ D ys H', H1 D = none → Pv D xs.length ys H' → Q (.ref D) H') : CompL K g tt te σ0 Q (.ref a) H1 :=
  ⟨a, rfl, ⟨xs, hx⟩, fun D hD => comp_list hz (Pv D) (h0 D hD) (fun i ys H' => hl D i ys H' hD) (fun i x ys H' => hs D i x ys H' hD) fun ys H' => hd D ys H' hD⟩
end
end L2

namespace L2
open PySem PySem.Spec PyProof.Rows
/-! ### plain data, as trees -/
inductive D where
  | non | bl (b : Bool) | int (i : Int) | str (z : Str) | lst (xs : List D) | tup (xs : List D)
mutual
noncomputable def Rep (K : PySem.W.Frag) (H : Hp) : D → V → Prop
  | .non, v => v = .non
  | .bl b, v => v = .bl b
  | .int i, v => v = .int i
  | .str z, v => v = .str z
  | .lst ds, v => ∃ a xs, v = .ref a ∧ SqL K H a xs ∧ RepL K H ds xs
  | .tup ds, v => ∃ a xs, v = .ref a ∧ SqT K H a xs ∧ RepL K H ds xs
noncomputable def RepL (K : PySem.W.Frag) (H : Hp) : List D → List V → Prop
  | [], xs => xs = []
  | d :: ds, xs => ∃ y ys, xs = y :: ys ∧ Rep K H d y ∧ RepL K H ds ys
end
mutual
noncomputable def deq : D → D → Bool
  | .non, .non => true
  | .bl a, .bl b => a == b
  | .bl a, .int b => (if a then 1 else 0) == b
  | .int a, .bl b => a == (if b then 1 else 0)
  | .int a, .int b => a == b
  | .str a, .str b => a == b
  | .lst a, .lst b => deqL a b
  | .tup a, .tup b => deqL a b
  | _, _ => false
noncomputable def deqL : List D → List D → Bool
  | [], [] => true
  | a :: as, b :: bs => deq a b && deqL as bs
  | _, _ => false
end
mutual
noncomputable def dep : D → Nat
  | .lst ds => depL ds + 1
  | .tup ds => depL ds + 1
  | _ => 0
noncomputable def depL : List D → Nat
  | [] => 0
  | d :: ds => max (dep d) (depL ds)
end
mutual
theorem deq_refl : ∀ d : D, deq d d = true
  | .non => rfl
  | .bl a => by simp [deq]
  | .int a => by simp [deq]
  | .str a => by simp [deq]
  | .lst a => by simp only [deq]; exact deqL_refl a
  | .tup a => by simp only [deq]; exact deqL_refl a
theorem deqL_refl : ∀ ds : List D, deqL ds ds = true
  | [] => rfl
  | d :: ds => by simp only [deqL, deq_refl d, deqL_refl ds, Bool.and_self]
end
theorem RepL.len {K : PySem.W.Frag} {H : Hp} : ∀ {ds : List D} {xs : List V}, RepL K H ds xs → ds.length = xs.length
  | [], xs, h => by simp only [RepL] at h; subst h; rfl
  | d :: ds, xs, h => by
    simp only [RepL] at h
    obtain ⟨y, ys, rfl, _, r⟩ := h
    simp [r.len]
noncomputable def eAt (ds es : List D) (j : Nat) : Bool := match ds[j]?, es[j]? with
  | some d, some e => deq d e
  | _, _ => true
theorem eAt_all : ∀ (ds es : List D), ((List.range (min ds.length es.length)).all (eAt ds es) && ds.length == es.length) = deqL ds es
  | [], [] => by simp [deqL]
  | [], e :: es => by simp [deqL]
  | d :: ds, [] => by simp [deqL]
  | d :: ds, e :: es => by
    have ih := eAt_all ds es
    have h1 : min (d :: ds).length (e :: es).length = min ds.length es.length + 1 := by simp only [List.length_cons]; omega
    rw [h1, List.range_succ_eq_map, List.all_cons, List.all_map]
    have h2 : (eAt (d :: ds) (e :: es) ∘ Nat.succ) = eAt ds es := by funext j; simp [eAt]
    have h3 : eAt (d :: ds) (e :: es) 0 = deq d e := by simp [eAt]
    rw [h2, h3]
    simp only [deqL, ← ih, List.length_cons, Bool.and_assoc]
    congr 2
    simp
section
variable {X : Cx} {pins : List (Addr × Obj)} {σ : St} {H : Hp} {s : Shared}
mutual
theorem rep_inj (I : Inv X pins σ H s) : ∀ (d e : D) (x : V), Rep X.K H d x → Rep X.K H e x → d = e
  | d, e, x, hd, he => by
    cases d with
    | non =>
      simp only [Rep] at hd; subst hd
      cases e <;> simp only [Rep] at he <;> first | rfl | (obtain ⟨a, xs, z, _⟩ := he; cases z; done) | (cases he; done)
    | bl b =>
      simp only [Rep] at hd; subst hd
      cases e <;> simp only [Rep] at he <;> first | (obtain ⟨a, xs, z, _⟩ := he; cases z; done) | (cases he; rfl) | (cases he; done)
    | int b =>
      simp only [Rep] at hd; subst hd
      cases e <;> simp only [Rep] at he <;> first | (obtain ⟨a, xs, z, _⟩ := he; cases z; done) | (cases he; rfl) | (cases he; done)
    | str b =>
      simp only [Rep] at hd; subst hd
      cases e <;> simp only [Rep] at he <;> first | (obtain ⟨a, xs, z, _⟩ := he; cases z; done) | (cases he; rfl) | (cases he; done)
    | lst ds =>
      simp only [Rep] at hd
      obtain ⟨a, xs, rfl, hx, r⟩ := hd
      cases e with
      | lst es =>
        simp only [Rep] at he
        obtain ⟨a', xs', z, hx', r'⟩ := he
        cases z
        have := I.list_inj hx hx'
        subst this
        rw [repL_inj I ds es xs r r']
      | tup es =>
        simp only [Rep] at he
        obtain ⟨a', xs', z, hx', r'⟩ := he
        cases z
        exfalso
        obtain ⟨_, _, p, _⟩ := I.list hx
        obtain ⟨_, _, q, _⟩ := I.tuple hx'
        obtain ⟨o, n, e1, e2, _⟩ := p
        obtain ⟨o', e1', e2', _⟩ := q
        rw [e1] at e1'; cases e1'
        rw [e2] at e2'; exact absurd e2' (by decide)
      | _ => simp only [Rep] at he; cases he
    | tup ds =>
      simp only [Rep] at hd
      obtain ⟨a, xs, rfl, hx, r⟩ := hd
      cases e with
      | tup es =>
        simp only [Rep] at he
        obtain ⟨a', xs', z, hx', r'⟩ := he
        cases z
        have := I.tuple_inj hx hx'
        subst this
        rw [repL_inj I ds es xs r r']
      | lst es =>
        simp only [Rep] at he
        obtain ⟨a', xs', z, hx', r'⟩ := he
        cases z
        exfalso
        obtain ⟨_, _, p, _⟩ := I.list hx'
        obtain ⟨_, _, q, _⟩ := I.tuple hx
        obtain ⟨o, n, e1, e2, _⟩ := p
        obtain ⟨o', e1', e2', _⟩ := q
        rw [e1] at e1'; cases e1'
        rw [e2] at e2'; exact absurd e2' (by decide)
      | _ => simp only [Rep] at he; cases he
theorem repL_inj (I : Inv X pins σ H s) : ∀ (ds es : List D) (xs : List V), RepL X.K H ds xs → RepL X.K H es xs → ds = es
  | [], es, xs, hd, he => by
    simp only [RepL] at hd
    subst hd
    cases es with
    | nil => rfl
    | cons e es => simp only [RepL] at he; obtain ⟨y, ys, z, _⟩ := he; cases z
  | d :: ds, es, xs, hd, he => by
    simp only [RepL] at hd
    obtain ⟨y, ys, rfl, r, rs⟩ := hd
    cases es with
    | nil => simp only [RepL] at he; cases he
    | cons e es =>
      simp only [RepL] at he
      obtain ⟨y', ys', z, r', rs'⟩ := he
      cases z
      rw [rep_inj I d e y r r', repL_inj I ds es ys rs rs']
end
theorem isTuple_of {h : Heap} {a : Addr} {its : Array Value} (p : IsTup h a its) : h.IsTuple a its := by
  obtain ⟨o, e, c, n, d⟩ := p
  exact ⟨o, e, c, n, d⟩
mutual
theorem eq_deep (I : Inv X pins σ H s) : ∀ (d e : D) (x y : V) (u v : Value) (A : Around), A.units + dep d < cLine → Rep X.K H d x → Rep X.K H e y → RelV x u → RelV y v → SeqAt.EqAt A s u v (deq d e)
  | .non, e, x, y, u, v, A, hu, hd, he, rx, ry => by
    have hu : A.units < cLine := by omega
    simp only [Rep] at hd; subst hd; cases rx
    cases e <;> simp only [Rep] at he
    · subst he; cases ry; exact SeqAt.EqAt.same _
    · subst he; cases ry; exact SeqAt.EqAt.none_bool _
    · subst he; obtain ⟨t, rfl⟩ := ry; exact SeqAt.EqAt.none_int _ _
    · subst he; obtain ⟨t, rfl⟩ := ry; exact SeqAt.EqAt.none_str _ _
    · obtain ⟨a, xs, rfl, hx, _⟩ := he; cases ry; obtain ⟨_, _, p, _⟩ := I.list hx; exact SeqAt.EqAt.none_list p.isList hu
    · obtain ⟨a, xs, rfl, hx, _⟩ := he; cases ry; obtain ⟨_, _, p, _⟩ := I.tuple hx; exact SeqAt.EqAt.none_tuple (isTuple_of p) hu
  | .bl b, e, x, y, u, v, A, hu, hd, he, rx, ry => by
    have hu : A.units < cLine := by omega
    simp only [Rep] at hd; subst hd; cases rx
    cases e <;> simp only [Rep] at he
    · subst he; cases ry; exact SeqAt.EqAt.bool_none _
    · subst he; cases ry; exact SeqAt.EqAt.bool_bool _ _
    · subst he; obtain ⟨t, rfl⟩ := ry; exact SeqAt.EqAt.bool_int _ _ _
    · subst he; obtain ⟨t, rfl⟩ := ry; exact SeqAt.EqAt.bool_str _ _ _
    · obtain ⟨a, xs, rfl, hx, _⟩ := he; cases ry; obtain ⟨_, _, p, _⟩ := I.list hx; exact SeqAt.EqAt.bool_list _ p.isList hu
    · obtain ⟨a, xs, rfl, hx, _⟩ := he; cases ry; obtain ⟨_, _, p, _⟩ := I.tuple hx; exact SeqAt.EqAt.bool_tuple _ (isTuple_of p) hu
  | .int b, e, x, y, u, v, A, hu, hd, he, rx, ry => by
    have hu : A.units < cLine := by omega
    simp only [Rep] at hd; subst hd; obtain ⟨t0, rfl⟩ := rx
    cases e <;> simp only [Rep] at he
    · subst he; cases ry; exact SeqAt.EqAt.int_none _ _
    · subst he; cases ry; exact SeqAt.EqAt.int_bool _ _ _
    · subst he; obtain ⟨t, rfl⟩ := ry; exact SeqAt.EqAt.int_int _ _ _ _
    · subst he; obtain ⟨t, rfl⟩ := ry; exact SeqAt.EqAt.int_str _ _ _ _
    · obtain ⟨a, xs, rfl, hx, _⟩ := he; cases ry; obtain ⟨_, _, p, _⟩ := I.list hx; exact SeqAt.EqAt.int_list _ _ p.isList hu
    · obtain ⟨a, xs, rfl, hx, _⟩ := he; cases ry; obtain ⟨_, _, p, _⟩ := I.tuple hx; exact SeqAt.EqAt.int_tuple _ _ (isTuple_of p) hu
  | .str b, e, x, y, u, v, A, hu, hd, he, rx, ry => by
    have hu : A.units < cLine := by omega
    simp only [Rep] at hd; subst hd; obtain ⟨t0, rfl⟩ := rx
    cases e <;> simp only [Rep] at he
    · subst he; cases ry; exact SeqAt.EqAt.str_none _ _
    · subst he; cases ry; exact SeqAt.EqAt.str_bool _ _ _
    · subst he; obtain ⟨t, rfl⟩ := ry; exact SeqAt.EqAt.str_int _ _ _ _
    · subst he; obtain ⟨t, rfl⟩ := ry; exact SeqAt.EqAt.str_str _ _ _ _
    · obtain ⟨a, xs, rfl, hx, _⟩ := he; cases ry; obtain ⟨_, _, p, _⟩ := I.list hx; exact SeqAt.EqAt.str_list _ _ p.isList hu
    · obtain ⟨a, xs, rfl, hx, _⟩ := he; cases ry; obtain ⟨_, _, p, _⟩ := I.tuple hx; exact SeqAt.EqAt.str_tuple _ _ (isTuple_of p) hu
  | .lst ds, e, x, y, u, v, A, hu, hd, he, rx, ry => by
    have hu0 : A.units < cLine := by omega
    simp only [dep] at hu
    simp only [Rep] at hd; obtain ⟨a, xs, rfl, hx, r⟩ := hd; cases rx
    obtain ⟨its, rv, p, hz⟩ := I.list hx
    cases e <;> simp only [Rep] at he
    · subst he; cases ry; exact SeqAt.EqAt.list_none p.isList hu0
    · subst he; cases ry; exact SeqAt.EqAt.list_bool _ p.isList hu0
    · subst he; obtain ⟨t, rfl⟩ := ry; exact SeqAt.EqAt.list_int _ _ p.isList hu0
    · subst he; obtain ⟨t, rfl⟩ := ry; exact SeqAt.EqAt.list_str _ _ p.isList hu0
    · rename_i es
      obtain ⟨b, ys, rfl, hy, r'⟩ := he; cases ry
      obtain ⟨its', rv', p', hz'⟩ := I.list hy
      by_cases hab : a = b
      · subst hab
        have := I.list_inj hx hy
        subst this
        rw [repL_inj I ds es xs r r', deq_refl]
        exact SeqAt.EqAt.same _
      · have l1 := r.len
        have l2 := rv.length
        have l3 := r'.len
        have l4 := rv'.length
        have key := eAt_all ds es
        simp only [deq]
        rw [← key]
        by_cases hl : its.length = its'.length
        · have := SeqAt.EqAt.of_refs hab (SeqAt.RcAt.lists (e := eAt ds es) p.isList p'.isList (by simpa using hl) hu0 (fun j h1 h2 => by
            have q := eq_deepL I ds es xs ys its its' A.in1 (by show A.units + 1 + depL ds < cLine; omega) r r' rv rv' j (by simpa using h1) (by simpa using h2)
            simpa using q))
          have e1 : its.toArray.size = min ds.length es.length := by rw [List.size_toArray]; omega
          rw [e1] at this
          have e2 : (ds.length == es.length) = true := by simp; omega
          rw [e2, Bool.and_true]
          exact this
        · have e2 : (ds.length == es.length) = false := by simp; omega
          rw [e2, Bool.and_false]
          exact SeqAt.EqAt.of_refs hab (SeqAt.RcAt.lists_lengths p.isList p'.isList (by simpa using hl) hu0)
    · obtain ⟨b, ys, rfl, hy, r'⟩ := he; cases ry
      obtain ⟨_, _, q, _⟩ := I.tuple hy
      exact SeqAt.EqAt.list_tuple p.isList (isTuple_of q) hu0
  | .tup ds, e, x, y, u, v, A, hu, hd, he, rx, ry => by
    have hu0 : A.units < cLine := by omega
    simp only [dep] at hu
    simp only [Rep] at hd; obtain ⟨a, xs, rfl, hx, r⟩ := hd; cases rx
    obtain ⟨its, rv, p, hz⟩ := I.tuple hx
    cases e <;> simp only [Rep] at he
    · subst he; cases ry; exact SeqAt.EqAt.tuple_none (isTuple_of p) hu0
    · subst he; cases ry; exact SeqAt.EqAt.tuple_bool _ (isTuple_of p) hu0
    · subst he; obtain ⟨t, rfl⟩ := ry; exact SeqAt.EqAt.tuple_int _ _ (isTuple_of p) hu0
    · subst he; obtain ⟨t, rfl⟩ := ry; exact SeqAt.EqAt.tuple_str _ _ (isTuple_of p) hu0
    · obtain ⟨b, ys, rfl, hy, r'⟩ := he; cases ry
      obtain ⟨_, _, q, _⟩ := I.list hy
      exact SeqAt.EqAt.tuple_list (isTuple_of p) q.isList hu0
    · rename_i es
      obtain ⟨b, ys, rfl, hy, r'⟩ := he; cases ry
      obtain ⟨its', rv', p', hz'⟩ := I.tuple hy
      by_cases hab : a = b
      · subst hab
        have := I.tuple_inj hx hy
        subst this
        rw [repL_inj I ds es xs r r', deq_refl]
        exact SeqAt.EqAt.same _
      · have l1 := r.len
        have l2 := rv.length
        have l3 := r'.len
        have l4 := rv'.length
        have key := eAt_all ds es
        simp only [deq]
        rw [← key]
        have := SeqAt.EqAt.of_refs hab (SeqAt.RcAt.tuples (e := eAt ds es) (isTuple_of p) (isTuple_of p') hu0 (fun j h1 h2 => by
            have q := eq_deepL I ds es xs ys its its' A.in1 (by show A.units + 1 + depL ds < cLine; omega) r r' rv rv' j (by simpa using h1) (by simpa using h2)
            simpa using q))
        have e1 : its.toArray.size = ds.length := by rw [List.size_toArray]; omega
        have e2 : its'.toArray.size = es.length := by rw [List.size_toArray]; omega
        rw [e1, e2] at this
        exact this
theorem eq_deepL (I : Inv X pins σ H s) : ∀ (ds es : List D) (xs ys : List V) (us vs : List Value) (A : Around), A.units + depL ds < cLine → RepL X.K H ds xs → RepL X.K H es ys → Vals xs us → Vals ys vs →
    ∀ (j : Nat) (h1 : j < us.length) (h2 : j < vs.length), SeqAt.EqAt A s us[j] vs[j] (eAt ds es j)
  | [], es, xs, ys, us, vs, A, hu, hd, he, rx, ry, j, h1, h2 => by
    simp only [RepL] at hd
    subst hd
    cases rx
    exact absurd h1 (by simp)
  | d :: ds, es, xs, ys, us, vs, A, hu, hd, he, rx, ry, j, h1, h2 => by
    simp only [depL] at hu
    simp only [RepL] at hd
    obtain ⟨x, xs', rfl, rd, rds⟩ := hd
    cases rx with
    | cons r0 rr =>
      cases es with
      | nil =>
        simp only [RepL] at he
        subst he
        cases ry
        exact absurd h2 (by simp)
      | cons e es =>
        simp only [RepL] at he
        obtain ⟨y, ys', rfl, re, res⟩ := he
        cases ry with
        | cons q0 qr =>
          cases j with
          | zero =>
            have : eAt (d :: ds) (e :: es) 0 = deq d e := by simp [eAt]
            rw [this]
            exact eq_deep I d e x y _ _ A (by omega) rd re r0 q0
          | succ j =>
            have : eAt (d :: ds) (e :: es) (j + 1) = eAt ds es j := by simp [eAt]
            rw [this]
            exact eq_deepL I ds es xs' ys' _ _ A (by omega) rds res rr qr j (by simpa using h1) (by simpa using h2)
end
noncomputable def rEqD (K : PySem.W.Frag) : R2 := fun x y H Q => ∃ ds es, ((Rep K H (.lst ds) x ∧ Rep K H (.lst es) y) ∨ (Rep K H (.tup ds) x ∧ Rep K H (.tup es) y)) ∧ depL ds ≤ 20 ∧ Q (.bl (deqL ds es)) H
theorem op_eqD (hu : X.A.units + 64 < cLine) : OpR X (compareOp .Eq) (rEqD X.K) := by
  intro pins s σ H x y v u Q I rx ry h
  obtain ⟨ds, es, h, hdep, q⟩ := h
  have hu0 : X.A.units < cLine := by omega
  have hin : X.A.in1.units + depL ds < cLine := by show X.A.units + 1 + depL ds < cLine; omega
  have key := eAt_all ds es
  rcases h with ⟨h1, h2⟩ | ⟨h1, h2⟩
  · simp only [Rep] at h1 h2
    obtain ⟨a, xs, rfl, hx, r⟩ := h1
    obtain ⟨b, ys, rfl, hy, r'⟩ := h2
    cases rx
    cases ry
    obtain ⟨its, rv, p, hz⟩ := I.list hx
    obtain ⟨its', rv', p', hz'⟩ := I.list hy
    have l1 := r.len
    have l2 := rv.length
    have l3 := r'.len
    have l4 := rv'.length
    by_cases hl : its.length = its'.length
    · refine SeqAt.eq_listAt (e := eAt ds es) p.isList p'.isList (by simpa using hl) hu0 (fun j h1 h2 => ?_) ?_
      · have q := eq_deepL I ds es xs ys its its' X.A.in1 hin r r' rv rv' j (by simpa using h1) (by simpa using h2)
        simpa using q
      · have e1 : its.toArray.size = min ds.length es.length := by rw [List.size_toArray]; omega
        have e2 : (ds.length == es.length) = true := by simp; omega
        rw [e2, Bool.and_true] at key
        rw [e1, key]
        exact ⟨.bl (deqL ds es), H, I, rfl, q⟩
    · have e2 : (ds.length == es.length) = false := by simp; omega
      rw [e2, Bool.and_false] at key
      rw [← key] at q
      exact SeqAt.eq_list_lengthsAt p.isList p'.isList (by simpa using hl) hu0 ⟨.bl false, H, I, rfl, q⟩
  · simp only [Rep] at h1 h2
    obtain ⟨a, xs, rfl, hx, r⟩ := h1
    obtain ⟨b, ys, rfl, hy, r'⟩ := h2
    cases rx
    cases ry
    obtain ⟨its, rv, p, hz⟩ := I.tuple hx
    obtain ⟨its', rv', p', hz'⟩ := I.tuple hy
    have l1 := r.len
    have l2 := rv.length
    have l3 := r'.len
    have l4 := rv'.length
    refine SeqAt.eq_tupleAt (e := eAt ds es) (isTuple_of p) (isTuple_of p') hu0 (fun j h1 h2 => ?_) ?_
    · have q := eq_deepL I ds es xs ys its its' X.A.in1 hin r r' rv rv' j (by simpa using h1) (by simpa using h2)
      simpa using q
    · have e1 : its.toArray.size = ds.length := by rw [List.size_toArray]; omega
      have e2 : its'.toArray.size = es.length := by rw [List.size_toArray]; omega
      rw [e1, e2, key]
      exact ⟨.bl (deqL ds es), H, I, rfl, q⟩
noncomputable def rNeD (K : PySem.W.Frag) : R2 := fun x y H Q => ∃ ds es, ((Rep K H (.lst ds) x ∧ Rep K H (.lst es) y) ∨ (Rep K H (.tup ds) x ∧ Rep K H (.tup es) y)) ∧ depL ds ≤ 20 ∧ Q (.bl (!deqL ds es)) H
theorem op_neD (hu : X.A.units + 64 < cLine) : OpR X (compareOp .NotEq) (rNeD X.K) := by
  intro pins s σ H x y v u Q I rx ry h
  obtain ⟨ds, es, h, hdep, q⟩ := h
  have hu0 : X.A.units < cLine := by omega
  have hin : X.A.in1.units + depL ds < cLine := by show X.A.units + 1 + depL ds < cLine; omega
  have key := eAt_all ds es
  rcases h with ⟨h1, h2⟩ | ⟨h1, h2⟩
  · simp only [Rep] at h1 h2
    obtain ⟨a, xs, rfl, hx, r⟩ := h1
    obtain ⟨b, ys, rfl, hy, r'⟩ := h2
    cases rx
    cases ry
    obtain ⟨its, rv, p, hz⟩ := I.list hx
    obtain ⟨its', rv', p', hz'⟩ := I.list hy
    have l1 := r.len
    have l2 := rv.length
    have l3 := r'.len
    have l4 := rv'.length
    by_cases hl : its.length = its'.length
    · refine SeqAt.RcNeAt.lists (e := eAt ds es) p.isList p'.isList (by simpa using hl) hu0 (fun j h1 h2 => ?_) X.prog X.w X.xe _ ?_
      · have q := eq_deepL I ds es xs ys its its' X.A.in1 hin r r' rv rv' j (by simpa using h1) (by simpa using h2)
        simpa using q
      · have e1 : its.toArray.size = min ds.length es.length := by rw [List.size_toArray]; omega
        have e2 : (ds.length == es.length) = true := by simp; omega
        rw [e2, Bool.and_true] at key
        rw [e1, key]
        exact ⟨.bl (!deqL ds es), H, I, rfl, q⟩
    · have e2 : (ds.length == es.length) = false := by simp; omega
      rw [e2, Bool.and_false] at key
      rw [← key] at q
      exact SeqAt.RcNeAt.lists_lengths p.isList p'.isList (by simpa using hl) hu0 X.prog X.w X.xe _ ⟨.bl true, H, I, rfl, q⟩
  · simp only [Rep] at h1 h2
    obtain ⟨a, xs, rfl, hx, r⟩ := h1
    obtain ⟨b, ys, rfl, hy, r'⟩ := h2
    cases rx
    cases ry
    obtain ⟨its, rv, p, hz⟩ := I.tuple hx
    obtain ⟨its', rv', p', hz'⟩ := I.tuple hy
    have l1 := r.len
    have l2 := rv.length
    have l3 := r'.len
    have l4 := rv'.length
    refine SeqAt.RcNeAt.tuples (e := eAt ds es) (isTuple_of p) (isTuple_of p') hu0 (fun j h1 h2 => ?_) X.prog X.w X.xe _ ?_
    · have q := eq_deepL I ds es xs ys its its' X.A.in1 hin r r' rv rv' j (by simpa using h1) (by simpa using h2)
      simpa using q
    · have e1 : its.toArray.size = ds.length := by rw [List.size_toArray]; omega
      have e2 : its'.toArray.size = es.length := by rw [List.size_toArray]; omega
      rw [e1, e2, key]
      exact ⟨.bl (!deqL ds es), H, I, rfl, q⟩
theorem RepL.ints {K : PySem.W.Frag} {H : Hp} : ∀ ns : List Int, RepL K H (ns.map D.int) (ns.map V.int)
  | [] => by simp only [List.map_nil, RepL]
  | n :: ns => by simp only [List.map_cons, RepL]; exact ⟨_, _, rfl, by simp only [Rep], RepL.ints ns⟩
end
/-! ### the same rules with the written part named -/
section
variable {X : Cx} {K : PySem.W.Frag}
theorem ix_listK (e : X.K = K) : IxR X (rIxL K) := e ▸ ix_list
theorem ix_tupK (e : X.K = K) : IxR X (rIxT K) := e ▸ ix_tup
theorem sl_listK (e : X.K = K) : SlR X (rSlL K) := e ▸ sl_list
theorem sl_tupK (e : X.K = K) : SlR X (rSlT K) := e ▸ sl_tup
theorem op_catSK (e : X.K = K) : OpR X (binaryOp .Add) (rCatS K) := e ▸ op_catS
theorem op_catTK (e : X.K = K) : OpR X (binaryOp .Add) (rCatT K) := e ▸ op_catT
theorem op_eqDK (hu : X.A.units + 64 < cLine) (e : X.K = K) : OpR X (compareOp .Eq) (rEqD K) := e ▸ op_eqD hu
theorem op_neDK (hu : X.A.units + 64 < cLine) (e : X.K = K) : OpR X (compareOp .NotEq) (rNeD K) := e ▸ op_neD hu
theorem call_lenK (e : X.K = K) : CallR X (.builtin "len") (fun xs H Q => ∃ x n, xs = [x] ∧ LenV K x H n ∧ Q (.int n) H) := e ▸ call_len
theorem call_isiK (e : X.K = K) : CallR X (.builtin "isinstance") (rIsi K) := e ▸ call_isi
theorem call_list_ofK (e : X.K = K) : CallR X (.type "list") (fun xs H Q => ∃ p ys, xs = [.ref p] ∧ (SqL K H p ys ∨ SqT K H p ys) ∧ ∀ l, H l = none → Q (.ref l) (upd H l (.lst ys))) := e ▸ call_list_of
theorem pi_listK {tg l : Expr} {tl : TE} (e : X.K = K) (hl : PE X l tl) : PI X tg l (iList K tl) := e ▸ pi_list hl
theorem pg_tupK {es : List Expr} {k : Nat} {t : TGs} {n : Nat} {pos : Pos} (e : X.K = K) (hc : X.calm = true) (h : PGs X es t)
    (hn : (assignEach es X.env).length = n := by rfl) (hst : (assignEach es X.env).findIdx? (·.1) = none := by rfl) : PG X (.Tuple es k pos) (gTup K n t) := e ▸ pg_tup hc h hn hst
end
end L2

namespace L2
open PySem PySem.Spec PyProof.Rows
section
variable {X : Cx}
noncomputable def rStarts : V → List V → Hp → VK → Prop := fun x vs H Q => ∃ z y, x = .str z ∧ vs = [.str y] ∧ Q (.bl (Txt.startswith z y)) H
noncomputable def rIndex : V → List V → Hp → VK → Prop := fun x vs H Q => ∃ z y i, x = .str z ∧ vs = [.str y] ∧ (∃ rest, Builtin.Str.occurrences z y 0 z.length 1 = i :: rest) ∧ Q (.int (i : Nat)) H
end
end L2

namespace L2
open PySem PySem.Spec PyProof.Rows
/-! ### an exception on its way: its object at e, the head of its traces at T -/
noncomputable def ExcIs (h : Heap) (e : Addr) (cls : Value) (dx : Option Addr) (fl : Value) (T : Addr) : Prop :=
  ∃ oe vs oT ts, h.get? e = some oe ∧ oe.cls = cls ∧ oe.dict = dx ∧ oe.data = .fields vs ∧ vs[1]? = some (.ref T) ∧ T ≠ e ∧ h.get? T = some oT ∧ oT.data = .fields ts ∧ ts[3]? = some fl
set_option genInjectivity false in
structure LeftX (fs : List Addr) (e T0 : Addr) (cls : Value) (dx : Option Addr) (fl : Value) (h h' : Heap) : Prop where
  keep : ∀ b o, b ∉ fs → b ≠ e → b ≠ T0 → h.get? b = some o → h'.get? b = some o
  slot : ∀ b o, b ∈ fs → b ≠ e → b ≠ T0 → h.get? b = some o → ∃ sl, h'.get? b = some { o with slots := sl }
  there : ∀ b o, h.get? b = some o → ∃ o', h'.get? b = some o'
  exc : ∃ T, h.objs.size ≤ T ∧ ExcIs h' e cls dx fl T
section
variable {M : Model} {A : Around} {E : Value → Shared → Prop} {s : Shared}
theorem cls_dict_mapFields (f : Array Value → Array Value) (o : Obj) : (Obj.mapFields f o).dict = o.dict := by
  obtain ⟨c, d, da, sl⟩ := o
  cases da <;> rfl
theorem newEntryX {base : Heap} {env : Env} {outer : List Env} {L e T0 : Addr} {oe : Obj} {vs : Array Value} {head : Value} {hadNext : Bool} {Q : Unit → Shared → Prop}
    (hfr : A.frames = some (env :: outer)) (hl : s.heap.FunFrames base (env :: outer)) (hf : env.frame = some L)
    (he : s.heap.get? e = some oe) (hd : oe.data = .fields vs) (hsz : 1 < vs.size)
    (h : ∀ h', LeftX (frs (env :: outer)) e T0 oe.cls oe.dict (rawInt L) s.heap h' → Q () { s with heap := h' }) :
    wpAny M A (do let a ← frameOf env; let pl ← entryPlaceOf L hadNext; let b ← EntryCells.newEntry head a .none (rawInt L) .none pl; setField (.ref e) 1 b) Q E s := by
  have hene : e ∉ (env :: outer).filterMap (·.frame) := fun hm => by
    obtain ⟨_, o, ho, hnf⟩ := hl.mem hm
    rw [he] at ho; injection ho with ho; subst ho; exact hnf vs hd
  refine wpAny_bind (wpAny_frameOf_fun hfr hl hf fun h₁ hs₁ => ?_)
  refine wpAny_bind (wpAny_entryPlaceOf fun pl hpl => ?_)
  unfold EntryCells.newEntry newFields
  refine wpAny_bind (wpAny_newObj_type ?_ (hpl.sizeOk5 _ _ _ _ _))
  have he₁ : h₁.get? e = some oe := (hs₁.2.1 e hene).trans he
  have he₂ := Heap.get?_push_of_some (h := h₁) { cls := .type "traceback", dict := none, data := .fields ([head, .ref L, .none, rawInt L, .none] ++ (if pl.isEmpty then List.replicate 6 Value.none else pl)).toArray } he₁
  refine wpAny_setField he₂ hd hsz (h _ ?_)
  have hTe : h₁.objs.size ≠ e := Nat.ne_of_gt (Heap.lt_size he₁)
  have hd₃ := Obj.data_mapFields hd (·.setIfInBounds 1 (Value.ref h₁.objs.size))
  have he₃ := Heap.get?_update_self (Obj.mapFields (·.setIfInBounds 1 (Value.ref h₁.objs.size))) he₂ (Obj.isFreed_of_fields hd₃)
  have hT₃ := (Heap.get?_update_other (h₁.push { cls := .type "traceback", dict := none, data := .fields ([head, .ref L, .none, rawInt L, .none] ++ (if pl.isEmpty then List.replicate 6 Value.none else pl)).toArray })
    (Obj.mapFields (·.setIfInBounds 1 (Value.ref h₁.objs.size))) (Ne.symm hTe)).trans (Heap.get?_push_size h₁ rfl)
  have keep : ∀ b o, b ≠ e → h₁.get? b = some o →
      ((h₁.push { cls := .type "traceback", dict := none, data := .fields ([head, .ref L, .none, rawInt L, .none] ++ (if pl.isEmpty then List.replicate 6 Value.none else pl)).toArray }).update e (Obj.mapFields (·.setIfInBounds 1 (Value.ref h₁.objs.size)))).get? b = some o :=
    fun b o hbe hb => by
      rw [Heap.get?_update_other _ _ (Ne.symm hbe)]
      exact Heap.get?_push_of_some _ hb
  have new : s.heap.objs.size ≤ h₁.objs.size := Nat.le_of_eq hs₁.1.symm
  refine ⟨fun b o hb hbe _ hbo => keep b o hbe ((hs₁.2.1 b hb).trans hbo), fun b o _ hbe _ hbo => ?_, fun b o hbo => ?_, h₁.objs.size, new, _, _, _, _, he₃, Obj.cls_mapFields _ _, cls_dict_mapFields _ _, hd₃, by simp [hsz], hTe, hT₃, rfl, ?_⟩
  · obtain ⟨sl, hs⟩ := hs₁.2.2 b o hbo
    exact ⟨sl, keep b _ hbe hs⟩
  · by_cases hbe : b = e
    · subst hbe; exact ⟨_, he₃⟩
    · obtain ⟨sl, hs⟩ := hs₁.2.2 b o hbo
      exact ⟨_, keep b _ hbe hs⟩
  · first | (simp; done) | (rcases hpl with rfl | ⟨_, _, _, _, _, _, _, rfl⟩ <;> simp)
noncomputable def ExcNew (h : Heap) (e : Addr) (cls : Value) (dx : Option Addr) : Prop := ∃ oe vs, h.get? e = some oe ∧ oe.cls = cls ∧ oe.dict = dx ∧ oe.data = .fields vs ∧ vs[1]? = some .none
theorem note_new {base : Heap} {env : Env} {outer : List Env} {L e : Addr} {cls : Value} {dx : Option Addr} {Q : Unit → Shared → Prop}
    (hfr : A.frames = some (env :: outer)) (hl : s.heap.FunFrames base (env :: outer)) (hf : env.frame = some L) (hx : ExcNew s.heap e cls dx)
    (h : ∀ h', LeftX (frs (env :: outer)) e e cls dx (rawInt L) s.heap h' → Q () { s with heap := h' }) : wpAny M A (noteFrame (.ref e) env) Q E s := by
  obtain ⟨oe, vs, he, hc, hdx, hd, h1⟩ := hx
  subst hc hdx
  unfold noteFrame
  simp only [hf]
  refine wpAny_bind (wpAny_field he hd h1 ?_)
  rw [if_neg (by decide)]
  exact newEntryX hfr hl hf he hd (Array.getElem?_eq_some_iff.mp h1).1 h
theorem note_next {base : Heap} {env : Env} {outer : List Env} {L e T : Addr} {cls : Value} {dx : Option Addr} {Q : Unit → Shared → Prop}
    (hfr : A.frames = some (env :: outer)) (hl : s.heap.FunFrames base (env :: outer)) (hf : env.frame = some L) (hx : ExcIs s.heap e cls dx .none T)
    (h : ∀ h', LeftX (frs (env :: outer)) e T cls dx (rawInt L) s.heap h' → Q () { s with heap := h' }) : wpAny M A (noteFrame (.ref e) env) Q E s := by
  obtain ⟨oe, vs, oT, ts, he, hc, hdx, hd, h1, hTe, hT, hdT, h3⟩ := hx
  subst hc hdx
  unfold noteFrame
  simp only [hf]
  refine wpAny_bind (wpAny_field he hd h1 ?_)
  rw [if_pos (show (Value.ref T != Value.none) = true from by simp)]
  refine wpAny_bind (wpAny_field hT hdT h3 ?_)
  rw [if_neg (show ¬ ((Value.none == rawInt L) = true) from by simp [rawInt])]
  refine wpAny_bind (wpAny_setField hT hdT (Array.getElem?_eq_some_iff.mp h3).1 ?_)
  have other : ∀ b, b ≠ T → (s.heap.update T (Obj.mapFields (·.setIfInBounds 3 Value.none))).get? b = s.heap.get? b := fun b hb => Heap.get?_update_other _ _ (Ne.symm hb)
  have noRecord : ∀ b o, s.heap.get? b = some o → (∀ vs, o.data ≠ .fields vs) → b ≠ T := fun b o hb hnf q => by
    rw [q, hT] at hb; injection hb with hb; subst hb; exact hnf ts hdT
  have hT' := Heap.get?_update_self (Obj.mapFields (·.setIfInBounds 3 Value.none)) hT (Obj.isFreed_of_fields (Obj.data_mapFields hdT _))
  refine newEntryX (T0 := T) hfr (hl.of_keeps fun b o hb hnf => ⟨o, (other b (noRecord b o hb hnf)).trans hb, rfl⟩) hf ((other e (Ne.symm hTe)).trans he) hd (Array.getElem?_eq_some_iff.mp h1).1 fun h' x => h h' ?_
  refine ⟨fun b o hb hbe hbT hbo => x.keep b o hb hbe hbT ((other b hbT).trans hbo), fun b o hb hbe hbT hbo => x.slot b o hb hbe hbT ((other b hbT).trans hbo), fun b o hbo => ?_, ?_⟩
  · by_cases hb : b = T
    · subst hb; exact x.there b _ hT'
    · exact x.there b o ((other b hb).trans hbo)
  · obtain ⟨T', hn, y⟩ := x.exc
    exact ⟨T', by rw [Heap.size_update] at hn; exact hn, y⟩
theorem flight_off {e T : Addr} {cls : Value} {dx : Option Addr} {fl : Value} {Q : Unit → Shared → Prop} (hx : ExcIs s.heap e cls dx fl T)
    (h : ∀ h', (∀ b o, b ≠ T → s.heap.get? b = some o → h'.get? b = some o) → (∃ o, h'.get? T = some o) → ExcIs h' e cls dx .none T → Q () { s with heap := h' }) : wpAny M A (setFlight (.ref e) none) Q E s := by
  obtain ⟨oe, vs, oT, ts, he, hc, hdx, hd, h1, hTe, hT, hdT, h3⟩ := hx
  unfold setFlight
  refine wpAny_bind (wpAny_field he hd h1 ?_)
  rw [if_pos (show (Value.ref T != Value.none) = true from by simp)]
  have hs := (Array.getElem?_eq_some_iff.mp h3).1
  refine wpAny_setField hT hdT hs (h _ (fun b o hb hbo => ?_) ?_ ?_)
  · rw [Heap.get?_update_other _ _ (Ne.symm hb)]; exact hbo
  · exact ⟨_, Heap.get?_update_self _ hT (Obj.isFreed_of_fields (Obj.data_mapFields hdT _))⟩
  · refine ⟨oe, vs, _, _, ?_, hc, hdx, hd, h1, hTe, Heap.get?_update_self _ hT (Obj.isFreed_of_fields (Obj.data_mapFields hdT _)), Obj.data_mapFields hdT _, ?_⟩
    · rw [Heap.get?_update_other _ _ hTe]; exact he
    · simp [hs]
theorem LeftX.off {fs : List Addr} {e T0 T : Addr} {cls : Value} {dx : Option Addr} {fl : Value} {h h1 h2 : Heap} (x : LeftX fs e T0 cls dx fl h h1) (hT : h.objs.size ≤ T) (k : ∀ b o, b ≠ T → h1.get? b = some o → h2.get? b = some o)
    (hT2 : ∃ o, h2.get? T = some o) (y : ExcIs h2 e cls dx .none T) : LeftX fs e T0 cls dx .none h h2 := by
  have ne : ∀ b o, h.get? b = some o → b ≠ T := fun b o e z => by
    have := Heap.lt_size e
    rw [z] at this
    exact absurd (Nat.lt_of_lt_of_le this hT) (Nat.lt_irrefl _)
  refine ⟨fun b o hb hbe hb0 hbo => k b o (ne b o hbo) (x.keep b o hb hbe hb0 hbo), fun b o hb hbe hb0 hbo => ?_, fun b o hbo => ?_, T, hT, y⟩
  · obtain ⟨sl, q⟩ := x.slot b o hb hbe hb0 hbo
    exact ⟨sl, k b _ (ne b o hbo) q⟩
  · obtain ⟨o', q⟩ := x.there b o hbo
    exact ⟨o', k b _ (ne b o hbo) q⟩
theorem leave_new {base : Heap} {env : Env} {outer : List Env} {L e : Addr} {cls : Value} {dx : Option Addr} {Q : Unit → Shared → Prop}
    (hfr : A.frames = some (env :: outer)) (hl : s.heap.FunFrames base (env :: outer)) (hf : env.frame = some L) (hx : ExcNew s.heap e cls dx)
    (h : ∀ h', LeftX (frs (env :: outer)) e e cls dx .none s.heap h' → Q () { s with heap := h' }) : wpAny M A (leaving env (.ref e)) Q E s := by
  unfold leaving
  refine wpAny_bind (note_new hfr hl hf hx fun h1 x => ?_)
  obtain ⟨T, hT, y⟩ := x.exc
  exact flight_off (s := { s with heap := h1 }) y fun h2 k hT2 z => h h2 (x.off hT k hT2 z)
theorem leave_next {base : Heap} {env : Env} {outer : List Env} {L e T0 : Addr} {cls : Value} {dx : Option Addr} {Q : Unit → Shared → Prop}
    (hfr : A.frames = some (env :: outer)) (hl : s.heap.FunFrames base (env :: outer)) (hf : env.frame = some L) (hx : ExcIs s.heap e cls dx .none T0)
    (h : ∀ h', LeftX (frs (env :: outer)) e T0 cls dx .none s.heap h' → Q () { s with heap := h' }) : wpAny M A (leaving env (.ref e)) Q E s := by
  unfold leaving
  refine wpAny_bind (note_next hfr hl hf hx fun h1 x => ?_)
  obtain ⟨T, hT, y⟩ := x.exc
  exact flight_off (s := { s with heap := h1 }) y fun h2 k hT2 z => h h2 (x.off hT k hT2 z)
end
/-! ### how an exception lies behind a call -/
noncomputable def CXE (P : Program) (w : World) : CXT := fun outer H s E e s' => ∃ (a T : Addr) (cls : Value) (dx : Option Addr) (H' : Hp), e = .ref a ∧ s'.os = s.os ∧ AllBare s'.gens ∧ Un (frs outer) [] H H' s.heap s'.heap ∧ HOk P w H' s'.heap ∧
  s.heap.get? a = none ∧ s.heap.get? T = none ∧ H' a = none ∧ H' T = none ∧ ExcIs s'.heap a cls dx .none T ∧ E cls dx H'
noncomputable def ExcAt (X : Cx) (H : Hp) (h : Heap) (a : Addr) (cls : Value) (dx : Option Addr) : Prop :=
  X.s₀.heap.get? a = none ∧ H a = none ∧ (ExcNew h a cls dx ∨ ∃ T, X.s₀.heap.get? T = none ∧ H T = none ∧ ExcIs h a cls dx .none T)
noncomputable def Xe (X : Cx) (E : XK) : Prop := ∀ (pins : List (Addr × Obj)) (σ : St) (H : Hp) (s : Shared) (a : Addr) (cls : Value) (dx : Option Addr), Inv X pins σ H s → ExcAt X H s.heap a cls dx → E cls dx H → X.xe (.ref a) s
theorem HOk.tracked {P : Program} {w : World} {H : Hp} {h h' : Heap} (ok : HOk P w H h) (k : ∀ b o u, H b = some u → h.get? b = some o → h'.get? b = some o) : HOk P w H h' := fun a o e =>
  (ok a o e).stay (fun b u hb q => by
    rcases hb with z | z
    · subst z; exact k b u o e q
    · exact k b u _ z q) (fun _ q => q) fun _ _ q => q
theorem Un.left {X : Cx} {pins : List (Addr × Obj)} {σ : St} {H : Hp} {s : Shared} {a T0 : Addr} {cls : Value} {dx : Option Addr} {h' : Heap} (I : Inv X pins σ H s) (hex : X.ex = []) (hst : X.stack = X.env :: X.outer) (hfr : X.env.frame = some X.env.locals)
    (ha : X.s₀.heap.get? a = none) (hT : X.s₀.heap.get? T0 = none) (x : LeftX (frs (X.env :: X.outer)) a T0 cls dx .none s.heap h') : Un X.fs [] X.H₀ H X.s₀.heap h' := by
  have hfs : frs (X.env :: X.outer) = X.env.locals :: X.fs := by simp [frs, hfr]
  have nl : ∀ b o, X.s₀.heap.get? b = some o → b ≠ X.env.locals := fun b o e z => by
    have := Heap.lt_size e
    rw [z] at this
    exact absurd (Nat.lt_of_lt_of_le this I.ok.above) (Nat.lt_irrefl _)
  have na : ∀ b o, X.s₀.heap.get? b = some o → b ≠ a := fun b o e z => by rw [z, ha] at e; cases e
  have nT : ∀ b o, X.s₀.heap.get? b = some o → b ≠ T0 := fun b o e z => by rw [z, hT] at e; cases e
  have nx : ∀ b : Addr, b ∉ X.ex := fun b => by rw [hex]; simp
  have B := I.base
  have nfs : ∀ b o, X.s₀.heap.get? b = some o → b ∉ X.fs → b ∉ frs (X.env :: X.outer) := fun b o e hb z => by
    rw [hfs] at z
    rcases List.mem_cons.mp z with q | q
    · exact nl b o e q
    · exact hb q
  refine ⟨fun b o e n hb _ => x.keep b o (nfs b o e hb) (na b o e) (nT b o e) (B.keep b o e n hb (nx b)), fun b o e n hb _ => ?_, fun b o e n _ => B.free b o e n (nx b), fun b o e _ => ?_, B.tups, B.frzs, B.tbls⟩
  · obtain ⟨sl, q⟩ := B.slot b o e n hb (nx b)
    obtain ⟨sl2, q2⟩ := x.slot b _ (by rw [hfs]; exact List.mem_cons_of_mem _ hb) (na b o e) (nT b o e) q
    exact ⟨sl2, q2⟩
  · obtain ⟨o', q⟩ := B.there b o e (nx b)
    exact x.there b o' q
theorem xe_cx {P : Program} {w : World} {K : PySem.W.Frag} {mg : Str → Option Value} {base : Heap} {N : List Str} {qual : Str} {scope : Scope} {f : Addr} {cd : Value} {A : Around} {outer : List Env} {s₀ : Shared} {H₀ : Hp} {E₀ : XK} :
    Xe (cxOf (CXE P w) P w K mg base N qual scope f cd A outer s₀ H₀ E₀) E₀ := by
  intro pins σ H s a cls dx I hx hE
  obtain ⟨ha, hHa, hx⟩ := hx
  have hfr : (envOfC qual scope s₀.heap.objs.size f cd).frame = some s₀.heap.objs.size := rfl
  have fin : ∀ (T0 : Addr) (h' : Heap), s₀.heap.get? T0 = none → H T0 = none → LeftX (frs (envOfC qual scope s₀.heap.objs.size f cd :: outer)) a T0 cls dx .none s.heap h' → CXE P w outer H₀ s₀ E₀ (.ref a) { s with heap := h' } := by
    intro T0 h' hT0 hHT0 x
    obtain ⟨T, hT, y⟩ := x.exc
    have hTn : s₀.heap.get? T = none := by
      cases q : s₀.heap.get? T with
      | none => rfl
      | some o => exact absurd (Nat.lt_of_lt_of_le (Heap.lt_size q) (Nat.le_trans I.sz hT)) (Nat.lt_irrefl _)
    refine ⟨a, T, cls, dx, H, rfl, I.os, I.bare, Un.left I rfl rfl rfl ha hT0 x, ?_, ha, hTn, hHa, I.hok.fresh hT, y, hE⟩
    refine I.hok.tracked fun b o u hb q => x.keep b o (fun z => ?_) (fun z => by rw [z, hHa] at hb; cases hb) (fun z => by rw [z, hHT0] at hb; cases hb) q
    have := I.stkFree b z
    rw [this] at hb; cases hb
  rcases hx with hx | ⟨T0, hT0, hHT0, hx⟩
  · exact leave_new (base := base) I.ok.frames I.stack hfr hx fun h' x => fin a h' ha hHa x
  · exact leave_next (base := base) I.ok.frames I.stack hfr hx fun h' x => fin T0 h' hT0 hHT0 x
theorem passesE {X : Cx} {E : XK} (h : Xe X E) (hex : X.ex = [] := by rfl) : Passes (CXE X.prog X.w) X E := by
  intro pins σ H s e s' I hx
  obtain ⟨a, T, cls, dx, H', rfl, ho, hg, u, hok, ha, hT, hHa, hHT, y, hE⟩ := hx
  have I' : Inv X pins σ H' s' := I.call' (ch := []) ho u hok hg fun b hb => absurd hb (by simp)
  have old : ∀ b, s.heap.get? b = none → X.ex = [] → X.s₀.heap.get? b = none := fun b hb hx => by
    cases q : X.s₀.heap.get? b with
    | none => rfl
    | some o =>
      obtain ⟨o', q'⟩ := I.base.there b o q (by rw [hx]; simp)
      rw [hb] at q'; cases q'
  exact h pins σ H' s' a cls dx I' ⟨old a ha hex, hHa, .inr ⟨T, old T hT hex, hHT, y⟩⟩ hE
end L2

namespace L2
open PySem PySem.Spec PyProof.Rows
theorem own_obj {K : PySem.W.Frag} {h : Heap} {C : Addr} {bmB : List Value} {newId : String} (X : K.In h) (q : PySem.W.excIn K C bmB newId = true) :
    ∃ bm N nm q bs hdct sn sub ab col dd k0 k1 k2 k3 k5 mN, h.get? C = some (excClassObj nm q C N bs bm hdct sn sub ab col dd k0 k1 k2 k3 k5 newId) ∧ h.Ns N mN ∧ mN "__init__" = none ∧ OwnTail h bmB bm := by
  unfold PySem.W.excIn at q
  split at q
  · rename_i dd cd sl ho
    split at q
    · rename_i C' bm k0 k1 k2 k3 n k5 hm hs
      simp only [Bool.and_eq_true, beq_iff_eq, Bool.not_eq_true'] at q
      obtain ⟨⟨⟨⟨⟨rfl, rfl⟩, hdel⟩, ht⟩, hok⟩, hni⟩ := q
      obtain ⟨nm, bs, mro, ns, qn, hd, sn, sub, ab, col, del⟩ := cd
      dsimp only at hm hdel hok hni
      subst hm hdel
      have hsl : sl = #[k0, k1, k2, k3, some (.builtin n), k5] := by
        obtain ⟨l⟩ := sl
        simp only at hs
        rw [hs]
      subst hsl
      exact ⟨bm, ns, nm, qn, bs, hd, sn, sub, ab, col, dd, k0, k1, k2, k3, k5, _, X _ _ ho, .of_isNs (PySem.W.isNs_of_in X hok), PySem.W.nsMap_none_of_in X hok hni, PySem.W.tail_of_in X ht⟩
    · cases q
  · cases q
section
variable {X : Cx}
noncomputable def tRaise (C : Addr) (E : XK) (t : TA) : TS := fun _ σ H => t σ H fun vs H1 => vs.length ≤ sizeLine ∧ E (.ref C) none H1
end
end L2

/-! an own error as a value: its class, its attributes, isinstance of it -/
namespace L2
open PySem PySem.Spec PyProof.Rows PySem.W
set_option genInjectivity false in
structure XCls (K : Frag) (C : Addr) : Prop where
  ga : findIn K (.ref C) "__getattribute__" = some (some (.builtin "BaseException.__getattribute__"))
  gn : findIn K (.ref C) "__getattr__" = some none
  cl : findIn K (.ref C) "__class__" = some (some (.builtin "object.__class__"))
  sg : specialIn K (.builtin "object.__class__") "__get__" = some (some (.builtin "getset_descriptor.__get__"))
  tk : takesIn K (.builtin "object.__class__") = some true
  mo : mroIn K C (.type "object") = some true
  mb : mroIn K C (.type "BaseException") = some true
section
variable {prog : Program} {w : World} {A : Around} {E : Value → Shared → Prop} {s : Shared} {K : Frag} {x C : Addr} {ox : Obj} {od : Option Obj} {name : Str}
end
end L2

/-! try: a call; except: a suite that raises nothing -/
namespace L2
open PySem PySem.Spec PyProof.Rows
set_option genInjectivity false in
structure Catch (K : PySem.W.Frag) (B C : Addr) : Prop where
  ty : PySem.W.instIn K (.ref B) (.type "tuple") = some false
  bb : PySem.W.mroIn K B (.type "BaseException") = some true
  sub : PySem.W.mroIn K C (.ref B) = some true
/-! ### the context of an except suite -/
section
variable {X : Cx} {pins : List (Addr × Obj)} {σ : St} {H : Hp} {s : Shared} {a : Addr}
end
/-! ### an error that was caught, as a tracked thing -/
noncomputable def XO (a C : Addr) (dx : Option Addr) : HO := .ext fun h => ∃ ob vs, h.get? a = some ob ∧ ob.cls = .ref C ∧ ob.dict = dx ∧ ob.data = .fields vs
noncomputable abbrev XS := St → XK
noncomputable def XP (X : Cx) (pins : List (Addr × Obj)) (E : XS) (e : Value) (s' : Shared) : Prop := ∃ σ H s, Inv X pins σ H s ∧ CXE X.prog X.w X.stack H s (E σ) e s'
noncomputable abbrev TEX := St → Hp → VK → XK → Prop
noncomputable abbrev TSX := Ends → XS → St → Hp → Prop
section
variable {X : Cx} {k : Nat} {f C : Addr} {fd : FuncData} {ps : List Str} {sp : Sp} {dvs : List V} {ds : List Value} {x m : Str} {p pos apos : Pos} {e o : Expr} {es : List Expr} {ta : TE} {t : TA}
noncomputable def xCall (sp : Sp) (dvs : List V) (t : TA) : TEX := fun σ H Q E => t σ H fun vs H1 => sp (vs ++ dvs) H1 Q E
noncomputable def xMeth (C : Addr) (m : Str) (sp : Sp) (dvs : List V) (ta : TE) (t : TA) : TEX := fun σ H Q E => ta σ H fun x H1 => ∃ a dx fs, x = .ref a ∧ H1 a = some (.ins C dx fs) ∧ fs.lookup m = none ∧
  t σ H1 fun vs H2 => sp (x :: (vs ++ dvs)) H2 Q E
end
section
variable {X : Cx} {st : Stmt} {rest : List Stmt} {t : TS} {tx ux : TSX} {e : Expr} {te : TEX} {pos : Pos}
noncomputable def xDrop (te : TEX) : TSX := fun D E σ H => te σ H (fun _ H1 => D.nx σ H1) (E σ)
noncomputable def xSet (i : Nat) (te : TEX) : TSX := fun D E σ H => te σ H (fun v H1 => D.nx (σ.set i (some v)) H1) (E σ)
noncomputable def xRet (te : TEX) : TSX := fun D E σ H => te σ H D.rt (E σ)
noncomputable def xOf (t : TS) : TSX := fun D _ σ H => t D σ H
noncomputable def xSeq (t u : TSX) : TSX := fun D E σ H => t { D with nx := u D E } E σ H
end
/-! ### the exception lands -/
section
variable {X : Cx} {pins : List (Addr × Obj)} {σ : St} {H H' : Hp} {s s' : Shared} {a T : Addr} {cls : Value} {dx : Option Addr} {M : Model} {A : Around} {E : Value → Shared → Prop}
noncomputable def DxOk (dx : Option Addr) (H : Hp) : Prop := dx = none ∨ ∃ d fs, dx = some d ∧ H d = some (.xd fs)
end
/-! ### the rule -/
noncomputable def un1 (i : Nat) (D : Ends) : Ends := { nx := fun σ H => D.nx (σ.set i none) H, rt := D.rt, bk := fun σ H => D.bk (σ.set i none) H, ct := fun σ H => D.ct (σ.set i none) H }
noncomputable def tTryAs (K : PySem.W.Frag) (B : Addr) (i : Nat) (tb : TSX) (th : TS) : TS := fun D σ H =>
  tb D (fun σ' cls dx H' => ∃ C, cls = .ref C ∧ Catch K B C ∧ DxOk dx H' ∧ ∀ a, H' a = none → th (un1 i D) (σ'.set i (some (.ref a))) (upd H' a (XO a C dx))) σ H
noncomputable def tTry0 (K : PySem.W.Frag) (B : Addr) (tb : TSX) (th : TS) : TS := fun D σ H =>
  tb D (fun σ' cls dx H' => ∃ C, cls = .ref C ∧ Catch K B C ∧ DxOk dx H' ∧ th D σ' H') σ H
section
variable {X : Cx} {body suite : List Stmt} {b₀ : Stmt} {x n : Str} {B : Addr} {i : Nat} {np hpos pos : Pos} {tb : TSX} {th : TS}
end
end L2

/-! texts put together: f"..", join; isinstance of a caught error, of a tuple of classes -/
namespace L2
open PySem PySem.Spec PyProof.Rows
section
variable {X : Cx}
noncomputable def tRepr (t : TE) : TE := fun σ H Q => t σ H fun x H1 => ∃ z, x = .str z ∧ (reprText z).length ≤ sizeLine ∧ Q (.str (reprText z)) H1
noncomputable def tFmt (t : TE) : TE := fun σ H Q => t σ H fun x H1 => (∃ z, x = .str z ∧ z.length ≤ sizeLine ∧ Q (.str z) H1) ∨ ∃ i : Int, x = .int i ∧ i.natAbs.log2 < 1920 ∧ Q (.str (toString i)) H1
theorem pe_fmt {e : Expr} {t : TE} {pos : Pos} (he : PE X e t) : PE X (.FormattedValue e (-1) none pos) (tFmt t) := by
  intro pins s σ H Q I h
  refine FormattedValue_plain (thn (he pins s σ H _ I h) fun v s1 ⟨x, H1, I1, r1, q⟩ => ?_)
  rcases q with ⟨z, rfl, hz, q⟩ | ⟨i, rfl, hi, q⟩
  · obtain ⟨t', rfl⟩ := r1
    exact formatField_str (fun t'' tk => ⟨.str z, H1, I1.tok tk, ⟨t'', rfl⟩, q⟩) hz
  · obtain ⟨t', rfl⟩ := r1
    exact formatField_int_small hi ⟨.str (toString i), H1, I1.tok _, ⟨_, rfl⟩, q⟩
noncomputable abbrev TJ := Str → St → Hp → VK → Prop
noncomputable def PJ (X : Cx) (es : List Expr) (t : TJ) : Prop := ∀ (acc : Str) (pins : List (Addr × Obj)) (s : Shared) (σ : St) (H : Hp) (Q : VK), Inv X pins σ H s → t acc σ H Q →
  wpAny (model X.prog X.w) X.A (joinParts acc (evalEach es X.env)) (EP X pins σ Q) X.xe s
noncomputable def jNil : TJ := fun acc _ H Q => acc.length ≤ sizeLine ∧ Q (.str acc) H
noncomputable def jCons (t : TE) (u : TJ) : TJ := fun acc σ H Q => t σ H fun x H1 => ∃ y, x = .str y ∧ (acc ++ y).length ≤ sizeLine ∧ u (acc ++ y) σ H1 Q
theorem pj_nil : PJ X [] jNil := fun acc pins s σ H Q I h => joinParts_nilE (joinParts_nil ⟨.str acc, H, I.tok _, ⟨_, rfl⟩, h.2⟩ h.1)
theorem pj_cons {e : Expr} {es : List Expr} {t : TE} {u : TJ} (he : PE X e t) (hr : PJ X es u) : PJ X (e :: es) (jCons t u) := by
  intro acc pins s σ H Q I h
  refine joinParts_consE (joinParts_cons (thn (he pins s σ H _ I h) fun v s1 ⟨x, H1, I1, r1, y, ey, hy, q⟩ => ?_))
  subst ey
  obtain ⟨t', rfl⟩ := r1
  exact ⟨hy, hr (acc ++ y) pins s1 σ H1 Q I1 q⟩
noncomputable def tJoined (t : TJ) : TE := fun σ H Q => t Str.empty σ H Q
theorem pe_joined {v₁ v₂ : Expr} {rest : List Expr} {pos : Pos} {t : TJ} (h : PJ X (v₁ :: v₂ :: rest) t) : PE X (.JoinedStr (v₁ :: v₂ :: rest) pos) (tJoined t) :=
  fun pins s σ H Q I hw => JoinedStr_many (h Str.empty pins s σ H Q I hw)
/-! ### sep.join(list) -/
noncomputable def rJoin (K : PySem.W.Frag) : V → List V → Hp → VK → Prop := fun x vs H Q => ∃ z a zs, x = .str z ∧ vs = [.ref a] ∧ SqL K H a (zs.map V.str) ∧ JoinOk z zs = true ∧ Q (.str (Txt.join z zs)) H
/-! ### isinstance -/
noncomputable def TyX (K : PySem.W.Frag) (H : Hp) (x : V) (t : Value) : Prop := TyOf K H x t ∨ ∃ a C dx, x = .ref a ∧ t = .ref C ∧ H a = some (XO a C dx) ∧ DxOk dx H ∧ XCls K C
noncomputable def vOf : V → Value
  | .ref a => .ref a
  | .ty n => .type n
  | _ => .none
noncomputable def isCl : V → Bool
  | .ref _ => true
  | .ty _ => true
  | _ => false
noncomputable def rIsx (K : PySem.W.Frag) : List V → Hp → VK → Prop := fun xs H Q => ∃ x c t b, xs = [x, c] ∧ isCl c = true ∧ TyX K H x t ∧ PySem.W.kitOne K t (vOf c) = some b ∧ Q (.bl b) H
noncomputable def rIst (K : PySem.W.Frag) : List V → Hp → VK → Prop := fun xs H Q => ∃ x tp cs t b, xs = [x, .ref tp] ∧ H tp = some (.tup cs) ∧ cs.all isCl = true ∧ TyX K H x t ∧ PySem.W.kitAny K t (cs.map vOf) = some b ∧ Q (.bl b) H
end
section
variable {P : Program} {w : World} {K : PySem.W.Frag} {mg : Str → Option Value} {base : Heap}
theorem Fun.okE {x qual : Str} {st : Stmt} {f : Addr} {fd : FuncData} {N ps : List Str} {k : Nat} {sp : Sp} (F : Fun K x qual st f fd) (S : FnScope N ps (defScope st)) (len : ∀ vs H Q E, sp vs H Q E → vs.length = ps.length)
    (hbody : ∀ (cdv : Value) (A : Around) (outer : List Env) (s : Shared) (H : Hp) (vs : List V) (Q : VK) (E : XK), Room k (A.deeper (envOfC qual (defScope st) s.heap.objs.size f cdv)) → sp vs H Q E →
      ∃ t, PSs (cxOf (CXE P w) P w K mg base N qual (defScope st) f cdv A outer s H E) (defBody st) t ∧ t { nx := fun _ H' => Q .non H', rt := Q } (start N vs) H) : FnOk P w K mg base (CXE P w) (k + 1) f fd ps sp := by
  obtain ⟨oc, od, kV, doc, pm, an, cdv, ct, osl, rfl, lk, hcd⟩ := F.ex
  refine fn_of lk hcd S len fun A outer s H vs Q E hr hsp => ?_
  obtain ⟨t, h, q⟩ := hbody cdv A outer s H vs Q E hr hsp
  exact ⟨t, h, q⟩
end
end L2
namespace L2
theorem pe_alt {X : Cx} {e : PySem.Expr} {t u : TE} (h1 : PE X e t) (h2 : PE X e u) : PE X e (fun σ H Q => t σ H Q ∨ u σ H Q) := fun pins s σ H Q I h => by
  rcases h with h | h
  · exact h1 pins s σ H Q I h
  · exact h2 pins s σ H Q I h
end L2
namespace L2
open PySem PySem.Spec PyProof.Rows
theorem pass0E {X : Cx} : Passes (CXE X.prog X.w) X E0 := fun _ _ _ _ _ _ _ h => by
  obtain ⟨_, _, _, _, _, _, _, _, _, _, _, _, _, _, _, z⟩ := h
  exact z.elim
end L2

/-! pieces that lie in the heap: (name, stretches, names); what is done to the last one -/
namespace L2
open PySem PySem.Spec PyProof.Rows
set_option genInjectivity false in
structure FillM where
  a : Addr
  at_ : Int
  rule : Str
  name : Str
  add : Int
  soft : Bool
set_option genInjectivity false in
structure StM where
  t : Addr
  lw : Addr
  lf : Addr
  kind : Str
  step : Int
  words : List Int
  fills : List FillM
set_option genInjectivity false in
structure ToldM where
  a : Addr
  name : Str
  sort : Str
  st : Int
  off : Int
set_option genInjectivity false in
structure PcM where
  t : Addr
  ls : Addr
  ln : Addr
  name : Str
  sts : List StM
  nms : List ToldM
noncomputable abbrev FillM.v (f : FillM) : V := .ref f.a
noncomputable abbrev StM.v (s : StM) : V := .ref s.t
noncomputable abbrev ToldM.v (n : ToldM) : V := .ref n.a
noncomputable abbrev PcM.v (p : PcM) : V := .ref p.t
noncomputable def FillM.At (H : Hp) (f : FillM) : Prop := H f.a = some (.tup [.int f.at_, .str f.rule, .str f.name, .int f.add, .bl f.soft])
noncomputable def ToldM.At (H : Hp) (n : ToldM) : Prop := H n.a = some (.tup [.str n.name, .str n.sort, .int n.st, .int n.off])
set_option genInjectivity false in
structure StM.At (H : Hp) (s : StM) : Prop where
  top : H s.t = some (.tup [.str s.kind, .int s.step, .ref s.lw, .ref s.lf])
  wd : H s.lw = some (.lst (s.words.map V.int))
  fl : H s.lf = some (.lst (s.fills.map FillM.v))
  fs : ∀ f ∈ s.fills, f.At H
set_option genInjectivity false in
structure PcM.At (H : Hp) (p : PcM) : Prop where
  top : H p.t = some (.tup [.str p.name, .ref p.ls, .ref p.ln])
  sl : H p.ls = some (.lst (p.sts.map StM.v))
  nl : H p.ln = some (.lst (p.nms.map ToldM.v))
  ss : ∀ s ∈ p.sts, s.At H
  ns : ∀ n ∈ p.nms, n.At H
noncomputable def StM.lists (s : StM) : List Addr := [s.lw, s.lf]
noncomputable def PcM.lists (p : PcM) : List Addr := p.ls :: p.ln :: p.sts.flatMap StM.lists
noncomputable def listsOf (ps : List PcM) : List Addr := ps.flatMap PcM.lists
set_option genInjectivity false in
structure Pcs (H : Hp) (L : Addr) (ps : List PcM) : Prop where
  top : H L = some (.lst (ps.map PcM.v))
  at_ : ∀ p ∈ ps, p.At H
  nd : (L :: listsOf ps).Nodup
/-! ### kept -/
noncomputable def But (H H' : Hp) (l : Addr) : Prop := (∃ xs, H l = some (.lst xs)) ∧ ∀ b o, H b = some o → b ≠ l → H' b = some o
theorem But.upd {H : Hp} {l : Addr} {xs : List V} {o : HO} (h : H l = some (.lst xs)) : But H (L2.upd H l o) l := ⟨⟨xs, h⟩, fun b u e n => by rw [upd_ne n]; exact e⟩
theorem But.tup {H H' : Hp} {l a : Addr} {xs : List V} (b : But H H' l) (h : H a = some (.tup xs)) : H' a = some (.tup xs) := by
  obtain ⟨ys, hl⟩ := b.1
  exact b.2 _ _ h fun e => by rw [e, hl] at h; cases h
theorem FillM.At.but {H H' : Hp} {l : Addr} {f : FillM} (h : f.At H) (b : But H H' l) : f.At H' := b.tup h
theorem ToldM.At.but {H H' : Hp} {l : Addr} {n : ToldM} (h : n.At H) (b : But H H' l) : n.At H' := b.tup h
theorem StM.At.but {H H' : Hp} {l : Addr} {s : StM} (h : s.At H) (b : But H H' l) (n : l ∉ s.lists) : s.At H' :=
  ⟨b.tup h.top, b.2 _ _ h.wd fun e => n (by simp [StM.lists, e]), b.2 _ _ h.fl fun e => n (by simp [StM.lists, e]), fun f hf => (h.fs f hf).but b⟩
theorem PcM.At.but {H H' : Hp} {l : Addr} {p : PcM} (h : p.At H) (b : But H H' l) (n : l ∉ p.lists) : p.At H' :=
  ⟨b.tup h.top, b.2 _ _ h.sl fun e => n (by simp [PcM.lists, e]), b.2 _ _ h.nl fun e => n (by simp [PcM.lists, e]),
    fun s hs => (h.ss s hs).but b fun z => n (by simp only [PcM.lists, List.mem_cons]; exact .inr (.inr (List.mem_flatMap.mpr ⟨s, hs, z⟩))), fun m hm => (h.ns m hm).but b⟩
/-! ### the lists are tracked -/
theorem StM.At.list {H : Hp} {s : StM} (h : s.At H) {b : Addr} (hb : b ∈ s.lists) : ∃ xs, H b = some (.lst xs) := by
  simp only [StM.lists, List.mem_cons, List.not_mem_nil, or_false] at hb
  rcases hb with e | e
  · rw [e]; exact ⟨_, h.wd⟩
  · rw [e]; exact ⟨_, h.fl⟩
theorem PcM.At.list {H : Hp} {p : PcM} (h : p.At H) {b : Addr} (hb : b ∈ p.lists) : ∃ xs, H b = some (.lst xs) := by
  simp only [PcM.lists, List.mem_cons] at hb
  rcases hb with e | e | e
  · rw [e]; exact ⟨_, h.sl⟩
  · rw [e]; exact ⟨_, h.nl⟩
  · obtain ⟨s, hs, z⟩ := List.mem_flatMap.mp e
    exact (h.ss s hs).list z
theorem listsOf_snoc (ps : List PcM) (p : PcM) : listsOf (ps ++ [p]) = listsOf ps ++ p.lists := by simp [listsOf, List.flatMap_append]
theorem Pcs.apart {H : Hp} {L : Addr} {ps : List PcM} {p : PcM} (h : Pcs H L (ps ++ [p])) : (∀ q ∈ ps, ∀ b ∈ p.lists, b ∉ q.lists) ∧ p.lists.Nodup ∧ L ∉ p.lists ∧ ∀ q ∈ ps, L ∉ q.lists := by
  have n := h.nd
  rw [listsOf_snoc] at n
  obtain ⟨n1, n2⟩ := List.nodup_cons.mp n
  obtain ⟨n3, n4, n5⟩ := List.nodup_append.mp n2
  refine ⟨fun q hq b hb z => n5 b (List.mem_flatMap.mpr ⟨q, hq, z⟩) b hb rfl, n4, fun z => n1 (List.mem_append_right _ z), fun q hq z => n1 (List.mem_append_left _ (List.mem_flatMap.mpr ⟨q, hq, z⟩))⟩
/-! ### what is done -/
theorem Pcs.last {H : Hp} {L l : Addr} {ps : List PcM} {p p' : PcM} {o : HO} (h : Pcs H L (ps ++ [p])) (hl : l ∈ p.lists) (ht : p'.t = p.t) (hp : p'.At (upd H l o)) (hn : (L :: listsOf (ps ++ [p'])).Nodup) : Pcs (upd H l o) L (ps ++ [p']) := by
  obtain ⟨a1, a2, a3, a4⟩ := h.apart
  obtain ⟨xs, hx⟩ := (h.at_ p (by simp)).list hl
  have b : But H (upd H l o) l := But.upd hx
  refine ⟨?_, fun q hq => ?_, hn⟩
  · rw [b.2 _ _ h.top fun e => a3 (by rw [e]; exact hl)]
    simp [PcM.v, ht]
  · rcases List.mem_append.mp hq with z | z
    · exact (h.at_ q (List.mem_append_left _ z)).but b (a1 q z l hl)
    · rw [List.mem_singleton.mp z]; exact hp
theorem Pcs.newStretch {H : Hp} {L t lw lf : Addr} {kind : Str} {step : Int} {ps : List PcM} {p : PcM} (h : Pcs H L (ps ++ [p])) (h1 : H t = some (.tup [.str kind, .int step, .ref lw, .ref lf])) (h2 : H lw = some (.lst [])) (h3 : H lf = some (.lst []))
    (n1 : lw ≠ lf) (n2 : lw ∉ L :: listsOf (ps ++ [p])) (n3 : lf ∉ L :: listsOf (ps ++ [p])) :
    Pcs (upd H p.ls (.lst (p.sts.map StM.v ++ [.ref t]))) L (ps ++ [{ p with sts := p.sts ++ [⟨t, lw, lf, kind, step, [], []⟩] }]) := by
  have hp := h.at_ p (by simp)
  obtain ⟨a1, a2, a3, a4⟩ := h.apart
  have b : But H (upd H p.ls (.lst (p.sts.map StM.v ++ [.ref t]))) p.ls := But.upd hp.sl
  have in1 : ∀ x, x ∈ p.lists → x ∈ L :: listsOf (ps ++ [p]) := fun x hx => List.mem_cons_of_mem _ (by rw [listsOf_snoc]; exact List.mem_append_right _ hx)
  have hls : p.ls ∈ p.lists := by simp [PcM.lists]
  have nd : p.ls ≠ p.ln ∧ p.ls ∉ p.sts.flatMap StM.lists := by
    have := a2
    simp only [PcM.lists, List.nodup_cons, List.mem_cons, not_or] at this
    exact this.1
  refine h.last hls rfl ⟨b.tup hp.top, by rw [upd_same]; simp, b.2 _ _ hp.nl (Ne.symm nd.1), fun s hs => ?_, fun n hn => (hp.ns n hn).but b⟩ ?_
  · rcases List.mem_append.mp hs with z | z
    · exact (hp.ss s z).but b fun q => nd.2 (List.mem_flatMap.mpr ⟨s, z, q⟩)
    · have e := List.mem_singleton.mp z
      subst e
      exact ⟨b.tup h1, b.2 _ _ h2 fun (e : lw = p.ls) => n2 (in1 _ (e ▸ hls)), b.2 _ _ h3 fun (e : lf = p.ls) => n3 (in1 _ (e ▸ hls)), fun f hf => absurd hf (by simp)⟩
  · have e : L :: listsOf (ps ++ [{ p with sts := p.sts ++ [⟨t, lw, lf, kind, step, [], []⟩] }]) = (L :: listsOf (ps ++ [p])) ++ [lw, lf] := by
      rw [listsOf_snoc, listsOf_snoc]
      simp [PcM.lists, StM.lists, List.flatMap_append]
    rw [e]
    refine List.nodup_append.mpr ⟨h.nd, by simp [n1], fun x hx y hy e => ?_⟩
    subst e
    simp only [List.mem_cons, List.not_mem_nil, or_false] at hy
    rcases hy with e | e
    · subst e; exact n2 hx
    · subst e; exact n3 hx
end L2
namespace L2
open PySem PySem.Spec PyProof.Rows
/-! ### as data -/
theorem RepL.map {K : PySem.W.Frag} {H : Hp} {α : Type} {f : α → D} {g : α → V} : ∀ {xs : List α}, (∀ x ∈ xs, Rep K H (f x) (g x)) → RepL K H (xs.map f) (xs.map g)
  | [], _ => by simp [RepL]
  | x :: xs, h => by
    simp only [List.map_cons, RepL]
    exact ⟨_, _, rfl, h x (List.mem_cons_self ..), RepL.map fun y hy => h y (List.mem_cons_of_mem _ hy)⟩
theorem depL_le {α : Type} {f : α → D} {n : Nat} : ∀ {xs : List α}, (∀ x ∈ xs, dep (f x) ≤ n) → depL (xs.map f) ≤ n
  | [], _ => by simp [depL]
  | x :: xs, h => by
    simp only [List.map_cons, depL]
    exact Nat.max_le.mpr ⟨h x (List.mem_cons_self ..), depL_le fun y hy => h y (List.mem_cons_of_mem _ hy)⟩
theorem deqL_nil (ds : List D) : deqL ds [] = decide (ds = []) := by cases ds <;> simp [deqL]
end L2

/-! own errors with an __init__ of their own -/
namespace L2
open PySem PySem.Spec PyProof.Rows PySem.W
noncomputable abbrev VE : List Value := [.type "ValueError", .type "Exception", .type "BaseException", .type "object"]
noncomputable def ownInit (K : Frag) (C fI : Addr) : Bool :=
  match K.lookup C with
  | none => false
  | some ob =>
    match ob.cls, ob.data, ob.slots.toList with
    | .type "type", .cls cd, [_, _, _, _, some (.builtin n), _] =>
      (match cd.mro with
       | .ref C' :: bm => C' == C && (n == "ValueError.__new__" && (!cd.hasDel && (tailIn K VE bm && (nsOkIn K cd.ns && (cd.hasDict && nsIn K cd.ns "__init__" == some (some (.ref fI)))))))
       | _ => false)
    | _, _, _ => false
theorem ns_has {K : Frag} {h : Heap} {N : Addr} {m : Str → Option Value} {n : Str} {v : Value} (X : K.In h) (G : h.Ns N m) (e : nsIn K N n = some (some v)) : m n = some v := by
  obtain ⟨o, es, ep, ho, hd, _, hf⟩ := G
  unfold nsIn at e
  split at e
  · rename_i c d es' n' sl q
    have z := X _ _ q
    rw [ho] at z
    cases z
    cases hd
    split at e
    · rename_i en he
      cases e
      rw [← hf]
      unfold nsFind findBy
      rw [← Array.find?_toList, he]
      rfl
    · split at e <;> cases e
  · cases e
theorem init_obj {K : Frag} {h : Heap} {C fI : Addr} (X : K.In h) (q : ownInit K C fI = true) :
    ∃ bm N nm q bs sn sub ab col dd k0 k1 k2 k3 k5 mN, h.get? C = some (excClassObj nm q C N bs bm true sn sub ab col dd k0 k1 k2 k3 k5 "ValueError.__new__") ∧ h.Ns N mN ∧ mN "__init__" = some (.ref fI) ∧ OwnTail h VE bm := by
  unfold ownInit at q
  split at q
  · cases q
  · rename_i ob ho
    split at q
    · rename_i cd _ _ _ _ n _ hc hd hs
      split at q
      · rename_i C' bm hm
        simp only [Bool.and_eq_true, beq_iff_eq, Bool.not_eq_true'] at q
        obtain ⟨rfl, rfl, hdel, ht, hok, hdi, hni⟩ := q
        obtain ⟨oc, odi, oda, osl⟩ := ob
        dsimp only at hc hd hs
        subst hc hd
        obtain ⟨nm, bs, mro, ns, qn, hdd, sn, sub, ab, col, del⟩ := cd
        dsimp only at hm hdel hok hni hdi
        subst hm hdel hdi
        obtain ⟨l⟩ := osl
        simp only at hs
        subst hs
        refine ⟨bm, ns, nm, qn, bs, sn, sub, ab, col, odi, _, _, _, _, _, _, X _ _ ho, .of_isNs (PySem.W.isNs_of_in X hok), ?_, PySem.W.tail_of_in X ht⟩
        exact ns_has X (.of_isNs (PySem.W.isNs_of_in X hok)) hni
      · cases q
    · cases q
section
variable {prog : Program} {w : World} {A : Around} {E : Value → Shared → Prop} {h : Heap} {g : Array GenState} {d : Drawn} {t : Nat} {os : OsState}
variable {nm q : Str} {C N : Addr} {bs bm bmB : List Value} {hdct : Bool} {sn : List Str} {sub : List Value} {ab : Bool} {col : Option Bool} {dd : Option Addr} {k0 k1 k2 k3 k5 : Option Value} {B newId initId : String}
theorem type_call_init (F : ExcBaseFacts B newId initId bmB) (T : OwnTail h bmB bm) {mN : Str → Option Value} {rest : List Value} {fI : Addr} {oI : Obj} {Q : Fin → Shared → Prop}
    (hC : h.get? C = some (excClassObj nm q C N bs bm hdct sn sub ab col dd k0 k1 k2 k3 k5 newId)) (hn : h.Ns N mN) (hi : mN "__init__" = some (.ref fI))
    (hfI : h.get? fI = some oI) (hfc : oI.cls = .type "function")
    (hq : ∀ h' e, h.objs.size ≤ e → Heap.MadeExcOf h h' e (.ref C) rest →
      wpAny (model prog w) A (call (.ref fI) (.ref e :: rest)) (fun r s' => r = .none ∧ Q (.done (.ret (.ref e))) s') E ⟨h', g, d, t, os⟩) (hrest : rest.length ≤ sizeLine) :
    wpAny (model prog w) A (Builtin.«type.__call__» ⟨.ref C :: rest, []⟩) Q E ⟨h, g, d, t, os⟩ := by
  repeat (first | with_reducible refine wpAny_loadPart_at hC ?_ | with_reducible refine wpAny_madeBy_exc hC ?_ | wp_step)
  refine codeAny_call_builtin_code (Code.quiet_builtin _ F.quiet) (wpAny_check_new_subT F T hC ?_)
  refine codeAny_exc_new_subT F T hC ?_ hrest
  show wpAny _ _ _ _ _ _
  have up : ∀ b o, h.get? b = some o → ((h.push { cls := .type "tuple", data := .seq rest.toArray }).push { cls := .ref C, data := .fields #[.ref h.objs.size, .none, .none, .none, .bool false, .none] }).get? b = some o :=
    fun b o e => Heap.get?_push_of_some _ (Heap.get?_push_of_some _ e)
  have hC₁ := up _ _ hC
  have hfI₁ := up _ _ hfI
  have hn₁ := hn.keeps up
  have hget : ((h.push { cls := .type "tuple", data := .seq rest.toArray }).push
      { cls := .ref C, data := .fields #[.ref h.objs.size, .none, .none, .none, .bool false, .none] }).get? (h.objs.size + 1) = some
      { cls := .ref C, data := .fields #[.ref h.objs.size, .none, .none, .none, .bool false, .none] } := by heap_get
  have hcC : (Value.ref C :: bm).contains (.ref C) = true := by simp
  unfold isInstance
  repeat (first | with_reducible refine wpAny_loadPart_at hget ?_ | (with_reducible refine wpAny_isSubtype_exc hC₁ ?_; rw [hcC]) | wp_step)
  show wpAny _ _ (typeLookup (.ref C) _) _ _ _
  refine wpAny_typeLookup_tail hC₁ hn₁ (T.keeps up) F.mroIs F.init.lookup ?_
  rw [hi]
  refine wpAny_holding (wpAny_bind ?_)
  unfold bindSpecial
  refine wpAny_bind (wpAny_typeOf (T := "function") ⟨_, hfI₁, hfc⟩ ?_)
  rw [if_pos (by decide)]
  refine wpAny_pure (wpAny_bind (wpAny_mono (hq _ (h.objs.size + 1) (Nat.le_succ _) ⟨up, Heap.get?_none_of_le (Nat.le_succ _), h.objs.size, hget, Heap.get?_none_of_le (Nat.le_refl _), ?_⟩) (fun r s' hr => ?_) fun _ _ x => x))
  · exact Heap.get?_push_of_some _ (Heap.get?_push_at rfl rfl)
  · obtain ⟨rfl, hQ⟩ := hr
    wp_walk
    exact hQ
theorem call_init (F : ExcBaseFacts B newId initId bmB) (T : OwnTail h bmB bm) {mN : Str → Option Value} {rest : List Value} {fI : Addr} {oI : Obj} {Q : Value → Shared → Prop}
    (hC : h.get? C = some (excClassObj nm q C N bs bm hdct sn sub ab col dd k0 k1 k2 k3 k5 newId)) (hn : h.Ns N mN) (hi : mN "__init__" = some (.ref fI))
    (hfI : h.get? fI = some oI) (hfc : oI.cls = .type "function")
    (hq : ∀ h' e, h.objs.size ≤ e → Heap.MadeExcOf h h' e (.ref C) rest →
      wpAny (model prog w) (A.under (.builtin "type.__call__" ⟨.ref C :: rest, []⟩)) (call (.ref fI) (.ref e :: rest)) (fun r s' => r = .none ∧ Q (.ref e) s') E ⟨h', g, d, t, os⟩) (hrest : rest.length ≤ sizeLine) :
    wpAny (model prog w) A (call (.ref C) rest) Q E ⟨h, g, d, t, os⟩ := by
  have f1 := tc_lookup
  have f2 := tc_bind (.ref C)
  have hT : (⟨h, g, d, t, os⟩ : Shared).TypeIs (.ref C) "type" := ⟨_, hC, rfl⟩
  refine wpAny_call (codeAny_of_tree ?_)
  show wpAny _ _ (callAny (.ref C) _) _ _ _
  repeat (any_goals (first | assumption | with_reducible refine wpAny_loadPart_at hC ?_ | wp_step))
  refine ⟨rfl, ?_⟩
  refine codeAny_call_builtin_at (Code.quiet_builtin _ (by decide +kernel)) entry_typeCall (wpAny_check_type_call_sub hC (type_call_init (hrest := hrest) F T hC hn hi hfI hfc fun h' e hz hm => ?_))
  exact hq h' e hz hm
theorem base_init (F : ExcBaseFacts B newId initId bmB) (T : OwnTail h bmB bm) {e : Addr} {oe : Obj} {vs : Array Value} {v0 : Value} {rest : List Value} {Q : Value → Shared → Prop}
    (hC : h.get? C = some (excClassObj nm q C N bs bm hdct sn sub ab col dd k0 k1 k2 k3 k5 newId)) (he : h.get? e = some oe) (hcls : oe.cls = .ref C) (hd : oe.data = .fields vs) (h0 : vs[0]? = some v0)
    (hq : ∀ h' T, (∀ b o, b ≠ e → h.get? b = some o → h'.get? b = some o) → h'.get? e = some { oe with data := .fields (vs.setIfInBounds 0 T) } → Q .none ⟨h', g, d, t, os⟩) (hrest : rest.length ≤ sizeLine) :
    wpAny (model prog w) A (call (.builtin initId) (.ref e :: rest)) Q E ⟨h, g, d, t, os⟩ := by
  refine wpAny_call (codeAny_call_builtin F.init.plain F.initEntry (wpAny_check_init_subT F T hC he hcls ?_))
  have he1 := Heap.get?_push_of_some { cls := .type "tuple", data := .seq rest.toArray } he
  have hsz := (Array.getElem?_eq_some_iff.mp h0).1
  unfold Builtin.«BaseException.__init__»
  repeat (first | with_reducible refine wpAny_field he1 hd h0 ?_ | with_reducible refine wpAny_setField he1 hd hsz ?_ | wp_step)
  have hd3 : (Obj.mapFields (·.setIfInBounds 0 (Value.ref h.objs.size)) oe).data = .fields (vs.setIfInBounds 0 (Value.ref h.objs.size)) := Obj.data_mapFields hd _
  have e3 := Heap.get?_update_self (Obj.mapFields (·.setIfInBounds 0 (Value.ref h.objs.size))) he1 (Obj.isFreed_of_fields hd3)
  have e4 : Obj.mapFields (·.setIfInBounds 0 (Value.ref h.objs.size)) oe = { oe with data := .fields (vs.setIfInBounds 0 (Value.ref h.objs.size)) } := by
    obtain ⟨oc, od, oda, osl⟩ := oe
    dsimp only at hd
    subst hd
    rfl
  rw [e4] at e3
  have fin := hq _ (.ref h.objs.size) (fun b o hb ho => by rw [Heap.get?_update_other _ _ (Ne.symm hb)]; exact Heap.get?_push_of_some _ ho) e3
  cases v0 <;> repeat (first | exact fin | (unfold letGo; done) | with_reducible exact wpAny_holding (wpAny_point (wpAny_pure ?_)) | wp_step)
end
/-! ### self.f = v of an error that is being made -/
noncomputable def onlyErr : List Value → Bool
  | .ref _ :: r => onlyErr r
  | l => l == VE
noncomputable def errIn (K : Frag) (C : Addr) : Bool := (clsIn K C).any fun cd => cd.hasDict && onlyErr cd.mro
theorem refuse_err (self : Value) : ∀ {l : List Value}, onlyErr l = true → refuseLoop self "__setattr__" l = pure ()
  | .ref c :: r, e => by rw [refuseLoop_ref]; exact refuse_err self (l := r) e
  | [], e => by cases (show ([] : List Value) = VE from beq_iff_eq.mp e)
  | .type n :: r, e => by rw [show (Value.type n :: r) = VE from beq_iff_eq.mp e]; exact PySem.F.store_ValueError.passes self
  | .none :: r, e => nomatch (show (Value.none :: r) = VE from beq_iff_eq.mp e)
  | .bool b :: r, e => nomatch (show (Value.bool b :: r) = VE from beq_iff_eq.mp e)
  | .int b t :: r, e => nomatch (show (Value.int b t :: r) = VE from beq_iff_eq.mp e)
  | .str b t :: r, e => nomatch (show (Value.str b t :: r) = VE from beq_iff_eq.mp e)
  | .bytes b t :: r, e => nomatch (show (Value.bytes b t :: r) = VE from beq_iff_eq.mp e)
  | .float b t :: r, e => nomatch (show (Value.float b t :: r) = VE from beq_iff_eq.mp e)
  | .builtin b :: r, e => nomatch (show (Value.builtin b :: r) = VE from beq_iff_eq.mp e)
theorem err_has : ∀ {l : List Value}, onlyErr l = true → l.contains (.type "object") = true
  | .ref c :: r, e => by rw [List.contains_cons, err_has (l := r) e, Bool.or_true]
  | [], e => by cases (show ([] : List Value) = VE from beq_iff_eq.mp e)
  | .type n :: r, e => by rw [show (Value.type n :: r) = VE from beq_iff_eq.mp e]; decide
  | .none :: r, e => nomatch (show (Value.none :: r) = VE from beq_iff_eq.mp e)
section
variable {prog : Program} {w : World} {A : Around} {E : Value → Shared → Prop} {s : Shared} {K : Frag} {x C : Addr} {R : Result → Shared → Prop}
theorem osa_err {ox : Obj} {od : Option Obj} {name : Str} {tk : Tok} {v : Value} (X : K.In s.heap) (I : InstAt s.heap x ox C od) (hp : errIn K C = true) (hf : findIn K (.ref C) name = some none)
    (h : wpAny (model prog w) A.in1 (Builtin.ObjectAttr.storeInOwnDict (.ref x) (.ref C) (.str name tk) name v false)
      (fun fin s' => match fin with | .done f => R (.ok f) s' | .again c' => c'.quiet = true ∧ codeAny (model prog w) A c' R s') (fun e s' => R (.error e) s') s) :
    codeAny (model prog w) A (.call (.builtin "object.__setattr__") ⟨[.ref x, .str name tk, v], []⟩) R s := by
  have SF := PySem.F.store_object
  obtain ⟨cd, hc, ho⟩ := any_some hp
  rw [Bool.and_eq_true] at ho
  obtain ⟨_, ho⟩ := ho
  have ne : cd.mro.isEmpty = false := by cases q : cd.mro with | nil => rw [q] at ho; cases ho | cons _ _ => rfl
  have sub : Looks (model prog w) s.heap (isInstance (.ref x) (.type "object")) true := I.type.andThen (looks_mroIn X (by unfold mroIn; rw [hc, Option.bind_some, if_neg (by rw [ne]; decide), err_has ho]))
  refine codeAny_call_builtin SF.slot.plain SF.entry (@check_slot (model prog w) _ _ s "object.__setattr__" "object" "__setattr__" (.ref x) [.str name tk, v] [] _ SF.kind SF.split sub (SF.args (.ref x) (.str name tk) v) ?_)
  have hm : Looks (model prog w) s.heap (mroOf (.ref C)) cd.mro := (looks_clsIn X hc).andThen .now
  rw [osa_eq, refuse_eq]
  refine wpAny_bind (wpAny_bind (I.type.here (wpAny_bind (hm.here ?_))))
  rw [refuse_err _ ho]
  refine wpAny_pure (wpAny_bind (I.type.here (wpAny_bind ((looks_findIn X hf).here (wpAny_bind (wpAny_pure ?_))))))
  exact h
theorem set_err0 {ox : Obj} {vs : Array Value} {name : Str} {v : Value} {Q : Unit → Shared → Prop} (X : K.In s.heap) (hx : s.heap.get? x = some ox) (hcl : ox.cls = .ref C) (hdn : ox.dict = none) (hda : ox.data = .fields vs) (hp : errIn K C = true)
    (hs : findIn K (.ref C) "__setattr__" = some (some (.builtin "object.__setattr__"))) (hf : findIn K (.ref C) name = some none)
    (h : ∀ h' tk, h'.get? x = some { ox with dict := some s.heap.objs.size } → h'.Ns1 s.heap.objs.size (fun y => if y = name then some v else none) → (∀ b o, b ≠ x → s.heap.get? b = some o → h'.get? b = some o) → Q () { s with heap := h', toks := tk }) :
    wpAny (model prog w) A (setAttr (.ref x) name v) Q E s := by
  obtain ⟨hh, g, d, t, os⟩ := s
  have J : InstAt hh x ox C none := ⟨hx, hcl, by unfold notCls; rw [hda], by rw [hdn]; trivial⟩
  refine set_plain X J hs (osa_err (s := ⟨hh, g, d, t + 1, os⟩) X J hp hf ?_)
  obtain ⟨cd, hc, ho⟩ := any_some hp
  rw [Bool.and_eq_true] at ho
  refine wpAny_bind (wpAny_pure (wpAny_bind (wpAny_bind (wpAny_loadPart hx ?_))))
  rw [hcl]
  refine wpAny_bind (Looks.here (s := ⟨hh, g, d, t + 1, os⟩) (looks_clsIn X hc) ?_)
  rw [ho.1, hdn, hda]
  rw [if_neg (by decide)]
  dsimp only
  rw [if_neg (by simp [typeHasDict])]
  have hx₁ : (hh.push { cls := .type "dict", data := .dict #[] }).get? x = some ox := Heap.get?_push_of_some _ hx
  have hxs : x ≠ hh.objs.size := Nat.ne_of_lt (Heap.lt_size hx)
  refine wpAny_bind (wpAny_alloc' ?_)
  refine wpAny_bind (wpAny_update' hx₁ ?_)
  refine wpAny_pure ?_
  have hgd : ((hh.push { cls := .type "dict", data := .dict #[] }).update x fun o => { cls := o.cls, dict := some hh.objs.size, data := o.data, slots := o.slots }).get? hh.objs.size
      = some { cls := .type "dict", data := .dict #[] } := (Heap.get?_update_ne _ _ _ _ hxs.symm).trans (Heap.get?_push_at rfl rfl)
  have hnd : ((hh.push { cls := .type "dict", data := .dict #[] }).update x fun o => { cls := o.cls, dict := some hh.objs.size, data := o.data, slots := o.slots }).Ns hh.objs.size (fun _ => none) :=
    ⟨_, #[], _, hgd, rfl, fun e he => absurd he (by simp), fun _ => rfl⟩
  show wpAny _ _ (Builtin.ObjectAttr.storeInDict hh.objs.size (.str name t) name v) _ _ _
  unfold Builtin.ObjectAttr.storeInDict Builtin.ObjectAttr.newKeyGuard
  refine wpAny_bind (wpAny_pure (wpAny_bind (wpAny_nsSet1 (Heap.Ns1.of_empty hnd) fun h' hn' hs => ?_)))
  obtain ⟨oD, esD, epD, hoD, hdD, hcD⟩ := hn'.count (Within.cons name v Within.nil)
  refine wpAny_bind (wpAny_lookBehind hoD (by rw [hdD]; exact pastItsLine_dict (Nat.le_trans hcD (by rw [List.length_cons, List.length_nil, sizeLine_eq]; omega))) ?_)
  refine wpAny_pure (h h' _ ?_ hn' fun b o hb hbo => ?_)
  · refine (hs.2 x hxs).trans (Heap.get?_update_self _ hx₁ ?_)
    obtain ⟨oc, od, odt, osl⟩ := ox
    dsimp only at hda
    subst hda
    rfl
  · exact (hs.2 b (Nat.ne_of_lt (Heap.lt_size hbo))).trans ((Heap.get?_update_ne _ _ _ _ hb).trans (Heap.get?_push_of_some _ hbo))
theorem set_err1 {ox : Obj} {dx : Addr} {mA : Str → Option Value} {vs : Array Value} {name : Str} {v : Value} {ns : List Str} {Q : Unit → Shared → Prop} (X : K.In s.heap) (hx : s.heap.get? x = some ox) (hcl : ox.cls = .ref C) (hdn : ox.dict = some dx) (hda : ox.data = .fields vs)
    (hns : s.heap.Ns1 dx mA) (hp : errIn K C = true) (hs : findIn K (.ref C) "__setattr__" = some (some (.builtin "object.__setattr__"))) (hf : findIn K (.ref C) name = some none) (hw : Within mA ns) (hsz : ns.length ≤ sizeLine)
    (h : ∀ h' tk, h'.Ns1 dx (fun y => if y = name then some v else mA y) → Heap.SameBut dx s.heap h' → Q () { s with heap := h', toks := tk }) :
    wpAny (model prog w) A (setAttr (.ref x) name v) Q E s := by
  obtain ⟨hh, g, d, t, os⟩ := s
  obtain ⟨oD, _, _, hoD, _⟩ := id hns
  have J : InstAt hh x ox C (some oD) := ⟨hx, hcl, by unfold notCls; rw [hda], by rw [hdn]; exact hoD⟩
  refine set_plain X J hs (osa_err (s := ⟨hh, g, d, t + 1, os⟩) X J hp hf ?_)
  obtain ⟨cd, hc, ho⟩ := any_some hp
  rw [Bool.and_eq_true] at ho
  refine wpAny_bind (wpAny_pure (wpAny_bind (wpAny_bind (wpAny_loadPart hx ?_))))
  rw [hcl]
  refine wpAny_bind (Looks.here (s := ⟨hh, g, d, t + 1, os⟩) (looks_clsIn X hc) ?_)
  rw [ho.1, hdn]
  rw [if_neg (by decide)]
  refine wpAny_pure ?_
  show wpAny _ _ (Builtin.ObjectAttr.storeInDict dx (.str name t) name v) _ _ _
  unfold Builtin.ObjectAttr.storeInDict Builtin.ObjectAttr.newKeyGuard
  refine wpAny_bind (wpAny_pure (wpAny_bind (wpAny_nsSet1 hns fun h' hn' hs => ?_)))
  obtain ⟨oD, esD, epD, hoD, hdD, hcD⟩ := hn'.count (Within.cons name v hw)
  refine wpAny_bind (wpAny_lookBehind hoD (by rw [hdD]; exact pastItsLine_dict (Nat.le_trans hcD (by rw [List.length_cons]; omega))) ?_)
  exact wpAny_pure (h h' _ hn' hs)
end
end L2

namespace L2
open PySem PySem.Spec PyProof.Rows PySem.W
section
variable {M : Model} {A : Around} {E : Value → Shared → Prop} {env : Env}
variable {nm q : Str} {C N : Addr} {bs bm : List Value} {hdct : Bool} {sn : List Str} {sub : List Value} {ab : Bool} {col : Option Bool} {dd : Option Addr} {k0 k1 k2 k3 k5 : Option Value} {newId : String}
theorem raise_made {s : Shared} {x : Sem Value} {Q : Flow → Shared → Prop} (hbase : bm.contains (.type "BaseException") = true) (hh : A.handled = none)
    (h : wpAny M A x (fun v s₁ => ∃ e oe vs, v = .ref e ∧ s₁.heap.get? C = some (excClassObj nm q C N bs bm hdct sn sub ab col dd k0 k1 k2 k3 k5 newId) ∧
      s₁.heap.get? e = some oe ∧ oe.cls = .ref C ∧ oe.data = .fields vs ∧ vs[1]? = some .none ∧ E (.ref e) s₁) E s) :
    wpAny M A (raiseStmt env (some x) none) Q E s := by
  have hcB : (Value.ref C :: bm).contains (.type "BaseException") = true := by rw [List.contains_cons, hbase, Bool.or_true]
  unfold raiseStmt
  refine wpAny_bind (wpAny_mono h (fun v s₁ h₁ => ?_) fun _ _ x => x)
  obtain ⟨e, oe, vs, rfl, hC, he, hcls, hd, h1, hE⟩ := h₁
  obtain ⟨hp, g, d, tk, os⟩ := s₁
  obtain ⟨oc, odi, oda, osl⟩ := oe
  dsimp only at hcls hd
  subst hcls hd
  repeat (first | with_reducible refine wpAny_loadPart_at he ?_ | with_reducible refine wpAny_loadPart_at hC ?_ | (with_reducible refine wpAny_isSubtype_exc hC ?_; rw [hcB]) | with_reducible refine wpAny_field he rfl h1 ?_ | wp_step)
  exact wpAny_raiseNew_none hh hE
end
section
variable {prog : Program} {w : World} {A : Around} {E : Value → Shared → Prop} {s : Shared} {env : Env}
variable {nm q : Str} {C N : Addr} {bs bm bmB : List Value} {hdct : Bool} {sn : List Str} {sub : List Value} {ab : Bool} {col : Option Bool} {dd : Option Addr} {k0 k1 k2 k3 k5 : Option Value} {B newId initId : String}
theorem raise_init (F : ExcBaseFacts B newId initId bmB) {mN : Str → Option Value} {x : Str} {np cpos pos : Pos} {args : List Expr} {fI : Addr} {oI : Obj} {Q : Flow → Shared → Prop}
    (hbase : bm.contains (.type "BaseException") = true) (hh : A.handled = none) (hplain : (backTo cpos (starEach args env)).any (·.1) = false) (hi : mN "__init__" = some (.ref fI)) (hfc : oI.cls = .type "function")
    (h : wpAny (model prog w) A (eval (.Name x np) env) (fun f s₁ => f = .ref C ∧ wpAny (model prog w) A (evalArgs (.ref C) true (backTo cpos (starEach args env)) [])
      (fun a s₂ => a.kw = [] ∧ a.pos.length ≤ sizeLine ∧ s₂.heap.get? C = some (excClassObj nm q C N bs bm hdct sn sub ab col dd k0 k1 k2 k3 k5 newId) ∧ s₂.heap.Ns N mN ∧ OwnTail s₂.heap bmB bm ∧ s₂.heap.get? fI = some oI ∧
        ∀ h' e, s₂.heap.objs.size ≤ e → Heap.MadeExcOf s₂.heap h' e (.ref C) a.pos →
          wpAny (model prog w) (A.under (.builtin "type.__call__" ⟨.ref C :: a.pos, []⟩)) (call (.ref fI) (.ref e :: a.pos)) (fun r s' => r = .none ∧ ∃ oe vs, s'.heap.get? C = some (excClassObj nm q C N bs bm hdct sn sub ab col dd k0 k1 k2 k3 k5 newId) ∧
            s'.heap.get? e = some oe ∧ oe.cls = .ref C ∧ oe.data = .fields vs ∧ vs[1]? = some .none ∧ E (.ref e) s') E { s₂ with heap := h' }) E s₁) E s) :
    wpAny (model prog w) A (exec (.Raise (some (.Call (.Name x np) args [] cpos)) none pos) env) Q E s := by
  rw [arm_exec_Raise]
  refine wpAny_bind (wpAny_standAt (raise_made (C := C) (nm := nm) (q := q) (N := N) (bs := bs) (bm := bm) (hdct := hdct) (sn := sn) (sub := sub) (ab := ab) (col := col) (dd := dd) (k0 := k0) (k1 := k1) (k2 := k2) (k3 := k3) (k5 := k5) (newId := newId) hbase hh
    (wpAny_bind (wpAny_mono (wpAny_Call_ofName (wpAny_mono h (fun f s₁ h₁ => ?_) fun _ _ x => x)) (fun v s₃ h₃ => wpAny_bind (wpAny_standAt (wpAny_pure h₃))) fun _ _ x => x))))
  obtain ⟨rfl, h₁⟩ := h₁
  unfold callWith
  refine wpAny_bind (wpAny_holding (wpAny_mono h₁ (fun a s₂ h₂ => wpAny_bind (wpAny_standAt ?_)) fun _ _ x => x))
  obtain ⟨apos, akw⟩ := a
  obtain ⟨hkw, hlen, hC, hn, T, hfI, h₂⟩ := h₂
  obtain rfl : akw = [] := hkw
  obtain ⟨hp, g, d, tk, os⟩ := s₂
  simp only [hplain]
  refine wpAny_bind (wpAny_keeperOf_exc hC ?_)
  refine wpAny_bind (call_init (hrest := hlen) F T hC hn hi hfI hfc fun h' e hz hm => wpAny_mono (h₂ h' e hz hm) (fun r s' hr => ⟨hr.1, wpAny_bind (wpAny_holding (wpAny_point (wpAny_pure ?_)))⟩) fun _ _ x => x)
  obtain ⟨_, oe, vs, k1, k2, k3, k4, k5, k6⟩ := hr
  exact ⟨e, oe, vs, rfl, k1, k2, k3, k4, k5, k6⟩
end
/-! ### an error that is being made -/
noncomputable def XN (a C : Addr) (dx : Option Addr) : HO := .ext fun h => ∃ ob vs v0, h.get? a = some ob ∧ ob.cls = .ref C ∧ ob.dict = dx ∧ ob.data = .fields vs ∧ vs[0]? = some v0 ∧ vs[1]? = some .none
noncomputable def XD (d : Addr) (fs : List (Str × V)) : HO := .ext fun h => ∃ mA, h.Ns1 d mA ∧ (∀ f, RelO (fs.lookup f) (mA f)) ∧ PySem.Within mA (fs.map (·.1))
noncomputable def del (H : Hp) (a : Addr) : Hp := fun b => if b = a then none else H b
theorem del_ne {H : Hp} {a b : Addr} (h : b ≠ a) : del H a b = H b := by unfold del; rw [if_neg h]
theorem del_same {H : Hp} {a : Addr} : del H a a = none := by unfold del; rw [if_pos rfl]
theorem XN.get {P : Program} {w : World} {H : Hp} {h : Heap} {a C : Addr} {dx : Option Addr} (ok : HOk P w H h) (e : H a = some (XN a C dx)) : ∃ ob vs v0, h.get? a = some ob ∧ ob.cls = .ref C ∧ ob.dict = dx ∧ ob.data = .fields vs ∧ vs[0]? = some v0 ∧ vs[1]? = some .none := (ok a _ e).1
theorem XD.get {P : Program} {w : World} {H : Hp} {h : Heap} {d : Addr} {fs : List (Str × V)} (ok : HOk P w H h) (e : H d = some (XD d fs)) : ∃ mA, h.Ns1 d mA ∧ (∀ f, RelO (fs.lookup f) (mA f)) ∧ PySem.Within mA (fs.map (·.1)) := (ok d _ e).1
theorem XN.ok {P : Program} {w : World} {H : Hp} {h : Heap} {a C : Addr} {dx : Option Addr} (x : ∃ ob vs v0, h.get? a = some ob ∧ ob.cls = .ref C ∧ ob.dict = dx ∧ ob.data = .fields vs ∧ vs[0]? = some v0 ∧ vs[1]? = some .none) : ObjOk P w H h a (XN a C dx) := by
  obtain ⟨ob, vs, v0, he, r⟩ := x
  exact ⟨⟨ob, vs, v0, he, r⟩, ⟨ob, he⟩, fun h1 h2 ⟨ob, ws, v0, q, r⟩ k => ⟨ob, ws, v0, k _ q, r⟩⟩
theorem XD.ok {P : Program} {w : World} {H : Hp} {h : Heap} {d : Addr} {fs : List (Str × V)} (x : ∃ mA, h.Ns1 d mA ∧ (∀ f, RelO (fs.lookup f) (mA f)) ∧ PySem.Within mA (fs.map (·.1))) : ObjOk P w H h d (XD d fs) := by
  obtain ⟨mA, n, r⟩ := x
  obtain ⟨o, _, _, e, _⟩ := id n
  exact ⟨⟨mA, n, r⟩, ⟨o, e⟩, fun h1 h2 ⟨mA, n, r⟩ k => ⟨mA, n.at k, r⟩⟩
section
variable {X : Cx} {pins : List (Addr × Obj)} {σ : St} {H : Hp} {s : Shared} {a C : Addr} {φ : Heap → Prop}
theorem Inv.untrack (I : Inv X pins σ H s) (e : H a = some (.ext φ)) : Inv X pins σ (del H a) s := by
  have ne : ∀ b u, H b = some u → (∀ ψ, u ≠ .ext ψ) → b ≠ a := fun b u q n z => by rw [z, e] at q; exact n φ (Option.some.inj q).symm
  refine I.un (h' := s.heap) (t' := s.toks) ⟨fun b o q _ _ _ => q, fun b o q _ _ _ => ⟨o.slots, q⟩, fun b o q n _ => ?_, fun b o q _ => ⟨o, q⟩, fun b xs q => ?_, fun b o u q => ?_, fun b ps q => ⟨#[], ?_⟩⟩ fun b u q => ?_
  · by_cases hb : b = a
    · rw [hb]; exact del_same
    · rw [del_ne hb]; exact n
  · rw [del_ne (ne b _ q (by intro ψ z; cases z))]; exact q
  · rw [del_ne (ne b _ q (by intro ψ z; cases z))]; exact q
  · rw [del_ne (ne b _ q (by intro ψ z; cases z)), q]; simp
  · by_cases hb : b = a
    · rw [hb, del_same] at q; cases q
    · rw [del_ne hb] at q
      exact (I.hok b u q).stay (fun _ _ _ z => z) (fun c z => by rw [del_ne (ne c _ z (by intro ψ z; cases z))]; exact z) fun c xs z => by rw [del_ne (ne c _ z (by intro ψ z; cases z))]; exact z
theorem Inv.dictDone {d : Addr} {fs : List (Str × V)} (I : Inv X pins σ H s) (e : H d = some (XD d fs)) : Inv X pins σ (upd H d (.xd fs)) s := by
  obtain ⟨mA, n, r, _⟩ := XD.get I.hok e
  obtain ⟨o, _, _, q, _⟩ := id n
  exact I.write (h' := s.heap) (t' := s.toks) (x := d) (e := d) (by rw [e]; exact True.intro) (.inl rfl) (fun _ _ _ z => z) ⟨o, q⟩ ⟨mA, n, r⟩
end
end L2

namespace L2
open PySem PySem.Spec PyProof.Rows PySem.W
set_option genInjectivity false in
structure ErrC (K : Frag) (C f : Addr) : Prop where
  ini : ownInit K C f = true
  ei : errIn K C = true
  sa : findIn K (.ref C) "__setattr__" = some (some (.builtin "object.__setattr__"))
  fn : isFn K (.ref f) = true
set_option genInjectivity false in
structure BaseI (K : Frag) (B : Addr) : Prop where
  rd : readsIn K B (.type "type") = true
  fc : findCls K (.ref B) (.type "type") "__init__" = some (.val (.builtin "ValueError.__init__"))
  ga : specialIn K (.ref B) "__getattribute__" = some (some (.builtin "type.__getattribute__"))
theorem upd_id {H : Hp} {a : Addr} {o : HO} (e : H a = some o) : upd H a o = H := by
  funext b
  by_cases hb : b = a
  · subst hb; rw [upd_same, e]
  · rw [upd_ne hb]
noncomputable def tRaiseI (C : Addr) (sp : Sp) (E : XK) (t : TA) : TS := fun _ σ H => t σ H fun vs H1 => vs.length ≤ sizeLine ∧ ∀ x, H1 x = none → sp (.ref x :: vs) (upd H1 x (XN x C none)) (fun v H2 => v = .non ∧
  ((H2 x = some (XN x C none) ∧ E (.ref C) none (del H2 x)) ∨ ∃ d fs, d ≠ x ∧ H2 x = some (XN x C (some d)) ∧ H2 d = some (XD d fs) ∧ E (.ref C) (some d) (del (upd H2 d (.xd fs)) x))) E0
noncomputable def tXInit (K : Frag) (t : TA) : TE := fun σ H Q => t σ H fun vs H1 => ∃ a C dx rest f, vs = .ref a :: rest ∧ H1 a = some (XN a C dx) ∧ ErrC K C f ∧ rest.length ≤ sizeLine ∧ Q .non H1
noncomputable def sXFld (K : Frag) (ta tv : TE) (f : Str) : TS := fun D σ H => tv σ H fun y H1 => ta σ H1 fun x H2 => ∃ a C fI dx, x = .ref a ∧ H2 a = some (XN a C dx) ∧ ErrC K C fI ∧ NoAttr K C f ∧
  ((dx = none ∧ ∀ d, H2 d = none → D.nx σ (upd (upd H2 d (XD d [(f, y)])) a (XN a C (some d)))) ∨ ∃ d fs, dx = some d ∧ H2 d = some (XD d fs) ∧ fs.length < 1000 ∧ D.nx σ (upd H2 d (XD d (putF f y fs))))
noncomputable def tXFld (K : Frag) (ta : TE) (f : Str) : TE := fun σ H Q => ta σ H fun x H1 => ∃ a C d fs v, x = .ref a ∧ H1 a = some (XO a C (some d)) ∧ H1 d = some (.xd fs) ∧ XCls K C ∧ hasDictIn K C = true ∧ NoAttr K C f ∧ fs.lookup f = some v ∧ Q v H1
section
variable {X : Cx} {x f : Str} {B C fI : Addr} {k : Nat} {fd : FuncData} {ps : List Str} {sp : Sp} {E : XK} {e o value : Expr} {es : List Expr} {p np apos cpos pos pos' : Pos} {t : TA} {ta tv : TE}
theorem ps_raiseI (F : FnOk X.prog X.w X.K X.mg X.base CX0 k fI fd ps sp) (hr : Room (k + 1) X.A) (hb : Binds X.K fd ps []) (M : ErrC X.K C fI) (hg : Gl X x) (hm : X.mg x = some (.ref C)) (hc : X.calm = true) (hX : Xe X E) (ha : PA X (e :: es) t) (hex : X.ex = [] := by rfl)
    (he : starEach (e :: es) X.env = (false, eval e X.env) :: starEach es X.env := by rfl) (hplain : (backTo cpos (starEach es X.env)).any (·.1) = false := by rfl) (hdb : (x == ("__debug__" : Str)) = false := by decide) :
    PS X (.Raise (some (.Call (.Name x np) (e :: es) [] cpos)) none pos) (tRaiseI C sp E t) := by
  intro pins s σ H D I h
  obtain ⟨tl, N, nm, qn, bs, sn, sub, ab, col, dd, k0, k1, k2, k3, k5, mN, hC, hN, hni, T⟩ := init_obj I.ok.mod.kin M.ini
  obtain ⟨oI, hoI, hfc⟩ : ∃ oI, X.K.lookup fI = some oI ∧ oI.cls = .type "function" := Option.map_eq_some_iff.mp (beq_iff_eq.mp M.fn)
  have hfI := I.ok.mod.kin _ _ hoI
  refine raise_init (C := C) (nm := nm) (q := qn) (N := N) (bs := bs) (bm := tl) (hdct := true) (sn := sn) (sub := sub) (ab := ab) (col := col) (dd := dd) (k0 := k0) (k1 := k1) (k2 := k2) (k3 := k3) (k5 := k5) (fI := fI) (oI := oI)
    PySem.F.excBase_ValueError (mN := mN) (T.hasType PySem.F.excBase_ValueError.hasBase) (I.ok.hd hc) (by rw [he]; show (false || (backTo cpos (starEach es X.env)).any (·.1)) = false; rw [hplain]; rfl) hni hfc (ld_glob I hg hm ⟨rfl, ?_⟩ hdb)
  have h1 := ha cpos pins s σ H _ I h
  rw [he] at h1 ⊢
  refine Calls.evalArgs_plain (wpAny_mono h1 (fun us s2 h2 => ?_) fun _ _ y => y)
  obtain ⟨vs, H2, I2, rv, hz, hE⟩ := h2
  refine ⟨rfl, by rw [← rv.length]; exact hz, I2.bk _ _ hC, hN.keeps I2.bk, T.keeps I2.bk, I2.bk _ _ hfI, fun h' e hsz me => ?_⟩
  obtain ⟨t', hx, _, _⟩ := me.there
  have I3 : Inv X pins σ (upd H2 e (XN e C none)) { s2 with heap := h' } := I2.laid (t' := s2.toks) me.keeps hsz (XN.ok ⟨_, _, _, hx, rfl, rfl, rfl, rfl, rfl⟩)
  have hq := hE e (I2.hok.fresh hsz)
  have r2 : Vals (V.ref e :: vs) (Value.ref e :: us) := .cons rfl rv
  have hl : (Value.ref e :: us ++ []).length = ps.length := by
    have z := r2.length
    rw [F.len _ _ _ _ hq] at z
    rw [List.append_nil]; exact z.symm
  have hbb := hb { s2 with heap := h' } (Value.ref e :: us) I3.kIn hl
  rw [List.append_nil] at hbb
  have hs0 : X.s₀.heap.get? e = none := by
    cases qq : X.s₀.heap.get? e with
    | none => rfl
    | some o =>
      obtain ⟨o', q'⟩ := I2.base.there e o qq (by rw [hex]; simp)
      rw [me.new] at q'; cases q'
  refine wpAny_call (codeAny_mono (F.run _ X.stack _ _ ⟨Value.ref e :: us, []⟩ (Value.ref e :: us) _ _ E0 (hr.make C us []) (I3.env0.make C us []) hbb r2 hq) fun r s' hq' => ?_)
  cases r with
  | error e => exact False.elim hq'
  | ok fl =>
    cases fl with
    | ret u =>
      obtain ⟨v, H', I4, rv', ev, alt⟩ := I3.after hq'
      subst ev
      rcases alt with ⟨e1, hE⟩ | ⟨d, fs, dne, e1, e2, hE⟩
      · obtain ⟨ob, ws, v0, g1, g2, g3, g4, g5, g6⟩ := XN.get I4.hok e1
        exact ⟨rv', ob, ws, I4.bk _ _ hC, g1, g2, g4, g6, hX pins σ _ _ e (.ref C) none (I4.untrack e1) ⟨hs0, del_same, .inl ⟨ob, ws, g1, g2, g3, g4, g6⟩⟩ hE⟩
      · obtain ⟨ob, ws, v0, g1, g2, g3, g4, g5, g6⟩ := XN.get I4.hok e1
        have I5 := I4.dictDone e2
        have e3 : upd H' d (.xd fs) e = some (XN e C (some d)) := by rw [upd_ne (Ne.symm dne)]; exact e1
        exact ⟨rv', ob, ws, I4.bk _ _ hC, g1, g2, g4, g6, hX pins σ _ _ e (.ref C) (some d) (I5.untrack e3) ⟨hs0, del_same, .inl ⟨ob, ws, g1, g2, g3, g4, g6⟩⟩ hE⟩
    | next => exact False.elim hq'
    | brk => exact False.elim hq'
    | cont => exact False.elim hq'
theorem pe_xinit {pl : Sem Bool} (hg : Gl X x) (hm : X.mg x = some (.ref B)) (b : BaseI X.K B) (ha : PA X (e :: es) t) (hdb : (x == ("__debug__" : Str)) = false := by decide)
    (hst : starEach (e :: es) X.env = (false, eval e X.env) :: starEach es X.env := by rfl) (hpl : (backTo pos (starEach es X.env)).any (·.1) = false := by rfl)
    (ht : eval (.Call (.Attribute (.Name x p) "__init__" apos) (e :: es) [] pos) X.env = (do
      let ov ← eval (.Name x p) X.env
      standAt apos.atName
      let (f, first) ← holding [ov] (getMethod ov "__init__" pl)
      callWith pos f first (backTo pos (starEach (e :: es) X.env)) (backToKw pos (keywordEach [] X.env))) := by rfl) :
    PE X (.Call (.Attribute (.Name x p) "__init__" apos) (e :: es) [] pos) (tXInit X.K t) := by
  intro pins s σ H Q I h
  refine methodCall_KW (pl := pl) (ld_glob I hg hm ?_ hdb) ht
  refine method_cls I.kIn b.ga (cls_value I.kIn b.rd b.fc (by rfl) ?_)
  refine callWith_builtin1 (thn (ha pos pins _ σ H _ (I.tok (s.toks + 1)) h) fun us s1 ⟨vs, H1, I2, r, q⟩ => ?_) hst hpl
  obtain ⟨a, C, dx, rest, f, rfl, e1, M, hz, q⟩ := q
  cases r with
  | cons ra rr =>
    rename_i u us _
    obtain rfl : u = Value.ref a := ra
    obtain ⟨tl, N, nm, qn, bs, sn, sub, ab, col, dd, k0, k1, k2, k3, k5, mN, hC, hN, hni, T⟩ := init_obj I2.kIn M.ini
    obtain ⟨ob, ws, v0, g1, g2, g3, g4, g5, g6⟩ := XN.get I2.hok e1
    obtain ⟨hh, g, d, tk, os⟩ := s1
    have h0 := (Array.getElem?_eq_some_iff.mp g5).1
    refine base_init PySem.F.excBase_ValueError T hC g1 g2 g4 g5 (fun h' T' kk e' => ?_) (by rw [← rr.length]; exact hz)
    have I3 := I2.write (h' := h') (t' := tk) (x := a) (e := a) (o := XN a C dx) (by rw [e1]; exact True.intro) (.inl rfl) kk ⟨_, e'⟩
      (XN.ok ⟨_, ws.setIfInBounds 0 T', T', e', g2, g3, rfl, by simp [h0], by rw [Array.getElem?_setIfInBounds_ne (by decide)]; exact g6⟩)
    rw [upd_id e1] at I3
    exact ⟨.non, H1, I3, rfl, q⟩
theorem ps_xfld (ha : PE X o ta) (hv : PE X value tv) (hs : swapsWith value (some (.Attribute o f pos')) pos.line X.env = pure false) : PS X (.Assign [.Attribute o f pos'] value pos) (sXFld X.K ta tv f) := by
  intro pins s σ H D I h
  refine plainObj_wpAny_Assign_Attribute (thn (hv pins s σ H _ I h) fun u s1 hz => ?_) hs
  obtain ⟨y, H1, I1, ry, q⟩ := hz
  refine thn (ha pins s1 σ H1 _ I1 q) fun ov s2 hz => ?_
  obtain ⟨x, H2, I2, rx, a, C, fI, dx, ex, ea, M, n, q2⟩ := hz
  subst ex
  obtain rfl : ov = Value.ref a := rx
  obtain ⟨ob, ws, v0, g1, g2, g3, g4, g5, g6⟩ := XN.get I2.hok ea
  rcases q2 with ⟨rfl, q2⟩ | ⟨d, fs, rfl, ed, hl, q2⟩
  · refine set_err0 I2.kIn g1 g2 g3 g4 M.ei M.sa n fun h' tk k1 k2 k3 => ?_
    have hne : s2.heap.objs.size ≠ a := Ne.symm (Nat.ne_of_lt (Heap.lt_size g1))
    have hn := I2.hok.fresh (Nat.le_refl s2.heap.objs.size)
    refine ⟨σ, _, ?_, q2 s2.heap.objs.size hn⟩
    have na : ∀ b u, H2 b = some u → (∀ ψ, u ≠ .ext ψ) → b ≠ a := fun b u q nx z => by rw [z, ea] at q; exact nx _ (Option.some.inj q).symm
    have nd : ∀ b u, H2 b = some u → b ≠ s2.heap.objs.size := fun b u q => ne_of_none q hn
    have n0 : ∀ b, H2 b = none → b ≠ a := fun b q z => by rw [z, ea] at q; cases q
    have up : ∀ b, b ≠ a → b ≠ s2.heap.objs.size → upd (upd H2 s2.heap.objs.size (XD s2.heap.objs.size [(f, y)])) a (XN a C (some s2.heap.objs.size)) b = H2 b := fun b z1 z2 => by rw [upd_ne z1, upd_ne z2]
    refine I2.un (h' := h') (t' := tk) ⟨fun b o q m _ _ => k3 b o (n0 b m) q, fun b o q m _ _ => ⟨o.slots, k3 b o (n0 b m) q⟩, fun b o q m _ => ?_, fun b o q _ => ?_, fun b xs q => ?_, fun b o u q => ?_, fun b ps q => ⟨#[], ?_⟩⟩ fun b u q => ?_
    · rw [up b (n0 b m) (Nat.ne_of_lt (Heap.lt_size q))]; exact m
    · by_cases hb : b = a
      · rw [hb]; exact ⟨_, k1⟩
      · exact ⟨o, k3 b o hb q⟩
    · rw [up b (na b _ q (by intro ψ z; cases z)) (nd b _ q)]; exact q
    · rw [up b (na b _ q (by intro ψ z; cases z)) (nd b _ q)]; exact q
    · rw [up b (na b _ q (by intro ψ z; cases z)) (nd b _ q), q]; simp
    · by_cases hb : b = a
      · subst hb
        rw [upd_same] at q; cases q
        exact XN.ok ⟨_, ws, v0, k1, g2, rfl, g4, g5, g6⟩
      · by_cases hd : b = s2.heap.objs.size
        · subst hd
          rw [upd_ne hb, upd_same] at q; cases q
          refine XD.ok ⟨_, k2, fun g => ?_, fun g hg => ?_⟩
          · by_cases z : g = f
            · rw [if_pos z, z]; simp [List.lookup]; exact ry
            · have zb : (g == f) = false := beq_eq_false_iff_ne.mpr z
              rw [if_neg z]; simp only [List.lookup, zb]; trivial
          · by_cases z : g = f
            · rw [z]; simp
            · exact absurd (if_neg z) hg
        · rw [up b hb hd] at q
          refine (I2.hok b u q).stay (fun c v hc z => k3 c v ?_ z) (fun c z => by rw [up c (na c _ z (by intro ψ z; cases z)) (nd c _ z)]; exact z) fun c xs z => by rw [up c (na c _ z (by intro ψ z; cases z)) (nd c _ z)]; exact z
          rcases hc with z | z
          · rw [z]; exact hb
          · exact na c _ z (by intro ψ z; cases z)
  · obtain ⟨mA, n1, r, wi⟩ := XD.get I2.hok ed
    have hz : (fs.map (·.1)).length ≤ sizeLine := by rw [List.length_map, sizeLine_eq]; omega
    refine set_err1 I2.kIn g1 g2 g3 g4 n1 M.ei M.sa n wi hz fun h' tk k1 sb => ?_
    refine ⟨σ, _, ?_, q2⟩
    obtain ⟨od, _, _, hod, _⟩ := id k1
    refine I2.write (x := d) (e := d) (by rw [ed]; exact True.intro) (.inl rfl) (fun b q hb z => (sb.2 b hb).trans z) ⟨od, hod⟩ (XD.ok ⟨_, k1, fun g => ?_, fun g hg => ?_⟩)
    · show RelO ((putF f y fs).lookup g) (if g = f then some u else mA g)
      rw [lookup_putF]
      by_cases q : g = f
      · rw [if_pos q, if_pos q]; exact ry
      · rw [if_neg q, if_neg q]; exact r g
    · by_cases q : g = f
      · rw [q]; exact (keys_putF f y fs).1
      · refine (keys_putF f y fs).2 g (wi g fun z => hg ?_)
        show (if g = f then some u else mA g) = none
        rw [if_neg q]; exact z
end
end L2

namespace L2
open PySem PySem.Spec PyProof.Rows
section
variable {X : Cx}
theorem pss_weak {b : List Stmt} {t u : TS} (h : PSs X b t) (w : ∀ D σ H, u D σ H → t D σ H) : PSs X b u := fun pins s σ H D I q => h pins s σ H D I (w D σ H q)
end
end L2

/-! x = [.. for ..]: the store is done while the comprehension's frame stands yet -/
namespace L2
open PySem PySem.Spec PyProof.Rows
section
variable {X : Cx}
theorem ps_setC {elt iter tg : Expr} {ifs : List Expr} {scope : Scope} {pos spos py : Pos} {y : Str} {i : Nat} {N' : List Str} {k : Nat} {fm : List Nat} {wi : TI} {g : TG} {tt : TT} {te : TE} (hN : X.N.Nodup) (hi' : X.N[i]? = some y) (hy : Loc X.env.scope y) (B : BlkScope X N' k fm scope) (hc : X.calm = true) (hi : PI X tg iter wi)
    (hb : ∀ fp s H, PG (blk X N' scope fp s H) tg g ∧ PTs (blk X N' scope fp s H) ifs tt ∧ PE (blk X N' scope fp s H) elt te)
    (hsw : swapsWith (.ListComp elt [⟨tg, iter, ifs, 0⟩] scope pos) (some (.Name y py)) spos.line X.env = pure true := by rfl)
    (hs : ∀ x, foldedSetIterable iter X.env x = pure x := by intro _; rfl) (hfn : X.fn y = true ∨ X.env.scope.names.lookup y = some .local := by first | exact .inl rfl | exact .inr rfl | assumption) :
    PS X (.Assign [.Name y py] (.ListComp elt [⟨tg, iter, ifs, 0⟩] scope pos) spos) (tAsg (tComp k fm wi g tt te) (gName i)) := by
  intro pins s σ H DD I h
  have hfree : ∀ x ∈ scope.names, x.2 = .free → ∃ c, X.env.cells.lookup x.1 = some c := fun x hx hk => I.ok.has x.1 (B.free x hx hk)
  rw [exec_Assign_Name_used _ _ _ _ hsw]
  refine wpAny_bind (wpAny_standAt (wpAny_bind ?_))
  show wpAny _ X.A (do let _ ← comprehension (.ListComp elt [⟨tg, iter, ifs, 0⟩] scope pos) scope X.env _ (newList []) false (eval iter X.env) (some (assign (.Name y py) X.env))) _ _ s
  refine wpAny_bind (wpAny_mono (wpAny_comprehension_free (use := some (assign (.Name y py) X.env)) (Q := fun _ s' => SP X pins DD .next s') rfl hs (closureFor_eq hfree) B.kind B.names (thn (hi pins s σ H _ I h) fun v s1 h1 => thn h1 fun itv s2 h2 => ?_)) (fun _ s' hq => wpAny_pure (wpAny_pure hq)) fun _ _ e => e)
  obtain ⟨it, fp, tn, J, H2, e, I2, T, st2, f2, h2⟩ := h2
  subst e
  obtain ⟨W, ⟨m0, w0⟩, turn⟩ := h2 s2.heap.objs.size I2.fresh
  refine wpAny_newObj_type (wpAny_newFunctionEnv B.nocell (by intro y hy; simp at hy) (fun h4 hns4 hsb4 => ?_) B.kind)
  have I3 := I2.lnew (its := []) (ys := []) (t' := s2.toks) .nil (Nat.zero_le _)
  have hf3 : ∀ b ∈ fp, FpOk X pins (upd H2 s2.heap.objs.size (.lst [])) b := fun b hb => by
    obtain ⟨o, e, _⟩ := T.obj _ _ st2 b hb
    refine ⟨?_, (f2 b hb).2⟩
    rw [upd_ne (fun z => Nat.lt_irrefl _ (z ▸ Heap.lt_size e))]
    exact (f2 b hb).1
  have ho3 : ∀ b ∈ fp, ∃ o, (s2.heap.push { cls := .type "list", data := .seq ([] : List Value).toArray }).get? b = some o := fun b hb => by
    obtain ⟨o, e, _⟩ := T.obj _ _ st2 b hb
    exact ⟨o, Heap.get?_push_of_some _ e⟩
  have kp4 : ∀ b o, (s2.heap.push { cls := .type "list", data := .seq ([] : List Value).toArray }).get? b = some o → h4.get? b = some o := fun b o e =>
    hsb4.extBut b o (fun z => Nat.lt_irrefl _ (z ▸ Heap.lt_size e)) (Heap.get?_push_of_some _ e)
  have I4 := I3.block (fp := fp) (h' := h4) (tk := s2.toks + ([] : List (Str × Value)).length) B hf3 ho3 hns4 kp4
  generalize hs3 : ({ s2 with heap := s2.heap.push { cls := .type "list", data := .seq ([] : List Value).toArray }, toks := s2.toks } : Shared) = s3 at *
  obtain ⟨hg, ht, he⟩ := hb fp s3 (upd H2 s2.heap.objs.size (.lst []))
  have st4 : tn 0 h4 := T.keep _ _ _ st2 fun b hb o e => kp4 b o (Heap.get?_push_of_some _ e)
  have stat : ∀ {H' : Hp}, (∀ b ∈ fp, H' b = none) → ∀ b ∈ fp, FpOk (blk X N' scope fp s3 (upd H2 s2.heap.objs.size (.lst []))) [] H' b := fun {H'} hn b hb => by
    obtain ⟨f0, f1, f3, f4, f5, f6⟩ := hf3 b hb
    obtain ⟨g1, g2⟩ := I4.ok.exf b hb
    exact ⟨hn b hb, g1, I4.ok.exfs b hb, .inl hb, g2, fun p hp => f6 p ((List.mem_append.mp hp).elim (fun z => List.mem_append_left _ z) fun z => absurd z (by simp))⟩
  have loop : codeAny (model X.prog X.w) X.A (.compLoop (.ListComp elt [⟨tg, iter, ifs, 0⟩] scope pos) 0 (.ref it) (.ref s2.heap.objs.size) (compEnvC scope (clOf X.env scope.names []) s3.heap.objs.size X.env))
      (compPost (model X.prog X.w) X.A X.xe (some (assign (.Name y py) X.env)) (fun _ s' => SP X pins DD .next s') (.ref s2.heap.objs.size) s3.heap.objs.size) { s3 with heap := h4, toks := s2.toks + ([] : List (Str × Value)).length } := by
    refine blk_loop (X := blk X N' scope fp s3 (upd H2 s2.heap.objs.size (.lst []))) (D := s2.heap.objs.size) (Q := fun v H' => DD.nx (σ.set i (some v)) H') (W := W) (m0 := m0) rfl hc T stat hg ht he turn I4 st4 (fun b hb => (hf3 b hb).1) w0 ?_
    intro H' s' I' q
    obtain ⟨m, hn, _⟩ := I'.loc
    have hCn : s3.heap.get? s3.heap.objs.size = none := by
      cases e : s3.heap.get? s3.heap.objs.size with
      | none => rfl
      | some o => exact absurd (Heap.lt_size e) (Nat.lt_irrefl _)
    have J : ∀ h'' : Heap, (∀ b o, b ≠ s3.heap.objs.size → s'.heap.get? b = some o → h''.get? b = some o) → Inv X pins σ H' { s' with heap := h'' } := fun h'' hk => by
      have u : Un (frs X.stack) fp (upd H2 s2.heap.objs.size (.lst [])) H' s3.heap h'' := Un.tail I'.base hk hCn
      refine I3.call' (s' := { s' with heap := h'' }) (ch := fp) I'.os u (I'.hok.tail hk I'.free) I'.bare fun b hb => ?_
      obtain ⟨f0, f1, f3, f4, f5, f6⟩ := hf3 b hb
      exact ⟨f4, f1, f5, f6⟩
    have J1 : Inv X pins σ H' s' := J s'.heap fun _ _ _ e => e
    obtain ⟨oC, es, ep, hoC, hdC, rC⟩ := hn
    have hCf : H' s3.heap.objs.size = none := I'.free
    have hCL : s3.heap.objs.size ≠ X.env.locals := Ne.symm (Nat.ne_of_lt I3.lt)
    have hCfs := I3.nofs (Nat.le_refl _)
    have J2 : Inv X (pins ++ [(s3.heap.objs.size, oC)]) σ H' s' := J1.pins_of fun p hp => by
      rcases List.mem_append.mp hp with z | z
      · exact J1.pin p (List.mem_append_right _ z)
      · rw [List.mem_singleton.mp z]
        exact ⟨hoC, hCf, hCL, hCfs, fun v e => by rw [hdC] at e; cases e⟩
    show wpAny _ X.A (assign (.Name y py) X.env (.ref s2.heap.objs.size)) _ _ _
    refine wpAny_assign_Name (store_ok J2 hN hi' hy (v := .ref s2.heap.objs.size) rfl (fun s5 I5 => ?_) hfn)
    have hC5 := (I5.pin (s3.heap.objs.size, oC) (List.mem_append_right _ (List.mem_append_right _ (List.mem_singleton.mpr rfl)))).1
    refine ⟨m, ⟨oC, es, ep, hC5, hdC, rC⟩, fun h'' hs'' => ?_⟩
    have I6 : Inv X pins (σ.set i (some (.ref s2.heap.objs.size))) H' s5 := I5.pins_of fun p hp => I5.pin p (List.mem_append_right _ (List.mem_append_left _ hp))
    refine ⟨_, H', I6.turned (t' := s5.toks) (it := s3.heap.objs.size) (fun b o hb e => hs''.extBut b o hb e) hCf hCL (.inr I3.sz) (fun x c e z => ?_) (fun p hp z => ?_), q⟩
    · obtain ⟨v, o, ho, _⟩ := I3.cell x c e
      rw [z] at ho
      exact absurd (Heap.lt_size ho) (Nat.lt_irrefl _)
    · have z' := (I3.pin p hp).1
      rw [z] at z'
      exact absurd (Heap.lt_size z') (Nat.lt_irrefl _)
  subst hs3
  exact codeAny_compStart_list loop (T.self X.A 0 _ _ _ st4 loop)
end
end L2

/-! dict(d), d == e, xs.count(x) -/
namespace L2
open PySem PySem.Spec PyProof.Rows
section
variable {prog : Program} {w : World} {K : Type} [DecidableEq K] {knd : KeyKind prog w K} {A : Around} {E : Value → Shared → Prop} {s : Shared}
theorem find_at {es : Array DictEntry} {ys : List (K × Value)} {i : Nat} {k : K} {v : Value} (hp : Pairs knd es.toList ys) (hn : (ys.map (·.1)).Nodup) (hi : ys[i]? = some (k, v)) : es.findIdx? (fun e => knd.is k e.key) = some i := by
  have hlen := hp.length
  have hlt : i < ys.length := (List.getElem?_eq_some_iff.mp hi).1
  have hes : i < es.size := by rw [← Array.length_toList, hlen]; exact hlt
  rw [Array.findIdx?_eq_some_iff_getElem]
  refine ⟨hes, ?_, fun j hj => ?_⟩
  · exact (hp.get? (e := es[i]) (by simp [hes]) hi).1
  · have hjs : j < es.size := Nat.lt_trans hj hes
    have hjy : j < ys.length := by rw [← hlen, Array.length_toList]; exact hjs
    obtain ⟨kv, hkv⟩ : ∃ kv, ys[j]? = some kv := ⟨_, List.getElem?_eq_getElem hjy⟩
    obtain ⟨k', v'⟩ := kv
    have h1 := (hp.get? (e := es[j]) (by simp [hjs]) hkv).1
    intro z
    have e : k' = k := knd.inj _ _ _ h1 z
    subst e
    have a1 : (ys.map (·.1))[i]? = some k' := by rw [List.getElem?_map, hi]; rfl
    have a2 : (ys.map (·.1))[j]? = some k' := by rw [List.getElem?_map, hkv]; rfl
    have : i = j := (List.getElem?_inj (by rw [List.length_map]; exact hlt) hn).mp (a1.trans a2.symm)
    omega
theorem same_pairs {id : String} {a b : Addr} {xs ys : List (K × Value)} {Q : Bool → Shared → Prop} (ha : (a == sysModules) = false) (hb : (b == sysModules) = false) (da : s.heap.DictOf knd a xs) (db : s.heap.DictOf knd b ys)
    (hk : xs.map (·.1) = ys.map (·.1)) (he : ∀ (i : Nat) (k : K) (u v : Value), xs[i]? = some (k, u) → ys[i]? = some (k, v) → SeqAt.EqAt A s u v true) (q : Q true s) : wpAny (model prog w) A (Builtin.Dict.samePairs id a b) Q E s := by
  obtain ⟨oa, ea, pa, goa, xa, dda, ka, psa, na⟩ := da
  obtain ⟨ob, eb, pb, gob, xb, ddb, kb, psb, nb⟩ := db
  have la := psa.length
  have lb := psb.length
  have lxy : xs.length = ys.length := by have := congrArg List.length hk; simpa using this
  have hsz : ea.size = eb.size := by rw [← Array.length_toList, ← Array.length_toList, la, lb, lxy]
  unfold Builtin.Dict.samePairs Builtin.Dict.showsAll
  rw [ha, hb]
  refine wpAny_bind (wpAny_pure (wpAny_bind (wpAny_pure (wpAny_bind (wpAny_dictEntries goa dda (wpAny_bind (wpAny_dictEntries gob ddb ?_)))))))
  rw [if_neg (by simp [hsz])]
  refine wpAny_bind (wpAny_dictEpoch goa dda ?_)
  refine wpAny_bind ?_
  rw [Std.Legacy.Range.forIn_eq_forIn_range']
  simp only [Std.Legacy.Range.size, Nat.sub_zero, Nat.add_sub_cancel, Nat.div_one]
  refine wpAny_forIn_list _ (fun rest st s' => s' = s ∧ st = ⟨none, PUnit.unit⟩ ∧ ∃ i, rest = List.range' i (ea.size - i) ∧ i ≤ ea.size) _ ?_ ?_ _ _ ⟨rfl, rfl, 0, by simp, Nat.zero_le _⟩
  · rintro x rest st s' ⟨rfl, rfl, i, hr, hi⟩
    have hlt : i < ea.size := by
      rcases Nat.lt_or_ge i ea.size with h | h
      · exact h
      · rw [Nat.sub_eq_zero_of_le h] at hr; simp at hr
    obtain ⟨rfl, hrest⟩ : x = i ∧ rest = List.range' (i + 1) (ea.size - (i + 1)) := by
      have e : ea.size - i = (ea.size - (i + 1)) + 1 := by omega
      rw [e, List.range'_succ] at hr
      injection hr with h1 h2
      exact ⟨h1, h2⟩
    refine wpAny_bind (wpAny_dictEntries goa dda ?_)
    rw [Array.getElem?_eq_getElem hlt]
    have hx : x < xs.length := by rw [← la, Array.length_toList]; exact hlt
    have hy : x < ys.length := by rw [← lxy]; exact hx
    obtain ⟨⟨k, u⟩, hkv⟩ : ∃ kv, xs[x]? = some kv := ⟨_, List.getElem?_eq_getElem hx⟩
    obtain ⟨⟨k2, v⟩, hkv2⟩ : ∃ kv, ys[x]? = some kv := ⟨_, List.getElem?_eq_getElem hy⟩
    have ek : k2 = k := by
      have a1 : (xs.map (·.1))[x]? = some k := by rw [List.getElem?_map, hkv]; rfl
      have a2 : (ys.map (·.1))[x]? = some k2 := by rw [List.getElem?_map, hkv2]; rfl
      rw [hk, a2] at a1
      exact Option.some.inj a1
    subst ek
    obtain ⟨hkey, hval⟩ := psa.get? (e := ea[x]) (by simp [hlt]) hkv
    obtain ⟨k', hkey', hhash⟩ := ka ea[x] (Array.getElem_mem hlt)
    obtain rfl : k' = k2 := knd.inj _ _ _ hkey' hkey
    have hxb : x < eb.size := by rw [← hsz]; exact hlt
    obtain ⟨_, hval2⟩ := psb.get? (e := eb[x]) (by simp [hxb]) hkv2
    show wpAny _ _ (holding [ea[x].key, ea[x].val] _ >>= _) _ _ _
    refine wpAny_bind (wpAny_holding ?_)
    rw [hhash]
    refine wpAny_bind (wpAny_dictFind_of hkey gob ddb kb ?_)
    rw [find_at psb nb hkv2]
    refine wpAny_bind (wpAny_dictEntries gob ddb ?_)
    rw [Array.getElem?_eq_getElem hxb]
    show wpAny _ _ (holding [eb[x].val] (eqBool ea[x].val eb[x].val)) _ _ _
    rw [hval, hval2]
    refine wpAny_holding (he x k' u v hkv hkv2 prog w _ _ ?_)
    rw [if_neg (by decide)]
    refine wpAny_bind (wpAny_dictEpoch goa dda ?_)
    rw [if_neg (by simp)]
    exact wpAny_pure ⟨rfl, rfl, x + 1, hrest, hlt⟩
  · rintro st s' ⟨rfl, rfl, i, hr, hi⟩
    exact wpAny_pure q
theorem dict_eqAt {a b : Addr} {xs ys : List (K × Value)} (ha : (a == sysModules) = false) (hb : (b == sysModules) = false) (hk : xs.map (·.1) = ys.map (·.1)) :
    MeetsIn prog w (Builtin.«dict.__eq__» ⟨[.ref a, .ref b], []⟩) (fun A R s => s.heap.DictOf knd a xs ∧ s.heap.DictOf knd b ys ∧ (∀ (i : Nat) (k : K) (u v : Value), xs[i]? = some (k, u) → ys[i]? = some (k, v) → SeqAt.EqAt A.in1 s u v true) ∧ R (.ok (.ret (.bool true))) s) := by
  intro A R s ⟨da, db, he, q⟩
  obtain ⟨hp, g, d, tk, os⟩ := s
  have ta := da.typeIs
  have tb := db.typeIs
  show wpAny _ _ (Builtin.Dict.dictSlotArgs "__eq__" ⟨[.ref a, .ref b], []⟩ >>= fun so => isInstance so.2 (.type "dict") >>= fun i => if (!i) = true then (rule s!"dict.{"__eq__"}.not-a-dict" >>= fun _ => ret .notImplemented) else (Builtin.Dict.addrOf so.1 >>= fun x => Builtin.Dict.addrOf so.2 >>= fun y => Builtin.Dict.samePairs s!"dict.{"__eq__"}" x y >>= fun r => ret (.bool (r == true)))) _ _ _
  unfold Builtin.Dict.dictSlotArgs
  refine wpAny_bind (wpAny_bind (wpAny_notOrdered_dict ta ?_))
  refine wpAny_bind (wpAny_pure (wpAny_pure (wpAny_bind (wpAny_isInstance tb isSubtype_dict_dict ?_))))
  rw [if_neg (by decide)]
  exact wpAny_bind (wpAny_pure (wpAny_bind (wpAny_pure (wpAny_bind (same_pairs ha hb da db hk he (wpAny_pure q))))))
end
section
variable {X : Cx}
noncomputable def rEqDict (K : PySem.W.Frag) : R2 := fun x y H Q => ∃ p q kvs, x = .ref p ∧ y = .ref q ∧ H p = some (.dK kvs) ∧ H q = some (.dK kvs) ∧ (∀ kv ∈ kvs, ∃ d, Rep K H d kv.2 ∧ dep d ≤ 20) ∧ Q (.bl true) H
theorem op_eqDict (hu : X.A.units + 64 < cLine) : OpR X (compareOp .Eq) (rEqDict X.K) := by
  intro pins s σ H x y v u Q I rx ry h
  obtain ⟨p, q, kvs, rfl, rfl, hp, hq, hd, k⟩ := h
  cases rx
  cases ry
  obtain ⟨_, hS, vs, rel, dd⟩ := dk_of I.hok hp
  obtain ⟨_, hS', vs', rel', dd'⟩ := dk_of I.hok hq
  have keys : ∀ {l : List (Key × V)} {m : List (Key × Value)}, KV l m → m.map (·.1) = l.map (·.1) := fun {l m} r => by
    induction r with
    | nil => rfl
    | cons h _ ih => rw [List.map_cons, List.map_cons, ih, h.1]
  have at_ : ∀ {l : List (Key × V)} {m : List (Key × Value)} (r : KV l m) (i : Nat) (k : Key) (w : Value), m[i]? = some (k, w) → ∃ z, l[i]? = some (k, z) ∧ RelV z w := fun {l m} r => by
    induction r with
    | nil => intro i k w e; simp at e
    | @cons a b l m h _ ih =>
      intro i k w e
      cases i with
      | zero =>
        rw [List.getElem?_cons_zero] at e
        cases e
        obtain ⟨a1, a2⟩ := a
        exact ⟨a2, by rw [List.getElem?_cons_zero]; congr 1; exact Prod.ext h.1 rfl, h.2⟩
      | succ i => exact ih i k w (by simpa using e)
  show wpAny _ _ (richCompare .Eq (.ref p) (.ref q)) _ _ _
  refine wpAny_richCompare_same_room (op := .Eq) dd.typeIs dd'.typeIs PySem.F.slot_dict_eq (call_meetsIn PySem.F.slot_dict_eq dd.typeIs PySem.F.entry_dict_eq (PySem.F.args_dict_eq_2 _ _) (dict_eqAt hS hS' ((keys rel).trans (keys rel').symm)) ⟨dd, dd', fun i kk w1 w2 e1 e2 => ?_, ?_⟩) (by omega)
  · obtain ⟨z1, f1, r1⟩ := at_ rel i kk w1 e1
    obtain ⟨z2, f2, r2⟩ := at_ rel' i kk w2 e2
    rw [f1] at f2
    cases f2
    obtain ⟨d, rd, hdep⟩ := hd (kk, z1) (List.mem_of_getElem? f1)
    have z := eq_deep I d d z1 z1 w1 w2 X.A.in1 (by show X.A.units + 1 + dep d < cLine; omega) rd rd r1 r2
    rw [deq_refl] at z
    exact z
  · show Value.bool true ≠ Value.notImplemented ∧ EP X pins σ Q (.bool true) s
    exact ⟨fun z => (nomatch z), V.bl true, H, I, rfl, k⟩
theorem op_eqDictK {K : PySem.W.Frag} (hu : X.A.units + 64 < cLine) (e : X.K = K) : OpR X (compareOp .Eq) (rEqDict K) := e ▸ op_eqDict hu
noncomputable def rDictOf : List V → Hp → VK → Prop := fun xs H Q => ∃ p kvs, xs = [.ref p] ∧ H p = some (.dK kvs) ∧ ∀ q, H q = none → Q (.ref q) (upd H q (.dK kvs))
theorem call_dictOf : CallR X (.type "dict") rDictOf := by
  intro pins s σ H xs us Q I r h
  obtain ⟨p, kvs, rfl, e, k⟩ := h
  obtain ⟨u, rfl, rx⟩ := vals1 r
  cases rx
  obtain ⟨z, hS, vs, rel, dd⟩ := dk_of I.hok e
  refine kt_call_dict hS dd (by rw [← Paired.length rel]; exact z) fun h' hd sb => ?_
  have kp : ∀ b o, s.heap.get? b = some o → h'.get? b = some o := fun b o q => (sb.2 b (Nat.ne_of_lt (Heap.lt_size q))).trans (Heap.get?_push_of_some _ q)
  exact ⟨.ref s.heap.objs.size, _, I.laid (a := s.heap.objs.size) (o := .dK kvs) (t' := s.toks) kp (Nat.le_refl _) (dk_new z (beq_eq_false_iff_ne.mpr (Ne.symm (Nat.ne_of_lt I.big))) rel hd), rfl, k _ (I.hok.fresh (Nat.le_refl _))⟩
noncomputable def cntV (x : V) (xs : List V) : Nat := xs.countP fun y => eqV y x
noncomputable def rCount (K : PySem.W.Frag) : V → List V → Hp → VK → Prop := fun x vs H Q => ∃ p xs y, x = .ref p ∧ vs = [y] ∧ SqL K H p xs ∧ flatV y = true ∧ xs.all flatV = true ∧ Q (.int (cntV y xs : Nat)) H
end
end L2

/-! a comprehension whose element may raise -/
namespace L2
open PySem PySem.Spec PyProof.Rows
section
variable {M : Model} {A : Around} {E : Value → Shared → Prop} {s : Shared}
end
section
variable {prog : Program} {w : World} {A : Around} {R : Result → Shared → Prop} {s : Shared}
end
section
variable {X : Cx}
noncomputable def tCompX (E : XK) (k : Nat) (fm : List Nat) (wi : TI) (g : TG) (tt : TT) (te : TEX) : TE := fun σ H Q => wi σ H fun J H1 => ∀ D, H1 D = none → ∃ W : Nat → Nat → List V → Hp → Prop,
  (∃ m, W 0 m [] (upd H1 D (.lst []))) ∧ ∀ i m ys H2, W i m ys H2 → H2 D = some (.lst ys) ∧ ys.length < sizeLine ∧ ((J.stop i H2 ∧ Q (.ref D) H2) ∨ (J.go i H2 ∧ ∃ N : List V → Hp → Prop, (∀ ys' H', N ys' H' → ∃ m', m' < m ∧ W (i + 1) m' ys' H') ∧ ∀ x H3, J.yld i H2 x H3 →
    g x (blkSt k fm σ) H3 fun σ3 H4 => Ext (blkSt k fm σ) σ3 ∧ tt σ3 H4 fun b H5 => if b = true then te σ3 H5 (fun y H6 => H6 D = some (.lst ys) ∧ N (ys ++ [y]) (upd H6 D (.lst (ys ++ [y])))) E else N ys H5))
end
/-! ### the readings -/
noncomputable def CompWX (E : XK) (g : TG) (tt : TT) (te : TEX) (σ0 : St) (Q : VK) (J : It) (H1 : Hp) : Prop := ∀ DD, H1 DD = none → ∃ W : Nat → Nat → List V → Hp → Prop,
  (∃ m, W 0 m [] (upd H1 DD (.lst []))) ∧ ∀ i m ys H2, W i m ys H2 → H2 DD = some (.lst ys) ∧ ys.length < sizeLine ∧ ((J.stop i H2 ∧ Q (.ref DD) H2) ∨ (J.go i H2 ∧ ∃ N : List V → Hp → Prop, (∀ ys' H', N ys' H' → ∃ m', m' < m ∧ W (i + 1) m' ys' H') ∧ ∀ x H3, J.yld i H2 x H3 →
    g x σ0 H3 fun σ3 H4 => Ext σ0 σ3 ∧ tt σ3 H4 fun b H5 => if b = true then te σ3 H5 (fun y H6 => H6 DD = some (.lst ys) ∧ N (ys ++ [y]) (upd H6 DD (.lst (ys ++ [y])))) E else N ys H5))
noncomputable def CompLX (K : PySem.W.Frag) (E : XK) (g : TG) (tt : TT) (te : TEX) (σ0 : St) (Q : VK) : VK := fun x H1 => ∃ a, x = .ref a ∧ (∃ xs, SqL K H1 a xs) ∧ CompWX E g tt te σ0 Q (Itl K a) H1
section
variable {K : PySem.W.Frag} {k : Nat} {fm : List Nat} {tl : TE} {te : TEX} {g : TG} {tt : TT} {σ σ0 : St} {H H1 : Hp} {Q : VK} {E : XK}
theorem tCompX_list : tCompX E k fm (iList K tl) g tt te σ H Q = tl σ H (CompLX K E g tt te (blkSt k fm σ) Q) := rfl
end
section
variable {M : Model} {A : Around} {E : Value → Shared → Prop} {s : Shared}
end
end L2

/-! lists and dicts cleared -/
namespace L2
open PySem PySem.Spec PyProof.Rows
section
variable {X : Cx}
noncomputable def rClearD : V → List V → Hp → VK → Prop := fun x vs H Q => ∃ l kvs, x = .ref l ∧ vs = [] ∧ H l = some (.dK kvs) ∧ Q .non (upd H l (.dK []))
theorem mt_cleardict : MtM X "dict.clear" rClearD := by
  intro pins s σ H x vs v us Q I rx rv h
  obtain ⟨l, xs, rfl, rfl, hH, q⟩ := h
  cases rx
  have hus := rv.zero
  subst hus
  exact d_clear I hH fun s' I' => ⟨.non, _, I', rfl, q⟩
end
end L2

/-! sorted(..) of texts: of a list, of a dict's keys -/
namespace L2
open PySem PySem.Spec PyProof.Rows
section
variable {X : Cx}
theorem kv_keys {kvs : List (Key × V)} {vs : List (Key × Value)} (r : KV kvs vs) : kvs.map (·.1) = vs.map (·.1) := by
  unfold KV at r
  induction r with
  | nil => rfl
  | cons h _ ih => rw [List.map_cons, List.map_cons, h.1, ih]
end
end L2

/-! dict(list of pairs) -/
namespace L2
open PySem
section
variable {prog : Program} {w : World} {A : Around} {E : Value → Shared → Prop} {s : Shared}
set_option maxHeartbeats 3200000 in
set_option maxHeartbeats 3200000 in
set_option maxHeartbeats 3200000 in
end
section
open PyProof.Rows PySem.Spec
variable {X : Cx}
end
end L2

/-! two lists walked side by side -/
namespace L2
open PySem PySem.Spec PyProof.Rows
section
variable {X : Cx} {pins : List (Addr × Obj)} {σ : List (Option V)} {H H' : Hp} {s : Shared} {h' : Heap}
theorem Inv.turnedL {t' : Nat} {fp : List Addr} (I : Inv X pins σ H s) (k : ∀ b o, b ∉ fp → s.heap.get? b = some o → h'.get? b = some o) (hf : ∀ b ∈ fp, FpOk X pins H b) : Inv X pins σ H { s with heap := h', toks := t' } := by
  have nit : ∀ b u, H b = some u → b ∉ fp := fun b u e z => by rw [(hf b z).1] at e; cases e
  have hL : X.env.locals ∉ fp := fun z => (hf _ z).2.1 rfl
  refine I.step (g' := s.gens) (d' := s.drawn) (ch := fp) (fun b hb => ?_) (fun b o _ _ hc e _ => k b o hc e) (fun b o _ _ hc e _ => ⟨o.slots, k b o hc e⟩) (fun _ _ _ _ n => n)
    (fun b o hc e => ⟨o, k b o hc e⟩) (fun _ _ e => e) (fun _ _ _ e => e) (fun b ps e => ⟨#[], by rw [e]; simp⟩) (fun m hm => ?_) (fun b u e => ?_) I.bare
  · obtain ⟨_, a1, _, a2, a3, a4⟩ := hf b hb
    exact ⟨a2, a1, a3, a4⟩
  · obtain ⟨o, es, ep, ho, r⟩ := hm
    exact ⟨o, es, ep, k _ o hL ho, r⟩
  · refine (I.hok b u e).stay (fun c v hc q => k c v ?_ q) (fun _ q => q) fun _ _ q => q
    rcases hc with z | z
    · rw [z]; exact nit b u e
    · exact nit c _ z
theorem Inv.turnedT {t' : Nat} {fp : List Addr} {q : Addr} {xs : List V} (I : Inv X pins σ H s) (k : ∀ b o, b ∉ fp → s.heap.get? b = some o → h'.get? b = some o) (hf : ∀ b ∈ fp, FpOk X pins H b) (hq : s.heap.objs.size ≤ q) (new : ObjOk X.prog X.w (upd H q (.tup xs)) h' q (.tup xs)) :
    Inv X pins σ (upd H q (.tup xs)) { s with heap := h', toks := t' } := by
  have nit : ∀ b u, H b = some u → b ∉ fp := fun b u e z => by rw [(hf b z).1] at e; cases e
  have hL : X.env.locals ∉ fp := fun z => (hf _ z).2.1 rfl
  have fq : H q = none := I.hok.fresh hq
  have ne : ∀ b u, H b = some u → b ≠ q := fun b u e z => by rw [z, fq] at e; cases e
  have ne' : ∀ b (o : Obj), s.heap.get? b = some o → b ≠ q := fun b o e z => absurd (Heap.lt_size e) (by rw [z]; exact Nat.not_lt.mpr hq)
  refine I.step (g' := s.gens) (d' := s.drawn) (ch := fp) (fun b hb => ?_) (fun b o _ _ hc e _ => k b o hc e) (fun b o _ _ hc e _ => ⟨o.slots, k b o hc e⟩) (fun b o _ e n => by rw [upd_ne (ne' b o e)]; exact n)
    (fun b o hc e => ⟨o, k b o hc e⟩) (fun b _ e => by rw [upd_ne (ne b _ e)]; exact e) (fun b _ _ e => by rw [upd_ne (ne b _ e)]; exact e) (fun b ps e => ⟨#[], by rw [upd_ne (ne b _ e), e]; simp⟩) (fun m hm => ?_) (fun b u e => ?_) I.bare
  · obtain ⟨_, a1, _, a2, a3, a4⟩ := hf b hb
    exact ⟨a2, a1, a3, a4⟩
  · obtain ⟨o, es, ep, ho, r⟩ := hm
    exact ⟨o, es, ep, k _ o hL ho, r⟩
  · by_cases z : b = q
    · subst z
      rw [upd_same] at e
      cases e
      exact new
    · rw [upd_ne z] at e
      refine (I.hok b u e).stay (fun c v hc q => k c v ?_ q) (fun c q => ?_) fun c o q => ?_
      · rcases hc with z | z
        · rw [z]; exact nit b u e
        · exact nit c _ z
      · rw [upd_ne (ne c _ q)]; exact q
      · rw [upd_ne (ne c _ q)]; exact q
end
section
variable {X : Cx}
end
section
variable {K : PySem.W.Frag} {k : Nat} {fm : List Nat} {te : TE} {ta : TA} {g : TG} {tt : TT} {σ σ0 : St} {H H1 : Hp} {Q : VK}
end
end L2

/-! a list walked with its numbers -/
namespace L2
open PySem PySem.Spec PyProof.Rows
theorem PS.nox {X : Cx} {st : Stmt} {t : TS} (h : PS X.nox st t) : PS X st t := fun pins s σ H D I hw =>
  wpAny_mono (h pins s σ H D (I.wish _) hw) (fun _ _ q => q.unwish) fun _ _ q => q.elim
noncomputable def Ite (K : PySem.W.Frag) (a : Addr) : It :=
  ⟨fun i H => ∃ xs x, SqL K H a xs ∧ xs[i]? = some x,
   fun i H v H' => ∃ q x, v = .ref q ∧ H q = none ∧ (∀ xs, SqL K H a xs → xs[i]? = some x) ∧ H' = upd H q (.tup [.int i, x]),
   fun i H => ∃ xs, SqL K H a xs ∧ xs.length ≤ i⟩
noncomputable def Te (e it l : Addr) (i : Nat) (h : Heap) : Prop := (∃ old, IsEnum h e it i old) ∧ h.IsListIter it l i
theorem turn_enum {P : Program} {w : World} {K : PySem.W.Frag} {elts : List Expr} {x1} {pos : Pos} {e it : Addr} (l : Addr) (f : e ≠ it) : Turn P w K (.Tuple elts x1 pos) (Ite K l) [e, it] e (Te e it l) where
  mem := by simp
  obj := fun i h st b hb => by
    obtain ⟨⟨old, t1⟩, ⟨o4, t4, c4, d4⟩⟩ := st
    simp only [List.mem_cons, List.not_mem_nil, or_false] at hb
    rcases hb with rfl | rfl
    · exact ⟨_, t1, fun v q => by cases q⟩
    · exact ⟨_, t4, fun v q => by rw [d4] at q; cases q⟩
  keep := fun i h h' st k => by
    obtain ⟨⟨old, t1⟩, t4⟩ := st
    exact ⟨⟨old, k e (by simp) _ t1⟩, t4.at fun o q => k it (by simp) o q⟩
  item := by
    intro X hP hw hK hc i pins s σ H E I hf st hg
    subst hP hw hK
    obtain ⟨xs, x, q1, hx⟩ := hg
    obtain ⟨its1, rv1, p1, _⟩ := I.list q1
    obtain ⟨u, hu, ru⟩ := rv1.get hx
    obtain ⟨⟨old, t1⟩, t4⟩ := id st
    have lt : ∀ b ∈ [e, it], b < s.heap.objs.size := fun b hb => by
      simp only [List.mem_cons, List.not_mem_nil, or_false] at hb
      rcases hb with rfl | rfl
      · exact Heap.lt_size t1
      · obtain ⟨_, q, _⟩ := t4; exact Heap.lt_size q
    refine wpAny_pyNext_enum_item t1 t4 p1.isList (x := u) (by simpa using hu) f fun h' z' i1' pr sz kp => ⟨.ref s.heap.objs.size, rfl, ?_⟩
    refine wpAny_letOwnedTupleGo_enum z' fun h'' z'' sb => ?_
    have nz : s.heap.objs.size ≠ e := Nat.ne_of_gt (lt e (by simp))
    have kk : ∀ b o, b ∉ [e, it] → s.heap.get? b = some o → h''.get? b = some o := fun b o nb q => by
      simp only [List.mem_cons, List.not_mem_nil, or_false, not_or] at nb
      exact (sb.2 b nb.1).trans (kp b o nb.1 nb.2 q)
    have new : IsTup h'' s.heap.objs.size #[.int i s.toks, u] := ⟨_, (sb.2 _ nz).trans pr, rfl, 0, rfl⟩
    refine ⟨.ref s.heap.objs.size, _, I.turnedT (q := s.heap.objs.size) (xs := [.int i, x]) (t' := s.toks + 1) kk hf (Nat.le_refl _) ⟨by rw [sizeLine_eq]; exact (by decide : (2 : Nat) ≤ 16777216), [_, u], .cons ⟨_, rfl⟩ (.cons ru .nil), new⟩, rfl, ⟨_, x, rfl, I.hok.fresh (Nat.le_refl _), fun zs hz => by rw [I.list_inj hz q1]; exact hx, rfl⟩, ?_, fun b hb => ?_⟩
    · exact ⟨⟨_, by have : ((i + 1 : Nat) : Int) = (i : Int) + 1 := by push_cast; rfl
                    rw [this]; exact z''⟩, i1'.at fun o q => (sb.2 _ (Ne.symm f)).trans q⟩
    · rw [upd_ne (Nat.ne_of_lt (lt b hb))]; exact (hf b hb).1
  done := by
    intro X hP hw hK hc i pins s σ H E I hf st hg
    subst hP hw hK
    obtain ⟨xs, q1, hx⟩ := hg
    obtain ⟨its1, rv1, p1, _⟩ := I.list q1
    obtain ⟨⟨old, t1⟩, t4⟩ := id st
    have e1 := rv1.length
    refine wpAny_pyNext_enum_end (I.ok.hd hc) t1 t4 p1.isList (by simp; omega) fun h' kp => ⟨rfl, I.turnedL (t' := s.toks) (fun b o nb q => ?_) hf⟩
    simp only [List.mem_cons, List.not_mem_nil, or_false, not_or] at nb
    exact kp b o nb.2 q
  self := fun _ _ _ _ _ st h => by
    obtain ⟨⟨old, t1⟩, _⟩ := st
    exact wpAny_pyIter_enum t1 h
section
variable {X : Cx}
theorem boot_enumerate : bootBuiltins "enumerate" = some (.type "enumerate") := by decide +kernel
noncomputable def iEnum (K : PySem.W.Frag) (ta : TA) : TI := fun σ H R => ta σ H fun vs H1 => ∃ a xs, vs = [.ref a] ∧ SqL K H1 a xs ∧ R (Ite K a) H1
theorem pi_enum {K : PySem.W.Frag} (eK : X.K = K) {elts : List Expr} {x1} {tp : Pos} {a : Expr} {ta : TA} {p pos : Pos} (hg : Gl X "enumerate") (hm : X.mg "enumerate" = none) (ha : PA X [a] ta) (hs : starEach [a] X.env = [(false, eval a X.env)] := by rfl) :
    PI X (.Tuple elts x1 tp) (.Call (.Name "enumerate" p) [a] [] pos) (iEnum K ta) := by
  subst eK
  intro pins s σ H R I h
  refine Call_ (ld_blt I hg hm boot_enumerate (PyProof.Rows.callWith_type1 (thn (ha pos pins s σ H _ I h) fun us s1 ⟨vs, H1, I1, r1, q1⟩ => ?_) (by rw [hs]; rfl) (by rfl)))
  obtain ⟨l1, xs, e, h1, q⟩ := q1
  subst e
  cases r1 with
  | cons r rr =>
    cases rr
    cases r
    obtain ⟨its1, rv1, p1, _⟩ := I1.list h1
    refine call_enumerate_list p1.isList fun h' z j1 sz kp => ?_
    have I2 := I1.kept (h' := h') (t' := s1.toks) kp
    refine wpAny_pyIter_enum z ?_
    refine ⟨_, _, _, _, H1, rfl, I2, turn_enum l1 (Nat.succ_ne_self _), ⟨⟨_, z⟩, j1⟩, fun b hb => ?_, q⟩
    have lb : s1.heap.objs.size ≤ b := by
      simp only [List.mem_cons, List.not_mem_nil, or_false] at hb
      rcases hb with rfl | rfl
      · exact Nat.le_add_right _ 1
      · exact Nat.le_refl _
    exact I1.fpOk lb (I1.hok.fresh lb)
noncomputable def rSum (K : PySem.W.Frag) : List V → Hp → VK → Prop := fun xs H Q => ∃ (a : Addr) (ns : List Int), xs = [.ref a] ∧ SqL K H a (ns.map V.int) ∧ Q (.int ns.sum) H
end
noncomputable def ForE (K : PySem.W.Frag) (g : TG) (tb : TS) (D : Ends) (σ : St) : List V → Hp → Prop := fun vs H1 => ∃ a xs, vs = [.ref a] ∧ SqL K H1 a xs ∧ ForW g tb D σ (Ite K a) H1
section
variable {K : PySem.W.Frag} {te : TE} {ta : TA} {g : TG} {tb : TS} {D : Ends} {σ : St} {H : Hp}
theorem tFor_enum : tFor (iEnum K ta) g tb D σ H = ta σ H (ForE K g tb D σ) := rfl
theorem ForE.of {a : Addr} {xs : List V} (Pv : Nat → St → Hp → Prop) (h0 : Pv 0 σ H) (hl : ∀ i σ H, i ≤ xs.length → Pv i σ H → SqL K H a xs)
    (hs : ∀ i x σ H q, xs[i]? = some x → Pv i σ H → H q = none → g (.ref q) σ (upd H q (.tup [.int i, x])) fun σ2 H2 => tb { D with nx := Pv (i + 1), ct := Pv (i + 1), bk := D.nx } σ2 H2) (hd : ∀ σ H, Pv xs.length σ H → D.nx σ H) : ForE K g tb D σ [.ref a] H := by
  refine ⟨a, xs, rfl, hl 0 _ _ (Nat.zero_le _) h0, fun i m σ H => m = xs.length - i ∧ i ≤ xs.length ∧ Pv i σ H, ⟨xs.length, by simp, Nat.zero_le _, h0⟩, ?_⟩
  rintro i m σ H ⟨rfl, hi, p⟩
  have q := hl i σ H hi p
  by_cases hlt : i < xs.length
  · refine .inr ⟨⟨xs, xs[i], q, by simp [hlt]⟩, Pv (i + 1), fun σ' H' p' => ⟨xs.length - (i + 1), by omega, rfl, hlt, p'⟩, fun x H' y => ?_⟩
    obtain ⟨b, u, rfl, nb, y, rfl⟩ := y
    exact hs i u σ H b (y xs q) p nb
  · have e : i = xs.length := by omega
    subst e
    exact .inl ⟨⟨xs, q, Nat.le_refl _⟩, hd σ H p⟩
end
end L2

/-! a dict's keys walked: the dict stands still from there on -/
namespace L2
open PySem PySem.Spec PyProof.Rows
theorem Inv.freeze {X : Cx} {pins : List (Addr × Obj)} {σ : St} {H : Hp} {s : Shared} {a : Addr} {kvs : List (Key × V)} (I : Inv X pins σ H s) (e : H a = some (.dK kvs)) :
    ∃ (o : Obj) (vs : List (Key × Value)) (ep : Nat), s.heap.get? a = some o ∧ (a == sysModules) = false ∧ KV kvs vs ∧ PySem.W.KdkAt (mixKind X.prog X.w) o vs ep ∧ Inv X pins σ (upd H a (.frz o (.dK kvs))) s := by
  obtain ⟨z, hS, vs, rel, dd⟩ := dk_of I.hok e
  obtain ⟨ep, o, es, ho, r⟩ := dd.dictAt
  refine ⟨o, vs, ep, ho, hS, rel, ⟨es, r⟩, ?_⟩
  have ne : ∀ {b : Addr} {u : HO}, H b = some u → u ≠ .dK kvs → b ≠ a := fun {b u} q n z => by rw [z, e] at q; cases q; exact n rfl
  refine I.step (h' := s.heap) (g' := s.gens) (d' := s.drawn) (t' := s.toks) (ch := []) (fun _ z => nomatch z) (fun b o _ _ _ q _ => q) (fun b o _ _ _ q _ => ⟨o.slots, q⟩) (fun b o _ _ n => ?_) (fun b o _ q => ⟨o, q⟩)
    (fun b xs q => by rw [upd_ne (ne q (fun z => nomatch z))]; exact q) (fun b o u q => by rw [upd_ne (ne q (fun z => nomatch z))]; exact q) (fun b ps q => ⟨#[], by rw [upd_ne (ne q (fun z => nomatch z)), q]; simp⟩) (fun m hm => hm) (fun b u q => ?_) I.bare
  · rw [upd_ne (fun z => by rw [z, e] at n; cases n)]; exact n
  · by_cases z : b = a
    · subst z
      rw [upd_same] at q
      cases q
      exact ⟨ho, I.hok b _ e⟩
    · rw [upd_ne z] at q
      refine (I.hok b u q).stay (fun c v _ r => r) (fun c r => ?_) fun c xs r => ?_
      · rw [upd_ne (ne r (fun z => nomatch z))]; exact r
      · rw [upd_ne (ne r (fun z => nomatch z))]; exact r
noncomputable def Itd (a : Addr) (o : Obj) (kvs : List (Key × V)) : It :=
  ⟨fun i H => H a = some (.frz o (.dK kvs)) ∧ ∃ p, kvs[i]? = some p,
   fun i H v H' => H' = H ∧ ∃ p, kvs[i]? = some p ∧ v = kV p.1,
   fun i H => H a = some (.frz o (.dK kvs)) ∧ kvs.length ≤ i⟩
theorem KV.len {kvs : List (Key × V)} {vs : List (Key × Value)} (h : KV kvs vs) : kvs.length = vs.length := Paired.length h
theorem turn_dict {P : Program} {w : World} {K : PySem.W.Frag} {tg : Expr} {a it : Addr} {o : Obj} {kvs : List (Key × V)} {vs : List (Key × Value)} {ep : Nat} (rel : KV kvs vs) (kd : PySem.W.KdkAt (mixKind P w) o vs ep) :
    Turn P w K tg (Itd a o kvs) [it] it (fun i h => h.IsKeyIter it a i vs.length ep) where
  mem := by simp
  obj := fun i h st b hb => by
    have e : b = it := by simpa using hb
    subst e
    obtain ⟨o, e, c, d⟩ := st
    exact ⟨o, e, fun v z => by rw [d] at z; cases z⟩
  keep := fun i h h' st k => st.at fun o e => k it (by simp) o e
  item := by
    intro X hP hw hK hc i pins s σ H E I hf st hg
    subst hP hw hK
    obtain ⟨hH, p, hp⟩ := hg
    obtain ⟨ho, _⟩ := (show ObjOk X.prog X.w H s.heap a (.frz o (.dK kvs)) from I.hok a _ hH)
    have hl := rel.len
    have hil := (List.getElem?_eq_some_iff.mp hp).1
    have hv : vs[i]? = some vs[i] := List.getElem?_eq_getElem (by omega)
    have hk : vs[i].1 = p.1 := by
      have e1 : (kvs.map (·.1))[i]? = some p.1 := by rw [List.getElem?_map, hp]; rfl
      rw [kv_keys rel, List.getElem?_map, hv] at e1
      exact Option.some.inj e1
    obtain ⟨f0, f1, f2, f3, f4, f5⟩ := hf it (by simp)
    refine wpAny_pyNext_dict_item st (PySem.W.KdkAt.dictAt kd ho) (k := vs[i].1) (v := vs[i].2) hv fun key h' hkey st' sb => ?_
    have I1 : Inv X pins σ H { s with heap := h' } := I.turned (t' := s.toks) (fun b o hb e => (sb.2 b hb).trans e) f0 f1 f3 f4 f5
    obtain ⟨oi, e, c, d⟩ := id st'
    rw [hk] at hkey
    have rk : RelV (kV p.1) key := by
      rcases keyIs_shape hkey with ⟨n, t, e1, rfl⟩ | ⟨x, t, e1, rfl⟩
      · rw [e1]; exact ⟨t, rfl⟩
      · rw [e1]; exact ⟨t, rfl⟩
    exact ⟨key, rfl, go_of (s := { s with heap := h' }) e c d (by decide) ⟨kV p.1, H, I1, rk, ⟨rfl, p, hp, rfl⟩, st', fun b hb => (hf b hb).1⟩⟩
  done := by
    intro X hP hw hK hc i pins s σ H E I hf st hg
    subst hP hw hK
    obtain ⟨hH, hi⟩ := hg
    obtain ⟨ho, _⟩ := (show ObjOk X.prog X.w H s.heap a (.frz o (.dK kvs)) from I.hok a _ hH)
    obtain ⟨f0, f1, f2, f3, f4, f5⟩ := hf it (by simp)
    have hl := rel.len
    exact wpAny_pyNext_dict_end (I.ok.hd hc) st (PySem.W.KdkAt.dictAt kd ho) (by simp; omega) fun h' eb => ⟨rfl, I.turned (t' := s.toks) (fun b o hb e => eb b o hb e) f0 f1 f3 f4 f5⟩
  self := fun _ _ _ _ _ st h => wpAny_pyIter_keyiter st h
section
variable {X : Cx}
noncomputable def iDict (te : TE) : TI := fun σ H R => te σ H fun x H1 => ∃ a kvs, x = .ref a ∧ H1 a = some (.dK kvs) ∧ ∀ o, R (Itd a o kvs) (upd H1 a (.frz o (.dK kvs)))
theorem pi_dict {tg l : Expr} {tl : TE} (hl : PE X l tl) : PI X tg l (iDict tl) := by
  intro pins s σ H R I h
  refine thn (hl pins s σ H _ I h) fun v s1 ⟨x, H1, I1, r1, q1⟩ => ?_
  obtain ⟨a, kvs, e, hq, q⟩ := q1
  subst e
  cases r1
  obtain ⟨o, vs, ep, ho, hS, rel, kd, I2⟩ := I1.freeze hq
  refine wpAny_pyIter_dict hS (PySem.W.KdkAt.dictAt kd ho) ?_
  refine ⟨s1.heap.objs.size, [s1.heap.objs.size], _, _, _, rfl, I2.kept (t' := s1.toks) fun b o e => Heap.get?_push_of_some _ e, turn_dict rel kd, ⟨_, Heap.get?_push_size _ rfl, rfl, rfl⟩, fun b hb => ?_, q o⟩
  have e : b = s1.heap.objs.size := by simpa using hb
  subst e
  exact I2.fpOk (Nat.le_refl _) (I2.hok.fresh (Nat.le_refl _))
end
noncomputable def ForD (g : TG) (tb : TS) (D : Ends) (σ : St) : VK := fun x H1 => ∃ a kvs, x = .ref a ∧ H1 a = some (.dK kvs) ∧ ∀ o, ForW g tb D σ (Itd a o kvs) (upd H1 a (.frz o (.dK kvs)))
section
variable {te : TE} {g : TG} {tb : TS} {D : Ends} {σ : St} {H : Hp}
theorem tFor_dict : tFor (iDict te) g tb D σ H = te σ H (ForD g tb D σ) := rfl
theorem ForD.of {a : Addr} {kvs : List (Key × V)} (hd : H a = some (.dK kvs)) (Pv : Obj → Nat → St → Hp → Prop) (h0 : ∀ o, Pv o 0 σ (upd H a (.frz o (.dK kvs)))) (hl : ∀ o i σ H, i ≤ kvs.length → Pv o i σ H → H a = some (.frz o (.dK kvs)))
    (hs : ∀ o i p σ H, kvs[i]? = some p → Pv o i σ H → g (kV p.1) σ H fun σ2 H2 => tb { D with nx := Pv o (i + 1), ct := Pv o (i + 1), bk := D.nx } σ2 H2) (he : ∀ o σ H, Pv o kvs.length σ H → D.nx σ H) : ForD g tb D σ (.ref a) H := by
  refine ⟨a, kvs, rfl, hd, fun o => ⟨fun i m σ H => m = kvs.length - i ∧ i ≤ kvs.length ∧ Pv o i σ H, ⟨kvs.length, by simp, Nat.zero_le _, h0 o⟩, ?_⟩⟩
  rintro i m σ H ⟨rfl, hi, p⟩
  have q := hl o i σ H hi p
  by_cases hlt : i < kvs.length
  · refine .inr ⟨⟨q, kvs[i], by simp [hlt]⟩, Pv o (i + 1), fun σ' H' p' => ⟨kvs.length - (i + 1), by omega, rfl, hlt, p'⟩, fun x H' y => ?_⟩
    obtain ⟨rfl, u, hu, rfl⟩ := y
    exact hs o i u σ _ hu p
  · have e : i = kvs.length := by omega
    subst e
    exact .inl ⟨⟨q, Nat.le_refl _⟩, he o σ H p⟩
end
end L2

set_option maxHeartbeats 0
set_option pp.deepTerms true
set_option pp.maxSteps 100000
namespace My
open PySem PySem.Spec PyProof.Rows L2
noncomputable def top (i : Nat) : Stmt := PySem.Challenge.pw_joinload_k45_loaded_words.main.body.getD i (.Pass ⟨0, 0, 0, 0⟩)
noncomputable abbrev s_NoBase___init__ : Stmt := inClass (top 4) 0
noncomputable abbrev s_wrapped : Stmt := top 7
noncomputable abbrev s_with_field : Stmt := top 8
noncomputable abbrev s_ones : Stmt := top 9
noncomputable abbrev s_moved : Stmt := top 10
noncomputable abbrev s_rule_of : Stmt := top 12
noncomputable abbrev s_Rule___init__ : Stmt := inClass (top 13) 0
noncomputable abbrev s_Whole_filled : Stmt := inClass (top 14) 0
noncomputable abbrev s_High_filled : Stmt := inClass (top 15) 0
noncomputable abbrev s_Low_filled : Stmt := inClass (top 16) 0
noncomputable abbrev s_loaded : Stmt := top 21
noncomputable abbrev s_start_of : Stmt := top 22
noncomputable abbrev s_refuse_no_base : Stmt := top 23
noncomputable abbrev s__law_whole : Stmt := top 25
noncomputable abbrev s__law_cell_at : Stmt := top 26
noncomputable abbrev s__law_target_by : Stmt := top 27
noncomputable abbrev s__law_put : Stmt := top 28
noncomputable abbrev s__law_end : Stmt := top 29
noncomputable abbrev s__law_built : Stmt := top 30
noncomputable abbrev s__law_base_by : Stmt := top 31
noncomputable abbrev s__law_copy : Stmt := top 32
noncomputable abbrev s__law_filled_so : Stmt := top 33
noncomputable abbrev s__law_due_words : Stmt := top 34
noncomputable abbrev s__law_loaded_so : Stmt := top 35
noncomputable abbrev s_law : Stmt := top 36
theorem bt_bool : bootBuiltins "bool" = some (.type "bool") := by decide +kernel
theorem bt_dict : bootBuiltins "dict" = some (.type "dict") := by decide +kernel
theorem bt_int : bootBuiltins "int" = some (.type "int") := by decide +kernel
theorem bt_isinstance : bootBuiltins "isinstance" = some (.builtin "isinstance") := by decide +kernel
theorem bt_len : bootBuiltins "len" = some (.builtin "len") := by decide +kernel
theorem bt_list : bootBuiltins "list" = some (.type "list") := by decide +kernel
theorem bt_max : bootBuiltins "max" = some (.builtin "max") := by decide +kernel
theorem bt_str : bootBuiltins "str" = some (.type "str") := by decide +kernel
theorem relI {i : Int} {t : Tok} : RelV (.int i) (.int i t) := ⟨t, rfl⟩
theorem relT {n : String} : RelV (.ty n) (.type n) := rfl
set_option genInjectivity false in
structure Ad where
  NoBase___init__ : Addr
  fd_NoBase___init__ : FuncData
  wrapped : Addr
  fd_wrapped : FuncData
  with_field : Addr
  fd_with_field : FuncData
  ones : Addr
  fd_ones : FuncData
  moved : Addr
  fd_moved : FuncData
  rule_of : Addr
  fd_rule_of : FuncData
  Rule___init__ : Addr
  fd_Rule___init__ : FuncData
  Whole_filled : Addr
  fd_Whole_filled : FuncData
  High_filled : Addr
  fd_High_filled : FuncData
  Low_filled : Addr
  fd_Low_filled : FuncData
  loaded : Addr
  fd_loaded : FuncData
  start_of : Addr
  fd_start_of : FuncData
  refuse_no_base : Addr
  fd_refuse_no_base : FuncData
  _law_whole : Addr
  fd__law_whole : FuncData
  _law_cell_at : Addr
  fd__law_cell_at : FuncData
  _law_target_by : Addr
  fd__law_target_by : FuncData
  _law_put : Addr
  fd__law_put : FuncData
  _law_end : Addr
  fd__law_end : FuncData
  _law_built : Addr
  fd__law_built : FuncData
  _law_base_by : Addr
  fd__law_base_by : FuncData
  _law_copy : Addr
  fd__law_copy : FuncData
  _law_filled_so : Addr
  fd__law_filled_so : FuncData
  _law_due_words : Addr
  fd__law_due_words : FuncData
  _law_loaded_so : Addr
  fd__law_loaded_so : FuncData
  law : Addr
  fd_law : FuncData
  t_WORD_COUNT : Tok
  c_High : Addr
  c_JoinError : Addr
  c_Low : Addr
  c_NoBase : Addr
  c_Whole : Addr
set_option genInjectivity false in
structure Txt (K : PySem.W.Frag) (mg : Str → Option Value) (A : Ad) : Prop where
  k_NoBase___init__ : PySem.W.keepIn K (.ref A.NoBase___init__) = true
  b_NoBase___init__ : Binds K A.fd_NoBase___init__ ["self", "base"] []
  F_NoBase___init__ : Fun K "__init__" "NoBase.__init__" s_NoBase___init__ A.NoBase___init__ A.fd_NoBase___init__
  m_wrapped : mg "wrapped" = some (.ref A.wrapped)
  k_wrapped : PySem.W.keepIn K (.ref A.wrapped) = true
  b_wrapped : Binds K A.fd_wrapped ["number"] []
  F_wrapped : Fun K "wrapped" "wrapped" s_wrapped A.wrapped A.fd_wrapped
  m_with_field : mg "with_field" = some (.ref A.with_field)
  k_with_field : PySem.W.keepIn K (.ref A.with_field) = true
  b_with_field : Binds K A.fd_with_field ["word", "low", "many", "number"] []
  F_with_field : Fun K "with_field" "with_field" s_with_field A.with_field A.fd_with_field
  m_ones : mg "ones" = some (.ref A.ones)
  k_ones : PySem.W.keepIn K (.ref A.ones) = true
  b_ones : Binds K A.fd_ones ["many"] []
  F_ones : Fun K "ones" "ones" s_ones A.ones A.fd_ones
  m_moved : mg "moved" = some (.ref A.moved)
  k_moved : PySem.W.keepIn K (.ref A.moved) = true
  b_moved : Binds K A.fd_moved ["number", "up"] []
  F_moved : Fun K "moved" "moved" s_moved A.moved A.fd_moved
  m_rule_of : mg "rule_of" = some (.ref A.rule_of)
  k_rule_of : PySem.W.keepIn K (.ref A.rule_of) = true
  b_rule_of : Binds K A.fd_rule_of ["title"] []
  F_rule_of : Fun K "rule_of" "rule_of" s_rule_of A.rule_of A.fd_rule_of
  k_Rule___init__ : PySem.W.keepIn K (.ref A.Rule___init__) = true
  b_Rule___init__ : Binds K A.fd_Rule___init__ ["self", "title"] []
  F_Rule___init__ : Fun K "__init__" "Rule.__init__" s_Rule___init__ A.Rule___init__ A.fd_Rule___init__
  k_Whole_filled : PySem.W.keepIn K (.ref A.Whole_filled) = true
  b_Whole_filled : Binds K A.fd_Whole_filled ["self", "word", "here", "there"] []
  F_Whole_filled : Fun K "filled" "Whole.filled" s_Whole_filled A.Whole_filled A.fd_Whole_filled
  k_High_filled : PySem.W.keepIn K (.ref A.High_filled) = true
  b_High_filled : Binds K A.fd_High_filled ["self", "word", "here", "there"] []
  F_High_filled : Fun K "filled" "High.filled" s_High_filled A.High_filled A.fd_High_filled
  k_Low_filled : PySem.W.keepIn K (.ref A.Low_filled) = true
  b_Low_filled : Binds K A.fd_Low_filled ["self", "word", "here", "there"] []
  F_Low_filled : Fun K "filled" "Low.filled" s_Low_filled A.Low_filled A.fd_Low_filled
  m_loaded : mg "loaded" = some (.ref A.loaded)
  k_loaded : PySem.W.keepIn K (.ref A.loaded) = true
  b_loaded : Binds K A.fd_loaded ["whole", "base"] []
  F_loaded : Fun K "loaded" "loaded" s_loaded A.loaded A.fd_loaded
  m_start_of : mg "start_of" = some (.ref A.start_of)
  k_start_of : PySem.W.keepIn K (.ref A.start_of) = true
  b_start_of : Binds K A.fd_start_of ["whole", "base"] []
  F_start_of : Fun K "start_of" "start_of" s_start_of A.start_of A.fd_start_of
  m_refuse_no_base : mg "refuse_no_base" = some (.ref A.refuse_no_base)
  k_refuse_no_base : PySem.W.keepIn K (.ref A.refuse_no_base) = true
  b_refuse_no_base : Binds K A.fd_refuse_no_base ["whole", "base"] []
  F_refuse_no_base : Fun K "refuse_no_base" "refuse_no_base" s_refuse_no_base A.refuse_no_base A.fd_refuse_no_base
  m__law_whole : mg "_law_whole" = some (.ref A._law_whole)
  k__law_whole : PySem.W.keepIn K (.ref A._law_whole) = true
  b__law_whole : Binds K A.fd__law_whole ["_law_found"] []
  F__law_whole : Fun K "_law_whole" "_law_whole" s__law_whole A._law_whole A.fd__law_whole
  m__law_cell_at : mg "_law_cell_at" = some (.ref A._law_cell_at)
  k__law_cell_at : PySem.W.keepIn K (.ref A._law_cell_at) = true
  b__law_cell_at : Binds K A.fd__law_cell_at ["_law_script", "_law_k"] []
  F__law_cell_at : Fun K "_law_cell_at" "_law_cell_at" s__law_cell_at A._law_cell_at A.fd__law_cell_at
  m__law_target_by : mg "_law_target_by" = some (.ref A._law_target_by)
  k__law_target_by : PySem.W.keepIn K (.ref A._law_target_by) = true
  b__law_target_by : Binds K A.fd__law_target_by ["_law_number"] []
  F__law_target_by : Fun K "_law_target_by" "_law_target_by" s__law_target_by A._law_target_by A.fd__law_target_by
  m__law_put : mg "_law_put" = some (.ref A._law_put)
  k__law_put : PySem.W.keepIn K (.ref A._law_put) = true
  b__law_put : Binds K A.fd__law_put ["_law_cell", "_law_parts", "_law_leans", "_law_end_here"] []
  F__law_put : Fun K "_law_put" "_law_put" s__law_put A._law_put A.fd__law_put
  m__law_end : mg "_law_end" = some (.ref A._law_end)
  k__law_end : PySem.W.keepIn K (.ref A._law_end) = true
  b__law_end : Binds K A.fd__law_end ["_law_parts"] []
  F__law_end : Fun K "_law_end" "_law_end" s__law_end A._law_end A.fd__law_end
  m__law_built : mg "_law_built" = some (.ref A._law_built)
  k__law_built : PySem.W.keepIn K (.ref A._law_built) = true
  b__law_built : Binds K A.fd__law_built ["_law_script", "_law_most"] []
  F__law_built : Fun K "_law_built" "_law_built" s__law_built A._law_built A.fd__law_built
  m__law_base_by : mg "_law_base_by" = some (.ref A._law_base_by)
  k__law_base_by : PySem.W.keepIn K (.ref A._law_base_by) = true
  b__law_base_by : Binds K A.fd__law_base_by ["_law_whole_here", "_law_cell"] []
  F__law_base_by : Fun K "_law_base_by" "_law_base_by" s__law_base_by A._law_base_by A.fd__law_base_by
  m__law_copy : mg "_law_copy" = some (.ref A._law_copy)
  k__law_copy : PySem.W.keepIn K (.ref A._law_copy) = true
  b__law_copy : Binds K A.fd__law_copy ["_law_whole_here"] []
  F__law_copy : Fun K "_law_copy" "_law_copy" s__law_copy A._law_copy A.fd__law_copy
  m__law_filled_so : mg "_law_filled_so" = some (.ref A._law_filled_so)
  k__law_filled_so : PySem.W.keepIn K (.ref A._law_filled_so) = true
  b__law_filled_so : Binds K A.fd__law_filled_so ["_law_rule", "_law_word", "_law_there", "_law_found"] []
  F__law_filled_so : Fun K "_law_filled_so" "_law_filled_so" s__law_filled_so A._law_filled_so A.fd__law_filled_so
  m__law_due_words : mg "_law_due_words" = some (.ref A._law_due_words)
  k__law_due_words : PySem.W.keepIn K (.ref A._law_due_words) = true
  b__law_due_words : Binds K A.fd__law_due_words ["_law_whole_here"] []
  F__law_due_words : Fun K "_law_due_words" "_law_due_words" s__law_due_words A._law_due_words A.fd__law_due_words
  m__law_loaded_so : mg "_law_loaded_so" = some (.ref A._law_loaded_so)
  k__law_loaded_so : PySem.W.keepIn K (.ref A._law_loaded_so) = true
  b__law_loaded_so : Binds K A.fd__law_loaded_so ["_law_found", "_law_whole_here", "_law_base"] []
  F__law_loaded_so : Fun K "_law_loaded_so" "_law_loaded_so" s__law_loaded_so A._law_loaded_so A.fd__law_loaded_so
  m_law : mg "law" = some (.ref A.law)
  k_law : PySem.W.keepIn K (.ref A.law) = true
  b_law : Binds K A.fd_law ["_law_script"] []
  F_law : Fun K "law" "law" s_law A.law A.fd_law
  g_WORD_COUNT : mg "WORD_COUNT" = some (.int 4294967296 A.t_WORD_COUNT)
  n_bool : mg "bool" = none
  n_dict : mg "dict" = none
  n_enumerate : mg "enumerate" = none
  n_int : mg "int" = none
  n_isinstance : mg "isinstance" = none
  n_len : mg "len" = none
  n_list : mg "list" = none
  n_max : mg "max" = none
  n_range : mg "range" = none
  n_str : mg "str" = none
  mc_High : mg "High" = some (.ref A.c_High)
  cl_High : Cls K A.c_High
  mc_JoinError : mg "JoinError" = some (.ref A.c_JoinError)
  mc_Low : mg "Low" = some (.ref A.c_Low)
  cl_Low : Cls K A.c_Low
  mc_NoBase : mg "NoBase" = some (.ref A.c_NoBase)
  mc_Whole : mg "Whole" = some (.ref A.c_Whole)
  cl_Whole : Cls K A.c_Whole
  sp_cl : PySem.W.specialIn K (.builtin "object.__class__") "__get__" = some (some (.builtin "getset_descriptor.__get__"))
  tk_cl : PySem.W.takesIn K (.builtin "object.__class__") = some true
  ei_NoBase : ownInit K A.c_NoBase A.NoBase___init__ = true
  ee_NoBase : errIn K A.c_NoBase = true
  es_NoBase : PySem.W.findIn K (.ref A.c_NoBase) "__setattr__" = some (some (.builtin "object.__setattr__"))
  br_JoinError : PySem.W.readsIn K A.c_JoinError (.type "type") = true
  bf_JoinError : PySem.W.findCls K (.ref A.c_JoinError) (.type "type") "__init__" = some (.val (.builtin "ValueError.__init__"))
  bg_JoinError : PySem.W.specialIn K (.ref A.c_JoinError) "__getattribute__" = some (some (.builtin "type.__getattribute__"))
  er_NoBase : ErrC K A.c_NoBase A.NoBase___init__
  bi_JoinError : BaseI K A.c_JoinError
  mk_High : Mk K A.c_High A.Rule___init__
  mk_Low : Mk K A.c_Low A.Rule___init__
  mk_Whole : Mk K A.c_Whole A.Rule___init__
  me_High_filled : Meth K A.c_High "filled" A.High_filled
  me_Low_filled : Meth K A.c_Low "filled" A.Low_filled
  me_Whole_filled : Meth K A.c_Whole "filled" A.Whole_filled
  no_NoBase_base : NoAttr K A.c_NoBase "base"
  no_Whole_title : NoAttr K A.c_Whole "title"
  no_High_title : NoAttr K A.c_High "title"
  no_Low_title : NoAttr K A.c_Low "title"
theorem sc_NoBase___init__ : FnScope ["self", "base"] ["self", "base"] (defScope s_NoBase___init__) := ⟨rfl, rfl, rfl, by decide +kernel, rfl, by decide +kernel, by decide +kernel⟩
theorem sc_wrapped : FnScope ["number"] ["number"] (defScope s_wrapped) := ⟨rfl, rfl, rfl, by decide +kernel, rfl, by decide +kernel, by decide +kernel⟩
theorem sc_with_field : FnScope ["word", "low", "many", "number", "others"] ["word", "low", "many", "number"] (defScope s_with_field) := ⟨rfl, rfl, rfl, by decide +kernel, rfl, by decide +kernel, by decide +kernel⟩
theorem sc_ones : FnScope ["many"] ["many"] (defScope s_ones) := ⟨rfl, rfl, rfl, by decide +kernel, rfl, by decide +kernel, by decide +kernel⟩
theorem sc_moved : FnScope ["number", "up"] ["number", "up"] (defScope s_moved) := ⟨rfl, rfl, rfl, by decide +kernel, rfl, by decide +kernel, by decide +kernel⟩
theorem sc_rule_of : FnScope ["title"] ["title"] (defScope s_rule_of) := ⟨rfl, rfl, rfl, by decide +kernel, rfl, by decide +kernel, by decide +kernel⟩
theorem sc_Rule___init__ : FnScope ["self", "title"] ["self", "title"] (defScope s_Rule___init__) := ⟨rfl, rfl, rfl, by decide +kernel, rfl, by decide +kernel, by decide +kernel⟩
theorem sc_Whole_filled : FnScope ["self", "word", "here", "there"] ["self", "word", "here", "there"] (defScope s_Whole_filled) := ⟨rfl, rfl, rfl, by decide +kernel, rfl, by decide +kernel, by decide +kernel⟩
theorem sc_High_filled : FnScope ["self", "word", "here", "there"] ["self", "word", "here", "there"] (defScope s_High_filled) := ⟨rfl, rfl, rfl, by decide +kernel, rfl, by decide +kernel, by decide +kernel⟩
theorem sc_Low_filled : FnScope ["self", "word", "here", "there"] ["self", "word", "here", "there"] (defScope s_Low_filled) := ⟨rfl, rfl, rfl, by decide +kernel, rfl, by decide +kernel, by decide +kernel⟩
theorem sc_loaded : FnScope ["whole", "base", "words_at", "place", "words", "at", "word", "title", "target", "here"] ["whole", "base"] (defScope s_loaded) := ⟨rfl, rfl, rfl, by decide +kernel, rfl, by decide +kernel, by decide +kernel⟩
theorem sc_start_of : FnScope ["whole", "base"] ["whole", "base"] (defScope s_start_of) := ⟨rfl, rfl, rfl, by decide +kernel, rfl, by decide +kernel, by decide +kernel⟩
theorem sc_refuse_no_base : FnScope ["whole", "base", "step", "size"] ["whole", "base"] (defScope s_refuse_no_base) := ⟨rfl, rfl, rfl, by decide +kernel, rfl, by decide +kernel, by decide +kernel⟩
theorem sc__law_whole : FnScope ["_law_found"] ["_law_found"] (defScope s__law_whole) := ⟨rfl, rfl, rfl, by decide +kernel, rfl, by decide +kernel, by decide +kernel⟩
theorem sc__law_cell_at : FnScope ["_law_script", "_law_k"] ["_law_script", "_law_k"] (defScope s__law_cell_at) := ⟨rfl, rfl, rfl, by decide +kernel, rfl, by decide +kernel, by decide +kernel⟩
theorem sc__law_target_by : FnScope ["_law_number"] ["_law_number"] (defScope s__law_target_by) := ⟨rfl, rfl, rfl, by decide +kernel, rfl, by decide +kernel, by decide +kernel⟩
theorem sc__law_put : FnScope ["_law_cell", "_law_parts", "_law_leans", "_law_end_here", "_law_number", "_law_place", "_law_word", "_law_rows", "_law_rule"] ["_law_cell", "_law_parts", "_law_leans", "_law_end_here"] (defScope s__law_put) := ⟨rfl, rfl, rfl, by decide +kernel, rfl, by decide +kernel, by decide +kernel⟩
theorem sc__law_end : FnScope ["_law_parts"] ["_law_parts"] (defScope s__law_end) := ⟨rfl, rfl, rfl, by decide +kernel, rfl, by decide +kernel, by decide +kernel⟩
theorem sc__law_built : FnScope ["_law_script", "_law_most", "_law_parts", "_law_leans", "_law_rows", "_law_cell", "_law_end_here", "_law_number", "_law_size", "_law_entry", "_law_step"] ["_law_script", "_law_most"] (defScope s__law_built) := ⟨rfl, rfl, rfl, by decide +kernel, rfl, by decide +kernel, by decide +kernel⟩
theorem sc__law_base_by : FnScope ["_law_whole_here", "_law_cell", "_law_most"] ["_law_whole_here", "_law_cell"] (defScope s__law_base_by) := ⟨rfl, rfl, rfl, by decide +kernel, rfl, by decide +kernel, by decide +kernel⟩
theorem sc__law_copy : FnScope ["_law_whole_here", "_law_parts"] ["_law_whole_here"] (defScope s__law_copy) := ⟨rfl, rfl, rfl, by decide +kernel, rfl, by decide +kernel, by decide +kernel⟩
theorem sc__law_filled_so : FnScope ["_law_rule", "_law_word", "_law_there", "_law_found"] ["_law_rule", "_law_word", "_law_there", "_law_found"] (defScope s__law_filled_so) := ⟨rfl, rfl, rfl, by decide +kernel, rfl, by decide +kernel, by decide +kernel⟩
theorem sc__law_due_words : FnScope ["_law_whole_here", "_law_due", "_law_place", "_law_words", "_law_k"] ["_law_whole_here"] (defScope s__law_due_words) := ⟨rfl, rfl, rfl, by decide +kernel, rfl, by decide +kernel, by decide +kernel⟩
theorem sc__law_loaded_so : FnScope ["_law_found", "_law_whole_here", "_law_base", "_law_due", "_law_leaned", "_law_place", "_law_rule", "_law_target", "_law_here", "_law_there"] ["_law_found", "_law_whole_here", "_law_base"] (defScope s__law_loaded_so) := ⟨rfl, rfl, rfl, by decide +kernel, rfl, by decide +kernel, by decide +kernel⟩
theorem sc_law : FnScope ["_law_script", "_law_rows", "_law_whole_here", "_law_base", "_law_handed", "_law_found", "_law_start", "_law_kept"] ["_law_script"] (defScope s_law) := ⟨rfl, rfl, rfl, by decide +kernel, rfl, by decide +kernel, by decide +kernel⟩
theorem cK {CX P w K mg base N qual scope f cd Ar outer s H E} : (cxOf CX P w K mg base N qual scope f cd Ar outer s H E).K = K := rfl
theorem bK {X : Cx} {N' : List Str} {scope : Scope} {fp : List Addr} {s : Shared} {H : Hp} : (blk X N' scope fp s H).K = X.K := rfl
theorem slen (a b : Str) : (a ++ b).length = a.length + b.length := Array.size_append
theorem atI_ex {α : Type} {xs : List α} {i : Int} (h1 : -(xs.length : Int) ≤ i) (h2 : i < xs.length) : ∃ v, atI xs i = some v ∧ v ∈ xs := by
  unfold atI ixN
  by_cases h0 : 0 ≤ i
  · have hl : i.toNat < xs.length := by omega
    refine ⟨xs[i.toNat], ?_, List.getElem_mem hl⟩
    rw [if_pos h0, if_pos h2]
    show xs[i.toNat]? = _
    rw [List.getElem?_eq_getElem hl]
  · have hl : (i + xs.length).toNat < xs.length := by omega
    refine ⟨xs[(i + xs.length).toNat], ?_, List.getElem_mem hl⟩
    rw [if_neg h0, if_pos h1]
    show xs[(i + xs.length).toNat]? = _
    rw [List.getElem?_eq_getElem hl]
namespace K3
open PySem PySem.W PySem.Calls PyProof.Rows
theorem tb_mul (a i j : Nat) : (2 ^ i * a).testBit j = (decide (i ≤ j) && a.testBit (j - i)) := by
  have h := Nat.testBit_two_pow_mul_add a (b := 0) (i := i) (Nat.two_pow_pos i) j
  rw [Nat.add_zero] at h
  rw [h]
  by_cases c : j < i
  · simp [c, Nat.not_le.mpr c]
  · simp [c, Nat.not_lt.mp c]
theorem and_field (W l m : Nat) : W &&& (2 ^ l * (2 ^ m - 1)) = 2 ^ l * (W / 2 ^ l % 2 ^ m) := by
  apply Nat.eq_of_testBit_eq
  intro j
  rw [Nat.testBit_and, tb_mul, tb_mul, Nat.testBit_two_pow_sub_one, Nat.testBit_mod_two_pow, Nat.testBit_div_two_pow]
  by_cases c : l ≤ j
  · have e : j - l + l = j := by omega
    simp [c, e, Bool.and_comm]
  · simp [c]
noncomputable def rest (W l m : Nat) : Nat := 2 ^ l * (2 ^ m * (W / 2 ^ l / 2 ^ m)) + W % 2 ^ l
theorem rest_eq (W l m : Nat) : W = rest W l m + 2 ^ l * (W / 2 ^ l % 2 ^ m) := by
  have h1 := Nat.div_add_mod W (2 ^ l)
  have h2 := Nat.div_add_mod (W / 2 ^ l) (2 ^ m)
  unfold rest
  have h3 : 2 ^ l * (2 ^ m * (W / 2 ^ l / 2 ^ m)) + 2 ^ l * (W / 2 ^ l % 2 ^ m) = 2 ^ l * (W / 2 ^ l) := by
    rw [← Nat.mul_add, h2]
  omega
theorem rest_tb (W l m j : Nat) : (rest W l m).testBit j = if j < l then W.testBit j else (decide (l + m ≤ j) && W.testBit j) := by
  unfold rest
  rw [Nat.testBit_two_pow_mul_add _ (Nat.mod_lt _ (Nat.two_pow_pos l))]
  by_cases c : j < l
  · simp [c, Nat.testBit_mod_two_pow]
  · simp only [c, if_false]
    rw [tb_mul, Nat.testBit_div_two_pow, Nat.testBit_div_two_pow]
    by_cases d : l + m ≤ j
    · have e : j - l + l = j := by omega
      have d' : m ≤ j - l := by omega
      simp [d, d', e]
    · have d' : ¬ m ≤ j - l := by omega
      simp [d, d']
theorem rest_and (W l m y : Nat) (hy : y < 2 ^ m) : rest W l m &&& (2 ^ l * y) = 0 := by
  apply Nat.eq_of_testBit_eq
  intro j
  rw [Nat.testBit_and, rest_tb, tb_mul, Nat.zero_testBit]
  by_cases c : j < l
  · have : ¬ l ≤ j := by omega
    simp [this]
  · by_cases d : l + m ≤ j
    · have : y.testBit (j - l) = false := Nat.testBit_lt_two_pow (Nat.lt_of_lt_of_le hy (Nat.pow_le_pow_right (by decide) (by omega)))
      simp [this]
    · simp [c, d]
noncomputable def put (W l m y : Nat) : Nat := rest W l m + 2 ^ l * y
theorem put_or (W l m y : Nat) (hy : y < 2 ^ m) : rest W l m ||| (2 ^ l * y) = put W l m y := by
  apply Nat.eq_of_testBit_eq
  intro j
  have e : put W l m y = 2 ^ l * (2 ^ m * (W / 2 ^ l / 2 ^ m) + y) + W % 2 ^ l := by
    unfold put rest; rw [Nat.mul_add]; omega
  rw [e, Nat.testBit_or, rest_tb, tb_mul, Nat.testBit_two_pow_mul_add _ (Nat.mod_lt _ (Nat.two_pow_pos l)), Nat.testBit_two_pow_mul_add _ hy]
  by_cases c : j < l
  · have : ¬ l ≤ j := by omega
    simp [c, this, Nat.testBit_mod_two_pow]
  · have c' : l ≤ j := by omega
    by_cases d : l + m ≤ j
    · have z : y.testBit (j - l) = false := Nat.testBit_lt_two_pow (Nat.lt_of_lt_of_le hy (Nat.pow_le_pow_right (by decide) (by omega)))
      have d' : ¬ (j - l < m) := by omega
      have e : j - l - m + m + l = j := by omega
      rw [Nat.testBit_div_two_pow, Nat.testBit_div_two_pow]
      simp [c, c', d, d', z, e]
    · have d' : j - l < m := by omega
      simp [c, c', d, d']
theorem put_tb (W l m y j : Nat) (hy : y < 2 ^ m) : (put W l m y).testBit j = if l ≤ j ∧ j < l + m then y.testBit (j - l) else W.testBit j := by
  rw [← put_or W l m y hy, Nat.testBit_or, rest_tb, tb_mul]
  by_cases c : j < l
  · have : ¬ l ≤ j := by omega
    simp [c, this]
  · have c' : l ≤ j := by omega
    by_cases d : l + m ≤ j
    · have z : y.testBit (j - l) = false := Nat.testBit_lt_two_pow (Nat.lt_of_lt_of_le hy (Nat.pow_le_pow_right (by decide) (by omega)))
      have d' : ¬ (j < l + m) := by omega
      simp [c, c', d, d', z]
    · have d' : j < l + m := by omega
      simp [c, c', d, d']
theorem put_lt (W l m y : Nat) (hy : y < 2 ^ m) (hw : W < 2 ^ 32) (h : l + m ≤ 32) : put W l m y < 2 ^ 32 := by
  apply Nat.lt_pow_two_of_testBit
  intro j hj
  rw [put_tb W l m y j hy]
  have : ¬ (l ≤ j ∧ j < l + m) := by omega
  simp only [this, if_false]
  exact Nat.testBit_lt_two_pow (Nat.lt_of_lt_of_le hw (Nat.pow_le_pow_right (by decide) hj))

-- over Int
noncomputable def pw (m : Int) : Int := 2 ^ m.toNat
theorem pow_pos (k : Nat) : (0 : Int) < 2 ^ k := Int.pow_pos (by decide)
theorem pw_pos (m : Int) : 0 < pw m := pow_pos _
theorem cast_pow (k : Nat) : ((2 ^ k : Nat) : Int) = (2 : Int) ^ k := by
  induction k with
  | zero => rfl
  | succ k ih => rw [Nat.pow_succ, Int.pow_succ, Int.natCast_mul, ih]; rfl
theorem pw_nat (m : Int) : pw m = ((2 ^ m.toNat : Nat) : Int) := (cast_pow _).symm
noncomputable def putF (w l m n : Int) : Int := (put w.toNat l.toNat m.toNat (n.fmod (pw m)).toNat : Nat)
theorem fmod_toNat_lt (n m : Int) : (n.fmod (pw m)).toNat < 2 ^ m.toNat := by
  have a := Int.fmod_nonneg_of_pos n (pw_pos m)
  have b := Int.fmod_lt_of_pos n (pw_pos m)
  have c := pw_nat m
  omega
-- others = w & ~((2^m-1)*2^l), then | (n mod 2^m) * 2^l
theorem or_put {w l m n : Int} (hw : 0 ≤ w) :
    Builtin.bitOr (Builtin.bitAnd w (Builtin.bitNot ((pw m - 1) * pw l))) (n.fmod (pw m) * pw l) = putF w l m n := by
  have a := Int.fmod_nonneg_of_pos n (pw_pos m)
  have hy := fmod_toNat_lt n m
  have pm := pw_pos m
  have pl := pw_pos l
  have e1 : Builtin.bitAnd w ((pw m - 1) * pw l) = ((2 ^ l.toNat * (w.toNat / 2 ^ l.toNat % 2 ^ m.toNat) : Nat) : Int) := by
    have z : 0 ≤ (pw m - 1) * pw l := Int.mul_nonneg (by omega) (by omega)
    have t : ((pw m - 1) * pw l).toNat = 2 ^ l.toNat * (2 ^ m.toNat - 1) := by
      have c1 := pw_nat m
      have c2 := pw_nat l
      have c3 : pw m - 1 = ((2 ^ m.toNat - 1 : Nat) : Int) := by
        have := Nat.two_pow_pos m.toNat
        omega
      rw [c3, c2, ← Int.natCast_mul, Int.toNat_natCast, Nat.mul_comm]
    rw [bitAnd_pp hw z, t, and_field]
  have e2 : Builtin.bitAnd w (Builtin.bitNot ((pw m - 1) * pw l)) = (rest w.toNat l.toNat m.toNat : Nat) := by
    rw [bitAnd_not, e1]
    have := rest_eq w.toNat l.toNat m.toNat
    omega
  have e3 : n.fmod (pw m) * pw l = ((2 ^ l.toNat * (n.fmod (pw m)).toNat : Nat) : Int) := by
    rw [Int.natCast_mul, ← pw_nat l, Int.toNat_of_nonneg a, Int.mul_comm]
  have e4 : Builtin.bitAnd ((rest w.toNat l.toNat m.toNat : Nat) : Int) ((2 ^ l.toNat * (n.fmod (pw m)).toNat : Nat) : Int) = 0 := by
    rw [bitAnd_pp (by omega) (by omega), Int.toNat_natCast, Int.toNat_natCast, rest_and _ _ _ _ hy]
    rfl
  rw [e2, e3, bitOr_and, e4, Int.sub_zero]
  unfold putF put
  rw [Int.natCast_add]
theorem putF_range {w l m n : Int} (hw : 0 ≤ w) (hw1 : w ≤ 4294967295) (hl : 0 ≤ l) (hm : 0 ≤ m) (hlm : l + m ≤ 32) : 0 ≤ putF w l m n ∧ putF w l m n ≤ 4294967295 := by
  have h := put_lt w.toNat l.toNat m.toNat (n.fmod (pw m)).toNat (fmod_toNat_lt n m) (by omega) (by omega)
  unfold putF
  omega
-- a bit, as the law reads it

noncomputable def onesF (m : Int) : Int := pw m - 1
theorem pw_mono {a b : Nat} (h : a ≤ b) : (2 : Int) ^ a ≤ 2 ^ b := by
  have := Nat.pow_le_pow_right (show 0 < 2 by decide) h
  rw [← cast_pow, ← cast_pow]; omega
theorem ones_fact0 (m : Int) (h : m ≤ 32) : 0 ≤ onesF m ∧ onesF m ≤ 4294967295 := by
  have a := pw_pos m
  have b : pw m ≤ 4294967296 := by
    have := pw_mono (a := m.toNat) (b := 32) (by omega)
    unfold pw
    have e : (2 : Int) ^ 32 = 4294967296 := by decide
    omega
  unfold onesF
  omega
noncomputable def movedF (n up : Int) : Int := if up < 0 then n.fdiv (pw (-up)) else n * pw up
theorem moved_down {n up : Int} (h : up < 0) : n.fdiv (2 ^ (-up).toNat) = movedF n up := by
  unfold movedF; rw [if_pos h]; rfl
theorem moved_up {n up : Int} (h : ¬ up < 0) : n * 2 ^ up.toNat = movedF n up := by
  unfold movedF; rw [if_neg h]; rfl
theorem ones_eq {m k : Int} (h : k = m ∨ (m ≤ 0 ∧ k = 0)) : (1 : Int) * 2 ^ k.toNat - 1 = onesF m := by
  have e : k.toNat = m.toNat := by omega
  rw [e, Int.one_mul]; rfl
theorem with_eq {w l m n r : Int} (hr : r = Builtin.bitAnd n (onesF m)) (hw : 0 ≤ w) (hw1 : w ≤ 4294967295) (hl : 0 ≤ l) (hm : 1 ≤ m) (hlm : l + m ≤ 32) :
    (Builtin.bitOr (Builtin.bitAnd w (Builtin.bitNot (movedF (onesF m) l))) (movedF r l)).fmod 4294967296 = putF w l m n := by
  have e1 : movedF (onesF m) l = (pw m - 1) * pw l := by
    unfold movedF; rw [if_neg (by omega)]; rfl
  have e2 : r = n.fmod (pw m) := by
    rw [hr]
    show Builtin.bitAnd n (2 ^ m.toNat - 1) = _
    rw [kbt_maskF]; rfl
  have e3 : movedF r l = n.fmod (pw m) * pw l := by
    unfold movedF; rw [if_neg (by omega), e2]
  rw [e1, e3, or_put hw]
  have := putF_range (n := n) hw hw1 hl (by omega) hlm
  rw [Int.fmod_eq_emod_of_nonneg _ (by decide)]
  omega
noncomputable def sg (n m : Int) : Int := (n + pw (m - 1)).fmod (pw m) - pw (m - 1)
theorem pwl (k : Nat) (v : Int) (h : (2 : Int) ^ k = v) : pw (k : Int) = v := by
  unfold pw; rw [Int.toNat_natCast]; exact h
theorem put_at (w n : Int) (l m : Nat) (a b : Int) (ha : (2 : Int) ^ l = a) (hb : (2 : Int) ^ m = b) (hw : 0 ≤ w) : putF w l m n = a * (b * (w / a / b)) + w % a + a * (n % b) := by
  have pa := pow_pos l
  have pb := pow_pos m
  unfold putF put rest
  rw [pwl m b hb, Int.toNat_natCast, Int.toNat_natCast]
  have z := Int.emod_nonneg n (show b ≠ 0 by omega)
  rw [Int.fmod_eq_emod_of_nonneg _ (by omega)]
  simp only [Int.natCast_add, Int.natCast_mul, Int.natCast_ediv, Int.natCast_emod, cast_pow, ha, hb]
  rw [Int.toNat_of_nonneg hw, Int.toNat_of_nonneg z]
end K3

noncomputable def sp_wrapped : Sp := fun vs H Q _ => ∃ n : Int, vs = [.int n] ∧ Q (.int (n % 4294967296)) H
noncomputable def sp_moved : Sp := fun vs H Q _ => ∃ n u : Int, vs = [.int n, .int u] ∧ 0 ≤ n ∧ n ≤ 4294967296 ∧ u ≤ 100 ∧ Q (.int (K3.movedF n u)) H
noncomputable def sp_ones : Sp := fun vs H Q _ => ∃ m : Int, vs = [.int m] ∧ 0 ≤ m ∧ m ≤ 32 ∧ Q (.int (K3.onesF m)) H
noncomputable def sp_with : Sp := fun vs H Q _ => ∃ a l m n : Int, vs = [.int a, .int l, .int m, .int n] ∧ 0 ≤ a ∧ a ≤ 4294967295 ∧ 0 ≤ l ∧ l ≤ 31 ∧ 1 ≤ m ∧ l + m ≤ 32 ∧ Q (.int (K3.putF a l m n)) H
noncomputable def IsRule (C : Addr) (z : Str) (H : Hp) (p : Addr) : Prop := ∃ dx, H p = some (.ins C dx [("title", .str z)])
noncomputable def RC (A : Ad) (C : Addr) : Prop := C = A.c_Whole ∨ C = A.c_High ∨ C = A.c_Low
noncomputable def RCs (A : Ad) (z : Str) (C : Addr) : Prop := (z = Str.ofString "whole" ∧ C = A.c_Whole) ∨ (z = Str.ofString "high" ∧ C = A.c_High) ∨ (z = Str.ofString "low" ∧ C = A.c_Low)
noncomputable def isR (z : Str) : Prop := z = Str.ofString "whole" ∨ z = Str.ofString "high" ∨ z = Str.ofString "low"
noncomputable def sp_rinit (A : Ad) : Sp := fun vs H Q _ => ∃ (p dx C : Addr) (x : V), vs = [.ref p, x] ∧ H p = some (.ins C dx []) ∧ RC A C ∧ Q .non (upd H p (.ins C dx [("title", x)]))
noncomputable def sp_rule (A : Ad) : Sp := fun vs H Q _ => ∃ z : Str, vs = [.str z] ∧ isR z ∧ ∀ C, RCs A z C → ∀ p H', Same H H' → IsRule C z H' p → Q (.ref p) H'
noncomputable def fillR (r : Str) (w t : Int) : Int := if r = Str.ofString "whole" then t % 4294967296 else if r = Str.ofString "high" then K3.putF w 0 16 ((t + 32768) / 65536) else K3.putF w 0 16 t
noncomputable def sp_filW : Sp := fun vs H Q _ => ∃ (v : V) (a h t : Int), vs = [v, .int a, .int h, .int t] ∧ Q (.int (t % 4294967296)) H
noncomputable def sp_filH : Sp := fun vs H Q _ => ∃ (v : V) (a h t : Int), vs = [v, .int a, .int h, .int t] ∧ 0 ≤ a ∧ a ≤ 4294967295 ∧ Q (.int (K3.putF a 0 16 ((t + 32768) / 65536))) H
noncomputable def sp_filL : Sp := fun vs H Q _ => ∃ (v : V) (a h t : Int), vs = [v, .int a, .int h, .int t] ∧ 0 ≤ a ∧ a ≤ 4294967295 ∧ Q (.int (K3.putF a 0 16 t)) H
noncomputable def xdB (p : Int) : HO := .xd [("base", .int p)]
noncomputable def NoBaseTo (A : Ad) (H : Hp) (p : Int) (E : XK) : Prop := ∀ d H', Same H H' → H' d = some (xdB p) → E (.ref A.c_NoBase) (some d) H'
noncomputable def Few (p : Int) : Prop := -(10 ^ 70) ≤ p ∧ p ≤ 10 ^ 70
noncomputable def sp_nbinit (A : Ad) : Sp := fun vs H Q _ => ∃ (a : Addr) (p : Int), vs = [.ref a, .int p] ∧ H a = some (XN a A.c_NoBase none) ∧ Few p ∧
  ∀ d H', H d = none → d ≠ a → (∀ b o, b ≠ a → H b = some o → H' b = some o) → H' a = some (XN a A.c_NoBase (some d)) → H' d = some (XD d [("base", .int p)]) → Q .non H'
set_option genInjectivity false in
structure Prt where
  t : Addr
  l : Addr
  p : Int
  ws : List Int
set_option genInjectivity false in
structure Ln where
  a : Addr
  p : Int
  r : Str
  t : Int
set_option genInjectivity false in
structure PM (H : Hp) (a : Addr) (ps : List Prt) : Prop where
  top : H a = some (.lst (ps.map fun x => V.ref x.t))
  at_ : ∀ x ∈ ps, H x.t = some (.tup [.int x.p, .ref x.l]) ∧ H x.l = some (.lst (x.ws.map V.int))
  nd : (ps.map Prt.l).Nodup
  na : ∀ x ∈ ps, x.l ≠ a
set_option genInjectivity false in
structure LM (H : Hp) (b : Addr) (ls : List Ln) : Prop where
  top : H b = some (.lst (ls.map fun x => V.ref x.a))
  at_ : ∀ x ∈ ls, H x.a = some (.tup [.int x.p, .str x.r, .int x.t])
noncomputable def endP (ps : List Prt) : Int := match ps.getLast? with | none => 0 | some x => x.p + x.ws.length
set_option genInjectivity false in
structure Ordd (ps : List Prt) (e : Int) : Prop where
  pos : ∀ x ∈ ps, 0 ≤ x.p
  le : ∀ x ∈ ps, x.p + x.ws.length ≤ e
  ap : ∀ (i j : Nat) (x y : Prt), i < j → ps[i]? = some x → ps[j]? = some y → x.p + x.ws.length ≤ y.p
set_option genInjectivity false in
structure BS where
  a : Addr
  b : Addr
  ps : List Prt
  ls : List Ln
  e : Int
set_option genInjectivity false in
structure BOk (n : Nat) (H : Hp) (S : BS) : Prop where
  pm : PM H S.a S.ps
  lm : LM H S.b S.ls
  ab : S.a ≠ S.b
  nb : ∀ x ∈ S.ps, x.l ≠ S.b
  ord : Ordd S.ps S.e
  ws : ∀ x ∈ S.ps, ∀ w ∈ x.ws, 0 ≤ w ∧ w ≤ 4294967295
  rr : ∀ l ∈ S.ls, isR l.r ∧ -(10 ^ 11) ≤ l.t ∧ l.t ≤ 10 ^ 11 ∧ l.p < S.e
  lk : ∀ l ∈ S.ls, ∃ x ∈ S.ps, x.p ≤ l.p ∧ l.p < x.p + x.ws.length
  ln : (S.ls.map Ln.p).Nodup
  en : S.e = endP S.ps
  e0 : 0 ≤ S.e
  e1 : S.e ≤ n * 10000001
  n1 : S.ps.length ≤ n
  n2 : S.ls.length ≤ n
  n3 : ∀ x ∈ S.ps, x.ws.length ≤ n
  n4 : n ≤ 500
set_option genInjectivity false in
structure Whl where
  t : Addr
  st : Int
  sz : Int
  en : Int
  n : Nat
set_option genInjectivity false in
structure WOk (most : Int) (H : Hp) (W : Whl) (S : BS) : Prop where
  top : H W.t = some (.tup [.int W.st, .int W.sz, .int W.en, .ref S.a, .ref S.b])
  bok : BOk W.n H S
  n5 : W.n ≤ 500
  s1 : 1 ≤ W.st
  s2 : W.st ≤ 65536
  z1 : S.e ≤ W.sz
  z2 : W.sz ≤ most
  e0 : 0 ≤ W.en
  e1 : W.en ≤ most
  pw : ∃ k : Nat, W.st = 2 ^ k
noncomputable def Fits (W : Whl) (b : Int) : Prop := 1 ≤ b ∧ b % W.st = 0 ∧ b + W.sz < 4294967296
noncomputable def sp_refuse (A : Ad) : Sp := fun vs H Q E => ∃ (W : Whl) (b : Int) (x y : V), vs = [.ref W.t, .int b] ∧ H W.t = some (.tup [.int W.st, .int W.sz, .int W.en, x, y]) ∧ 1 ≤ W.st ∧ Few b ∧ (Fits W b → Q .non H) ∧ (¬ Fits W b → NoBaseTo A H b E)
noncomputable def sp_start (A : Ad) : Sp := fun vs H Q E => ∃ (W : Whl) (b : Int) (x y : V), vs = [.ref W.t, .int b] ∧ H W.t = some (.tup [.int W.st, .int W.sz, .int W.en, x, y]) ∧ 1 ≤ W.st ∧ Few b ∧ (Fits W b → Q (.int (b + W.en)) H) ∧ (¬ Fits W b → NoBaseTo A H b E)
noncomputable def w0 (ps : List Prt) (n : Int) : Option Int := match ps with
  | [] => none
  | x :: r => if x.p ≤ n ∧ n < x.p + x.ws.length then some (x.ws.getD (n - x.p).toNat 0) else w0 r n
noncomputable def layL (b : Int) (ls : List Ln) (m : Int → Option Int) : Int → Option Int := match ls with
  | [] => m
  | l :: r => layL b r fun n => if n = l.p then (m n).map fun w => fillR l.r w (b + l.t) else m n
noncomputable def totW (ps : List Prt) : Nat := match ps with
  | [] => 0
  | x :: r => x.ws.length + totW r
noncomputable def Prt.core (x : Prt) : Int × List Int := (x.p, x.ws)
noncomputable def Ln.core (l : Ln) : Int × Str × Int := (l.p, l.r, l.t)
noncomputable def loadW (b p : Int) : List Int → Nat → List (Key × V) → List (Key × V)
  | [], _, m => m
  | w :: r, j, m => loadW b p r (j + 1) (putK m (.inl (b + p + (j : Int))) (.int w))
noncomputable def loadPs (b : Int) (ps : List (Int × List Int)) : List (Key × V) := ps.foldl (fun m x => loadW b x.1 x.2 0 m) []
noncomputable def intAt (m : List (Key × V)) (n : Int) : Int := match valV m (.inl n) with | some (.int u) => u | _ => 0
noncomputable def loadLs (b : Int) (ls : List (Int × Str × Int)) (m : List (Key × V)) : List (Key × V) := ls.foldl (fun m l => putK m (.inl (b + l.1)) (.int (fillR l.2.1 (intAt m (b + l.1)) (b + l.2.2)))) m
set_option genInjectivity false in
structure Loaded (S : BS) (b : Int) (mem : List (Key × V)) : Prop where
  len : mem.length = totW S.ps
  val : ∀ n : Int, valV mem (.inl (b + n)) = (layL b S.ls (w0 S.ps) n).map V.int
  keys : ∀ kv ∈ mem, ∃ n : Int, kv.1 = Sum.inl n
  fn : mem = loadLs b (S.ls.map Ln.core) (loadPs b (S.ps.map Prt.core))
noncomputable def sp_loaded (A : Ad) : Sp := fun vs H Q E => ∃ (W : Whl) (S : BS) (most b : Int), vs = [.ref W.t, .int b] ∧ WOk most H W S ∧ Few b ∧
  (Fits W b → ∀ d mem H', Same H H' → H d = none → H' d = some (.dK mem) → Loaded S b mem → Q (.ref d) H') ∧ (¬ Fits W b → NoBaseTo A H b E)
noncomputable def sp_whole : Sp := fun vs H Q _ => ∃ n : Int, vs = [.int n] ∧ Q (.bl true) H
noncomputable def sp_cellat (K : PySem.W.Frag) : Sp := fun vs H Q _ => ∃ (a : Addr) (ns : List Int) (k : Int), vs = [.ref a, .int k] ∧ SqL K H a (ns.map V.int) ∧ 0 ≤ k ∧ ∀ m : Int, Q (.int m) H
noncomputable def sp_target : Sp := fun vs H Q _ => ∃ c : Int, vs = [.int c] ∧ ∀ m : Int, -(10 ^ 11) ≤ m → m ≤ 10 ^ 11 → Q (.int m) H
noncomputable def PutQ (S : BS) (n : Nat) (H : Hp) (Q : VK) : Prop := ∀ (q : Addr) (rs : List V) (S' : BS) (H' : Hp), (∀ x o, H x = some o → x ≠ S.a → x ≠ S.b → (∀ y ∈ S.ps, x ≠ y.l) → H' x = some o) → H' q = some (.lst rs) → rs.length ≤ 2 → S'.a = S.a → S'.b = S.b → BOk (n + 1) H' S' → (∀ y ∈ S'.ps, y.l ∈ S.ps.map Prt.l ∨ H y.l = none) → H q = none → q ≠ S.a → q ≠ S.b → (∀ y ∈ S'.ps, q ≠ y.l) → Q (.ref q) H'
noncomputable def pA : TS := fun D σ H => ∃ (S : BS) (n : Nat) (c m : Int) (H0 : Hp) (b5 b6 b7 b8 : Option V), σ = [some (.int c), some (.ref S.a), some (.ref S.b), some (.int S.e), some (.int m), b5, b6, b7, b8] ∧ 0 ≤ m ∧ BOk n H S ∧ n ≤ 61 ∧ Same H0 H ∧ BOk n H0 S ∧ PutQ S n H0 D.rt
noncomputable def pA2 : TS := fun D σ H => ∃ (S : BS) (n : Nat) (c m pl : Int) (H0 : Hp) (b6 b7 b8 : Option V), σ = [some (.int c), some (.ref S.a), some (.ref S.b), some (.int S.e), some (.int m), some (.int pl), b6, b7, b8] ∧ S.e ≤ pl ∧ pl ≤ S.e + 10000000 ∧ BOk n H S ∧ n ≤ 61 ∧ Same H0 H ∧ BOk n H0 S ∧ PutQ S n H0 D.rt
noncomputable def pB : TS := fun D σ H => ∃ (S : BS) (n : Nat) (c m : Int) (H0 : Hp) (b5 b6 b7 b8 : Option V), σ = [some (.int c), some (.ref S.a), some (.ref S.b), some (.int S.e), some (.int m), b5, b6, b7, b8] ∧ 0 ≤ m ∧ S.ps ≠ [] ∧ BOk n H S ∧ n ≤ 61 ∧ Same H0 H ∧ BOk n H0 S ∧ PutQ S n H0 D.rt
noncomputable def pB2 : TS := fun D σ H => ∃ (S : BS) (n : Nat) (c m u : Int) (H0 : Hp) (b5 b7 b8 : Option V), σ = [some (.int c), some (.ref S.a), some (.ref S.b), some (.int S.e), some (.int m), b5, some (.int u), b7, b8] ∧ 0 ≤ m ∧ 0 ≤ u ∧ u ≤ 4294967295 ∧ S.ps ≠ [] ∧ BOk n H S ∧ n ≤ 61 ∧ Same H0 H ∧ BOk n H0 S ∧ PutQ S n H0 D.rt
noncomputable def LsNew (S : BS) (ls : List Ln) : Prop := ls = S.ls ∨ ∃ l, ls = S.ls ++ [l] ∧ l.p = S.e ∧ isR l.r ∧ -(10 ^ 11) ≤ l.t ∧ l.t ≤ 10 ^ 11
noncomputable def pB3 : TS := fun D σ H => ∃ (S : BS) (n : Nat) (c m u : Int) (q : Addr) (rs : List V) (ls : List Ln) (H0 : Hp) (b5 b8 : Option V), σ = [some (.int c), some (.ref S.a), some (.ref S.b), some (.int S.e), some (.int m), b5, some (.int u), some (.ref q), b8] ∧ 0 ≤ u ∧ u ≤ 4294967295 ∧ S.ps ≠ [] ∧ H q = some (.lst rs) ∧ rs.length ≤ 2 ∧ H0 q = none ∧ PM H S.a S.ps ∧ LM H S.b ls ∧ LsNew S ls ∧ n ≤ 61 ∧ (∀ x o, H0 x = some o → x ≠ S.b → H x = some o) ∧ BOk n H0 S ∧ PutQ S n H0 D.rt
noncomputable def sp_put : Sp := fun vs H Q _ => ∃ (c : Int) (S : BS) (n : Nat), vs = [.int c, .ref S.a, .ref S.b, .int S.e] ∧ BOk n H S ∧ n ≤ 61 ∧ PutQ S n H Q
noncomputable def sp_end : Sp := fun vs H Q _ => ∃ (S : BS) (n : Nat), vs = [.ref S.a] ∧ BOk n H S ∧ ∀ H', Same H H' → Q (.int S.e) H'
noncomputable def sp_built (K : PySem.W.Frag) : Sp := fun vs H Q _ => ∃ (a : Addr) (ns : List Int) (most : Int), vs = [.ref a, .int most] ∧ SqL K H a (ns.map V.int) ∧ ns.length ≤ 63 ∧ 2000000000 ≤ most ∧ most ≤ 4294967295 ∧
  ∀ (q : Addr) (rw : V) (W : Whl) (S : BS) (H' : Hp), Same H H' → H' q = some (.tup [rw, .ref W.t]) → WOk most H' W S → W.n = 62 → Q (.ref q) H'

noncomputable def sp_baseby : Sp := fun vs H Q _ => ∃ (W : Whl) (S : BS) (c : Int), vs = [.ref W.t, .int c] ∧ WOk 3000000000 H W S ∧ ∀ b H', Same H H' → Fits W b → Q (.int b) H'
noncomputable def sp_copy : Sp := fun vs H Q _ => ∃ (W : Whl) (S : BS), vs = [.ref W.t] ∧ WOk 3000000000 H W S ∧ ∀ (W' : Whl) (S' : BS) (H' : Hp), Same H H' → WOk 3000000000 H' W' S' → W'.st = W.st → W'.sz = W.sz → W'.en = W.en → S'.ps.map Prt.core = S.ps.map Prt.core → S'.ls = S.ls → W'.n = W.n → H S'.a = none → H S'.b = none → (∀ y ∈ S'.ps, H y.l = none) → Q (.ref W'.t) H'
noncomputable def FilledSo (r : Str) (word there found : Int) : Prop := (r = Str.ofString "whole" ∧ (found - there) % 4294967296 = 0) ∨ (r ≠ Str.ofString "whole" ∧ found / 65536 = word / 65536 ∧ ((r = Str.ofString "low" ∧ (found - there) % 65536 = 0) ∨ (r ≠ Str.ofString "low" ∧ (there - 65536 * (found % 65536) + 32768) % 4294967296 < 65536)))
noncomputable def sp_fso : Sp := fun vs H Q _ => ∃ (r : Str) (word there found : Int), vs = [.str r, .int word, .int there, .int found] ∧ FilledSo r word there found ∧ Q (.bl true) H
set_option genInjectivity false in
structure DueOk (S : BS) (mem : List (Key × V)) : Prop where
  len : mem.length = totW S.ps
  val : ∀ n : Int, valV mem (.inl n) = (w0 S.ps n).map V.int
  keys : ∀ kv ∈ mem, ∃ n : Int, kv.1 = Sum.inl n
noncomputable def sp_due : Sp := fun vs H Q _ => ∃ (W : Whl) (S : BS), vs = [.ref W.t] ∧ WOk 3000000000 H W S ∧ ∀ d mem H', Same H H' → H d = none → H' d = some (.dK mem) → DueOk S mem → Q (.ref d) H'
noncomputable def sp_lso : Sp := fun vs H Q _ => ∃ (W : Whl) (S : BS) (b : Int) (d : Addr) (mem : List (Key × V)), vs = [.ref d, .ref W.t, .int b] ∧ WOk 3000000000 H W S ∧ H d = some (.dK mem) ∧ Loaded S b mem ∧ ∀ H', Same H H' → Q (.bl true) H'
noncomputable def lA : TS := fun D σ H => ∃ (W : Whl) (S : BS) (b : Int) (b0 b1 b4 b5 b6 b7 : Option V), σ = [b0, b1, some (.ref W.t), some (.int b), b4, b5, b6, b7] ∧ WOk 3000000000 H W S ∧ W.n = 62 ∧ Fits W b ∧ ∀ H', D.rt (.bl true) H'
set_option genInjectivity false in
structure Lk (H0 H : Hp) (W W' : Whl) (S S' : BS) (b : Int) (d : Addr) (mem : List (Key × V)) : Prop where
  w : WOk 3000000000 H W S
  w' : WOk 3000000000 H W' S'
  n : W'.n = 62
  st : W'.st = W.st
  sz : W'.sz = W.sz
  ps : S'.ps.map Prt.core = S.ps.map Prt.core
  fb : Fits W b
  hd : H d = some (.dK mem)
  l : Loaded S b mem
  sm : Same H0 H
  w0 : WOk 3000000000 H0 W S
  na : H0 S'.a = none
  nb : H0 S'.b = none
  nd : H0 d = none
noncomputable def lK : TS := fun D σ H => ∃ (H0 : Hp) (W W' : Whl) (S S' : BS) (b : Int) (d : Addr) (mem : List (Key × V)) (b0 b1 b6 b7 : Option V), σ = [b0, b1, some (.ref W.t), some (.int b), some (.ref W'.t), some (.ref d), b6, b7] ∧ Lk H0 H W W' S S' b d mem ∧ ∀ H', D.rt (.bl true) H'
noncomputable def sp_law (K : PySem.W.Frag) : Sp := fun vs H Q _ => ∃ (a : Addr) (ns : List Int), vs = [.ref a] ∧ SqL K H a (ns.map V.int) ∧ ns.length ≤ 63 ∧ ∀ H', Q (.bl true) H'
local macro_rules | `(tactic| walk_at "rdd") => `(tactic| (try dsimp only [tSeq, tAsg, gName, tC, tOp, tUn, tVar, tRet, tIfS, tOr, tAnd, tNot, tTest, tB, tChain, tCB, tCons, tNil, tCall, tSl, tNoPart, tPart, tNext, tDrop, tLst, tTup, tYes, tNotV, tAndV, tOrV, L2.start, List.set, List.map, List.length, List.replicate, List.cons_append, List.nil_append, List.append_nil, cK, bK, rI0, rI, rU, rIxS, rIxL, rIxT, tRetN, rSlL, rIn, rCatT, gTup, gCons, gNil, tRaiseI, tXInit, tDGet, tDGet1, tDGet2, tDIn, tDNotIn, sDPut, tDNewK, rDictOf, rEqDict, rCount, tCompX_list, xCall, sXFld, tXFld, rSlS, rEq, rNe, sc0, sc1, sc2, sc3, sc4, sc5, sc6, sc7, sc8, sc9, sc10, sc11, sc12, sc13, rCatS, rIsi, LenV, rAll, tFor_list, tFor_tup, tFor_str, tFor_rng1, tFor_rng2, tComp_list, tComp_tup, tComp_str, tComp_rng1, blkSt, tBM, rAppend, rStarts, rIndex, tIf, tMake, tMeth, sFld, tFld, tRepr, tFmt, jNil, jCons, tJoined, rJoin, rIsx, rIst, tRaise, tTryAs, tTry0, un1, xMeth, xDrop, xSet, xRet, xOf, xSeq, List.getElem?_cons_zero, List.getElem?_cons_succ, Option.some.injEq, V.int.injEq, V.str.injEq, V.bl.injEq, V.ref.injEq, V.ty.injEq, List.cons.injEq, exists_eq_left', exists_eq_left, exists_eq', and_assoc, if_true, if_false, Bool.not_false, Bool.not_true, Bool.not_not, Bool.false_eq_true, exists_and_left, and_true, true_and, List.set_cons_zero, List.set_cons_succ, Option.join_some, false_and, or_false, false_or, exists_false, sp_wrapped, sp_moved, sp_ones, sp_with, sp_rinit, sp_rule, sp_filW, sp_filH, sp_filL, sp_nbinit, sp_refuse, sp_loaded, sp_start, sp_whole, sp_cellat, sp_target, sp_put, sp_end, sp_built, sp_baseby, sp_copy, sp_fso, sp_due, sp_lso, tFor_enum, rSum, tFor_dict, rClear, rClearD, tBM0, rSlT, Ends.nx, Nat.reduceSub, Nat.reduceAdd]))
local macro_rules | `(tactic| walk_at "rd") => `(tactic| (walk_at "rdd"; (try simp only [tSeq, tAsg, gName, tC, tOp, tUn, tVar, tRet, tIfS, tOr, tAnd, tNot, tTest, tB, tChain, tCB, tCons, tNil, tCall, tSl, tNoPart, tPart, tNext, tDrop, tLst, tTup, tYes, tNotV, tAndV, tOrV, L2.start, List.set, List.map, List.length, List.replicate, List.cons_append, List.nil_append, List.append_nil, cK, bK, rI0, rI, rU, rIxS, rIxL, rIxT, tRetN, rSlL, rIn, rCatT, gTup, gCons, gNil, tRaiseI, tXInit, tDGet, tDGet1, tDGet2, tDIn, tDNotIn, sDPut, tDNewK, rDictOf, rEqDict, rCount, tCompX_list, xCall, sXFld, tXFld, rSlS, rEq, rNe, sc0, sc1, sc2, sc3, sc4, sc5, sc6, sc7, sc8, sc9, sc10, sc11, sc12, sc13, rCatS, rIsi, LenV, rAll, tFor_list, tFor_tup, tFor_str, tFor_rng1, tFor_rng2, tComp_list, tComp_tup, tComp_str, tComp_rng1, blkSt, tBM, rAppend, rStarts, rIndex, tIf, tMake, tMeth, sFld, tFld, tRepr, tFmt, jNil, jCons, tJoined, rJoin, rIsx, rIst, tRaise, tTryAs, tTry0, un1, xMeth, xDrop, xSet, xRet, xOf, xSeq, List.getElem?_cons_zero, List.getElem?_cons_succ, Option.some.injEq, V.int.injEq, V.str.injEq, V.bl.injEq, V.ref.injEq, V.ty.injEq, List.cons.injEq, exists_eq_left', exists_eq_left, exists_eq', and_assoc, if_true, if_false, Bool.not_false, Bool.not_true, Bool.not_not, Bool.false_eq_true, exists_and_left, and_true, true_and, List.set_cons_zero, List.set_cons_succ, Option.join_some, false_and, or_false, false_or, exists_false, sp_wrapped, sp_moved, sp_ones, sp_with, sp_rinit, sp_rule, sp_filW, sp_filH, sp_filL, sp_nbinit, sp_refuse, sp_loaded, sp_start, sp_whole, sp_cellat, sp_target, sp_put, sp_end, sp_built, sp_baseby, sp_copy, sp_fso, sp_due, sp_lso, tFor_enum, rSum, tFor_dict, rClear, rClearD, tBM0, rSlT, Ends.nx, Nat.reduceSub, Nat.reduceAdd, reduceCtorEq])))
local macro_rules | `(tactic| walk_at "rdi") => `(tactic| (walk_at "rdd"; (try simp only [tSeq, tAsg, gName, tC, tOp, tUn, tVar, tRet, tIfS, tOr, tAnd, tNot, tTest, tB, tChain, tCB, tCons, tNil, tCall, tSl, tNoPart, tPart, tNext, tDrop, tLst, tTup, tYes, tNotV, tAndV, tOrV, L2.start, List.set, List.map, List.length, List.replicate, List.cons_append, List.nil_append, List.append_nil, cK, bK, rI0, rI, rU, rIxS, rIxL, rIxT, tRetN, rSlL, rIn, rCatT, gTup, gCons, gNil, tRaiseI, tXInit, tDGet, tDGet1, tDGet2, tDIn, tDNotIn, sDPut, tDNewK, rDictOf, rEqDict, rCount, tCompX_list, xCall, sXFld, tXFld, rSlS, rEq, rNe, sc0, sc1, sc2, sc3, sc4, sc5, sc6, sc7, sc8, sc9, sc10, sc11, sc12, sc13, rCatS, rIsi, LenV, rAll, tFor_list, tFor_tup, tFor_str, tFor_rng1, tFor_rng2, tComp_list, tComp_tup, tComp_str, tComp_rng1, blkSt, tBM, rAppend, rStarts, rIndex, tIf, tMake, tMeth, sFld, tFld, tRepr, tFmt, jNil, jCons, tJoined, rJoin, rIsx, rIst, tRaise, tTryAs, tTry0, un1, xMeth, xDrop, xSet, xRet, xOf, xSeq, List.getElem?_cons_zero, List.getElem?_cons_succ, Option.some.injEq, V.int.injEq, V.str.injEq, V.bl.injEq, V.ref.injEq, V.ty.injEq, List.cons.injEq, exists_eq_left', exists_eq_left, exists_eq', and_assoc, if_true, if_false, Bool.not_false, Bool.not_true, Bool.not_not, Bool.false_eq_true, exists_and_left, and_true, true_and, List.set_cons_zero, List.set_cons_succ, Option.join_some, false_and, or_false, false_or, exists_false, sp_wrapped, sp_moved, sp_ones, sp_with, sp_rinit, sp_rule, sp_filW, sp_filH, sp_filL, sp_nbinit, sp_refuse, sp_loaded, sp_start, sp_whole, sp_cellat, sp_target, sp_put, sp_end, sp_built, sp_baseby, sp_copy, sp_fso, sp_due, sp_lso, tFor_enum, rSum, tFor_dict, rClear, rClearD, tBM0, rSlT, Ends.nx, Nat.reduceSub, Nat.reduceAdd, reduceCtorEq, decide_true, decide_false, ↓reduceIte])))

section
variable {P : Program} {w : World} {K : PySem.W.Frag} {mg : Str → Option Value} {base : Heap} {A : Ad}
theorem G_wrapped (T : Txt K mg A) : FnOk P w K mg base CX0 1 A.wrapped A.fd_wrapped ["number"] sp_wrapped := by
  refine T.F_wrapped.ok sc_wrapped (fun vs H Q E h => ?_) (fun cdv Ar outer s H vs Q E hr h => ?_)
  · obtain ⟨c, rfl, _⟩ := h
    rfl
  · obtain ⟨c, rfl, k⟩ := h
    refine ⟨_, (pss_one (ps_ret (pe_op op_mod (pv 0) (pe_glob rfl T.g_WORD_COUNT relI)))), ?_⟩
    walk_at "rd"
    exact ⟨by decide, k⟩
theorem moved_dn {n u : Int} (h : u < 0) : n / 2 ^ (-u).toNat = K3.movedF n u := by
  rw [← K3.moved_down h, Int.fdiv_eq_ediv_of_nonneg _ (Int.le_of_lt (K3.pow_pos _))]
theorem G_moved (T : Txt K mg A) : FnOk P w K mg base CX0 1 A.moved A.fd_moved ["number", "up"] sp_moved := by
  refine T.F_moved.ok sc_moved (fun vs H Q E h => ?_) (fun cdv Ar outer s H vs Q E hr h => ?_)
  · obtain ⟨n, u, rfl, _⟩ := h
    rfl
  · obtain ⟨n, u, rfl, h1, h2, h3, k⟩ := h
    refine ⟨_, (pss_cons (ps_if (pt_cmpR op_lt (pv 1) pe_int (nomark _)) (pss_one (ps_ret (pe_op op_shr (pv 0) (pe_un un_neg (pv 1))))) pss_nil) (pss_one (ps_ret (pe_op op_shl (pv 0) (pv 1))))), ?_⟩
    walk_at "rd"
    refine ite2 (fun h => ?_) (fun h => ?_)
    · have h := of_decide_eq_true h
      rw [← moved_dn h] at k
      exact ⟨by omega, k⟩
    · have h : ¬ u < 0 := of_decide_eq_false (by simpa using h)
      rw [← K3.moved_up h] at k
      exact ⟨⟨by omega, by omega, by omega⟩, k⟩
theorem G_ones (T : Txt K mg A) : FnOk P w K mg base CX0 1 A.ones A.fd_ones ["many"] sp_ones := by
  refine T.F_ones.ok sc_ones (fun vs H Q E h => ?_) (fun cdv Ar outer s H vs Q E hr h => ?_)
  · obtain ⟨m, rfl, _⟩ := h
    rfl
  · obtain ⟨m, rfl, h1, h2, k⟩ := h
    refine ⟨_, (pss_one (ps_ret (pe_op op_sub (pe_op op_shl pe_int (pe_callB (call_max2 rfl) (by rfl) T.n_max bt_max (pa_cons (pv 0) (pa_cons pe_int pa_nil)))) pe_int))), ?_⟩
    walk_at "rd"
    rw [← K3.ones_eq (k := if 0 > m then 0 else m) (by split <;> omega)] at k
    exact ⟨⟨by split <;> omega, by split <;> omega, by decide⟩, k⟩
theorem bitRange (x : Int) {y : Int} (hy : 0 ≤ y) : 0 ≤ Builtin.bitAnd x y ∧ Builtin.bitAnd x y ≤ y := by
  open PySem PySem.W PySem.Calls PyProof.Rows in exact bitAnd_range x hy
theorem G_with_field (T : Txt K mg A) : FnOk P w K mg base CX0 2 A.with_field A.fd_with_field ["word", "low", "many", "number"] sp_with := by
  refine T.F_with_field.ok sc_with_field (fun vs H Q E h => ?_) (fun cdv Ar outer s H vs Q E hr h => ?_)
  · obtain ⟨a, l, m, n, rfl, _⟩ := h
    rfl
  · obtain ⟨a, l, m, n, rfl, h1, h2, h3, h4, h5, h6, k⟩ := h
    refine ⟨_, (pss_cons (ps_set (i := 4) sc_with_field.nd rfl (by first | exact Or.inl rfl | exact Or.inr rfl) (pe_op op_and (pv 0) (pe_un un_inv (pe_call (G_moved T) (hr.mono (by decide)) rfl T.m_moved T.k_moved T.b_moved .nil pass0 (pa_cons (pe_call (G_ones T) (hr.mono (by decide)) rfl T.m_ones T.k_ones T.b_ones .nil pass0 (pa_cons (pv 2) pa_nil)) (pa_cons (pv 1) pa_nil)))))) (pss_one (ps_ret (pe_call (G_wrapped T) (hr.mono (by decide)) rfl T.m_wrapped T.k_wrapped T.b_wrapped .nil pass0 (pa_cons (pe_op op_or (pv 4) (pe_call (G_moved T) (hr.mono (by decide)) rfl T.m_moved T.k_moved T.b_moved .nil pass0 (pa_cons (pe_op op_and (pv 3) (pe_call (G_ones T) (hr.mono (by decide)) rfl T.m_ones T.k_ones T.b_ones .nil pass0 (pa_cons (pv 2) pa_nil))) (pa_cons (pv 1) pa_nil)))) pa_nil))))), ?_⟩
    walk_at "rd"
    have o1 := K3.ones_fact0 m (by omega)
    have o2 := bitRange n o1.1
    have e := K3.with_eq (w := a) (l := l) (m := m) (n := n) rfl h1 h2 h3 h5 h6
    rw [Int.fmod_eq_emod_of_nonneg _ (by decide)] at e
    rw [← e] at k
    exact ⟨by omega, by omega, o1.1, by omega, by omega, by omega, by omega, o2.1, by omega, by omega, k⟩

theorem same_new {H : Hp} {p : Addr} {o : HO} (h : H p = none) : Same H (upd H p o) := fun b u e => by rw [upd_ne (ne_of_none e h)]; exact e
theorem same_upd {H0 H : Hp} {L : Addr} {o : HO} (h : H0 L = none) (e : Same H0 H) : Same H0 (upd H L o) := fun b u q => by rw [upd_ne (ne_of_none q h)]; exact e b u q
theorem cl_rc (T : Txt K mg A) {C : Addr} (h : RC A C) : Cls K C ∧ NoAttr K C "title" := by
  rcases h with e | e | e <;> subst e
  · exact ⟨T.cl_Whole, T.no_Whole_title⟩
  · exact ⟨T.cl_High, T.no_High_title⟩
  · exact ⟨T.cl_Low, T.no_Low_title⟩
theorem G_Rule___init__ (T : Txt K mg A) : FnOk P w K mg base CX0 1 A.Rule___init__ A.fd_Rule___init__ ["self", "title"] (sp_rinit A) := by
  refine T.F_Rule___init__.ok sc_Rule___init__ (fun vs H Q E h => ?_) (fun cdv Ar outer s H vs Q E hr h => ?_)
  · obtain ⟨p, dx, C, x, rfl, _⟩ := h
    rfl
  · obtain ⟨p, dx, C, x, rfl, hp, hC, k⟩ := h
    refine ⟨_, (pss_one (ps_fld (pv 0) (pv 1) rfl)), ?_⟩
    walk_at "rd"
    exact ⟨C, dx, [], hp, (cl_rc T hC).1, (cl_rc T hC).2, by decide, k⟩
theorem G_rule_of (T : Txt K mg A) : FnOk P w K mg base CX0 4 A.rule_of A.fd_rule_of ["title"] (sp_rule A) := by
  refine T.F_rule_of.ok sc_rule_of (fun vs H Q E h => ?_) (fun cdv Ar outer s H vs Q E hr h => ?_)
  · obtain ⟨z, rfl, _⟩ := h
    rfl
  · obtain ⟨z, rfl, hz, k⟩ := h
    refine ⟨_, (pss_cons (ps_if (pt_cmpR op_eq (pv 0) pe_str (nomark _)) (pss_one (ps_ret (pe_make T.mk_Whole (G_Rule___init__ T) (hr.mono (by decide)) rfl T.mc_Whole T.b_Rule___init__ .nil pass0 (pa_cons (pv 0) pa_nil)))) pss_nil) (pss_cons (ps_if (pt_cmpR op_eq (pv 0) pe_str (nomark _)) (pss_one (ps_ret (pe_make T.mk_High (G_Rule___init__ T) (hr.mono (by decide)) rfl T.mc_High T.b_Rule___init__ .nil pass0 (pa_cons (pv 0) pa_nil)))) pss_nil) (pss_cons (ps_if (pt_cmpR op_eq (pv 0) pe_str (nomark _)) (pss_one (ps_ret (pe_make T.mk_Low (G_Rule___init__ T) (hr.mono (by decide)) rfl T.mc_Low T.b_Rule___init__ .nil pass0 (pa_cons (pv 0) pa_nil)))) pss_nil) (pss_cons (ps_if (pt_cmpR op_eq (pv 0) pe_str (nomark _)) (pss_one ps_never) pss_nil) (pss_cons (ps_if (pt_cmpR op_eq (pv 0) pe_str (nomark _)) (pss_one ps_never) pss_nil) (pss_one ps_never)))))), ?_⟩
    walk_at "rd"
    have go : ∀ C, RC A C → RCs A z C → ∀ (x dx : Addr), H x = none → H dx = none → dx ≠ x →
        ∃ x_1 x_2, upd (upd H dx (HO.own x)) x (HO.ins C dx []) x = some (HO.ins x_2 x_1 []) ∧ RC A x_2 ∧ Q (V.ref x) (upd (upd (upd H dx (HO.own x)) x (HO.ins C dx [])) x (HO.ins x_2 x_1 [(Str.ofString "title", V.str z)])) := by
      intro C hC hc x dx hx hd hne
      refine ⟨dx, C, upd_same, hC, k C hc x _ (fun b o e => ?_) ⟨dx, upd_same⟩⟩
      rw [upd_ne (ne_of_none e hx), upd_ne (ne_of_none e hx), upd_ne (ne_of_none e hd)]
      exact e
    refine ite2 (fun h => ?_) (fun h => ?_)
    · have h := of_decide_eq_true h
      exact go _ (.inl rfl) (.inl ⟨h, rfl⟩)
    have h1 : ¬ z = Str.ofString "whole" := by simpa using h
    refine ite2 (fun h => ?_) (fun h => ?_)
    · have h := of_decide_eq_true h
      exact go _ (.inr (.inl rfl)) (.inr (.inl ⟨h, rfl⟩))
    have h2 : ¬ z = Str.ofString "high" := by simpa using h
    refine ite2 (fun h => ?_) (fun h => ?_)
    · have h := of_decide_eq_true h
      exact go _ (.inr (.inr rfl)) (.inr (.inr ⟨h, rfl⟩))
    have h3 : ¬ z = Str.ofString "low" := by simpa using h
    exact (hz.elim h1 fun x => x.elim h2 h3).elim
theorem G_Whole_filled (T : Txt K mg A) : FnOk P w K mg base CX0 2 A.Whole_filled A.fd_Whole_filled ["self", "word", "here", "there"] sp_filW := by
  refine T.F_Whole_filled.ok sc_Whole_filled (fun vs H Q E h => ?_) (fun cdv Ar outer s H vs Q E hr h => ?_)
  · obtain ⟨v, a, h, t, rfl, _⟩ := h
    rfl
  · obtain ⟨v, a, h, t, rfl, k⟩ := h
    refine ⟨_, (pss_one (ps_ret (pe_call (G_wrapped T) (hr.mono (by decide)) rfl T.m_wrapped T.k_wrapped T.b_wrapped .nil pass0 (pa_cons (pv 3) pa_nil)))), ?_⟩
    walk_at "rd"
    exact k
theorem G_High_filled (T : Txt K mg A) : FnOk P w K mg base CX0 3 A.High_filled A.fd_High_filled ["self", "word", "here", "there"] sp_filH := by
  refine T.F_High_filled.ok sc_High_filled (fun vs H Q E h => ?_) (fun cdv Ar outer s H vs Q E hr h => ?_)
  · obtain ⟨v, a, h, t, rfl, _⟩ := h
    rfl
  · obtain ⟨v, a, h, t, rfl, h1, h2, k⟩ := h
    refine ⟨_, (pss_one (ps_ret (pe_call (G_with_field T) (hr.mono (by decide)) rfl T.m_with_field T.k_with_field T.b_with_field .nil pass0 (pa_cons (pv 1) (pa_cons pe_int (pa_cons pe_int (pa_cons (pe_op op_fdiv (pe_op op_add (pv 3) pe_int) pe_int) pa_nil))))))), ?_⟩
    walk_at "rd"
    exact ⟨⟨by decide, by decide⟩, h1, h2, by decide, by decide, by decide, by decide, k⟩
theorem G_Low_filled (T : Txt K mg A) : FnOk P w K mg base CX0 3 A.Low_filled A.fd_Low_filled ["self", "word", "here", "there"] sp_filL := by
  refine T.F_Low_filled.ok sc_Low_filled (fun vs H Q E h => ?_) (fun cdv Ar outer s H vs Q E hr h => ?_)
  · obtain ⟨v, a, h, t, rfl, _⟩ := h
    rfl
  · obtain ⟨v, a, h, t, rfl, h1, h2, k⟩ := h
    refine ⟨_, (pss_one (ps_ret (pe_call (G_with_field T) (hr.mono (by decide)) rfl T.m_with_field T.k_with_field T.b_with_field .nil pass0 (pa_cons (pv 1) (pa_cons pe_int (pa_cons pe_int (pa_cons (pv 3) pa_nil))))))), ?_⟩
    walk_at "rd"
    exact ⟨h1, h2, by decide, by decide, by decide, by decide, k⟩
theorem few_log {p : Int} (h : Few p) : p.natAbs.log2 < 240 := by
  unfold Few at h
  by_cases hz : p.natAbs = 0
  · rw [hz]; decide
  · exact (Nat.log2_lt (n := p.natAbs) (k := 240) hz).mpr (by omega)
theorem few_len {p : Int} (h : Few p) : (Str.ofString (toString p)).length ≤ 241 := by
  open PySem in
  rw [PySem.ofString_length]
  exact int_text_length_le (by decide) (few_log h)
theorem G_NoBase___init__ (T : Txt K mg A) : FnOk P w K mg base CX0 1 A.NoBase___init__ A.fd_NoBase___init__ ["self", "base"] (sp_nbinit A) := by
  refine T.F_NoBase___init__.ok sc_NoBase___init__ (fun vs H Q E h => ?_) (fun cdv Ar outer s H vs Q E hr h => ?_)
  · obtain ⟨a, p, rfl, _⟩ := h
    rfl
  · obtain ⟨a, p, rfl, ha, hp, k⟩ := h
    refine ⟨_, (pss_cons (ps_expr (pe_xinit rfl T.mc_JoinError T.bi_JoinError (pa_cons (pv 0) (pa_cons (pe_joined (pj_cons pe_str (pj_cons (pe_fmt (pv 1)) pj_nil))) pa_nil)))) (pss_one (ps_xfld (pv 0) (pv 1) rfl))), ?_⟩
    walk_at "rd"
    have l1 := few_len hp
    have l0 : Str.empty.length = 0 := rfl
    have l3 : (Str.ofString "the whole does not fit at ").length = 26 := by decide +kernel
    have sz : ∀ m : Nat, m ≤ 400 → m ≤ sizeLine := fun m h => by rw [sizeLine_eq]; omega
    refine ⟨sz _ (by rw [slen]; omega), by have := few_log hp; omega, sz _ (by rw [slen, slen]; omega), sz _ (by rw [slen, slen]; omega), A.c_NoBase, none, ha, A.NoBase___init__, T.er_NoBase, sz _ (by decide), A.c_NoBase, A.NoBase___init__, none, ha, T.er_NoBase, T.no_NoBase_base, .inl ⟨rfl, fun d hd => ?_⟩⟩
    have hne : d ≠ a := Ne.symm (ne_of_none ha hd)
    refine k d _ hd hne (fun b o hb q => ?_) upd_same ?_
    · rw [upd_ne hb, upd_ne (ne_of_none q hd)]; exact q
    · rw [upd_ne hne, upd_same]
theorem free_of {H : Hp} {p q : Addr} {o : HO} (h : upd H p o q = none) : q ≠ p ∧ H q = none := by
  have n : q ≠ p := fun e => by rw [e, upd_same] at h; cases h
  exact ⟨n, by rw [upd_ne n] at h; exact h⟩
theorem G_refuse_no_base (T : Txt K mg A) : FnOk P w K mg base (CXE P w) 3 A.refuse_no_base A.fd_refuse_no_base ["whole", "base"] (sp_refuse A) := by
  refine T.F_refuse_no_base.okE sc_refuse_no_base (fun vs H Q E h => ?_) (fun cdv Ar outer s H vs Q E hr h => ?_)
  · obtain ⟨W, b, x, y, rfl, _⟩ := h
    rfl
  · obtain ⟨W, b, x, y, rfl, hW, hs, hb, k1, k2⟩ := h
    refine ⟨_, (pss_cons (ps_set (i := 2) sc_refuse_no_base.nd rfl (by first | exact Or.inl rfl | exact Or.inr rfl) (pe_ix (ix_tupK (K := K) rfl) (pv 0) pe_int (fun _ _ => rfl))) (pss_cons (ps_set (i := 3) sc_refuse_no_base.nd rfl (by first | exact Or.inl rfl | exact Or.inr rfl) (pe_ix (ix_tupK (K := K) rfl) (pv 0) pe_int (fun _ _ => rfl))) (pss_one (ps_if (PW.pt (pw_or (pt_cmpR op_lt (pv 1) pe_int (nomark _)) (pw_or (pt_cmpR op_ne (pe_op op_mod (pv 1) (pv 2)) pe_int (nomark _)) (pw_or1 (pt_cmpR op_ge (pe_op op_add (pv 1) (pv 3)) pe_int (nomark _)))))) (pss_one (ps_raiseI (G_NoBase___init__ T) (hr.mono (by decide)) T.b_NoBase___init__ T.er_NoBase rfl T.mc_NoBase rfl xe_cx (pa_cons (pv 1) pa_nil))) pss_nil)))), ?_⟩
    walk_at "rd"
    have bad : ¬ Fits W b → 1 ≤ sizeLine ∧ ∀ (x : Addr), H x = none → upd H x (XN x A.c_NoBase none) x = some (XN x A.c_NoBase none) ∧ Few b ∧ ∀ (d : Addr) (H' : Hp), upd H x (XN x A.c_NoBase none) d = none → d ≠ x →
        (∀ (b : Addr) (o : HO), b ≠ x → upd H x (XN x A.c_NoBase none) b = some o → H' b = some o) → H' x = some (XN x A.c_NoBase (some d)) → H' d = some (XD d [(Str.ofString "base", V.int b)]) →
        H' x = some (XN x A.c_NoBase none) ∧ E (Value.ref A.c_NoBase) none (del H' x) ∨ ∃ d, d ≠ x ∧ H' x = some (XN x A.c_NoBase (some d)) ∧ ∃ x_3, H' d = some (XD d x_3) ∧ E (Value.ref A.c_NoBase) (some d) (del (upd H' d (HO.xd x_3)) x) := fun nf =>
      ⟨by rw [sizeLine_eq]; decide, fun x hx => ⟨upd_same, hb, fun d H' hd hne hk hx' hd' => .inr ⟨d, hne, hx', _, hd', k2 nf d _ (fun c o q => by
        have hc := ne_of_none q hx
        have hdn := (free_of hd).2
        rw [del_ne hc, upd_ne (ne_of_none q hdn)]
        exact hk c o hc (by rw [upd_ne hc]; exact q)) (by rw [del_ne hne, upd_same]; rfl)⟩⟩⟩
    refine ⟨_, SqT.of hW, _, rfl, _, SqT.of hW, _, rfl, ?_⟩
    refine ite2 (fun h => bad fun f => absurd f.1 (by have := of_decide_eq_true h; omega)) (fun h => ?_)
    have h1 : 1 ≤ b := by have := of_decide_eq_false (by simpa using h : decide (b < 1) = false); omega
    refine ⟨_, rfl, by omega, ite2 (fun h => bad fun f => ?_) (fun h => ?_)⟩
    · have := f.2.1
      simp [this] at h
    have h2 : b % W.st = 0 := by simpa using h
    refine ⟨_, rfl, ite2 (fun h => bad fun f => absurd f.2.2 (by have := of_decide_eq_true h; omega)) (fun h => ?_)⟩
    have h3 := of_decide_eq_false (by simpa using h : decide (4294967296 ≤ b + W.sz) = false)
    exact k1 ⟨h1, h2, by omega⟩
theorem G_start_of (T : Txt K mg A) : FnOk P w K mg base (CXE P w) 5 A.start_of A.fd_start_of ["whole", "base"] (sp_start A) := by
  refine T.F_start_of.okE sc_start_of (fun vs H Q E h => ?_) (fun cdv Ar outer s H vs Q E hr h => ?_)
  · obtain ⟨W, b, x, y, rfl, _⟩ := h
    rfl
  · obtain ⟨W, b, x, y, rfl, hW, hs, hb, k1, k2⟩ := h
    refine ⟨_, (pss_cons (ps_expr (pe_call (G_refuse_no_base T) (hr.mono (by decide)) rfl T.m_refuse_no_base T.k_refuse_no_base T.b_refuse_no_base .nil (passesE xe_cx) (pa_cons (pv 0) (pa_cons (pv 1) pa_nil)))) (pss_one (ps_ret (pe_op op_add (pv 1) (pe_ix (ix_tupK (K := K) rfl) (pv 0) pe_int (fun _ _ => rfl)))))), ?_⟩
    walk_at "rd"
    exact ⟨W, rfl, x, y, hW, hs, hb, fun f => ⟨_, SqT.of hW, _, rfl, _, rfl, k1 f⟩, k2⟩
theorem w0_app (xs ys : List Prt) (n : Int) : w0 (xs ++ ys) n = (w0 xs n).or (w0 ys n) := by
  induction xs with
  | nil => rfl
  | cons x r ih =>
    show (if x.p ≤ n ∧ n < x.p + x.ws.length then some (x.ws.getD (n - x.p).toNat 0) else w0 (r ++ ys) n) = _
    rw [show w0 (x :: r) n = (if x.p ≤ n ∧ n < x.p + x.ws.length then some (x.ws.getD (n - x.p).toNat 0) else w0 r n) from rfl]
    split
    · rfl
    · exact ih
theorem w0_none {xs : List Prt} {n : Int} (h : ∀ x ∈ xs, x.p + x.ws.length ≤ n) : w0 xs n = none := by
  induction xs with
  | nil => rfl
  | cons x r ih =>
    rw [show w0 (x :: r) n = (if x.p ≤ n ∧ n < x.p + x.ws.length then some (x.ws.getD (n - x.p).toNat 0) else w0 r n) from rfl, if_neg (fun c => by have := h x (.head _); omega)]
    exact ih fun y hy => h y (.tail _ hy)
theorem w0_snoc {xs : List Prt} {x : Prt} (h : ∀ y ∈ xs, y.p + y.ws.length ≤ x.p) (n : Int) : w0 (xs ++ [x]) n = if x.p ≤ n ∧ n < x.p + x.ws.length then some (x.ws.getD (n - x.p).toNat 0) else w0 xs n := by
  rw [w0_app]
  show (w0 xs n).or (if x.p ≤ n ∧ n < x.p + x.ws.length then some (x.ws.getD (n - x.p).toNat 0) else none) = _
  split
  · rename_i c
    rw [w0_none fun y hy => by have := h y hy; omega]
    rfl
  · rw [Option.or_none]
theorem totW_app (xs ys : List Prt) : totW (xs ++ ys) = totW xs + totW ys := by
  induction xs with
  | nil => show totW ys = 0 + totW ys; omega
  | cons x r ih => show x.ws.length + totW (r ++ ys) = x.ws.length + totW r + totW ys; omega
theorem totW_le {n : Nat} : ∀ {ps : List Prt}, (∀ x ∈ ps, x.ws.length ≤ n) → totW ps ≤ ps.length * n
  | [], _ => Nat.zero_le _
  | x :: r, h => by
    have h1 := h x (.head _)
    have h2 := totW_le (n := n) (ps := r) fun y hy => h y (.tail _ hy)
    show x.ws.length + totW r ≤ (r.length + 1) * n
    rw [Nat.succ_mul]; omega
theorem loadW_snoc (b p : Int) (w : Int) : ∀ (ws : List Int) (j : Nat) (m : List (Key × V)), loadW b p (ws ++ [w]) j m = putK (loadW b p ws j m) (.inl (b + p + ((j + ws.length : Nat) : Int))) (.int w)
  | [], j, m => rfl
  | x :: r, j, m => by
    show loadW b p (r ++ [w]) (j + 1) _ = putK (loadW b p r (j + 1) _) _ _
    rw [loadW_snoc b p w r (j + 1), List.length_cons, show j + 1 + r.length = j + (r.length + 1) by omega]
set_option genInjectivity false in
structure MInv (b : Int) (tot : Nat) (m : Int → Option Int) (F mem : List (Key × V)) : Prop where
  fn : mem = F
  len : mem.length = tot
  val : ∀ n : Int, valV mem (.inl (b + n)) = (m n).map V.int
  keys : ∀ kv ∈ mem, ∃ n : Int, kv.1 = Sum.inl n
theorem MInv.new {b : Int} {tot : Nat} {m m' : Int → Option Int} {F F' mem : List (Key × V)} (I : MInv b tot m F mem) {n v : Int} (h : m n = none) (hF : F' = putK F (.inl (b + n)) (.int v)) (h' : ∀ k, m' k = if k = n then some v else m k) : MInv b (tot + 1) m' F' (putK mem (.inl (b + n)) (.int v)) := by
  have e : valV mem (.inl (b + n)) = none := by rw [I.val, h]; rfl
  refine ⟨by rw [hF, I.fn], ?_, fun k => ?_, fun kv hk => ?_⟩
  · rw [putK_new _ e, List.length_append, I.len]; rfl
  · rw [valV_put, h' k]
    by_cases z : k = n
    · rw [if_pos (by rw [z]), if_pos z]; rfl
    · rw [if_neg (fun y => z (by have := Sum.inl.inj y; omega)), if_neg z]; exact I.val k
  · rw [putK_new _ e] at hk
    rcases List.mem_append.mp hk with z | z
    · exact I.keys kv z
    · rw [List.mem_singleton.mp z]; exact ⟨_, rfl⟩
theorem putK_old {mem : List (Key × V)} {k : Key} {v : V} (h : valV mem k ≠ none) : (putK mem k v).length = mem.length ∧ ∀ kv ∈ putK mem k v, ∃ kv' ∈ mem, kv'.1 = kv.1 := by
  have a : (mem.any fun kv => decide (kv.1 = k)) = true := by
    rw [valV_any]
    cases e : valV mem k with
    | none => exact absurd e h
    | some x => rfl
  unfold putK
  rw [if_pos a, List.length_map]
  refine ⟨rfl, fun kv hk => ?_⟩
  obtain ⟨x, hx, e⟩ := List.mem_map.mp hk
  refine ⟨x, hx, ?_⟩
  rw [← e]; split <;> rfl
theorem MInv.old {b : Int} {tot : Nat} {m m' : Int → Option Int} {F F' mem : List (Key × V)} (I : MInv b tot m F mem) {n v u : Int} (h : m n = some u) (hF : F' = putK F (.inl (b + n)) (.int v)) (h' : ∀ k, m' k = if k = n then some v else m k) : MInv b tot m' F' (putK mem (.inl (b + n)) (.int v)) := by
  have e : valV mem (.inl (b + n)) ≠ none := by rw [I.val, h]; simp
  refine ⟨by rw [hF, I.fn], (putK_old e).1.trans I.len, fun k => ?_, fun kv hk => ?_⟩
  · rw [valV_put, h' k]
    by_cases z : k = n
    · rw [if_pos (by rw [z]), if_pos z]; rfl
    · rw [if_neg (fun y => z (by have := Sum.inl.inj y; omega)), if_neg z]; exact I.val k
  · obtain ⟨kv', h1, h2⟩ := (putK_old e).2 kv hk
    rw [← h2]; exact I.keys kv' h1
theorem layL_snoc (b : Int) (ls : List Ln) (l : Ln) (m : Int → Option Int) : layL b (ls ++ [l]) m = fun n => if n = l.p then (layL b ls m n).map fun w => fillR l.r w (b + l.t) else layL b ls m n := by
  induction ls generalizing m with
  | nil => rfl
  | cons x r ih => exact ih _
noncomputable def RngM (m : Int → Option Int) : Prop := ∀ n w, m n = some w → 0 ≤ w ∧ w ≤ 4294967295
theorem fillR_rng {r : Str} {w t : Int} (h1 : 0 ≤ w) (h2 : w ≤ 4294967295) : 0 ≤ fillR r w t ∧ fillR r w t ≤ 4294967295 := by
  unfold fillR
  split
  · omega
  split
  · exact K3.putF_range h1 h2 (by decide) (by decide) (by decide)
  · exact K3.putF_range h1 h2 (by decide) (by decide) (by decide)
theorem layL_rng {b : Int} (ls : List Ln) (m : Int → Option Int) (h : RngM m) : RngM (layL b ls m) ∧ ∀ n, (layL b ls m n).isSome = (m n).isSome := by
  induction ls generalizing m with
  | nil => exact ⟨h, fun _ => rfl⟩
  | cons x r ih =>
    have hm : RngM (fun n => if n = x.p then (m n).map fun w => fillR x.r w (b + x.t) else m n) := by
      intro n w e
      dsimp only at e
      split at e
      · cases q : m n with
        | none => rw [q] at e; cases e
        | some u => rw [q] at e; cases e; exact fillR_rng (h n u q).1 (h n u q).2
      · exact h n w e
    refine ⟨(ih _ hm).1, fun n => ?_⟩
    rw [show layL b (x :: r) m n = layL b r _ n from rfl, (ih _ hm).2 n]
    split
    · rw [Option.isSome_map]
    · rfl
theorem w0_rng {ps : List Prt} (h : ∀ x ∈ ps, ∀ w ∈ x.ws, 0 ≤ w ∧ w ≤ 4294967295) : RngM (w0 ps) := by
  induction ps with
  | nil => intro n w e; cases e
  | cons x r ih =>
    intro n w e
    rw [show w0 (x :: r) n = (if x.p ≤ n ∧ n < x.p + x.ws.length then some (x.ws.getD (n - x.p).toNat 0) else w0 r n) from rfl] at e
    split at e
    · rename_i c
      cases e
      have hl : (n - x.p).toNat < x.ws.length := by omega
      rw [List.getD_eq_getElem?_getD, List.getElem?_eq_getElem hl]
      exact h x (.head _) _ (List.getElem_mem hl)
    · exact ih (fun y hy => h y (.tail _ hy)) n w e
theorem w0_some {ps : List Prt} {n : Int} {x : Prt} (hx : x ∈ ps) (h1 : x.p ≤ n) (h2 : n < x.p + x.ws.length) : (w0 ps n).isSome = true := by
  induction ps with
  | nil => cases hx
  | cons y r ih =>
    rw [show w0 (y :: r) n = (if y.p ≤ n ∧ n < y.p + y.ws.length then some (y.ws.getD (n - y.p).toNat 0) else w0 r n) from rfl]
    split
    · rfl
    · rename_i c
      rcases List.mem_cons.mp hx with e | e
      · subst e; exact absurd ⟨h1, h2⟩ c
      · exact ih e
theorem take_snoc {α : Type} {xs : List α} {i : Nat} {x : α} (h : xs[i]? = some x) : xs.take (i + 1) = xs.take i ++ [x] := by
  obtain ⟨hl, e⟩ := List.getElem?_eq_some_iff.mp h
  rw [List.take_succ_eq_append_getElem hl, e]
theorem lkF (z : Str) : List.lookup (Str.ofString "filled") [((Str.ofString "title"), V.str z)] = none := by
  have e : (Str.ofString "filled" == Str.ofString "title") = false := by decide +kernel
  unfold List.lookup
  rw [e]; rfl
theorem ne_wh : Str.ofString "whole" ≠ Str.ofString "high" := by decide +kernel
theorem ne_wl : Str.ofString "whole" ≠ Str.ofString "low" := by decide +kernel
theorem ne_hl : Str.ofString "high" ≠ Str.ofString "low" := by decide +kernel
theorem rcs_W {A : Ad} {z : Str} {C : Addr} (h : RCs A z C) (e : z = Str.ofString "whole") : C = A.c_Whole := by
  subst e
  rcases h with ⟨_, h⟩ | ⟨h, _⟩ | ⟨h, _⟩
  · exact h
  · exact absurd h ne_wh
  · exact absurd h ne_wl
theorem rcs_H {A : Ad} {z : Str} {C : Addr} (h : RCs A z C) (e : z = Str.ofString "high") : C = A.c_High := by
  subst e
  rcases h with ⟨h, _⟩ | ⟨_, h⟩ | ⟨h, _⟩
  · exact absurd h.symm ne_wh
  · exact h
  · exact absurd h ne_hl
theorem rcs_L {A : Ad} {z : Str} {C : Addr} (h : RCs A z C) (e : z = Str.ofString "low") : C = A.c_Low := by
  subst e
  rcases h with ⟨h, _⟩ | ⟨h, _⟩ | ⟨_, h⟩
  · exact absurd h.symm ne_wl
  · exact absurd h.symm ne_hl
  · exact h
theorem PM.mono {H H' : Hp} {a : Addr} {ps : List Prt} (h : PM H a ps) (s : Same H H') : PM H' a ps :=
  { h with top := s _ _ h.top, at_ := fun x hx => ⟨s _ _ (h.at_ x hx).1, s _ _ (h.at_ x hx).2⟩ }
theorem PM.vs {H : Hp} {a : Addr} {ps : List Prt} (h : PM H a ps) : ∃ ts : List Addr, H a = some (.lst (ts.map V.ref)) ∧ ts.length = ps.length ∧ ∀ (i : Nat) (x : Prt), ps[i]? = some x → ∃ t, ts[i]? = some t ∧ H t = some (.tup [.int x.p, .ref x.l]) ∧ H x.l = some (.lst (x.ws.map V.int)) :=
  ⟨ps.map Prt.t, by rw [List.map_map]; exact h.top, List.length_map .., fun i x e => ⟨x.t, by rw [List.getElem?_map, e]; rfl, h.at_ x (List.mem_of_getElem? e)⟩⟩
theorem LM.mono {H H' : Hp} {a : Addr} {ls : List Ln} (h : LM H a ls) (s : Same H H') : LM H' a ls := ⟨s _ _ h.top, fun x hx => s _ _ (h.at_ x hx)⟩
theorem LM.vs {H : Hp} {b : Addr} {ls : List Ln} (h : LM H b ls) : ∃ ts : List Addr, H b = some (.lst (ts.map V.ref)) ∧ ts.length = ls.length ∧ ∀ (i : Nat) (x : Ln), ls[i]? = some x → ∃ t, ts[i]? = some t ∧ H t = some (.tup [.int x.p, .str x.r, .int x.t]) :=
  ⟨ls.map Ln.a, by rw [List.map_map]; exact h.top, List.length_map .., fun i x e => ⟨x.a, by rw [List.getElem?_map, e]; rfl, h.at_ x (List.mem_of_getElem? e)⟩⟩
theorem BOk.mono {n : Nat} {H H' : Hp} {S : BS} (h : BOk n H S) (s : Same H H') : BOk n H' S := { h with pm := h.pm.mono s, lm := h.lm.mono s }
theorem WOk.mono {m : Int} {H H' : Hp} {W : Whl} {S : BS} (h : WOk m H W S) (s : Same H H') : WOk m H' W S := { h with top := s _ _ h.top, bok := h.bok.mono s }
theorem Ordd.takes {ps : List Prt} {e : Int} (h : Ordd ps e) {i : Nat} {x : Prt} (hx : ps[i]? = some x) : ∀ y ∈ ps.take i, y.p + y.ws.length ≤ x.p := fun y hy => by
  obtain ⟨j, hj, e⟩ := List.getElem_of_mem hy
  have hj' : j < i := by rw [List.length_take] at hj; omega
  refine h.ap j i y x hj' ?_ hx
  rw [← e, List.getElem_take, List.getElem?_eq_getElem]
theorem G_loaded (T : Txt K mg A) : FnOk P w K mg base (CXE P w) 6 A.loaded A.fd_loaded ["whole", "base"] (sp_loaded A) := by
  refine T.F_loaded.okE sc_loaded (fun vs H Q E h => ?_) (fun cdv Ar outer s H vs Q E hr h => ?_)
  · obtain ⟨W, S, most, b, rfl, _⟩ := h
    rfl
  · obtain ⟨W, S, most, b, rfl, hW, hb, k1, k2⟩ := h
    refine ⟨_, (pss_cons (ps_expr (pe_call (G_refuse_no_base T) (hr.mono (by decide)) rfl T.m_refuse_no_base T.k_refuse_no_base T.b_refuse_no_base .nil (passesE xe_cx) (pa_cons (pv 0) (pa_cons (pv 1) pa_nil)))) (pss_cons (ps_set (i := 2) sc_loaded.nd rfl (by first | exact Or.inl rfl | exact Or.inr rfl) pe_dnewK) (pss_cons (PS.nox (ps_for PassesOwn.never rfl (pi_listK (K := K) rfl (pe_ix (ix_tupK (K := K) rfl) (pv 0) pe_int (fun _ _ => rfl))) (pg_tupK (K := K) (n := 2) rfl rfl (pgs_cons (pg_name (i := 3) sc_loaded.nd rfl (by first | exact Or.inl rfl | exact Or.inr rfl)) (pgs_cons (pg_name (i := 4) sc_loaded.nd rfl (by first | exact Or.inl rfl | exact Or.inr rfl)) pgs_nil))) (pss_one (PS.nox (ps_for PassesOwn.never rfl (pi_enum (K := K) rfl rfl T.n_enumerate (pa_cons (pv 4) pa_nil)) (pg_tupK (K := K) (n := 2) rfl rfl (pgs_cons (pg_name (i := 5) sc_loaded.nd rfl (by first | exact Or.inl rfl | exact Or.inr rfl)) (pgs_cons (pg_name (i := 6) sc_loaded.nd rfl (by first | exact Or.inl rfl | exact Or.inr rfl)) pgs_nil))) (pss_one (ps_dput (hu_of hr) (pv 2) (pe_op op_add (pe_op op_add (pv 1) (pv 3)) (pv 5)) (pv 6) rfl))))))) (pss_cons (PS.nox (ps_for PassesOwn.never rfl (pi_listK (K := K) rfl (pe_ix (ix_tupK (K := K) rfl) (pv 0) pe_int (fun _ _ => rfl))) (pg_tupK (K := K) (n := 3) rfl rfl (pgs_cons (pg_name (i := 3) sc_loaded.nd rfl (by first | exact Or.inl rfl | exact Or.inr rfl)) (pgs_cons (pg_name (i := 7) sc_loaded.nd rfl (by first | exact Or.inl rfl | exact Or.inr rfl)) (pgs_cons (pg_name (i := 8) sc_loaded.nd rfl (by first | exact Or.inl rfl | exact Or.inr rfl)) pgs_nil)))) (pss_cons (ps_set (i := 9) sc_loaded.nd rfl (by first | exact Or.inl rfl | exact Or.inr rfl) (pe_op op_add (pv 1) (pv 3))) (pss_one (ps_dput (hu_of hr) (pv 2) (pv 9) (pe_alt (pe_meth (pe_call (G_rule_of T) (hr.mono (by decide)) rfl T.m_rule_of T.k_rule_of T.b_rule_of .nil pass0 (pa_cons (pv 7) pa_nil)) T.cl_Whole T.me_Whole_filled (G_Whole_filled T) (hr.mono (by decide)) T.b_Whole_filled .nil pass0 (pa_cons (pe_dget (hu_of hr) (pv 2) (pv 9) (fun _ _ => rfl)) (pa_cons (pv 9) (pa_cons (pe_op op_add (pv 1) (pv 8)) pa_nil)))) (pe_alt (pe_meth (pe_call (G_rule_of T) (hr.mono (by decide)) rfl T.m_rule_of T.k_rule_of T.b_rule_of .nil pass0 (pa_cons (pv 7) pa_nil)) T.cl_High T.me_High_filled (G_High_filled T) (hr.mono (by decide)) T.b_High_filled .nil pass0 (pa_cons (pe_dget (hu_of hr) (pv 2) (pv 9) (fun _ _ => rfl)) (pa_cons (pv 9) (pa_cons (pe_op op_add (pv 1) (pv 8)) pa_nil)))) (pe_meth (pe_call (G_rule_of T) (hr.mono (by decide)) rfl T.m_rule_of T.k_rule_of T.b_rule_of .nil pass0 (pa_cons (pv 7) pa_nil)) T.cl_Low T.me_Low_filled (G_Low_filled T) (hr.mono (by decide)) T.b_Low_filled .nil pass0 (pa_cons (pe_dget (hu_of hr) (pv 2) (pv 9) (fun _ _ => rfl)) (pa_cons (pv 9) (pa_cons (pe_op op_add (pv 1) (pv 8)) pa_nil)))))) rfl))))) (pss_one (ps_ret (pv 2))))))), ?_⟩
    walk_at "rd"
    refine ⟨W, rfl, _, _, hW.top, hW.s1, hb, fun f d hd => ⟨_, SqT.of (same_new hd _ _ hW.top), _, rfl, ?_⟩, k2⟩
    have B := hW.bok
    obtain ⟨ts, p1, p2, p3⟩ := B.pm.vs
    have sm0 : Same H (upd H d (.dK [])) := same_new hd
    refine ForL.of (xs := ts.map V.ref) (fun i σ H' => ∃ (b3 b4 b5 b6 b7 b8 b9 : Option V) (mem : List (Key × V)), σ = [some (.ref W.t), some (.int b), some (.ref d), b3, b4, b5, b6, b7, b8, b9] ∧ Same H H' ∧ H' d = some (.dK mem) ∧ MInv b (totW (S.ps.take i)) (w0 (S.ps.take i)) (loadPs b ((S.ps.take i).map Prt.core)) mem)
      ⟨_, _, _, _, _, _, _, [], rfl, sm0, upd_same, ⟨rfl, rfl, fun n => rfl, fun kv h => by cases h⟩⟩ ?_ ?_ ?_
    · rintro i σ H' hi ⟨b3, b4, b5, b6, b7, b8, b9, mem, rfl, sm, hdd, I⟩
      exact SqL.of (sm _ _ p1)
    · rintro i x σ H' hx ⟨b3, b4, b5, b6, b7, b8, b9, mem, rfl, sm, hdd, I⟩
      rw [List.getElem?_map] at hx
      cases ht : ts[i]? with
      | none => rw [ht] at hx; cases hx
      | some t0 =>
      rw [ht] at hx; cases hx
      have hil : i < S.ps.length := by rw [← p2]; exact (List.getElem?_eq_some_iff.mp ht).1
      have ei : S.ps[i]? = some S.ps[i] := List.getElem?_eq_getElem hil
      generalize hxx : S.ps[i] = x at ei
      obtain ⟨t1, q1, q2, q3⟩ := p3 i x ei
      rw [ht] at q1; cases q1
      have hxm : x ∈ S.ps := List.mem_of_getElem? ei
      have tk := B.ord.takes ei
      walk_at "rd"
      refine ⟨_, SqT.of (sm _ _ q2), rfl, _, _, rfl, _, _, rfl, rfl, ?_⟩
      refine ForE.of (xs := x.ws.map V.int) (fun j σ H' => ∃ (b5 b6 b7 b8 b9 : Option V) (mem : List (Key × V)), σ = [some (.ref W.t), some (.int b), some (.ref d), some (.int x.p), some (.ref x.l), b5, b6, b7, b8, b9] ∧ Same H H' ∧ H' d = some (.dK mem) ∧ MInv b (totW (S.ps.take i) + j) (w0 (S.ps.take i ++ [⟨x.t, x.l, x.p, x.ws.take j⟩])) (loadW b x.p (x.ws.take j) 0 (loadPs b ((S.ps.take i).map Prt.core))) mem)
        ⟨_, _, _, _, _, mem, rfl, sm, hdd, ⟨I.fn, I.len, fun n => (I.val n).trans (by rw [w0_snoc (x := ⟨x.t, x.l, x.p, x.ws.take 0⟩) tk, if_neg (by simp)]), I.keys⟩⟩ ?_ ?_ ?_
      · rintro j σ H' hj ⟨b5, b6, b7, b8, b9, mem, rfl, sm, hdd, I⟩
        exact SqL.of (sm _ _ q3)
      · rintro j v σ H' q hv ⟨b5, b6, b7, b8, b9, mem, rfl, sm, hdd, I⟩ hq
        rw [List.getElem?_map] at hv
        cases hw : x.ws[j]? with
        | none => rw [hw] at hv; cases hv
        | some u =>
        rw [hw] at hv; cases hv
        have hjl : j < x.ws.length := (List.getElem?_eq_some_iff.mp hw).1
        walk_at "rd"
        have hd' : upd H' q (HO.tup [V.int (j : Int), V.int u]) d = some (.dK mem) := by rw [upd_ne (ne_of_none hdd hq)]; exact hdd
        have lz : mem.length < sizeLine := by
          have a1 := I.len
          have n5 := hW.n5
          have a2 := totW_le (n := 500) (ps := S.ps.take i) fun y hy => Nat.le_trans (B.n3 y (List.mem_of_mem_take hy)) n5
          have a3 : (S.ps.take i).length ≤ 500 := by rw [List.length_take]; have := B.n1; omega
          have a4 := B.n3 x hxm
          have a5 : (S.ps.take i).length * 500 ≤ 500 * 500 := Nat.mul_le_mul_right 500 a3
          rw [sizeLine_eq]; omega
        refine ⟨_, SqT.of upd_same, rfl, _, _, rfl, _, _, rfl, rfl, _, rfl, _, DPut.k (k := Sum.inl _) hd' lz, same_upd hd (sm.trans (same_new hq)), _, upd_same, ?_⟩
        have e : b + x.p + (j : Int) = b + (x.p + (j : Int)) := by omega
        rw [e]
        have ev : x.ws.getD j 0 = u := by rw [List.getD_eq_getElem?_getD, hw]; rfl
        refine I.new (n := x.p + (j : Int)) ?_ (by rw [take_snoc hw, loadW_snoc, Nat.zero_add, List.length_take, Nat.min_eq_left (by omega), e]) fun k => ?_
        · rw [w0_snoc (x := ⟨x.t, x.l, x.p, x.ws.take j⟩) tk, if_neg (by simp; omega)]
          exact w0_none fun y hy => by have := tk y hy; omega
        · rw [w0_snoc (x := ⟨x.t, x.l, x.p, x.ws.take (j + 1)⟩) tk, w0_snoc (x := ⟨x.t, x.l, x.p, x.ws.take j⟩) tk]
          have t1 : (x.ws.take (j + 1)).length = j + 1 := by rw [List.length_take]; omega
          have t2 : (x.ws.take j).length = j := by rw [List.length_take]; omega
          dsimp only
          rw [t1, t2]
          by_cases z : k = x.p + (j : Int)
          · rw [if_pos (by omega), if_pos z]
            have : (k - x.p).toNat = j := by omega
            rw [this, List.getD_eq_getElem?_getD, List.getElem?_take_of_lt (by omega), hw]; rfl
          · rw [if_neg z]
            by_cases z2 : x.p ≤ k ∧ k < x.p + (j : Int)
            · rw [if_pos (by omega), if_pos z2]
              rw [List.getD_eq_getElem?_getD, List.getD_eq_getElem?_getD, List.getElem?_take_of_lt (by omega), List.getElem?_take_of_lt (by omega)]
            · rw [if_neg (by omega), if_neg z2]
      · rintro σ H' ⟨b5, b6, b7, b8, b9, mem, rfl, sm, hdd, I⟩
        refine ⟨_, _, _, _, _, _, _, rfl, sm, mem, hdd, ?_⟩
        rw [take_snoc ei, totW_app, List.map_append, show loadPs b (List.map Prt.core (List.take i S.ps) ++ List.map Prt.core [x]) = loadW b x.p x.ws 0 (loadPs b (List.map Prt.core (List.take i S.ps))) from by unfold loadPs; rw [List.foldl_append]; rfl]
        have e0 : x.ws.take (List.map V.int x.ws).length = x.ws := by rw [List.length_map, List.take_length]
        rw [e0] at I
        have e : (⟨x.t, x.l, x.p, x.ws⟩ : Prt) = x := rfl
        rw [e] at I
        rw [List.length_map] at I
        exact I
    · rintro σ H' ⟨b3, b4, b5, b6, b7, b8, b9, mem, rfl, sm, hdd, I⟩
      obtain ⟨us, l1, l2, l3⟩ := B.lm.vs
      have efull : S.ps.take (List.map V.ref ts).length = S.ps := by rw [List.length_map, p2, List.take_length]
      rw [efull] at I
      walk_at "rd"
      refine ⟨_, SqT.of (sm _ _ hW.top), _, rfl, ?_⟩
      refine ForL.of (xs := us.map V.ref) (fun i σ H' => ∃ (b3 b4 b5 b6 b7 b8 b9 : Option V) (mem : List (Key × V)), σ = [some (.ref W.t), some (.int b), some (.ref d), b3, b4, b5, b6, b7, b8, b9] ∧ Same H H' ∧ H' d = some (.dK mem) ∧ MInv b (totW S.ps) (layL b (S.ls.take i) (w0 S.ps)) (loadLs b ((S.ls.take i).map Ln.core) (loadPs b (S.ps.map Prt.core))) mem)
        ⟨_, _, _, _, _, _, _, mem, rfl, sm, hdd, I⟩ ?_ ?_ ?_
      · rintro i σ H' hi ⟨b3, b4, b5, b6, b7, b8, b9, mem, rfl, sm, hdd, I⟩
        exact SqL.of (sm _ _ l1)
      · rintro i x σ H' hx ⟨b3, b4, b5, b6, b7, b8, b9, mem, rfl, sm, hdd, I⟩
        rw [List.getElem?_map] at hx
        cases ht : us[i]? with
        | none => rw [ht] at hx; cases hx
        | some t0 =>
        rw [ht] at hx; cases hx
        have hil : i < S.ls.length := by rw [← l2]; exact (List.getElem?_eq_some_iff.mp ht).1
        have ei : S.ls[i]? = some S.ls[i] := List.getElem?_eq_getElem hil
        generalize hxx : S.ls[i] = x at ei
        obtain ⟨t1, q1, q2⟩ := l3 i x ei
        rw [ht] at q1; cases q1
        have hxm : x ∈ S.ls := List.mem_of_getElem? ei
        obtain ⟨y, hy, hy1, hy2⟩ := B.lk x hxm
        have rg := layL_rng (b := b) (S.ls.take i) (w0 S.ps) (w0_rng B.ws)
        have hsome : (layL b (S.ls.take i) (w0 S.ps) x.p).isSome = true := by rw [rg.2]; exact w0_some hy hy1 hy2
        obtain ⟨u, hu⟩ := Option.isSome_iff_exists.mp hsome
        have ru := rg.1 _ _ hu
        have lz : mem.length < sizeLine := by
          have a1 := I.len
          have n5 := hW.n5
          have a2 := totW_le (n := 500) (ps := S.ps) fun y hy => Nat.le_trans (B.n3 y hy) n5
          have a5 : S.ps.length * 500 ≤ 500 * 500 := Nat.mul_le_mul_right 500 (Nat.le_trans B.n1 n5)
          rw [sizeLine_eq]; omega
        have gt : ∀ H1, Same H' H1 → DGet H1 d (V.int (b + x.p)) (some (V.int u)) := fun H1 s1 => by
          have g : DGet H1 d (V.int (b + x.p)) (valV mem (.inl (b + x.p))) := DGet.k (k := Sum.inl (b + x.p)) (s1 _ _ hdd)
          rw [I.val, hu] at g; exact g
        have fin : ∀ (v : Int) (H1 : Hp), v = fillR x.r u (b + x.t) → Same H' H1 → ∃ x_6, DPut H1 d (V.int (b + x.p)) (V.int v) x_6 ∧ Same H x_6 ∧ ∃ y, x_6 d = some (HO.dK y) ∧ MInv b (totW S.ps) (layL b (List.take (i + 1) S.ls) (w0 S.ps)) (loadLs b ((S.ls.take (i + 1)).map Ln.core) (loadPs b (S.ps.map Prt.core))) y := fun v H1 ev s1 =>
          ⟨_, DPut.k (k := Sum.inl (b + x.p)) (s1 _ _ hdd) lz, same_upd hd (sm.trans s1), _, upd_same, I.old hu (by
            rw [take_snoc ei, List.map_append]
            unfold loadLs
            rw [List.foldl_append]
            have iu : intAt mem (b + x.p) = u := by unfold intAt; rw [I.val, hu]; rfl
            have fn := I.fn
            unfold loadLs at fn
            rw [← fn]
            show putK mem _ (V.int (fillR x.r (intAt mem (b + x.p)) (b + x.t))) = _
            rw [iu, ev]; rfl) fun k => by
            rw [take_snoc ei, layL_snoc]
            dsimp only
            by_cases z : k = x.p
            · rw [if_pos z, if_pos z, z, hu, ev]; rfl
            · rw [if_neg z, if_neg z]⟩
        walk_at "rd"
        refine ⟨_, SqT.of (sm _ _ q2), rfl, _, _, rfl, _, _, rfl, _, _, rfl, rfl, _, rfl, ?_⟩
        rcases (B.rr x hxm).1 with hr' | hr' | hr'
        · refine .inl ⟨_, rfl, .inl hr', fun C hC p H1 s1 hp => ?_⟩
          obtain ⟨dx, hp⟩ := hp
          rw [rcs_W hC hr'] at hp
          exact ⟨_, _, hp, lkF _, _, gt H1 s1, _, rfl, _, rfl, fin _ H1 (by unfold fillR; rw [if_pos hr']) s1⟩
        · refine .inr (.inl ⟨_, rfl, .inr (.inl hr'), fun C hC p H1 s1 hp => ?_⟩)
          obtain ⟨dx, hp⟩ := hp
          rw [rcs_H hC hr'] at hp
          exact ⟨_, _, hp, lkF _, _, gt H1 s1, _, rfl, _, rfl, ru.1, ru.2, fin _ H1 (by unfold fillR; rw [if_neg (by rw [hr']; exact ne_wh.symm), if_pos hr']) s1⟩
        · refine .inr (.inr ⟨_, rfl, .inr (.inr hr'), fun C hC p H1 s1 hp => ?_⟩)
          obtain ⟨dx, hp⟩ := hp
          rw [rcs_L hC hr'] at hp
          exact ⟨_, _, hp, lkF _, _, gt H1 s1, _, rfl, _, rfl, ru.1, ru.2, fin _ H1 (by unfold fillR; rw [if_neg (by rw [hr']; exact ne_wl.symm), if_neg (by rw [hr']; exact ne_hl.symm)]) s1⟩
      · rintro σ H' ⟨b3, b4, b5, b6, b7, b8, b9, mem, rfl, sm, hdd, I⟩
        walk_at "rd"
        have efull : S.ls.take (List.map V.ref us).length = S.ls := by rw [List.length_map, l2, List.take_length]
        rw [efull] at I
        exact k1 f d mem H' sm hd hdd ⟨I.len, I.val, I.keys, I.fn⟩
theorem G__law_whole (T : Txt K mg A) : FnOk P w K mg base CX0 1 A._law_whole A.fd__law_whole ["_law_found"] sp_whole := by
  refine T.F__law_whole.ok sc__law_whole (fun vs H Q E h => ?_) (fun cdv Ar outer s H vs Q E hr h => ?_)
  · obtain ⟨c, rfl, _⟩ := h
    rfl
  · obtain ⟨c, rfl, k⟩ := h
    refine ⟨_, (pss_one (ps_ret (pe_and (pe_callB (call_isiK (K := K) rfl) (by rfl) T.n_isinstance bt_isinstance (pa_cons (pv 0) (pa_cons (pe_bltn rfl T.n_int bt_int relT) pa_nil))) (pe_one (pe_not (pe_callB (call_isiK (K := K) rfl) (by rfl) T.n_isinstance bt_isinstance (pa_cons (pv 0) (pa_cons (pe_bltn rfl T.n_bool bt_bool relT) pa_nil)))))))), ?_⟩
    walk_at "rd"
    exact ⟨_, .int c, true, rfl, iteT ⟨_, .int c, false, rfl, k⟩⟩
theorem G__law_cell_at (T : Txt K mg A) : FnOk P w K mg base CX0 1 A._law_cell_at A.fd__law_cell_at ["_law_script", "_law_k"] (sp_cellat K) := by
  refine T.F__law_cell_at.ok sc__law_cell_at (fun vs H Q E h => ?_) (fun cdv Ar outer s H vs Q E hr h => ?_)
  · obtain ⟨a, ns, k0, rfl, _⟩ := h
    rfl
  · obtain ⟨a, ns, k0, rfl, hl, h0, k⟩ := h
    refine ⟨_, (pss_cons (ps_if (pt_cmpR op_lt (pv 1) (pe_callB (call_lenK (K := K) rfl) (by rfl) T.n_len bt_len (pa_cons (pv 0) pa_nil)) (nomark _)) (pss_one (ps_ret (pe_ix (ix_listK (K := K) rfl) (pv 0) (pv 1) (fun _ _ => rfl)))) pss_nil) (pss_one (ps_ret pe_int))), ?_⟩
    walk_at "rd"
    refine ⟨_, .inl ⟨_, hl, rfl⟩, ite2 (fun h => ?_) (fun _ => k 0)⟩
    have h := of_decide_eq_true h
    obtain ⟨v, e, hm⟩ := atI_ex (xs := ns.map V.int) (i := k0) (by omega) h
    obtain ⟨m, _, rfl⟩ := List.mem_map.mp hm
    exact ⟨_, hl, _, e, k m⟩
theorem G__law_target_by (T : Txt K mg A) : FnOk P w K mg base CX0 1 A._law_target_by A.fd__law_target_by ["_law_number"] sp_target := by
  refine T.F__law_target_by.ok sc__law_target_by (fun vs H Q E h => ?_) (fun cdv Ar outer s H vs Q E hr h => ?_)
  · obtain ⟨c, rfl, _⟩ := h
    rfl
  · obtain ⟨c, rfl, k⟩ := h
    refine ⟨_, (pss_cons (ps_if (pt_cmpR op_eq (pe_op op_mod (pv 0) pe_int) pe_int (nomark _)) (pss_one (ps_ret (pe_op op_sub (pe_op op_mod (pe_op op_fdiv (pv 0) pe_int) pe_int) pe_int))) pss_nil) (pss_cons (ps_if (pt_cmpR op_eq (pe_op op_mod (pv 0) pe_int) pe_int (nomark _)) (pss_one (ps_ret (pe_op op_sub (pe_op op_mod (pe_op op_mul (pv 0) pe_int) pe_int) pe_int))) pss_nil) (pss_one (ps_ret (pe_op op_sub (pe_op op_add (pe_op op_mul (pe_op op_sub (pe_op op_mod (pe_op op_fdiv (pv 0) pe_int) pe_int) pe_int) pe_int) (pe_op op_mod (pe_op op_fdiv (pv 0) pe_int) pe_int)) pe_int))))), ?_⟩
    walk_at "rd"
    refine ⟨by decide, ite2 (fun _ => ⟨⟨by decide, by decide⟩, by decide, k _ (by omega) (by omega)⟩) (fun _ => ⟨by decide, ite2 (fun _ => ⟨.inr ⟨by decide, by decide⟩, by decide, k _ (by omega) (by omega)⟩) (fun _ => ⟨⟨by decide, by decide⟩, by decide, .inr ⟨by decide, by decide⟩, ⟨by decide, by decide⟩, by decide, k _ (by omega) (by omega)⟩)⟩)⟩
theorem atI_last {α : Type} {xs : List α} {x : α} : atI (xs ++ [x]) (-1) = some x := by
  unfold atI ixN
  rw [if_neg (by decide), if_pos (by simp; omega)]
  show (xs ++ [x])[(-1 + ((xs ++ [x]).length : Int)).toNat]? = some x
  have e : (-1 + ((xs ++ [x]).length : Int)).toNat = xs.length := by simp; omega
  rw [e]; simp
noncomputable def Prt.d (x : Prt) : D := .tup [.int x.p, .lst (x.ws.map D.int)]
theorem dep_prt (x : Prt) : dep x.d ≤ 3 := by
  have h1 : depL (x.ws.map D.int) ≤ 0 := depL_le fun x _ => by simp [dep]
  simp only [Prt.d, dep, depL]
  omega
theorem PM.rep {H : Hp} {a : Addr} {ps : List Prt} (h : PM H a ps) : Rep K H (.lst (ps.map Prt.d)) (.ref a) := by
  simp only [Rep]
  refine ⟨_, _, rfl, SqL.of h.top, RepL.map fun x hx => ?_⟩
  simp only [Prt.d, Rep]
  refine ⟨_, _, rfl, SqT.of (h.at_ x hx).1, ?_⟩
  simp only [RepL, Rep]
  exact ⟨_, _, rfl, rfl, _, _, rfl, ⟨_, _, rfl, SqL.of (h.at_ x hx).2, RepL.map fun w _ => by simp [Rep]⟩, rfl⟩
theorem parts_nil {H : Hp} {a q : Addr} {ps : List Prt} {R : Bool → Hp → Prop} (h : PM H a ps) (hq : H q = none) (k1 : ps = [] → R true (upd H q (HO.lst []))) (k2 : ps ≠ [] → R false (upd H q (HO.lst []))) :
    rEqD K (V.ref a) (V.ref q) (upd H q (HO.lst [])) fun x H' => ∃ k, x = V.bl k ∧ R k H' := by
  refine ⟨ps.map Prt.d, [], .inl ⟨(h.mono (same_new hq)).rep, ⟨q, [], rfl, SqL.of upd_same, by simp [RepL]⟩⟩, Nat.le_trans (depL_le fun p _ => dep_prt p) (by decide), _, rfl, ?_⟩
  rw [deqL_nil]
  by_cases z : ps = []
  · rw [decide_eq_true (by rw [z]; rfl)]; exact k1 z
  · rw [decide_eq_false (fun e => z (List.map_eq_nil_iff.mp e))]; exact k2 z
theorem last_of {α : Type} {xs : List α} (h : xs ≠ []) : ∃ ys x, xs = ys ++ [x] := ⟨xs.dropLast, xs.getLast h, (List.dropLast_concat_getLast h).symm⟩
theorem endP_last (ys : List Prt) (x : Prt) : endP (ys ++ [x]) = x.p + x.ws.length := by unfold endP; rw [List.getLast?_append]; rfl
theorem G__law_end (T : Txt K mg A) : FnOk P w K mg base CX0 1 A._law_end A.fd__law_end ["_law_parts"] sp_end := by
  refine T.F__law_end.ok sc__law_end (fun vs H Q E h => ?_) (fun cdv Ar outer s H vs Q E hr h => ?_)
  · obtain ⟨S, n, rfl, _⟩ := h
    rfl
  · obtain ⟨S, n, rfl, B, k⟩ := h
    refine ⟨_, (pss_cons (ps_if (pt_cmpR (op_eqDK hr.units (K := K) rfl) (pv 0) (pe_lst pa_nil) (nomark _)) (pss_one (ps_ret pe_int)) pss_nil) (pss_one (ps_ret (pe_op op_add (pe_ix (ix_tupK (K := K) rfl) (pe_ix (ix_listK (K := K) rfl) (pv 0) (pe_un un_neg pe_int) (fun _ _ => rfl)) pe_int (fun _ _ => rfl)) (pe_callB (call_lenK (K := K) rfl) (by rfl) T.n_len bt_len (pa_cons (pe_ix (ix_tupK (K := K) rfl) (pe_ix (ix_listK (K := K) rfl) (pv 0) (pe_un un_neg pe_int) (fun _ _ => rfl)) pe_int (fun _ _ => rfl)) pa_nil)))))), ?_⟩
    walk_at "rd"
    refine ⟨Nat.zero_le _, fun q hq => parts_nil B.pm hq (fun z => ?_) (fun z => ?_)⟩
    · rw [if_pos rfl]
      have : S.e = 0 := by rw [B.en, z]; rfl
      rw [← this]; exact k _ (same_new hq)
    · rw [if_neg (by decide)]
      obtain ⟨ys, x, e⟩ := last_of z
      have B' := B.mono (same_new (o := HO.lst []) hq)
      have t1 := B'.pm.top
      have a1 := B'.pm.at_ x (by rw [e]; simp)
      have e1 : S.e = x.p + x.ws.length := by rw [B.en, e, endP_last]
      rw [e, List.map_append] at t1
      refine ⟨_, SqL.of t1, _, atI_last, _, rfl, _, SqT.of a1.1, _, rfl, _, SqL.of t1, _, atI_last, _, rfl, _, SqT.of a1.1, _, rfl, _, .inl ⟨_, SqL.of a1.2, rfl⟩, _, rfl, ?_⟩
      rw [List.length_map, ← e1]
      exact k _ (same_new hq)
theorem Ordd.init {ys : List Prt} {x : Prt} {e : Int} (h : Ordd (ys ++ [x]) e) : Ordd ys x.p ∧ 0 ≤ x.p := by
  have hx : (ys ++ [x])[ys.length]? = some x := by simp
  refine ⟨⟨fun y hy => h.pos y (List.mem_append_left _ hy), fun y hy => ?_, fun i j y z hij hi hj => ?_⟩, h.pos x (by simp)⟩
  · obtain ⟨i, hi, e⟩ := List.getElem_of_mem hy
    exact h.ap i ys.length y x hi (by rw [List.getElem?_append_left hi, List.getElem?_eq_getElem hi, e]) hx
  · have h2 := (List.getElem?_eq_some_iff.mp hj).1
    exact h.ap i j y z hij (by rw [List.getElem?_append_left (by omega)]; exact hi) (by rw [List.getElem?_append_left h2]; exact hj)
theorem Ordd.snoc {ys : List Prt} {x : Prt} {e : Int} (h : Ordd ys e) (h0 : 0 ≤ e) (hx : e ≤ x.p) : Ordd (ys ++ [x]) (x.p + x.ws.length) := by
  refine ⟨fun y hy => ?_, fun y hy => ?_, fun i j y z hij hi hj => ?_⟩
  · rcases List.mem_append.mp hy with z | z
    · exact h.pos y z
    · rw [List.mem_singleton.mp z]; omega
  · rcases List.mem_append.mp hy with z | z
    · have := h.le y z; omega
    · rw [List.mem_singleton.mp z]; omega
  · have h2 := (List.getElem?_eq_some_iff.mp hj).1
    rw [List.length_append, List.length_singleton] at h2
    rw [List.getElem?_append_left (by omega)] at hi
    by_cases hl : j < ys.length
    · rw [List.getElem?_append_left hl] at hj
      exact h.ap i j y z hij hi hj
    · have : j = ys.length := by omega
      subst this
      rw [List.getElem?_append_right (Nat.le_refl _), Nat.sub_self] at hj
      cases hj
      have := h.le y (List.mem_of_getElem? hi)
      omega
theorem lenS {x : Int} (h0 : 0 ≤ x + 10 ^ 12) (h1 : x ≤ 10 ^ 12) : (Str.ofString (toString x)).length ≤ 241 ∧ x.natAbs.log2 < 1920 := by
  have f : Few x := ⟨by omega, by omega⟩
  exact ⟨few_len f, by have := few_log f; omega⟩
theorem G__law_put (T : Txt K mg A) : FnOk P w K mg base CX0 3 A._law_put A.fd__law_put ["_law_cell", "_law_parts", "_law_leans", "_law_end_here"] sp_put := by
  refine T.F__law_put.ok sc__law_put (fun vs H Q E h => ?_) (fun cdv Ar outer s H vs Q E hr h => ?_)
  · obtain ⟨c, S, n, rfl, _⟩ := h
    rfl
  · obtain ⟨c, S, n, rfl, B, hn, k⟩ := h
    refine ⟨_, (pss_cons (ps_set (i := 4) sc__law_put.nd rfl (by first | exact Or.inl rfl | exact Or.inr rfl) (pe_op op_mod (pe_op op_mul (pv 0) pe_int) pe_int)) (pss_cons (ps_if (PW.pt (pw_or (pt_cmpR (op_eqDK hr.units (K := K) rfl) (pv 1) (pe_lst pa_nil) (nomark _)) (pw_or1 (pt_cmpR op_eq (pe_op op_mod (pv 0) pe_int) pe_int (nomark _))))) (pss_weak (u := pA) (pss_cons (ps_set (i := 5) sc__law_put.nd rfl (by first | exact Or.inl rfl | exact Or.inr rfl) (pe_op op_add (pv 3) (pe_op op_mod (pv 4) pe_int))) (pss_cons (ps_if (pt_cmpR op_eq (pe_op op_mod (pe_op op_fdiv (pv 0) pe_int) pe_int) pe_int (nomark _)) (pss_one (ps_set (i := 5) sc__law_put.nd rfl (by first | exact Or.inl rfl | exact Or.inr rfl) (pe_op op_add (pv 3) (pe_op op_mod (pv 4) pe_int)))) pss_nil) (pss_weak (u := pA2) (pss_cons (ps_expr (pe_bm PySem.F.plainAttrs_list PySem.F.slot_list_append PySem.F.type_list_append mt_append (pv 1) (pa_cons (pe_tup (pa_cons (pv 5) (pa_cons (pe_lst pa_nil) pa_nil))) pa_nil))) (pss_one (ps_ret (pe_lst (pa_cons (pe_op op_add_str pe_str (pe_callTy call_str_int (by rfl) T.n_str bt_str (pa_cons (pv 5) pa_nil))) pa_nil))))) ?pa2))) ?pa) pss_nil) (pss_weak (u := pB) (pss_cons (ps_set (i := 6) sc__law_put.nd rfl (by first | exact Or.inl rfl | exact Or.inr rfl) (pe_op op_mod (pe_op op_mul (pv 0) pe_int) pe_int)) (pss_cons (ps_if (pt_cmpR op_eq (pe_op op_mod (pe_op op_fdiv (pv 0) pe_int) pe_int) pe_int (nomark _)) (pss_one (ps_set (i := 6) sc__law_put.nd rfl (by first | exact Or.inl rfl | exact Or.inr rfl) (pe_ix (ix_listK (K := K) rfl) (pe_lst (pa_cons pe_int (pa_cons pe_int pa_nil))) (pe_op op_mod (pe_op op_fdiv (pv 0) pe_int) pe_int) (fun _ _ => rfl)))) pss_nil) (pss_weak (u := pB2) (pss_cons (ps_set (i := 7) sc__law_put.nd rfl (by first | exact Or.inl rfl | exact Or.inr rfl) (pe_lst (pa_cons (pe_op op_add_str pe_str (pe_callTy call_str_int (by rfl) T.n_str bt_str (pa_cons (pv 6) pa_nil))) pa_nil))) (pss_cons (ps_if (pt_cmpR op_gt (pe_op op_mod (pv 0) pe_int) pe_int (nomark _)) (pss_cons (ps_set (i := 8) sc__law_put.nd rfl (by first | exact Or.inl rfl | exact Or.inr rfl) (pe_ix (ix_listK (K := K) rfl) (pe_lst (pa_cons pe_str (pa_cons pe_str (pa_cons pe_str pa_nil)))) (pe_op op_mod (pv 4) pe_int) (fun _ _ => rfl))) (pss_cons (ps_expr (pe_bm PySem.F.plainAttrs_list PySem.F.slot_list_append PySem.F.type_list_append mt_append (pv 2) (pa_cons (pe_tup (pa_cons (pv 3) (pa_cons (pv 8) (pa_cons (pe_call (G__law_target_by T) (hr.mono (by decide)) rfl T.m__law_target_by T.k__law_target_by T.b__law_target_by .nil pass0 (pa_cons (pe_op op_fdiv (pv 4) pe_int) pa_nil)) pa_nil)))) pa_nil))) (pss_one (ps_expr (pe_bm PySem.F.plainAttrs_list PySem.F.slot_list_append PySem.F.type_list_append mt_append (pv 7) (pa_cons (pe_op op_add_str (pe_op op_add_str (pe_op op_add_str pe_str (pv 8)) pe_str) (pe_callTy call_str_int (by rfl) T.n_str bt_str (pa_cons (pe_ix (ix_tupK (K := K) rfl) (pe_ix (ix_listK (K := K) rfl) (pv 2) (pe_un un_neg pe_int) (fun _ _ => rfl)) pe_int (fun _ _ => rfl)) pa_nil))) pa_nil)))))) pss_nil) (pss_weak (u := pB3) (pss_cons (ps_expr (pe_bm PySem.F.plainAttrs_list PySem.F.slot_list_append PySem.F.type_list_append mt_append (pe_ix (ix_tupK (K := K) rfl) (pe_ix (ix_listK (K := K) rfl) (pv 1) (pe_un un_neg pe_int) (fun _ _ => rfl)) pe_int (fun _ _ => rfl)) (pa_cons (pv 6) pa_nil))) (pss_one (ps_ret (pv 7)))) ?pb3))) ?pb2))) ?pb))), ?main⟩
    case main =>
      walk_at "rd"
      refine ⟨.inr ⟨by decide, by decide⟩, by decide, Nat.zero_le _, fun p hp => parts_nil B.pm hp (fun z => ?_) (fun z => ?_)⟩
      · rw [if_pos rfl]
        exact ⟨S, n, c, _, H, _, _, _, _, rfl, by omega, B.mono (same_new hp), hn, same_new hp, B, k⟩
      · rw [if_neg (by decide)]
        exact ⟨by decide, ite2 (fun _ => ⟨S, n, c, _, H, _, _, _, _, rfl, by omega, B.mono (same_new hp), hn, same_new hp, B, k⟩) (fun _ => ⟨S, n, c, _, H, _, _, _, _, rfl, by omega, z, B.mono (same_new hp), hn, same_new hp, B, k⟩)⟩
    case pa =>
      rintro D σ H ⟨S, n, c, m, H0, b5, b6, b7, b8, rfl, hm, B, hn, sm, B0, k⟩
      walk_at "rd"
      exact ⟨by decide, ⟨by decide, by decide⟩, by decide, ite2 (fun _ => ⟨by decide, S, n, c, m, _, H0, _, _, _, rfl, by omega, by omega, B, hn, sm, B0, k⟩) (fun _ => ⟨S, n, c, m, _, H0, _, _, _, rfl, by omega, by omega, B, hn, sm, B0, k⟩)⟩
    case pa2 =>
      rintro D σ H ⟨S, n, c, m, pl, H0, b6, b7, b8, rfl, hp1, hp2, B, hn, sm, B0, k⟩
      walk_at "rd"
      refine ⟨.inl ⟨rfl, _, SqL.of B.pm.top⟩, Nat.zero_le _, fun l hl => ⟨by rw [sizeLine_eq]; decide, fun t ht => ?_⟩⟩
      obtain ⟨n1, ht'⟩ := free_of ht
      have topa := B.pm.top
      have e0 := B.e0
      have e1 := B.e1
      have top' : upd (upd H l (HO.lst [])) t (HO.tup [V.int pl, V.ref l]) S.a = some (.lst (S.ps.map fun x => V.ref x.t)) := by rw [upd_ne (ne_of_none topa ht'), upd_ne (ne_of_none topa hl)]; exact topa
      have ls := lenS (x := pl) (by omega) (by omega)
      have l5 : (Str.ofString "part ").length = 5 := by decide +kernel
      have bn := B.n1
      refine ⟨_, top', by rw [List.length_map, sizeLine_eq]; omega, ls.2, by rw [sizeLine_eq]; omega, by rw [sizeLine_eq]; decide, fun q hq => ?_⟩
      obtain ⟨q1, hq⟩ := free_of hq
      obtain ⟨q2, hq⟩ := free_of hq
      obtain ⟨q3, hq⟩ := free_of hq
      have hrs0 : [V.str (Str.ofString "part " ++ Str.ofString (toString pl))].length ≤ 2 := by simp
      generalize [V.str (Str.ofString "part " ++ Str.ofString (toString pl))] = rs0 at *
      have old : ∀ x o, H x = some o → x ≠ S.a → upd (upd (upd (upd H l (HO.lst [])) t (HO.tup [V.int pl, V.ref l])) S.a (HO.lst (List.map (fun x => V.ref x.t) S.ps ++ [V.ref t]))) q (HO.lst rs0) x = some o := fun x o hx hxa => by
        rw [upd_ne (ne_of_none hx hq), upd_ne hxa, upd_ne (ne_of_none hx ht'), upd_ne (ne_of_none hx hl)]; exact hx
      have lx : ∀ x ∈ S.ps, x.l ≠ l := fun x hx => ne_of_none (B.pm.at_ x hx).2 hl
      have tt : ∀ {x : Addr} {xs : List V}, H x = some (.tup xs) → x ≠ S.a := fun {x xs} h => ne_of h topa (by intro z; cases z)
      have hla : l ≠ S.a := Ne.symm (ne_of_none topa hl)
      have hta : t ≠ S.a := Ne.symm (ne_of_none topa ht')
      have hlb : l ≠ S.b := Ne.symm (ne_of_none B.lm.top hl)
      have nn : ∀ {y : Addr}, H y = none → H0 y = none := fun {y} hy => by
        cases e : H0 y with
        | none => rfl
        | some o => rw [sm _ _ e] at hy; cases hy
      refine k q rs0 ⟨S.a, S.b, S.ps ++ [⟨t, l, pl, []⟩], S.ls, pl⟩ _ (fun x o hx hxa _ _ => old _ _ (sm _ _ hx) hxa) upd_same hrs0 rfl rfl ?ok (fun y hy => ?_) (nn hq) q1 (Ne.symm (ne_of_none B.lm.top hq)) (fun y hy => ?_)
      case ok =>
        refine { pm := ⟨?_, ?_, ?_, ?_⟩, lm := ⟨old _ _ B.lm.top (Ne.symm B.ab), fun x hx => old _ _ (B.lm.at_ x hx) (tt (B.lm.at_ x hx))⟩, ab := B.ab, nb := ?_, ord := ?_, ws := ?_, rr := ?_, lk := ?_, ln := B.ln, en := ?_, e0 := by show 0 ≤ pl; omega, e1 := ?_, n1 := ?_, n2 := Nat.le_succ_of_le B.n2, n3 := ?_, n4 := by omega }
        · show upd _ q _ S.a = _
          rw [upd_ne (Ne.symm q1), upd_same, List.map_append]; rfl
        · intro x hx
          rcases List.mem_append.mp hx with z | z
          · exact ⟨old _ _ (B.pm.at_ x z).1 (tt (B.pm.at_ x z).1), old _ _ (B.pm.at_ x z).2 (B.pm.na x z)⟩
          · rw [List.mem_singleton.mp z]
            refine ⟨?_, ?_⟩
            · show upd _ q _ t = _
              rw [upd_ne (Ne.symm q2), upd_ne hta, upd_same]
            · show upd _ q _ l = _
              rw [upd_ne (Ne.symm q3), upd_ne hla, upd_ne (Ne.symm n1), upd_same]; rfl
        · rw [List.map_append, List.nodup_append]
          refine ⟨B.pm.nd, by simp, fun a ha b hb => ?_⟩
          obtain ⟨x, hx, rfl⟩ := List.mem_map.mp ha
          simp only [List.map_cons, List.map_nil, List.mem_singleton] at hb
          rw [hb]; exact lx x hx
        · intro x hx
          rcases List.mem_append.mp hx with z | z
          · exact B.pm.na x z
          · rw [List.mem_singleton.mp z]; exact hla
        · intro x hx
          rcases List.mem_append.mp hx with z | z
          · exact B.nb x z
          · rw [List.mem_singleton.mp z]; exact hlb
        · have := B.ord.snoc (x := ⟨t, l, pl, []⟩) B.e0 hp1
          simpa using this
        · intro x hx
          rcases List.mem_append.mp hx with z | z
          · exact B.ws x z
          · rw [List.mem_singleton.mp z]; intro u hu; cases hu
        · intro x hx
          have := B.rr x hx
          exact ⟨this.1, this.2.1, this.2.2.1, by have := this.2.2.2; show x.p < pl; omega⟩
        · intro x hx
          obtain ⟨y, hy, h1, h2⟩ := B.lk x hx
          exact ⟨y, List.mem_append_left _ hy, h1, h2⟩
        · show pl = endP (S.ps ++ [⟨t, l, pl, []⟩])
          rw [endP_last]; simp
        · show pl ≤ ((n + 1 : Nat) : Int) * 10000001
          rw [Int.natCast_add]; omega
        · show (S.ps ++ [(⟨t, l, pl, []⟩ : Prt)]).length ≤ n + 1
          rw [List.length_append]; exact Nat.succ_le_succ B.n1
        · intro x hx
          rcases List.mem_append.mp hx with z | z
          · exact Nat.le_succ_of_le (B.n3 x z)
          · rw [List.mem_singleton.mp z]; exact Nat.zero_le _
      · rcases List.mem_append.mp hy with z | z
        · exact .inl (List.mem_map.mpr ⟨y, z, rfl⟩)
        · rw [List.mem_singleton.mp z]; exact .inr (nn hl)
      · rcases List.mem_append.mp hy with z | z
        · exact Ne.symm (ne_of_none (B.pm.at_ y z).2 hq)
        · rw [List.mem_singleton.mp z]; exact q3
    case pb =>
      rintro D σ H ⟨S, n, c, m, H0, b5, b6, b7, b8, rfl, hm, hne, B, hn, sm, B0, k⟩
      walk_at "rd"
      refine ⟨.inr ⟨by decide, by decide⟩, by decide, ⟨by decide, by decide⟩, by decide, ite2 (fun _ => ⟨by rw [sizeLine_eq]; decide, fun p hp => ⟨⟨by decide, by decide⟩, by decide, _, SqL.of upd_same, ?_⟩⟩) (fun _ => ⟨S, n, c, m, _, H0, _, _, _, rfl, hm, by omega, by omega, hne, B, hn, sm, B0, k⟩)⟩
      obtain ⟨v, e, hv⟩ := atI_ex (xs := [V.int 0, V.int 4294967295]) (i := c / 30 % 2) (by simp; omega) (by simp; omega)
      have h2 : ∃ u : Int, v = .int u ∧ 0 ≤ u ∧ u ≤ 4294967295 := by
        simp only [List.mem_cons, List.not_mem_nil, or_false] at hv
        rcases hv with rfl | rfl
        · exact ⟨_, rfl, by decide, by decide⟩
        · exact ⟨_, rfl, by decide, by decide⟩
      obtain ⟨u, rfl, hu0, hu1⟩ := h2
      exact ⟨_, e, S, n, c, m, u, H0, _, _, _, rfl, hm, hu0, hu1, hne, B.mono (same_new hp), hn, sm.trans (same_new hp), B0, k⟩
    case pb2 =>
      rintro D σ H ⟨S, n, c, m, u, H0, b5, b7, b8, rfl, hm, hu0, hu1, hne, B, hn, sm, B0, k⟩
      walk_at "rd"
      have ls := lenS (x := u) (by omega) (by omega)
      have l5 : (Str.ofString "word ").length = 5 := by decide +kernel
      refine ⟨ls.2, by rw [sizeLine_eq]; omega, by rw [sizeLine_eq]; decide, fun p hp => ?_⟩
      generalize Str.ofString "word " ++ Str.ofString (toString u) = zw
      have s1 : Same H (upd H p (HO.lst [V.str zw])) := same_new hp
      have nq : H0 p = none := by
        cases e : H0 p with
        | none => rfl
        | some o => rw [sm _ _ e] at hp; cases hp
      refine ⟨by decide, ite2 (fun _ => ⟨by rw [sizeLine_eq]; decide, fun p1 h1 => ⟨by decide, _, SqL.of upd_same, ?_⟩⟩) (fun _ => ⟨S, n, c, m, u, p, _, S.ls, H0, _, _, rfl, hu0, hu1, hne, upd_same, by simp, nq, B.pm.mono s1, B.lm.mono s1, .inl rfl, hn, fun x o hx _ => s1 _ _ (sm _ _ hx), B0, k⟩)⟩
      obtain ⟨v, e, hv⟩ := atI_ex (xs := [V.str (Str.ofString "whole"), V.str (Str.ofString "high"), V.str (Str.ofString "low")]) (i := m % 3) (by simp; omega) (by simp; omega)
      have h2 : ∃ z, v = .str z ∧ isR z ∧ z.length ≤ 5 := by
        simp only [List.mem_cons, List.not_mem_nil, or_false] at hv
        rcases hv with rfl | rfl | rfl
        · exact ⟨_, rfl, .inl rfl, by decide +kernel⟩
        · exact ⟨_, rfl, .inr (.inl rfl), by decide +kernel⟩
        · exact ⟨_, rfl, .inr (.inr rfl), by decide +kernel⟩
      obtain ⟨z, rfl, hz, hzl⟩ := h2
      obtain ⟨np1, h1'⟩ := free_of h1
      have tb := B.lm.top
      have bn := B.n2
      have e3 : ∀ x o, H x = some o → upd (upd H p (HO.lst [V.str zw])) p1 (HO.lst [V.str (Str.ofString "whole"), V.str (Str.ofString "high"), V.str (Str.ofString "low")]) x = some o := fun x o hx => by rw [upd_ne (ne_of_none hx h1'), upd_ne (ne_of_none hx hp)]; exact hx
      refine ⟨_, e, .inl ⟨rfl, _, SqL.of (e3 _ _ tb)⟩, ⟨by decide, by decide⟩, fun m1 hm1 hm2 => ⟨by rw [sizeLine_eq]; decide, fun p2 h2 => ?_⟩⟩
      obtain ⟨np2, h2'⟩ := free_of h2
      obtain ⟨np3, h2''⟩ := free_of h2'
      have lm1 := lenS (x := m1) (by omega) (by omega)
      have lz5 : (Str.ofString "lean ").length = 5 := by decide +kernel
      have lz1 : (Str.ofString " ").length = 1 := by decide +kernel
      have hb3 : upd (upd (upd H p (HO.lst [V.str zw])) p1 (HO.lst [V.str (Str.ofString "whole"), V.str (Str.ofString "high"), V.str (Str.ofString "low")])) p2 (HO.tup [V.int S.e, V.str z, V.int m1]) S.b = some (.lst (S.ls.map fun x => V.ref x.a)) := by rw [upd_ne (ne_of_none tb h2'')]; exact e3 _ _ tb
      refine ⟨_, hb3, by rw [List.length_map, sizeLine_eq]; omega, ?_⟩
      generalize hH3 : upd (upd (upd H p (HO.lst [V.str zw])) p1 (HO.lst [V.str (Str.ofString "whole"), V.str (Str.ofString "high"), V.str (Str.ofString "low")])) p2 (HO.tup [V.int S.e, V.str z, V.int m1]) = H3 at *
      have o3 : ∀ x o, H x = some o → H3 x = some o := fun x o hx => by rw [← hH3, upd_ne (ne_of_none hx h2'')]; exact e3 _ _ hx
      have nbp : p ≠ S.b := Ne.symm (ne_of_none tb hp)
      have nbp2 : p2 ≠ S.b := Ne.symm (ne_of_none tb h2'')
      have hp3 : H3 p = some (.lst [V.str zw]) := by rw [← hH3, upd_ne (Ne.symm np3), upd_ne (Ne.symm np1), upd_same]
      have hp23 : H3 p2 = some (.tup [V.int S.e, V.str z, V.int m1]) := by rw [← hH3, upd_same]
      have hp4 : ∀ o, upd H3 S.b o p = some (.lst [V.str zw]) := fun o => by rw [upd_ne nbp]; exact hp3
      refine ⟨.inl ⟨rfl, _, SqL.of (hp4 _)⟩, _, rfl, by rw [sizeLine_eq]; omega, by rw [slen, sizeLine_eq]; omega, _, SqL.of upd_same, _, atI_last, _, rfl, _, SqT.of (by rw [upd_ne nbp2]; exact hp23), _, rfl, _, rfl, lm1.2, by rw [slen, slen, sizeLine_eq]; omega, _, hp4 _, by rw [sizeLine_eq]; show 1 < 16777216; decide, ?_⟩
      have o5 : ∀ x o (y y' : HO), H x = some o → x ≠ S.b → upd (upd H3 S.b y) p y' x = some o := fun x o y y' hx hxb => by rw [upd_ne (ne_of_none hx hp), upd_ne hxb]; exact o3 _ _ hx
      have tt : ∀ {x : Addr} {xs : List V}, H x = some (.tup xs) → x ≠ S.b := fun {x xs} h => ne_of h tb (by intro z; cases z)
      refine ⟨S, n, c, m, u, p, _, S.ls ++ [⟨p2, S.e, z, m1⟩], H0, _, _, rfl, hu0, hu1, hne, upd_same, by simp, nq, ?_, ?_, .inr ⟨_, rfl, rfl, hz, hm1, hm2⟩, hn, fun x o hx hxb => o5 _ _ _ _ (sm _ _ hx) hxb, B0, k⟩
      · exact { B.pm with top := o5 _ _ _ _ B.pm.top B.ab, at_ := fun x hx => ⟨o5 _ _ _ _ (B.pm.at_ x hx).1 (tt (B.pm.at_ x hx).1), o5 _ _ _ _ (B.pm.at_ x hx).2 (B.nb x hx)⟩ }
      · refine ⟨by rw [upd_ne (Ne.symm nbp), upd_same, List.map_append]; rfl, fun x hx => ?_⟩
        rcases List.mem_append.mp hx with y | y
        · exact o5 _ _ _ _ (B.lm.at_ x y) (tt (B.lm.at_ x y))
        · rw [List.mem_singleton.mp y]
          show upd (upd H3 S.b _) p _ p2 = _
          rw [upd_ne np3, upd_ne nbp2]; exact hp23
    case pb3 =>
      rintro D σ H ⟨S, n, c, m, u, q, rs, ls, H0, b5, b8, rfl, hu0, hu1, hne, hq, hrs, hq0, pm, lm, hls, hn, off, B0, k⟩
      walk_at "rd"
      obtain ⟨ys, x, e⟩ := last_of hne
      have hx : x ∈ S.ps := by rw [e]; simp
      have t1 := pm.top
      have a1 := pm.at_ x hx
      rw [e, List.map_append] at t1
      have n3 := B0.n3 x hx
      refine ⟨_, SqL.of t1, _, atI_last, _, rfl, _, SqT.of a1.1, _, rfl, .inl ⟨rfl, _, SqL.of a1.2⟩, _, rfl, _, a1.2, by rw [List.length_map, sizeLine_eq]; omega, ?_⟩
      have nn : ∀ {y : Addr}, H y = none → y ≠ S.b → H0 y = none := fun {y} hy hb => by
        cases e : H0 y with
        | none => rfl
        | some o => rw [off _ _ e hb] at hy; cases hy
      have o0 := B0.ord
      rw [e] at o0
      have oi := o0.init
      have en : S.e = x.p + x.ws.length := by rw [B0.en, e, endP_last]
      have nd0 := B0.pm.nd
      have B0x := (B0.pm.at_ x hx).2
      have qx : q ≠ x.l := fun z => by rw [z, B0x] at hq0; cases hq0
      have qps : ∀ y ∈ S.ps, q ≠ y.l := fun y hy z => by rw [z, (B0.pm.at_ y hy).2] at hq0; cases hq0
      have old : ∀ y o, H y = some o → y ≠ x.l → upd H x.l (HO.lst (List.map V.int x.ws ++ [V.int u])) y = some o := fun y o h1 h2 => by rw [upd_ne h2]; exact h1
      have ysne : ∀ y ∈ ys, y.l ≠ x.l := fun y hy => by
        rw [e, List.map_append, List.nodup_append] at nd0
        exact nd0.2.2 y.l (List.mem_map.mpr ⟨y, hy, rfl⟩) x.l (by simp)
      have ysm : ∀ y ∈ ys, y ∈ S.ps := fun y hy => by rw [e]; exact List.mem_append_left _ hy
      have tne : ∀ {y : Addr} {vs : List V}, H y = some (.tup vs) → y ≠ x.l := fun {y vs} h => ne_of h a1.2 (by intro z; cases z)
      have mem' : ∀ {y : Prt}, y ∈ ys ++ [(⟨x.t, x.l, x.p, x.ws ++ [u]⟩ : Prt)] → y ∈ ys ∨ y = ⟨x.t, x.l, x.p, x.ws ++ [u]⟩ := fun {y} hy => (List.mem_append.mp hy).imp id fun z => List.mem_singleton.mp z
      refine k q rs ⟨S.a, S.b, ys ++ [⟨x.t, x.l, x.p, x.ws ++ [u]⟩], ls, S.e + 1⟩ _ (fun y o hy hya hyb hyl => old _ _ (off _ _ hy hyb) (hyl x hx)) (old _ _ hq qx) hrs rfl rfl ?ok (fun y hy => ?_) hq0 (fun z => by rw [z, B0.pm.top] at hq0; cases hq0) (fun z => by rw [z, B0.lm.top] at hq0; cases hq0) (fun y hy => ?_)
      case ok =>
        have lsl : ∀ l ∈ ls, l ∈ S.ls ∨ (l.p = S.e ∧ isR l.r ∧ -(10 ^ 11) ≤ l.t ∧ l.t ≤ 10 ^ 11) := fun l hl => by
          rcases hls with rfl | ⟨l', rfl, h1, h2, h3, h4⟩
          · exact .inl hl
          · rcases List.mem_append.mp hl with z | z
            · exact .inl z
            · rw [List.mem_singleton.mp z]; exact .inr ⟨h1, h2, h3, h4⟩
        have ex0 := B0.e0
        refine { pm := ⟨?_, ?_, ?_, ?_⟩, lm := ⟨old _ _ lm.top (fun z => by have := B0.nb x hx; exact this z.symm), fun y hy => old _ _ (lm.at_ y hy) (tne (lm.at_ y hy))⟩, ab := B0.ab, nb := ?_, ord := ?_, ws := ?_, rr := ?_, lk := ?_, ln := ?_, en := ?_, e0 := by show 0 ≤ S.e + 1; omega, e1 := ?_, n1 := ?_, n2 := ?_, n3 := ?_, n4 := by omega }
        · show upd H x.l _ S.a = _
          rw [upd_ne (fun z => (B0.pm.na x hx) z.symm), pm.top, e, List.map_append, List.map_append]; rfl
        · intro y hy
          rcases mem' hy with z | z
          · have hy' := pm.at_ y (ysm y z)
            exact ⟨old _ _ hy'.1 (tne hy'.1), old _ _ hy'.2 (ysne y z)⟩
          · rw [z]
            refine ⟨old _ _ a1.1 (tne a1.1), ?_⟩
            show upd H x.l _ x.l = _
            rw [upd_same, List.map_append]; rfl
        · have : (ys ++ [(⟨x.t, x.l, x.p, x.ws ++ [u]⟩ : Prt)]).map Prt.l = S.ps.map Prt.l := by rw [e, List.map_append, List.map_append]; rfl
          rw [this]; exact nd0
        · intro y hy
          rcases mem' hy with z | z
          · exact B0.pm.na y (ysm y z)
          · rw [z]; exact B0.pm.na x hx
        · intro y hy
          rcases mem' hy with z | z
          · exact B0.nb y (ysm y z)
          · rw [z]; exact B0.nb x hx
        · have := oi.1.snoc (x := ⟨x.t, x.l, x.p, x.ws ++ [u]⟩) oi.2 (Int.le_refl _)
          have e2 : S.e + 1 = x.p + ((x.ws ++ [u]).length : Int) := by rw [List.length_append, en]; simp; omega
          show Ordd _ (S.e + 1)
          rw [e2]; exact this
        · intro y hy
          rcases mem' hy with z | z
          · exact B0.ws y (ysm y z)
          · rw [z]; intro v hv
            rcases List.mem_append.mp hv with h | h
            · exact B0.ws x hx v h
            · rw [List.mem_singleton.mp h]; exact ⟨hu0, hu1⟩
        · intro l hl
          rcases lsl l hl with h | ⟨h1, h2, h3, h4⟩
          · have := B0.rr l h
            exact ⟨this.1, this.2.1, this.2.2.1, by have := this.2.2.2; show l.p < S.e + 1; omega⟩
          · exact ⟨h2, h3, h4, by show l.p < S.e + 1; omega⟩
        · intro l hl
          rcases lsl l hl with h | ⟨h1, h2, h3, h4⟩
          · obtain ⟨y, hy, h1, h2⟩ := B0.lk l h
            rw [e] at hy
            rcases List.mem_append.mp hy with z | z
            · exact ⟨y, List.mem_append_left _ z, h1, h2⟩
            · rw [List.mem_singleton.mp z] at h1 h2
              exact ⟨_, List.mem_append_right _ (.head _), h1, by show l.p < x.p + ((x.ws ++ [u]).length : Int); rw [List.length_append]; simp; omega⟩
          · exact ⟨_, List.mem_append_right _ (.head _), by show x.p ≤ l.p; omega, by show l.p < x.p + ((x.ws ++ [u]).length : Int); rw [List.length_append]; simp; omega⟩
        · show (ls.map Ln.p).Nodup
          rcases hls with rfl | ⟨l', rfl, h1, h2, h3, h4⟩
          · exact B0.ln
          · rw [List.map_append, List.nodup_append]
            refine ⟨B0.ln, by simp, fun a ha b hb => ?_⟩
            obtain ⟨l, hl, rfl⟩ := List.mem_map.mp ha
            simp only [List.map_cons, List.map_nil, List.mem_singleton] at hb
            rw [hb, h1]
            have := (B0.rr l hl).2.2.2
            omega
        · show S.e + 1 = endP (ys ++ [⟨x.t, x.l, x.p, x.ws ++ [u]⟩])
          rw [endP_last, en]; simp; omega
        · show S.e + 1 ≤ ((n + 1 : Nat) : Int) * 10000001
          have := B0.e1
          rw [Int.natCast_add]; omega
        · show (ys ++ [(⟨x.t, x.l, x.p, x.ws ++ [u]⟩ : Prt)]).length ≤ n + 1
          have := B0.n1
          rw [e] at this
          rw [List.length_append] at this ⊢
          exact Nat.le_succ_of_le this
        · show ls.length ≤ n + 1
          have := B0.n2
          rcases hls with rfl | ⟨l', rfl, _⟩
          · omega
          · rw [List.length_append, List.length_singleton]; omega
        · intro y hy
          rcases mem' hy with z | z
          · exact Nat.le_succ_of_le (B0.n3 y (ysm y z))
          · rw [z]; show (x.ws ++ [u]).length ≤ n + 1
            rw [List.length_append, List.length_singleton]; omega
      · rcases mem' hy with z | z
        · exact .inl (List.mem_map.mpr ⟨y, ysm y z, rfl⟩)
        · rw [z]; exact .inl (List.mem_map.mpr ⟨x, hx, rfl⟩)
      · rcases mem' hy with z | z
        · exact qps y (ysm y z)
        · rw [z]; exact qx
theorem cut_ints (ns : List Int) (h : ns.length ≤ 63) : ∃ ms : List Int, cutV (ns.map V.int) (some 2) (some 202) = ms.map V.int ∧ ms.length ≤ 61 := by
  refine ⟨(ns.drop (HT.sIx (ns.map V.int).length 0 (some 2))).take (HT.sIx (ns.map V.int).length (ns.map V.int).length (some 202) - HT.sIx (ns.map V.int).length 0 (some 2)), ?_, ?_⟩
  · unfold cutV
    rw [List.map_take, List.map_drop]
  · have e : HT.sIx (ns.map V.int).length 0 (some 2) = min 2 ns.length := by
      rw [show (some (2 : Int)) = some ((2 : Nat) : Int) from rfl, HT.sIx_nat, List.length_map]
    rw [List.length_take, List.length_drop, e]
    omega
theorem BOk.start {H : Hp} {a b : Addr} (h1 : H a = some (.lst [])) (h2 : H b = some (.lst [])) (h3 : a ≠ b) : BOk 0 H ⟨a, b, [], [], 0⟩ where
  pm := ⟨h1, fun x hx => (nomatch hx), .nil, fun x hx => (nomatch hx)⟩
  lm := ⟨h2, fun x hx => (nomatch hx)⟩
  ab := h3
  nb := fun x hx => (nomatch hx)
  ord := ⟨fun x hx => (nomatch hx), fun x hx => (nomatch hx), fun i j x y _ h => by cases h⟩
  ws := fun x hx => (nomatch hx)
  rr := fun x hx => (nomatch hx)
  lk := fun x hx => (nomatch hx)
  ln := .nil
  en := rfl
  e0 := Int.le_refl 0
  e1 := by show (0 : Int) ≤ ((0 : Nat) : Int) * 10000001; decide
  n1 := Nat.le_refl _
  n2 := Nat.le_refl _
  n3 := fun x hx => (nomatch hx)
  n4 := by decide
theorem BOk.up {n m : Nat} {H : Hp} {S : BS} (h : BOk n H S) (l : n ≤ m) (h2 : m ≤ 500) : BOk m H S :=
  { h with e1 := by have := h.e1; omega, n1 := Nat.le_trans h.n1 l, n2 := Nat.le_trans h.n2 l, n3 := fun x hx => Nat.le_trans (h.n3 x hx) l, n4 := h2 }
theorem G__law_built (T : Txt K mg A) : FnOk P w K mg base CX0 5 A._law_built A.fd__law_built ["_law_script", "_law_most"] (sp_built K) := by
  refine T.F__law_built.ok sc__law_built (fun vs H Q E h => ?_) (fun cdv Ar outer s H vs Q E hr h => ?_)
  · obtain ⟨a, ns, most, rfl, _⟩ := h
    rfl
  · obtain ⟨a, ns, most, rfl, hl, hn, hm1, hm2, k⟩ := h
    refine ⟨_, (pss_cons (ps_set (i := 2) sc__law_built.nd rfl (by first | exact Or.inl rfl | exact Or.inr rfl) (pe_lst pa_nil)) (pss_cons (ps_set (i := 3) sc__law_built.nd rfl (by first | exact Or.inl rfl | exact Or.inr rfl) (pe_lst pa_nil)) (pss_cons (ps_set (i := 4) sc__law_built.nd rfl (by first | exact Or.inl rfl | exact Or.inr rfl) (pe_lst pa_nil)) (pss_cons (ps_for PassesOwn.never rfl (pi_listK (K := K) rfl (pe_slice (sl_listK (K := K) rfl) (pv 0) (po_some pe_int) (po_some pe_int))) (pg_name (i := 5) sc__law_built.nd rfl (by first | exact Or.inl rfl | exact Or.inr rfl)) (pss_one (ps_set (i := 4) sc__law_built.nd rfl (by first | exact Or.inl rfl | exact Or.inr rfl) (pe_op (op_catSK (K := K) rfl) (pv 4) (pe_call (G__law_put T) (hr.mono (by decide)) rfl T.m__law_put T.k__law_put T.b__law_put .nil pass0 (pa_cons (pv 5) (pa_cons (pv 2) (pa_cons (pv 3) (pa_cons (pe_call (G__law_end T) (hr.mono (by decide)) rfl T.m__law_end T.k__law_end T.b__law_end .nil pass0 (pa_cons (pv 2) pa_nil)) pa_nil))))))))) (pss_cons (ps_set (i := 6) sc__law_built.nd rfl (by first | exact Or.inl rfl | exact Or.inr rfl) (pe_call (G__law_end T) (hr.mono (by decide)) rfl T.m__law_end T.k__law_end T.b__law_end .nil pass0 (pa_cons (pv 2) pa_nil))) (pss_cons (ps_set (i := 7) sc__law_built.nd rfl (by first | exact Or.inl rfl | exact Or.inr rfl) (pe_op op_mod (pe_op op_mul (pe_call (G__law_cell_at T) (hr.mono (by decide)) rfl T.m__law_cell_at T.k__law_cell_at T.b__law_cell_at .nil pass0 (pa_cons (pv 0) (pa_cons pe_int pa_nil))) pe_int) pe_int)) (pss_cons (ps_set (i := 8) sc__law_built.nd rfl (by first | exact Or.inl rfl | exact Or.inr rfl) (pe_op op_add (pv 6) (pe_ix (ix_listK (K := K) rfl) (pe_lst (pa_cons pe_int (pa_cons pe_int (pa_cons (pe_op op_mod (pe_op op_fdiv (pv 7) pe_int) pe_int) (pa_cons (pe_op op_mod (pe_op op_fdiv (pv 7) pe_int) pe_int) (pa_cons (pe_op op_sub (pv 1) (pv 6)) pa_nil)))))) (pe_op op_mod (pv 7) pe_int) (fun _ _ => rfl)))) (pss_cons (ps_set (i := 9) sc__law_built.nd rfl (by first | exact Or.inl rfl | exact Or.inr rfl) (pe_ix (ix_listK (K := K) rfl) (pe_lst (pa_cons pe_int (pa_cons (pv 8) (pa_cons (pe_op op_mod (pe_op op_fdiv (pv 7) pe_int) (pe_op op_add (pv 8) pe_int)) pa_nil)))) (pe_op op_mod (pe_call (G__law_cell_at T) (hr.mono (by decide)) rfl T.m__law_cell_at T.k__law_cell_at T.b__law_cell_at .nil pass0 (pa_cons (pv 0) (pa_cons pe_int pa_nil))) pe_int) (fun _ _ => rfl))) (pss_cons (ps_set (i := 10) sc__law_built.nd rfl (by first | exact Or.inl rfl | exact Or.inr rfl) (pe_op op_shl pe_int (pe_op op_mod (pe_op op_fdiv (pe_call (G__law_cell_at T) (hr.mono (by decide)) rfl T.m__law_cell_at T.k__law_cell_at T.b__law_cell_at .nil pass0 (pa_cons (pv 0) (pa_cons pe_int pa_nil))) pe_int) pe_int))) (pss_cons (ps_set (i := 4) sc__law_built.nd rfl (by first | exact Or.inl rfl | exact Or.inr rfl) (pe_op (op_catSK (K := K) rfl) (pe_lst (pa_cons (pe_op op_add_str (pe_op op_add_str (pe_op op_add_str (pe_op op_add_str (pe_op op_add_str pe_str (pe_callTy call_str_int (by rfl) T.n_str bt_str (pa_cons (pv 10) pa_nil))) pe_str) (pe_callTy call_str_int (by rfl) T.n_str bt_str (pa_cons (pv 8) pa_nil))) pe_str) (pe_callTy call_str_int (by rfl) T.n_str bt_str (pa_cons (pv 9) pa_nil))) pa_nil)) (pv 4))) (pss_one (ps_ret (pe_tup (pa_cons (pv 4) (pa_cons (pe_tup (pa_cons (pv 10) (pa_cons (pv 8) (pa_cons (pv 9) (pa_cons (pv 2) (pa_cons (pv 3) pa_nil)))))) pa_nil))))))))))))))), ?_⟩
    walk_at "rd"
    refine ⟨Nat.zero_le _, fun pa h1 => ⟨Nat.zero_le _, fun pb h2 => ⟨Nat.zero_le _, fun q0 h3 => ?_⟩⟩⟩
    obtain ⟨n2, h2'⟩ := free_of h2
    obtain ⟨n3, h3'⟩ := free_of h3
    obtain ⟨n4, h3''⟩ := free_of h3'
    have s3 : Same H (upd (upd (upd H pa (HO.lst [])) pb (HO.lst [])) q0 (HO.lst [])) := ((same_new h1).trans (same_new h2)).trans (same_new h3)
    refine ⟨_, s3.seq hl, fun ps h4 => ?_⟩
    obtain ⟨n5, h4'⟩ := free_of h4
    obtain ⟨n6, h4''⟩ := free_of h4'
    obtain ⟨n7, h4n⟩ := free_of h4''
    obtain ⟨ms, em, lm⟩ := cut_ints ns hn
    rw [em]
    have s4 := s3.trans (same_new (o := HO.lst (ms.map V.int)) h4)
    refine ForL.of (xs := ms.map V.int) (fun i σ H' => ∃ (b5 b6 b7 b8 b9 b10 : Option V) (q : Addr) (rs : List V) (S : BS), σ = [some (.ref a), some (.int most), some (.ref pa), some (.ref pb), some (.ref q), b5, b6, b7, b8, b9, b10] ∧ Same H H' ∧ H' ps = some (.lst (ms.map V.int)) ∧ H' q = some (.lst rs) ∧ rs.length ≤ 2 * i ∧ S.a = pa ∧ S.b = pb ∧ BOk i H' S ∧ (∀ y ∈ S.ps, H y.l = none ∧ ps ≠ y.l ∧ q ≠ y.l) ∧ q ≠ pa ∧ q ≠ pb)
      ⟨_, _, _, _, _, _, q0, [], ⟨pa, pb, [], [], 0⟩, rfl, s4, upd_same, same_new h4 _ _ upd_same, Nat.zero_le _, rfl, rfl, BOk.start (same_new h4 _ _ (same_new h3 _ _ (same_new h2 _ _ upd_same))) (same_new h4 _ _ (same_new h3 _ _ upd_same)) (Ne.symm n2), fun x hx => (nomatch hx), n4, n3⟩ ?_ ?_ ?_
    · rintro i σ H' hi ⟨b5, b6, b7, b8, b9, b10, q, rs, S, rfl, sm, hps, _⟩
      exact SqL.of hps
    · rintro i x σ H' hx ⟨b5, b6, b7, b8, b9, b10, q, rs, S, rfl, sm, hps, hq, hrs, ea, eb, B, fr, qa, qb⟩
      have hil := (List.getElem?_eq_some_iff.mp hx).1
      rw [List.length_map] at hil
      rw [List.getElem?_map] at hx
      obtain ⟨c, hc, rfl⟩ := Option.map_eq_some_iff.mp hx
      walk_at "rd"
      refine ⟨S, ea.symm, i, B, fun H1 s1 => ⟨S, ea.symm, eb.symm, rfl, i, B.mono s1, by omega, fun q2 rs2 S' H2 off hq2 hl2 a' b' B2 fr2 nq2 qa2 qb2 qy2 => ?_⟩⟩
      have hq' : H2 q = some (.lst rs) := off q _ (s1 _ _ hq) (by rw [ea]; exact qa) (by rw [eb]; exact qb) (fun y hy => (fr y hy).2.2)
      have kH : Same H H2 := fun x o hx => off x o (s1 _ _ (sm _ _ hx)) (by rw [ea]; exact ne_of_none hx h1) (by rw [eb]; exact ne_of_none hx h2') (fun y hy => ne_of_none hx (fr y hy).1)
      have hps' : H2 ps = some (.lst (ms.map V.int)) := off ps _ (s1 _ _ hps) (by rw [ea]; exact n7) (by rw [eb]; exact n6) (fun y hy => (fr y hy).2.1)
      refine ⟨q2, rfl, _, SqL.of hq', _, SqL.of hq2, by rw [sizeLine_eq]; omega, fun p hp => ⟨kH.trans (same_new hp), same_new hp _ _ hps', _, upd_same, by rw [List.length_append]; omega, S', a'.trans ea, b'.trans eb, B2.mono (same_new hp), fun y hy => ⟨?_, ?_, ?_⟩, ?_, ?_⟩⟩
      · rcases fr2 y hy with z | z
        · obtain ⟨y', hy', e⟩ := List.mem_map.mp z
          rw [← e]; exact (fr y' hy').1
        · cases e : H y.l with
          | none => rfl
          | some o => rw [s1 _ _ (sm _ _ e)] at z; cases z
      · rcases fr2 y hy with z | z
        · obtain ⟨y', hy', e⟩ := List.mem_map.mp z
          rw [← e]; exact (fr y' hy').2.1
        · exact ne_of_none (s1 _ _ hps) z
      · exact Ne.symm (ne_of_none (B2.pm.at_ y hy).2 hp)
      · have := B2.pm.top
        rw [a', ea] at this
        exact Ne.symm (ne_of_none this hp)
      · have := B2.lm.top
        rw [b', eb] at this
        exact Ne.symm (ne_of_none this hp)
    · rintro σ H' ⟨b5, b6, b7, b8, b9, b10, q, rs, S, rfl, sm, hps, hq, hrs, ea, eb, B, fr, qa, qb⟩
      rw [List.length_map] at B hrs
      have B' := B.up (m := 62) (by omega) (by decide)
      have eb1 := B.e1
      have eb0 := B.e0
      have eb2 : S.e ≤ 61 * 10000001 := by omega
      walk_at "rd"
      refine ⟨S, ea.symm, _, B, fun H1 s1 => ⟨ns, (sm.trans s1).seq hl, by decide, fun m => ⟨.inr ⟨by decide, by decide⟩, by decide, ⟨by decide, by decide⟩, by decide, ⟨by decide, by decide⟩, by decide, by rw [sizeLine_eq]; decide, fun p hp => ⟨by decide, _, SqL.of upd_same, ?_⟩⟩⟩⟩
      have hM : 0 ≤ m * 1583458089 % 2147483647 ∧ m * 1583458089 % 2147483647 < 2147483647 := by omega
      generalize m * 1583458089 % 2147483647 = M at *
      obtain ⟨v, e, hv⟩ := atI_ex (xs := [V.int 0, V.int 1, V.int (M / 5 % 1000), V.int (M / 5 % 1000000000), V.int (most - S.e)]) (i := M % 5) (by simp; omega) (by simp; omega)
      have hv2 : ∃ x : Int, v = .int x ∧ 0 ≤ x ∧ S.e + x ≤ most := by
        simp only [List.mem_cons, List.not_mem_nil, or_false] at hv
        rcases hv with rfl | rfl | rfl | rfl | rfl <;> exact ⟨_, rfl, by omega, by omega⟩
      obtain ⟨x, rfl, hx0, hx1⟩ := hv2
      have sp := same_new (o := HO.lst [V.int 0, V.int 1, V.int (M / 5 % 1000), V.int (M / 5 % 1000000000), V.int (most - S.e)]) hp
      refine ⟨_, e, x, rfl, ⟨by decide, by decide⟩, by omega, by rw [sizeLine_eq]; decide, fun p1 hp1 => ?_⟩
      have sp1 := sp.trans (same_new (o := HO.lst [V.int 0, V.int (S.e + x), V.int (M / 7 % (S.e + x + 1))]) hp1)
      refine ⟨ns, ((sm.trans s1).trans sp1).seq hl, by decide, fun m1 => ⟨by decide, _, SqL.of upd_same, ?_⟩⟩
      obtain ⟨v, e2, hv⟩ := atI_ex (xs := [V.int 0, V.int (S.e + x), V.int (M / 7 % (S.e + x + 1))]) (i := m1 % 3) (by simp; omega) (by simp; omega)
      have hv3 : ∃ y : Int, v = .int y ∧ 0 ≤ y ∧ y ≤ most := by
        simp only [List.mem_cons, List.not_mem_nil, or_false] at hv
        have p1 := Int.emod_nonneg (M / 7) (by omega : S.e + x + 1 ≠ 0)
        have p2 := Int.emod_lt_of_pos (M / 7) (by omega : 0 < S.e + x + 1)
        rcases hv with rfl | rfl | rfl <;> exact ⟨_, rfl, by omega, by omega⟩
      obtain ⟨y, rfl, hy0, hy1⟩ := hv3
      refine ⟨_, e2, ns, ((sm.trans s1).trans sp1).seq hl, by decide, fun m2 => ?_⟩
      have hk : 0 ≤ m2 / 3 % 17 ∧ m2 / 3 % 17 < 17 := by omega
      generalize m2 / 3 % 17 = kk at *
      have hst : (1 : Int) ≤ 1 * 2 ^ kk.toNat ∧ (1 : Int) * 2 ^ kk.toNat ≤ 65536 := by
        have h1 : kk.toNat ≤ 16 := by omega
        have h2 := Nat.pow_le_pow_right (by decide : 0 < 2) h1
        have h3 := Nat.pow_pos (n := kk.toNat) (by decide : 0 < 2)
        have e : (2 : Int) ^ kk.toNat = ((2 ^ kk.toNat : Nat) : Int) := by rw [Int.natCast_pow]; rfl
        rw [Int.one_mul, e]
        omega
      have hpk : ∃ k : Nat, (1 : Int) * 2 ^ kk.toNat = 2 ^ k := ⟨_, Int.one_mul _⟩
      refine ⟨⟨by decide, by decide⟩, by decide, ⟨by omega, by omega, by omega⟩, ?_⟩
      generalize (1 : Int) * 2 ^ kk.toNat = st at *
      have l1 := lenS (x := st) (by omega) (by omega)
      have l2 := lenS (x := S.e + x) (by omega) (by omega)
      have l3 := lenS (x := y) (by omega) (by omega)
      have lw : (Str.ofString "whole ").length = 6 := by decide +kernel
      have lb : (Str.ofString " ").length = 1 := by decide +kernel
      have sz : ∀ m : Nat, m ≤ 2000 → m ≤ sizeLine := fun m h => by rw [sizeLine_eq]; omega
      refine ⟨l1.2, sz _ (by omega), sz _ (by rw [slen]; omega), l2.2, sz _ (by rw [slen, slen]; omega), sz _ (by rw [slen, slen, slen]; omega), y, rfl, l3.2, sz _ (by rw [slen, slen, slen, slen]; omega), sz _ (by decide), fun p2 hp2 => ?_⟩
      generalize Str.ofString "whole " ++ Str.ofString (toString st) ++ Str.ofString " " ++ Str.ofString (toString (S.e + x)) ++ Str.ofString " " ++ Str.ofString (toString y) = zt
      have sa := (s1.trans sp1).trans (same_new (o := HO.lst [V.str zt]) hp2)
      refine ⟨_, SqL.of upd_same, _, SqL.of (sa _ _ hq), by rw [sizeLine_eq]; show 1 + rs.length ≤ 16777216; omega, fun p3 hp3 => ⟨sz _ (by decide), fun p4 hp4 => ⟨sz _ (by decide), fun p5 hp5 => ?_⟩⟩⟩
      have sb := (sa.trans (same_new (o := HO.lst ([V.str zt] ++ rs)) hp3)).trans (same_new (o := HO.tup [V.int st, V.int (S.e + x), V.int y, V.ref pa, V.ref pb]) hp4)
      have sc := sb.trans (same_new (o := HO.tup [V.ref p3, V.ref p4]) hp5)
      refine k p5 (.ref p3) ⟨p4, st, S.e + x, y, 62⟩ S _ (sm.trans sc) upd_same { top := ?_, bok := B'.mono sc, n5 := (by show 62 ≤ 500; decide), s1 := hst.1, s2 := hst.2, z1 := by show S.e ≤ S.e + x; omega, z2 := hx1, e0 := hy0, e1 := hy1, pw := hpk } rfl
      show upd _ p5 _ p4 = _
      rw [ea, eb, same_new hp5 _ _ upd_same]

theorem G__law_base_by (T : Txt K mg A) : FnOk P w K mg base CX0 1 A._law_base_by A.fd__law_base_by ["_law_whole_here", "_law_cell"] sp_baseby := by
  refine T.F__law_base_by.ok sc__law_base_by (fun vs H Q E h => ?_) (fun cdv Ar outer s H vs Q E hr h => ?_)
  · obtain ⟨W, S, c, rfl, _⟩ := h
    rfl
  · obtain ⟨W, S, c, rfl, hW, k⟩ := h
    refine ⟨_, (pss_cons (ps_set (i := 2) sc__law_base_by.nd rfl (by first | exact Or.inl rfl | exact Or.inr rfl) (pe_op op_fdiv (pe_op op_sub pe_int (pe_ix (ix_tupK (K := K) rfl) (pv 0) pe_int (fun _ _ => rfl))) (pe_ix (ix_tupK (K := K) rfl) (pv 0) pe_int (fun _ _ => rfl)))) (pss_one (ps_ret (pe_op op_mul (pe_ix (ix_tupK (K := K) rfl) (pv 0) pe_int (fun _ _ => rfl)) (pe_ix (ix_listK (K := K) rfl) (pe_lst (pa_cons pe_int (pa_cons (pv 2) (pa_cons (pe_op op_add pe_int (pe_op op_mod (pe_op op_fdiv (pv 1) pe_int) (pv 2))) pa_nil)))) (pe_op op_mod (pv 1) pe_int) (fun _ _ => rfl)))))), ?_⟩
    walk_at "rd"
    have hs1 := hW.s1
    have hs2 := hW.s2
    have hz1 := hW.bok.e0
    have hz2 := hW.z1
    have hz3 := hW.z2
    have h1 := Int.emod_add_mul_ediv (4294967295 - W.sz) W.st
    have h2 := Int.emod_nonneg (4294967295 - W.sz) (by omega : W.st ≠ 0)
    have h3 := Int.emod_lt_of_pos (4294967295 - W.sz) (by omega : 0 < W.st)
    have hpos : 0 < (4294967295 - W.sz) / W.st := by
      have : 65536 / W.st ≥ 1 := by
        have := Int.le_ediv_of_mul_le (by omega : 0 < W.st) (by omega : 1 * W.st ≤ 65536)
        omega
      have := Int.ediv_le_ediv (by omega : 0 < W.st) (by omega : 65536 ≤ 4294967295 - W.sz)
      omega
    refine ⟨_, SqT.of hW.top, _, rfl, _, rfl, _, SqT.of hW.top, _, rfl, _, rfl, ⟨by omega, by omega⟩, _, SqT.of hW.top, _, rfl, ⟨by decide, by decide⟩, hpos, by rw [sizeLine_eq]; decide, fun p hp => ⟨by decide, _, SqL.of upd_same, ?_⟩⟩
    generalize hm : (4294967295 - W.sz) / W.st = M at *
    have e1 := Int.emod_nonneg (c / 3) (by omega : M ≠ 0)
    have e2 := Int.emod_lt_of_pos (c / 3) hpos
    obtain ⟨v, e, hv⟩ := atI_ex (xs := [V.int 1, V.int M, V.int (1 + c / 3 % M)]) (i := c % 3) (by simp; omega) (by simp; omega)
    have hv2 : ∃ x : Int, v = .int x ∧ 1 ≤ x ∧ x ≤ M := by
      simp only [List.mem_cons, List.not_mem_nil, or_false] at hv
      rcases hv with rfl | rfl | rfl <;> exact ⟨_, rfl, by omega, by omega⟩
    obtain ⟨x, rfl, hx0, hx1⟩ := hv2
    have p1 : W.st * x ≤ W.st * M := Int.mul_le_mul_of_nonneg_left hx1 (by omega)
    have p2 : W.st * 1 ≤ W.st * x := Int.mul_le_mul_of_nonneg_left hx0 (by omega)
    exact ⟨_, e, _, rfl, _, rfl, .inl ⟨by omega, by omega⟩, k _ _ (same_new hp) ⟨by omega, Int.mul_emod_right .., by omega⟩⟩
theorem layL_off {b : Int} {n : Int} (ls : List Ln) (m : Int → Option Int) (h : ∀ l ∈ ls, l.p ≠ n) : layL b ls m n = m n := by
  induction ls generalizing m with
  | nil => rfl
  | cons x r ih =>
    rw [show layL b (x :: r) m n = layL b r _ n from rfl, ih _ fun l hl => h l (.tail _ hl)]
    exact if_neg fun e => h x (.head _) e.symm
theorem layL_at {b : Int} {l : Ln} (ls : List Ln) (m : Int → Option Int) (nd : (ls.map Ln.p).Nodup) (h : l ∈ ls) : layL b ls m l.p = (m l.p).map fun w => fillR l.r w (b + l.t) := by
  induction ls generalizing m with
  | nil => cases h
  | cons x r ih =>
    rw [List.map_cons, List.nodup_cons] at nd
    rw [show layL b (x :: r) m l.p = layL b r (fun n => if n = x.p then (m n).map fun w => fillR x.r w (b + x.t) else m n) l.p from rfl]
    rcases List.mem_cons.mp h with e | e
    · subst e
      rw [layL_off r _ fun y hy e => nd.1 (List.mem_map.mpr ⟨y, hy, e⟩)]
      exact if_pos rfl
    · rw [ih _ nd.2 e]
      have : l.p ≠ x.p := fun e2 => nd.1 (List.mem_map.mpr ⟨l, e, e2⟩)
      rw [if_neg this]
theorem valV_mem {m : List (Key × V)} {p : Key × V} (h : p ∈ m) : ∃ v, valV m p.1 = some v := by
  have a : (m.any fun kv => decide (kv.1 = p.1)) = true := List.any_eq_true.mpr ⟨p, h, by simp⟩
  rw [valV_any] at a
  exact Option.isSome_iff_exists.mp a
theorem put16 (w x : Int) (h : 0 ≤ w) : K3.putF w 0 16 x = 65536 * (w / 65536) + x % 65536 := by
  have := K3.put_at w x 0 16 1 65536 (by decide) (by decide) h
  simp only [Int.ediv_one, Int.emod_one, Int.one_mul, Int.add_zero] at this
  exact this
theorem core_ix {ps qs : List Prt} (h : qs.map Prt.core = ps.map Prt.core) {i : Nat} {y : Prt} (e : qs[i]? = some y) : ∃ x, ps[i]? = some x ∧ x.p = y.p ∧ x.ws = y.ws := by
  have e1 : (qs.map Prt.core)[i]? = some y.core := by rw [List.getElem?_map, e]; rfl
  rw [h, List.getElem?_map] at e1
  obtain ⟨x, hx, ex⟩ := Option.map_eq_some_iff.mp e1
  exact ⟨x, hx, congrArg (·.1) ex, congrArg (·.2) ex⟩
theorem core_mem {ps qs : List Prt} (h : qs.map Prt.core = ps.map Prt.core) {y : Prt} (e : y ∈ qs) : ∃ x ∈ ps, x.p = y.p ∧ x.ws = y.ws := by
  obtain ⟨i, hi, ei⟩ := List.getElem_of_mem e
  obtain ⟨x, hx, r⟩ := core_ix h (i := i) (y := y) (by rw [List.getElem?_eq_getElem hi, ei])
  exact ⟨x, List.mem_of_getElem? hx, r⟩
theorem endP_core {ps qs : List Prt} (h : qs.map Prt.core = ps.map Prt.core) : endP qs = endP ps := by
  unfold endP
  have e : (qs.map Prt.core).getLast? = (ps.map Prt.core).getLast? := by rw [h]
  rw [List.getLast?_map, List.getLast?_map] at e
  cases h1 : qs.getLast? with
  | none =>
    rw [h1] at e
    cases h2 : ps.getLast? with
    | none => rfl
    | some x => rw [h2] at e; cases e
  | some y =>
    rw [h1] at e
    cases h2 : ps.getLast? with
    | none => rw [h2] at e; cases e
    | some x =>
      rw [h2] at e
      have e := Option.some.inj e
      show y.p + (y.ws.length : Int) = x.p + (x.ws.length : Int)
      rw [show y.p = x.p from congrArg (·.1) e, show y.ws = x.ws from congrArg (·.2) e]
theorem BOk.other {n : Nat} {H H' : Hp} {S : BS} (B : BOk n H S) {a b : Addr} {qs : List Prt} (h : qs.map Prt.core = S.ps.map Prt.core) (pm : PM H' a qs) (lm : LM H' b S.ls) (ab : a ≠ b) (nb : ∀ x ∈ qs, x.l ≠ b) : BOk n H' ⟨a, b, qs, S.ls, S.e⟩ where
  pm := pm
  lm := lm
  ab := ab
  nb := nb
  ord := ⟨fun y hy => by obtain ⟨x, hx, e1, _⟩ := core_mem h hy; rw [← e1]; exact B.ord.pos x hx, fun y hy => by obtain ⟨x, hx, e1, e2⟩ := core_mem h hy; rw [← e1, ← e2]; exact B.ord.le x hx,
    fun i j y z hij hi hj => by
      obtain ⟨x, hx, e1, e2⟩ := core_ix h hi
      obtain ⟨x', hx', e1', e2'⟩ := core_ix h hj
      rw [← e1, ← e2, ← e1']; exact B.ord.ap i j x x' hij hx hx'⟩
  ws := fun y hy => by obtain ⟨x, hx, _, e2⟩ := core_mem h hy; rw [← e2]; exact B.ws x hx
  rr := B.rr
  lk := fun l hl => by
    obtain ⟨x, hx, h1, h2⟩ := B.lk l hl
    obtain ⟨y, hy, e1, e2⟩ := core_mem h.symm hx
    exact ⟨y, hy, by rw [e1]; exact h1, by rw [e1, e2]; exact h2⟩
  ln := B.ln
  en := by show S.e = endP qs; rw [endP_core h]; exact B.en
  e0 := B.e0
  e1 := B.e1
  n1 := by have := congrArg List.length h; simp only [List.length_map] at this; show qs.length ≤ n; rw [this]; exact B.n1
  n2 := B.n2
  n3 := fun y hy => by obtain ⟨x, hx, _, e2⟩ := core_mem h hy; rw [← e2]; exact B.n3 x hx
  n4 := B.n4
theorem G__law_copy (T : Txt K mg A) : FnOk P w K mg base CX0 2 A._law_copy A.fd__law_copy ["_law_whole_here"] sp_copy := by
  refine T.F__law_copy.ok sc__law_copy (fun vs H Q E h => ?_) (fun cdv Ar outer s H vs Q E hr h => ?_)
  · obtain ⟨W, S, rfl, _⟩ := h
    rfl
  · obtain ⟨W, S, rfl, hW, k⟩ := h
    refine ⟨_, (pss_cons (ps_setC (i := 1) sc__law_copy.nd rfl (by first | exact Or.inl rfl | exact Or.inr rfl) (blk_mk (own := ["_law_place", "_law_words"]) (fr := []) (fm := []) rfl (by decide +kernel) (by decide +kernel) (by decide +kernel) .nil) rfl (pi_listK (K := K) rfl (pe_ix (ix_tupK (K := K) rfl) (pv 0) pe_int (fun _ _ => rfl))) (fun _ _ _ => ⟨(pg_tupK (K := K) (n := 2) rfl rfl (pgs_cons (pg_name (i := 0) (by show List.Nodup (["_law_place", "_law_words"] : List Str); decide +kernel) rfl (by first | exact Or.inl rfl | exact Or.inr rfl)) (pgs_cons (pg_name (i := 1) (by show List.Nodup (["_law_place", "_law_words"] : List Str); decide +kernel) rfl (by first | exact Or.inl rfl | exact Or.inr rfl)) pgs_nil))), pts_nil, (pe_tup (pa_cons (pv 0) (pa_cons (pe_callTy (call_list_ofK (K := K) rfl) (by rfl) T.n_list bt_list (pa_cons (pv 1) pa_nil)) pa_nil)))⟩)) (pss_one (ps_ret (pe_op (op_catTK (K := K) rfl) (pe_slice (sl_tupK (K := K) rfl) (pv 0) po_none (po_some pe_int)) (pe_tup (pa_cons (pv 1) (pa_cons (pe_callTy (call_list_ofK (K := K) rfl) (by rfl) T.n_list bt_list (pa_cons (pe_ix (ix_tupK (K := K) rfl) (pv 0) pe_int (fun _ _ => rfl)) pa_nil)) pa_nil))))))), ?_⟩
    walk_at "rd"
    have B := hW.bok
    have bn := B.n1
    have n5 := hW.n5
    refine ⟨_, SqT.of hW.top, _, rfl, ?_⟩
    refine CompL.of (xs := S.ps.map fun x => V.ref x.t) (by rw [List.length_map, sizeLine_eq]; omega) (SqL.of B.pm.top) (fun D i ys H' => ∃ qs : List Prt, ys = qs.map (fun x => V.ref x.t) ∧ qs.map Prt.core = (S.ps.take i).map Prt.core ∧ (∀ y ∈ qs, H' y.t = some (.tup [.int y.p, .ref y.l]) ∧ H' y.l = some (.lst (y.ws.map V.int)) ∧ H y.l = none ∧ y.l ≠ D) ∧ (qs.map Prt.l).Nodup ∧ Same H H' ∧ H' D = some (.lst ys)) (fun D hD => ⟨[], rfl, rfl, fun y hy => (nomatch hy), .nil, same_new hD, upd_same⟩) ?_ ?_ ?_
    · rintro D i ys H' hD hi ⟨qs, e, ec, _, _, sm, hDD⟩
      rw [List.length_map] at hi
      refine ⟨SqL.of (sm _ _ B.pm.top), hDD, ?_⟩
      have := congrArg List.length ec
      rw [List.length_map, List.length_map, List.length_take] at this
      rw [e, List.length_map]; omega
    · rintro D i x ys H' hD hx ⟨qs, e, ec, hqs, nd, sm, hDD⟩
      rw [List.getElem?_map] at hx
      obtain ⟨y, hy, rfl⟩ := Option.map_eq_some_iff.mp hx
      have hym := List.mem_of_getElem? hy
      have ay := B.pm.at_ y hym
      walk_at "rd"
      refine ⟨_, SqT.of (sm _ _ ay.1), rfl, _, _, rfl, _, _, rfl, rfl, .no (.no .nil), _, rfl, _, .inl (SqL.of (sm _ _ ay.2)), fun l hl => ⟨by rw [sizeLine_eq]; decide, fun p hp => ?_⟩⟩
      obtain ⟨n1, hp'⟩ := free_of hp
      have hDl : D ≠ l := ne_of_none hDD hl
      have hDp : D ≠ p := ne_of_none hDD hp'
      have old : ∀ {z : Addr} {o o' : HO}, H' z = some o → z ≠ D → upd (upd (upd H' l (HO.lst (y.ws.map V.int))) p (HO.tup [V.int y.p, V.ref l])) D o' z = some o := fun {z o o'} h h2 => by
        rw [upd_ne h2, upd_ne (ne_of_none h hp'), upd_ne (ne_of_none h hl)]; exact h
      refine ⟨by rw [upd_ne hDp, upd_ne hDl]; exact hDD, qs ++ [⟨p, l, y.p, y.ws⟩], by rw [e, List.map_append]; rfl, by rw [take_snoc hy, List.map_append, List.map_append, ec]; rfl, fun z hz => ?_, ?_, same_upd hD ((sm.trans (same_new hl)).trans (same_new hp)), upd_same⟩
      · rcases List.mem_append.mp hz with h | h
        · obtain ⟨c1, c2, c3, c4⟩ := hqs z h
          exact ⟨old c1 (ne_of c1 hDD (by intro z; cases z)), old c2 c4, c3, c4⟩
        · rw [List.mem_singleton.mp h]
          refine ⟨?_, ?_, ?_, Ne.symm hDl⟩
          · show upd _ D _ p = _
            rw [upd_ne (Ne.symm hDp), upd_same]
          · show upd _ D _ l = _
            rw [upd_ne (Ne.symm hDl), upd_ne (Ne.symm n1), upd_same]
          · cases e : H l with
            | none => rfl
            | some o => rw [sm _ _ e] at hl; cases hl
      · rw [List.map_append, List.nodup_append]
        refine ⟨nd, by simp, fun a ha b hb => ?_⟩
        obtain ⟨z, hz, rfl⟩ := List.mem_map.mp ha
        simp only [List.map_cons, List.map_nil, List.mem_singleton] at hb
        rw [hb]; exact ne_of_none (hqs z hz).2.1 hl
    · rintro D ys H' hD ⟨qs, e, ec, hqs, nd, sm, hDD⟩
      rw [List.length_map, List.take_length] at ec
      have top' := sm _ _ hW.top
      refine ⟨_, SqT.of top', by show ¬(HT.sIx 5 0 none = 0 ∧ HT.sIx 5 5 (some 3) = 5); decide, fun p hp => ?_⟩
      have sp := same_new (o := HO.tup (cutV [V.int W.st, V.int W.sz, V.int W.en, V.ref S.a, V.ref S.b] none (some 3))) hp
      refine ⟨_, SqT.of (sp _ _ top'), _, rfl, _, rfl, _, .inl (SqL.of (sp _ _ (sm _ _ B.lm.top))), fun l hl => ⟨by rw [sizeLine_eq]; decide, fun p2 hp2 => ?_⟩⟩
      have sl := sp.trans (same_new (o := HO.lst (S.ls.map fun x => V.ref x.a)) hl)
      have sl2 := sl.trans (same_new (o := HO.tup [V.ref D, V.ref l]) hp2)
      refine ⟨_, SqT.of (same_new hp2 _ _ (same_new hl _ _ upd_same)), _, SqT.of upd_same, by show [V.int W.st, V.int W.sz, V.int W.en] ≠ []; simp, by rw [sizeLine_eq]; show 3 + 2 ≤ 16777216; decide, fun h => (nomatch h), fun _ p3 hp3 => ?_⟩
      have s3 := sl2.trans (same_new (o := HO.tup (cutV [V.int W.st, V.int W.sz, V.int W.en, V.ref S.a, V.ref S.b] none (some 3) ++ [V.ref D, V.ref l])) hp3)
      have sall := sm.trans s3
      have hl' : H' l = none := (free_of hl).2
      have hlH : H l = none := by
        cases e : H l with
        | none => rfl
        | some o => rw [sm _ _ e] at hl'; cases hl'
      have hDl : D ≠ l := ne_of_none hDD hl'
      rw [e] at hDD
      have bl : upd (upd (upd (upd H' p _) l _) p2 (HO.tup [V.ref D, V.ref l])) p3 (HO.tup (cutV [V.int W.st, V.int W.sz, V.int W.en, V.ref S.a, V.ref S.b] none (some 3) ++ [V.ref D, V.ref l])) l = some (HO.lst (S.ls.map fun x => V.ref x.a)) := same_new hp3 _ _ (same_new hp2 _ _ upd_same)
      refine k ⟨p3, W.st, W.sz, W.en, W.n⟩ ⟨D, l, qs, S.ls, S.e⟩ _ sall { top := upd_same, bok := ?_, n5 := hW.n5, s1 := hW.s1, s2 := hW.s2, z1 := hW.z1, z2 := hW.z2, e0 := hW.e0, e1 := hW.e1, pw := hW.pw } rfl rfl rfl ec rfl rfl hD hlH (fun y hy => (hqs y hy).2.2.1)
      exact B.other ec ⟨s3 _ _ hDD, fun y hy => ⟨s3 _ _ (hqs y hy).1, s3 _ _ (hqs y hy).2.1⟩, nd, fun y hy => (hqs y hy).2.2.2⟩ ⟨bl, fun x hx => sall _ _ (B.lm.at_ x hx)⟩ hDl (fun y hy => ne_of_none (hqs y hy).2.1 hl')
theorem G__law_filled_so (T : Txt K mg A) : FnOk P w K mg base CX0 1 A._law_filled_so A.fd__law_filled_so ["_law_rule", "_law_word", "_law_there", "_law_found"] sp_fso := by
  refine T.F__law_filled_so.ok sc__law_filled_so (fun vs H Q E h => ?_) (fun cdv Ar outer s H vs Q E hr h => ?_)
  · obtain ⟨r, word, there, found, rfl, _⟩ := h
    rfl
  · obtain ⟨r, word, there, found, rfl, hf, k⟩ := h
    refine ⟨_, (pss_cons (ps_if (pt_cmpR op_eq (pv 0) pe_str (nomark _)) (pss_one (ps_ret (pe_cmpR op_eq (pe_op op_mod (pe_op op_sub (pv 3) (pv 2)) pe_int) pe_int (nomark _)))) pss_nil) (pss_cons (ps_if (pt_cmpR op_ne (pe_op op_fdiv (pv 3) pe_int) (pe_op op_fdiv (pv 1) pe_int) (nomark _)) (pss_one (ps_ret pe_bl)) pss_nil) (pss_cons (ps_if (pt_cmpR op_eq (pv 0) pe_str (nomark _)) (pss_one (ps_ret (pe_cmpR op_eq (pe_op op_mod (pe_op op_sub (pv 3) (pv 2)) pe_int) pe_int (nomark _)))) pss_nil) (pss_one (ps_ret (pe_cmpR op_lt (pe_op op_mod (pe_op op_add (pe_op op_sub (pv 2) (pe_op op_mul pe_int (pe_op op_mod (pv 3) pe_int))) pe_int) pe_int) pe_int (nomark _))))))), ?_⟩
    walk_at "rd"
    rcases hf with ⟨h1, h2⟩ | ⟨h1, h2, h3⟩
    · rw [if_pos (by rw [h1]; simp), decide_eq_true h2]
      exact ⟨by decide, k⟩
    · rw [if_neg (by simpa using h1)]
      refine ⟨⟨by decide, by decide⟩, ⟨by decide, by decide⟩, ?_⟩
      rw [if_neg (by simp [h2])]
      rcases h3 with ⟨h3, h4⟩ | ⟨h3, h4⟩
      · rw [if_pos (by rw [h3]; simp), decide_eq_true h4]
        exact ⟨by decide, k⟩
      · rw [if_neg (by simpa using h3), decide_eq_true h4]
        exact ⟨by decide, .inl ⟨by decide, by decide⟩, by decide, k⟩
theorem G__law_due_words (T : Txt K mg A) : FnOk P w K mg base CX0 1 A._law_due_words A.fd__law_due_words ["_law_whole_here"] sp_due := by
  refine T.F__law_due_words.ok sc__law_due_words (fun vs H Q E h => ?_) (fun cdv Ar outer s H vs Q E hr h => ?_)
  · obtain ⟨W, S, rfl, _⟩ := h
    rfl
  · obtain ⟨W, S, rfl, hW, k⟩ := h
    refine ⟨_, (pss_cons (ps_set (i := 1) sc__law_due_words.nd rfl (by first | exact Or.inl rfl | exact Or.inr rfl) pe_dnewK) (pss_cons (ps_for PassesOwn.never rfl (pi_listK (K := K) rfl (pe_ix (ix_tupK (K := K) rfl) (pv 0) pe_int (fun _ _ => rfl))) (pg_tupK (K := K) (n := 2) rfl rfl (pgs_cons (pg_name (i := 2) sc__law_due_words.nd rfl (by first | exact Or.inl rfl | exact Or.inr rfl)) (pgs_cons (pg_name (i := 3) sc__law_due_words.nd rfl (by first | exact Or.inl rfl | exact Or.inr rfl)) pgs_nil))) (pss_one (ps_for PassesOwn.never rfl (pi_range1 rfl T.n_range (pa_cons (pe_callB (call_lenK (K := K) rfl) (by rfl) T.n_len bt_len (pa_cons (pv 3) pa_nil)) pa_nil)) (pg_name (i := 4) sc__law_due_words.nd rfl (by first | exact Or.inl rfl | exact Or.inr rfl)) (pss_one (ps_dput (hu_of hr) (pv 1) (pe_op op_add (pv 2) (pv 4)) (pe_ix (ix_listK (K := K) rfl) (pv 3) (pv 4) (fun _ _ => rfl)) rfl))))) (pss_one (ps_ret (pv 1))))), ?_⟩
    walk_at "rd"
    intro d hd
    have B := hW.bok
    obtain ⟨ts, p1, p2, p3⟩ := B.pm.vs
    refine ⟨_, SqT.of (same_new hd _ _ hW.top), _, rfl, ?_⟩
    refine ForL.of (xs := ts.map V.ref) (fun i σ H' => ∃ (b2 b3 b4 : Option V) (mem : List (Key × V)), σ = [some (.ref W.t), some (.ref d), b2, b3, b4] ∧ Same H H' ∧ H' d = some (.dK mem) ∧ MInv 0 (totW (S.ps.take i)) (w0 (S.ps.take i)) mem mem)
      ⟨_, _, _, [], rfl, same_new hd, upd_same, ⟨rfl, rfl, fun n => rfl, fun kv h => by cases h⟩⟩ ?_ ?_ ?_
    · rintro i σ H' hi ⟨b2, b3, b4, mem, rfl, sm, hdd, I⟩
      exact SqL.of (sm _ _ p1)
    · rintro i x σ H' hx ⟨b2, b3, b4, mem, rfl, sm, hdd, I⟩
      rw [List.getElem?_map] at hx
      obtain ⟨t0, ht, rfl⟩ := Option.map_eq_some_iff.mp hx
      have hil : i < S.ps.length := by rw [← p2]; exact (List.getElem?_eq_some_iff.mp ht).1
      have ei : S.ps[i]? = some S.ps[i] := List.getElem?_eq_getElem hil
      generalize hxx : S.ps[i] = x at ei
      obtain ⟨t1, q1, q2, q3⟩ := p3 i x ei
      rw [ht] at q1; cases q1
      have hxm : x ∈ S.ps := List.mem_of_getElem? ei
      have tk := B.ord.takes ei
      have n5 := hW.n5
      have a4 := B.n3 x hxm
      walk_at "rd"
      refine ⟨_, SqT.of (sm _ _ q2), rfl, _, _, rfl, _, _, rfl, rfl, _, .inl ⟨_, SqL.of (sm _ _ q3), rfl⟩, ?_⟩
      rw [List.length_map]
      refine ForR.of (by omega) (by omega) (fun j σ H' => ∃ (b4 : Option V) (mem : List (Key × V)), σ = [some (.ref W.t), some (.ref d), some (.int x.p), some (.ref x.l), b4] ∧ Same H H' ∧ H' d = some (.dK mem) ∧ MInv 0 (totW (S.ps.take i) + j) (w0 (S.ps.take i ++ [⟨x.t, x.l, x.p, x.ws.take j⟩])) mem mem)
        ⟨_, mem, rfl, sm, hdd, ⟨rfl, I.len, fun n => (I.val n).trans (by rw [w0_snoc (x := ⟨x.t, x.l, x.p, x.ws.take 0⟩) tk, if_neg (by simp)]), I.keys⟩⟩ ?_ ?_
      · rintro j σ H' hj ⟨b4, mem, rfl, sm, hdd, I⟩
        have hjl : j < x.ws.length := by omega
        have hw : x.ws[j]? = some x.ws[j] := List.getElem?_eq_getElem hjl
        generalize x.ws[j] = u at hw
        walk_at "rd"
        have lz : mem.length < sizeLine := by
          have a1 := I.len
          have a2 := totW_le (n := 500) (ps := S.ps.take i) fun y hy => Nat.le_trans (B.n3 y (List.mem_of_mem_take hy)) n5
          have a3 : (S.ps.take i).length ≤ 500 := by rw [List.length_take]; have := B.n1; omega
          have a5 : (S.ps.take i).length * 500 ≤ 500 * 500 := Nat.mul_le_mul_right 500 a3
          rw [sizeLine_eq]; omega
        have ev : atI (x.ws.map V.int) (j : Int) = some (.int u) := by rw [atI_nat]; rw [List.getElem?_map, hw]; rfl
        refine ⟨_, SqL.of (sm _ _ q3), _, ev, _, DPut.k (k := Sum.inl _) hdd lz, same_upd hd sm, _, upd_same, ?_⟩
        have e : x.p + (j : Int) = 0 + (x.p + (j : Int)) := by omega
        rw [e]
        refine I.new (n := x.p + (j : Int)) ?_ rfl fun k => ?_
        · rw [w0_snoc (x := ⟨x.t, x.l, x.p, x.ws.take j⟩) tk, if_neg (by simp; omega)]
          exact w0_none fun y hy => by have := tk y hy; omega
        · rw [w0_snoc (x := ⟨x.t, x.l, x.p, x.ws.take (j + 1)⟩) tk, w0_snoc (x := ⟨x.t, x.l, x.p, x.ws.take j⟩) tk]
          have t1 : (x.ws.take (j + 1)).length = j + 1 := by rw [List.length_take]; omega
          have t2 : (x.ws.take j).length = j := by rw [List.length_take]; omega
          dsimp only
          rw [t1, t2]
          by_cases z : k = x.p + (j : Int)
          · rw [if_pos (by omega), if_pos z]
            have : (k - x.p).toNat = j := by omega
            rw [this, List.getD_eq_getElem?_getD, List.getElem?_take_of_lt (by omega), hw]; rfl
          · rw [if_neg z]
            by_cases z2 : x.p ≤ k ∧ k < x.p + (j : Int)
            · rw [if_pos (by omega), if_pos z2]
              rw [List.getD_eq_getElem?_getD, List.getD_eq_getElem?_getD, List.getElem?_take_of_lt (by omega), List.getElem?_take_of_lt (by omega)]
            · rw [if_neg (by omega), if_neg z2]
      · rintro σ H' ⟨b4, mem, rfl, sm, hdd, I⟩
        rw [Int.toNat_natCast, List.take_length] at I
        refine ⟨_, _, _, rfl, sm, mem, hdd, ?_⟩
        rw [take_snoc ei, totW_app]
        exact I
    · rintro σ H' ⟨b2, b3, b4, mem, rfl, sm, hdd, I⟩
      have efull : S.ps.take (List.map V.ref ts).length = S.ps := by rw [List.length_map, p2, List.take_length]
      rw [efull] at I
      walk_at "rd"
      exact k d mem H' sm hd hdd ⟨I.len, fun n => by have := I.val n; rw [Int.zero_add] at this; exact this, I.keys⟩
theorem filled_ok {r : Str} {u t : Int} (hr : isR r) (h0 : 0 ≤ u) : FilledSo r u t (fillR r u t) := by
  unfold FilledSo fillR
  rcases hr with e | e | e
  · exact .inl ⟨e, by rw [if_pos e]; omega⟩
  · have n1 : r ≠ Str.ofString "whole" := by rw [e]; exact ne_wh.symm
    have n2 : r ≠ Str.ofString "low" := by rw [e]; exact ne_hl
    refine .inr ⟨n1, ?_, .inr ⟨n2, ?_⟩⟩
    · rw [if_neg n1, if_pos e, put16 _ _ h0]; omega
    · rw [if_neg n1, if_pos e, put16 _ _ h0]; omega
  · have n1 : r ≠ Str.ofString "whole" := by rw [e]; exact ne_wl.symm
    have n2 : r ≠ Str.ofString "high" := by rw [e]; exact ne_hl.symm
    refine .inr ⟨n1, ?_, .inl ⟨e, ?_⟩⟩
    · rw [if_neg n1, if_neg n2, put16 _ _ h0]; omega
    · rw [if_neg n1, if_neg n2, put16 _ _ h0]; omega
noncomputable def LeanedOk (b : Int) (ls : List Ln) (mr : List (Key × V)) (H : Hp) : Prop := mr.length ≤ ls.length ∧ (∀ l ∈ ls, ∃ q, valV mr (.inl l.p) = some (.ref q) ∧ H q = some (.tup [.str l.r, .int (b + l.t)])) ∧ ∀ n : Int, (∀ l ∈ ls, l.p ≠ n) → valV mr (.inl n) = none
theorem LeanedOk.mono {b : Int} {ls : List Ln} {mr : List (Key × V)} {H H' : Hp} (h : LeanedOk b ls mr H) (s : ∀ q xs, H q = some (.tup xs) → H' q = some (.tup xs)) : LeanedOk b ls mr H' :=
  ⟨h.1, fun l hl => by obtain ⟨q, e1, e2⟩ := h.2.1 l hl; exact ⟨q, e1, s _ _ e2⟩, h.2.2⟩
theorem G__law_loaded_so (T : Txt K mg A) : FnOk P w K mg base CX0 3 A._law_loaded_so A.fd__law_loaded_so ["_law_found", "_law_whole_here", "_law_base"] sp_lso := by
  refine T.F__law_loaded_so.ok sc__law_loaded_so (fun vs H Q E h => ?_) (fun cdv Ar outer s H vs Q E hr h => ?_)
  · obtain ⟨W, S, b, d, mem, rfl, _⟩ := h
    rfl
  · obtain ⟨W, S, b, d, mem, rfl, hW, hd, L, k⟩ := h
    refine ⟨_, (pss_cons (ps_set (i := 3) sc__law_loaded_so.nd rfl (by first | exact Or.inl rfl | exact Or.inr rfl) (pe_call (G__law_due_words T) (hr.mono (by decide)) rfl T.m__law_due_words T.k__law_due_words T.b__law_due_words .nil pass0 (pa_cons (pv 1) pa_nil))) (pss_cons (ps_if (PW.pt (pw_or (pt_not (pt_val (pe_callB (call_isiK (K := K) rfl) (by rfl) T.n_isinstance bt_isinstance (pa_cons (pv 0) (pa_cons (pe_bltn rfl T.n_dict bt_dict relT) pa_nil))))) (pw_or1 (pt_cmpR op_ne (pe_callB call_lenD (by rfl) T.n_len bt_len (pa_cons (pv 0) pa_nil)) (pe_callB call_lenD (by rfl) T.n_len bt_len (pa_cons (pv 3) pa_nil)) (nomark _))))) (pss_one (ps_ret pe_bl)) pss_nil) (pss_cons (ps_set (i := 4) sc__law_loaded_so.nd rfl (by first | exact Or.inl rfl | exact Or.inr rfl) pe_dnewK) (pss_cons (ps_for PassesOwn.never rfl (pi_listK (K := K) rfl (pe_ix (ix_tupK (K := K) rfl) (pv 1) pe_int (fun _ _ => rfl))) (pg_tupK (K := K) (n := 3) rfl rfl (pgs_cons (pg_name (i := 5) sc__law_loaded_so.nd rfl (by first | exact Or.inl rfl | exact Or.inr rfl)) (pgs_cons (pg_name (i := 6) sc__law_loaded_so.nd rfl (by first | exact Or.inl rfl | exact Or.inr rfl)) (pgs_cons (pg_name (i := 7) sc__law_loaded_so.nd rfl (by first | exact Or.inl rfl | exact Or.inr rfl)) pgs_nil)))) (pss_one (ps_dput (hu_of hr) (pv 4) (pv 5) (pe_tup (pa_cons (pv 6) (pa_cons (pe_op op_add (pv 2) (pv 7)) pa_nil))) rfl))) (pss_cons (ps_for PassesOwn.never rfl (pi_dict (pv 3)) (pg_name (i := 5) sc__law_loaded_so.nd rfl (by first | exact Or.inl rfl | exact Or.inr rfl)) (pss_cons (ps_set (i := 8) sc__law_loaded_so.nd rfl (by first | exact Or.inl rfl | exact Or.inr rfl) (pe_dget1 (hu_of hr) (pv 0) (pe_op op_add (pv 2) (pv 5)) ⟨rfl, rfl, rfl, rfl⟩)) (pss_cons (ps_if (PW.pt (pw_or (pt_not (pt_val (pe_call (G__law_whole T) (hr.mono (by decide)) rfl T.m__law_whole T.k__law_whole T.b__law_whole .nil pass0 (pa_cons (pv 8) pa_nil)))) (pw_or1 (pt_not (pt_chain op_le op_le pe_int (pv 8) pe_int))))) (pss_one (ps_ret pe_bl)) pss_nil) (pss_cons (ps_if (pt_cmp (pc_dnotin (hu_of hr) (pv 5) (pv 4))) (pss_cons (ps_if (pt_cmpR op_ne (pv 8) (pe_dget (hu_of hr) (pv 3) (pv 5) (fun _ _ => rfl)) (nomark _)) (pss_one (ps_ret pe_bl)) pss_nil) (pss_one ps_continue)) pss_nil) (pss_cons (ps_asg (pe_dget (hu_of hr) (pv 4) (pv 5) (fun _ _ => rfl)) (pg_tupK (K := K) (n := 2) rfl rfl (pgs_cons (pg_name (i := 6) sc__law_loaded_so.nd rfl (by first | exact Or.inl rfl | exact Or.inr rfl)) (pgs_cons (pg_name (i := 9) sc__law_loaded_so.nd rfl (by first | exact Or.inl rfl | exact Or.inr rfl)) pgs_nil)))) (pss_one (ps_if (pt_not (pt_val (pe_call (G__law_filled_so T) (hr.mono (by decide)) rfl T.m__law_filled_so T.k__law_filled_so T.b__law_filled_so .nil pass0 (pa_cons (pv 6) (pa_cons (pe_dget (hu_of hr) (pv 3) (pv 5) (fun _ _ => rfl)) (pa_cons (pv 9) (pa_cons (pv 8) pa_nil))))))) (pss_one (ps_ret pe_bl)) pss_nil))))))) (pss_one (ps_ret pe_bl))))))), ?_⟩
    walk_at "rd"
    refine ⟨W, rfl, S, hW, fun d1 m1 H1 s1 hd1 hdd1 D1 => ⟨_, .dK (s1 _ _ hd), true, by unfold PySem.W.kitOne; rw [if_pos (by simp)], ?_⟩⟩
    rw [if_neg (by decide)]
    have el : mem.length = m1.length := L.len.trans D1.len.symm
    refine ⟨_, s1 _ _ hd, _, hdd1, ?_⟩
    rw [if_neg (by simp [el])]
    intro p hp
    have B := hW.bok
    obtain ⟨us, l1, l2, l3⟩ := B.lm.vs
    have n5 := hW.n5
    refine ⟨_, SqT.of (same_new hp _ _ (s1 _ _ hW.top)), _, rfl, ?_⟩
    refine ForL.of (xs := us.map V.ref) (fun i σ H' => ∃ (b5 b6 b7 b8 b9 : Option V) (mr : List (Key × V)), σ = [some (.ref d), some (.ref W.t), some (.int b), some (.ref d1), some (.ref p), b5, b6, b7, b8, b9] ∧ Same H1 H' ∧ H' p = some (.dK mr) ∧ LeanedOk b (S.ls.take i) mr H')
      ⟨_, _, _, _, _, [], rfl, same_new hp, upd_same, Nat.zero_le _, (fun l h => by simp at h), fun n _ => rfl⟩ ?_ ?_ ?_
    · rintro i σ H' hi ⟨b5, b6, b7, b8, b9, mr, rfl, sm, hpp, R⟩
      exact SqL.of (sm _ _ (s1 _ _ l1))
    · rintro i x σ H' hx ⟨b5, b6, b7, b8, b9, mr, rfl, sm, hpp, R⟩
      rw [List.getElem?_map] at hx
      obtain ⟨t0, ht, rfl⟩ := Option.map_eq_some_iff.mp hx
      have hil : i < S.ls.length := by rw [← l2]; exact (List.getElem?_eq_some_iff.mp ht).1
      have ei : S.ls[i]? = some S.ls[i] := List.getElem?_eq_getElem hil
      generalize hxx : S.ls[i] = x at ei
      obtain ⟨t1, q1, q2⟩ := l3 i x ei
      rw [ht] at q1; cases q1
      have bn := B.n2
      have lr := R.1
      have lt := List.length_take_le i S.ls
      walk_at "rd"
      refine ⟨_, SqT.of (sm _ _ (s1 _ _ q2)), rfl, _, _, rfl, _, _, rfl, _, _, rfl, rfl, _, rfl, by rw [sizeLine_eq]; decide, fun p1 hp1 => ?_⟩
      have sp1 := same_new (o := HO.tup [V.str x.r, V.int (b + x.t)]) hp1
      refine ⟨_, DPut.k (k := Sum.inl x.p) (sp1 _ _ hpp) (by rw [sizeLine_eq]; omega), same_upd hp (sm.trans sp1), _, upd_same, ?_⟩
      have nd := B.ln
      have e1 : S.ls.take (i + 1) = S.ls.take i ++ [x] := take_snoc ei
      have nd2 : ((S.ls.take i ++ [x]).map Ln.p).Nodup := by rw [← e1, List.map_take]; exact nd.sublist (List.take_sublist ..)
      rw [List.map_append, List.nodup_append] at nd2
      rw [e1]
      have hpt : ∀ {q : Addr} {xs : List V} {o : HO}, upd H' p1 (HO.tup [V.str x.r, V.int (b + x.t)]) q = some (.tup xs) → upd (upd H' p1 (HO.tup [V.str x.r, V.int (b + x.t)])) p o q = some (.tup xs) := fun {q xs o} h => by
        rw [upd_ne (ne_of h (sp1 _ _ hpp) (by intro z; cases z))]; exact h
      refine ⟨?_, fun l hl => ?_, fun n hn => ?_⟩
      · have := length_putK mr (Sum.inl x.p) (V.ref p1)
        rw [List.length_append, List.length_singleton]; exact Nat.le_trans this (by omega)
      · rcases List.mem_append.mp hl with z | z
        · obtain ⟨q, e1, e2⟩ := R.2.1 l z
          refine ⟨q, (valV_put mr (Sum.inl x.p) (Sum.inl l.p) _).trans ?_, hpt (sp1 _ _ e2)⟩
          rw [if_neg (fun e => nd2.2.2 l.p (List.mem_map.mpr ⟨l, z, rfl⟩) x.p (by simp) (Sum.inl.inj e))]
          exact e1
        · rw [List.mem_singleton.mp z]
          exact ⟨p1, (valV_put mr (Sum.inl x.p) (Sum.inl x.p) _).trans (if_pos rfl), hpt upd_same⟩
      · refine (valV_put mr (Sum.inl x.p) (Sum.inl n) _).trans ?_
        rw [if_neg (fun e => hn x (by simp) (Sum.inl.inj e).symm)]
        exact R.2.2 n fun l hl => hn l (List.mem_append_left _ hl)
    · rintro σ H' ⟨b5, b6, b7, b8, b9, mr, rfl, sm, hpp, R⟩
      have efull : S.ls.take (List.map V.ref us).length = S.ls := by rw [List.length_map, l2, List.take_length]
      rw [efull] at R
      walk_at "rd"
      have hd1' := sm _ _ hdd1
      have npd : p ≠ d1 := Ne.symm (ne_of_none hdd1 hp)
      have ndd : d ≠ d1 := ne_of_none hd hd1
      refine ForD.of hd1' (fun ob i σ H2 => ∃ (b5 b6 b7 b8 b9 : Option V), σ = [some (.ref d), some (.ref W.t), some (.int b), some (.ref d1), some (.ref p), b5, b6, b7, b8, b9] ∧ H2 d1 = some (.frz ob (.dK m1)) ∧ H2 d = some (.dK mem) ∧ H2 p = some (.dK mr) ∧ Same H H2 ∧ LeanedOk b S.ls mr H2)
        (fun ob => ⟨_, _, _, _, _, rfl, upd_same, by rw [upd_ne ndd]; exact sm _ _ (s1 _ _ hd), by rw [upd_ne npd]; exact hpp, same_upd hd1 (s1.trans sm), R.mono fun q xs e => by rw [upd_ne (ne_of e hd1' (by intro z; cases z))]; exact e⟩) (fun ob i σ H2 hi h => by obtain ⟨b5, b6, b7, b8, b9, _, h, _⟩ := h; exact h) ?_ ?_
      · rintro ob i kv σ H2 hkv ⟨b5, b6, b7, b8, b9, rfl, h1, h2, h3, s2, R2⟩
        obtain ⟨n, en⟩ := D1.keys kv (List.mem_of_getElem? hkv)
        obtain ⟨v, hv⟩ := valV_mem (List.mem_of_getElem? hkv)
        rw [en, D1.val] at hv
        obtain ⟨u, hu, rfl⟩ := Option.map_eq_some_iff.mp hv
        rw [en]
        have ru := w0_rng B.ws _ _ hu
        have rg := layL_rng (b := b) S.ls (w0 S.ps) (w0_rng B.ws)
        have hs2 : (layL b S.ls (w0 S.ps) n).isSome = true := by rw [rg.2, hu]; rfl
        obtain ⟨x, hx⟩ := Option.isSome_iff_exists.mp hs2
        have rx := rg.1 _ _ hx
        have g1 : DGet H2 d1 (V.int n) (some (V.int u)) := .inl ⟨m1, Sum.inl n, .inr ⟨ob, h1⟩, rfl, by rw [D1.val, hu]; rfl⟩
        have g2 : DGet H2 d (V.int (b + n)) (some (V.int x)) := by
          have g : DGet H2 d (V.int (b + n)) (valV mem (.inl (b + n))) := DGet.k (k := Sum.inl (b + n)) h2
          rw [L.val, hx] at g; exact g
        have gr : DGet H2 p (V.int n) (valV mr (.inl n)) := DGet.k (k := Sum.inl n) h3
        walk_at "rd"
        refine ⟨.inl ⟨_, .inl h2⟩, n, rfl, _, g2, x, rfl, x, rfl, ?_⟩
        rw [if_pos (decide_eq_true rx.1)]
        refine ⟨x, rfl, ?_⟩
        rw [if_neg (by simp [rx.2])]
        refine ⟨_, gr, ?_⟩
        by_cases hl : ∃ l ∈ S.ls, l.p = n
        · obtain ⟨l, hl, el⟩ := hl
          obtain ⟨q, e1, e2⟩ := R2.2.1 l hl
          rw [el] at e1
          rw [← el] at hx hu
          rw [layL_at _ _ B.ln hl, hu] at hx
          have hx := Option.some.inj hx
          have gr2 : DGet H2 p (V.int n) (some (V.ref q)) := by rw [e1] at gr; exact gr
          rw [e1, if_neg (by simp)]
          exact ⟨_, gr2, q, rfl, _, SqT.of e2, rfl, _, _, rfl, _, _, rfl, rfl, _, g1, _, rfl, _, rfl, _, rfl, _, rfl, (by rw [← hx]; exact filled_ok (B.rr l hl).1 ru.1), h1, h2, h3, s2, R2⟩
        · have hl' : ∀ l ∈ S.ls, l.p ≠ n := fun l h e => hl ⟨l, h, e⟩
          rw [layL_off _ _ hl', hu] at hx
          have hx := Option.some.inj hx
          rw [R2.2.2 _ hl', if_pos (by simp)]
          refine ⟨_, g1, rfl, ?_⟩
          rw [if_neg (by simp [hx])]
          exact ⟨_, _, _, _, _, rfl, h1, h2, h3, s2, R2⟩
      · rintro ob σ H2 ⟨b5, b6, b7, b8, b9, rfl, h1, h2, h3, s2, R2⟩
        walk_at "rd"
        exact k _ s2
theorem totW_core {ps qs : List Prt} (h : qs.map Prt.core = ps.map Prt.core) : totW qs = totW ps := by
  induction qs generalizing ps with
  | nil => cases ps with
    | nil => rfl
    | cons x r => cases h
  | cons y q ih => cases ps with
    | nil => cases h
    | cons x r =>
      rw [List.map_cons, List.map_cons, List.cons.injEq] at h
      show y.ws.length + totW q = x.ws.length + totW r
      rw [ih h.2, show y.ws = x.ws from congrArg (·.2) h.1]
theorem w0_core {ps qs : List Prt} (h : qs.map Prt.core = ps.map Prt.core) : w0 qs = w0 ps := by
  funext n
  induction qs generalizing ps with
  | nil => cases ps with
    | nil => rfl
    | cons x r => cases h
  | cons y q ih => cases ps with
    | nil => cases h
    | cons x r =>
      rw [List.map_cons, List.map_cons, List.cons.injEq] at h
      show (if y.p ≤ n ∧ n < y.p + y.ws.length then some (y.ws.getD (n - y.p).toNat 0) else w0 q n) = (if x.p ≤ n ∧ n < x.p + x.ws.length then some (x.ws.getD (n - x.p).toNat 0) else w0 r n)
      rw [ih h.2, show y.ws = x.ws from congrArg (·.2) h.1, show y.p = x.p from congrArg (·.1) h.1]
theorem Loaded.core {S S' : BS} {b : Int} {mem : List (Key × V)} (L : Loaded S' b mem) (h : S'.ps.map Prt.core = S.ps.map Prt.core) (h2 : S'.ls = S.ls) : Loaded S b mem :=
  ⟨L.len.trans (totW_core h), fun n => by rw [L.val, h2, w0_core h], L.keys, by rw [L.fn, h, h2]⟩
noncomputable def AllI (m : List (Key × V)) : Prop := ∀ kv ∈ m, ∃ n : Int, kv.2 = .int n
theorem AllI.put {m : List (Key × V)} (h : AllI m) (k : Key) (v : Int) : AllI (putK m k (.int v)) := by
  intro kv hk
  unfold putK at hk
  split at hk
  · obtain ⟨x, hx, rfl⟩ := List.mem_map.mp hk
    split
    · exact ⟨v, rfl⟩
    · exact h x hx
  · rcases List.mem_append.mp hk with z | z
    · exact h kv z
    · rw [List.mem_singleton.mp z]; exact ⟨v, rfl⟩
theorem AllI.wd {b p : Int} : ∀ (ws : List Int) (j : Nat) {m : List (Key × V)}, AllI m → AllI (loadW b p ws j m)
  | [], _, _, h => h
  | w :: r, j, _, h => AllI.wd r (j + 1) (h.put _ _)
theorem AllI.ps {b : Int} : ∀ (ps : List (Int × List Int)) {m : List (Key × V)}, AllI m → AllI (ps.foldl (fun m x => loadW b x.1 x.2 0 m) m)
  | [], _, h => h
  | x :: r, _, h => AllI.ps r (AllI.wd x.2 0 h)
theorem AllI.ls {b : Int} : ∀ (ls : List (Int × Str × Int)) {m : List (Key × V)}, AllI m → AllI (loadLs b ls m)
  | [], _, h => h
  | x :: r, m, h => AllI.ls (b := b) r (h.put (.inl (b + x.1)) (fillR x.2.1 (intAt m (b + x.1)) (b + x.2.2)))
theorem Loaded.ints {S : BS} {b : Int} {mem : List (Key × V)} (L : Loaded S b mem) : AllI mem := by
  rw [L.fn]
  exact AllI.ls _ (AllI.ps _ fun kv h => by cases h)
noncomputable def dCore (x : Int × List Int) : D := .tup [.int x.1, .lst (x.2.map D.int)]
noncomputable def Ln.d (l : Ln) : D := .tup [.int l.p, .str l.r, .int l.t]
noncomputable def wholeD (W : Whl) (S : BS) : List D := [.int W.st, .int W.sz, .int W.en, .lst ((S.ps.map Prt.core).map dCore), .lst (S.ls.map Ln.d)]
theorem dep_wholeD (W : Whl) (S : BS) : depL (wholeD W S) ≤ 20 := by
  have h1 : depL ((S.ps.map Prt.core).map dCore) ≤ 3 := depL_le fun x _ => by
    have h0 : depL (x.2.map D.int) ≤ 0 := depL_le fun x _ => by simp [dep]
    simp only [dCore, dep, depL]
    omega
  have h2 : depL (S.ls.map Ln.d) ≤ 1 := depL_le fun x _ => by simp [Ln.d, dep, depL]
  simp only [wholeD, dep, depL]
  omega
theorem WOk.rep {m : Int} {H : Hp} {W : Whl} {S : BS} (h : WOk m H W S) : Rep K H (.tup (wholeD W S)) (.ref W.t) := by
  simp only [Rep]
  refine ⟨_, _, rfl, SqT.of h.top, ?_⟩
  simp only [wholeD, RepL, Rep]
  refine ⟨_, _, rfl, rfl, _, _, rfl, rfl, _, _, rfl, rfl, _, _, rfl, ⟨_, _, rfl, SqL.of h.bok.pm.top, ?_⟩, _, _, rfl, ⟨_, _, rfl, SqL.of h.bok.lm.top, ?_⟩, rfl⟩
  · rw [List.map_map]
    refine RepL.map fun x hx => ?_
    have q := h.bok.pm.at_ x hx
    simp only [Function.comp, Prt.core, dCore, Rep]
    refine ⟨_, _, rfl, SqT.of q.1, ?_⟩
    simp only [RepL, Rep]
    exact ⟨_, _, rfl, rfl, _, _, rfl, ⟨_, _, rfl, SqL.of q.2, RepL.ints _⟩, rfl⟩
  · refine RepL.map fun x hx => ?_
    simp only [Ln.d, Rep]
    exact ⟨_, _, rfl, SqT.of (h.bok.lm.at_ x hx), by simp [RepL, Rep]⟩
theorem Fits.few {W : Whl} {b m : Int} {H : Hp} {S : BS} (h : Fits W b) (hW : WOk m H W S) : Few b := by
  have h1 := h.1
  have h2 := h.2.2
  have h3 := hW.z1
  have h4 := hW.bok.e0
  exact ⟨by omega, by omega⟩
theorem Fits.as {W W' : Whl} {b : Int} (h : Fits W b) (e1 : W'.st = W.st) (e2 : W'.sz = W.sz) : Fits W' b := ⟨h.1, by rw [e1]; exact h.2.1, by rw [e2]; exact h.2.2⟩
theorem WOk.more {H H6 : Hp} {W : Whl} {S : BS} {p p1 : Addr} (hW : WOk 3000000000 H W S) (hn : W.n = 62)
    (kt : ∀ {y : Addr} {xs : List V}, H y = some (.tup xs) → H6 y = some (.tup xs))
    (kl : ∀ {y : Addr} {xs : List V}, y ≠ S.a → y ≠ S.b → H y = some (.lst xs) → H6 y = some (.lst xs))
    (ha : H6 S.a = some (.lst ((S.ps.map fun x => V.ref x.t) ++ [.ref p1]))) (hb : H6 S.b = some (.lst []))
    (hp1 : H6 p1 = some (.tup [.int W.sz, .ref p])) (hp : H6 p = some (.lst [])) (fp : H p = none) : WOk 3000000000 H6 { W with n := 500 } ⟨S.a, S.b, S.ps ++ [⟨p1, p, W.sz, []⟩], [], W.sz⟩ := by
  have B := hW.bok
  have z1 := hW.z1
  have z2 := hW.z2
  have e0 := B.e0
  have n1 := B.n1
  have na : p ≠ S.a := Ne.symm (ne_of_none B.pm.top fp)
  have nb : p ≠ S.b := Ne.symm (ne_of_none B.lm.top fp)
  exact
  { top := kt hW.top
    n5 := Nat.le_refl _
    s1 := hW.s1
    s2 := hW.s2
    z1 := Int.le_refl _
    z2 := hW.z2
    e0 := hW.e0
    e1 := hW.e1
    pw := hW.pw
    bok :=
    { pm :=
      { top := by rw [ha, List.map_append]; rfl
        at_ := fun x hx => by
          rcases List.mem_append.mp hx with z | z
          · have q := B.pm.at_ x z
            exact ⟨kt q.1, kl (B.pm.na x z) (B.nb x z) q.2⟩
          · rw [List.mem_singleton.mp z]
            exact ⟨hp1, hp⟩
        nd := by
          rw [List.map_append, List.nodup_append]
          refine ⟨B.pm.nd, by simp, fun u hu v hv => ?_⟩
          obtain ⟨x, hx, rfl⟩ := List.mem_map.mp hu
          rw [show v = p by simpa using hv]
          exact ne_of_none (B.pm.at_ x hx).2 fp
        na := fun x hx => by
          rcases List.mem_append.mp hx with z | z
          · exact B.pm.na x z
          · rw [List.mem_singleton.mp z]; exact na }
      lm := ⟨hb, fun x hx => by cases hx⟩
      ab := B.ab
      nb := fun x hx => by
        rcases List.mem_append.mp hx with z | z
        · exact B.nb x z
        · rw [List.mem_singleton.mp z]; exact nb
      ord :=
      { pos := fun x hx => by
          rcases List.mem_append.mp hx with z | z
          · exact B.ord.pos x z
          · rw [List.mem_singleton.mp z]; show 0 ≤ W.sz; omega
        le := fun x hx => by
          rcases List.mem_append.mp hx with z | z
          · exact Int.le_trans (B.ord.le x z) z1
          · rw [List.mem_singleton.mp z]; show W.sz + 0 ≤ W.sz; omega
        ap := fun i j x y hij hx hy => by
          by_cases hj : j < S.ps.length
          · rw [List.getElem?_append_left hj] at hy
            rw [List.getElem?_append_left (by omega)] at hx
            exact B.ord.ap i j x y hij hx hy
          · have hj2 := (List.getElem?_eq_some_iff.mp hy).1
            rw [List.length_append, List.length_singleton] at hj2
            have ej : j = S.ps.length := by omega
            rw [ej, List.getElem?_append_right (Nat.le_refl _), Nat.sub_self] at hy
            cases hy
            rw [List.getElem?_append_left (by omega)] at hx
            exact Int.le_trans (B.ord.le x (List.mem_of_getElem? hx)) z1 }
      ws := fun x hx => by
        rcases List.mem_append.mp hx with z | z
        · exact B.ws x z
        · rw [List.mem_singleton.mp z]; intro u hu; cases hu
      rr := fun l hl => by cases hl
      lk := fun l hl => by cases hl
      ln := List.nodup_nil
      en := by
        show W.sz = endP (S.ps ++ [⟨p1, p, W.sz, []⟩])
        unfold endP
        rw [List.getLast?_append]
        show W.sz = W.sz + 0
        omega
      e0 := by show 0 ≤ W.sz; omega
      e1 := by show W.sz ≤ ((500 : Nat) : Int) * 10000001; omega
      n1 := by
        show (S.ps ++ [_]).length ≤ 500
        rw [List.length_append, List.length_singleton]; omega
      n2 := Nat.zero_le _
      n3 := fun x hx => by
        rcases List.mem_append.mp hx with z | z
        · have := B.n3 x z
          show x.ws.length ≤ 500
          omega
        · rw [List.mem_singleton.mp z]; exact Nat.zero_le _
      n4 := Nat.le_refl _ } }
theorem G_law (T : Txt K mg A) : FnOk P w K mg base CX0 13 A.law A.fd_law ["_law_script"] (sp_law K) := by
  refine T.F_law.ok sc_law (fun vs H Q E h => ?_) (fun cdv Ar outer s H vs Q E hr h => ?_)
  · obtain ⟨a, ns, rfl, _⟩ := h
    rfl
  · obtain ⟨a, ns, rfl, hS, hl, k⟩ := h
    refine ⟨_, (pss_cons (ps_asg (pe_call (G__law_built T) (hr.mono (by decide)) rfl T.m__law_built T.k__law_built T.b__law_built .nil pass0 (pa_cons (pv 0) (pa_cons pe_int pa_nil))) (pg_tupK (K := K) (n := 2) rfl rfl (pgs_cons (pg_name (i := 1) sc_law.nd rfl (by first | exact Or.inl rfl | exact Or.inr rfl)) (pgs_cons (pg_name (i := 2) sc_law.nd rfl (by first | exact Or.inl rfl | exact Or.inr rfl)) pgs_nil)))) (pss_cons (ps_set (i := 3) sc_law.nd rfl (by first | exact Or.inl rfl | exact Or.inr rfl) (pe_call (G__law_base_by T) (hr.mono (by decide)) rfl T.m__law_base_by T.k__law_base_by T.b__law_base_by .nil pass0 (pa_cons (pv 2) (pa_cons (pe_op op_add (pe_op op_fdiv (pe_call (G__law_cell_at T) (hr.mono (by decide)) rfl T.m__law_cell_at T.k__law_cell_at T.b__law_cell_at .nil pass0 (pa_cons (pv 0) (pa_cons pe_int pa_nil))) pe_int) (pe_call (G__law_cell_at T) (hr.mono (by decide)) rfl T.m__law_cell_at T.k__law_cell_at T.b__law_cell_at .nil pass0 (pa_cons (pv 0) (pa_cons pe_int pa_nil)))) pa_nil)))) (pss_weak (u := lA) (pss_cons (ps_set (i := 4) sc_law.nd rfl (by first | exact Or.inl rfl | exact Or.inr rfl) (pe_call (G__law_copy T) (hr.mono (by decide)) rfl T.m__law_copy T.k__law_copy T.b__law_copy .nil pass0 (pa_cons (pv 2) pa_nil))) (pss_cons (ps_set (i := 5) sc_law.nd rfl (by first | exact Or.inl rfl | exact Or.inr rfl) (pe_call (G_loaded T) (hr.mono (by decide)) rfl T.m_loaded T.k_loaded T.b_loaded .nil pass0E (pa_cons (pv 4) (pa_cons (pv 3) pa_nil)))) (pss_cons (ps_if (pt_not (pt_val (pe_call (G__law_loaded_so T) (hr.mono (by decide)) rfl T.m__law_loaded_so T.k__law_loaded_so T.b__law_loaded_so .nil pass0 (pa_cons (pv 5) (pa_cons (pv 2) (pa_cons (pv 3) pa_nil)))))) (pss_one (ps_ret pe_bl)) pss_nil) (pss_cons (ps_set (i := 6) sc_law.nd rfl (by first | exact Or.inl rfl | exact Or.inr rfl) (pe_call (G_start_of T) (hr.mono (by decide)) rfl T.m_start_of T.k_start_of T.b_start_of .nil pass0E (pa_cons (pv 4) (pa_cons (pv 3) pa_nil)))) (pss_cons (ps_if (PW.pt (pw_or (pt_not (pt_val (pe_call (G__law_whole T) (hr.mono (by decide)) rfl T.m__law_whole T.k__law_whole T.b__law_whole .nil pass0 (pa_cons (pv 6) pa_nil)))) (pw_or (pt_cmpR op_ne (pv 6) (pe_op op_add (pv 3) (pe_ix (ix_tupK (K := K) rfl) (pv 2) pe_int (fun _ _ => rfl))) (nomark _)) (pw_or1 (pt_cmpR (op_neDK hr.units (K := K) rfl) (pv 4) (pv 2) (nomark _)))))) (pss_one (ps_ret pe_bl)) pss_nil) (pss_weak (u := lK) (pss_cons (ps_set (i := 7) sc_law.nd rfl (by first | exact Or.inl rfl | exact Or.inr rfl) (pe_callTy call_dictOf (by rfl) T.n_dict bt_dict (pa_cons (pv 5) pa_nil))) (pss_cons (ps_expr (pe_bm0 PySem.F.plainAttrs_dict PySem.F.slot_dict_clear PySem.F.type_dict_clear mt_cleardict (pv 5))) (pss_cons (ps_expr (pe_bm PySem.F.plainAttrs_list PySem.F.slot_list_append PySem.F.type_list_append mt_append (pe_ix (ix_tupK (K := K) rfl) (pv 4) pe_int (fun _ _ => rfl)) (pa_cons (pe_tup (pa_cons (pe_ix (ix_tupK (K := K) rfl) (pv 2) pe_int (fun _ _ => rfl)) (pa_cons (pe_lst pa_nil) pa_nil))) pa_nil))) (pss_cons (ps_expr (pe_bm0 PySem.F.plainAttrs_list PySem.F.slot_list_clear PySem.F.type_list_clear mt_clear (pe_ix (ix_tupK (K := K) rfl) (pv 4) pe_int (fun _ _ => rfl)))) (pss_cons (ps_if (pt_cmpR op_ne (pe_callB call_lenD (by rfl) T.n_len bt_len (pa_cons (pe_call (G_loaded T) (hr.mono (by decide)) rfl T.m_loaded T.k_loaded T.b_loaded .nil pass0E (pa_cons (pv 4) (pa_cons (pv 3) pa_nil))) pa_nil)) (pe_callB call_lenD (by rfl) T.n_len bt_len (pa_cons (pv 7) pa_nil)) (nomark _)) (pss_one (ps_ret pe_bl)) pss_nil) (pss_one (ps_ret (pe_cmpR (op_eqDictK hr.units (K := K) rfl) (pe_call (G_loaded T) (hr.mono (by decide)) rfl T.m_loaded T.k_loaded T.b_loaded .nil pass0E (pa_cons (pe_call (G__law_copy T) (hr.mono (by decide)) rfl T.m__law_copy T.k__law_copy T.b__law_copy .nil pass0 (pa_cons (pv 2) pa_nil)) (pa_cons (pv 3) pa_nil))) (pv 7) (nomark _))))))))) ?lk)))))) ?la))), ?main⟩
    case main =>
      walk_at "rd"
      refine ⟨ns, hS, hl, by decide, by decide, fun q rw W S H1 s1 hq hW hn => ⟨_, SqT.of hq, rfl, _, _, rfl, _, _, rfl, rfl, ns, s1.seq hS, by decide, fun m0 => ⟨⟨by decide, by decide⟩, ns, s1.seq hS, by decide, fun m2 => ⟨W, rfl, S, hW, fun b H2 s2 fb => ?_⟩⟩⟩⟩
      exact ⟨W, S, b, _, _, _, _, _, _, rfl, hW.mono s2, hn, fb, k⟩
    case la =>
      rintro D σ H ⟨W, S, b, b0, b1, b4, b5, b6, b7, rfl, hW, hn, fb, k⟩
      walk_at "rd"
      have fw : Few b := fb.few hW
      refine ⟨W, rfl, S, hW, fun W' S' H1 s1 hW1 c1 c2 c3 c4 c5 c6 c7 c8 c9 => ?_⟩
      have fb' : Fits W' b := fb.as c1 c2
      refine ⟨W', rfl, S', _, hW1, fw, fun _ d mem H2 s2 hd hdd L => ?_, fun n => absurd fb' n⟩
      have L' := L.core c4 c5
      refine ⟨W, rfl, S, hW.mono (s1.trans s2), mem, hdd, L', fun H3 s3 => ?_⟩
      have s13 : Same H1 H3 := s2.trans s3
      have s03 : Same H H3 := s1.trans s13
      refine ⟨W', rfl, _, _, s13 _ _ hW1.top, hW1.s1, fw, fun _ => ⟨_, SqT.of (s03 _ _ hW.top), _, rfl, _, rfl, ?_⟩, fun n => absurd fb' n⟩
      rw [if_neg (by simp [c3])]
      have ew : wholeD W' S' = wholeD W S := by unfold wholeD; rw [c1, c2, c3, c4, c5]
      refine ⟨wholeD W' S', wholeD W S, .inr ⟨(hW1.mono s13).rep, (hW.mono s03).rep⟩, dep_wholeD _ _, false, by rw [ew, deqL_refl]; rfl, ?_⟩
      rw [if_neg (by decide)]
      have nd : H d = none := by
        cases hh : H d with
        | none => rfl
        | some o => rw [s1 _ _ hh] at hd; cases hd
      exact ⟨H, W, W', S, S', b, d, mem, _, _, _, _, rfl, ⟨hW.mono s03, hW1.mono s13, c6.trans hn, c1, c2, c4, fb, s3 _ _ hdd, L', s03, hW, c7, c8, nd⟩, k⟩
    case lk =>
      rintro D σ H ⟨H0, W, W', S, S', b, d, mem, b0, b1, b6, b7, rfl, X, k⟩
      walk_at "rd"
      have fw : Few b := X.fb.few X.w
      have fb' : Fits W' b := X.fb.as X.st X.sz
      have B := X.w'.bok
      have hd := X.hd
      refine ⟨mem, hd, fun q hq => ?_⟩
      generalize e1 : upd H q (HO.dK mem) = H1
      have k1 : Same H H1 := by rw [← e1]; exact same_new hq
      have q1 : H1 q = some (.dK mem) := by rw [← e1]; exact upd_same
      have nqd : q ≠ d := Ne.symm (ne_of_none hd hq)
      refine ⟨.inr (.inr (.inl ⟨rfl, .inl ⟨_, k1 _ _ hd⟩⟩)), mem, k1 _ _ hd, ?_⟩
      generalize e2 : upd H1 d (HO.dK []) = H2
      have k2 : ∀ {y : Addr} {o : HO}, y ≠ d → H1 y = some o → H2 y = some o := fun {y o} n h => by rw [← e2, upd_ne n]; exact h
      have t2 : ∀ {y : Addr} {xs : List V}, H y = some (.tup xs) → H2 y = some (.tup xs) := fun {y xs} h => k2 (ne_of h hd (by intro z; cases z)) (k1 _ _ h)
      have l2 : ∀ {y : Addr} {xs : List V}, H y = some (.lst xs) → H2 y = some (.lst xs) := fun {y xs} h => k2 (ne_of h hd (by intro z; cases z)) (k1 _ _ h)
      have q2 : H2 q = some (.dK mem) := k2 nqd q1
      refine ⟨_, SqT.of (t2 X.w'.top), _, rfl, .inl ⟨rfl, _, SqL.of (l2 B.pm.top)⟩, _, SqT.of (t2 X.w.top), _, rfl, Nat.zero_le _, fun p hp => ⟨by rw [sizeLine_eq]; decide, fun p1 hp1 => ⟨S'.a, rfl, ?_⟩⟩⟩
      generalize e3 : upd H2 p (HO.lst []) = H3 at hp1 ⊢
      have k3 : Same H2 H3 := by rw [← e3]; exact same_new hp
      have p3 : H3 p = some (.lst []) := by rw [← e3]; exact upd_same
      generalize e4 : upd H3 p1 (HO.tup [V.int W.sz, V.ref p]) = H4
      have k4 : Same H3 H4 := by rw [← e4]; exact same_new hp1
      have p4 : H4 p1 = some (HO.tup [V.int W.sz, V.ref p]) := by rw [← e4]; exact upd_same
      have k24 : Same H2 H4 := k3.trans k4
      have n1 := B.n1
      have xn := X.n
      refine ⟨_, k24 _ _ (l2 B.pm.top), by rw [List.length_map, sizeLine_eq]; omega, ?_⟩
      have hA4 := k24 _ _ (l2 B.pm.top)
      have hB4 := k24 _ _ (l2 B.lm.top)
      generalize e5 : upd H4 S'.a (HO.lst ((S'.ps.map fun x => V.ref x.t) ++ [V.ref p1])) = H5
      have k5 : ∀ {y : Addr} {o : HO}, y ≠ S'.a → H4 y = some o → H5 y = some o := fun {y o} n h => by rw [← e5, upd_ne n]; exact h
      have a5 : H5 S'.a = some (HO.lst ((S'.ps.map fun x => V.ref x.t) ++ [V.ref p1])) := by rw [← e5]; exact upd_same
      have hB5 : H5 S'.b = some (.lst (S'.ls.map fun x => V.ref x.a)) := k5 B.ab.symm hB4
      have t5 : ∀ {y : Addr} {xs : List V}, H y = some (.tup xs) → H5 y = some (.tup xs) := fun {y xs} h => k5 (ne_of h B.pm.top (by intro z; cases z)) (k24 _ _ (t2 h))
      refine ⟨_, SqT.of (t5 X.w'.top), _, rfl, .inl ⟨rfl, _, SqL.of hB5⟩, S'.b, rfl, _, hB5, ?_⟩
      generalize e6 : upd H5 S'.b (HO.lst []) = H6
      have k6 : ∀ {y : Addr} {o : HO}, y ≠ S'.b → H5 y = some o → H6 y = some o := fun {y o} n h => by rw [← e6, upd_ne n]; exact h
      have b6' : H6 S'.b = some (.lst []) := by rw [← e6]; exact upd_same
      have k46 : ∀ {y : Addr} {o : HO}, y ≠ S'.a → y ≠ S'.b → H4 y = some o → H6 y = some o := fun {y o} n m h => k6 m (k5 n h)
      have npa : p ≠ S'.a := Ne.symm (ne_of_none (l2 B.pm.top) hp)
      have npb : p ≠ S'.b := Ne.symm (ne_of_none (l2 B.lm.top) hp)
      have np1a : p1 ≠ S'.a := Ne.symm (ne_of_none (k3 _ _ (l2 B.pm.top)) hp1)
      have np1b : p1 ≠ S'.b := Ne.symm (ne_of_none (k3 _ _ (l2 B.lm.top)) hp1)
      have fp : H p = none := by
        cases hh : H p with
        | none => rfl
        | some o =>
          by_cases z : p = d
          · rw [z, ← e2, upd_same] at hp; cases hp
          · rw [k2 z (k1 _ _ hh)] at hp; cases hp
      have W6 := WOk.more (H6 := H6) (p := p) (p1 := p1) X.w' xn
        (fun {y xs} h => k6 (ne_of h B.lm.top (by intro z; cases z)) (t5 h))
        (fun {y xs} n m h => k46 n m (k24 _ _ (l2 h)))
        (k6 B.ab a5) b6' (by rw [X.sz]; exact k46 np1a np1b p4) (k46 npa npb (k4 _ _ p3)) fp
      have q6 : H6 q = some (.dK mem) := k46 (Ne.symm (ne_of_none B.pm.top hq)) (Ne.symm (ne_of_none B.lm.top hq)) (k24 _ _ q2)
      have s06 : Same H0 H6 := fun y o h => k46 (ne_of_none h X.na) (ne_of_none h X.nb) (k24 _ _ (k2 (ne_of_none h X.nd) (k1 _ _ (X.sm _ _ h))))
      refine ⟨{ W' with n := 500 }, rfl, _, _, W6, fw, fun _ d2 m2 H7 s7 hd2 hdd2 L2 => ⟨m2, hdd2, mem, s7 _ _ q6, ?_⟩, fun n => absurd fb' n⟩
      have el : m2.length = mem.length := by
        rw [L2.len, X.l.len, totW_app, totW_core X.ps]
        rfl
      rw [if_neg (by simp [el])]
      refine ⟨W, rfl, S, X.w0.mono (s06.trans s7), fun W3 S3 H8 s8 hW3 c1 c2 c3 c4 c5 c6 c7 c8 c9 => ⟨W3, rfl, S3, _, hW3, fw, fun _ d3 m3 H9 s9 hd3 hdd3 L3 => ?_, fun n => absurd (X.fb.as c1 c2) n⟩⟩
      have em : mem = m3 := by rw [X.l.fn, L3.fn, c4, c5]
      refine ⟨m3, hdd3, by rw [← em]; exact s9 _ _ (s8 _ _ (s7 _ _ q6)), fun kv hkv => ?_, k _⟩
      obtain ⟨n, en⟩ := L3.ints kv hkv
      exact ⟨.int n, by rw [en]; simp only [Rep], Nat.zero_le _⟩
end
@[elab_as_elim] theorem len1 {α : Type} {p : List α → Prop} (us : List α) (h : us.length = 1) (f : ∀ a, p [a]) : p us := by
  match us, h with | [a], _ => exact f a
@[elab_as_elim] theorem len2 {α : Type} {p : List α → Prop} (us : List α) (h : us.length = 2) (f : ∀ a b, p [a, b]) : p us := by
  match us, h with | [a, b], _ => exact f a b
@[elab_as_elim] theorem len3 {α : Type} {p : List α → Prop} (us : List α) (h : us.length = 3) (f : ∀ a b c, p [a, b, c]) : p us := by
  match us, h with | [a, b, c], _ => exact f a b c
@[elab_as_elim] theorem len4 {α : Type} {p : List α → Prop} (us : List α) (h : us.length = 4) (f : ∀ a b c d, p [a, b, c, d]) : p us := by
  match us, h with | [a, b, c, d], _ => exact f a b c d
theorem all_mk {l : PySem.W.OpenLaw} {w : World} {K : PySem.W.Frag} {h : Heap} {mg : Str → Option Value} {fa f_NoBase___init__ f_wrapped f_with_field f_ones f_moved f_rule_of f_Rule___init__ f_Whole_filled f_High_filled f_Low_filled f_loaded f_start_of f_refuse_no_base f__law_whole f__law_cell_at f__law_target_by f__law_put f__law_end f__law_built f__law_base_by f__law_copy f__law_filled_so f__law_due_words f__law_loaded_so f_law C_High C_JoinError C_Low C_NoBase C_Whole : Addr} {t_WORD_COUNT : Tok} (X : K.In h) (G : h.Ns mainGlobals mg) (hfa : mg "law" = some (.ref fa))
    {od_NoBase___init__ an_NoBase___init__ : Option Addr} {sl_NoBase___init__ : Array (Option Value)} {oc_NoBase___init__ kV_NoBase___init__ dc_NoBase___init__ pm_NoBase___init__ cd_NoBase___init__ ct_NoBase___init__ : Value}
    {od_wrapped an_wrapped : Option Addr} {sl_wrapped : Array (Option Value)} {oc_wrapped kV_wrapped dc_wrapped pm_wrapped cd_wrapped ct_wrapped : Value}
    {od_with_field an_with_field : Option Addr} {sl_with_field : Array (Option Value)} {oc_with_field kV_with_field dc_with_field pm_with_field cd_with_field ct_with_field : Value}
    {od_ones an_ones : Option Addr} {sl_ones : Array (Option Value)} {oc_ones kV_ones dc_ones pm_ones cd_ones ct_ones : Value}
    {od_moved an_moved : Option Addr} {sl_moved : Array (Option Value)} {oc_moved kV_moved dc_moved pm_moved cd_moved ct_moved : Value}
    {od_rule_of an_rule_of : Option Addr} {sl_rule_of : Array (Option Value)} {oc_rule_of kV_rule_of dc_rule_of pm_rule_of cd_rule_of ct_rule_of : Value}
    {od_Rule___init__ an_Rule___init__ : Option Addr} {sl_Rule___init__ : Array (Option Value)} {oc_Rule___init__ kV_Rule___init__ dc_Rule___init__ pm_Rule___init__ cd_Rule___init__ ct_Rule___init__ : Value}
    {od_Whole_filled an_Whole_filled : Option Addr} {sl_Whole_filled : Array (Option Value)} {oc_Whole_filled kV_Whole_filled dc_Whole_filled pm_Whole_filled cd_Whole_filled ct_Whole_filled : Value}
    {od_High_filled an_High_filled : Option Addr} {sl_High_filled : Array (Option Value)} {oc_High_filled kV_High_filled dc_High_filled pm_High_filled cd_High_filled ct_High_filled : Value}
    {od_Low_filled an_Low_filled : Option Addr} {sl_Low_filled : Array (Option Value)} {oc_Low_filled kV_Low_filled dc_Low_filled pm_Low_filled cd_Low_filled ct_Low_filled : Value}
    {od_loaded an_loaded : Option Addr} {sl_loaded : Array (Option Value)} {oc_loaded kV_loaded dc_loaded pm_loaded cd_loaded ct_loaded : Value}
    {od_start_of an_start_of : Option Addr} {sl_start_of : Array (Option Value)} {oc_start_of kV_start_of dc_start_of pm_start_of cd_start_of ct_start_of : Value}
    {od_refuse_no_base an_refuse_no_base : Option Addr} {sl_refuse_no_base : Array (Option Value)} {oc_refuse_no_base kV_refuse_no_base dc_refuse_no_base pm_refuse_no_base cd_refuse_no_base ct_refuse_no_base : Value}
    {od__law_whole an__law_whole : Option Addr} {sl__law_whole : Array (Option Value)} {oc__law_whole kV__law_whole dc__law_whole pm__law_whole cd__law_whole ct__law_whole : Value}
    {od__law_cell_at an__law_cell_at : Option Addr} {sl__law_cell_at : Array (Option Value)} {oc__law_cell_at kV__law_cell_at dc__law_cell_at pm__law_cell_at cd__law_cell_at ct__law_cell_at : Value}
    {od__law_target_by an__law_target_by : Option Addr} {sl__law_target_by : Array (Option Value)} {oc__law_target_by kV__law_target_by dc__law_target_by pm__law_target_by cd__law_target_by ct__law_target_by : Value}
    {od__law_put an__law_put : Option Addr} {sl__law_put : Array (Option Value)} {oc__law_put kV__law_put dc__law_put pm__law_put cd__law_put ct__law_put : Value}
    {od__law_end an__law_end : Option Addr} {sl__law_end : Array (Option Value)} {oc__law_end kV__law_end dc__law_end pm__law_end cd__law_end ct__law_end : Value}
    {od__law_built an__law_built : Option Addr} {sl__law_built : Array (Option Value)} {oc__law_built kV__law_built dc__law_built pm__law_built cd__law_built ct__law_built : Value}
    {od__law_base_by an__law_base_by : Option Addr} {sl__law_base_by : Array (Option Value)} {oc__law_base_by kV__law_base_by dc__law_base_by pm__law_base_by cd__law_base_by ct__law_base_by : Value}
    {od__law_copy an__law_copy : Option Addr} {sl__law_copy : Array (Option Value)} {oc__law_copy kV__law_copy dc__law_copy pm__law_copy cd__law_copy ct__law_copy : Value}
    {od__law_filled_so an__law_filled_so : Option Addr} {sl__law_filled_so : Array (Option Value)} {oc__law_filled_so kV__law_filled_so dc__law_filled_so pm__law_filled_so cd__law_filled_so ct__law_filled_so : Value}
    {od__law_due_words an__law_due_words : Option Addr} {sl__law_due_words : Array (Option Value)} {oc__law_due_words kV__law_due_words dc__law_due_words pm__law_due_words cd__law_due_words ct__law_due_words : Value}
    {od__law_loaded_so an__law_loaded_so : Option Addr} {sl__law_loaded_so : Array (Option Value)} {oc__law_loaded_so kV__law_loaded_so dc__law_loaded_so pm__law_loaded_so cd__law_loaded_so ct__law_loaded_so : Value}
    {od_law an_law : Option Addr} {sl_law : Array (Option Value)} {oc_law kV_law dc_law pm_law cd_law ct_law : Value}
    (ac_High : PySem.W.nsIn K mainGlobals "High" = some (some (.ref C_High)))
    (ac_JoinError : PySem.W.nsIn K mainGlobals "JoinError" = some (some (.ref C_JoinError)))
    (ac_Low : PySem.W.nsIn K mainGlobals "Low" = some (some (.ref C_Low)))
    (ac_NoBase : PySem.W.nsIn K mainGlobals "NoBase" = some (some (.ref C_NoBase)))
    (ac_Whole : PySem.W.nsIn K mainGlobals "Whole" = some (some (.ref C_Whole)))
    (a_NoBase___init__ : PySem.W.findIn K (.ref C_NoBase) "__init__" = some (some (.ref f_NoBase___init__)))
    (i_NoBase___init__ : PySem.W.isFn K (.ref f_NoBase___init__) = true)
    (l_NoBase___init__ : K.lookup f_NoBase___init__ = some ⟨oc_NoBase___init__, od_NoBase___init__, .func (PySem.W.fnOf "__init__" "NoBase.__init__" (defArgs s_NoBase___init__) (defBody s_NoBase___init__) (defScope s_NoBase___init__) .none kV_NoBase___init__ dc_NoBase___init__ pm_NoBase___init__ an_NoBase___init__ cd_NoBase___init__ ct_NoBase___init__), sl_NoBase___init__⟩)
    (e_NoBase___init__ : PySem.W.codeIn K cd_NoBase___init__ "NoBase.__init__" = true)
    (k_NoBase___init__ : PySem.W.keepIn K (.ref f_NoBase___init__) = true)
    (a_wrapped : PySem.W.nsIn K mainGlobals "wrapped" = some (some (.ref f_wrapped)))
    (l_wrapped : K.lookup f_wrapped = some ⟨oc_wrapped, od_wrapped, .func (PySem.W.fnOf "wrapped" "wrapped" (defArgs s_wrapped) (defBody s_wrapped) (defScope s_wrapped) .none kV_wrapped dc_wrapped pm_wrapped an_wrapped cd_wrapped ct_wrapped), sl_wrapped⟩)
    (e_wrapped : PySem.W.codeIn K cd_wrapped "wrapped" = true)
    (k_wrapped : PySem.W.keepIn K (.ref f_wrapped) = true)
    (a_with_field : PySem.W.nsIn K mainGlobals "with_field" = some (some (.ref f_with_field)))
    (l_with_field : K.lookup f_with_field = some ⟨oc_with_field, od_with_field, .func (PySem.W.fnOf "with_field" "with_field" (defArgs s_with_field) (defBody s_with_field) (defScope s_with_field) .none kV_with_field dc_with_field pm_with_field an_with_field cd_with_field ct_with_field), sl_with_field⟩)
    (e_with_field : PySem.W.codeIn K cd_with_field "with_field" = true)
    (k_with_field : PySem.W.keepIn K (.ref f_with_field) = true)
    (a_ones : PySem.W.nsIn K mainGlobals "ones" = some (some (.ref f_ones)))
    (l_ones : K.lookup f_ones = some ⟨oc_ones, od_ones, .func (PySem.W.fnOf "ones" "ones" (defArgs s_ones) (defBody s_ones) (defScope s_ones) .none kV_ones dc_ones pm_ones an_ones cd_ones ct_ones), sl_ones⟩)
    (e_ones : PySem.W.codeIn K cd_ones "ones" = true)
    (k_ones : PySem.W.keepIn K (.ref f_ones) = true)
    (a_moved : PySem.W.nsIn K mainGlobals "moved" = some (some (.ref f_moved)))
    (l_moved : K.lookup f_moved = some ⟨oc_moved, od_moved, .func (PySem.W.fnOf "moved" "moved" (defArgs s_moved) (defBody s_moved) (defScope s_moved) .none kV_moved dc_moved pm_moved an_moved cd_moved ct_moved), sl_moved⟩)
    (e_moved : PySem.W.codeIn K cd_moved "moved" = true)
    (k_moved : PySem.W.keepIn K (.ref f_moved) = true)
    (a_rule_of : PySem.W.nsIn K mainGlobals "rule_of" = some (some (.ref f_rule_of)))
    (l_rule_of : K.lookup f_rule_of = some ⟨oc_rule_of, od_rule_of, .func (PySem.W.fnOf "rule_of" "rule_of" (defArgs s_rule_of) (defBody s_rule_of) (defScope s_rule_of) .none kV_rule_of dc_rule_of pm_rule_of an_rule_of cd_rule_of ct_rule_of), sl_rule_of⟩)
    (e_rule_of : PySem.W.codeIn K cd_rule_of "rule_of" = true)
    (k_rule_of : PySem.W.keepIn K (.ref f_rule_of) = true)
    (a_Rule___init__ : PySem.W.findIn K (.ref C_High) "__init__" = some (some (.ref f_Rule___init__)))
    (i_Rule___init__ : PySem.W.isFn K (.ref f_Rule___init__) = true)
    (l_Rule___init__ : K.lookup f_Rule___init__ = some ⟨oc_Rule___init__, od_Rule___init__, .func (PySem.W.fnOf "__init__" "Rule.__init__" (defArgs s_Rule___init__) (defBody s_Rule___init__) (defScope s_Rule___init__) .none kV_Rule___init__ dc_Rule___init__ pm_Rule___init__ an_Rule___init__ cd_Rule___init__ ct_Rule___init__), sl_Rule___init__⟩)
    (e_Rule___init__ : PySem.W.codeIn K cd_Rule___init__ "Rule.__init__" = true)
    (k_Rule___init__ : PySem.W.keepIn K (.ref f_Rule___init__) = true)
    (a_Whole_filled : PySem.W.findIn K (.ref C_Whole) "filled" = some (some (.ref f_Whole_filled)))
    (i_Whole_filled : PySem.W.isFn K (.ref f_Whole_filled) = true)
    (l_Whole_filled : K.lookup f_Whole_filled = some ⟨oc_Whole_filled, od_Whole_filled, .func (PySem.W.fnOf "filled" "Whole.filled" (defArgs s_Whole_filled) (defBody s_Whole_filled) (defScope s_Whole_filled) .none kV_Whole_filled dc_Whole_filled pm_Whole_filled an_Whole_filled cd_Whole_filled ct_Whole_filled), sl_Whole_filled⟩)
    (e_Whole_filled : PySem.W.codeIn K cd_Whole_filled "Whole.filled" = true)
    (k_Whole_filled : PySem.W.keepIn K (.ref f_Whole_filled) = true)
    (a_High_filled : PySem.W.findIn K (.ref C_High) "filled" = some (some (.ref f_High_filled)))
    (i_High_filled : PySem.W.isFn K (.ref f_High_filled) = true)
    (l_High_filled : K.lookup f_High_filled = some ⟨oc_High_filled, od_High_filled, .func (PySem.W.fnOf "filled" "High.filled" (defArgs s_High_filled) (defBody s_High_filled) (defScope s_High_filled) .none kV_High_filled dc_High_filled pm_High_filled an_High_filled cd_High_filled ct_High_filled), sl_High_filled⟩)
    (e_High_filled : PySem.W.codeIn K cd_High_filled "High.filled" = true)
    (k_High_filled : PySem.W.keepIn K (.ref f_High_filled) = true)
    (a_Low_filled : PySem.W.findIn K (.ref C_Low) "filled" = some (some (.ref f_Low_filled)))
    (i_Low_filled : PySem.W.isFn K (.ref f_Low_filled) = true)
    (l_Low_filled : K.lookup f_Low_filled = some ⟨oc_Low_filled, od_Low_filled, .func (PySem.W.fnOf "filled" "Low.filled" (defArgs s_Low_filled) (defBody s_Low_filled) (defScope s_Low_filled) .none kV_Low_filled dc_Low_filled pm_Low_filled an_Low_filled cd_Low_filled ct_Low_filled), sl_Low_filled⟩)
    (e_Low_filled : PySem.W.codeIn K cd_Low_filled "Low.filled" = true)
    (k_Low_filled : PySem.W.keepIn K (.ref f_Low_filled) = true)
    (a_loaded : PySem.W.nsIn K mainGlobals "loaded" = some (some (.ref f_loaded)))
    (l_loaded : K.lookup f_loaded = some ⟨oc_loaded, od_loaded, .func (PySem.W.fnOf "loaded" "loaded" (defArgs s_loaded) (defBody s_loaded) (defScope s_loaded) .none kV_loaded dc_loaded pm_loaded an_loaded cd_loaded ct_loaded), sl_loaded⟩)
    (e_loaded : PySem.W.codeIn K cd_loaded "loaded" = true)
    (k_loaded : PySem.W.keepIn K (.ref f_loaded) = true)
    (a_start_of : PySem.W.nsIn K mainGlobals "start_of" = some (some (.ref f_start_of)))
    (l_start_of : K.lookup f_start_of = some ⟨oc_start_of, od_start_of, .func (PySem.W.fnOf "start_of" "start_of" (defArgs s_start_of) (defBody s_start_of) (defScope s_start_of) .none kV_start_of dc_start_of pm_start_of an_start_of cd_start_of ct_start_of), sl_start_of⟩)
    (e_start_of : PySem.W.codeIn K cd_start_of "start_of" = true)
    (k_start_of : PySem.W.keepIn K (.ref f_start_of) = true)
    (a_refuse_no_base : PySem.W.nsIn K mainGlobals "refuse_no_base" = some (some (.ref f_refuse_no_base)))
    (l_refuse_no_base : K.lookup f_refuse_no_base = some ⟨oc_refuse_no_base, od_refuse_no_base, .func (PySem.W.fnOf "refuse_no_base" "refuse_no_base" (defArgs s_refuse_no_base) (defBody s_refuse_no_base) (defScope s_refuse_no_base) .none kV_refuse_no_base dc_refuse_no_base pm_refuse_no_base an_refuse_no_base cd_refuse_no_base ct_refuse_no_base), sl_refuse_no_base⟩)
    (e_refuse_no_base : PySem.W.codeIn K cd_refuse_no_base "refuse_no_base" = true)
    (k_refuse_no_base : PySem.W.keepIn K (.ref f_refuse_no_base) = true)
    (a__law_whole : PySem.W.nsIn K mainGlobals "_law_whole" = some (some (.ref f__law_whole)))
    (l__law_whole : K.lookup f__law_whole = some ⟨oc__law_whole, od__law_whole, .func (PySem.W.fnOf "_law_whole" "_law_whole" (defArgs s__law_whole) (defBody s__law_whole) (defScope s__law_whole) .none kV__law_whole dc__law_whole pm__law_whole an__law_whole cd__law_whole ct__law_whole), sl__law_whole⟩)
    (e__law_whole : PySem.W.codeIn K cd__law_whole "_law_whole" = true)
    (k__law_whole : PySem.W.keepIn K (.ref f__law_whole) = true)
    (a__law_cell_at : PySem.W.nsIn K mainGlobals "_law_cell_at" = some (some (.ref f__law_cell_at)))
    (l__law_cell_at : K.lookup f__law_cell_at = some ⟨oc__law_cell_at, od__law_cell_at, .func (PySem.W.fnOf "_law_cell_at" "_law_cell_at" (defArgs s__law_cell_at) (defBody s__law_cell_at) (defScope s__law_cell_at) .none kV__law_cell_at dc__law_cell_at pm__law_cell_at an__law_cell_at cd__law_cell_at ct__law_cell_at), sl__law_cell_at⟩)
    (e__law_cell_at : PySem.W.codeIn K cd__law_cell_at "_law_cell_at" = true)
    (k__law_cell_at : PySem.W.keepIn K (.ref f__law_cell_at) = true)
    (a__law_target_by : PySem.W.nsIn K mainGlobals "_law_target_by" = some (some (.ref f__law_target_by)))
    (l__law_target_by : K.lookup f__law_target_by = some ⟨oc__law_target_by, od__law_target_by, .func (PySem.W.fnOf "_law_target_by" "_law_target_by" (defArgs s__law_target_by) (defBody s__law_target_by) (defScope s__law_target_by) .none kV__law_target_by dc__law_target_by pm__law_target_by an__law_target_by cd__law_target_by ct__law_target_by), sl__law_target_by⟩)
    (e__law_target_by : PySem.W.codeIn K cd__law_target_by "_law_target_by" = true)
    (k__law_target_by : PySem.W.keepIn K (.ref f__law_target_by) = true)
    (a__law_put : PySem.W.nsIn K mainGlobals "_law_put" = some (some (.ref f__law_put)))
    (l__law_put : K.lookup f__law_put = some ⟨oc__law_put, od__law_put, .func (PySem.W.fnOf "_law_put" "_law_put" (defArgs s__law_put) (defBody s__law_put) (defScope s__law_put) .none kV__law_put dc__law_put pm__law_put an__law_put cd__law_put ct__law_put), sl__law_put⟩)
    (e__law_put : PySem.W.codeIn K cd__law_put "_law_put" = true)
    (k__law_put : PySem.W.keepIn K (.ref f__law_put) = true)
    (a__law_end : PySem.W.nsIn K mainGlobals "_law_end" = some (some (.ref f__law_end)))
    (l__law_end : K.lookup f__law_end = some ⟨oc__law_end, od__law_end, .func (PySem.W.fnOf "_law_end" "_law_end" (defArgs s__law_end) (defBody s__law_end) (defScope s__law_end) .none kV__law_end dc__law_end pm__law_end an__law_end cd__law_end ct__law_end), sl__law_end⟩)
    (e__law_end : PySem.W.codeIn K cd__law_end "_law_end" = true)
    (k__law_end : PySem.W.keepIn K (.ref f__law_end) = true)
    (a__law_built : PySem.W.nsIn K mainGlobals "_law_built" = some (some (.ref f__law_built)))
    (l__law_built : K.lookup f__law_built = some ⟨oc__law_built, od__law_built, .func (PySem.W.fnOf "_law_built" "_law_built" (defArgs s__law_built) (defBody s__law_built) (defScope s__law_built) .none kV__law_built dc__law_built pm__law_built an__law_built cd__law_built ct__law_built), sl__law_built⟩)
    (e__law_built : PySem.W.codeIn K cd__law_built "_law_built" = true)
    (k__law_built : PySem.W.keepIn K (.ref f__law_built) = true)
    (a__law_base_by : PySem.W.nsIn K mainGlobals "_law_base_by" = some (some (.ref f__law_base_by)))
    (l__law_base_by : K.lookup f__law_base_by = some ⟨oc__law_base_by, od__law_base_by, .func (PySem.W.fnOf "_law_base_by" "_law_base_by" (defArgs s__law_base_by) (defBody s__law_base_by) (defScope s__law_base_by) .none kV__law_base_by dc__law_base_by pm__law_base_by an__law_base_by cd__law_base_by ct__law_base_by), sl__law_base_by⟩)
    (e__law_base_by : PySem.W.codeIn K cd__law_base_by "_law_base_by" = true)
    (k__law_base_by : PySem.W.keepIn K (.ref f__law_base_by) = true)
    (a__law_copy : PySem.W.nsIn K mainGlobals "_law_copy" = some (some (.ref f__law_copy)))
    (l__law_copy : K.lookup f__law_copy = some ⟨oc__law_copy, od__law_copy, .func (PySem.W.fnOf "_law_copy" "_law_copy" (defArgs s__law_copy) (defBody s__law_copy) (defScope s__law_copy) .none kV__law_copy dc__law_copy pm__law_copy an__law_copy cd__law_copy ct__law_copy), sl__law_copy⟩)
    (e__law_copy : PySem.W.codeIn K cd__law_copy "_law_copy" = true)
    (k__law_copy : PySem.W.keepIn K (.ref f__law_copy) = true)
    (a__law_filled_so : PySem.W.nsIn K mainGlobals "_law_filled_so" = some (some (.ref f__law_filled_so)))
    (l__law_filled_so : K.lookup f__law_filled_so = some ⟨oc__law_filled_so, od__law_filled_so, .func (PySem.W.fnOf "_law_filled_so" "_law_filled_so" (defArgs s__law_filled_so) (defBody s__law_filled_so) (defScope s__law_filled_so) .none kV__law_filled_so dc__law_filled_so pm__law_filled_so an__law_filled_so cd__law_filled_so ct__law_filled_so), sl__law_filled_so⟩)
    (e__law_filled_so : PySem.W.codeIn K cd__law_filled_so "_law_filled_so" = true)
    (k__law_filled_so : PySem.W.keepIn K (.ref f__law_filled_so) = true)
    (a__law_due_words : PySem.W.nsIn K mainGlobals "_law_due_words" = some (some (.ref f__law_due_words)))
    (l__law_due_words : K.lookup f__law_due_words = some ⟨oc__law_due_words, od__law_due_words, .func (PySem.W.fnOf "_law_due_words" "_law_due_words" (defArgs s__law_due_words) (defBody s__law_due_words) (defScope s__law_due_words) .none kV__law_due_words dc__law_due_words pm__law_due_words an__law_due_words cd__law_due_words ct__law_due_words), sl__law_due_words⟩)
    (e__law_due_words : PySem.W.codeIn K cd__law_due_words "_law_due_words" = true)
    (k__law_due_words : PySem.W.keepIn K (.ref f__law_due_words) = true)
    (a__law_loaded_so : PySem.W.nsIn K mainGlobals "_law_loaded_so" = some (some (.ref f__law_loaded_so)))
    (l__law_loaded_so : K.lookup f__law_loaded_so = some ⟨oc__law_loaded_so, od__law_loaded_so, .func (PySem.W.fnOf "_law_loaded_so" "_law_loaded_so" (defArgs s__law_loaded_so) (defBody s__law_loaded_so) (defScope s__law_loaded_so) .none kV__law_loaded_so dc__law_loaded_so pm__law_loaded_so an__law_loaded_so cd__law_loaded_so ct__law_loaded_so), sl__law_loaded_so⟩)
    (e__law_loaded_so : PySem.W.codeIn K cd__law_loaded_so "_law_loaded_so" = true)
    (k__law_loaded_so : PySem.W.keepIn K (.ref f__law_loaded_so) = true)
    (a_law : PySem.W.nsIn K mainGlobals "law" = some (some (.ref f_law)))
    (l_law : K.lookup f_law = some ⟨oc_law, od_law, .func (PySem.W.fnOf "law" "law" (defArgs s_law) (defBody s_law) (defScope s_law) .none kV_law dc_law pm_law an_law cd_law ct_law), sl_law⟩)
    (e_law : PySem.W.codeIn K cd_law "law" = true)
    (k_law : PySem.W.keepIn K (.ref f_law) = true)
    (fi_Low : PySem.W.findIn K (.ref C_Low) "__init__" = some (some (.ref f_Rule___init__)))
    (fi_Whole : PySem.W.findIn K (.ref C_Whole) "__init__" = some (some (.ref f_Rule___init__)))
    (pg_High : PySem.W.plainGet K C_High Str.empty = true)
    (hd_High : PySem.W.hasDictIn K C_High = true)
    (po_High : PySem.W.plainOver K C_High = true)
    (sa_High : PySem.W.findIn K (.ref C_High) "__setattr__" = some (some (.builtin "object.__setattr__")))
    (mm_High : PySem.W.makesIn K C_High = true)
    (kc_High : PySem.W.keepIn K (.ref C_High) = true)
    (pg_Low : PySem.W.plainGet K C_Low Str.empty = true)
    (hd_Low : PySem.W.hasDictIn K C_Low = true)
    (po_Low : PySem.W.plainOver K C_Low = true)
    (sa_Low : PySem.W.findIn K (.ref C_Low) "__setattr__" = some (some (.builtin "object.__setattr__")))
    (mm_Low : PySem.W.makesIn K C_Low = true)
    (kc_Low : PySem.W.keepIn K (.ref C_Low) = true)
    (pg_Whole : PySem.W.plainGet K C_Whole Str.empty = true)
    (hd_Whole : PySem.W.hasDictIn K C_Whole = true)
    (po_Whole : PySem.W.plainOver K C_Whole = true)
    (sa_Whole : PySem.W.findIn K (.ref C_Whole) "__setattr__" = some (some (.builtin "object.__setattr__")))
    (mm_Whole : PySem.W.makesIn K C_Whole = true)
    (kc_Whole : PySem.W.keepIn K (.ref C_Whole) = true)
    (sp_cl : PySem.W.specialIn K (.builtin "object.__class__") "__get__" = some (some (.builtin "getset_descriptor.__get__")))
    (tk_cl : PySem.W.takesIn K (.builtin "object.__class__") = some true)
    (ei_NoBase : ownInit K C_NoBase f_NoBase___init__ = true)
    (ee_NoBase : errIn K C_NoBase = true)
    (es_NoBase : PySem.W.findIn K (.ref C_NoBase) "__setattr__" = some (some (.builtin "object.__setattr__")))
    (br_JoinError : PySem.W.readsIn K C_JoinError (.type "type") = true)
    (bf_JoinError : PySem.W.findCls K (.ref C_JoinError) (.type "type") "__init__" = some (.val (.builtin "ValueError.__init__")))
    (bg_JoinError : PySem.W.specialIn K (.ref C_JoinError) "__getattribute__" = some (some (.builtin "type.__getattribute__")))
    (no_NoBase_base : PySem.W.findIn K (.ref C_NoBase) "base" = some none)
    (no_Whole_title : PySem.W.findIn K (.ref C_Whole) "title" = some none)
    (no_High_title : PySem.W.findIn K (.ref C_High) "title" = some none)
    (no_Low_title : PySem.W.findIn K (.ref C_Low) "title" = some none)
    (g_WORD_COUNT : PySem.W.nsIn K mainGlobals "WORD_COUNT" = some (some (.int 4294967296 t_WORD_COUNT)))
    (n_bool : PySem.W.nsIn K mainGlobals "bool" = some none)
    (n_dict : PySem.W.nsIn K mainGlobals "dict" = some none)
    (n_enumerate : PySem.W.nsIn K mainGlobals "enumerate" = some none)
    (n_int : PySem.W.nsIn K mainGlobals "int" = some none)
    (n_isinstance : PySem.W.nsIn K mainGlobals "isinstance" = some none)
    (n_len : PySem.W.nsIn K mainGlobals "len" = some none)
    (n_list : PySem.W.nsIn K mainGlobals "list" = some none)
    (n_max : PySem.W.nsIn K mainGlobals "max" = some none)
    (n_range : PySem.W.nsIn K mainGlobals "range" = some none)
    (n_str : PySem.W.nsIn K mainGlobals "str" = some none) :
    ∃ fd : FuncData, (∀ (s : Shared) (v : Value), BindsTo s fd ⟨[v], []⟩ [("_law_script", v)]) ∧ ∀ base : Heap, K.In base → base.Ns mainGlobals mg → FnOk l.prog w K mg base CX0 13 fa fd ["_law_script"] (sp_law K) := by
  have e := hfa.symm.trans (PySem.W.mg_of X G a_law)
  cases e
  have F_NoBase___init__ := fun_mk (st := s_NoBase___init__) l_NoBase___init__ e_NoBase___init__ k_NoBase___init__
  have b_NoBase___init__ := F_NoBase___init__.binds (ps := ["self", "base"]) fun _ _ _ _ _ _ us hl => len2 us hl fun _ _ => rfl
  have F_wrapped := fun_mk (st := s_wrapped) l_wrapped e_wrapped k_wrapped
  have b_wrapped := F_wrapped.binds (ps := ["number"]) fun _ _ _ _ _ _ us hl => len1 us hl fun _ => rfl
  have F_with_field := fun_mk (st := s_with_field) l_with_field e_with_field k_with_field
  have b_with_field := F_with_field.binds (ps := ["word", "low", "many", "number"]) fun _ _ _ _ _ _ us hl => len4 us hl fun _ _ _ _ => rfl
  have F_ones := fun_mk (st := s_ones) l_ones e_ones k_ones
  have b_ones := F_ones.binds (ps := ["many"]) fun _ _ _ _ _ _ us hl => len1 us hl fun _ => rfl
  have F_moved := fun_mk (st := s_moved) l_moved e_moved k_moved
  have b_moved := F_moved.binds (ps := ["number", "up"]) fun _ _ _ _ _ _ us hl => len2 us hl fun _ _ => rfl
  have F_rule_of := fun_mk (st := s_rule_of) l_rule_of e_rule_of k_rule_of
  have b_rule_of := F_rule_of.binds (ps := ["title"]) fun _ _ _ _ _ _ us hl => len1 us hl fun _ => rfl
  have F_Rule___init__ := fun_mk (st := s_Rule___init__) l_Rule___init__ e_Rule___init__ k_Rule___init__
  have b_Rule___init__ := F_Rule___init__.binds (ps := ["self", "title"]) fun _ _ _ _ _ _ us hl => len2 us hl fun _ _ => rfl
  have F_Whole_filled := fun_mk (st := s_Whole_filled) l_Whole_filled e_Whole_filled k_Whole_filled
  have b_Whole_filled := F_Whole_filled.binds (ps := ["self", "word", "here", "there"]) fun _ _ _ _ _ _ us hl => len4 us hl fun _ _ _ _ => rfl
  have F_High_filled := fun_mk (st := s_High_filled) l_High_filled e_High_filled k_High_filled
  have b_High_filled := F_High_filled.binds (ps := ["self", "word", "here", "there"]) fun _ _ _ _ _ _ us hl => len4 us hl fun _ _ _ _ => rfl
  have F_Low_filled := fun_mk (st := s_Low_filled) l_Low_filled e_Low_filled k_Low_filled
  have b_Low_filled := F_Low_filled.binds (ps := ["self", "word", "here", "there"]) fun _ _ _ _ _ _ us hl => len4 us hl fun _ _ _ _ => rfl
  have F_loaded := fun_mk (st := s_loaded) l_loaded e_loaded k_loaded
  have b_loaded := F_loaded.binds (ps := ["whole", "base"]) fun _ _ _ _ _ _ us hl => len2 us hl fun _ _ => rfl
  have F_start_of := fun_mk (st := s_start_of) l_start_of e_start_of k_start_of
  have b_start_of := F_start_of.binds (ps := ["whole", "base"]) fun _ _ _ _ _ _ us hl => len2 us hl fun _ _ => rfl
  have F_refuse_no_base := fun_mk (st := s_refuse_no_base) l_refuse_no_base e_refuse_no_base k_refuse_no_base
  have b_refuse_no_base := F_refuse_no_base.binds (ps := ["whole", "base"]) fun _ _ _ _ _ _ us hl => len2 us hl fun _ _ => rfl
  have F__law_whole := fun_mk (st := s__law_whole) l__law_whole e__law_whole k__law_whole
  have b__law_whole := F__law_whole.binds (ps := ["_law_found"]) fun _ _ _ _ _ _ us hl => len1 us hl fun _ => rfl
  have F__law_cell_at := fun_mk (st := s__law_cell_at) l__law_cell_at e__law_cell_at k__law_cell_at
  have b__law_cell_at := F__law_cell_at.binds (ps := ["_law_script", "_law_k"]) fun _ _ _ _ _ _ us hl => len2 us hl fun _ _ => rfl
  have F__law_target_by := fun_mk (st := s__law_target_by) l__law_target_by e__law_target_by k__law_target_by
  have b__law_target_by := F__law_target_by.binds (ps := ["_law_number"]) fun _ _ _ _ _ _ us hl => len1 us hl fun _ => rfl
  have F__law_put := fun_mk (st := s__law_put) l__law_put e__law_put k__law_put
  have b__law_put := F__law_put.binds (ps := ["_law_cell", "_law_parts", "_law_leans", "_law_end_here"]) fun _ _ _ _ _ _ us hl => len4 us hl fun _ _ _ _ => rfl
  have F__law_end := fun_mk (st := s__law_end) l__law_end e__law_end k__law_end
  have b__law_end := F__law_end.binds (ps := ["_law_parts"]) fun _ _ _ _ _ _ us hl => len1 us hl fun _ => rfl
  have F__law_built := fun_mk (st := s__law_built) l__law_built e__law_built k__law_built
  have b__law_built := F__law_built.binds (ps := ["_law_script", "_law_most"]) fun _ _ _ _ _ _ us hl => len2 us hl fun _ _ => rfl
  have F__law_base_by := fun_mk (st := s__law_base_by) l__law_base_by e__law_base_by k__law_base_by
  have b__law_base_by := F__law_base_by.binds (ps := ["_law_whole_here", "_law_cell"]) fun _ _ _ _ _ _ us hl => len2 us hl fun _ _ => rfl
  have F__law_copy := fun_mk (st := s__law_copy) l__law_copy e__law_copy k__law_copy
  have b__law_copy := F__law_copy.binds (ps := ["_law_whole_here"]) fun _ _ _ _ _ _ us hl => len1 us hl fun _ => rfl
  have F__law_filled_so := fun_mk (st := s__law_filled_so) l__law_filled_so e__law_filled_so k__law_filled_so
  have b__law_filled_so := F__law_filled_so.binds (ps := ["_law_rule", "_law_word", "_law_there", "_law_found"]) fun _ _ _ _ _ _ us hl => len4 us hl fun _ _ _ _ => rfl
  have F__law_due_words := fun_mk (st := s__law_due_words) l__law_due_words e__law_due_words k__law_due_words
  have b__law_due_words := F__law_due_words.binds (ps := ["_law_whole_here"]) fun _ _ _ _ _ _ us hl => len1 us hl fun _ => rfl
  have F__law_loaded_so := fun_mk (st := s__law_loaded_so) l__law_loaded_so e__law_loaded_so k__law_loaded_so
  have b__law_loaded_so := F__law_loaded_so.binds (ps := ["_law_found", "_law_whole_here", "_law_base"]) fun _ _ _ _ _ _ us hl => len3 us hl fun _ _ _ => rfl
  have F_law := fun_mk (st := s_law) l_law e_law k_law
  have b_law := F_law.binds (ps := ["_law_script"]) fun _ _ _ _ _ _ us hl => len1 us hl fun _ => rfl
  have T : Txt K mg { NoBase___init__ := f_NoBase___init__, fd_NoBase___init__ := _, wrapped := f_wrapped, fd_wrapped := _, with_field := f_with_field, fd_with_field := _, ones := f_ones, fd_ones := _, moved := f_moved, fd_moved := _, rule_of := f_rule_of, fd_rule_of := _, Rule___init__ := f_Rule___init__, fd_Rule___init__ := _, Whole_filled := f_Whole_filled, fd_Whole_filled := _, High_filled := f_High_filled, fd_High_filled := _, Low_filled := f_Low_filled, fd_Low_filled := _, loaded := f_loaded, fd_loaded := _, start_of := f_start_of, fd_start_of := _, refuse_no_base := f_refuse_no_base, fd_refuse_no_base := _, _law_whole := f__law_whole, fd__law_whole := _, _law_cell_at := f__law_cell_at, fd__law_cell_at := _, _law_target_by := f__law_target_by, fd__law_target_by := _, _law_put := f__law_put, fd__law_put := _, _law_end := f__law_end, fd__law_end := _, _law_built := f__law_built, fd__law_built := _, _law_base_by := f__law_base_by, fd__law_base_by := _, _law_copy := f__law_copy, fd__law_copy := _, _law_filled_so := f__law_filled_so, fd__law_filled_so := _, _law_due_words := f__law_due_words, fd__law_due_words := _, _law_loaded_so := f__law_loaded_so, fd__law_loaded_so := _, law := fa, fd_law := _, t_WORD_COUNT := t_WORD_COUNT, c_High := C_High, c_JoinError := C_JoinError, c_Low := C_Low, c_NoBase := C_NoBase, c_Whole := C_Whole } := {
    k_NoBase___init__ := k_NoBase___init__
    b_NoBase___init__ := b_NoBase___init__
    F_NoBase___init__ := F_NoBase___init__
    m_wrapped := PySem.W.mg_of X G a_wrapped
    k_wrapped := k_wrapped
    b_wrapped := b_wrapped
    F_wrapped := F_wrapped
    m_with_field := PySem.W.mg_of X G a_with_field
    k_with_field := k_with_field
    b_with_field := b_with_field
    F_with_field := F_with_field
    m_ones := PySem.W.mg_of X G a_ones
    k_ones := k_ones
    b_ones := b_ones
    F_ones := F_ones
    m_moved := PySem.W.mg_of X G a_moved
    k_moved := k_moved
    b_moved := b_moved
    F_moved := F_moved
    m_rule_of := PySem.W.mg_of X G a_rule_of
    k_rule_of := k_rule_of
    b_rule_of := b_rule_of
    F_rule_of := F_rule_of
    k_Rule___init__ := k_Rule___init__
    b_Rule___init__ := b_Rule___init__
    F_Rule___init__ := F_Rule___init__
    k_Whole_filled := k_Whole_filled
    b_Whole_filled := b_Whole_filled
    F_Whole_filled := F_Whole_filled
    k_High_filled := k_High_filled
    b_High_filled := b_High_filled
    F_High_filled := F_High_filled
    k_Low_filled := k_Low_filled
    b_Low_filled := b_Low_filled
    F_Low_filled := F_Low_filled
    m_loaded := PySem.W.mg_of X G a_loaded
    k_loaded := k_loaded
    b_loaded := b_loaded
    F_loaded := F_loaded
    m_start_of := PySem.W.mg_of X G a_start_of
    k_start_of := k_start_of
    b_start_of := b_start_of
    F_start_of := F_start_of
    m_refuse_no_base := PySem.W.mg_of X G a_refuse_no_base
    k_refuse_no_base := k_refuse_no_base
    b_refuse_no_base := b_refuse_no_base
    F_refuse_no_base := F_refuse_no_base
    m__law_whole := PySem.W.mg_of X G a__law_whole
    k__law_whole := k__law_whole
    b__law_whole := b__law_whole
    F__law_whole := F__law_whole
    m__law_cell_at := PySem.W.mg_of X G a__law_cell_at
    k__law_cell_at := k__law_cell_at
    b__law_cell_at := b__law_cell_at
    F__law_cell_at := F__law_cell_at
    m__law_target_by := PySem.W.mg_of X G a__law_target_by
    k__law_target_by := k__law_target_by
    b__law_target_by := b__law_target_by
    F__law_target_by := F__law_target_by
    m__law_put := PySem.W.mg_of X G a__law_put
    k__law_put := k__law_put
    b__law_put := b__law_put
    F__law_put := F__law_put
    m__law_end := PySem.W.mg_of X G a__law_end
    k__law_end := k__law_end
    b__law_end := b__law_end
    F__law_end := F__law_end
    m__law_built := PySem.W.mg_of X G a__law_built
    k__law_built := k__law_built
    b__law_built := b__law_built
    F__law_built := F__law_built
    m__law_base_by := PySem.W.mg_of X G a__law_base_by
    k__law_base_by := k__law_base_by
    b__law_base_by := b__law_base_by
    F__law_base_by := F__law_base_by
    m__law_copy := PySem.W.mg_of X G a__law_copy
    k__law_copy := k__law_copy
    b__law_copy := b__law_copy
    F__law_copy := F__law_copy
    m__law_filled_so := PySem.W.mg_of X G a__law_filled_so
    k__law_filled_so := k__law_filled_so
    b__law_filled_so := b__law_filled_so
    F__law_filled_so := F__law_filled_so
    m__law_due_words := PySem.W.mg_of X G a__law_due_words
    k__law_due_words := k__law_due_words
    b__law_due_words := b__law_due_words
    F__law_due_words := F__law_due_words
    m__law_loaded_so := PySem.W.mg_of X G a__law_loaded_so
    k__law_loaded_so := k__law_loaded_so
    b__law_loaded_so := b__law_loaded_so
    F__law_loaded_so := F__law_loaded_so
    m_law := PySem.W.mg_of X G a_law
    k_law := k_law
    b_law := b_law
    F_law := F_law
    g_WORD_COUNT := PySem.W.mg_of X G g_WORD_COUNT
    n_bool := PySem.W.mg_none_of X G n_bool
    n_dict := PySem.W.mg_none_of X G n_dict
    n_enumerate := PySem.W.mg_none_of X G n_enumerate
    n_int := PySem.W.mg_none_of X G n_int
    n_isinstance := PySem.W.mg_none_of X G n_isinstance
    n_len := PySem.W.mg_none_of X G n_len
    n_list := PySem.W.mg_none_of X G n_list
    n_max := PySem.W.mg_none_of X G n_max
    n_range := PySem.W.mg_none_of X G n_range
    n_str := PySem.W.mg_none_of X G n_str
    mc_High := PySem.W.mg_of X G ac_High
    cl_High := ⟨pg_High, hd_High, po_High, sa_High⟩
    mc_JoinError := PySem.W.mg_of X G ac_JoinError
    mc_Low := PySem.W.mg_of X G ac_Low
    cl_Low := ⟨pg_Low, hd_Low, po_Low, sa_Low⟩
    mc_NoBase := PySem.W.mg_of X G ac_NoBase
    mc_Whole := PySem.W.mg_of X G ac_Whole
    cl_Whole := ⟨pg_Whole, hd_Whole, po_Whole, sa_Whole⟩
    sp_cl := sp_cl
    tk_cl := tk_cl
    ei_NoBase := ei_NoBase
    ee_NoBase := ee_NoBase
    es_NoBase := es_NoBase
    br_JoinError := br_JoinError
    bf_JoinError := bf_JoinError
    bg_JoinError := bg_JoinError
    er_NoBase := ⟨ei_NoBase, ee_NoBase, es_NoBase, i_NoBase___init__⟩
    bi_JoinError := ⟨br_JoinError, bf_JoinError, bg_JoinError⟩
    mk_High := ⟨mm_High, a_Rule___init__, i_Rule___init__, kc_High⟩
    mk_Low := ⟨mm_Low, fi_Low, i_Rule___init__, kc_Low⟩
    mk_Whole := ⟨mm_Whole, fi_Whole, i_Rule___init__, kc_Whole⟩
    me_High_filled := ⟨a_High_filled, i_High_filled, k_High_filled⟩
    me_Low_filled := ⟨a_Low_filled, i_Low_filled, k_Low_filled⟩
    me_Whole_filled := ⟨a_Whole_filled, i_Whole_filled, k_Whole_filled⟩
    no_NoBase_base := no_NoBase_base
    no_Whole_title := no_Whole_title
    no_High_title := no_High_title
    no_Low_title := no_Low_title }
  exact ⟨_, fun s v => .of_eq rfl, fun base _ _ => G_law T⟩
theorem walk {l : PySem.W.OpenLaw} {q : Program} {loose : List Str} {XP : (Str → Option Value) → Heap → Prop} {YP : World → Heap → Prop} {d : DefRec} {K : Params → PySem.W.Frag} (hn : l.most = some 63) (hdf : d.params.defaults = [])
    (hY : ∀ (w : World) (h : Heap), YP w h → (K w.params).In h)
    (F : ∀ (w : World) (mg : Str → Option Value) (fa : Addr) (h : Heap), (K w.params).In h → h.Ns mainGlobals mg → mg d.name = some (.ref fa) →
      ∃ fd : FuncData, (∀ (s : Shared) (u : Value), BindsTo s fd ⟨[u], []⟩ [("_law_script", u)]) ∧ ∀ base : Heap, (K w.params).In base → base.Ns mainGlobals mg → FnOk l.prog w (K w.params) mg base CX0 13 fa fd ["_law_script"] (sp_law (K w.params))) :
    PySem.W.WalkO q loose XP YP l.row.toRowW d [] (fun f vs => PySem.call f vs) :=
  L2.walk_of (n := 63) (k := 13) (x := "_law_script") (CX := fun _ => CX0) (sp := fun w => sp_law (K w.params)) hn (by decide) hdf ⟨rfl, by decide, by decide⟩ hY F (fun _ _ a ns hl _ hS => ⟨a, ns, rfl, hS, hl, fun _ => rfl⟩) fun _ _ _ _ _ z => z
end My
namespace Hd
open PySem PySem.W PySem.Calls PyProof.Rows
noncomputable abbrev pw : Program := PySem.Challenge.pw_joinload_k45_loaded_words
noncomputable def T (i : Nat) : Stmt := My.top i
noncomputable def C (i j : Nat) : Stmt := L2.inClass (My.top i) j
noncomputable abbrev k (P : Params) (x : Str) (t : Tok) (v : Value) : DictEntry := ⟨PyData.keyHash P x, .str x t, v⟩
noncomputable abbrev fn (s : Stmt) (x q : Str) (dV kV doc pm : Value) (an : Option Addr) (cd ct : Value) : FuncData := fnOf x q (L2.defArgs s) (L2.defBody s) (L2.defScope s) dV kV doc pm an cd ct
noncomputable abbrev e1 : Obj := ⟨.type "tuple", none, .seq #[] 0, #[]⟩
noncomputable abbrev e2 : Obj := ⟨.none, none, .fields #[], #[]⟩
noncomputable abbrev bp : Obj := ⟨.type "builtin_function_or_method", none, .fields #[.builtin "type.__prepare__", .type "type"], #[]⟩
noncomputable abbrev tu (x : Array Value) : Obj := ⟨.type "tuple", none, .seq x 0, #[]⟩
noncomputable abbrev nf (x : Array Value) : Obj := ⟨.none, none, .fields x, #[]⟩
noncomputable abbrev bs (a : Addr) : Obj := ⟨.type "builtin_function_or_method", none, .fields #[.builtin "object.__init_subclass__", .ref a], #[]⟩
noncomputable abbrev su (a : Addr) : Obj := ⟨.type "super", none, .fields #[.ref a, .ref a, .ref a], #[]⟩
noncomputable abbrev co (x q : Str) (t : Nat) (l a b : Int) (r : Addr) (o : Bool) (r2 : Addr) (v : Value) (u : Nat) : Obj := ⟨.type "code", none, .fields #[.str x t, .str q (t + 1), .str "/claim/cut.py" (t + 2), .int l 0, .int a 0, .int 0 0, .int 0 0, .int b 0, .ref r, .bool o, .int 181 0, .ref r2, .none, .none, .none, v, .int (Int.ofNat u) 0, .int l 0, .str "/claim/cut.py" (u + 1)], #[]⟩
noncomputable abbrev fm (a b : Addr) (v : Value) : Obj := ⟨.type "frame", none, .plain, #[some (.ref a), some (.ref 3), some (.ref b), none, some v, none, some (.ref 0)]⟩
noncomputable abbrev fo (s : Stmt) (x q m : Str) (t : Nat) (c : Addr) : Obj := ⟨.type "function", none, .func (fn s x q .none .none .none (.str m t) none (.ref c) .none), #[]⟩
noncomputable abbrev ft (s : Stmt) (x q : Str) : Obj := ⟨.none, none, .func { fn s x q .none .none .none .none none .none .none with globals := 0, closure := [], builtins := 0 }, #[]⟩
noncomputable abbrev di (l : List DictEntry) (n : Nat) : Obj := ⟨.type "dict", none, .dict l.toArray n, #[]⟩
noncomputable def sv : List DictEntry → Nat → Value → List DictEntry
  | [], _, _ => []
  | e :: r, 0, v => ⟨e.hash, e.key, v⟩ :: r
  | e :: r, n + 1, v => e :: sv r n v
noncomputable def od : List (Nat × Obj) → List (Nat × Obj)
  | [] => []
  | (i, o) :: r => match Nat.beq (i % 2) 1 with
    | true => (i / 2, o) :: od r
    | false => od r
noncomputable def ev : List (Nat × Obj) → List (Nat × Obj)
  | [] => []
  | (i, o) :: r => match Nat.beq i 0 with
    | true => ev r
    | false => match Nat.beq (i % 2) 1 with
      | true => ev r
      | false => (i / 2 - 1, o) :: ev r
noncomputable def at0 (v : Obj) : List (Nat × Obj) → Obj
  | [] => v
  | (i, o) :: r => match Nat.beq i 0 with
    | true => o
    | false => at0 v r
noncomputable def mg : Nat → BT → List (Nat × Obj) → BT
  | 0, t, _ => t
  | f + 1, t, d => match d with
    | [] => t
    | x :: r => match t with
      | .nil => .node (at0 default (x :: r)) (mg f .nil (od (x :: r))) (mg f .nil (ev (x :: r)))
      | .node v a b => .node (at0 v (x :: r)) (mg f a (od (x :: r))) (mg f b (ev (x :: r)))
noncomputable def bd : List Stmt := behindTheImports pw
noncomputable def en : Env := { scope := pw.main.scope, locals := mainNs, globals := mainNs, cells := [], code := (.ref 13), frame := some 14 }
noncomputable abbrev cE : Code := .body bd en
noncomputable abbrev B : List Frame := [topFrame ⟨0, 0, 0, 0⟩]
noncomputable def li : Life := { registered := [], finalised := [], alive := [], known := 0, ids := [], orphanDicts := [], counting := false, cnt := ⟨[]⟩, zero := [], soft := 0, below := false, collecting := false, loading := false, debug := 0, thresholds := [2000, 10, 10], woke := false, asked := 0, gcEnabled := true, old := [], middle := [], young := 0, intoMiddle := false }
noncomputable abbrev an : Option Value := (some (.ref 6))
noncomputable abbrev sT (t : BT) (n k : Nat) (os : OsState) : SharedT := ⟨t, n, li, ⟨[]⟩, boot_drawn, k, os⟩
noncomputable abbrev sR (w : World) (n : Nat) (S S' : World → OsState → SharedT) (l : List Stmt) (p p' : Pos) : Prop := (fun os => segRunT treeTable pw w 11 an 1 n (S w os) (piecesOf l en cE p B)) = fun os => some (.next, S' w os, cE, p')
noncomputable def o11_0 : Obj := e1
noncomputable def o12_0 : Obj := e2
noncomputable def o13_0 : Obj := co "<module>" "<module>" 182 1 0 0 11 false 12 .none 185
noncomputable def o14_0 : Obj := fm 13 3 (.str "__main__" 164)
noncomputable def Ha (P : Params) : Heap := ⟨⟨boot_o_0 P :: boot_o_1 P :: boot_o_2 P :: boot_o_3 P :: boot_o_4 P :: boot_o_5 P :: boot_o_6 P :: boot_o_7 P :: boot_o_8 P :: boot_o_9 P :: boot_o_10 P :: o11_0 :: o12_0 :: o13_0 :: o14_0 :: []⟩, li⟩
noncomputable def S0 (w : World) (os : OsState) : Shared := ⟨boot_heap w.params, ⟨[]⟩, boot_drawn, boot_toks, os⟩
noncomputable def Sa (w : World) (os : OsState) : Shared := ⟨Ha w.params, ⟨[]⟩, boot_drawn, 187, os⟩
noncomputable def Pre (w : World) : Prop := (fun os => topGo treeTable pw w 11 an 12 (S0 w os) (topStub pw)) = fun os => some (Sa w os, ⟨denote treeTable cE, cE, ⟨0, 0, 0, 0⟩, B⟩)
noncomputable def D0 (P : Params) : List (Nat × Obj) := (0, boot_o_0 P) :: (1, boot_o_1 P) :: (2, boot_o_2 P) :: (3, boot_o_3 P) :: (4, boot_o_4 P) :: (5, boot_o_5 P) :: (6, boot_o_6 P) :: (7, boot_o_7 P) :: (8, boot_o_8 P) :: (9, boot_o_9 P) :: (10, boot_o_10 P) :: (11, o11_0) :: (12, o12_0) :: (13, o13_0) :: (14, o14_0) :: []
noncomputable def T0 (P : Params) : BT := mg 14 .nil (D0 P)
noncomputable def S0T (w : World) : OsState → SharedT := sT (T0 w.params) 15 187
noncomputable def Blk (w : World) : Prop := (fun os => segRun treeTable pw w 11 an 1 1 (Sa w os) (blockOf bd en cE ⟨0, 0, 0, 0⟩ B)) = fun os => some (.next, (S0T w os).abs, cE, ⟨0, 0, 0, 0⟩)
noncomputable def g3_2 (P : Params) : List DictEntry := [k P "__name__" 165 (.str "joinload.rules" 292), k P "__doc__" 166 .none, k P "__package__" 167 .none, k P "__loader__" 168 (.builtin "__main__.__loader__#opaque"), k P "__spec__" 169 .none, k P "__annotations__" 170 (.ref 6), k P "__builtins__" 171 (.ref 4), k P "__file__" 173 (.str "/claim/cut.py" 172), k P "__cached__" 174 .none, k P "_wall" 193 (.ref 21), k P "JoinError" 213 (.ref 31), k P "NoRule" 229 (.ref 44), k P "NoBase" 254 (.ref 63), k P "WORD_COUNT" 258 (.int (4294967296) 257), k P "wrapped" 265 (.ref 72), k P "with_field" 276 (.ref 79), k P "ones" 283 (.ref 86), k P "moved" 291 (.ref 93), k P "rule_of" 300 (.ref 100)]
noncomputable def o3_2 (P : Params) : Obj := ⟨(.type "dict"), none, .dict (g3_2 P).toArray 19, #[]⟩
noncomputable def o12_2 : Obj := nf #[(.int (1) 0), (.int (0) 0), (.ref 20), (.int (5) 0), (.int (0) 0), (.ref 27), (.int (7) 0), (.int (0) 0), (.ref 40), (.int (9) 0), (.int (0) 0), (.ref 52), (.int (16) 0), (.int (0) 0), (.ref 71), (.int (18) 0), (.int (0) 0), (.ref 78), (.int (21) 0), (.int (0) 0), (.ref 85), (.int (23) 0), (.int (0) 0), (.ref 92), (.int (28) 0), (.int (0) 0), (.ref 99)]
noncomputable def o15_2 : Obj := e1
noncomputable def o16_2 : Obj := e2
noncomputable def o17_2 : Obj := tu #[(.str "k" 190)]
noncomputable def o18_2 : Obj := e1
noncomputable def o19_2 : Obj := ft (T 0) "_wall" "_wall"
noncomputable def o20_2 : Obj := ⟨(.type "code"), none, (.fields #[(.str "_wall" 187), (.str "_wall" 188), (.str "/claim/cut.py" 189), (.int (1) 0), (.int (1) 0), (.int (0) 0), (.int (0) 0), (.int (3) 0), (.ref 15), (.bool true), (.int (181) 0), (.ref 16), .none, (.ref 17), (.ref 18), (.ref 19), (.int (191) 0), (.int (1) 0), (.str "/claim/cut.py" 192)]), #[]⟩
noncomputable def o21_2 : Obj := fo (T 0) "_wall" "_wall" "__main__" 164 20
noncomputable def o22_2 : Obj := tu #[(.type "ValueError")]
noncomputable def o23_2 : Obj := bp
noncomputable def o24_2 (P : Params) : Obj := di [k P "__module__" 203 (.str "joinload.errors" 194), k P "__qualname__" 205 (.str "JoinError" 204), k P "__firstlineno__" 207 (.int (5) 206), k P "__static_attributes__" 208 (.ref 29)] 4
noncomputable def o25_2 : Obj := e1
noncomputable def o26_2 : Obj := e2
noncomputable def o27_2 : Obj := co "JoinError" "JoinError" 198 5 0 0 25 false 26 .none 201
noncomputable def o28_2 : Obj := fm 27 24 (.str "joinload.errors" 194)
noncomputable def o29_2 : Obj := e1
noncomputable def o30_2 (P : Params) : Obj := di [k P "__module__" 203 (.str "joinload.errors" 194), k P "__firstlineno__" 207 (.int (5) 206), k P "__static_attributes__" 208 (.ref 29), k P "__weakref__" 210 (.ref 32), k P "__doc__" 211 .none] 3
noncomputable def o31_2 : Obj := ⟨(.type "type"), none, (.cls ⟨"JoinError", [(.type "ValueError")], [(.ref 31), (.type "ValueError"), (.type "Exception"), (.type "BaseException"), (.type "object")], 30, "JoinError", true, [], [(.ref 44), (.ref 63)], false, none, false⟩), #[(some (.ref 22)), none, (some (.str "JoinError" 196)), (some (.str "JoinError" 204)), (some (.builtin "ValueError.__new__")), (some (.bool true))]⟩
noncomputable def o32_2 : Obj := ⟨(.type "getset_descriptor"), none, (.fields #[(.str "__weakref__" 209), (.ref 31), (.builtin "ExceptionGroup.__weakref__"), .none]), #[]⟩
noncomputable def o33_2 : Obj := su 31
noncomputable def o34_2 : Obj := bs 31
noncomputable def o35_2 : Obj := tu #[(.ref 31)]
noncomputable def o36_2 : Obj := bp
noncomputable def o37_2 (P : Params) : Obj := di [k P "__module__" 221 (.str "joinload.errors" 194), k P "__qualname__" 223 (.str "NoRule" 222), k P "__firstlineno__" 225 (.int (7) 224), k P "__static_attributes__" 226 (.ref 42)] 4
noncomputable def o38_2 : Obj := e1
noncomputable def o39_2 : Obj := e2
noncomputable def o40_2 : Obj := co "NoRule" "NoRule" 216 7 0 0 38 false 39 .none 219
noncomputable def o41_2 : Obj := fm 40 37 (.str "joinload.errors" 194)
noncomputable def o42_2 : Obj := e1
noncomputable def o43_2 (P : Params) : Obj := di [k P "__module__" 221 (.str "joinload.errors" 194), k P "__firstlineno__" 225 (.int (7) 224), k P "__static_attributes__" 226 (.ref 42), k P "__doc__" 227 .none] 2
noncomputable def o44_2 : Obj := ⟨(.type "type"), none, (.cls ⟨"NoRule", [(.ref 31)], [(.ref 44), (.ref 31), (.type "ValueError"), (.type "Exception"), (.type "BaseException"), (.type "object")], 43, "NoRule", true, [], [], false, none, false⟩), #[(some (.ref 35)), none, (some (.str "NoRule" 214)), (some (.str "NoRule" 222)), (some (.builtin "ValueError.__new__")), (some (.bool true))]⟩
noncomputable def o45_2 : Obj := su 44
noncomputable def o46_2 : Obj := bs 44
noncomputable def o47_2 : Obj := tu #[(.ref 31)]
noncomputable def o48_2 : Obj := bp
noncomputable def o49_2 (P : Params) : Obj := di [k P "__module__" 237 (.str "joinload.errors" 194), k P "__qualname__" 239 (.str "NoBase" 238), k P "__firstlineno__" 241 (.int (9) 240), k P "__init__" 249 (.ref 60), k P "__static_attributes__" 251 (.ref 61)] 5
noncomputable def o50_2 : Obj := e1
noncomputable def o51_2 : Obj := nf #[(.int (11) 0), (.int (4) 0), (.ref 59)]
noncomputable def o52_2 : Obj := co "NoBase" "NoBase" 232 9 0 0 50 false 51 .none 235
noncomputable def o53_2 : Obj := fm 52 49 (.str "joinload.errors" 194)
noncomputable def o54_2 : Obj := e1
noncomputable def o55_2 : Obj := e2
noncomputable def o56_2 : Obj := tu #[(.str "self" 245), (.str "base" 246)]
noncomputable def o57_2 : Obj := e1
noncomputable def o58_2 : Obj := ft (C 4 0) "__init__" "NoBase.__init__"
noncomputable def o59_2 : Obj := ⟨(.type "code"), none, (.fields #[(.str "__init__" 242), (.str "NoBase.__init__" 243), (.str "/claim/cut.py" 244), (.int (11) 0), (.int (2) 0), (.int (0) 0), (.int (0) 0), (.int (3) 0), (.ref 54), (.bool true), (.int (181) 0), (.ref 55), .none, (.ref 56), (.ref 57), (.ref 58), (.int (247) 0), (.int (11) 0), (.str "/claim/cut.py" 248)]), #[]⟩
noncomputable def o60_2 : Obj := fo (C 4 0) "__init__" "NoBase.__init__" "joinload.errors" 194 59
noncomputable def o61_2 : Obj := tu #[(.str "base" 250)]
noncomputable def o62_2 (P : Params) : Obj := di [k P "__module__" 237 (.str "joinload.errors" 194), k P "__firstlineno__" 241 (.int (9) 240), k P "__init__" 249 (.ref 60), k P "__static_attributes__" 251 (.ref 61), k P "__doc__" 252 .none] 2
noncomputable def o63_2 : Obj := ⟨(.type "type"), none, (.cls ⟨"NoBase", [(.ref 31)], [(.ref 63), (.ref 31), (.type "ValueError"), (.type "Exception"), (.type "BaseException"), (.type "object")], 62, "NoBase", true, [], [], false, none, false⟩), #[(some (.ref 47)), none, (some (.str "NoBase" 230)), (some (.str "NoBase" 238)), (some (.builtin "ValueError.__new__")), (some (.bool true))]⟩
noncomputable def o64_2 : Obj := su 63
noncomputable def o65_2 : Obj := bs 63
noncomputable def o66_2 : Obj := e1
noncomputable def o67_2 : Obj := e2
noncomputable def o68_2 : Obj := tu #[(.str "number" 262)]
noncomputable def o69_2 : Obj := e1
noncomputable def o70_2 : Obj := ft (T 7) "wrapped" "wrapped"
noncomputable def o71_2 : Obj := ⟨(.type "code"), none, (.fields #[(.str "wrapped" 259), (.str "wrapped" 260), (.str "/claim/cut.py" 261), (.int (16) 0), (.int (1) 0), (.int (0) 0), (.int (0) 0), (.int (3) 0), (.ref 66), (.bool true), (.int (181) 0), (.ref 67), .none, (.ref 68), (.ref 69), (.ref 70), (.int (263) 0), (.int (16) 0), (.str "/claim/cut.py" 264)]), #[]⟩
noncomputable def o72_2 : Obj := fo (T 7) "wrapped" "wrapped" "joinload.bits" 255 71
noncomputable def o73_2 : Obj := e1
noncomputable def o74_2 : Obj := e2
noncomputable def o75_2 : Obj := tu #[(.str "word" 269), (.str "low" 270), (.str "many" 271), (.str "number" 272), (.str "others" 273)]
noncomputable def o76_2 : Obj := e1
noncomputable def o77_2 : Obj := ft (T 8) "with_field" "with_field"
noncomputable def o78_2 : Obj := ⟨(.type "code"), none, (.fields #[(.str "with_field" 266), (.str "with_field" 267), (.str "/claim/cut.py" 268), (.int (18) 0), (.int (4) 0), (.int (0) 0), (.int (0) 0), (.int (3) 0), (.ref 73), (.bool true), (.int (181) 0), (.ref 74), .none, (.ref 75), (.ref 76), (.ref 77), (.int (274) 0), (.int (18) 0), (.str "/claim/cut.py" 275)]), #[]⟩
noncomputable def o79_2 : Obj := fo (T 8) "with_field" "with_field" "joinload.bits" 255 78
noncomputable def o80_2 : Obj := e1
noncomputable def o81_2 : Obj := e2
noncomputable def o82_2 : Obj := tu #[(.str "many" 280)]
noncomputable def o83_2 : Obj := e1
noncomputable def o84_2 : Obj := ft (T 9) "ones" "ones"
noncomputable def o85_2 : Obj := ⟨(.type "code"), none, (.fields #[(.str "ones" 277), (.str "ones" 278), (.str "/claim/cut.py" 279), (.int (21) 0), (.int (1) 0), (.int (0) 0), (.int (0) 0), (.int (3) 0), (.ref 80), (.bool true), (.int (181) 0), (.ref 81), .none, (.ref 82), (.ref 83), (.ref 84), (.int (281) 0), (.int (21) 0), (.str "/claim/cut.py" 282)]), #[]⟩
noncomputable def o86_2 : Obj := fo (T 9) "ones" "ones" "joinload.bits" 255 85
noncomputable def o87_2 : Obj := e1
noncomputable def o88_2 : Obj := e2
noncomputable def o89_2 : Obj := tu #[(.str "number" 287), (.str "up" 288)]
noncomputable def o90_2 : Obj := e1
noncomputable def o91_2 : Obj := ft (T 10) "moved" "moved"
noncomputable def o92_2 : Obj := ⟨(.type "code"), none, (.fields #[(.str "moved" 284), (.str "moved" 285), (.str "/claim/cut.py" 286), (.int (23) 0), (.int (2) 0), (.int (0) 0), (.int (0) 0), (.int (3) 0), (.ref 87), (.bool true), (.int (181) 0), (.ref 88), .none, (.ref 89), (.ref 90), (.ref 91), (.int (289) 0), (.int (23) 0), (.str "/claim/cut.py" 290)]), #[]⟩
noncomputable def o93_2 : Obj := fo (T 10) "moved" "moved" "joinload.bits" 255 92
noncomputable def o94_2 : Obj := e1
noncomputable def o95_2 : Obj := e2
noncomputable def o96_2 : Obj := tu #[(.str "title" 297)]
noncomputable def o97_2 : Obj := e1
noncomputable def o98_2 : Obj := ft (T 12) "rule_of" "rule_of"
noncomputable def o99_2 : Obj := ⟨(.type "code"), none, (.fields #[(.str "rule_of" 294), (.str "rule_of" 295), (.str "/claim/cut.py" 296), (.int (28) 0), (.int (1) 0), (.int (0) 0), (.int (0) 0), (.int (3) 0), (.ref 94), (.bool true), (.int (181) 0), (.ref 95), .none, (.ref 96), (.ref 97), (.ref 98), (.int (298) 0), (.int (28) 0), (.str "/claim/cut.py" 299)]), #[]⟩
noncomputable def o100_2 : Obj := fo (T 12) "rule_of" "rule_of" "joinload.rules" 292 99
noncomputable def d1_0 (P : Params) (r : List (Nat × Obj)) : List (Nat × Obj) := (3, o3_2 P) :: (12, o12_2) :: (15, o15_2) :: (16, o16_2) :: (17, o17_2) :: (18, o18_2) :: (19, o19_2) :: (20, o20_2) :: (21, o21_2) :: (22, o22_2) :: (23, o23_2) :: (24, o24_2 P) :: (25, o25_2) :: (26, o26_2) :: (27, o27_2) :: (28, o28_2) :: (29, o29_2) :: (30, o30_2 P) :: (31, o31_2) :: (32, o32_2) :: (33, o33_2) :: (34, o34_2) :: (35, o35_2) :: (36, o36_2) :: r
noncomputable def d1_1 (P : Params) (r : List (Nat × Obj)) : List (Nat × Obj) := (37, o37_2 P) :: (38, o38_2) :: (39, o39_2) :: (40, o40_2) :: (41, o41_2) :: (42, o42_2) :: (43, o43_2 P) :: (44, o44_2) :: (45, o45_2) :: (46, o46_2) :: (47, o47_2) :: (48, o48_2) :: (49, o49_2 P) :: (50, o50_2) :: (51, o51_2) :: (52, o52_2) :: (53, o53_2) :: (54, o54_2) :: (55, o55_2) :: (56, o56_2) :: (57, o57_2) :: (58, o58_2) :: (59, o59_2) :: (60, o60_2) :: r
noncomputable def d1_2 (P : Params) (r : List (Nat × Obj)) : List (Nat × Obj) := (61, o61_2) :: (62, o62_2 P) :: (63, o63_2) :: (64, o64_2) :: (65, o65_2) :: (66, o66_2) :: (67, o67_2) :: (68, o68_2) :: (69, o69_2) :: (70, o70_2) :: (71, o71_2) :: (72, o72_2) :: (73, o73_2) :: (74, o74_2) :: (75, o75_2) :: (76, o76_2) :: (77, o77_2) :: (78, o78_2) :: (79, o79_2) :: (80, o80_2) :: (81, o81_2) :: (82, o82_2) :: (83, o83_2) :: (84, o84_2) :: r
noncomputable def d1_3 (P : Params) (r : List (Nat × Obj)) : List (Nat × Obj) := (85, o85_2) :: (86, o86_2) :: (87, o87_2) :: (88, o88_2) :: (89, o89_2) :: (90, o90_2) :: (91, o91_2) :: (92, o92_2) :: (93, o93_2) :: (94, o94_2) :: (95, o95_2) :: (96, o96_2) :: (97, o97_2) :: (98, o98_2) :: (99, o99_2) :: (100, o100_2) :: r
noncomputable def T1 (P : Params) : BT := mg 14 (T0 P) (d1_0 P (d1_1 P (d1_2 P (d1_3 P ([])))))
noncomputable def S1T (w : World) : OsState → SharedT := sT (T1 w.params) 101 301
noncomputable def L0 : List Stmt := My.top 0 :: My.top 1 :: My.top 2 :: My.top 3 :: My.top 4 :: My.top 5 :: My.top 6 :: My.top 7 :: My.top 8 :: My.top 9 :: My.top 10 :: My.top 11 :: My.top 12 :: []
noncomputable def P0 (w : World) : Prop := sR w 860 S0T S1T L0 ⟨0, 0, 0, 0⟩ ⟨28, 0, 39, 48⟩
noncomputable def g3_3 (P : Params) : List DictEntry := g3_2 P ++ [k P "Rule" 364 (.ref 145), k P "Whole" 399 (.ref 173)]
noncomputable def o3_3 (P : Params) : Obj := ⟨(.type "dict"), none, .dict (g3_3 P).toArray 21, #[]⟩
noncomputable def o12_3 : Obj := nf #[(.int (1) 0), (.int (0) 0), (.ref 20), (.int (5) 0), (.int (0) 0), (.ref 27), (.int (7) 0), (.int (0) 0), (.ref 40), (.int (9) 0), (.int (0) 0), (.ref 52), (.int (16) 0), (.int (0) 0), (.ref 71), (.int (18) 0), (.int (0) 0), (.ref 78), (.int (21) 0), (.int (0) 0), (.ref 85), (.int (23) 0), (.int (0) 0), (.ref 92), (.int (28) 0), (.int (0) 0), (.ref 99), (.int (40) 0), (.int (0) 0), (.ref 106), (.int (56) 0), (.int (0) 0), (.ref 155)]
noncomputable def o101_3 : Obj := e1
noncomputable def o102_3 : Obj := bp
noncomputable def g103_3 (P : Params) : List DictEntry := [k P "__module__" 308 (.str "joinload.rules" 292), k P "__qualname__" 310 (.str "Rule" 309), k P "__firstlineno__" 312 (.int (40) 311), k P "__init__" 320 (.ref 114), k P "fits" 329 (.ref 121), k P "filled" 339 (.ref 128), k P "read_back" 348 (.ref 135), k P "leans" 355 (.ref 142), k P "__static_attributes__" 357 (.ref 143)]
noncomputable def o103_3 (P : Params) : Obj := ⟨(.type "dict"), none, .dict (g103_3 P).toArray 9, #[]⟩
noncomputable def o104_3 : Obj := e1
noncomputable def o105_3 : Obj := nf #[(.int (42) 0), (.int (4) 0), (.ref 113), (.int (45) 0), (.int (4) 0), (.ref 120), (.int (48) 0), (.int (4) 0), (.ref 127), (.int (51) 0), (.int (4) 0), (.ref 134), (.int (54) 0), (.int (4) 0), (.ref 141)]
noncomputable def o106_3 : Obj := co "Rule" "Rule" 303 40 0 0 104 false 105 .none 306
noncomputable def o107_3 : Obj := fm 106 103 (.str "joinload.rules" 292)
noncomputable def o108_3 : Obj := e1
noncomputable def o109_3 : Obj := e2
noncomputable def o110_3 : Obj := tu #[(.str "self" 316), (.str "title" 317)]
noncomputable def o111_3 : Obj := e1
noncomputable def o112_3 : Obj := ft (C 13 0) "__init__" "Rule.__init__"
noncomputable def o113_3 : Obj := ⟨(.type "code"), none, (.fields #[(.str "__init__" 313), (.str "Rule.__init__" 314), (.str "/claim/cut.py" 315), (.int (42) 0), (.int (2) 0), (.int (0) 0), (.int (0) 0), (.int (3) 0), (.ref 108), (.bool true), (.int (181) 0), (.ref 109), .none, (.ref 110), (.ref 111), (.ref 112), (.int (318) 0), (.int (42) 0), (.str "/claim/cut.py" 319)]), #[]⟩
noncomputable def o114_3 : Obj := fo (C 13 0) "__init__" "Rule.__init__" "joinload.rules" 292 113
noncomputable def o115_3 : Obj := e1
noncomputable def o116_3 : Obj := e2
noncomputable def o117_3 : Obj := tu #[(.str "self" 324), (.str "here" 325), (.str "there" 326)]
noncomputable def o118_3 : Obj := e1
noncomputable def o119_3 : Obj := ft (C 13 1) "fits" "Rule.fits"
noncomputable def o120_3 : Obj := ⟨(.type "code"), none, (.fields #[(.str "fits" 321), (.str "Rule.fits" 322), (.str "/claim/cut.py" 323), (.int (45) 0), (.int (3) 0), (.int (0) 0), (.int (0) 0), (.int (3) 0), (.ref 115), (.bool true), (.int (181) 0), (.ref 116), .none, (.ref 117), (.ref 118), (.ref 119), (.int (327) 0), (.int (45) 0), (.str "/claim/cut.py" 328)]), #[]⟩
noncomputable def o121_3 : Obj := fo (C 13 1) "fits" "Rule.fits" "joinload.rules" 292 120
noncomputable def o122_3 : Obj := e1
noncomputable def o123_3 : Obj := e2
noncomputable def o124_3 : Obj := tu #[(.str "self" 333), (.str "word" 334), (.str "here" 335), (.str "there" 336)]
noncomputable def o125_3 : Obj := e1
noncomputable def o126_3 : Obj := ft (C 13 2) "filled" "Rule.filled"
noncomputable def o127_3 : Obj := ⟨(.type "code"), none, (.fields #[(.str "filled" 330), (.str "Rule.filled" 331), (.str "/claim/cut.py" 332), (.int (48) 0), (.int (4) 0), (.int (0) 0), (.int (0) 0), (.int (3) 0), (.ref 122), (.bool true), (.int (181) 0), (.ref 123), .none, (.ref 124), (.ref 125), (.ref 126), (.int (337) 0), (.int (48) 0), (.str "/claim/cut.py" 338)]), #[]⟩
noncomputable def o128_3 : Obj := fo (C 13 2) "filled" "Rule.filled" "joinload.rules" 292 127
noncomputable def o129_3 : Obj := e1
noncomputable def o130_3 : Obj := e2
noncomputable def o131_3 : Obj := tu #[(.str "self" 343), (.str "word" 344), (.str "here" 345)]
noncomputable def o132_3 : Obj := e1
noncomputable def o133_3 : Obj := ft (C 13 3) "read_back" "Rule.read_back"
noncomputable def o134_3 : Obj := ⟨(.type "code"), none, (.fields #[(.str "read_back" 340), (.str "Rule.read_back" 341), (.str "/claim/cut.py" 342), (.int (51) 0), (.int (3) 0), (.int (0) 0), (.int (0) 0), (.int (3) 0), (.ref 129), (.bool true), (.int (181) 0), (.ref 130), .none, (.ref 131), (.ref 132), (.ref 133), (.int (346) 0), (.int (51) 0), (.str "/claim/cut.py" 347)]), #[]⟩
noncomputable def o135_3 : Obj := fo (C 13 3) "read_back" "Rule.read_back" "joinload.rules" 292 134
noncomputable def o136_3 : Obj := e1
noncomputable def o137_3 : Obj := e2
noncomputable def o138_3 : Obj := tu #[(.str "self" 352)]
noncomputable def o139_3 : Obj := e1
noncomputable def o140_3 : Obj := ft (C 13 4) "leans" "Rule.leans"
noncomputable def o141_3 : Obj := ⟨(.type "code"), none, (.fields #[(.str "leans" 349), (.str "Rule.leans" 350), (.str "/claim/cut.py" 351), (.int (54) 0), (.int (1) 0), (.int (0) 0), (.int (0) 0), (.int (3) 0), (.ref 136), (.bool true), (.int (181) 0), (.ref 137), .none, (.ref 138), (.ref 139), (.ref 140), (.int (353) 0), (.int (54) 0), (.str "/claim/cut.py" 354)]), #[]⟩
noncomputable def o142_3 : Obj := fo (C 13 4) "leans" "Rule.leans" "joinload.rules" 292 141
noncomputable def o143_3 : Obj := tu #[(.str "title" 356)]
noncomputable def g144_3 (P : Params) : List DictEntry := [k P "__module__" 308 (.str "joinload.rules" 292), k P "__firstlineno__" 312 (.int (40) 311), k P "__init__" 320 (.ref 114), k P "fits" 329 (.ref 121), k P "filled" 339 (.ref 128), k P "read_back" 348 (.ref 135), k P "leans" 355 (.ref 142), k P "__static_attributes__" 357 (.ref 143), k P "__dict__" 359 (.ref 146), k P "__weakref__" 361 (.ref 147), k P "__doc__" 362 .none]
noncomputable def o144_3 (P : Params) : Obj := ⟨(.type "dict"), none, .dict (g144_3 P).toArray 4, #[]⟩
noncomputable def o145_3 : Obj := ⟨(.type "type"), none, (.cls ⟨"Rule", [(.type "object")], [(.ref 145), (.type "object")], 144, "Rule", true, [], [(.ref 173)], false, none, false⟩), #[none, none, (some (.str "Rule" 301)), (some (.str "Rule" 309)), (some (.builtin "object.__new__")), (some (.bool true))]⟩
noncomputable def o146_3 : Obj := ⟨(.type "getset_descriptor"), none, (.fields #[(.str "__dict__" 358), (.ref 145), (.builtin "function.__dict__"), (.builtin "function.__dict__#set")]), #[]⟩
noncomputable def o147_3 : Obj := ⟨(.type "getset_descriptor"), none, (.fields #[(.str "__weakref__" 360), (.ref 145), (.builtin "ExceptionGroup.__weakref__"), .none]), #[]⟩
noncomputable def o148_3 : Obj := su 145
noncomputable def o149_3 : Obj := bs 145
noncomputable def o150_3 : Obj := tu #[(.ref 145)]
noncomputable def o151_3 : Obj := bp
noncomputable def o152_3 (P : Params) : Obj := di [k P "__module__" 372 (.str "joinload.rules" 292), k P "__qualname__" 374 (.str "Whole" 373), k P "__firstlineno__" 376 (.int (56) 375), k P "filled" 386 (.ref 163), k P "read_back" 395 (.ref 170), k P "__static_attributes__" 396 (.ref 171)] 6
noncomputable def o153_3 : Obj := e1
noncomputable def o154_3 : Obj := nf #[(.int (58) 0), (.int (4) 0), (.ref 162), (.int (61) 0), (.int (4) 0), (.ref 169)]
noncomputable def o155_3 : Obj := co "Whole" "Whole" 367 56 0 0 153 false 154 .none 370
noncomputable def o156_3 : Obj := fm 155 152 (.str "joinload.rules" 292)
noncomputable def o157_3 : Obj := e1
noncomputable def o158_3 : Obj := e2
noncomputable def o159_3 : Obj := tu #[(.str "self" 380), (.str "word" 381), (.str "here" 382), (.str "there" 383)]
noncomputable def o160_3 : Obj := e1
noncomputable def o161_3 : Obj := ft (C 14 0) "filled" "Whole.filled"
noncomputable def o162_3 : Obj := ⟨(.type "code"), none, (.fields #[(.str "filled" 377), (.str "Whole.filled" 378), (.str "/claim/cut.py" 379), (.int (58) 0), (.int (4) 0), (.int (0) 0), (.int (0) 0), (.int (3) 0), (.ref 157), (.bool true), (.int (181) 0), (.ref 158), .none, (.ref 159), (.ref 160), (.ref 161), (.int (384) 0), (.int (58) 0), (.str "/claim/cut.py" 385)]), #[]⟩
noncomputable def o163_3 : Obj := fo (C 14 0) "filled" "Whole.filled" "joinload.rules" 292 162
noncomputable def o164_3 : Obj := e1
noncomputable def o165_3 : Obj := e2
noncomputable def o166_3 : Obj := tu #[(.str "self" 390), (.str "word" 391), (.str "here" 392)]
noncomputable def o167_3 : Obj := e1
noncomputable def o168_3 : Obj := ft (C 14 1) "read_back" "Whole.read_back"
noncomputable def o169_3 : Obj := ⟨(.type "code"), none, (.fields #[(.str "read_back" 387), (.str "Whole.read_back" 388), (.str "/claim/cut.py" 389), (.int (61) 0), (.int (3) 0), (.int (0) 0), (.int (0) 0), (.int (3) 0), (.ref 164), (.bool true), (.int (181) 0), (.ref 165), .none, (.ref 166), (.ref 167), (.ref 168), (.int (393) 0), (.int (61) 0), (.str "/claim/cut.py" 394)]), #[]⟩
noncomputable def o170_3 : Obj := fo (C 14 1) "read_back" "Whole.read_back" "joinload.rules" 292 169
noncomputable def o171_3 : Obj := e1
noncomputable def o172_3 (P : Params) : Obj := di [k P "__module__" 372 (.str "joinload.rules" 292), k P "__firstlineno__" 376 (.int (56) 375), k P "filled" 386 (.ref 163), k P "read_back" 395 (.ref 170), k P "__static_attributes__" 396 (.ref 171), k P "__doc__" 397 .none] 2
noncomputable def o173_3 : Obj := ⟨(.type "type"), none, (.cls ⟨"Whole", [(.ref 145)], [(.ref 173), (.ref 145), (.type "object")], 172, "Whole", true, [], [], false, none, false⟩), #[(some (.ref 150)), none, (some (.str "Whole" 365)), (some (.str "Whole" 373)), (some (.builtin "object.__new__")), (some (.bool true))]⟩
noncomputable def o174_3 : Obj := su 173
noncomputable def o175_3 : Obj := bs 173
noncomputable def d2_0 (P : Params) (r : List (Nat × Obj)) : List (Nat × Obj) := (3, o3_3 P) :: (12, o12_3) :: (101, o101_3) :: (102, o102_3) :: (103, o103_3 P) :: (104, o104_3) :: (105, o105_3) :: (106, o106_3) :: (107, o107_3) :: (108, o108_3) :: (109, o109_3) :: (110, o110_3) :: (111, o111_3) :: (112, o112_3) :: (113, o113_3) :: (114, o114_3) :: (115, o115_3) :: (116, o116_3) :: (117, o117_3) :: (118, o118_3) :: (119, o119_3) :: (120, o120_3) :: (121, o121_3) :: (122, o122_3) :: r
noncomputable def d2_1 (P : Params) (r : List (Nat × Obj)) : List (Nat × Obj) := (123, o123_3) :: (124, o124_3) :: (125, o125_3) :: (126, o126_3) :: (127, o127_3) :: (128, o128_3) :: (129, o129_3) :: (130, o130_3) :: (131, o131_3) :: (132, o132_3) :: (133, o133_3) :: (134, o134_3) :: (135, o135_3) :: (136, o136_3) :: (137, o137_3) :: (138, o138_3) :: (139, o139_3) :: (140, o140_3) :: (141, o141_3) :: (142, o142_3) :: (143, o143_3) :: (144, o144_3 P) :: (145, o145_3) :: (146, o146_3) :: r
noncomputable def d2_2 (P : Params) (r : List (Nat × Obj)) : List (Nat × Obj) := (147, o147_3) :: (148, o148_3) :: (149, o149_3) :: (150, o150_3) :: (151, o151_3) :: (152, o152_3 P) :: (153, o153_3) :: (154, o154_3) :: (155, o155_3) :: (156, o156_3) :: (157, o157_3) :: (158, o158_3) :: (159, o159_3) :: (160, o160_3) :: (161, o161_3) :: (162, o162_3) :: (163, o163_3) :: (164, o164_3) :: (165, o165_3) :: (166, o166_3) :: (167, o167_3) :: (168, o168_3) :: (169, o169_3) :: (170, o170_3) :: r
noncomputable def d2_3 (P : Params) (r : List (Nat × Obj)) : List (Nat × Obj) := (171, o171_3) :: (172, o172_3 P) :: (173, o173_3) :: (174, o174_3) :: (175, o175_3) :: r
noncomputable def T2 (P : Params) : BT := mg 14 (T1 P) (d2_0 P (d2_1 P (d2_2 P (d2_3 P ([])))))
noncomputable def S2T (w : World) : OsState → SharedT := sT (T2 w.params) 176 400
noncomputable def L1 : List Stmt := My.top 13 :: My.top 14 :: []
noncomputable def P1 (w : World) : Prop := sR w 633 S1T S2T L1 ⟨28, 0, 39, 48⟩ ⟨56, 0, 62, 16⟩
noncomputable def g3_4 (P : Params) : List DictEntry := g3_3 P ++ [k P "High" 434 (.ref 199), k P "Low" 469 (.ref 225)]
noncomputable def o3_4 (P : Params) : Obj := ⟨(.type "dict"), none, .dict (g3_4 P).toArray 23, #[]⟩
noncomputable def o12_4 : Obj := nf #[(.int (1) 0), (.int (0) 0), (.ref 20), (.int (5) 0), (.int (0) 0), (.ref 27), (.int (7) 0), (.int (0) 0), (.ref 40), (.int (9) 0), (.int (0) 0), (.ref 52), (.int (16) 0), (.int (0) 0), (.ref 71), (.int (18) 0), (.int (0) 0), (.ref 78), (.int (21) 0), (.int (0) 0), (.ref 85), (.int (23) 0), (.int (0) 0), (.ref 92), (.int (28) 0), (.int (0) 0), (.ref 99), (.int (40) 0), (.int (0) 0), (.ref 106), (.int (56) 0), (.int (0) 0), (.ref 155), (.int (63) 0), (.int (0) 0), (.ref 181), (.int (70) 0), (.int (0) 0), (.ref 207)]
noncomputable def o145_4 : Obj := ⟨(.type "type"), none, (.cls ⟨"Rule", [(.type "object")], [(.ref 145), (.type "object")], 144, "Rule", true, [], [(.ref 173), (.ref 199), (.ref 225)], false, none, false⟩), #[none, none, (some (.str "Rule" 301)), (some (.str "Rule" 309)), (some (.builtin "object.__new__")), (some (.bool true))]⟩
noncomputable def o176_4 : Obj := tu #[(.ref 145)]
noncomputable def o177_4 : Obj := bp
noncomputable def o178_4 (P : Params) : Obj := di [k P "__module__" 407 (.str "joinload.rules" 292), k P "__qualname__" 409 (.str "High" 408), k P "__firstlineno__" 411 (.int (63) 410), k P "filled" 421 (.ref 189), k P "read_back" 430 (.ref 196), k P "__static_attributes__" 431 (.ref 197)] 6
noncomputable def o179_4 : Obj := e1
noncomputable def o180_4 : Obj := nf #[(.int (65) 0), (.int (4) 0), (.ref 188), (.int (68) 0), (.int (4) 0), (.ref 195)]
noncomputable def o181_4 : Obj := co "High" "High" 402 63 0 0 179 false 180 .none 405
noncomputable def o182_4 : Obj := fm 181 178 (.str "joinload.rules" 292)
noncomputable def o183_4 : Obj := e1
noncomputable def o184_4 : Obj := e2
noncomputable def o185_4 : Obj := tu #[(.str "self" 415), (.str "word" 416), (.str "here" 417), (.str "there" 418)]
noncomputable def o186_4 : Obj := e1
noncomputable def o187_4 : Obj := ft (C 15 0) "filled" "High.filled"
noncomputable def o188_4 : Obj := ⟨(.type "code"), none, (.fields #[(.str "filled" 412), (.str "High.filled" 413), (.str "/claim/cut.py" 414), (.int (65) 0), (.int (4) 0), (.int (0) 0), (.int (0) 0), (.int (3) 0), (.ref 183), (.bool true), (.int (181) 0), (.ref 184), .none, (.ref 185), (.ref 186), (.ref 187), (.int (419) 0), (.int (65) 0), (.str "/claim/cut.py" 420)]), #[]⟩
noncomputable def o189_4 : Obj := fo (C 15 0) "filled" "High.filled" "joinload.rules" 292 188
noncomputable def o190_4 : Obj := e1
noncomputable def o191_4 : Obj := e2
noncomputable def o192_4 : Obj := tu #[(.str "self" 425), (.str "word" 426), (.str "here" 427)]
noncomputable def o193_4 : Obj := e1
noncomputable def o194_4 : Obj := ft (C 15 1) "read_back" "High.read_back"
noncomputable def o195_4 : Obj := ⟨(.type "code"), none, (.fields #[(.str "read_back" 422), (.str "High.read_back" 423), (.str "/claim/cut.py" 424), (.int (68) 0), (.int (3) 0), (.int (0) 0), (.int (0) 0), (.int (3) 0), (.ref 190), (.bool true), (.int (181) 0), (.ref 191), .none, (.ref 192), (.ref 193), (.ref 194), (.int (428) 0), (.int (68) 0), (.str "/claim/cut.py" 429)]), #[]⟩
noncomputable def o196_4 : Obj := fo (C 15 1) "read_back" "High.read_back" "joinload.rules" 292 195
noncomputable def o197_4 : Obj := e1
noncomputable def o198_4 (P : Params) : Obj := di [k P "__module__" 407 (.str "joinload.rules" 292), k P "__firstlineno__" 411 (.int (63) 410), k P "filled" 421 (.ref 189), k P "read_back" 430 (.ref 196), k P "__static_attributes__" 431 (.ref 197), k P "__doc__" 432 .none] 2
noncomputable def o199_4 : Obj := ⟨(.type "type"), none, (.cls ⟨"High", [(.ref 145)], [(.ref 199), (.ref 145), (.type "object")], 198, "High", true, [], [], false, none, false⟩), #[(some (.ref 176)), none, (some (.str "High" 400)), (some (.str "High" 408)), (some (.builtin "object.__new__")), (some (.bool true))]⟩
noncomputable def o200_4 : Obj := su 199
noncomputable def o201_4 : Obj := bs 199
noncomputable def o202_4 : Obj := tu #[(.ref 145)]
noncomputable def o203_4 : Obj := bp
noncomputable def o204_4 (P : Params) : Obj := di [k P "__module__" 442 (.str "joinload.rules" 292), k P "__qualname__" 444 (.str "Low" 443), k P "__firstlineno__" 446 (.int (70) 445), k P "filled" 456 (.ref 215), k P "read_back" 465 (.ref 222), k P "__static_attributes__" 466 (.ref 223)] 6
noncomputable def o205_4 : Obj := e1
noncomputable def o206_4 : Obj := nf #[(.int (72) 0), (.int (4) 0), (.ref 214), (.int (75) 0), (.int (4) 0), (.ref 221)]
noncomputable def o207_4 : Obj := co "Low" "Low" 437 70 0 0 205 false 206 .none 440
noncomputable def o208_4 : Obj := fm 207 204 (.str "joinload.rules" 292)
noncomputable def o209_4 : Obj := e1
noncomputable def o210_4 : Obj := e2
noncomputable def o211_4 : Obj := tu #[(.str "self" 450), (.str "word" 451), (.str "here" 452), (.str "there" 453)]
noncomputable def o212_4 : Obj := e1
noncomputable def o213_4 : Obj := ft (C 16 0) "filled" "Low.filled"
noncomputable def o214_4 : Obj := ⟨(.type "code"), none, (.fields #[(.str "filled" 447), (.str "Low.filled" 448), (.str "/claim/cut.py" 449), (.int (72) 0), (.int (4) 0), (.int (0) 0), (.int (0) 0), (.int (3) 0), (.ref 209), (.bool true), (.int (181) 0), (.ref 210), .none, (.ref 211), (.ref 212), (.ref 213), (.int (454) 0), (.int (72) 0), (.str "/claim/cut.py" 455)]), #[]⟩
noncomputable def o215_4 : Obj := fo (C 16 0) "filled" "Low.filled" "joinload.rules" 292 214
noncomputable def o216_4 : Obj := e1
noncomputable def o217_4 : Obj := e2
noncomputable def o218_4 : Obj := tu #[(.str "self" 460), (.str "word" 461), (.str "here" 462)]
noncomputable def o219_4 : Obj := e1
noncomputable def o220_4 : Obj := ft (C 16 1) "read_back" "Low.read_back"
noncomputable def o221_4 : Obj := ⟨(.type "code"), none, (.fields #[(.str "read_back" 457), (.str "Low.read_back" 458), (.str "/claim/cut.py" 459), (.int (75) 0), (.int (3) 0), (.int (0) 0), (.int (0) 0), (.int (3) 0), (.ref 216), (.bool true), (.int (181) 0), (.ref 217), .none, (.ref 218), (.ref 219), (.ref 220), (.int (463) 0), (.int (75) 0), (.str "/claim/cut.py" 464)]), #[]⟩
noncomputable def o222_4 : Obj := fo (C 16 1) "read_back" "Low.read_back" "joinload.rules" 292 221
noncomputable def o223_4 : Obj := e1
noncomputable def o224_4 (P : Params) : Obj := di [k P "__module__" 442 (.str "joinload.rules" 292), k P "__firstlineno__" 446 (.int (70) 445), k P "filled" 456 (.ref 215), k P "read_back" 465 (.ref 222), k P "__static_attributes__" 466 (.ref 223), k P "__doc__" 467 .none] 2
noncomputable def o225_4 : Obj := ⟨(.type "type"), none, (.cls ⟨"Low", [(.ref 145)], [(.ref 225), (.ref 145), (.type "object")], 224, "Low", true, [], [], false, none, false⟩), #[(some (.ref 202)), none, (some (.str "Low" 435)), (some (.str "Low" 443)), (some (.builtin "object.__new__")), (some (.bool true))]⟩
noncomputable def o226_4 : Obj := su 225
noncomputable def o227_4 : Obj := bs 225
noncomputable def d3_0 (P : Params) (r : List (Nat × Obj)) : List (Nat × Obj) := (3, o3_4 P) :: (12, o12_4) :: (145, o145_4) :: (176, o176_4) :: (177, o177_4) :: (178, o178_4 P) :: (179, o179_4) :: (180, o180_4) :: (181, o181_4) :: (182, o182_4) :: (183, o183_4) :: (184, o184_4) :: (185, o185_4) :: (186, o186_4) :: (187, o187_4) :: (188, o188_4) :: (189, o189_4) :: (190, o190_4) :: (191, o191_4) :: (192, o192_4) :: (193, o193_4) :: (194, o194_4) :: (195, o195_4) :: (196, o196_4) :: r
noncomputable def d3_1 (P : Params) (r : List (Nat × Obj)) : List (Nat × Obj) := (197, o197_4) :: (198, o198_4 P) :: (199, o199_4) :: (200, o200_4) :: (201, o201_4) :: (202, o202_4) :: (203, o203_4) :: (204, o204_4 P) :: (205, o205_4) :: (206, o206_4) :: (207, o207_4) :: (208, o208_4) :: (209, o209_4) :: (210, o210_4) :: (211, o211_4) :: (212, o212_4) :: (213, o213_4) :: (214, o214_4) :: (215, o215_4) :: (216, o216_4) :: (217, o217_4) :: (218, o218_4) :: (219, o219_4) :: (220, o220_4) :: r
noncomputable def d3_2 (P : Params) (r : List (Nat × Obj)) : List (Nat × Obj) := (221, o221_4) :: (222, o222_4) :: (223, o223_4) :: (224, o224_4 P) :: (225, o225_4) :: (226, o226_4) :: (227, o227_4) :: r
noncomputable def T3 (P : Params) : BT := mg 14 (T2 P) (d3_0 P (d3_1 P (d3_2 P ([]))))
noncomputable def S3T (w : World) : OsState → SharedT := sT (T3 w.params) 228 470
noncomputable def L2 : List Stmt := My.top 15 :: My.top 16 :: []
noncomputable def P2 (w : World) : Prop := sR w 559 S2T S3T L2 ⟨56, 0, 62, 16⟩ ⟨70, 0, 76, 16⟩
noncomputable def g3_5 (P : Params) : List DictEntry := sv (g3_4 P) 0 (.str "law_joinload_k45_loaded_words" 617) ++ [k P "Near" 520 (.ref 265), k P "Split" 572 (.ref 305), k P "way" 580 (.ref 314), k P "loaded" 598 (.ref 321), k P "start_of" 606 (.ref 328), k P "refuse_no_base" 616 (.ref 335), k P "_law_whole" 625 (.ref 342), k P "_law_cell_at" 633 (.ref 349)]
noncomputable def o3_5 (P : Params) : Obj := ⟨(.type "dict"), none, .dict (g3_5 P).toArray 31, #[]⟩
noncomputable def o12_5 : Obj := nf #[(.int (1) 0), (.int (0) 0), (.ref 20), (.int (5) 0), (.int (0) 0), (.ref 27), (.int (7) 0), (.int (0) 0), (.ref 40), (.int (9) 0), (.int (0) 0), (.ref 52), (.int (16) 0), (.int (0) 0), (.ref 71), (.int (18) 0), (.int (0) 0), (.ref 78), (.int (21) 0), (.int (0) 0), (.ref 85), (.int (23) 0), (.int (0) 0), (.ref 92), (.int (28) 0), (.int (0) 0), (.ref 99), (.int (40) 0), (.int (0) 0), (.ref 106), (.int (56) 0), (.int (0) 0), (.ref 155), (.int (63) 0), (.int (0) 0), (.ref 181), (.int (70) 0), (.int (0) 0), (.ref 207), (.int (77) 0), (.int (0) 0), (.ref 233), (.int (90) 0), (.int (0) 0), (.ref 273), (.int (104) 0), (.int (0) 0), (.ref 313), (.int (107) 0), (.int (0) 0), (.ref 320), (.int (117) 0), (.int (0) 0), (.ref 327), (.int (120) 0), (.int (0) 0), (.ref 334), (.int (126) 0), (.int (0) 0), (.ref 341), (.int (128) 0), (.int (0) 0), (.ref 348)]
noncomputable def o145_5 : Obj := ⟨(.type "type"), none, (.cls ⟨"Rule", [(.type "object")], [(.ref 145), (.type "object")], 144, "Rule", true, [], [(.ref 173), (.ref 199), (.ref 225), (.ref 265), (.ref 305)], false, none, false⟩), #[none, none, (some (.str "Rule" 301)), (some (.str "Rule" 309)), (some (.builtin "object.__new__")), (some (.bool true))]⟩
noncomputable def o228_5 : Obj := tu #[(.ref 145)]
noncomputable def o229_5 : Obj := bp
noncomputable def o230_5 (P : Params) : Obj := di [k P "__module__" 477 (.str "joinload.rules" 292), k P "__qualname__" 479 (.str "Near" 478), k P "__firstlineno__" 481 (.int (77) 480), k P "fits" 490 (.ref 241), k P "filled" 500 (.ref 248), k P "read_back" 509 (.ref 255), k P "leans" 516 (.ref 262), k P "__static_attributes__" 517 (.ref 263)] 8
noncomputable def o231_5 : Obj := e1
noncomputable def o232_5 : Obj := nf #[(.int (79) 0), (.int (4) 0), (.ref 240), (.int (82) 0), (.int (4) 0), (.ref 247), (.int (85) 0), (.int (4) 0), (.ref 254), (.int (88) 0), (.int (4) 0), (.ref 261)]
noncomputable def o233_5 : Obj := co "Near" "Near" 472 77 0 0 231 false 232 .none 475
noncomputable def o234_5 : Obj := fm 233 230 (.str "joinload.rules" 292)
noncomputable def o235_5 : Obj := e1
noncomputable def o236_5 : Obj := e2
noncomputable def o237_5 : Obj := tu #[(.str "self" 485), (.str "here" 486), (.str "there" 487)]
noncomputable def o238_5 : Obj := e1
noncomputable def o239_5 : Obj := ft (C 17 0) "fits" "Near.fits"
noncomputable def o240_5 : Obj := ⟨(.type "code"), none, (.fields #[(.str "fits" 482), (.str "Near.fits" 483), (.str "/claim/cut.py" 484), (.int (79) 0), (.int (3) 0), (.int (0) 0), (.int (0) 0), (.int (3) 0), (.ref 235), (.bool true), (.int (181) 0), (.ref 236), .none, (.ref 237), (.ref 238), (.ref 239), (.int (488) 0), (.int (79) 0), (.str "/claim/cut.py" 489)]), #[]⟩
noncomputable def o241_5 : Obj := fo (C 17 0) "fits" "Near.fits" "joinload.rules" 292 240
noncomputable def o242_5 : Obj := e1
noncomputable def o243_5 : Obj := e2
noncomputable def o244_5 : Obj := tu #[(.str "self" 494), (.str "word" 495), (.str "here" 496), (.str "there" 497)]
noncomputable def o245_5 : Obj := e1
noncomputable def o246_5 : Obj := ft (C 17 1) "filled" "Near.filled"
noncomputable def o247_5 : Obj := ⟨(.type "code"), none, (.fields #[(.str "filled" 491), (.str "Near.filled" 492), (.str "/claim/cut.py" 493), (.int (82) 0), (.int (4) 0), (.int (0) 0), (.int (0) 0), (.int (3) 0), (.ref 242), (.bool true), (.int (181) 0), (.ref 243), .none, (.ref 244), (.ref 245), (.ref 246), (.int (498) 0), (.int (82) 0), (.str "/claim/cut.py" 499)]), #[]⟩
noncomputable def o248_5 : Obj := fo (C 17 1) "filled" "Near.filled" "joinload.rules" 292 247
noncomputable def o249_5 : Obj := e1
noncomputable def o250_5 : Obj := e2
noncomputable def o251_5 : Obj := tu #[(.str "self" 504), (.str "word" 505), (.str "here" 506)]
noncomputable def o252_5 : Obj := e1
noncomputable def o253_5 : Obj := ft (C 17 2) "read_back" "Near.read_back"
noncomputable def o254_5 : Obj := ⟨(.type "code"), none, (.fields #[(.str "read_back" 501), (.str "Near.read_back" 502), (.str "/claim/cut.py" 503), (.int (85) 0), (.int (3) 0), (.int (0) 0), (.int (0) 0), (.int (3) 0), (.ref 249), (.bool true), (.int (181) 0), (.ref 250), .none, (.ref 251), (.ref 252), (.ref 253), (.int (507) 0), (.int (85) 0), (.str "/claim/cut.py" 508)]), #[]⟩
noncomputable def o255_5 : Obj := fo (C 17 2) "read_back" "Near.read_back" "joinload.rules" 292 254
noncomputable def o256_5 : Obj := e1
noncomputable def o257_5 : Obj := e2
noncomputable def o258_5 : Obj := tu #[(.str "self" 513)]
noncomputable def o259_5 : Obj := e1
noncomputable def o260_5 : Obj := ft (C 17 3) "leans" "Near.leans"
noncomputable def o261_5 : Obj := ⟨(.type "code"), none, (.fields #[(.str "leans" 510), (.str "Near.leans" 511), (.str "/claim/cut.py" 512), (.int (88) 0), (.int (1) 0), (.int (0) 0), (.int (0) 0), (.int (3) 0), (.ref 256), (.bool true), (.int (181) 0), (.ref 257), .none, (.ref 258), (.ref 259), (.ref 260), (.int (514) 0), (.int (88) 0), (.str "/claim/cut.py" 515)]), #[]⟩
noncomputable def o262_5 : Obj := fo (C 17 3) "leans" "Near.leans" "joinload.rules" 292 261
noncomputable def o263_5 : Obj := e1
noncomputable def o264_5 (P : Params) : Obj := di [k P "__module__" 477 (.str "joinload.rules" 292), k P "__firstlineno__" 481 (.int (77) 480), k P "fits" 490 (.ref 241), k P "filled" 500 (.ref 248), k P "read_back" 509 (.ref 255), k P "leans" 516 (.ref 262), k P "__static_attributes__" 517 (.ref 263), k P "__doc__" 518 .none] 2
noncomputable def o265_5 : Obj := ⟨(.type "type"), none, (.cls ⟨"Near", [(.ref 145)], [(.ref 265), (.ref 145), (.type "object")], 264, "Near", true, [], [], false, none, false⟩), #[(some (.ref 228)), none, (some (.str "Near" 470)), (some (.str "Near" 478)), (some (.builtin "object.__new__")), (some (.bool true))]⟩
noncomputable def o266_5 : Obj := su 265
noncomputable def o267_5 : Obj := bs 265
noncomputable def o268_5 : Obj := tu #[(.ref 145)]
noncomputable def o269_5 : Obj := bp
noncomputable def o270_5 (P : Params) : Obj := di [k P "__module__" 528 (.str "joinload.rules" 292), k P "__qualname__" 530 (.str "Split" 529), k P "__firstlineno__" 532 (.int (90) 531), k P "fits" 541 (.ref 281), k P "filled" 552 (.ref 288), k P "read_back" 561 (.ref 295), k P "leans" 568 (.ref 302), k P "__static_attributes__" 569 (.ref 303)] 8
noncomputable def o271_5 : Obj := e1
noncomputable def o272_5 : Obj := nf #[(.int (92) 0), (.int (4) 0), (.ref 280), (.int (95) 0), (.int (4) 0), (.ref 287), (.int (99) 0), (.int (4) 0), (.ref 294), (.int (102) 0), (.int (4) 0), (.ref 301)]
noncomputable def o273_5 : Obj := co "Split" "Split" 523 90 0 0 271 false 272 .none 526
noncomputable def o274_5 : Obj := fm 273 270 (.str "joinload.rules" 292)
noncomputable def o275_5 : Obj := e1
noncomputable def o276_5 : Obj := e2
noncomputable def o277_5 : Obj := tu #[(.str "self" 536), (.str "here" 537), (.str "there" 538)]
noncomputable def o278_5 : Obj := e1
noncomputable def o279_5 : Obj := ft (C 18 0) "fits" "Split.fits"
noncomputable def o280_5 : Obj := ⟨(.type "code"), none, (.fields #[(.str "fits" 533), (.str "Split.fits" 534), (.str "/claim/cut.py" 535), (.int (92) 0), (.int (3) 0), (.int (0) 0), (.int (0) 0), (.int (3) 0), (.ref 275), (.bool true), (.int (181) 0), (.ref 276), .none, (.ref 277), (.ref 278), (.ref 279), (.int (539) 0), (.int (92) 0), (.str "/claim/cut.py" 540)]), #[]⟩
noncomputable def o281_5 : Obj := fo (C 18 0) "fits" "Split.fits" "joinload.rules" 292 280
noncomputable def o282_5 : Obj := e1
noncomputable def o283_5 : Obj := e2
noncomputable def o284_5 : Obj := tu #[(.str "self" 545), (.str "word" 546), (.str "here" 547), (.str "there" 548), (.str "lower" 549)]
noncomputable def o285_5 : Obj := e1
noncomputable def o286_5 : Obj := ft (C 18 1) "filled" "Split.filled"
noncomputable def o287_5 : Obj := ⟨(.type "code"), none, (.fields #[(.str "filled" 542), (.str "Split.filled" 543), (.str "/claim/cut.py" 544), (.int (95) 0), (.int (4) 0), (.int (0) 0), (.int (0) 0), (.int (3) 0), (.ref 282), (.bool true), (.int (181) 0), (.ref 283), .none, (.ref 284), (.ref 285), (.ref 286), (.int (550) 0), (.int (95) 0), (.str "/claim/cut.py" 551)]), #[]⟩
noncomputable def o288_5 : Obj := fo (C 18 1) "filled" "Split.filled" "joinload.rules" 292 287
noncomputable def o289_5 : Obj := e1
noncomputable def o290_5 : Obj := e2
noncomputable def o291_5 : Obj := tu #[(.str "self" 556), (.str "word" 557), (.str "here" 558)]
noncomputable def o292_5 : Obj := e1
noncomputable def o293_5 : Obj := ft (C 18 2) "read_back" "Split.read_back"
noncomputable def o294_5 : Obj := ⟨(.type "code"), none, (.fields #[(.str "read_back" 553), (.str "Split.read_back" 554), (.str "/claim/cut.py" 555), (.int (99) 0), (.int (3) 0), (.int (0) 0), (.int (0) 0), (.int (3) 0), (.ref 289), (.bool true), (.int (181) 0), (.ref 290), .none, (.ref 291), (.ref 292), (.ref 293), (.int (559) 0), (.int (99) 0), (.str "/claim/cut.py" 560)]), #[]⟩
noncomputable def o295_5 : Obj := fo (C 18 2) "read_back" "Split.read_back" "joinload.rules" 292 294
noncomputable def o296_5 : Obj := e1
noncomputable def o297_5 : Obj := e2
noncomputable def o298_5 : Obj := tu #[(.str "self" 565)]
noncomputable def o299_5 : Obj := e1
noncomputable def o300_5 : Obj := ft (C 18 3) "leans" "Split.leans"
noncomputable def o301_5 : Obj := ⟨(.type "code"), none, (.fields #[(.str "leans" 562), (.str "Split.leans" 563), (.str "/claim/cut.py" 564), (.int (102) 0), (.int (1) 0), (.int (0) 0), (.int (0) 0), (.int (3) 0), (.ref 296), (.bool true), (.int (181) 0), (.ref 297), .none, (.ref 298), (.ref 299), (.ref 300), (.int (566) 0), (.int (102) 0), (.str "/claim/cut.py" 567)]), #[]⟩
noncomputable def o302_5 : Obj := fo (C 18 3) "leans" "Split.leans" "joinload.rules" 292 301
noncomputable def o303_5 : Obj := e1
noncomputable def o304_5 (P : Params) : Obj := di [k P "__module__" 528 (.str "joinload.rules" 292), k P "__firstlineno__" 532 (.int (90) 531), k P "fits" 541 (.ref 281), k P "filled" 552 (.ref 288), k P "read_back" 561 (.ref 295), k P "leans" 568 (.ref 302), k P "__static_attributes__" 569 (.ref 303), k P "__doc__" 570 .none] 2
noncomputable def o305_5 : Obj := ⟨(.type "type"), none, (.cls ⟨"Split", [(.ref 145)], [(.ref 305), (.ref 145), (.type "object")], 304, "Split", true, [], [], false, none, false⟩), #[(some (.ref 268)), none, (some (.str "Split" 521)), (some (.str "Split" 529)), (some (.builtin "object.__new__")), (some (.bool true))]⟩
noncomputable def o306_5 : Obj := su 305
noncomputable def o307_5 : Obj := bs 305
noncomputable def o308_5 : Obj := e1
noncomputable def o309_5 : Obj := e2
noncomputable def o310_5 : Obj := tu #[(.str "here" 576), (.str "there" 577)]
noncomputable def o311_5 : Obj := e1
noncomputable def o312_5 : Obj := ft (T 19) "way" "way"
noncomputable def o313_5 : Obj := ⟨(.type "code"), none, (.fields #[(.str "way" 573), (.str "way" 574), (.str "/claim/cut.py" 575), (.int (104) 0), (.int (2) 0), (.int (0) 0), (.int (0) 0), (.int (3) 0), (.ref 308), (.bool true), (.int (181) 0), (.ref 309), .none, (.ref 310), (.ref 311), (.ref 312), (.int (578) 0), (.int (104) 0), (.str "/claim/cut.py" 579)]), #[]⟩
noncomputable def o314_5 : Obj := fo (T 19) "way" "way" "joinload.rules" 292 313
noncomputable def o315_5 : Obj := e1
noncomputable def o316_5 : Obj := e2
noncomputable def o317_5 : Obj := tu #[(.str "whole" 586), (.str "base" 587), (.str "words_at" 588), (.str "place" 589), (.str "words" 590), (.str "at" 591), (.str "word" 592), (.str "title" 593), (.str "target" 594), (.str "here" 595)]
noncomputable def o318_5 : Obj := e1
noncomputable def o319_5 : Obj := ft (T 21) "loaded" "loaded"
noncomputable def o320_5 : Obj := ⟨(.type "code"), none, (.fields #[(.str "loaded" 583), (.str "loaded" 584), (.str "/claim/cut.py" 585), (.int (107) 0), (.int (2) 0), (.int (0) 0), (.int (0) 0), (.int (3) 0), (.ref 315), (.bool true), (.int (181) 0), (.ref 316), .none, (.ref 317), (.ref 318), (.ref 319), (.int (596) 0), (.int (107) 0), (.str "/claim/cut.py" 597)]), #[]⟩
noncomputable def o321_5 : Obj := fo (T 21) "loaded" "loaded" "joinload.loading" 581 320
noncomputable def o322_5 : Obj := e1
noncomputable def o323_5 : Obj := e2
noncomputable def o324_5 : Obj := tu #[(.str "whole" 602), (.str "base" 603)]
noncomputable def o325_5 : Obj := e1
noncomputable def o326_5 : Obj := ft (T 22) "start_of" "start_of"
noncomputable def o327_5 : Obj := ⟨(.type "code"), none, (.fields #[(.str "start_of" 599), (.str "start_of" 600), (.str "/claim/cut.py" 601), (.int (117) 0), (.int (2) 0), (.int (0) 0), (.int (0) 0), (.int (3) 0), (.ref 322), (.bool true), (.int (181) 0), (.ref 323), .none, (.ref 324), (.ref 325), (.ref 326), (.int (604) 0), (.int (117) 0), (.str "/claim/cut.py" 605)]), #[]⟩
noncomputable def o328_5 : Obj := fo (T 22) "start_of" "start_of" "joinload.loading" 581 327
noncomputable def o329_5 : Obj := e1
noncomputable def o330_5 : Obj := e2
noncomputable def o331_5 : Obj := tu #[(.str "whole" 610), (.str "base" 611), (.str "step" 612), (.str "size" 613)]
noncomputable def o332_5 : Obj := e1
noncomputable def o333_5 : Obj := ft (T 23) "refuse_no_base" "refuse_no_base"
noncomputable def o334_5 : Obj := ⟨(.type "code"), none, (.fields #[(.str "refuse_no_base" 607), (.str "refuse_no_base" 608), (.str "/claim/cut.py" 609), (.int (120) 0), (.int (2) 0), (.int (0) 0), (.int (0) 0), (.int (3) 0), (.ref 329), (.bool true), (.int (181) 0), (.ref 330), .none, (.ref 331), (.ref 332), (.ref 333), (.int (614) 0), (.int (120) 0), (.str "/claim/cut.py" 615)]), #[]⟩
noncomputable def o335_5 : Obj := fo (T 23) "refuse_no_base" "refuse_no_base" "joinload.loading" 581 334
noncomputable def o336_5 : Obj := e1
noncomputable def o337_5 : Obj := e2
noncomputable def o338_5 : Obj := tu #[(.str "_law_found" 622)]
noncomputable def o339_5 : Obj := e1
noncomputable def o340_5 : Obj := ft (T 25) "_law_whole" "_law_whole"
noncomputable def o341_5 : Obj := ⟨(.type "code"), none, (.fields #[(.str "_law_whole" 619), (.str "_law_whole" 620), (.str "/claim/cut.py" 621), (.int (126) 0), (.int (1) 0), (.int (0) 0), (.int (0) 0), (.int (3) 0), (.ref 336), (.bool true), (.int (181) 0), (.ref 337), .none, (.ref 338), (.ref 339), (.ref 340), (.int (623) 0), (.int (126) 0), (.str "/claim/cut.py" 624)]), #[]⟩
noncomputable def o342_5 : Obj := fo (T 25) "_law_whole" "_law_whole" "law_joinload_k45_loaded_words" 617 341
noncomputable def o343_5 : Obj := e1
noncomputable def o344_5 : Obj := e2
noncomputable def o345_5 : Obj := tu #[(.str "_law_script" 629), (.str "_law_k" 630)]
noncomputable def o346_5 : Obj := e1
noncomputable def o347_5 : Obj := ft (T 26) "_law_cell_at" "_law_cell_at"
noncomputable def o348_5 : Obj := ⟨(.type "code"), none, (.fields #[(.str "_law_cell_at" 626), (.str "_law_cell_at" 627), (.str "/claim/cut.py" 628), (.int (128) 0), (.int (2) 0), (.int (0) 0), (.int (0) 0), (.int (3) 0), (.ref 343), (.bool true), (.int (181) 0), (.ref 344), .none, (.ref 345), (.ref 346), (.ref 347), (.int (631) 0), (.int (128) 0), (.str "/claim/cut.py" 632)]), #[]⟩
noncomputable def o349_5 : Obj := fo (T 26) "_law_cell_at" "_law_cell_at" "law_joinload_k45_loaded_words" 617 348
noncomputable def d4_0 (P : Params) (r : List (Nat × Obj)) : List (Nat × Obj) := (3, o3_5 P) :: (12, o12_5) :: (145, o145_5) :: (228, o228_5) :: (229, o229_5) :: (230, o230_5 P) :: (231, o231_5) :: (232, o232_5) :: (233, o233_5) :: (234, o234_5) :: (235, o235_5) :: (236, o236_5) :: (237, o237_5) :: (238, o238_5) :: (239, o239_5) :: (240, o240_5) :: (241, o241_5) :: (242, o242_5) :: (243, o243_5) :: (244, o244_5) :: (245, o245_5) :: (246, o246_5) :: (247, o247_5) :: (248, o248_5) :: r
noncomputable def d4_1 (P : Params) (r : List (Nat × Obj)) : List (Nat × Obj) := (249, o249_5) :: (250, o250_5) :: (251, o251_5) :: (252, o252_5) :: (253, o253_5) :: (254, o254_5) :: (255, o255_5) :: (256, o256_5) :: (257, o257_5) :: (258, o258_5) :: (259, o259_5) :: (260, o260_5) :: (261, o261_5) :: (262, o262_5) :: (263, o263_5) :: (264, o264_5 P) :: (265, o265_5) :: (266, o266_5) :: (267, o267_5) :: (268, o268_5) :: (269, o269_5) :: (270, o270_5 P) :: (271, o271_5) :: (272, o272_5) :: r
noncomputable def d4_2 (P : Params) (r : List (Nat × Obj)) : List (Nat × Obj) := (273, o273_5) :: (274, o274_5) :: (275, o275_5) :: (276, o276_5) :: (277, o277_5) :: (278, o278_5) :: (279, o279_5) :: (280, o280_5) :: (281, o281_5) :: (282, o282_5) :: (283, o283_5) :: (284, o284_5) :: (285, o285_5) :: (286, o286_5) :: (287, o287_5) :: (288, o288_5) :: (289, o289_5) :: (290, o290_5) :: (291, o291_5) :: (292, o292_5) :: (293, o293_5) :: (294, o294_5) :: (295, o295_5) :: (296, o296_5) :: r
noncomputable def d4_3 (P : Params) (r : List (Nat × Obj)) : List (Nat × Obj) := (297, o297_5) :: (298, o298_5) :: (299, o299_5) :: (300, o300_5) :: (301, o301_5) :: (302, o302_5) :: (303, o303_5) :: (304, o304_5 P) :: (305, o305_5) :: (306, o306_5) :: (307, o307_5) :: (308, o308_5) :: (309, o309_5) :: (310, o310_5) :: (311, o311_5) :: (312, o312_5) :: (313, o313_5) :: (314, o314_5) :: (315, o315_5) :: (316, o316_5) :: (317, o317_5) :: (318, o318_5) :: (319, o319_5) :: (320, o320_5) :: r
noncomputable def d4_4 (P : Params) (r : List (Nat × Obj)) : List (Nat × Obj) := (321, o321_5) :: (322, o322_5) :: (323, o323_5) :: (324, o324_5) :: (325, o325_5) :: (326, o326_5) :: (327, o327_5) :: (328, o328_5) :: (329, o329_5) :: (330, o330_5) :: (331, o331_5) :: (332, o332_5) :: (333, o333_5) :: (334, o334_5) :: (335, o335_5) :: (336, o336_5) :: (337, o337_5) :: (338, o338_5) :: (339, o339_5) :: (340, o340_5) :: (341, o341_5) :: (342, o342_5) :: (343, o343_5) :: (344, o344_5) :: r
noncomputable def d4_5 (P : Params) (r : List (Nat × Obj)) : List (Nat × Obj) := (345, o345_5) :: (346, o346_5) :: (347, o347_5) :: (348, o348_5) :: (349, o349_5) :: r
noncomputable def T4 (P : Params) : BT := mg 14 (T3 P) (d4_0 P (d4_1 P (d4_2 P (d4_3 P (d4_4 P (d4_5 P ([])))))))
noncomputable def S4T (w : World) : OsState → SharedT := sT (T4 w.params) 350 634
noncomputable def L3 : List Stmt := My.top 17 :: My.top 18 :: My.top 19 :: My.top 20 :: My.top 21 :: My.top 22 :: My.top 23 :: My.top 24 :: My.top 25 :: My.top 26 :: []
noncomputable def P3 (w : World) : Prop := sR w 895 S3T S4T L3 ⟨70, 0, 76, 16⟩ ⟨128, 0, 131, 12⟩
noncomputable def g3_6 (P : Params) : List DictEntry := g3_5 P ++ [k P "_law_target_by" 640 (.ref 356), k P "_law_put" 655 (.ref 363), k P "_law_end" 662 (.ref 370), k P "_law_built" 679 (.ref 377), k P "_law_base_by" 688 (.ref 384), k P "_law_copy" 694 (.ref 389), k P "_law_filled_so" 704 (.ref 396), k P "_law_due_words" 715 (.ref 403), k P "_law_loaded_so" 731 (.ref 410), k P "law" 745 (.ref 417)]
noncomputable def o3_6 (P : Params) : Obj := ⟨(.type "dict"), none, .dict (g3_6 P).toArray 41, #[]⟩
noncomputable def o12_6 : Obj := nf #[(.int (1) 0), (.int (0) 0), (.ref 20), (.int (5) 0), (.int (0) 0), (.ref 27), (.int (7) 0), (.int (0) 0), (.ref 40), (.int (9) 0), (.int (0) 0), (.ref 52), (.int (16) 0), (.int (0) 0), (.ref 71), (.int (18) 0), (.int (0) 0), (.ref 78), (.int (21) 0), (.int (0) 0), (.ref 85), (.int (23) 0), (.int (0) 0), (.ref 92), (.int (28) 0), (.int (0) 0), (.ref 99), (.int (40) 0), (.int (0) 0), (.ref 106), (.int (56) 0), (.int (0) 0), (.ref 155), (.int (63) 0), (.int (0) 0), (.ref 181), (.int (70) 0), (.int (0) 0), (.ref 207), (.int (77) 0), (.int (0) 0), (.ref 233), (.int (90) 0), (.int (0) 0), (.ref 273), (.int (104) 0), (.int (0) 0), (.ref 313), (.int (107) 0), (.int (0) 0), (.ref 320), (.int (117) 0), (.int (0) 0), (.ref 327), (.int (120) 0), (.int (0) 0), (.ref 334), (.int (126) 0), (.int (0) 0), (.ref 341), (.int (128) 0), (.int (0) 0), (.ref 348), (.int (132) 0), (.int (0) 0), (.ref 355), (.int (138) 0), (.int (0) 0), (.ref 362), (.int (156) 0), (.int (0) 0), (.ref 369), (.int (160) 0), (.int (0) 0), (.ref 376), (.int (173) 0), (.int (0) 0), (.ref 383), (.int (176) 0), (.int (0) 0), (.ref 388), (.int (179) 0), (.int (0) 0), (.ref 395), (.int (187) 0), (.int (0) 0), (.ref 402), (.int (193) 0), (.int (0) 0), (.ref 409), (.int (212) 0), (.int (0) 0), (.ref 416)]
noncomputable def o350_6 : Obj := e1
noncomputable def o351_6 : Obj := e2
noncomputable def o352_6 : Obj := tu #[(.str "_law_number" 637)]
noncomputable def o353_6 : Obj := e1
noncomputable def o354_6 : Obj := ft (T 27) "_law_target_by" "_law_target_by"
noncomputable def o355_6 : Obj := ⟨(.type "code"), none, (.fields #[(.str "_law_target_by" 634), (.str "_law_target_by" 635), (.str "/claim/cut.py" 636), (.int (132) 0), (.int (1) 0), (.int (0) 0), (.int (0) 0), (.int (3) 0), (.ref 350), (.bool true), (.int (181) 0), (.ref 351), .none, (.ref 352), (.ref 353), (.ref 354), (.int (638) 0), (.int (132) 0), (.str "/claim/cut.py" 639)]), #[]⟩
noncomputable def o356_6 : Obj := fo (T 27) "_law_target_by" "_law_target_by" "law_joinload_k45_loaded_words" 617 355
noncomputable def o357_6 : Obj := e1
noncomputable def o358_6 : Obj := e2
noncomputable def o359_6 : Obj := tu #[(.str "_law_cell" 644), (.str "_law_parts" 645), (.str "_law_leans" 646), (.str "_law_end_here" 647), (.str "_law_number" 648), (.str "_law_place" 649), (.str "_law_word" 650), (.str "_law_rows" 651), (.str "_law_rule" 652)]
noncomputable def o360_6 : Obj := e1
noncomputable def o361_6 : Obj := ft (T 28) "_law_put" "_law_put"
noncomputable def o362_6 : Obj := ⟨(.type "code"), none, (.fields #[(.str "_law_put" 641), (.str "_law_put" 642), (.str "/claim/cut.py" 643), (.int (138) 0), (.int (4) 0), (.int (0) 0), (.int (0) 0), (.int (3) 0), (.ref 357), (.bool true), (.int (181) 0), (.ref 358), .none, (.ref 359), (.ref 360), (.ref 361), (.int (653) 0), (.int (138) 0), (.str "/claim/cut.py" 654)]), #[]⟩
noncomputable def o363_6 : Obj := fo (T 28) "_law_put" "_law_put" "law_joinload_k45_loaded_words" 617 362
noncomputable def o364_6 : Obj := e1
noncomputable def o365_6 : Obj := e2
noncomputable def o366_6 : Obj := tu #[(.str "_law_parts" 659)]
noncomputable def o367_6 : Obj := e1
noncomputable def o368_6 : Obj := ft (T 29) "_law_end" "_law_end"
noncomputable def o369_6 : Obj := ⟨(.type "code"), none, (.fields #[(.str "_law_end" 656), (.str "_law_end" 657), (.str "/claim/cut.py" 658), (.int (156) 0), (.int (1) 0), (.int (0) 0), (.int (0) 0), (.int (3) 0), (.ref 364), (.bool true), (.int (181) 0), (.ref 365), .none, (.ref 366), (.ref 367), (.ref 368), (.int (660) 0), (.int (156) 0), (.str "/claim/cut.py" 661)]), #[]⟩
noncomputable def o370_6 : Obj := fo (T 29) "_law_end" "_law_end" "law_joinload_k45_loaded_words" 617 369
noncomputable def o371_6 : Obj := e1
noncomputable def o372_6 : Obj := e2
noncomputable def o373_6 : Obj := tu #[(.str "_law_script" 666), (.str "_law_most" 667), (.str "_law_parts" 668), (.str "_law_leans" 669), (.str "_law_rows" 670), (.str "_law_cell" 671), (.str "_law_end_here" 672), (.str "_law_number" 673), (.str "_law_size" 674), (.str "_law_entry" 675), (.str "_law_step" 676)]
noncomputable def o374_6 : Obj := e1
noncomputable def o375_6 : Obj := ft (T 30) "_law_built" "_law_built"
noncomputable def o376_6 : Obj := ⟨(.type "code"), none, (.fields #[(.str "_law_built" 663), (.str "_law_built" 664), (.str "/claim/cut.py" 665), (.int (160) 0), (.int (2) 0), (.int (0) 0), (.int (0) 0), (.int (3) 0), (.ref 371), (.bool true), (.int (181) 0), (.ref 372), .none, (.ref 373), (.ref 374), (.ref 375), (.int (677) 0), (.int (160) 0), (.str "/claim/cut.py" 678)]), #[]⟩
noncomputable def o377_6 : Obj := fo (T 30) "_law_built" "_law_built" "law_joinload_k45_loaded_words" 617 376
noncomputable def o378_6 : Obj := e1
noncomputable def o379_6 : Obj := e2
noncomputable def o380_6 : Obj := tu #[(.str "_law_whole_here" 683), (.str "_law_cell" 684), (.str "_law_most" 685)]
noncomputable def o381_6 : Obj := e1
noncomputable def o382_6 : Obj := ft (T 31) "_law_base_by" "_law_base_by"
noncomputable def o383_6 : Obj := ⟨(.type "code"), none, (.fields #[(.str "_law_base_by" 680), (.str "_law_base_by" 681), (.str "/claim/cut.py" 682), (.int (173) 0), (.int (2) 0), (.int (0) 0), (.int (0) 0), (.int (3) 0), (.ref 378), (.bool true), (.int (181) 0), (.ref 379), .none, (.ref 380), (.ref 381), (.ref 382), (.int (686) 0), (.int (173) 0), (.str "/claim/cut.py" 687)]), #[]⟩
noncomputable def o384_6 : Obj := fo (T 31) "_law_base_by" "_law_base_by" "law_joinload_k45_loaded_words" 617 383
noncomputable def o385_6 : Obj := e1
noncomputable def o386_6 : Obj := e2
noncomputable def o387_6 : Obj := ft (T 32) "_law_copy" "_law_copy"
noncomputable def o388_6 : Obj := co "_law_copy" "_law_copy" 689 176 1 3 385 true 386 (.ref 387) 692
noncomputable def o389_6 : Obj := fo (T 32) "_law_copy" "_law_copy" "law_joinload_k45_loaded_words" 617 388
noncomputable def o390_6 : Obj := e1
noncomputable def o391_6 : Obj := e2
noncomputable def o392_6 : Obj := tu #[(.str "_law_rule" 698), (.str "_law_word" 699), (.str "_law_there" 700), (.str "_law_found" 701)]
noncomputable def o393_6 : Obj := e1
noncomputable def o394_6 : Obj := ft (T 33) "_law_filled_so" "_law_filled_so"
noncomputable def o395_6 : Obj := ⟨(.type "code"), none, (.fields #[(.str "_law_filled_so" 695), (.str "_law_filled_so" 696), (.str "/claim/cut.py" 697), (.int (179) 0), (.int (4) 0), (.int (0) 0), (.int (0) 0), (.int (3) 0), (.ref 390), (.bool true), (.int (181) 0), (.ref 391), .none, (.ref 392), (.ref 393), (.ref 394), (.int (702) 0), (.int (179) 0), (.str "/claim/cut.py" 703)]), #[]⟩
noncomputable def o396_6 : Obj := fo (T 33) "_law_filled_so" "_law_filled_so" "law_joinload_k45_loaded_words" 617 395
noncomputable def o397_6 : Obj := e1
noncomputable def o398_6 : Obj := e2
noncomputable def o399_6 : Obj := tu #[(.str "_law_whole_here" 708), (.str "_law_due" 709), (.str "_law_place" 710), (.str "_law_words" 711), (.str "_law_k" 712)]
noncomputable def o400_6 : Obj := e1
noncomputable def o401_6 : Obj := ft (T 34) "_law_due_words" "_law_due_words"
noncomputable def o402_6 : Obj := ⟨(.type "code"), none, (.fields #[(.str "_law_due_words" 705), (.str "_law_due_words" 706), (.str "/claim/cut.py" 707), (.int (187) 0), (.int (1) 0), (.int (0) 0), (.int (0) 0), (.int (3) 0), (.ref 397), (.bool true), (.int (181) 0), (.ref 398), .none, (.ref 399), (.ref 400), (.ref 401), (.int (713) 0), (.int (187) 0), (.str "/claim/cut.py" 714)]), #[]⟩
noncomputable def o403_6 : Obj := fo (T 34) "_law_due_words" "_law_due_words" "law_joinload_k45_loaded_words" 617 402
noncomputable def o404_6 : Obj := e1
noncomputable def o405_6 : Obj := e2
noncomputable def o406_6 : Obj := tu #[(.str "_law_found" 719), (.str "_law_whole_here" 720), (.str "_law_base" 721), (.str "_law_due" 722), (.str "_law_leaned" 723), (.str "_law_place" 724), (.str "_law_rule" 725), (.str "_law_target" 726), (.str "_law_here" 727), (.str "_law_there" 728)]
noncomputable def o407_6 : Obj := e1
noncomputable def o408_6 : Obj := ft (T 35) "_law_loaded_so" "_law_loaded_so"
noncomputable def o409_6 : Obj := ⟨(.type "code"), none, (.fields #[(.str "_law_loaded_so" 716), (.str "_law_loaded_so" 717), (.str "/claim/cut.py" 718), (.int (193) 0), (.int (3) 0), (.int (0) 0), (.int (0) 0), (.int (3) 0), (.ref 404), (.bool true), (.int (181) 0), (.ref 405), .none, (.ref 406), (.ref 407), (.ref 408), (.int (729) 0), (.int (193) 0), (.str "/claim/cut.py" 730)]), #[]⟩
noncomputable def o410_6 : Obj := fo (T 35) "_law_loaded_so" "_law_loaded_so" "law_joinload_k45_loaded_words" 617 409
noncomputable def o411_6 : Obj := e1
noncomputable def o412_6 : Obj := e2
noncomputable def o413_6 : Obj := tu #[(.str "_law_script" 735), (.str "_law_rows" 736), (.str "_law_whole_here" 737), (.str "_law_base" 738), (.str "_law_handed" 739), (.str "_law_found" 740), (.str "_law_start" 741), (.str "_law_kept" 742)]
noncomputable def o414_6 : Obj := e1
noncomputable def o415_6 : Obj := ft (T 36) "law" "law"
noncomputable def o416_6 : Obj := ⟨(.type "code"), none, (.fields #[(.str "law" 732), (.str "law" 733), (.str "/claim/cut.py" 734), (.int (212) 0), (.int (1) 0), (.int (0) 0), (.int (0) 0), (.int (3) 0), (.ref 411), (.bool true), (.int (181) 0), (.ref 412), .none, (.ref 413), (.ref 414), (.ref 415), (.int (743) 0), (.int (212) 0), (.str "/claim/cut.py" 744)]), #[]⟩
noncomputable def o417_6 : Obj := fo (T 36) "law" "law" "law_joinload_k45_loaded_words" 617 416
noncomputable def d5_0 (P : Params) (r : List (Nat × Obj)) : List (Nat × Obj) := (3, o3_6 P) :: (12, o12_6) :: (350, o350_6) :: (351, o351_6) :: (352, o352_6) :: (353, o353_6) :: (354, o354_6) :: (355, o355_6) :: (356, o356_6) :: (357, o357_6) :: (358, o358_6) :: (359, o359_6) :: (360, o360_6) :: (361, o361_6) :: (362, o362_6) :: (363, o363_6) :: (364, o364_6) :: (365, o365_6) :: (366, o366_6) :: (367, o367_6) :: (368, o368_6) :: (369, o369_6) :: (370, o370_6) :: (371, o371_6) :: r
noncomputable def d5_1 (P : Params) (r : List (Nat × Obj)) : List (Nat × Obj) := (372, o372_6) :: (373, o373_6) :: (374, o374_6) :: (375, o375_6) :: (376, o376_6) :: (377, o377_6) :: (378, o378_6) :: (379, o379_6) :: (380, o380_6) :: (381, o381_6) :: (382, o382_6) :: (383, o383_6) :: (384, o384_6) :: (385, o385_6) :: (386, o386_6) :: (387, o387_6) :: (388, o388_6) :: (389, o389_6) :: (390, o390_6) :: (391, o391_6) :: (392, o392_6) :: (393, o393_6) :: (394, o394_6) :: (395, o395_6) :: r
noncomputable def d5_2 (P : Params) (r : List (Nat × Obj)) : List (Nat × Obj) := (396, o396_6) :: (397, o397_6) :: (398, o398_6) :: (399, o399_6) :: (400, o400_6) :: (401, o401_6) :: (402, o402_6) :: (403, o403_6) :: (404, o404_6) :: (405, o405_6) :: (406, o406_6) :: (407, o407_6) :: (408, o408_6) :: (409, o409_6) :: (410, o410_6) :: (411, o411_6) :: (412, o412_6) :: (413, o413_6) :: (414, o414_6) :: (415, o415_6) :: (416, o416_6) :: (417, o417_6) :: r
noncomputable def T5 (P : Params) : BT := mg 14 (T4 P) (d5_0 P (d5_1 P (d5_2 P ([]))))
noncomputable def S5T (w : World) : OsState → SharedT := sT (T5 w.params) 418 746
noncomputable def L4 : List Stmt := My.top 27 :: My.top 28 :: My.top 29 :: My.top 30 :: My.top 31 :: My.top 32 :: My.top 33 :: My.top 34 :: My.top 35 :: My.top 36 :: []
noncomputable def P4 (w : World) : Prop := sR w 331 S4T S5T L4 ⟨128, 0, 131, 12⟩ ⟨212, 0, 228, 69⟩
noncomputable def h_0 (P : Params) (r : List Obj) : List Obj := boot_o_0 P :: boot_o_1 P :: boot_o_2 P :: o3_6 P :: boot_o_4 P :: boot_o_5 P :: boot_o_6 P :: boot_o_7 P :: boot_o_8 P :: boot_o_9 P :: boot_o_10 P :: o11_0 :: o12_6 :: o13_0 :: o14_0 :: o15_2 :: o16_2 :: o17_2 :: o18_2 :: o19_2 :: o20_2 :: o21_2 :: o22_2 :: o23_2 :: r
noncomputable def h_1 (P : Params) (r : List Obj) : List Obj := o24_2 P :: o25_2 :: o26_2 :: o27_2 :: o28_2 :: o29_2 :: o30_2 P :: o31_2 :: o32_2 :: o33_2 :: o34_2 :: o35_2 :: o36_2 :: o37_2 P :: o38_2 :: o39_2 :: o40_2 :: o41_2 :: o42_2 :: o43_2 P :: o44_2 :: o45_2 :: o46_2 :: o47_2 :: r
noncomputable def h_2 (P : Params) (r : List Obj) : List Obj := o48_2 :: o49_2 P :: o50_2 :: o51_2 :: o52_2 :: o53_2 :: o54_2 :: o55_2 :: o56_2 :: o57_2 :: o58_2 :: o59_2 :: o60_2 :: o61_2 :: o62_2 P :: o63_2 :: o64_2 :: o65_2 :: o66_2 :: o67_2 :: o68_2 :: o69_2 :: o70_2 :: o71_2 :: r
noncomputable def h_3 (P : Params) (r : List Obj) : List Obj := o72_2 :: o73_2 :: o74_2 :: o75_2 :: o76_2 :: o77_2 :: o78_2 :: o79_2 :: o80_2 :: o81_2 :: o82_2 :: o83_2 :: o84_2 :: o85_2 :: o86_2 :: o87_2 :: o88_2 :: o89_2 :: o90_2 :: o91_2 :: o92_2 :: o93_2 :: o94_2 :: o95_2 :: r
noncomputable def h_4 (P : Params) (r : List Obj) : List Obj := o96_2 :: o97_2 :: o98_2 :: o99_2 :: o100_2 :: o101_3 :: o102_3 :: o103_3 P :: o104_3 :: o105_3 :: o106_3 :: o107_3 :: o108_3 :: o109_3 :: o110_3 :: o111_3 :: o112_3 :: o113_3 :: o114_3 :: o115_3 :: o116_3 :: o117_3 :: o118_3 :: o119_3 :: r
noncomputable def h_5 (P : Params) (r : List Obj) : List Obj := o120_3 :: o121_3 :: o122_3 :: o123_3 :: o124_3 :: o125_3 :: o126_3 :: o127_3 :: o128_3 :: o129_3 :: o130_3 :: o131_3 :: o132_3 :: o133_3 :: o134_3 :: o135_3 :: o136_3 :: o137_3 :: o138_3 :: o139_3 :: o140_3 :: o141_3 :: o142_3 :: o143_3 :: r
noncomputable def h_6 (P : Params) (r : List Obj) : List Obj := o144_3 P :: o145_5 :: o146_3 :: o147_3 :: o148_3 :: o149_3 :: o150_3 :: o151_3 :: o152_3 P :: o153_3 :: o154_3 :: o155_3 :: o156_3 :: o157_3 :: o158_3 :: o159_3 :: o160_3 :: o161_3 :: o162_3 :: o163_3 :: o164_3 :: o165_3 :: o166_3 :: o167_3 :: r
noncomputable def h_7 (P : Params) (r : List Obj) : List Obj := o168_3 :: o169_3 :: o170_3 :: o171_3 :: o172_3 P :: o173_3 :: o174_3 :: o175_3 :: o176_4 :: o177_4 :: o178_4 P :: o179_4 :: o180_4 :: o181_4 :: o182_4 :: o183_4 :: o184_4 :: o185_4 :: o186_4 :: o187_4 :: o188_4 :: o189_4 :: o190_4 :: o191_4 :: r
noncomputable def h_8 (P : Params) (r : List Obj) : List Obj := o192_4 :: o193_4 :: o194_4 :: o195_4 :: o196_4 :: o197_4 :: o198_4 P :: o199_4 :: o200_4 :: o201_4 :: o202_4 :: o203_4 :: o204_4 P :: o205_4 :: o206_4 :: o207_4 :: o208_4 :: o209_4 :: o210_4 :: o211_4 :: o212_4 :: o213_4 :: o214_4 :: o215_4 :: r
noncomputable def h_9 (P : Params) (r : List Obj) : List Obj := o216_4 :: o217_4 :: o218_4 :: o219_4 :: o220_4 :: o221_4 :: o222_4 :: o223_4 :: o224_4 P :: o225_4 :: o226_4 :: o227_4 :: o228_5 :: o229_5 :: o230_5 P :: o231_5 :: o232_5 :: o233_5 :: o234_5 :: o235_5 :: o236_5 :: o237_5 :: o238_5 :: o239_5 :: r
noncomputable def h_10 (P : Params) (r : List Obj) : List Obj := o240_5 :: o241_5 :: o242_5 :: o243_5 :: o244_5 :: o245_5 :: o246_5 :: o247_5 :: o248_5 :: o249_5 :: o250_5 :: o251_5 :: o252_5 :: o253_5 :: o254_5 :: o255_5 :: o256_5 :: o257_5 :: o258_5 :: o259_5 :: o260_5 :: o261_5 :: o262_5 :: o263_5 :: r
noncomputable def h_11 (P : Params) (r : List Obj) : List Obj := o264_5 P :: o265_5 :: o266_5 :: o267_5 :: o268_5 :: o269_5 :: o270_5 P :: o271_5 :: o272_5 :: o273_5 :: o274_5 :: o275_5 :: o276_5 :: o277_5 :: o278_5 :: o279_5 :: o280_5 :: o281_5 :: o282_5 :: o283_5 :: o284_5 :: o285_5 :: o286_5 :: o287_5 :: r
noncomputable def h_12 (P : Params) (r : List Obj) : List Obj := o288_5 :: o289_5 :: o290_5 :: o291_5 :: o292_5 :: o293_5 :: o294_5 :: o295_5 :: o296_5 :: o297_5 :: o298_5 :: o299_5 :: o300_5 :: o301_5 :: o302_5 :: o303_5 :: o304_5 P :: o305_5 :: o306_5 :: o307_5 :: o308_5 :: o309_5 :: o310_5 :: o311_5 :: r
noncomputable def h_13 (P : Params) (r : List Obj) : List Obj := o312_5 :: o313_5 :: o314_5 :: o315_5 :: o316_5 :: o317_5 :: o318_5 :: o319_5 :: o320_5 :: o321_5 :: o322_5 :: o323_5 :: o324_5 :: o325_5 :: o326_5 :: o327_5 :: o328_5 :: o329_5 :: o330_5 :: o331_5 :: o332_5 :: o333_5 :: o334_5 :: o335_5 :: r
noncomputable def h_14 (P : Params) (r : List Obj) : List Obj := o336_5 :: o337_5 :: o338_5 :: o339_5 :: o340_5 :: o341_5 :: o342_5 :: o343_5 :: o344_5 :: o345_5 :: o346_5 :: o347_5 :: o348_5 :: o349_5 :: o350_6 :: o351_6 :: o352_6 :: o353_6 :: o354_6 :: o355_6 :: o356_6 :: o357_6 :: o358_6 :: o359_6 :: r
noncomputable def h_15 (P : Params) (r : List Obj) : List Obj := o360_6 :: o361_6 :: o362_6 :: o363_6 :: o364_6 :: o365_6 :: o366_6 :: o367_6 :: o368_6 :: o369_6 :: o370_6 :: o371_6 :: o372_6 :: o373_6 :: o374_6 :: o375_6 :: o376_6 :: o377_6 :: o378_6 :: o379_6 :: o380_6 :: o381_6 :: o382_6 :: o383_6 :: r
noncomputable def h_16 (P : Params) (r : List Obj) : List Obj := o384_6 :: o385_6 :: o386_6 :: o387_6 :: o388_6 :: o389_6 :: o390_6 :: o391_6 :: o392_6 :: o393_6 :: o394_6 :: o395_6 :: o396_6 :: o397_6 :: o398_6 :: o399_6 :: o400_6 :: o401_6 :: o402_6 :: o403_6 :: o404_6 :: o405_6 :: o406_6 :: o407_6 :: r
noncomputable def h_17 (P : Params) (r : List Obj) : List Obj := o408_6 :: o409_6 :: o410_6 :: o411_6 :: o412_6 :: o413_6 :: o414_6 :: o415_6 :: o416_6 :: o417_6 :: r
noncomputable def Hf (P : Params) : Heap := ⟨⟨h_0 P (h_1 P (h_2 P (h_3 P (h_4 P (h_5 P (h_6 P (h_7 P (h_8 P (h_9 P (h_10 P (h_11 P (h_12 P (h_13 P (h_14 P (h_15 P (h_16 P (h_17 P ([]))))))))))))))))))⟩, li⟩
noncomputable def Sf (w : World) (os : OsState) : Shared := ⟨Hf w.params, ⟨[]⟩, boot_drawn, 746, os⟩
noncomputable def Fin (w : World) : Prop := (fun os => topRun treeTable pw w 11 an 2 (S5T w os).abs ⟨doneF .next, cE, ⟨212, 0, 228, 69⟩, B⟩) = fun os => some (Sf w os)
noncomputable def q : Program := { pw with main := { pw.main with body := My.top 0 :: My.top 2 :: My.top 3 :: My.top 4 :: My.top 6 :: My.top 7 :: My.top 8 :: My.top 9 :: My.top 10 :: My.top 12 :: My.top 13 :: My.top 14 :: My.top 15 :: My.top 16 :: My.top 17 :: My.top 18 :: My.top 19 :: My.top 21 :: My.top 22 :: My.top 23 :: My.top 25 :: My.top 26 :: My.top 27 :: My.top 28 :: My.top 29 :: My.top 30 :: My.top 31 :: My.top 32 :: My.top 33 :: My.top 34 :: My.top 35 :: My.top 36 :: [] } }
noncomputable def K (P : Params) : Frag := (nat_lit 2, boot_o_2 P) :: (nat_lit 3, o3_6 P) :: (nat_lit 15, o15_2) :: (nat_lit 17, o17_2) :: (nat_lit 18, o18_2) :: (nat_lit 20, o20_2) :: (nat_lit 21, o21_2) :: (nat_lit 22, o22_2) :: (nat_lit 29, o29_2) :: (nat_lit 30, o30_2 P) :: (nat_lit 31, o31_2) :: (nat_lit 32, o32_2) :: (nat_lit 35, o35_2) :: (nat_lit 42, o42_2) :: (nat_lit 43, o43_2 P) :: (nat_lit 44, o44_2) :: (nat_lit 47, o47_2) :: (nat_lit 54, o54_2) :: (nat_lit 56, o56_2) :: (nat_lit 57, o57_2) :: (nat_lit 59, o59_2) :: (nat_lit 60, o60_2) :: (nat_lit 61, o61_2) :: (nat_lit 62, o62_2 P) :: (nat_lit 63, o63_2) :: (nat_lit 66, o66_2) :: (nat_lit 68, o68_2) :: (nat_lit 69, o69_2) :: (nat_lit 71, o71_2) :: (nat_lit 72, o72_2) :: (nat_lit 73, o73_2) :: (nat_lit 75, o75_2) :: (nat_lit 76, o76_2) :: (nat_lit 78, o78_2) :: (nat_lit 79, o79_2) :: (nat_lit 80, o80_2) :: (nat_lit 82, o82_2) :: (nat_lit 83, o83_2) :: (nat_lit 85, o85_2) :: (nat_lit 86, o86_2) :: (nat_lit 87, o87_2) :: (nat_lit 89, o89_2) :: (nat_lit 90, o90_2) :: (nat_lit 92, o92_2) :: (nat_lit 93, o93_2) :: (nat_lit 94, o94_2) :: (nat_lit 96, o96_2) :: (nat_lit 97, o97_2) :: (nat_lit 99, o99_2) :: (nat_lit 100, o100_2) :: (nat_lit 108, o108_3) :: (nat_lit 110, o110_3) :: (nat_lit 111, o111_3) :: (nat_lit 113, o113_3) :: (nat_lit 114, o114_3) :: (nat_lit 115, o115_3) :: (nat_lit 117, o117_3) :: (nat_lit 118, o118_3) :: (nat_lit 120, o120_3) :: (nat_lit 121, o121_3) :: (nat_lit 122, o122_3) :: (nat_lit 124, o124_3) :: (nat_lit 125, o125_3) :: (nat_lit 127, o127_3) :: (nat_lit 128, o128_3) :: (nat_lit 129, o129_3) :: (nat_lit 131, o131_3) :: (nat_lit 132, o132_3) :: (nat_lit 134, o134_3) :: (nat_lit 135, o135_3) :: (nat_lit 136, o136_3) :: (nat_lit 138, o138_3) :: (nat_lit 139, o139_3) :: (nat_lit 141, o141_3) :: (nat_lit 142, o142_3) :: (nat_lit 143, o143_3) :: (nat_lit 144, o144_3 P) :: (nat_lit 145, o145_5) :: (nat_lit 146, o146_3) :: (nat_lit 147, o147_3) :: (nat_lit 150, o150_3) :: (nat_lit 157, o157_3) :: (nat_lit 159, o159_3) :: (nat_lit 160, o160_3) :: (nat_lit 162, o162_3) :: (nat_lit 163, o163_3) :: (nat_lit 164, o164_3) :: (nat_lit 166, o166_3) :: (nat_lit 167, o167_3) :: (nat_lit 169, o169_3) :: (nat_lit 170, o170_3) :: (nat_lit 171, o171_3) :: (nat_lit 172, o172_3 P) :: (nat_lit 173, o173_3) :: (nat_lit 176, o176_4) :: (nat_lit 183, o183_4) :: (nat_lit 185, o185_4) :: (nat_lit 186, o186_4) :: (nat_lit 188, o188_4) :: (nat_lit 189, o189_4) :: (nat_lit 190, o190_4) :: (nat_lit 192, o192_4) :: (nat_lit 193, o193_4) :: (nat_lit 195, o195_4) :: (nat_lit 196, o196_4) :: (nat_lit 197, o197_4) :: (nat_lit 198, o198_4 P) :: (nat_lit 199, o199_4) :: (nat_lit 202, o202_4) :: (nat_lit 209, o209_4) :: (nat_lit 211, o211_4) :: (nat_lit 212, o212_4) :: (nat_lit 214, o214_4) :: (nat_lit 215, o215_4) :: (nat_lit 216, o216_4) :: (nat_lit 218, o218_4) :: (nat_lit 219, o219_4) :: (nat_lit 221, o221_4) :: (nat_lit 222, o222_4) :: (nat_lit 223, o223_4) :: (nat_lit 224, o224_4 P) :: (nat_lit 225, o225_4) :: (nat_lit 228, o228_5) :: (nat_lit 235, o235_5) :: (nat_lit 237, o237_5) :: (nat_lit 238, o238_5) :: (nat_lit 240, o240_5) :: (nat_lit 241, o241_5) :: (nat_lit 242, o242_5) :: (nat_lit 244, o244_5) :: (nat_lit 245, o245_5) :: (nat_lit 247, o247_5) :: (nat_lit 248, o248_5) :: (nat_lit 249, o249_5) :: (nat_lit 251, o251_5) :: (nat_lit 252, o252_5) :: (nat_lit 254, o254_5) :: (nat_lit 255, o255_5) :: (nat_lit 256, o256_5) :: (nat_lit 258, o258_5) :: (nat_lit 259, o259_5) :: (nat_lit 261, o261_5) :: (nat_lit 262, o262_5) :: (nat_lit 263, o263_5) :: (nat_lit 264, o264_5 P) :: (nat_lit 265, o265_5) :: (nat_lit 268, o268_5) :: (nat_lit 275, o275_5) :: (nat_lit 277, o277_5) :: (nat_lit 278, o278_5) :: (nat_lit 280, o280_5) :: (nat_lit 281, o281_5) :: (nat_lit 282, o282_5) :: (nat_lit 284, o284_5) :: (nat_lit 285, o285_5) :: (nat_lit 287, o287_5) :: (nat_lit 288, o288_5) :: (nat_lit 289, o289_5) :: (nat_lit 291, o291_5) :: (nat_lit 292, o292_5) :: (nat_lit 294, o294_5) :: (nat_lit 295, o295_5) :: (nat_lit 296, o296_5) :: (nat_lit 298, o298_5) :: (nat_lit 299, o299_5) :: (nat_lit 301, o301_5) :: (nat_lit 302, o302_5) :: (nat_lit 303, o303_5) :: (nat_lit 304, o304_5 P) :: (nat_lit 305, o305_5) :: (nat_lit 308, o308_5) :: (nat_lit 310, o310_5) :: (nat_lit 311, o311_5) :: (nat_lit 313, o313_5) :: (nat_lit 314, o314_5) :: (nat_lit 315, o315_5) :: (nat_lit 317, o317_5) :: (nat_lit 318, o318_5) :: (nat_lit 320, o320_5) :: (nat_lit 321, o321_5) :: (nat_lit 322, o322_5) :: (nat_lit 324, o324_5) :: (nat_lit 325, o325_5) :: (nat_lit 327, o327_5) :: (nat_lit 328, o328_5) :: (nat_lit 329, o329_5) :: (nat_lit 331, o331_5) :: (nat_lit 332, o332_5) :: (nat_lit 334, o334_5) :: (nat_lit 335, o335_5) :: (nat_lit 336, o336_5) :: (nat_lit 338, o338_5) :: (nat_lit 339, o339_5) :: (nat_lit 341, o341_5) :: (nat_lit 342, o342_5) :: (nat_lit 343, o343_5) :: (nat_lit 345, o345_5) :: (nat_lit 346, o346_5) :: (nat_lit 348, o348_5) :: (nat_lit 349, o349_5) :: (nat_lit 350, o350_6) :: (nat_lit 352, o352_6) :: (nat_lit 353, o353_6) :: (nat_lit 355, o355_6) :: (nat_lit 356, o356_6) :: (nat_lit 357, o357_6) :: (nat_lit 359, o359_6) :: (nat_lit 360, o360_6) :: (nat_lit 362, o362_6) :: (nat_lit 363, o363_6) :: (nat_lit 364, o364_6) :: (nat_lit 366, o366_6) :: (nat_lit 367, o367_6) :: (nat_lit 369, o369_6) :: (nat_lit 370, o370_6) :: (nat_lit 371, o371_6) :: (nat_lit 373, o373_6) :: (nat_lit 374, o374_6) :: (nat_lit 376, o376_6) :: (nat_lit 377, o377_6) :: (nat_lit 378, o378_6) :: (nat_lit 380, o380_6) :: (nat_lit 381, o381_6) :: (nat_lit 383, o383_6) :: (nat_lit 384, o384_6) :: (nat_lit 385, o385_6) :: (nat_lit 388, o388_6) :: (nat_lit 389, o389_6) :: (nat_lit 390, o390_6) :: (nat_lit 392, o392_6) :: (nat_lit 393, o393_6) :: (nat_lit 395, o395_6) :: (nat_lit 396, o396_6) :: (nat_lit 397, o397_6) :: (nat_lit 399, o399_6) :: (nat_lit 400, o400_6) :: (nat_lit 402, o402_6) :: (nat_lit 403, o403_6) :: (nat_lit 404, o404_6) :: (nat_lit 406, o406_6) :: (nat_lit 407, o407_6) :: (nat_lit 409, o409_6) :: (nat_lit 410, o410_6) :: (nat_lit 411, o411_6) :: (nat_lit 413, o413_6) :: (nat_lit 414, o414_6) :: (nat_lit 416, o416_6) :: (nat_lit 417, o417_6) :: []
noncomputable def f_0 (P : Params) (r : List (Nat × Obj)) : List (Nat × Obj) := (2, boot_o_2 P) :: (3, o3_6 P) :: (15, o15_2) :: (17, o17_2) :: (18, o18_2) :: (20, o20_2) :: (21, o21_2) :: (22, o22_2) :: (29, o29_2) :: (30, o30_2 P) :: (31, o31_2) :: (32, o32_2) :: (35, o35_2) :: (42, o42_2) :: (43, o43_2 P) :: (44, o44_2) :: (47, o47_2) :: (54, o54_2) :: (56, o56_2) :: (57, o57_2) :: (59, o59_2) :: (60, o60_2) :: (61, o61_2) :: (62, o62_2 P) :: r
noncomputable def f_1 (P : Params) (r : List (Nat × Obj)) : List (Nat × Obj) := (63, o63_2) :: (66, o66_2) :: (68, o68_2) :: (69, o69_2) :: (71, o71_2) :: (72, o72_2) :: (73, o73_2) :: (75, o75_2) :: (76, o76_2) :: (78, o78_2) :: (79, o79_2) :: (80, o80_2) :: (82, o82_2) :: (83, o83_2) :: (85, o85_2) :: (86, o86_2) :: (87, o87_2) :: (89, o89_2) :: (90, o90_2) :: (92, o92_2) :: (93, o93_2) :: (94, o94_2) :: (96, o96_2) :: (97, o97_2) :: r
noncomputable def f_2 (P : Params) (r : List (Nat × Obj)) : List (Nat × Obj) := (99, o99_2) :: (100, o100_2) :: (108, o108_3) :: (110, o110_3) :: (111, o111_3) :: (113, o113_3) :: (114, o114_3) :: (115, o115_3) :: (117, o117_3) :: (118, o118_3) :: (120, o120_3) :: (121, o121_3) :: (122, o122_3) :: (124, o124_3) :: (125, o125_3) :: (127, o127_3) :: (128, o128_3) :: (129, o129_3) :: (131, o131_3) :: (132, o132_3) :: (134, o134_3) :: (135, o135_3) :: (136, o136_3) :: (138, o138_3) :: r
noncomputable def f_3 (P : Params) (r : List (Nat × Obj)) : List (Nat × Obj) := (139, o139_3) :: (141, o141_3) :: (142, o142_3) :: (143, o143_3) :: (144, o144_3 P) :: (145, o145_5) :: (146, o146_3) :: (147, o147_3) :: (150, o150_3) :: (157, o157_3) :: (159, o159_3) :: (160, o160_3) :: (162, o162_3) :: (163, o163_3) :: (164, o164_3) :: (166, o166_3) :: (167, o167_3) :: (169, o169_3) :: (170, o170_3) :: (171, o171_3) :: (172, o172_3 P) :: (173, o173_3) :: (176, o176_4) :: (183, o183_4) :: r
noncomputable def f_4 (P : Params) (r : List (Nat × Obj)) : List (Nat × Obj) := (185, o185_4) :: (186, o186_4) :: (188, o188_4) :: (189, o189_4) :: (190, o190_4) :: (192, o192_4) :: (193, o193_4) :: (195, o195_4) :: (196, o196_4) :: (197, o197_4) :: (198, o198_4 P) :: (199, o199_4) :: (202, o202_4) :: (209, o209_4) :: (211, o211_4) :: (212, o212_4) :: (214, o214_4) :: (215, o215_4) :: (216, o216_4) :: (218, o218_4) :: (219, o219_4) :: (221, o221_4) :: (222, o222_4) :: (223, o223_4) :: r
noncomputable def f_5 (P : Params) (r : List (Nat × Obj)) : List (Nat × Obj) := (224, o224_4 P) :: (225, o225_4) :: (228, o228_5) :: (235, o235_5) :: (237, o237_5) :: (238, o238_5) :: (240, o240_5) :: (241, o241_5) :: (242, o242_5) :: (244, o244_5) :: (245, o245_5) :: (247, o247_5) :: (248, o248_5) :: (249, o249_5) :: (251, o251_5) :: (252, o252_5) :: (254, o254_5) :: (255, o255_5) :: (256, o256_5) :: (258, o258_5) :: (259, o259_5) :: (261, o261_5) :: (262, o262_5) :: (263, o263_5) :: r
noncomputable def f_6 (P : Params) (r : List (Nat × Obj)) : List (Nat × Obj) := (264, o264_5 P) :: (265, o265_5) :: (268, o268_5) :: (275, o275_5) :: (277, o277_5) :: (278, o278_5) :: (280, o280_5) :: (281, o281_5) :: (282, o282_5) :: (284, o284_5) :: (285, o285_5) :: (287, o287_5) :: (288, o288_5) :: (289, o289_5) :: (291, o291_5) :: (292, o292_5) :: (294, o294_5) :: (295, o295_5) :: (296, o296_5) :: (298, o298_5) :: (299, o299_5) :: (301, o301_5) :: (302, o302_5) :: (303, o303_5) :: r
noncomputable def f_7 (P : Params) (r : List (Nat × Obj)) : List (Nat × Obj) := (304, o304_5 P) :: (305, o305_5) :: (308, o308_5) :: (310, o310_5) :: (311, o311_5) :: (313, o313_5) :: (314, o314_5) :: (315, o315_5) :: (317, o317_5) :: (318, o318_5) :: (320, o320_5) :: (321, o321_5) :: (322, o322_5) :: (324, o324_5) :: (325, o325_5) :: (327, o327_5) :: (328, o328_5) :: (329, o329_5) :: (331, o331_5) :: (332, o332_5) :: (334, o334_5) :: (335, o335_5) :: (336, o336_5) :: (338, o338_5) :: r
noncomputable def f_8 (P : Params) (r : List (Nat × Obj)) : List (Nat × Obj) := (339, o339_5) :: (341, o341_5) :: (342, o342_5) :: (343, o343_5) :: (345, o345_5) :: (346, o346_5) :: (348, o348_5) :: (349, o349_5) :: (350, o350_6) :: (352, o352_6) :: (353, o353_6) :: (355, o355_6) :: (356, o356_6) :: (357, o357_6) :: (359, o359_6) :: (360, o360_6) :: (362, o362_6) :: (363, o363_6) :: (364, o364_6) :: (366, o366_6) :: (367, o367_6) :: (369, o369_6) :: (370, o370_6) :: (371, o371_6) :: r
noncomputable def f_9 (P : Params) (r : List (Nat × Obj)) : List (Nat × Obj) := (373, o373_6) :: (374, o374_6) :: (376, o376_6) :: (377, o377_6) :: (378, o378_6) :: (380, o380_6) :: (381, o381_6) :: (383, o383_6) :: (384, o384_6) :: (385, o385_6) :: (388, o388_6) :: (389, o389_6) :: (390, o390_6) :: (392, o392_6) :: (393, o393_6) :: (395, o395_6) :: (396, o396_6) :: (397, o397_6) :: (399, o399_6) :: (400, o400_6) :: (402, o402_6) :: (403, o403_6) :: (404, o404_6) :: (406, o406_6) :: r
noncomputable def f_10 (P : Params) (r : List (Nat × Obj)) : List (Nat × Obj) := (407, o407_6) :: (409, o409_6) :: (410, o410_6) :: (411, o411_6) :: (413, o413_6) :: (414, o414_6) :: (416, o416_6) :: (417, o417_6) :: r
noncomputable def K2 (P : Params) : Frag := f_0 P (f_1 P (f_2 P (f_3 P (f_4 P (f_5 P (f_6 P (f_7 P (f_8 P (f_9 P (f_10 P ([])))))))))))
noncomputable def as : List Addr := nat_lit 2 :: nat_lit 3 :: nat_lit 15 :: nat_lit 17 :: nat_lit 18 :: nat_lit 20 :: nat_lit 21 :: nat_lit 22 :: nat_lit 29 :: nat_lit 30 :: nat_lit 31 :: nat_lit 32 :: nat_lit 35 :: nat_lit 42 :: nat_lit 43 :: nat_lit 44 :: nat_lit 47 :: nat_lit 54 :: nat_lit 56 :: nat_lit 57 :: nat_lit 59 :: nat_lit 60 :: nat_lit 61 :: nat_lit 62 :: nat_lit 63 :: nat_lit 66 :: nat_lit 68 :: nat_lit 69 :: nat_lit 71 :: nat_lit 72 :: nat_lit 73 :: nat_lit 75 :: nat_lit 76 :: nat_lit 78 :: nat_lit 79 :: nat_lit 80 :: nat_lit 82 :: nat_lit 83 :: nat_lit 85 :: nat_lit 86 :: nat_lit 87 :: nat_lit 89 :: nat_lit 90 :: nat_lit 92 :: nat_lit 93 :: nat_lit 94 :: nat_lit 96 :: nat_lit 97 :: nat_lit 99 :: nat_lit 100 :: nat_lit 108 :: nat_lit 110 :: nat_lit 111 :: nat_lit 113 :: nat_lit 114 :: nat_lit 115 :: nat_lit 117 :: nat_lit 118 :: nat_lit 120 :: nat_lit 121 :: nat_lit 122 :: nat_lit 124 :: nat_lit 125 :: nat_lit 127 :: nat_lit 128 :: nat_lit 129 :: nat_lit 131 :: nat_lit 132 :: nat_lit 134 :: nat_lit 135 :: nat_lit 136 :: nat_lit 138 :: nat_lit 139 :: nat_lit 141 :: nat_lit 142 :: nat_lit 143 :: nat_lit 144 :: nat_lit 145 :: nat_lit 146 :: nat_lit 147 :: nat_lit 150 :: nat_lit 157 :: nat_lit 159 :: nat_lit 160 :: nat_lit 162 :: nat_lit 163 :: nat_lit 164 :: nat_lit 166 :: nat_lit 167 :: nat_lit 169 :: nat_lit 170 :: nat_lit 171 :: nat_lit 172 :: nat_lit 173 :: nat_lit 176 :: nat_lit 183 :: nat_lit 185 :: nat_lit 186 :: nat_lit 188 :: nat_lit 189 :: nat_lit 190 :: nat_lit 192 :: nat_lit 193 :: nat_lit 195 :: nat_lit 196 :: nat_lit 197 :: nat_lit 198 :: nat_lit 199 :: nat_lit 202 :: nat_lit 209 :: nat_lit 211 :: nat_lit 212 :: nat_lit 214 :: nat_lit 215 :: nat_lit 216 :: nat_lit 218 :: nat_lit 219 :: nat_lit 221 :: nat_lit 222 :: nat_lit 223 :: nat_lit 224 :: nat_lit 225 :: nat_lit 228 :: nat_lit 235 :: nat_lit 237 :: nat_lit 238 :: nat_lit 240 :: nat_lit 241 :: nat_lit 242 :: nat_lit 244 :: nat_lit 245 :: nat_lit 247 :: nat_lit 248 :: nat_lit 249 :: nat_lit 251 :: nat_lit 252 :: nat_lit 254 :: nat_lit 255 :: nat_lit 256 :: nat_lit 258 :: nat_lit 259 :: nat_lit 261 :: nat_lit 262 :: nat_lit 263 :: nat_lit 264 :: nat_lit 265 :: nat_lit 268 :: nat_lit 275 :: nat_lit 277 :: nat_lit 278 :: nat_lit 280 :: nat_lit 281 :: nat_lit 282 :: nat_lit 284 :: nat_lit 285 :: nat_lit 287 :: nat_lit 288 :: nat_lit 289 :: nat_lit 291 :: nat_lit 292 :: nat_lit 294 :: nat_lit 295 :: nat_lit 296 :: nat_lit 298 :: nat_lit 299 :: nat_lit 301 :: nat_lit 302 :: nat_lit 303 :: nat_lit 304 :: nat_lit 305 :: nat_lit 308 :: nat_lit 310 :: nat_lit 311 :: nat_lit 313 :: nat_lit 314 :: nat_lit 315 :: nat_lit 317 :: nat_lit 318 :: nat_lit 320 :: nat_lit 321 :: nat_lit 322 :: nat_lit 324 :: nat_lit 325 :: nat_lit 327 :: nat_lit 328 :: nat_lit 329 :: nat_lit 331 :: nat_lit 332 :: nat_lit 334 :: nat_lit 335 :: nat_lit 336 :: nat_lit 338 :: nat_lit 339 :: nat_lit 341 :: nat_lit 342 :: nat_lit 343 :: nat_lit 345 :: nat_lit 346 :: nat_lit 348 :: nat_lit 349 :: nat_lit 350 :: nat_lit 352 :: nat_lit 353 :: nat_lit 355 :: nat_lit 356 :: nat_lit 357 :: nat_lit 359 :: nat_lit 360 :: nat_lit 362 :: nat_lit 363 :: nat_lit 364 :: nat_lit 366 :: nat_lit 367 :: nat_lit 369 :: nat_lit 370 :: nat_lit 371 :: nat_lit 373 :: nat_lit 374 :: nat_lit 376 :: nat_lit 377 :: nat_lit 378 :: nat_lit 380 :: nat_lit 381 :: nat_lit 383 :: nat_lit 384 :: nat_lit 385 :: nat_lit 388 :: nat_lit 389 :: nat_lit 390 :: nat_lit 392 :: nat_lit 393 :: nat_lit 395 :: nat_lit 396 :: nat_lit 397 :: nat_lit 399 :: nat_lit 400 :: nat_lit 402 :: nat_lit 403 :: nat_lit 404 :: nat_lit 406 :: nat_lit 407 :: nat_lit 409 :: nat_lit 410 :: nat_lit 411 :: nat_lit 413 :: nat_lit 414 :: nat_lit 416 :: nat_lit 417 :: []
noncomputable def H : Hook := kHook K as (fun _ => by kernel_rfl)
noncomputable abbrev R : WRecords := RowW.records (OpenRow.toRowW (OpenLaw.row PySem.Challenge.rw_joinload_k45_loaded_words))
noncomputable abbrev Xt (s : Shared) : Bool := xlAt q [] s && recOk R s
noncomputable def Size (w : World) : Prop := ((boot_heap w.params).isNs mainGlobals && (⟨[]⟩ : Array GenState).size == 0, (boot_heap w.params).objs.size, (boot_heap w.params).nsMap mainGlobals "__annotations__") = (true, 11, an)
noncomputable def LA (w : World) : Prop := (fun os => staticsOk (importedModules pw.main.body) (boot_heap w.params) (Hf w.params) && namesBound pw (Hf w.params) && gensDone (Sf w os) && laidKept (boot_heap w.params) (Hf w.params)) = fun _ => true
noncomputable def Ls1 (w : World) : Prop := (fun os => seen ((recsOf q).map (·.name)) (ownsOf q) [] { Sf w os with gens := #[] }) = fun _ => expectedOf q
noncomputable def Ls2 (w : World) : Prop := (fun os => (Sf w os).heap.bltView) = fun _ => bltViewBooted
noncomputable def Ls3 (w : World) : Prop := (fun os => (Sf w os).heap.keysOk (looseW q []) ((recsOf q).map (·.name)) ((litsOf q).map (·.1)) ((clssOf q (looseW q [])).map (·.name)) && (Sf w os).heap.accountedOkI (importedModules pw.main.body) && (Sf w os).heap.isNs mainGlobals && (Sf w os).heap.isNs builtinsNs && tablesOk q (Sf w os).heap && Xt (Sf w os) && (if true then (Sf w os).gens.size == 0 else !leftWithCleanup (Sf w os).gens)) = fun _ => true
noncomputable def Ls4 (w : World) : Prop := (fun os => tabsOk q (Sf w os)) = fun _ => true
noncomputable def Ls5 (w : World) : Prop := (fun os => pinSeenD q (drecsOf q) (Sf w os)) = fun _ => pinGoodD (drecsOf q)
noncomputable def Ls6 (w : World) : Prop := (fun os => plainSeenE q (looseW q []) (Sf w os)) = fun _ => plainGoodE q (looseW q [])
noncomputable def Ls7 (w : World) : Prop := (fun os => plainSeenD q [] (Sf w os)) = fun _ => plainGoodD q []
noncomputable def Ls8 (w : World) : Prop := (fun os => wideSeen q (Sf w os)) = fun _ => wideGood q
noncomputable def Ls9 (w : World) : Prop := (fun os => clsSeenW q [] (Sf w os)) = fun _ => clsGoodW q []
noncomputable def Yk (w : World) : Prop := (fun os => as.map (Sf w os).heap.get?) = fun _ => (K2 w.params).map fun p => some p.2
theorem K_is : K = K2 := by kernel_rfl
theorem Pre_r : Pre = Pre := rfl
theorem Blk_r : Blk = Blk := rfl
theorem P0_r : P0 = P0 := rfl
theorem P1_r : P1 = P1 := rfl
theorem P2_r : P2 = P2 := rfl
theorem P3_r : P3 = P3 := rfl
theorem P4_r : P4 = P4 := rfl
theorem Fin_r : Fin = Fin := rfl
theorem Size_r : Size = Size := rfl
theorem LA_r : LA = LA := rfl
theorem Ls1_r : Ls1 = Ls1 := rfl
theorem Ls2_r : Ls2 = Ls2 := rfl
theorem Ls3_r : Ls3 = Ls3 := rfl
theorem Ls4_r : Ls4 = Ls4 := rfl
theorem Ls5_r : Ls5 = Ls5 := rfl
theorem Ls6_r : Ls6 = Ls6 := rfl
theorem Ls7_r : Ls7 = Ls7 := rfl
theorem Ls8_r : Ls8 = Ls8 := rfl
theorem Ls9_r : Ls9 = Ls9 := rfl
theorem Yk_r : Yk = Yk := rfl
end Hd
name_quick hdPre for Hd.Pre by Hd.Pre_r
name_quick hdBlk for Hd.Blk by Hd.Blk_r
name_quick hdP0 for Hd.P0 by Hd.P0_r
name_quick hdP1 for Hd.P1 by Hd.P1_r
name_quick hdP2 for Hd.P2 by Hd.P2_r
name_quick hdP3 for Hd.P3 by Hd.P3_r
name_quick hdP4 for Hd.P4 by Hd.P4_r
name_quick hdFin for Hd.Fin by Hd.Fin_r
name_quick hdSize for Hd.Size by Hd.Size_r
name_quick hdLA for Hd.LA by Hd.LA_r
name_quick hdLs1 for Hd.Ls1 by Hd.Ls1_r
name_quick hdLs2 for Hd.Ls2 by Hd.Ls2_r
name_quick hdLs3 for Hd.Ls3 by Hd.Ls3_r
name_quick hdLs4 for Hd.Ls4 by Hd.Ls4_r
name_quick hdLs5 for Hd.Ls5 by Hd.Ls5_r
name_quick hdLs6 for Hd.Ls6 by Hd.Ls6_r
name_quick hdLs7 for Hd.Ls7 by Hd.Ls7_r
name_quick hdLs8 for Hd.Ls8 by Hd.Ls8_r
name_quick hdLs9 for Hd.Ls9 by Hd.Ls9_r
name_quick hdYk for Hd.Yk by Hd.Yk_r
namespace Hd
open PySem PySem.W PySem.Calls PyProof.Rows
theorem Pre_h (w : World) : Pre w := by
  rw [show Pre w = PySem.W.Fast.hdPre w from congrFun PySem.W.Fast.hdPre_eq w]
  delta PySem.W.Fast.hdPre PySem.W.Fast.tw7651035101826984186
  kernel_rfl
theorem Blk_h (w : World) : Blk w := by
  rw [show Blk w = PySem.W.Fast.hdBlk w from congrFun PySem.W.Fast.hdBlk_eq w]
  delta PySem.W.Fast.hdBlk PySem.W.Fast.tw10272554187927912860
  kernel_rfl
theorem P0_h (w : World) : P0 w := by
  rw [show P0 w = PySem.W.Fast.hdP0 w from congrFun PySem.W.Fast.hdP0_eq w]
  delta PySem.W.Fast.hdP0 PySem.W.Fast.tw2223480372460268926 PySem.W.Fast.tw16301345103801407739
  kernel_rfl
theorem P1_h (w : World) : P1 w := by
  rw [show P1 w = PySem.W.Fast.hdP1 w from congrFun PySem.W.Fast.hdP1_eq w]
  delta PySem.W.Fast.hdP1 PySem.W.Fast.tw14855786421978465553 PySem.W.Fast.tw16301345103801407739
  kernel_rfl
theorem P2_h (w : World) : P2 w := by
  rw [show P2 w = PySem.W.Fast.hdP2 w from congrFun PySem.W.Fast.hdP2_eq w]
  delta PySem.W.Fast.hdP2 PySem.W.Fast.tw6117723192894798286 PySem.W.Fast.tw16301345103801407739
  kernel_rfl
theorem P3_h (w : World) : P3 w := by
  rw [show P3 w = PySem.W.Fast.hdP3 w from congrFun PySem.W.Fast.hdP3_eq w]
  delta PySem.W.Fast.hdP3 PySem.W.Fast.tw4020557457582994402 PySem.W.Fast.tw16301345103801407739
  kernel_rfl
theorem P4_h (w : World) : P4 w := by
  rw [show P4 w = PySem.W.Fast.hdP4 w from congrFun PySem.W.Fast.hdP4_eq w]
  delta PySem.W.Fast.hdP4 PySem.W.Fast.tw16968994527078285662 PySem.W.Fast.tw16301345103801407739
  kernel_rfl
theorem Fin_h (w : World) : Fin w := by
  rw [show Fin w = PySem.W.Fast.hdFin w from congrFun PySem.W.Fast.hdFin_eq w]
  delta PySem.W.Fast.hdFin PySem.W.Fast.tw4976735305809376593
  kernel_rfl
theorem Size_h (w : World) : Size w := by
  rw [show Size w = PySem.W.Fast.hdSize w from congrFun PySem.W.Fast.hdSize_eq w]
  delta PySem.W.Fast.hdSize PySem.W.Fast.tw14461627914784175761
  kernel_rfl
theorem LA_h (w : World) : LA w := by
  rw [show LA w = PySem.W.Fast.hdLA w from congrFun PySem.W.Fast.hdLA_eq w]
  delta PySem.W.Fast.hdLA PySem.W.Fast.tw11134583137455730433
  kernel_rfl
theorem Ls1_h (w : World) : Ls1 w := by
  rw [show Ls1 w = PySem.W.Fast.hdLs1 w from congrFun PySem.W.Fast.hdLs1_eq w]
  delta PySem.W.Fast.hdLs1 PySem.W.Fast.tw14098396552713008135
  kernel_rfl
theorem Ls2_h (w : World) : Ls2 w := by
  rw [show Ls2 w = PySem.W.Fast.hdLs2 w from congrFun PySem.W.Fast.hdLs2_eq w]
  delta PySem.W.Fast.hdLs2 PySem.W.Fast.tw6547580189001637342
  kernel_rfl
theorem Ls3_h (w : World) : Ls3 w := by
  rw [show Ls3 w = PySem.W.Fast.hdLs3 w from congrFun PySem.W.Fast.hdLs3_eq w]
  delta PySem.W.Fast.hdLs3 PySem.W.Fast.tw10934468223134025866
  kernel_rfl
theorem Ls4_h (w : World) : Ls4 w := by
  rw [show Ls4 w = PySem.W.Fast.hdLs4 w from congrFun PySem.W.Fast.hdLs4_eq w]
  delta PySem.W.Fast.hdLs4 PySem.W.Fast.tw13894289833044730176
  kernel_rfl
theorem Ls5_h (w : World) : Ls5 w := by
  rw [show Ls5 w = PySem.W.Fast.hdLs5 w from congrFun PySem.W.Fast.hdLs5_eq w]
  delta PySem.W.Fast.hdLs5 PySem.W.Fast.tw11162159950934395656
  kernel_rfl
theorem Ls6_h (w : World) : Ls6 w := by
  rw [show Ls6 w = PySem.W.Fast.hdLs6 w from congrFun PySem.W.Fast.hdLs6_eq w]
  delta PySem.W.Fast.hdLs6 PySem.W.Fast.tw9014929701734557122
  kernel_rfl
theorem Ls7_h (w : World) : Ls7 w := by
  rw [show Ls7 w = PySem.W.Fast.hdLs7 w from congrFun PySem.W.Fast.hdLs7_eq w]
  delta PySem.W.Fast.hdLs7 PySem.W.Fast.tw16695146034332369646
  kernel_rfl
theorem Ls8_h (w : World) : Ls8 w := by
  rw [show Ls8 w = PySem.W.Fast.hdLs8 w from congrFun PySem.W.Fast.hdLs8_eq w]
  delta PySem.W.Fast.hdLs8 PySem.W.Fast.tw13045354483572663336
  kernel_rfl
theorem Ls9_h (w : World) : Ls9 w := by
  rw [show Ls9 w = PySem.W.Fast.hdLs9 w from congrFun PySem.W.Fast.hdLs9_eq w]
  delta PySem.W.Fast.hdLs9 PySem.W.Fast.tw9459536174771691377
  kernel_rfl
theorem Yk_h (w : World) : Yk w := by
  rw [show Yk w = PySem.W.Fast.hdYk w from congrFun PySem.W.Fast.hdYk_eq w]
  delta PySem.W.Fast.hdYk PySem.W.Fast.tw3491827284470035837
  kernel_rfl
noncomputable def R4 : List Stmt := L4 ++ []
noncomputable def R3 : List Stmt := L3 ++ R4
noncomputable def R2 : List Stmt := L2 ++ R3
noncomputable def R1 : List Stmt := L1 ++ R2
noncomputable def R0 : List Stmt := L0 ++ R1
theorem bd_is : bd = R0 := by kernel_rfl
theorem rest_h (w : World) (os : OsState) : topRun treeTable pw w 11 an (860 + (633 + (559 + (895 + (331 + 2))))) (S0T w os).abs (restOf R0 en cE ⟨0, 0, 0, 0⟩ B) = some (Sf w os) :=
  (piece_app (l := L0) (segRun_of (congrFun (P0_h w) os)) (piece_app (l := L1) (segRun_of (congrFun (P1_h w) os)) (piece_app (l := L2) (segRun_of (congrFun (P2_h w) os)) (piece_app (l := L3) (segRun_of (congrFun (P3_h w) os)) (piece_app (l := L4) (segRun_of (congrFun (P4_h w) os)) (congrFun (Fin_h w) os))))))
theorem run_h (w : World) (os : OsState) : topRun treeTable pw w 11 an (12 + (1 + (860 + (633 + (559 + (895 + (331 + 2))))))) (S0 w os) (topStub pw) = some (Sf w os) :=
  go_top (congrFun (Pre_h w) os) (piece_block (congrFun (Blk_h w) os) (by
    rw [show restOf bd en cE ⟨0, 0, 0, 0⟩ B = restOf R0 en cE ⟨0, 0, 0, 0⟩ B from congrArg (fun l => restOf l en cE ⟨0, 0, 0, 0⟩ B) bd_is]
    exact rest_h w os))
theorem Yk_k (w : World) (os : OsState) : Hook.obs H (Sf w os) = Hook.val H w := by
  show as.map (Sf w os).heap.get? = (K w.params).map fun p => some p.2
  rw [K_is]; exact congrFun (Yk_h w) os
theorem left_h : LeftO pw q [] Xt (Hook.obs H) (Hook.val H) 6672 :=
  LeftO.of_pieces (H₀ := boot_heap) (H₁ := Hf) (m₀ := 11) (ann := an) (boot_open rfl rfl (fun _ => rfl)) Size_h run_h (by decide +kernel) fun w => funext fun os =>
    looks_pair (congrFun (LA_h w) os) (looks_pair
      (show openSeen q [] (importedModules pw.main.body) Xt true (Sf w os) = openGood q [] from
        looks_pair (congrFun (Ls1_h w) os) (looks_pair (congrFun (Ls2_h w) os) (looks_pair (congrFun (Ls3_h w) os) (looks_pair (congrFun (Ls4_h w) os) (looks_pair (congrFun (Ls5_h w) os) (looks_pair (congrFun (Ls6_h w) os) (looks_pair (congrFun (Ls7_h w) os) (looks_pair (congrFun (Ls8_h w) os) (congrFun (Ls9_h w) os)))))))))
      (Yk_k w os))
end Hd
open PySem PySem.W PyProof.Rows
set_option maxRecDepth 100000 in
set_option maxHeartbeats 0 in
theorem PySem.Challenge.cw_joinload_k45_loaded_words_holds : PySem.Challenge.rw_joinload_k45_loaded_words.Holds := by
  w_on; o_law
  refine holds_open (q := Hd.q) (loose := []) (Xt := Hd.Xt) (XP := XL Hd.q []) (Yf := Hook.obs Hd.H) (Ya := Hook.val Hd.H) (YP := InK Hd.K) Hd.left_h (Hook.of Hd.H) (Hook.keeps Hd.H) (fun s e => xl_of s (Bool.and_eq_true_iff.mp e).1) XL.keeps (by rfl) (by rfl) (by rfl) (fun s e => recFacts_of (Bool.and_eq_true_iff.mp e).2) (by rfl) (by first | assumption | decide +kernel) (by decide +kernel) ⟨rfl, rfl, rfl, rfl, rfl, by decide +kernel⟩ ?hw ?hc
  (case hw => w_witness2)
  k_fill
  refine My.walk (l := PySem.Challenge.rw_joinload_k45_loaded_words) (K := Hd.K) rfl rfl (fun w h Y => Y) ?F
  case F =>
    intro w mg fa h KX G hmg
    refine' My.all_mk KX G hmg ?ac_High ?ac_JoinError ?ac_Low ?ac_NoBase ?ac_Whole ?a_NoBase___init__ ?i_NoBase___init__ ?l_NoBase___init__ ?e_NoBase___init__ ?k_NoBase___init__ ?a_wrapped ?l_wrapped ?e_wrapped ?k_wrapped ?a_with_field ?l_with_field ?e_with_field ?k_with_field ?a_ones ?l_ones ?e_ones ?k_ones ?a_moved ?l_moved ?e_moved ?k_moved ?a_rule_of ?l_rule_of ?e_rule_of ?k_rule_of ?a_Rule___init__ ?i_Rule___init__ ?l_Rule___init__ ?e_Rule___init__ ?k_Rule___init__ ?a_Whole_filled ?i_Whole_filled ?l_Whole_filled ?e_Whole_filled ?k_Whole_filled ?a_High_filled ?i_High_filled ?l_High_filled ?e_High_filled ?k_High_filled ?a_Low_filled ?i_Low_filled ?l_Low_filled ?e_Low_filled ?k_Low_filled ?a_loaded ?l_loaded ?e_loaded ?k_loaded ?a_start_of ?l_start_of ?e_start_of ?k_start_of ?a_refuse_no_base ?l_refuse_no_base ?e_refuse_no_base ?k_refuse_no_base ?a__law_whole ?l__law_whole ?e__law_whole ?k__law_whole ?a__law_cell_at ?l__law_cell_at ?e__law_cell_at ?k__law_cell_at ?a__law_target_by ?l__law_target_by ?e__law_target_by ?k__law_target_by ?a__law_put ?l__law_put ?e__law_put ?k__law_put ?a__law_end ?l__law_end ?e__law_end ?k__law_end ?a__law_built ?l__law_built ?e__law_built ?k__law_built ?a__law_base_by ?l__law_base_by ?e__law_base_by ?k__law_base_by ?a__law_copy ?l__law_copy ?e__law_copy ?k__law_copy ?a__law_filled_so ?l__law_filled_so ?e__law_filled_so ?k__law_filled_so ?a__law_due_words ?l__law_due_words ?e__law_due_words ?k__law_due_words ?a__law_loaded_so ?l__law_loaded_so ?e__law_loaded_so ?k__law_loaded_so ?a_law ?l_law ?e_law ?k_law ?fi_Low ?fi_Whole ?pg_High ?hd_High ?po_High ?sa_High ?mm_High ?kc_High ?pg_Low ?hd_Low ?po_Low ?sa_Low ?mm_Low ?kc_Low ?pg_Whole ?hd_Whole ?po_Whole ?sa_Whole ?mm_Whole ?kc_Whole ?sp_cl ?tk_cl ?ei_NoBase ?ee_NoBase ?es_NoBase ?br_JoinError ?bf_JoinError ?bg_JoinError ?no_NoBase_base ?no_Whole_title ?no_High_title ?no_Low_title ?g_WORD_COUNT ?n_bool ?n_dict ?n_enumerate ?n_int ?n_isinstance ?n_len ?n_list ?n_max ?n_range ?n_str
    (case ac_High => k_is)
    (case ac_JoinError => k_is)
    (case ac_Low => k_is)
    (case ac_NoBase => k_is)
    (case ac_Whole => k_is)
    (case a_NoBase___init__ => k_is)
    (case i_NoBase___init__ => k_is)
    (case l_NoBase___init__ => k_is)
    (case e_NoBase___init__ => k_is)
    (case k_NoBase___init__ => k_is)
    (case a_wrapped => k_is)
    (case l_wrapped => k_is)
    (case e_wrapped => k_is)
    (case k_wrapped => k_is)
    (case a_with_field => k_is)
    (case l_with_field => k_is)
    (case e_with_field => k_is)
    (case k_with_field => k_is)
    (case a_ones => k_is)
    (case l_ones => k_is)
    (case e_ones => k_is)
    (case k_ones => k_is)
    (case a_moved => k_is)
    (case l_moved => k_is)
    (case e_moved => k_is)
    (case k_moved => k_is)
    (case a_rule_of => k_is)
    (case l_rule_of => k_is)
    (case e_rule_of => k_is)
    (case k_rule_of => k_is)
    (case a_Rule___init__ => k_is)
    (case i_Rule___init__ => k_is)
    (case l_Rule___init__ => k_is)
    (case e_Rule___init__ => k_is)
    (case k_Rule___init__ => k_is)
    (case a_Whole_filled => k_is)
    (case i_Whole_filled => k_is)
    (case l_Whole_filled => k_is)
    (case e_Whole_filled => k_is)
    (case k_Whole_filled => k_is)
    (case a_High_filled => k_is)
    (case i_High_filled => k_is)
    (case l_High_filled => k_is)
    (case e_High_filled => k_is)
    (case k_High_filled => k_is)
    (case a_Low_filled => k_is)
    (case i_Low_filled => k_is)
    (case l_Low_filled => k_is)
    (case e_Low_filled => k_is)
    (case k_Low_filled => k_is)
    (case a_loaded => k_is)
    (case l_loaded => k_is)
    (case e_loaded => k_is)
    (case k_loaded => k_is)
    (case a_start_of => k_is)
    (case l_start_of => k_is)
    (case e_start_of => k_is)
    (case k_start_of => k_is)
    (case a_refuse_no_base => k_is)
    (case l_refuse_no_base => k_is)
    (case e_refuse_no_base => k_is)
    (case k_refuse_no_base => k_is)
    (case a__law_whole => k_is)
    (case l__law_whole => k_is)
    (case e__law_whole => k_is)
    (case k__law_whole => k_is)
    (case a__law_cell_at => k_is)
    (case l__law_cell_at => k_is)
    (case e__law_cell_at => k_is)
    (case k__law_cell_at => k_is)
    (case a__law_target_by => k_is)
    (case l__law_target_by => k_is)
    (case e__law_target_by => k_is)
    (case k__law_target_by => k_is)
    (case a__law_put => k_is)
    (case l__law_put => k_is)
    (case e__law_put => k_is)
    (case k__law_put => k_is)
    (case a__law_end => k_is)
    (case l__law_end => k_is)
    (case e__law_end => k_is)
    (case k__law_end => k_is)
    (case a__law_built => k_is)
    (case l__law_built => k_is)
    (case e__law_built => k_is)
    (case k__law_built => k_is)
    (case a__law_base_by => k_is)
    (case l__law_base_by => k_is)
    (case e__law_base_by => k_is)
    (case k__law_base_by => k_is)
    (case a__law_copy => k_is)
    (case l__law_copy => k_is)
    (case e__law_copy => k_is)
    (case k__law_copy => k_is)
    (case a__law_filled_so => k_is)
    (case l__law_filled_so => k_is)
    (case e__law_filled_so => k_is)
    (case k__law_filled_so => k_is)
    (case a__law_due_words => k_is)
    (case l__law_due_words => k_is)
    (case e__law_due_words => k_is)
    (case k__law_due_words => k_is)
    (case a__law_loaded_so => k_is)
    (case l__law_loaded_so => k_is)
    (case e__law_loaded_so => k_is)
    (case k__law_loaded_so => k_is)
    (case a_law => k_is)
    (case l_law => k_is)
    (case e_law => k_is)
    (case k_law => k_is)
    (case fi_Low => k_is)
    (case fi_Whole => k_is)
    (case pg_High => k_is)
    (case hd_High => k_is)
    (case po_High => k_is)
    (case sa_High => k_is)
    (case mm_High => k_is)
    (case kc_High => k_is)
    (case pg_Low => k_is)
    (case hd_Low => k_is)
    (case po_Low => k_is)
    (case sa_Low => k_is)
    (case mm_Low => k_is)
    (case kc_Low => k_is)
    (case pg_Whole => k_is)
    (case hd_Whole => k_is)
    (case po_Whole => k_is)
    (case sa_Whole => k_is)
    (case mm_Whole => k_is)
    (case kc_Whole => k_is)
    (case sp_cl => k_is)
    (case tk_cl => k_is)
    (case ei_NoBase => kernel_rfl)
    (case ee_NoBase => kernel_rfl)
    (case es_NoBase => k_is)
    (case br_JoinError => kernel_rfl)
    (case bf_JoinError => kernel_rfl)
    (case bg_JoinError => k_is)
    (case no_NoBase_base => k_is)
    (case no_Whole_title => k_is)
    (case no_High_title => k_is)
    (case no_Low_title => k_is)
    (case g_WORD_COUNT => k_is)
    (case n_bool => k_is)
    (case n_dict => k_is)
    (case n_enumerate => k_is)
    (case n_int => k_is)
    (case n_isinstance => k_is)
    (case n_len => k_is)
    (case n_list => k_is)
    (case n_max => k_is)
    (case n_range => k_is)
    (case n_str => k_is)
#print axioms PySem.Challenge.cw_joinload_k45_loaded_words_holds
