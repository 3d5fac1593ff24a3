import PyProof.Rows.All
import Wide.All
import OpenK.AllK
import Wide.FinOn
import Lean
import PyProof.EqAt
import PyProof.EqKinds
import PyProof.TupleCall
import PyProof.StationsW
import PyProof.ExcAttrAll.ValueError
import KE.KIsAll
import PyProof.RulesAs
import PyProof.NsDelKeeps
import PyProof.FString
import PyProof.FString4
import PyProof.Rows.FStr
import PyProof.Rows.FStrParts
import PyProof.StrCalls2
import PyProof.StrLawsRepr
import PyProof.StrLawsJoin
import PyProof.StrLaws
import PyProof.Rows.ReprOcc
import PyProof.ExcInit
import PyProof.InstStoreFacts
import KE.KDictOf
import PySem.Challenge.RW_joinload_k54_whole_runs_by_a_plain_model
set_option Elab.async false
set_option linter.all false
set_option maxRecDepth 100000
set_option genSizeOfSpec false
/-! THE HAND LAYER, for ints, bools, texts, own classes, LISTS and tuples (index, slices, in, append, pop ..), calls, loops. Paste it whole ahead of your own text; what your proof does not reach may be deleted. -/
namespace L2
open PySem PySem.Spec PyProof.Rows

noncomputable abbrev Key := Sum Int Str
noncomputable def keyIs : Key → Value → Bool
  | .inl k, v => Value.isInt k v
  | .inr x, v => Value.isStrOf x v
noncomputable def keyH (w : World) : Key → Int
  | .inl k => hashInt k
  | .inr x => hashStr w x
theorem keyIs_shape : ∀ {k : Key} {v : Value}, keyIs k v = true → (∃ i t, k = Sum.inl i ∧ v = Value.int i t) ∨ (∃ x t, k = Sum.inr x ∧ v = Value.str x t)
  | .inl i, v, h => by
    obtain ⟨t, e⟩ := Value.isInt_shape (k := i) (v := v) h
    exact .inl ⟨i, t, rfl, e⟩
  | .inr x, v, h => by
    obtain ⟨t, e⟩ := Value.isStrOf_shape (x := x) (v := v) h
    exact .inr ⟨x, t, rfl, e⟩
theorem keyIs_int (i : Int) (t : Tok) : keyIs (.inl i) (.int i t) = true := by simp [keyIs, Value.isInt]
theorem keyIs_str (x : Str) (t : Tok) : keyIs (.inr x) (.str x t) = true := by simp [keyIs, Value.isStrOf]
theorem key_ll (a b : Int) : decide ((Sum.inl a : Key) = Sum.inl b) = (a == b) := by
  by_cases e : a = b
  · subst e; simp
  · have h : ¬ (Sum.inl a : Key) = Sum.inl b := fun q => e (Sum.inl.inj q)
    rw [decide_eq_false h]
    exact (beq_eq_false_iff_ne.mpr e).symm
theorem key_rr (a b : Str) : decide ((Sum.inr a : Key) = Sum.inr b) = decide (a = b) := by
  by_cases e : a = b
  · subst e; simp
  · have h : ¬ (Sum.inr a : Key) = Sum.inr b := fun q => e (Sum.inr.inj q)
    rw [decide_eq_false h, decide_eq_false e]
theorem key_lr (a : Int) (b : Str) : decide ((Sum.inl a : Key) = Sum.inr b) = false := decide_eq_false (fun q => nomatch q)
theorem key_rl (a : Str) (b : Int) : decide ((Sum.inr a : Key) = Sum.inl b) = false := decide_eq_false (fun q => nomatch q)

noncomputable def mixKind (prog : Program) (w : World) : PySem.KeyKind prog w Key where
  is := keyIs
  hash := keyH w
  inj := fun v a b ha hb => by
    rcases keyIs_shape ha with ⟨i, t, rfl, rfl⟩ | ⟨x, t, rfl, rfl⟩
    · rcases keyIs_shape hb with ⟨j, u, rfl, e⟩ | ⟨y, u, rfl, e⟩
      · injection e with e1 _; rw [e1]
      · exact nomatch e
    · rcases keyIs_shape hb with ⟨j, u, rfl, e⟩ | ⟨y, u, rfl, e⟩
      · exact nomatch e
      · injection e with e1 _; rw [e1]
  byValue := fun k v h => by
    rcases keyIs_shape h with ⟨i, t, rfl, rfl⟩ | ⟨x, t, rfl, rfl⟩ <;> rfl
  pyHash := fun hv h => by
    rcases keyIs_shape hv with ⟨i, t, rfl, rfl⟩ | ⟨x, t, rfl, rfl⟩
    · exact wpAny_pyHash_int h
    · exact wpAny_pyHash_str h
  eqBool := fun hu hv h => by
    rcases keyIs_shape hu with ⟨i, t, rfl, rfl⟩ | ⟨x, t, rfl, rfl⟩
    · rcases keyIs_shape hv with ⟨j, u, rfl, rfl⟩ | ⟨y, u, rfl, rfl⟩
      · rw [key_ll] at h; exact wpAny_eqBool_int h
      · rw [key_lr] at h; exact SeqAt.EqAt.int_str i t y u _ _ _ _ h
    · rcases keyIs_shape hv with ⟨j, u, rfl, rfl⟩ | ⟨y, u, rfl, rfl⟩
      · rw [key_rl] at h; exact SeqAt.EqAt.str_int x t j u _ _ _ _ h
      · rw [key_rr] at h; exact wpAny_eqBool_str h
  «strs» := fun k x t v h => by
    rcases keyIs_shape h with ⟨i, u, rfl, e⟩ | ⟨y, u, rfl, e⟩
    · exact nomatch e
    · injection e with e1 _
      subst e1
      cases v <;> rfl

theorem mixKind_int (prog : Program) (w : World) (i : Int) (t : Tok) : (mixKind prog w).is (.inl i) (.int i t) = true := keyIs_int i t
theorem mixKind_str (prog : Program) (w : World) (x : Str) (t : Tok) : (mixKind prog w).is (.inr x) (.str x t) = true := keyIs_str x t
end L2

namespace L2
open PySem PySem.Spec PyProof.Rows

inductive V where
  | non | bl (b : Bool) | int (i : Int) | str (x : Str) | byt (b : Array UInt8) | flt (b : UInt64) | ref (a : Addr) | ty (n : String)
  deriving DecidableEq

noncomputable def RelV : V → Value → Prop
  | .non, u => u = Value.none
  | .bl b, u => u = Value.bool b
  | .int i, u => ∃ t, u = Value.int i t
  | .str x, u => ∃ t, u = Value.str x t
  | .byt b, u => ∃ t, u = Value.bytes b t
  | .flt b, u => ∃ t, u = Value.float b t
  | .ref a, u => u = Value.ref a
  | .ty n, u => u = Value.type n

noncomputable abbrev Vals : List V → List Value → Prop := Paired RelV
theorem Vals.length {xs : List V} {us : List Value} (r : Vals xs us) : xs.length = us.length := Paired.length r
theorem Vals.get : ∀ {xs : List V} {us : List Value} {i : Nat} {x : V}, Vals xs us → xs[i]? = some x → ∃ u, us[i]? = some u ∧ RelV x u
  | _, _, _, _, .nil, e => by simp at e
  | _, _, 0, _, .cons r _, e => by simp at e; subst e; exact ⟨_, rfl, r⟩
  | _, _, i + 1, x, .cons _ t, e => by
    obtain ⟨u, h1, h2⟩ := Vals.get (i := i) (x := x) t (by simpa using e)
    exact ⟨u, by simpa using h1, h2⟩
theorem Vals.set {x : V} {u : Value} (r : RelV x u) : ∀ {xs : List V} {us : List Value} (i : Nat), Vals xs us → Vals (xs.set i x) (us.set i u)
  | _, _, _, .nil => .nil
  | _, _, 0, .cons _ t => .cons r t
  | _, _, i + 1, .cons q t => .cons q (Vals.set r i t)
theorem Vals.append : ∀ {xs ys : List V} {us ws : List Value}, Vals xs us → Vals ys ws → Vals (xs ++ ys) (us ++ ws)
  | _, _, _, _, .nil, s => s
  | _, _, _, _, .cons r t, s => .cons r (Vals.append t s)
theorem Vals.take : ∀ {xs : List V} {us : List Value} (n : Nat), Vals xs us → Vals (xs.take n) (us.take n)
  | _, _, 0, _ => .nil
  | _, _, _ + 1, .nil => .nil
  | _, _, n + 1, .cons r t => .cons r (Vals.take n t)
theorem Vals.drop : ∀ {xs : List V} {us : List Value} (n : Nat), Vals xs us → Vals (xs.drop n) (us.drop n)
  | _, _, 0, r => r
  | _, _, _ + 1, .nil => .nil
  | _, _, n + 1, .cons _ t => Vals.drop n t

noncomputable def RelO : Option V → Option Value → Prop
  | some v, some u => RelV v u
  | none, none => True
  | _, _ => False
noncomputable def KV {κ : Type} : List (κ × V) → List (κ × Value) → Prop := Paired fun (p : κ × V) (q : κ × Value) => p.1 = q.1 ∧ RelV p.2 q.2

noncomputable def kV : Key → V
  | .inl i => .int i
  | .inr x => .str x

inductive HO where
    | lst (xs : List V)
    | tup (xs : List V)
    | dK (kvs : List (Key × V)) | dT (kvs : List (List Key × V))
    | set (S : Int → Bool) (n : Nat)
    | ins (C dx : Addr) (fs : List (Str × V))
    | own (x : Addr)
    | xd (fs : List (Str × V))
    | met (f x : Addr)
    | rng (lo hi : Int)
    | frz (o : Obj) (u : HO)
    | tbl (ps : Array Value)
    | ext (φ : Heap → Prop)

noncomputable abbrev Hp := Addr → Option HO
noncomputable def upd (H : Hp) (a : Addr) (o : HO) : Hp := fun b => if b = a then some o else H b
theorem upd_same {H : Hp} {a : Addr} {o : HO} : upd H a o a = some o := by unfold upd; rw [if_pos rfl]
theorem upd_ne {H : Hp} {a b : Addr} {o : HO} (h : b ≠ a) : upd H a o b = H b := by unfold upd; rw [if_neg h]
theorem upd_upd {H : Hp} {a : Addr} {o u : HO} : upd (upd H a o) a u = upd H a u := by
  funext b; unfold upd; split <;> rfl
theorem ne_of {H : Hp} {a b : Addr} {o u : HO} (h : H a = some o) (h' : H b = some u) (d : o ≠ u) : a ≠ b := by
  intro e; subst e; rw [h] at h'; exact d (Option.some.inj h')
theorem ne_of_none {H : Hp} {a b : Addr} {o : HO} (h : H a = some o) (h' : H b = none) : a ≠ b := by
  intro e; subst e; rw [h] at h'; cases h'

section
variable (P : Program) (w : World)
noncomputable def ObjOk (H : Hp) (h : Heap) (a : Addr) : HO → Prop
  | .lst xs => xs.length ≤ sizeLine ∧ ∃ (its : List Value) (n : Nat), Vals xs its ∧ h.get? a = some { cls := .type "list", data := .seq its.toArray n }
  | .tup xs => xs.length ≤ sizeLine ∧ ∃ its : List Value, Vals xs its ∧ IsTup h a its.toArray
  | .dK kvs => kvs.length ≤ sizeLine ∧ (a == sysModules) = false ∧ ∃ vs, KV kvs vs ∧ h.DictOf (mixKind P w) a vs
  | .dT kvs => kvs.length ≤ sizeLine ∧ (a == sysModules) = false ∧ ∃ xs : List (List Key × Addr × Value),
      Paired (fun (p : List Key × V) (q : List Key × Addr × Value) => p.1 = q.1 ∧ H q.2.1 = some (.tup (p.1.map kV)) ∧ RelV p.2 q.2.2) kvs xs ∧
      ∃ o es ep, h.get? a = some o ∧ o.ExactDict ∧ o.data = .dict es ep ∧ es.toList = xs.map (entryOfKey (tupleKind (mixKind P w))) ∧ (xs.map (·.1)).Nodup
  | .set S n => h.SetOf (intKind P w) a S n
  | .ins C dx fs => H dx = some (.own a) ∧ fs.length ≤ 1000 ∧ dx ≠ a ∧ h.get? a = some (PySem.W.instObj C dx) ∧
      ∃ mA, h.Ns1 dx mA ∧ (∀ f, RelO (fs.lookup f) (mA f)) ∧ PySem.Within mA (fs.map (·.1))
  | .own _ => ∃ o, h.get? a = some o
  | .xd fs => ∃ mA, h.Ns1 a mA ∧ ∀ f, RelO (fs.lookup f) (mA f)
  | .rng lo hi => ∃ t u v, h.get? a = some { cls := .type "range", data := .fields #[.int lo t, .int hi u, .int 1 v] }
  | .frz o u => h.get? a = some o ∧ ObjOk H h a u
  | .tbl ps => h.get? a = some { cls := .none, data := .fields ps }
  | .met f x => h.get? a = some (PySem.W.methodObj (.ref f) (.ref x))
  | .ext φ => φ h ∧ (∃ o, h.get? a = some o) ∧ ∀ h1 h2 : Heap, φ h1 → (∀ o, h1.get? a = some o → h2.get? a = some o) → φ h2
noncomputable def HOk (H : Hp) (h : Heap) : Prop := ∀ a o, H a = some o → ObjOk P w H h a o
end

section
variable {P : Program} {w : World} {H H' : Hp} {h h' : Heap} {a : Addr} {o : HO}
theorem ObjOk.lt (x : ObjOk P w H h a o) : a < h.objs.size := by
  cases o with
  | lst xs => obtain ⟨_, _, _, _, e⟩ := x; exact Heap.lt_size e
  | tup xs => obtain ⟨_, _, _, p⟩ := x; exact p.lt
  | dK kvs => obtain ⟨_, _, _, _, o, _, _, e, _⟩ := x; exact Heap.lt_size e
  | dT kvs => obtain ⟨_, _, _, _, o, _, _, e, _⟩ := x; exact Heap.lt_size e
  | set S n => obtain ⟨o, _, _, _, e, _⟩ := x; exact Heap.lt_size e
  | ins C dx fs => obtain ⟨_, _, _, e, _⟩ := x; exact Heap.lt_size e
  | own y => obtain ⟨_, e⟩ := x; exact Heap.lt_size e
  | xd fs => obtain ⟨_, ⟨_, _, _, e, _⟩, _⟩ := x; exact Heap.lt_size e
  | rng lo hi => obtain ⟨_, _, _, e⟩ := x; exact Heap.lt_size e
  | frz ob u => obtain ⟨e, _⟩ := x; exact Heap.lt_size e
  | tbl ps => exact Heap.lt_size (show h.get? a = some _ from x)
  | met f y => exact Heap.lt_size (show h.get? a = some _ from x)
  | ext φ => obtain ⟨_, ⟨_, e⟩, _⟩ := x; exact Heap.lt_size e
theorem Paired.mapP {α β : Type} {F G : α → β → Prop} : ∀ {l₁ : List α} {l₂ : List β}, Paired F l₁ l₂ → (∀ a b, F a b → G a b) → Paired G l₁ l₂
  | _, _, .nil, _ => .nil
  | _, _, .cons r t, f => .cons (f _ _ r) (Paired.mapP t f)
theorem ObjOk.stay (x : ObjOk P w H h a o) (k : ∀ b u, (b = a ∨ H b = some (.own a)) → h.get? b = some u → h'.get? b = some u)
    (ho : ∀ b, H b = some (.own a) → H' b = some (.own a)) (ht : ∀ b xs, H b = some (.tup xs) → H' b = some (.tup xs)) : ObjOk P w H' h' a o := by
  induction o with
  | lst xs => obtain ⟨z, its, n, r, e⟩ := x; exact ⟨z, its, n, r, k _ _ (.inl rfl) e⟩
  | tup xs => obtain ⟨z, its, r, ob, e, c⟩ := x; exact ⟨z, its, r, ob, k _ _ (.inl rfl) e, c⟩
  | dK kvs => obtain ⟨z, y, vs, r, ob, es, ep, e, c⟩ := x; exact ⟨z, y, vs, r, ob, es, ep, k _ _ (.inl rfl) e, c⟩
  | dT kvs =>
    obtain ⟨z, y, xs, r, ob, es, ep, e, c⟩ := x
    exact ⟨z, y, xs, Paired.mapP r fun p q z => ⟨z.1, ht _ _ z.2.1, z.2.2⟩, ob, es, ep, k _ _ (.inl rfl) e, c⟩
  | set S n => obtain ⟨ob, es, ep, t, e, c⟩ := x; exact ⟨ob, es, ep, t, k _ _ (.inl rfl) e, c⟩
  | ins C dx fs =>
    obtain ⟨d, z, ne, e, mA, ⟨od, es, ep, e2, c⟩, r⟩ := x
    exact ⟨ho _ d, z, ne, k _ _ (.inl rfl) e, mA, ⟨od, es, ep, k _ _ (.inr d) e2, c⟩, r⟩
  | own y => obtain ⟨ob, e⟩ := x; exact ⟨ob, k _ _ (.inl rfl) e⟩
  | xd fs => obtain ⟨mA, ⟨od, es, ep, e, c⟩, r⟩ := x; exact ⟨mA, ⟨od, es, ep, k _ _ (.inl rfl) e, c⟩, r⟩
  | rng lo hi => obtain ⟨t, u, v, e⟩ := x; exact ⟨t, u, v, k _ _ (.inl rfl) e⟩
  | frz ob u ih => obtain ⟨e, q⟩ := x; exact ⟨k _ _ (.inl rfl) e, ih q⟩
  | tbl ps =>
    have e : h.get? a = some { cls := .none, data := .fields ps } := x
    show h'.get? a = some { cls := .none, data := .fields ps }
    exact k a _ (.inl rfl) e
  | met f y =>
    have e : h.get? a = some (PySem.W.methodObj (.ref f) (.ref y)) := x
    show h'.get? a = some (PySem.W.methodObj (.ref f) (.ref y))
    exact k a _ (.inl rfl) e
  | ext φ => obtain ⟨p, ⟨o, e⟩, st⟩ := x; exact ⟨st _ _ p fun o q => k _ _ (.inl rfl) q, ⟨o, k _ _ (.inl rfl) e⟩, st⟩
theorem HOk.lt (x : HOk P w H h) (e : H a = some o) : a < h.objs.size := (x a o e).lt
theorem HOk.fresh (x : HOk P w H h) (e : h.objs.size ≤ a) : H a = none := by
  cases q : H a with
  | none => rfl
  | some u => exact absurd (Nat.lt_of_lt_of_le (x.lt q) e) (Nat.lt_irrefl _)
theorem HOk.kept (x : HOk P w H h) (k : ∀ b u, h.get? b = some u → h'.get? b = some u) : HOk P w H h' := fun a o e =>
  (x a o e).stay (fun b u _ q => k b u q) (fun _ q => q) fun _ _ q => q
theorem HOk.laid (x : HOk P w H h) (k : ∀ b u, h.get? b = some u → h'.get? b = some u) (hp : h.objs.size ≤ a) (new : ObjOk P w (upd H a o) h' a o) : HOk P w (upd H a o) h' := fun b u e => by
  have hn := x.fresh hp
  by_cases hb : b = a
  · subst hb; rw [upd_same] at e; cases e; exact new
  · rw [upd_ne hb] at e
    exact (x b u e).stay (fun c v _ q => k c v q) (fun c q => by rw [upd_ne (ne_of_none q hn)]; exact q) fun c xs q => by rw [upd_ne (ne_of_none q hn)]; exact q
end

noncomputable def Rd (H : Hp) (a : Addr) (u : HO) : Prop := H a = some u ∨ ∃ o, H a = some (.frz o u)
theorem Rd.ok {P : Program} {w : World} {H : Hp} {h : Heap} {a : Addr} {u : HO} (r : Rd H a u) (x : HOk P w H h) : ObjOk P w H h a u := by
  rcases r with r | ⟨o, r⟩
  · exact x a u r
  · obtain ⟨_, q⟩ := x a _ r
    exact q
noncomputable def Mut : Option HO → Prop
  | some (.lst _) => True
  | some (.dK _) => True
  | some (.dT _) => True
  | some (.set _ _) => True
  | some (.ins _ _ _) => True
  | some (.ext _) => True
  | _ => False
section
variable {P : Program} {w : World} {H : Hp} {h h' : Heap} {x e : Addr} {o' : HO}
theorem HOk.write (ok : HOk P w H h) (mu : Mut (H x)) (he : e = x ∨ H e = some (.own x)) (k : ∀ b u, b ≠ e → h.get? b = some u → h'.get? b = some u) (heo : ∃ u, h'.get? e = some u)
    (new : ObjOk P w (upd H x o') h' x o') : HOk P w (upd H x o') h' := fun b u q => by
  have nown : ∀ c y, H c = some (.own y) → c ≠ x := fun c y r z => by subst z; rw [r] at mu; exact mu
  have ntup : ∀ c xs, H c = some (.tup xs) → c ≠ x := fun c xs r z => by subst z; rw [r] at mu; exact mu
  by_cases hb : b = x
  · subst hb; rw [upd_same] at q; cases q; exact new
  · rw [upd_ne hb] at q
    by_cases hbe : b = e
    · have q' : H b = some (.own x) := by
        rcases he with z | z
        · exact absurd (hbe.trans z) hb
        · rw [hbe]; exact z
      rw [q] at q'; cases q'
      obtain ⟨v, hv⟩ := heo
      exact ⟨v, by rw [hbe]; exact hv⟩
    · refine (ok b u q).stay (fun c v hc r => k c v ?_ r) (fun c r => by rw [upd_ne (nown c b r)]; exact r) fun c xs r => by rw [upd_ne (ntup c xs r)]; exact r
      rcases hc with rfl | hc
      · exact hbe
      · rintro rfl
        rcases he with z | z
        · exact nown c b hc z
        · rw [hc] at z; cases z; exact hb rfl
end

/-! ### kept unless tracked; of the frames at fs (the callers') the slots may change (an exception that passes writes there); of the records at ex (iterators) nothing is said -/
set_option genInjectivity false in
structure Un (fs ex : List Addr) (H H' : Hp) (h h' : Heap) : Prop where
  keep : ∀ b o, h.get? b = some o → H b = none → b ∉ fs → b ∉ ex → h'.get? b = some o
  slot : ∀ b o, h.get? b = some o → H b = none → b ∈ fs → b ∉ ex → ∃ sl, h'.get? b = some { o with slots := sl }
  free : ∀ b o, h.get? b = some o → H b = none → b ∉ ex → H' b = none
  there : ∀ b o, h.get? b = some o → b ∉ ex → ∃ o', h'.get? b = some o'
  tups : ∀ b xs, H b = some (.tup xs) → H' b = some (.tup xs)
  frzs : ∀ b o u, H b = some (.frz o u) → H' b = some (.frz o u)
  tbls : ∀ b ps, H b = some (.tbl ps) → ∃ more, H' b = some (.tbl (ps ++ more))
section
variable {fs fs' ex ex' : List Addr} {H H1 H2 : Hp} {h h1 h2 h' : Heap} {a x e : Addr} {o : HO}
theorem Un.any (u : Un fs ex H H1 h h1) {b : Addr} {ob : Obj} (q : h.get? b = some ob) (n : H b = none) (hx : b ∉ ex) : ∃ sl, h1.get? b = some { ob with slots := sl } := by
  by_cases hb : b ∈ fs
  · exact u.slot b ob q n hb hx
  · exact ⟨ob.slots, u.keep b ob q n hb hx⟩
theorem Un.kept (k : ∀ b u, h.get? b = some u → h'.get? b = some u) : Un fs ex H H h h' :=
  ⟨fun b ob q _ _ _ => k b ob q, fun b ob q _ _ _ => ⟨ob.slots, k b ob q⟩, fun _ _ _ n _ => n, fun b ob q _ => ⟨ob, k b ob q⟩, fun _ _ q => q, fun _ _ _ q => q, fun _ ps q => ⟨#[], by rw [q]; simp⟩⟩
theorem Un.refl : Un fs ex H H h h := Un.kept fun _ _ q => q
theorem Un.laid (k : ∀ b u, h.get? b = some u → h'.get? b = some u) (hp : h.objs.size ≤ a) (hn : H a = none) : Un fs ex H (upd H a o) h h' where
  keep := fun b u q _ _ _ => k b u q
  slot := fun b u q _ _ _ => ⟨u.slots, k b u q⟩
  free := fun b u q n _ => by rw [upd_ne (Nat.ne_of_lt (Nat.lt_of_lt_of_le (Heap.lt_size q) hp))]; exact n
  there := fun b u q _ => ⟨u, k b u q⟩
  tups := fun b xs q => by rw [upd_ne (ne_of_none q hn)]; exact q
  frzs := fun b u xs q => by rw [upd_ne (ne_of_none q hn)]; exact q
  tbls := fun b ps q => ⟨#[], by rw [upd_ne (ne_of_none q hn), q]; simp⟩
theorem Un.write (mu : Mut (H x)) (he : e = x ∨ H e = some (.own x)) (k : ∀ b u, b ≠ e → h.get? b = some u → h'.get? b = some u) (heo : ∃ u, h'.get? e = some u) : Un fs ex H (upd H x o) h h' := by
  have hx : ∀ b, H b = none → b ≠ x := fun b n z => by subst z; rw [n] at mu; exact mu
  have hb : ∀ b, H b = none → b ≠ e := fun b n z => by
    subst z
    rcases he with r | r
    · exact hx b n r
    · rw [n] at r; cases r
  have hm : ∀ b u, H b = some u → ¬ Mut (some u) → b ≠ x := fun b u q nm z => by subst z; rw [q] at mu; exact nm mu
  refine ⟨fun b u q n _ _ => k b u (hb b n) q, fun b u q n _ _ => ⟨u.slots, k b u (hb b n) q⟩, fun b u q n _ => by rw [upd_ne (hx b n)]; exact n, fun b u q _ => ?_,
    fun b xs q => by rw [upd_ne (hm b _ q fun z => z)]; exact q, fun b u xs q => by rw [upd_ne (hm b _ q fun z => z)]; exact q, fun b ps q => ⟨#[], by rw [upd_ne (hm b _ q fun z => z), q]; simp⟩⟩
  by_cases hbe : b = e
  · subst hbe; exact heo
  · exact ⟨u, k b u hbe q⟩
end

/-! ### the heap without what is tracked -/
noncomputable def trk (h : Heap) (H : Hp) : List Addr := (List.range h.objs.size).filter fun a => (H a).isSome
noncomputable def hidT (h : Heap) (H : Hp) : Heap := PySem.W.hideAll h (trk h H)
theorem hidT_size (h : Heap) (H : Hp) : (hidT h H).objs.size = h.objs.size := PySem.W.hideAll_size _ _
theorem hidT_get {h : Heap} {H : Hp} {b : Addr} {o : Obj} (e : h.get? b = some o) (n : H b = none) : (hidT h H).get? b = some o :=
  PySem.W.hideAll_get _ e fun hm => by
    have q : (H b).isSome = true := (List.mem_filter.mp hm).2
    rw [n] at q; simp at q
theorem of_hidT {h : Heap} {H : Hp} {b : Addr} {o : Obj} (e : (hidT h H).get? b = some o) : h.get? b = some o ∧ H b = none := by
  have e' : h.get? b = some o := PySem.W.of_hideAll (trk h H) e
  refine ⟨e', ?_⟩
  cases q : H b with
  | none => rfl
  | some x =>
    have hm : b ∈ trk h H := List.mem_filter.mpr ⟨List.mem_range.mpr (Heap.lt_size e'), by simp [q]⟩
    have z : (hidT h H).get? b = none := PySem.W.hideAll_none (trk h H) hm
    rw [z] at e; cases e

/-! ### OpenK's ledger, filled with every new object but one -/
noncomputable def allNews (g h : Heap) (L : Addr) : List (Addr × Obj) := (List.range h.objs.size).filterMap fun a => if a = L ∨ (g.get? a).isSome = true then none else (h.get? a).map fun o => (a, o)
noncomputable def rest (g h : Heap) (L d : Addr) : List (Addr × Obj) := (allNews g h L).filter fun p => decide (p.1 ≠ d)
end L2

namespace L2
open PySem PySem.Spec PyProof.Rows

set_option genInjectivity false in
structure Mod (K : PySem.W.Frag) (mg : Str → Option Value) (base : Heap) : Prop where
  kin : K.In base
  glob : base.Ns mainGlobals mg
  blt : ∃ mb, base.Ns builtinsNs mb ∧ ∀ x : Str, x ≠ "__name__" → mb x = bootBuiltins x
  nolimit : base.NoLimit

set_option genInjectivity false in
structure Cx where
  prog : Program
  w : World
  K : PySem.W.Frag
  mg : Str → Option Value
  base : Heap
  A : Around
  N : List Str
  s₀ : Shared
  H₀ : Hp
  env : Env
  outer : List Env
  stack : List Env
  ex : List Addr
  fn : Str → Bool
  calm : Bool
  pn : List (Addr × Obj)
  xe : Value → Shared → Prop
noncomputable def frs (l : List Env) : List Addr := l.filterMap (·.frame)
noncomputable abbrev Cx.fs (X : Cx) : List Addr := frs X.outer

noncomputable def Vis (sc : Scope) (x : Str) : Prop := sc.names.lookup x = some .local ∨ sc.names.lookup x = some .cell ∨ sc.names.lookup x = some .free
noncomputable def Loc (sc : Scope) (x : Str) : Prop := sc.names.lookup x = some .local ∨ sc.names.lookup x = some .cell
noncomputable def Look (env : Env) (h : Heap) (m : Str → Option Value) (x : Str) (u : Value) : Prop :=
  (env.kindOf x = some .local ∧ m x = some u) ∨ ((env.kindOf x = some .cell ∨ env.kindOf x = some .free) ∧ ∃ c, env.cells.lookup x = some c ∧ h.IsCell c (some u))

set_option genInjectivity false in
structure Cx.Ok (X : Cx) : Prop where
  mod : Mod X.K X.mg X.base
  kind : X.env.scope.kind = .function
  glob : X.env.globals = mainGlobals
  blt : X.env.builtins = builtinsNs
  above : X.s₀.heap.objs.size ≤ X.env.locals
  inj : ∀ x y c, X.env.cells.lookup x = some c → X.env.cells.lookup y = some c → x = y
  has : ∀ x, (X.env.kindOf x = some .cell ∨ X.env.kindOf x = some .free) → ∃ c, X.env.cells.lookup x = some c
  cab : ∀ x c, X.fn x = true → X.env.cells.lookup x = some c → X.s₀.heap.objs.size ≤ c
  hd : X.calm = true → X.A.handled = none
  frames : X.A.frames = some X.stack
  stk : X.stack = X.outer ∨ (X.stack = X.env :: X.outer ∧ X.env.frame = some X.env.locals)
  exf : ∀ b ∈ X.ex, b ≠ X.env.locals ∧ ∀ x c, X.env.cells.lookup x = some c → c ≠ b
  bs : ∀ b o, X.base.get? b = some o → X.s₀.heap.get? b = some o ∧ X.H₀ b = none
  bsz : X.base.objs.size ≤ X.s₀.heap.objs.size
  noex : ∀ b o, X.base.get? b = some o → b ∉ X.ex
  exfs : ∀ b ∈ X.ex, b ∉ X.fs
  funs : X.s₀.heap.FunFrames X.base X.outer
  frf : ∀ b ∈ X.fs, X.H₀ b = none

set_option genInjectivity false in
structure Inv (X : Cx) (pins : List (Addr × Obj)) (σ : List (Option V)) (H : Hp) (s : Shared) : Prop where
  ok : X.Ok
  os : s.os = X.s₀.os
  bare : AllBare s.gens
  base : Un X.fs X.ex X.H₀ H X.s₀.heap s.heap
  loc : ∃ m, s.heap.Ns X.env.locals m ∧ ∀ (i : Nat) (x : Str) (v : V), X.N[i]? = some x → σ[i]? = some (some v) → Vis X.env.scope x → ∃ u, RelV v u ∧ Look X.env s.heap m x u
  cell : ∀ x c, X.env.cells.lookup x = some c → ∃ v, s.heap.IsCell c v
  free : H X.env.locals = none
  freeC : ∀ x c, X.env.cells.lookup x = some c → H c = none
  pin : ∀ p ∈ X.pn ++ pins, s.heap.get? p.1 = some p.2 ∧ H p.1 = none ∧ p.1 ≠ X.env.locals ∧ p.1 ∉ X.fs ∧ ∀ v, p.2.data ≠ .cell v
  hok : HOk X.prog X.w H s.heap
  len : σ.length = X.N.length

section
variable {X : Cx} {pins : List (Addr × Obj)} {σ : List (Option V)} {H H' : Hp} {s : Shared} {h' : Heap}

theorem Cx.Ok.nofr (ok : X.Ok) {b : Addr} {o : Obj} (e : X.base.get? b = some o) : b ∉ X.fs := fun hb => by
  have := (ok.funs.mem hb).1
  rw [e] at this; cases this
theorem Inv.bs (I : Inv X pins σ H s) : ∀ b o, X.base.get? b = some o → s.heap.get? b = some o ∧ H b = none := fun b o e =>
  ⟨I.base.keep b o (I.ok.bs b o e).1 (I.ok.bs b o e).2 (I.ok.nofr e) (I.ok.noex b o e), I.base.free b o (I.ok.bs b o e).1 (I.ok.bs b o e).2 (I.ok.noex b o e)⟩
theorem Inv.bk (I : Inv X pins σ H s) : ∀ b o, X.base.get? b = some o → s.heap.get? b = some o := fun b o e => (I.bs b o e).1
theorem Inv.mod (I : Inv X pins σ H s) : Mod X.K X.mg X.base := I.ok.mod
theorem Inv.kIn (I : Inv X pins σ H s) : X.K.In s.heap := I.ok.mod.kin.keeps I.bk
theorem Inv.fr (I : Inv X pins σ H s) : ∃ m, Fr X.base X.env.locals s.heap m :=
  let ⟨m, hn, _⟩ := I.loc
  ⟨m, hn, I.bk, Nat.le_trans I.ok.bsz I.ok.above⟩
theorem Inv.lt (I : Inv X pins σ H s) : X.env.locals < s.heap.objs.size := let ⟨_, hn, _⟩ := I.loc; hn.lt
theorem Inv.sz (I : Inv X pins σ H s) : X.s₀.heap.objs.size ≤ s.heap.objs.size := Nat.le_trans I.ok.above (Nat.le_of_lt I.lt)
theorem Inv.nofs (I : Inv X pins σ H s) {a : Addr} (h : s.heap.objs.size ≤ a) : a ∉ X.fs := fun hb => by
  obtain ⟨_, o, ho, _⟩ := I.ok.funs.mem hb
  exact absurd (Nat.lt_of_lt_of_le (Heap.lt_size ho) (Nat.le_trans I.sz h)) (Nat.lt_irrefl _)
theorem Inv.cne (I : Inv X pins σ H s) : ∀ x c, X.env.cells.lookup x = some c → c ≠ X.env.locals := fun x c e z => by
  obtain ⟨v, o, ho, hd⟩ := I.cell x c e
  obtain ⟨m, ⟨o', es, ep, ho', hd', _⟩, _⟩ := I.loc
  rw [z, ho'] at ho; cases ho; rw [hd'] at hd; cases hd
theorem Inv.funs (I : Inv X pins σ H s) : s.heap.FunFrames X.base X.outer := by
  have all : ∀ (l : List Env), (∀ b ∈ frs l, b ∈ X.fs) → X.s₀.heap.FunFrames X.base l → s.heap.FunFrames X.base l := by
    intro l
    induction l with
    | nil => intro _ _; trivial
    | cons env r ih =>
      intro hs hl
      obtain ⟨hk, ⟨L, o, hf, hn, ho, hd⟩, hr⟩ := hl
      have hL : L ∈ X.fs := hs L (by unfold frs; rw [List.filterMap_cons, hf]; exact List.mem_cons_self)
      obtain ⟨sl, e⟩ := I.base.slot L o ho (I.ok.frf L hL) hL fun z => I.ok.exfs L z hL
      exact ⟨hk, ⟨L, _, hf, hn, e, hd⟩, ih (fun b hb => hs b (by unfold frs; rw [List.filterMap_cons, hf]; exact List.mem_cons_of_mem _ hb)) hr⟩
  exact all X.outer (fun _ hb => hb) I.ok.funs

theorem Inv.stack (I : Inv X pins σ H s) : s.heap.FunFrames X.base X.stack := by
  rcases I.ok.stk with e | ⟨e, hf⟩
  · rw [e]; exact I.funs
  · rw [e]
    obtain ⟨m, hn, _⟩ := I.loc
    refine .cons (by rw [I.ok.kind]; decide) hf hn ?_ I.funs
    exact Heap.get?_none_of_le (Nat.le_trans I.ok.bsz I.ok.above)
theorem Inv.stkSub (I : Inv X pins σ H s) : ∀ b ∈ frs X.stack, b ∈ X.env.locals :: X.fs := fun b hb => by
  rcases I.ok.stk with e | ⟨e, hf⟩
  · rw [e] at hb; exact List.mem_cons_of_mem _ hb
  · rw [e] at hb
    unfold frs at hb
    rw [List.filterMap_cons, hf] at hb
    exact hb
theorem Inv.stkFree (I : Inv X pins σ H s) : ∀ b ∈ frs X.stack, H b = none := fun b hb => by
  rcases List.mem_cons.mp (I.stkSub b hb) with e | hb
  · rw [e]; exact I.free
  · obtain ⟨_, o, ho, _⟩ := I.ok.funs.mem hb
    exact I.base.free b o ho (I.ok.frf b hb) fun z => I.ok.exfs b z hb

theorem Inv.step {g' : Array GenState} {t' : Nat} {d' : Drawn} {ch : List Addr} (I : Inv X pins σ H s)
    (hch : ∀ b ∈ ch, (b ∈ X.ex ∨ X.s₀.heap.objs.size ≤ b) ∧ b ≠ X.env.locals ∧ (∀ x c, X.env.cells.lookup x = some c → c ≠ b) ∧ ∀ p ∈ X.pn ++ pins, p.1 ≠ b)
    (keep : ∀ b o, b ≠ X.env.locals → b ∉ X.fs → b ∉ ch → s.heap.get? b = some o → H b = none → h'.get? b = some o)
    (slot : ∀ b o, b ≠ X.env.locals → b ∈ X.fs → b ∉ ch → s.heap.get? b = some o → H b = none → ∃ sl, h'.get? b = some { o with slots := sl }) (free : ∀ b o, b ∉ ch → s.heap.get? b = some o → H b = none → H' b = none)
    (there : ∀ b o, b ∉ ch → s.heap.get? b = some o → ∃ o', h'.get? b = some o')
    (tups : ∀ b xs, H b = some (.tup xs) → H' b = some (.tup xs)) (frzs : ∀ b o u, H b = some (.frz o u) → H' b = some (.frz o u)) (tbls : ∀ b ps, H b = some (.tbl ps) → ∃ more, H' b = some (.tbl (ps ++ more)))
    (ns : ∀ m, s.heap.Ns X.env.locals m → h'.Ns X.env.locals m) (hok : HOk X.prog X.w H' h') (hg : AllBare g') :
    Inv X pins σ H' { s with heap := h', gens := g', drawn := d', toks := t' } := by
  have neL : ∀ b o, X.s₀.heap.get? b = some o → b ≠ X.env.locals := fun b o e => Nat.ne_of_lt (Nat.lt_of_lt_of_le (Heap.lt_size e) I.ok.above)
  have neC : ∀ b o, X.s₀.heap.get? b = some o → b ∉ X.ex → b ∉ ch := fun b o e hx hb => by
    rcases (hch b hb).1 with z | z
    · exact hx z
    · exact absurd (Nat.lt_of_lt_of_le (Heap.lt_size e) z) (Nat.lt_irrefl _)
  have cellK : ∀ x c, X.env.cells.lookup x = some c → ∀ v, s.heap.IsCell c v → h'.IsCell c v := fun x c e v ⟨o, ho, hd⟩ => by
    have nch : c ∉ ch := fun z => (hch c z).2.2.1 x c e rfl
    by_cases hc : c ∈ X.fs
    · obtain ⟨sl, q⟩ := slot c o (I.cne x c e) hc nch ho (I.freeC x c e)
      exact ⟨_, q, hd⟩
    · exact ⟨o, keep c o (I.cne x c e) hc nch ho (I.freeC x c e), hd⟩
  refine ⟨I.ok, I.os, hg, ⟨fun b o e n hb hx => ?_, fun b o e n hb hx => ?_, fun b o e n hx => ?_, fun b o e hx => ?_, fun b xs e => tups b xs (I.base.tups b xs e), fun b o xs e => frzs b o xs (I.base.frzs b o xs e), fun b ps e => ?_⟩, ?_, fun x c e => ?_, ?_, fun x c e => ?_, fun p hp => ?_, hok, I.len⟩
  · exact keep b o (neL b o e) hb (neC b o e hx) (I.base.keep b o e n hb hx) (I.base.free b o e n hx)
  · obtain ⟨sl, e1⟩ := I.base.slot b o e n hb hx
    obtain ⟨sl', e2⟩ := slot b _ (neL b o e) hb (neC b o e hx) e1 (I.base.free b o e n hx)
    exact ⟨sl', e2⟩
  · obtain ⟨o', e1⟩ := I.base.there b o e hx
    exact free b o' (neC b o e hx) e1 (I.base.free b o e n hx)
  · obtain ⟨o', e1⟩ := I.base.there b o e hx
    exact there b o' (neC b o e hx) e1
  · obtain ⟨m1, e1⟩ := I.base.tbls b ps e
    obtain ⟨m2, e2⟩ := tbls b _ e1
    exact ⟨m1 ++ m2, by rw [e2, Array.append_assoc]⟩
  · obtain ⟨m, hn, hl⟩ := I.loc
    refine ⟨m, ns m hn, fun i x v e1 e2 e3 => ?_⟩
    obtain ⟨u, r, l⟩ := hl i x v e1 e2 e3
    refine ⟨u, r, ?_⟩
    rcases l with l | ⟨k, c, e, z⟩
    · exact .inl l
    · exact .inr ⟨k, c, e, cellK x c e _ z⟩
  · obtain ⟨v, z⟩ := I.cell x c e
    exact ⟨v, cellK x c e v z⟩
  · obtain ⟨m, ⟨o, _, _, ho, _⟩, _⟩ := I.loc
    exact free _ o (fun z => (hch _ z).2.1 rfl) ho I.free
  · obtain ⟨v, o, ho, hd⟩ := I.cell x c e
    exact free c o (fun z => (hch c z).2.2.1 x c e rfl) ho (I.freeC x c e)
  · obtain ⟨e, n, ne, nf, d⟩ := I.pin p hp
    have nch : p.1 ∉ ch := fun z => (hch p.1 z).2.2.2 p hp rfl
    exact ⟨keep p.1 p.2 ne nf nch e n, free p.1 p.2 nch e n, ne, nf, d⟩
theorem Inv.un {t' : Nat} (I : Inv X pins σ H s) (u : Un X.fs [] H H' s.heap h') (hok : HOk X.prog X.w H' h') : Inv X pins σ H' { s with heap := h', toks := t' } := by
  obtain ⟨m, ⟨o, es, ep, ho, r⟩, _⟩ := id I.loc
  obtain ⟨sl, hL⟩ := u.any ho I.free (by simp)
  exact I.step (g' := s.gens) (d' := s.drawn) (ch := []) (fun _ z => nomatch z) (fun b o _ hb _ e n => u.keep b o e n hb (by simp)) (fun b o _ hb _ e n => u.slot b o e n hb (by simp)) (fun b o _ e n => u.free b o e n (by simp)) (fun b o _ e => u.there b o e (by simp)) u.tups u.frzs u.tbls (fun m' hm => by
    obtain ⟨o', es', ep', ho', r'⟩ := hm
    rw [ho] at ho'; cases ho'
    exact ⟨_, es', ep', hL, r'⟩) hok I.bare
theorem Inv.call {g' : Array GenState} {t' : Nat} {d' : Drawn} {ch : List Addr} (I : Inv X pins σ H s) (u : Un (frs X.stack) ch H H' s.heap h') (hok : HOk X.prog X.w H' h') (hg : AllBare g')
    (hch : ∀ b ∈ ch, (b ∈ X.ex ∨ X.s₀.heap.objs.size ≤ b) ∧ b ≠ X.env.locals ∧ (∀ x c, X.env.cells.lookup x = some c → c ≠ b) ∧ ∀ p ∈ X.pn ++ pins, p.1 ≠ b) :
    Inv X pins σ H' { s with heap := h', gens := g', drawn := d', toks := t' } := by
  obtain ⟨m, ⟨o, es, ep, ho, r⟩, _⟩ := id I.loc
  obtain ⟨sl, hL⟩ := u.any ho I.free fun z => (hch _ z).2.1 rfl
  exact I.step (ch := ch) hch (fun b o hL hb hc e n => u.keep b o e n (fun z => (List.mem_cons.mp (I.stkSub b z)).elim hL hb) hc) (fun b o _ _ hc e n => u.any e n hc) (fun b o hc e n => u.free b o e n hc) (fun b o hc e => u.there b o e hc) u.tups u.frzs u.tbls (fun m' hm => by
    obtain ⟨o', es', ep', ho', r'⟩ := hm
    rw [ho] at ho'; cases ho'
    exact ⟨_, es', ep', hL, r'⟩) hok hg
theorem Inv.turned {t' : Nat} {it : Addr} (I : Inv X pins σ H s) (k : ∀ b o, b ≠ it → s.heap.get? b = some o → h'.get? b = some o) (hn : H it = none) (hL : it ≠ X.env.locals)
    (h1 : it ∈ X.ex ∨ X.s₀.heap.objs.size ≤ it) (h2 : ∀ x c, X.env.cells.lookup x = some c → c ≠ it) (h3 : ∀ p ∈ X.pn ++ pins, p.1 ≠ it) : Inv X pins σ H { s with heap := h', toks := t' } := by
  have nit : ∀ b u, H b = some u → b ≠ it := fun b u e z => by rw [z, hn] at e; cases e
  refine I.step (g' := s.gens) (d' := s.drawn) (ch := [it]) (fun b hb => ?_) (fun b o _ _ hc e _ => k b o (fun z => hc (by simp [z])) e) (fun b o _ _ hc e _ => ⟨o.slots, k b o (fun z => hc (by simp [z])) e⟩) (fun _ _ _ _ n => n)
    (fun b o hc e => ⟨o, k b o (fun z => hc (by simp [z])) e⟩) (fun _ _ e => e) (fun _ _ _ e => e) (fun b ps e => ⟨#[], by rw [e]; simp⟩) (fun m hm => ?_) (fun b u e => ?_) I.bare
  · have e : b = it := by simpa using hb
    subst e
    exact ⟨h1, hL, h2, h3⟩
  · obtain ⟨o, es, ep, ho, r⟩ := hm
    exact ⟨o, es, ep, k _ o (Ne.symm hL) ho, r⟩
  · refine (I.hok b u e).stay (fun c v hc q => k c v ?_ q) (fun _ q => q) fun _ _ q => q
    rcases hc with z | z
    · rw [z]; exact nit b u e
    · exact nit c _ z
theorem Inv.tok (I : Inv X pins σ H s) (t : Nat) : Inv X pins σ H { s with toks := t } := I.un (h' := s.heap) (t' := t) Un.refl I.hok
theorem Inv.kept {t' : Nat} (I : Inv X pins σ H s) (k : ∀ b u, s.heap.get? b = some u → h'.get? b = some u) : Inv X pins σ H { s with heap := h', toks := t' } := I.un (Un.kept k) (I.hok.kept k)
theorem Inv.laid {a : Addr} {o : HO} {t' : Nat} (I : Inv X pins σ H s) (k : ∀ b u, s.heap.get? b = some u → h'.get? b = some u) (hp : s.heap.objs.size ≤ a) (new : ObjOk X.prog X.w (upd H a o) h' a o) :
    Inv X pins σ (upd H a o) { s with heap := h', toks := t' } := I.un (Un.laid k hp (I.hok.fresh hp)) (I.hok.laid k hp new)
theorem Inv.write {x e : Addr} {o : HO} {t' : Nat} (I : Inv X pins σ H s) (mu : Mut (H x)) (he : e = x ∨ H e = some (.own x)) (k : ∀ b u, b ≠ e → s.heap.get? b = some u → h'.get? b = some u) (heo : ∃ u, h'.get? e = some u)
    (new : ObjOk X.prog X.w (upd H x o) h' x o) : Inv X pins σ (upd H x o) { s with heap := h', toks := t' } := I.un (Un.write mu he k heo) (I.hok.write mu he k heo new)
theorem Inv.weak {σ' : List (Option V)} (I : Inv X pins σ H s) (hl : σ'.length = σ.length) (w : ∀ (i : Nat) v, σ'[i]? = some (some v) → σ[i]? = some (some v)) : Inv X pins σ' H s :=
  ⟨I.ok, I.os, I.bare, I.base, let ⟨m, hn, hl'⟩ := I.loc; ⟨m, hn, fun i x v e1 e2 e3 => hl' i x v e1 (w i v e2) e3⟩, I.cell, I.free, I.freeC, I.pin, I.hok, hl.trans I.len⟩
theorem Inv.pins_of {pins' : List (Addr × Obj)} (I : Inv X pins σ H s) (h : ∀ p ∈ pins', s.heap.get? p.1 = some p.2 ∧ H p.1 = none ∧ p.1 ≠ X.env.locals ∧ p.1 ∉ X.fs ∧ ∀ v, p.2.data ≠ .cell v) : Inv X pins' σ H s :=
  ⟨I.ok, I.os, I.bare, I.base, I.loc, I.cell, I.free, I.freeC, fun p hp => (List.mem_append.mp hp).elim (fun z => I.pin p (List.mem_append_left _ z)) (h p), I.hok, I.len⟩

theorem nodup_ix {N : List Str} (hN : N.Nodup) {i j : Nat} {x : Str} (a : N[i]? = some x) (b : N[j]? = some x) : i = j := by
  obtain ⟨h1, e1⟩ := List.getElem?_eq_some_iff.mp a
  obtain ⟨h2, e2⟩ := List.getElem?_eq_some_iff.mp b
  exact (List.getElem_inj hN).mp (e1.trans e2.symm)

theorem store_ok2 {M : Model} {A : Around} {E : Value → Shared → Prop} {i : Nat} {x : Str} {v : V} {u : Value} {Q : Unit → Shared → Prop} (I : Inv X pins σ H s) (hN : X.N.Nodup) (hi : X.N[i]? = some x) (hx : Loc X.env.scope x) (r : RelV v u)
    (h : ∀ s', Inv X pins (σ.set i (some v)) H s' → (∃ a, Heap.SameBut a s.heap s'.heap ∧ (a = X.env.locals ∨ X.env.cells.lookup x = some a)) → Q () s') (hf : X.fn x = true ∨ X.env.scope.names.lookup x = some .local := by first | exact .inl rfl | exact .inr rfl | assumption) : wpAny M A (storeName X.env x u) Q E s := by
  obtain ⟨m, hn, hl⟩ := id I.loc
  have hcls : (X.env.scope.kind == .class || (X.env.scope.kind == .module && X.env.locals != X.env.globals)) = false := by rw [I.ok.kind]; rfl
  have hiσ : i < σ.length := by rw [I.len]; exact (List.getElem?_eq_some_iff.mp hi).1
  have cne := I.cne
  have tracked : ∀ {a : Addr} {h' : Heap}, (∃ o, s.heap.get? a = some o ∧ H a = none) → Heap.SameBut a s.heap h' → HOk X.prog X.w H h' := fun {a h'} ha hs b ob e => by
    obtain ⟨_, _, hfree⟩ := ha
    refine (I.hok b ob e).stay (fun c w' hc q => (hs.2 c ?_).trans q) (fun _ q => q) fun _ _ q => q
    rintro rfl
    rcases hc with rfl | hc
    · rw [hfree] at e; cases e
    · rw [hfree] at hc; cases hc
  rcases hx with hk | hk
  · refine wpAny_storeName_local hk hn (fun h' hn' hs => ?_) hcls
    obtain ⟨oL, _, _, hoL, _⟩ := id hn
    refine h _ ⟨I.ok, I.os, I.bare, ⟨fun b o e n hb hx => ?_, fun b o e n hb hx => ?_, I.base.free, fun b o e hx => ?_, I.base.tups, I.base.frzs, I.base.tbls⟩, ⟨_, hn', fun j y v' e1 e2 e3 => ?_⟩, fun y c e => ?_, I.free, I.freeC, fun p hp => ?_, tracked ⟨oL, hoL, I.free⟩ hs, by simpa using I.len⟩ ⟨_, hs, .inl rfl⟩
    · exact (hs.2 b (Nat.ne_of_lt (Nat.lt_of_lt_of_le (Heap.lt_size e) I.ok.above))).trans (I.base.keep b o e n hb hx)
    · obtain ⟨sl, e1⟩ := I.base.slot b o e n hb hx
      exact ⟨sl, (hs.2 b (Nat.ne_of_lt (Nat.lt_of_lt_of_le (Heap.lt_size e) I.ok.above))).trans e1⟩
    · obtain ⟨o', e1⟩ := I.base.there b o e hx
      exact ⟨o', (hs.2 b (Nat.ne_of_lt (Nat.lt_of_lt_of_le (Heap.lt_size e) I.ok.above))).trans e1⟩
    · by_cases hj : j = i
      · subst hj
        rw [hi] at e1; cases e1
        rw [List.getElem?_set_self hiσ] at e2
        cases e2
        exact ⟨u, r, .inl ⟨hk, by simp⟩⟩
      · rw [List.getElem?_set_ne (Ne.symm hj)] at e2
        obtain ⟨u', r', q⟩ := hl j y v' e1 e2 e3
        refine ⟨u', r', ?_⟩
        rcases q with ⟨k, e⟩ | ⟨k, c, e, z⟩
        · refine .inl ⟨k, ?_⟩
          have : y ≠ x := fun e => hj (nodup_ix hN e1 (e ▸ hi))
          simp [this, e]
        · exact .inr ⟨k, c, e, z.sameBut hs (cne y c e)⟩
    · obtain ⟨w', z⟩ := I.cell y c e
      exact ⟨w', z.sameBut hs (cne y c e)⟩
    · obtain ⟨e, n, ne, nf, d⟩ := I.pin p hp
      exact ⟨(hs.2 p.1 ne).trans e, n, ne, nf, d⟩
  · have hfn : X.fn x = true := by
      rcases hf with z | z
      · exact z
      · rw [z] at hk; cases hk
    obtain ⟨c, hc⟩ := I.ok.has x (.inl hk)
    obtain ⟨w', z⟩ := I.cell x c hc
    refine wpAny_storeName_cell I.ok.kind hk hc z (fun h' hc' hs => ?_)
    obtain ⟨oc, hoc, hocd⟩ := id z
    refine h { s with heap := h' } ⟨I.ok, I.os, I.bare, ⟨fun b o e n hb hx => ?_, fun b o e n hb hx => ?_, I.base.free, fun b o e hx => ?_, I.base.tups, I.base.frzs, I.base.tbls⟩, ⟨m, hn.sameBut hs (Ne.symm (cne x c hc)), fun j y v' e1 e2 e3 => ?_⟩, fun y c' e => ?_, I.free, I.freeC, fun p hp => ?_, tracked ⟨oc, hoc, I.freeC x c hc⟩ hs, by simpa using I.len⟩ ⟨c, hs, .inr hc⟩
    · exact (hs.2 b (Nat.ne_of_lt (Nat.lt_of_lt_of_le (Heap.lt_size e) (I.ok.cab x c hfn hc)))).trans (I.base.keep b o e n hb hx)
    · obtain ⟨sl, e1⟩ := I.base.slot b o e n hb hx
      exact ⟨sl, (hs.2 b (Nat.ne_of_lt (Nat.lt_of_lt_of_le (Heap.lt_size e) (I.ok.cab x c hfn hc)))).trans e1⟩
    · obtain ⟨o', e1⟩ := I.base.there b o e hx
      exact ⟨o', (hs.2 b (Nat.ne_of_lt (Nat.lt_of_lt_of_le (Heap.lt_size e) (I.ok.cab x c hfn hc)))).trans e1⟩
    · by_cases hj : j = i
      · subst hj
        rw [hi] at e1; cases e1
        rw [List.getElem?_set_self hiσ] at e2
        cases e2
        exact ⟨u, r, .inr ⟨.inl hk, c, hc, hc'⟩⟩
      · rw [List.getElem?_set_ne (Ne.symm hj)] at e2
        obtain ⟨u', r', q⟩ := hl j y v' e1 e2 e3
        refine ⟨u', r', ?_⟩
        rcases q with q | ⟨k, c', e, z'⟩
        · exact .inl q
        · refine .inr ⟨k, c', e, z'.sameBut hs ?_⟩
          rintro rfl
          exact hj (nodup_ix hN e1 (I.ok.inj _ _ _ e hc ▸ hi))
    · by_cases hcc : c' = c
      · subst hcc; exact ⟨_, hc'⟩
      · obtain ⟨w2, z2⟩ := I.cell y c' e
        exact ⟨w2, z2.sameBut hs hcc⟩
    · obtain ⟨e, n, ne, nf, d⟩ := I.pin p hp
      refine ⟨(hs.2 p.1 ?_).trans e, n, ne, nf, d⟩
      intro q
      rw [q, hoc] at e
      have q' : oc = p.2 := Option.some.inj e
      exact d w' (by rw [← q']; exact hocd)
theorem store_ok {M : Model} {A : Around} {E : Value → Shared → Prop} {i : Nat} {x : Str} {v : V} {u : Value} {Q : Unit → Shared → Prop} (I : Inv X pins σ H s) (hN : X.N.Nodup) (hi : X.N[i]? = some x) (hx : Loc X.env.scope x) (r : RelV v u)
    (h : ∀ s', Inv X pins (σ.set i (some v)) H s' → Q () s') (hf : X.fn x = true ∨ X.env.scope.names.lookup x = some .local := by first | exact .inl rfl | exact .inr rfl | assumption) : wpAny M A (storeName X.env x u) Q E s :=
  store_ok2 I hN hi hx r (fun s' I' _ => h s' I') hf
theorem Inv.call' {s' : Shared} {ch : List Addr} (I : Inv X pins σ H s) (ho : s'.os = s.os) (u : Un (frs X.stack) ch H H' s.heap s'.heap) (hok : HOk X.prog X.w H' s'.heap) (hg : AllBare s'.gens)
    (hch : ∀ b ∈ ch, (b ∈ X.ex ∨ X.s₀.heap.objs.size ≤ b) ∧ b ≠ X.env.locals ∧ (∀ x c, X.env.cells.lookup x = some c → c ≠ b) ∧ ∀ p ∈ X.pn ++ pins, p.1 ≠ b) : Inv X pins σ H' s' := by
  obtain ⟨h', g', d', t', o'⟩ := s'
  have e : o' = s.os := ho
  subst e
  exact I.call (g' := g') (t' := t') (d' := d') u hok hg hch
end

/-! ### the judgements -/
noncomputable abbrev XK := Value → Option Addr → Hp → Prop
noncomputable abbrev St := List (Option V)
noncomputable abbrev VK := V → Hp → Prop
noncomputable abbrev TE := St → Hp → VK → Prop
noncomputable abbrev TT := St → Hp → (Bool → Hp → Prop) → Prop
noncomputable abbrev TA := St → Hp → (List V → Hp → Prop) → Prop
set_option genInjectivity false in
structure Ends where
  nx : St → Hp → Prop
  rt : VK
  bk : St → Hp → Prop := fun _ _ => False
  ct : St → Hp → Prop := fun _ _ => False
noncomputable abbrev TS := Ends → St → Hp → Prop

noncomputable def EP (X : Cx) (pins : List (Addr × Obj)) (σ : St) (Q : VK) (u : Value) (s' : Shared) : Prop := ∃ v H', Inv X pins σ H' s' ∧ RelV v u ∧ Q v H'
noncomputable def TP (X : Cx) (pins : List (Addr × Obj)) (σ : St) (Q : Bool → Hp → Prop) (b : Bool) (s' : Shared) : Prop := ∃ H', Inv X pins σ H' s' ∧ Q b H'
noncomputable def AP (X : Cx) (pins : List (Addr × Obj)) (σ : St) (Q : List V → Hp → Prop) (us : List Value) (s' : Shared) : Prop := ∃ vs H', Inv X pins σ H' s' ∧ Vals vs us ∧ Q vs H'
noncomputable def SP (X : Cx) (pins : List (Addr × Obj)) (D : Ends) (f : Flow) (s' : Shared) : Prop :=
  match f with
  | .next => ∃ σ' H', Inv X pins σ' H' s' ∧ D.nx σ' H'
  | .brk => ∃ σ' H', Inv X pins σ' H' s' ∧ D.bk σ' H'
  | .cont => ∃ σ' H', Inv X pins σ' H' s' ∧ D.ct σ' H'
  | .ret u => ∃ v σ' H', Inv X pins σ' H' s' ∧ RelV v u ∧ D.rt v H'

noncomputable def PE (X : Cx) (e : Expr) (t : TE) : Prop :=
  ∀ (pins : List (Addr × Obj)) (s : Shared) (σ : St) (H : Hp) (Q : VK), Inv X pins σ H s → t σ H Q → wpAny (model X.prog X.w) X.A (eval e X.env) (EP X pins σ Q) X.xe s
noncomputable def PT (X : Cx) (e : Expr) (t : TT) : Prop :=
  ∀ (pins : List (Addr × Obj)) (s : Shared) (σ : St) (H : Hp) (Q : Bool → Hp → Prop), Inv X pins σ H s → t σ H Q → wpAny (model X.prog X.w) X.A (isTrue e X.env (eval e X.env)) (TP X pins σ Q) X.xe s
noncomputable def PW (X : Cx) (e : Expr) (t : TT) : Prop :=
  ∀ (whole : Sem Value) (pins : List (Addr × Obj)) (s : Shared) (σ : St) (H : Hp) (Q : Bool → Hp → Prop), Inv X pins σ H s → t σ H Q → wpAny (model X.prog X.w) X.A (isTrue e X.env whole) (TP X pins σ Q) X.xe s
theorem PW.pt {X : Cx} {e : Expr} {t : TT} (h : PW X e t) : PT X e t := h _
noncomputable def PA (X : Cx) (es : List Expr) (t : TA) : Prop :=
  ∀ (pos : Pos) (pins : List (Addr × Obj)) (s : Shared) (σ : St) (H : Hp) (Q : List V → Hp → Prop), Inv X pins σ H s → t σ H Q → wpAny (model X.prog X.w) X.A (spliced (backTo pos (starEach es X.env))) (AP X pins σ Q) X.xe s
noncomputable def PS (X : Cx) (st : Stmt) (t : TS) : Prop :=
  ∀ (pins : List (Addr × Obj)) (s : Shared) (σ : St) (H : Hp) (D : Ends), Inv X pins σ H s → t D σ H → wpAny (model X.prog X.w) X.A (exec st X.env) (SP X pins D) X.xe s
noncomputable def PSs (X : Cx) (st : List Stmt) (t : TS) : Prop :=
  ∀ (pins : List (Addr × Obj)) (s : Shared) (σ : St) (H : Hp) (D : Ends), Inv X pins σ H s → t D σ H → wpAny (model X.prog X.w) X.A (execs st X.env) (SP X pins D) X.xe s
theorem thn {α : Type} {t : Sem α} {Q Q' : α → Shared → Prop} {M : Model} {A : Around} {E : Value → Shared → Prop} {s : Shared} (h : wpAny M A t Q E s) (hQ : ∀ a s, Q a s → Q' a s) : wpAny M A t Q' E s := wpAny_mono h hQ fun _ _ x => x
end L2

namespace L2
open PySem PySem.Spec PyProof.Rows
section
variable {X : Cx}

theorem bin {a b : Expr} {ta tb : TE} (ha : PE X a ta) (hb : PE X b tb) {pins : List (Addr × Obj)} {s : Shared} {σ : St} {H : Hp} {R : V → V → Hp → Prop} (I : Inv X pins σ H s) (h : ta σ H fun x H1 => tb σ H1 fun y H2 => R x y H2)
    {α : Type} {Q : α → Shared → Prop} {f : Value → Value → Sem α}
    (hf : ∀ v u s2 x y H2, Inv X pins σ H2 s2 → RelV x v → RelV y u → R x y H2 → wpAny (model X.prog X.w) X.A (f v u) Q X.xe s2) :
    wpAny (model X.prog X.w) X.A (eval a X.env) (fun v s₁ => wpAny (model X.prog X.w) X.A (eval b X.env) (fun u s₂ => wpAny (model X.prog X.w) X.A (f v u) Q X.xe s₂) X.xe s₁) X.xe s := by
  refine thn (ha pins s σ H _ I h) fun v s1 ⟨x, H1, I1, r1, q1⟩ => ?_
  refine thn (hb pins s1 σ H1 _ I1 q1) fun u s2 ⟨y, H2, I2, r2, q2⟩ => ?_
  exact hf v u s2 x y H2 I2 r1 r2 q2

/-! ### names and constants -/
noncomputable def tVar (i : Nat) : TE := fun σ H Q => ∃ v, σ[i]? = some (some v) ∧ Q v H
noncomputable def tC (v : V) : TE := fun _ H Q => Q v H
theorem pe_var {i : Nat} {x : Str} {pos : Pos} (hN : X.N[i]? = some x) (hv : Vis X.env.scope x) (hd : (x == ("__debug__" : Str)) = false := by decide) (hcd : (x == ("__classdict__" : Str)) = false := by decide) : PE X (.Name x pos) (tVar i) := by
  intro pins s σ H Q I h
  obtain ⟨v, e, h⟩ := h
  obtain ⟨m, hn, hl⟩ := I.loc
  obtain ⟨u, r, l⟩ := hl i x v hN e hv
  have fin : EP X pins σ Q u s := ⟨v, H, I, r, h⟩
  rcases l with ⟨hk, hm⟩ | ⟨hk, c, hc, hcell⟩
  · exact wpAny_Name (wpAny_loadName_local I.ok.kind hk hn hm fin) hd
  · rcases hk with hk | hk
    · exact wpAny_Name (wpAny_loadName_cell I.ok.kind hk hc hcell fin) hd
    · exact wpAny_Name (wpAny_loadName_free I.ok.kind hk hc hcell fin hcd) hd
theorem pe_int {i j pos} : PE X (.Constant (.int i) j pos) (tC (.int i)) := fun _ _ _ H _ I h => wpAny_Constant_int ⟨.int i, H, I.tok _, ⟨_, rfl⟩, h⟩
theorem pe_bl {b j pos} : PE X (.Constant (.bool b) j pos) (tC (.bl b)) := fun _ _ _ H _ I h => Constant_bool ⟨.bl b, H, I, rfl, h⟩
theorem pe_non {j pos} : PE X (.Constant .none j pos) (tC .non) := fun _ _ _ H _ I h => Constant_none ⟨.non, H, I, rfl, h⟩
theorem pe_str {x j pos} : PE X (.Constant (.str x) j pos) (tC (.str x)) := fun _ _ _ H _ I h => Calls.Constant_str ⟨.str x, H, I.tok _, ⟨_, rfl⟩, h⟩

noncomputable def Gl (X : Cx) (x : Str) : Prop := X.env.kindOf x = some .globalImplicit
theorem ld_glob {E : Value → Shared → Prop} {pins : List (Addr × Obj)} {s : Shared} {σ : St} {H : Hp} {x : Str} {u : Value} {pos : Pos} {Q : Value → Shared → Prop} (I : Inv X pins σ H s) (hg : Gl X x) (hm : X.mg x = some u) (h : Q u s)
    (hd : (x == ("__debug__" : Str)) = false := by decide) : wpAny (model X.prog X.w) X.A (eval (.Name x pos) X.env) Q E s :=
  Calls.Name_function_global I.ok.kind hg (Calls.loadGlobal_global (by rw [I.ok.glob]; exact I.mod.glob.keeps I.bk) hm h) hd
theorem ld_blt {E : Value → Shared → Prop} {pins : List (Addr × Obj)} {s : Shared} {σ : St} {H : Hp} {x : Str} {u : Value} {pos : Pos} {Q : Value → Shared → Prop} (I : Inv X pins σ H s) (hg : Gl X x) (hm : X.mg x = none) (hv : bootBuiltins x = some u) (h : Q u s)
    (hn : x ≠ "__name__" := by decide) (hd : (x == ("__debug__" : Str)) = false := by decide) : wpAny (model X.prog X.w) X.A (eval (.Name x pos) X.env) Q E s := by
  obtain ⟨mb, h1, h2⟩ := I.mod.blt
  exact Calls.Name_function_global I.ok.kind hg (Calls.loadGlobal_builtin (by rw [I.ok.glob]; exact I.mod.glob.keeps I.bk) hm (by rw [I.ok.blt]; exact h1.keeps I.bk) ((h2 x hn).trans hv) h) hd
theorem pe_glob {x : Str} {v : V} {u : Value} {pos : Pos} (hg : Gl X x) (hm : X.mg x = some u) (r : RelV v u) (hd : (x == ("__debug__" : Str)) = false := by decide) : PE X (.Name x pos) (tC v) :=
  fun _ _ _ H _ I h => ld_glob I hg hm ⟨v, H, I, r, h⟩ hd
theorem pe_bltn {x : Str} {v : V} {u : Value} {pos : Pos} (hg : Gl X x) (hm : X.mg x = none) (hv : bootBuiltins x = some u) (r : RelV v u) (hn : x ≠ "__name__" := by decide) (hd : (x == ("__debug__" : Str)) = false := by decide) : PE X (.Name x pos) (tC v) :=
  fun _ _ _ H _ I h => ld_blt I hg hm hv ⟨v, H, I, r, h⟩ hn hd

/-! ### arithmetic -/
variable {a b : Expr} {ta tb : TE} {pos : Pos}

/-! ### comparisons -/
noncomputable def PC (X : Cx) (op : CmpOp) (a b : Expr) (t : TE) : Prop :=
  ∀ (pins : List (Addr × Obj)) (s : Shared) (σ : St) (H : Hp) (Q : VK), Inv X pins σ H s → t σ H Q →
    wpAny (model X.prog X.w) X.A (eval a X.env) (fun v s₁ => wpAny (model X.prog X.w) X.A (eval b X.env) (fun u s₂ => wpAny (model X.prog X.w) X.A (compareOp op v u) (EP X pins σ Q) X.xe s₂) X.xe s₁) X.xe s
theorem nobehind (b : Expr) {op : CmpOp} (h : op ≠ .In) (h2 : op ≠ .NotIn) : behindInMarks op b = false := by
  have e1 : (op == CmpOp.In) = false := by cases op <;> first | rfl | exact absurd rfl h
  have e2 : (op == CmpOp.NotIn) = false := by cases op <;> first | rfl | exact absurd rfl h2
  cases b <;> simp [behindInMarks, e1, e2]
noncomputable def tB (t : TE) : TT := fun σ H Q => t σ H fun x H1 => ∃ c, x = .bl c ∧ Q c H1
theorem pt_cmp {op : CmpOp} {t : TE} (h : PC X op a b t) (h1 : behindInMarks op b = false := by first | exact nobehind _ (by decide) (by decide) | rfl) : PT X (.Compare a [op] [b] pos) (tB t) := by
  intro pins s σ H Q I hw
  refine wpAny_isTrue_Compare1 (thn (h pins s σ H _ I hw) fun v s1 h1 => thn h1 fun u s2 h2 => thn h2 fun c s3 ⟨x, H1, I1, r1, q1⟩ => ?_) h1
  obtain ⟨d, rfl, q⟩ := q1
  cases r1
  exact wpAny_truthy_bool ⟨H1, I1, q⟩
theorem pt_val {e : Expr} {t : TE} (h : PE X e t) (he : ∀ whole, isTrue e X.env whole = (do let v ← whole; standAt e.pos; holding [v] (truthy v)) := by intro _; rfl) : PT X e (tB t) := by
  intro pins s σ H Q I hw
  refine isTrue_plain (thn (h pins s σ H _ I hw) fun v s1 ⟨x, H1, I1, r1, q1⟩ => ?_) (he _)
  obtain ⟨d, rfl, q⟩ := q1
  cases r1
  exact wpAny_truthy_bool ⟨H1, I1, q⟩

/-! ### and, or, not -/
variable {tA tB' : TT} {rest : List Expr}
noncomputable def tAnd (t u : TT) : TT := fun σ H Q => t σ H fun c H1 => if c = true then u σ H1 Q else Q false H1
noncomputable def tOr (t u : TT) : TT := fun σ H Q => t σ H fun c H1 => if c = true then Q true H1 else u σ H1 Q
noncomputable def tNot (t : TT) : TT := fun σ H Q => t σ H fun c H1 => Q (!c) H1
theorem pw_and1 (ha : PT X a tA) : PW X (.BoolOp .And [a] pos) tA := by
  intro wh pins s σ H Q I h
  refine isTrue_and (thn (ha pins s σ H Q I h) fun c s1 e => ?_)
  cases c with
  | true => exact isTrue_and_nil e
  | false => exact e
theorem pw_or1 (ha : PT X a tA) : PW X (.BoolOp .Or [a] pos) tA := by
  intro wh pins s σ H Q I h
  refine isTrue_or (thn (ha pins s σ H Q I h) fun c s1 e => ?_)
  cases c with
  | false => exact isTrue_or_nil e
  | true => exact e
theorem pw_and (ha : PT X a tA) (hb : PW X (.BoolOp .And (b :: rest) pos) tB') : PW X (.BoolOp .And (a :: b :: rest) pos) (tAnd tA tB') := by
  intro wh pins s σ H Q I h
  refine isTrue_and (thn (ha pins s σ H _ I h) fun c s1 ⟨H1, I1, q1⟩ => ?_)
  cases c with
  | true => exact hb wh pins s1 σ H1 Q I1 q1
  | false => exact ⟨H1, I1, q1⟩
theorem pw_or (ha : PT X a tA) (hb : PW X (.BoolOp .Or (b :: rest) pos) tB') : PW X (.BoolOp .Or (a :: b :: rest) pos) (tOr tA tB') := by
  intro wh pins s σ H Q I h
  refine isTrue_or (thn (ha pins s σ H _ I h) fun c s1 ⟨H1, I1, q1⟩ => ?_)
  cases c with
  | true => exact ⟨H1, I1, q1⟩
  | false => exact hb wh pins s1 σ H1 Q I1 q1
theorem pt_not (ha : PT X a tA) : PT X (.UnaryOp .Not a pos) (tNot tA) := by
  intro pins s σ H Q I h
  exact isTrue_not (ha pins s σ H (fun c H1 => Q (!c) H1) I h)
noncomputable def tAndV (ta tb : TE) : TE := fun σ H Q => ta σ H fun x H1 => ∃ c, x = .bl c ∧ if c = true then tb σ H1 Q else Q (.bl false) H1
noncomputable def tOrV (ta tb : TE) : TE := fun σ H Q => ta σ H fun x H1 => ∃ c, x = .bl c ∧ if c = true then Q (.bl true) H1 else tb σ H1 Q
noncomputable def tNotV (ta : TE) : TE := fun σ H Q => ta σ H fun x H1 => ∃ c, x = .bl c ∧ Q (.bl (!c)) H1
theorem pe_one {op} {t : TE} (h : PE X a t) : PE X (.BoolOp op [a] pos) t := fun pins s σ H Q I hw => BoolOp_one (h pins s σ H Q I hw)
theorem pe_and (ha : PE X a ta) (hb : PE X (.BoolOp .And (b :: rest) pos) tb) : PE X (.BoolOp .And (a :: b :: rest) pos) (tAndV ta tb) := by
  intro pins s σ H Q I h
  refine BoolOp_and (thn (ha pins s σ H _ I h) fun v s1 ⟨x, H1, I1, r1, q1⟩ => ?_)
  obtain ⟨c, rfl, q1⟩ := q1
  cases r1
  refine wpAny_truthy_bool ?_
  cases c with
  | true => exact hb pins s1 σ H1 Q I1 q1
  | false => exact ⟨.bl false, H1, I1, rfl, q1⟩
theorem pe_not (ha : PE X a ta) : PE X (.UnaryOp .Not a pos) (tNotV ta) := by
  intro pins s σ H Q I h
  refine UnaryOp_ (thn (ha pins s σ H _ I h) fun v s1 ⟨x, H1, I1, r1, q1⟩ => ?_)
  obtain ⟨c, rfl, q1⟩ := q1
  cases r1
  exact not_of (wpAny_truthy_bool ⟨.bl (!c), H1, I1, rfl, q1⟩)
noncomputable def tIf (t : TT) (ta tb : TE) : TE := fun σ H Q => t σ H fun c H1 => if c = true then ta σ H1 Q else tb σ H1 Q
theorem pe_ifExp {c : Expr} (hc : PT X c tA) (ha : PE X a ta) (hb : PE X b tb) : PE X (.IfExp c a b pos) (tIf tA ta tb) := by
  intro pins s σ H Q I h
  refine wpAny_IfExp (thn (hc pins s σ H _ I h) fun d s1 ⟨H1, I1, q1⟩ => ?_)
  cases d with
  | true => exact ha pins s1 σ H1 Q I1 q1
  | false => exact hb pins s1 σ H1 Q I1 q1
end
end L2

namespace L2
open PySem PySem.Spec PyProof.Rows

/-! ### a list, a tuple that is read: tracked, frozen, or an object of the module -/
noncomputable def SqL (K : PySem.W.Frag) (H : Hp) (a : Addr) (xs : List V) : Prop :=
  Rd H a (.lst xs) ∨
    ∃ (o : Obj) (its : Array Value) (n : Nat), K.lookup a = some o ∧ o.cls = .type "list" ∧ o.dict = none ∧ o.data = .seq its n ∧ its.size ≤ sizeLine ∧ Vals xs its.toList
noncomputable def SqT (K : PySem.W.Frag) (H : Hp) (a : Addr) (xs : List V) : Prop :=
  Rd H a (.tup xs) ∨
    ∃ (o : Obj) (its : Array Value) (n : Nat), K.lookup a = some o ∧ o.cls = .type "tuple" ∧ o.data = .seq its n ∧ its.size ≤ sizeLine ∧ Vals xs its.toList
noncomputable def absV : Value → Option V
  | .none => some .non
  | .bool b => some (.bl b)
  | .int i _ => some (.int i)
  | .str x _ => some (.str x)
  | .bytes b _ => some (.byt b)
  | .float b _ => some (.flt b)
  | .ref a => some (.ref a)
  | .type n => some (.ty n)
  | _ => none
theorem RelV.abs {x : V} {u : Value} (r : RelV x u) : absV u = some x := by
  cases x with
  | non => cases r; rfl
  | bl _ => cases r; rfl
  | int _ => obtain ⟨t, rfl⟩ := r; rfl
  | str _ => obtain ⟨t, rfl⟩ := r; rfl
  | byt _ => obtain ⟨t, rfl⟩ := r; rfl
  | flt _ => obtain ⟨t, rfl⟩ := r; rfl
  | ref _ => cases r; rfl
  | ty _ => cases r; rfl
theorem RelV.inj {x y : V} {u : Value} (r : RelV x u) (q : RelV y u) : x = y := Option.some.inj (r.abs.symm.trans q.abs)
theorem Vals.inj : ∀ {xs ys : List V} {us : List Value}, Vals xs us → Vals ys us → xs = ys
  | _, _, _, .nil, .nil => rfl
  | _, _, _, .cons r t, .cons r' t' => by rw [r.inj r', Vals.inj t t']
section
variable {X : Cx} {pins : List (Addr × Obj)} {σ : St} {H : Hp} {s : Shared} {a : Addr} {xs ys : List V}
theorem SqL.of {K : PySem.W.Frag} (h : H a = some (.lst xs)) : SqL K H a xs := .inl (.inl h)
theorem SqT.of {K : PySem.W.Frag} (h : H a = some (.tup xs)) : SqT K H a xs := .inl (.inl h)
theorem Inv.list (I : Inv X pins σ H s) (h : SqL X.K H a xs) : ∃ its : List Value, Vals xs its ∧ PlainL s.heap a its.toArray ∧ xs.length ≤ sizeLine := by
  rcases h with h | ⟨o, its, n, hk, hc, hd, hs, hz, r⟩
  · obtain ⟨z, its, n, r, e⟩ := h.ok I.hok
    exact ⟨its, r, ⟨_, n, e, rfl, rfl, rfl⟩, z⟩
  · refine ⟨its.toList, r, ⟨o, n, I.kIn a o hk, hc, hd, by simpa using hs⟩, ?_⟩
    have e := r.length
    simp only [Array.length_toList] at e
    omega
theorem Inv.tuple (I : Inv X pins σ H s) (h : SqT X.K H a xs) : ∃ its : List Value, Vals xs its ∧ IsTup s.heap a its.toArray ∧ xs.length ≤ sizeLine := by
  rcases h with h | ⟨o, its, n, hk, hc, hs, hz, r⟩
  · obtain ⟨z, its, r, p⟩ := h.ok I.hok
    exact ⟨its, r, p, z⟩
  · refine ⟨its.toList, r, ⟨o, I.kIn a o hk, hc, n, by simpa using hs⟩, ?_⟩
    have e := r.length
    simp only [Array.length_toList] at e
    omega
theorem Inv.list_inj (I : Inv X pins σ H s) (h : SqL X.K H a xs) (h' : SqL X.K H a ys) : xs = ys := by
  obtain ⟨its, r, ⟨o, n, e, _, _, d⟩, _⟩ := I.list h
  obtain ⟨its', r', ⟨o', n', e', _, _, d'⟩, _⟩ := I.list h'
  rw [e] at e'; cases e'
  rw [d] at d'
  injection d' with d1 _
  have : its = its' := by simpa using congrArg Array.toList d1
  subst this
  exact r.inj r'
theorem Inv.tuple_inj (I : Inv X pins σ H s) (h : SqT X.K H a xs) (h' : SqT X.K H a ys) : xs = ys := by
  obtain ⟨its, r, ⟨o, e, _, n, d⟩, _⟩ := I.tuple h
  obtain ⟨its', r', ⟨o', e', _, n', d'⟩, _⟩ := I.tuple h'
  rw [e] at e'; cases e'
  rw [d] at d'
  injection d' with d1 _
  have : its = its' := by simpa using congrArg Array.toList d1
  subst this
  exact r.inj r'
end

/-! ### another wish about exceptions -/
noncomputable abbrev Cx.wish (X : Cx) (E : Value → Shared → Prop) : Cx := { X with xe := E }
noncomputable abbrev Cx.nox (X : Cx) : Cx := X.wish fun _ _ => False
theorem Cx.Ok.wish {X : Cx} (ok : X.Ok) (E : Value → Shared → Prop) : (X.wish E).Ok :=
  ⟨ok.mod, ok.kind, ok.glob, ok.blt, ok.above, ok.inj, ok.has, ok.cab, ok.hd, ok.frames, ok.stk, ok.exf, ok.bs, ok.bsz, ok.noex, ok.exfs, ok.funs, ok.frf⟩
theorem Cx.Ok.unwish {X : Cx} {E : Value → Shared → Prop} (ok : (X.wish E).Ok) : X.Ok :=
  ⟨ok.mod, ok.kind, ok.glob, ok.blt, ok.above, ok.inj, ok.has, ok.cab, ok.hd, ok.frames, ok.stk, ok.exf, ok.bs, ok.bsz, ok.noex, ok.exfs, ok.funs, ok.frf⟩
section
variable {X : Cx} {pins : List (Addr × Obj)} {σ : St} {H : Hp} {s : Shared} {E : Value → Shared → Prop}
theorem Inv.wish (I : Inv X pins σ H s) (E : Value → Shared → Prop) : Inv (X.wish E) pins σ H s := ⟨I.ok.wish E, I.os, I.bare, I.base, I.loc, I.cell, I.free, I.freeC, I.pin, I.hok, I.len⟩
theorem Inv.unwish (I : Inv (X.wish E) pins σ H s) : Inv X pins σ H s := ⟨I.ok.unwish, I.os, I.bare, I.base, I.loc, I.cell, I.free, I.freeC, I.pin, I.hok, I.len⟩
theorem SP.unwish {D : Ends} {f : Flow} {s' : Shared} (h : SP (X.wish E) pins D f s') : SP X pins D f s' := by
  cases f with
  | next => obtain ⟨σ', H', I, q⟩ := h; exact ⟨σ', H', I.unwish, q⟩
  | brk => obtain ⟨σ', H', I, q⟩ := h; exact ⟨σ', H', I.unwish, q⟩
  | cont => obtain ⟨σ', H', I, q⟩ := h; exact ⟨σ', H', I.unwish, q⟩
  | ret u => obtain ⟨v, σ', H', I, r, q⟩ := h; exact ⟨v, σ', H', I.unwish, r, q⟩
theorem PSs.nox {st : List Stmt} {t : TS} (h : PSs X.nox st t) : PSs X st t := fun pins s σ H D I hw =>
  wpAny_mono (h pins s σ H D (I.wish _) hw) (fun _ _ q => q.unwish) fun _ _ z => False.elim z
end

/-! ### blocks and small statements -/
section
variable {X : Cx} {st : Stmt} {rest : List Stmt} {t u : TS} {e : Expr} {te : TE} {pos : Pos}
noncomputable def tNext : TS := fun D σ H => D.nx σ H
noncomputable def tSeq (t u : TS) : TS := fun D σ H => t { D with nx := u D } σ H
theorem pss_nil : PSs X [] tNext := fun _ _ σ H _ I h => wpAny_execs_nil ⟨σ, H, I, h⟩
theorem pss_cons (h1 : PS X st t) (h2 : PSs X rest u) : PSs X (st :: rest) (tSeq t u) := by
  intro pins s σ H D I h
  refine wpAny_execs_cons (thn (h1 pins s σ H { D with nx := u D } I h) fun f s1 q => ?_)
  cases f with
  | next =>
    obtain ⟨σ', H', I', q⟩ := q
    exact h2 pins s1 σ' H' D I' q
  | ret v => exact q
  | brk => exact q
  | cont => exact q
theorem pss_one (h1 : PS X st t) : PSs X [st] t := by
  intro pins s σ H D I h
  refine wpAny_execs_cons (thn (h1 pins s σ H D I h) fun f s1 q => ?_)
  cases f with
  | next => exact wpAny_execs_nil q
  | ret v => exact q
  | brk => exact q
  | cont => exact q
theorem Inv.quiet {pins : List (Addr × Obj)} {σ : St} {H : Hp} {s : Shared} (I : Inv X pins σ H s) : interactive X.env = false := by simp [interactive, I.ok.kind]
noncomputable def tDrop (te : TE) : TS := fun D σ H => te σ H fun _ H1 => D.nx σ H1
theorem ps_expr (he : PE X e te) (hs : swapsWith e none pos.line X.env = pure false := by rfl) : PS X (.Expr e pos) (tDrop te) := by
  intro pins s σ H D I h
  exact wpAny_Expr_any (thn (he pins s σ H _ I h) fun v s1 ⟨x, H1, I1, r1, q1⟩ => ⟨σ, H1, I1, q1⟩) I.quiet hs
noncomputable def tRet (te : TE) : TS := fun D σ H => te σ H D.rt
theorem ps_ret (he : PE X e te) : PS X (.Return (some e) pos) (tRet te) := by
  intro pins s σ H D I h
  exact wpAny_Return_some (thn (he pins s σ H _ I h) fun v s1 ⟨x, H1, I1, r1, q1⟩ => ⟨x, σ, H1, I1, r1, q1⟩)
noncomputable def tRetN : TS := fun D _ H => D.rt .non H
theorem ps_retN : PS X (.Return none pos) tRetN := fun _ _ σ H _ I h => wpAny_Return_none ⟨.non, σ, H, I, rfl, h⟩
noncomputable def tIfS (c : TT) (t u : TS) : TS := fun D σ H => c σ H fun b H1 => if b = true then t D σ H1 else u D σ H1
theorem ps_if {c : Expr} {a b : List Stmt} {tc : TT} (hc : PT X c tc) (ha : PSs X a t) (hb : PSs X b u) : PS X (.If c a b pos) (tIfS tc t u) := by
  intro pins s σ H D I h
  refine wpAny_If (thn (hc pins s σ H _ I h) fun d s1 ⟨H1, I1, q1⟩ => ?_)
  cases d with
  | true => exact ha pins s1 σ H1 D I1 q1
  | false => exact hb pins s1 σ H1 D I1 q1
end

/-! ### targets -/
noncomputable abbrev TG := V → St → Hp → (St → Hp → Prop) → Prop
noncomputable abbrev TGs := List V → St → Hp → (St → Hp → Prop) → Prop
noncomputable def PG (X : Cx) (target : Expr) (t : TG) : Prop :=
  ∀ (pins : List (Addr × Obj)) (s : Shared) (σ : St) (H : Hp) (v : V) (u : Value) (Q : St → Hp → Prop), Inv X pins σ H s → RelV v u → t v σ H Q →
    wpAny (model X.prog X.w) X.A (assign target X.env u) (fun _ s' => ∃ σ' H', Inv X pins σ' H' s' ∧ Q σ' H') X.xe s
noncomputable def PGs (X : Cx) (ts : List Expr) (t : TGs) : Prop :=
  ∀ (pins : List (Addr × Obj)) (s : Shared) (σ : St) (H : Hp) (vs : List V) (us : List Value) (Q : St → Hp → Prop), Inv X pins σ H s → Vals vs us → t vs σ H Q →
    wpAny (model X.prog X.w) X.A (assignInOrder ((assignEach ts X.env).map (·.2)) us) (fun _ s' => ∃ σ' H', Inv X pins σ' H' s' ∧ Q σ' H') X.xe s
noncomputable abbrev TSet := V → V → V → Hp → (Hp → Prop) → Prop
noncomputable def PSet (X : Cx) (t : TSet) : Prop :=
  ∀ (pins : List (Addr × Obj)) (s : Shared) (σ : St) (H : Hp) (o i v : V) (ov iv u : Value) (Q : Hp → Prop), Inv X pins σ H s → RelV o ov → RelV i iv → RelV v u → t o i v H Q →
    wpAny (model X.prog X.w) X.A (setItem ov iv u) (fun _ s' => ∃ H', Inv X pins σ H' s' ∧ Q H') X.xe s
section
variable {X : Cx} {pos : Pos}
noncomputable def gName (i : Nat) : TG := fun v σ H Q => Q (σ.set i (some v)) H
theorem pg_name {i : Nat} {x : Str} (hN : X.N.Nodup) (hi : X.N[i]? = some x) (hx : Loc X.env.scope x) (hf : X.fn x = true ∨ X.env.scope.names.lookup x = some .local := by first | exact .inl rfl | exact .inr rfl | assumption) : PG X (.Name x pos) (gName i) := by
  intro pins s σ H v u Q I r h
  exact wpAny_assign_Name (store_ok I hN hi hx r (fun s' I' => ⟨_, H, I', h⟩) hf)
noncomputable def gNil : TGs := fun vs σ H Q => vs = [] ∧ Q σ H
noncomputable def gCons (t : TG) (u : TGs) : TGs := fun vs σ H Q => ∃ v r, vs = v :: r ∧ t v σ H fun σ' H' => u r σ' H' Q
theorem pgs_nil : PGs X [] gNil := by
  intro pins s σ H vs us Q I r h
  obtain ⟨e, h⟩ := h
  subst e
  cases r
  exact assignInOrder_nil ⟨σ, H, I, h⟩
theorem pgs_cons {e : Expr} {es : List Expr} {t : TG} {u : TGs} (h1 : PG X e t) (h2 : PGs X es u)
    (hs : (assignEach (e :: es) X.env).map (·.2) = assign e X.env :: (assignEach es X.env).map (·.2) := by rfl) : PGs X (e :: es) (gCons t u) := by
  intro pins s σ H vs us Q I r h
  obtain ⟨v, vr, e1, h⟩ := h
  subst e1
  cases r with
  | cons r rr =>
    rw [hs]
    refine assignInOrder_cons (thn (h1 pins s σ H _ _ _ I r h) fun _ s1 ⟨σ1, H1, I1, q1⟩ => ?_)
    exact h2 pins s1 σ1 H1 _ _ Q I1 rr q1
noncomputable def gTup (K : PySem.W.Frag) (n : Nat) (t : TGs) : TG := fun v σ H Q => ∃ a xs, v = .ref a ∧ SqT K H a xs ∧ xs.length = n ∧ t xs σ H Q
theorem pg_tup {es : List Expr} {k : Nat} {t : TGs} {n : Nat} (hc : X.calm = true) (h : PGs X es t)
    (hn : (assignEach es X.env).length = n := by rfl) (hst : (assignEach es X.env).findIdx? (·.1) = none := by rfl) : PG X (.Tuple es k pos) (gTup X.K n t) := by
  intro pins s σ H v u Q I r hw
  obtain ⟨a, xs, e1, hq, hl, hw⟩ := hw
  subst e1
  cases r
  obtain ⟨its, rv, ht, hz⟩ := I.tuple hq
  refine assign_Tuple_tuple (I.ok.hd hc) ht (by simp [hn, ← hl, rv.length]) hst fun h' hx => ?_
  have I1 : Inv X pins σ H { s with heap := h' } := I.kept (t' := s.toks) fun b o e => hx b o (Nat.ne_of_lt (Heap.lt_size e)) e
  exact h pins _ σ H xs _ Q I1 (by simpa using rv) hw
noncomputable def gSub (to ti : TE) (t : TSet) : TG := fun v σ H Q => to σ H fun o H1 => ti σ H1 fun i H2 => t o i v H2 fun H3 => Q σ H3
theorem pg_sub {o i : Expr} {to ti : TE} {t : TSet} (ho : PE X o to) (hi : PE X i ti) (hs : PSet X t)
    (ha : ∀ v, assign (.Subscript o i pos) X.env v = (do
      let ov ← holding [v] (eval o X.env)
      let iv ← holding [v, ov] (eval i X.env)
      standAt pos
      holding [v, ov, iv] (setItem ov iv v)
      release [v, ov, iv] []) := by intro _; rfl) : PG X (.Subscript o i pos) (gSub to ti t) := by
  intro pins s σ H v u Q I r h
  rw [ha]
  refine wpAny_bind (wpAny_holding (thn (ho pins s σ H _ I h) fun ov s1 ⟨x, H1, I1, r1, q1⟩ => ?_))
  refine wpAny_bind (wpAny_holding (thn (hi pins s1 σ H1 _ I1 q1) fun iv s2 ⟨y, H2, I2, r2, q2⟩ => ?_))
  refine wpAny_bind (wpAny_standAt (wpAny_bind (wpAny_holding (thn (hs pins s2 σ H2 x y v ov iv u _ I2 r1 r2 r q2) fun _ s3 ⟨H3, I3, q3⟩ => ?_))))
  exact wpAny_release ⟨σ, H3, I3, q3⟩
noncomputable def tAsg (te : TE) (g : TG) : TS := fun D σ H => te σ H fun x H1 => g x σ H1 D.nx
theorem ps_asg {tg e : Expr} {te : TE} {g : TG} (he : PE X e te) (hg : PG X tg g) (hs : swapsWithSole [tg] e pos.line X.env = pure false := by rfl) (hw : swappedStores [tg] e X.env = pure none := by rfl)
    (h1 : (assignEach [tg] X.env).map (·.2) = [assign tg X.env] := by rfl) : PS X (.Assign [tg] e pos) (tAsg te g) := by
  intro pins s σ H D I h
  refine wpAny_Assign_stores (thn (he pins s σ H _ I h) fun v s1 ⟨x, H1, I1, r1, q1⟩ => ?_) hs hw
  rw [h1]
  exact thn (hg pins s1 σ H1 x v _ I1 r1 q1) fun _ s2 q => q
theorem ps_set {i : Nat} {x : Str} {e : Expr} {te : TE} {pos' : Pos} (hN : X.N.Nodup) (hi : X.N[i]? = some x) (hx : Loc X.env.scope x) (he : PE X e te) (hs : swapsWith e (some (.Name x pos')) pos.line X.env = pure false := by rfl) (hf : X.fn x = true ∨ X.env.scope.names.lookup x = some .local := by first | exact .inl rfl | exact .inr rfl | assumption) :
    PS X (.Assign [.Name x pos'] e pos) (tAsg te (gName i)) := by
  intro pins s σ H D I h
  refine wpAny_Assign_Name (thn (he pins s σ H _ I h) fun v s1 ⟨y, H1, I1, r1, q1⟩ => ?_) hs
  exact store_ok I1 hN hi hx r1 (fun s2 I2 => ⟨_, H1, I2, q1⟩) hf
end

/-! ### while -/
section
variable {X : Cx} {pos : Pos}
end

/-! ### what a loop or a comprehension walks -/
set_option genInjectivity false in
structure It where
  go : Nat → Hp → Prop
  yld : Nat → Hp → V → Hp → Prop
  stop : Nat → Hp → Prop
noncomputable def FpOk (X : Cx) (pins : List (Addr × Obj)) (H : Hp) (b : Addr) : Prop :=
  H b = none ∧ b ≠ X.env.locals ∧ b ∉ X.fs ∧ (b ∈ X.ex ∨ X.s₀.heap.objs.size ≤ b) ∧ (∀ x c, X.env.cells.lookup x = some c → c ≠ b) ∧ ∀ p ∈ X.pn ++ pins, p.1 ≠ b
theorem Inv.fpOk {X : Cx} {pins : List (Addr × Obj)} {σ : St} {H H' : Hp} {s : Shared} {b : Addr} (I : Inv X pins σ H s) (hb : s.heap.objs.size ≤ b) (hn : H' b = none) : FpOk X pins H' b := by
  refine ⟨hn, Nat.ne_of_gt (Nat.lt_of_lt_of_le I.lt hb), I.nofs hb, .inr (Nat.le_trans I.sz hb), fun x c e z => ?_, fun p hp z => ?_⟩
  · obtain ⟨v, q⟩ := I.cell x c e
    exact absurd (Nat.lt_of_lt_of_le q.lt (by rw [z]; exact hb)) (Nat.lt_irrefl _)
  · exact absurd (Nat.lt_of_lt_of_le (Heap.lt_size (I.pin p hp).1) (by rw [z]; exact hb)) (Nat.lt_irrefl _)
set_option genInjectivity false in
structure Turn (P : Program) (w : World) (K : PySem.W.Frag) (tg : Expr) (J : It) (fp : List Addr) (it : Addr) (tn : Nat → Heap → Prop) : Prop where
  mem : it ∈ fp
  obj : ∀ i h, tn i h → ∀ b ∈ fp, ∃ o, h.get? b = some o ∧ ∀ v, o.data ≠ .cell v
  keep : ∀ i h h', tn i h → (∀ b ∈ fp, ∀ o, h.get? b = some o → h'.get? b = some o) → tn i h'
  item : ∀ (X : Cx), X.prog = P → X.w = w → X.K = K → X.calm = true → ∀ (i : Nat) (pins : List (Addr × Obj)) (s : Shared) (σ : St) (H : Hp) (E : Value → Shared → Prop), Inv X pins σ H s → (∀ b ∈ fp, FpOk X pins H b) → tn i s.heap → J.go i H →
    wpAny (model P w) X.A (pyNext (.ref it)) (fun r s1 => ∃ u, r = some u ∧
      wpAny (model P w) X.A (letOwnedTupleGo tg (.ref it) u) (fun _ s2 => ∃ x H', Inv X pins σ H' s2 ∧ RelV x u ∧ J.yld i H x H' ∧ tn (i + 1) s2.heap ∧ ∀ b ∈ fp, H' b = none) E s1) E s
  done : ∀ (X : Cx), X.prog = P → X.w = w → X.K = K → X.calm = true → ∀ (i : Nat) (pins : List (Addr × Obj)) (s : Shared) (σ : St) (H : Hp) (E : Value → Shared → Prop), Inv X pins σ H s → (∀ b ∈ fp, FpOk X pins H b) → tn i s.heap → J.stop i H →
    wpAny (model P w) X.A (pyNext (.ref it)) (fun r s1 => r = none ∧ Inv X pins σ H s1) E s
  self : ∀ (A : Around) (i : Nat) (s : Shared) (Q : Value → Shared → Prop) (E : Value → Shared → Prop), tn i s.heap → Q (.ref it) s → wpAny (model P w) A (pyIter (.ref it)) Q E s
noncomputable abbrev TI := St → Hp → (It → Hp → Prop) → Prop
noncomputable def PIE (X : Cx) (pins : List (Addr × Obj)) (σ : St) (tg : Expr) (R : It → Hp → Prop) (itv : Value) (s2 : Shared) : Prop :=
  ∃ (it : Addr) (fp : List Addr) (tn : Nat → Heap → Prop) (J : It) (H' : Hp), itv = .ref it ∧ Inv X pins σ H' s2 ∧ Turn X.prog X.w X.K tg J fp it tn ∧ tn 0 s2.heap ∧ (∀ b ∈ fp, FpOk X pins H' b) ∧ R J H'
noncomputable def PI (X : Cx) (tg iter : Expr) (wi : TI) : Prop :=
  ∀ (pins : List (Addr × Obj)) (s : Shared) (σ : St) (H : Hp) (R : It → Hp → Prop), Inv X pins σ H s → wi σ H R →
    wpAny (model X.prog X.w) X.A (eval iter X.env) (fun v s1 => wpAny (model X.prog X.w) X.A (pyIter v) (PIE X pins σ tg R) X.xe s1) X.xe s

theorem go_of {M : Model} {A : Around} {E : Value → Shared → Prop} {s : Shared} {tg : Expr} {it : Addr} {u : Value} {o : Obj} {n : String} {vs : Array Value} {Q : Unit → Shared → Prop} (ho : s.heap.get? it = some o) (hc : o.cls = .type n) (hd : o.data = .fields vs)
    (hn : ["enumerate", "zip", "dict_itemiterator", "dict_reverseitemiterator", "odict_iterator", "itertools.zip_longest", "itertools.pairwise"].contains n = false) (hQ : Q () s) : wpAny M A (letOwnedTupleGo tg (.ref it) u) Q E s := by
  unfold letOwnedTupleGo
  cases tg <;> first
    | exact wpAny_pure hQ
    | (cases u <;> first
        | exact wpAny_pure hQ
        | (refine wpAny_bind (wpAny_load ho ?_)
           rw [hc, hd]
           show wpAny M A (if (["enumerate", "zip", "dict_itemiterator", "dict_reverseitemiterator", "odict_iterator", "itertools.zip_longest", "itertools.pairwise"].contains n && vs[0]? == some (rawInt _)) = true then _ else _) Q E s
           rw [if_neg (by intro h; rw [hn, Bool.false_and] at h; cases h)]
           exact wpAny_pure hQ))

noncomputable def Itl (K : PySem.W.Frag) (a : Addr) : It :=
  ⟨fun i H => ∃ xs x, SqL K H a xs ∧ xs[i]? = some x, fun i H x H' => H' = H ∧ ∀ xs, SqL K H a xs → xs[i]? = some x, fun i H => ∃ xs, SqL K H a xs ∧ xs.length ≤ i⟩
noncomputable def Itt (K : PySem.W.Frag) (a : Addr) : It :=
  ⟨fun i H => ∃ xs x, SqT K H a xs ∧ xs[i]? = some x, fun i H x H' => H' = H ∧ ∀ xs, SqT K H a xs → xs[i]? = some x, fun i H => ∃ xs, SqT K H a xs ∧ xs.length ≤ i⟩
noncomputable def Itr (lo : Int) (n : Nat) : It := ⟨fun i _ => i < n, fun i H x H' => H' = H ∧ x = .int (lo + i), fun i _ => n ≤ i⟩
theorem turn_list {P : Program} {w : World} {K : PySem.W.Frag} {tg : Expr} (a it : Addr) : Turn P w K tg (Itl K a) [it] it (fun i h => h.IsListIter it a i) where
  mem := by simp
  obj := fun i h st b hb => by
    have e : b = it := by simpa using hb
    subst e
    obtain ⟨o, e, c, d⟩ := st
    exact ⟨o, e, fun v z => by rw [d] at z; cases z⟩
  keep := fun i h h' st k => st.at fun o e => k it (by simp) o e
  item := by
    intro X hP hw hK hc i pins s σ H E I hf st hg
    subst hP hw hK
    obtain ⟨xs, x, hq, hx⟩ := hg
    obtain ⟨its, rv, p, hz⟩ := I.list hq
    obtain ⟨u, hu, ru⟩ := rv.get hx
    obtain ⟨f0, f1, f2, f3, f4, f5⟩ := hf it (by simp)
    refine wpAny_pyNext_list_item st p.isList (x := u) (by simpa using hu) fun h' st' sb => ?_
    have I1 : Inv X pins σ H { s with heap := h' } := I.turned (t' := s.toks) (fun b o hb e => (sb.2 b hb).trans e) f0 f1 f3 f4 f5
    obtain ⟨o, e, c, d⟩ := id st'
    exact ⟨u, rfl, go_of (s := { s with heap := h' }) e c d (by decide) ⟨x, H, I1, ru, ⟨rfl, fun ys hy => by rw [I.list_inj hy hq]; exact hx⟩, st', fun b hb => (hf b hb).1⟩⟩
  done := by
    intro X hP hw hK hc i pins s σ H E I hf st hg
    subst hP hw hK
    obtain ⟨xs, hq, hx⟩ := hg
    obtain ⟨its, rv, p, hz⟩ := I.list hq
    obtain ⟨f0, f1, f2, f3, f4, f5⟩ := hf it (by simp)
    have hl := rv.length
    exact wpAny_pyNext_list_end (I.ok.hd hc) st p.isList (by simp; omega) fun h' eb => ⟨rfl, I.turned (t' := s.toks) (fun b o hb e => eb b o hb e) f0 f1 f3 f4 f5⟩
  self := fun _ _ _ _ _ st h => wpAny_pyIter_listiter st h
theorem turn_range {P : Program} {w : World} {K : PySem.W.Frag} {tg : Expr} (it : Addr) (lo : Int) (n : Nat) : Turn P w K tg (Itr lo n) [it] it (fun i h => IsRangeIter h it (lo + (i : Nat) * 1) ((n : Int) - (i : Nat)) 1) where
  mem := by simp
  obj := fun i h st b hb => by
    have e : b = it := by simpa using hb
    subst e
    exact ⟨_, st, fun v z => by
      have z' : Data.fields _ = Data.cell v := z
      cases z'⟩
  keep := fun i h h' st k => k it (by simp) _ st
  item := by
    intro X hP hw hK hc i pins s σ H E I hf st hg
    subst hP hw hK
    obtain ⟨f0, f1, f2, f3, f4, f5⟩ := hf it (by simp)
    have W := Walks.range (prog := X.prog) (w := X.w) (I.ok.hd hc) it lo 1 n
    refine W.item i s _ _ hg st fun v h' tk hv st' kk => ?_
    obtain ⟨t, rfl⟩ := hv
    have I1 : Inv X pins σ H { s with heap := h', toks := tk } := I.turned (fun b o hb e => kk b o (by simpa using hb) e) f0 f1 f3 f4 f5
    refine ⟨_, rfl, go_of (s := { s with heap := h', toks := tk }) (n := "range_iterator") st' rfl rfl (by decide) ⟨.int (lo + i), H, I1, ⟨t, ?_⟩, ⟨rfl, rfl⟩, st', fun b hb => (hf b hb).1⟩⟩
    rw [Int.mul_one]
  done := by
    intro X hP hw hK hc i pins s σ H E I hf st hg
    subst hP hw hK
    obtain ⟨f0, f1, f2, f3, f4, f5⟩ := hf it (by simp)
    exact wpAny_pyNext_range_end (I.ok.hd hc) st (by have : n ≤ i := hg; omega) fun h' eb => ⟨rfl, I.turned (t' := s.toks) (fun b o hb e => eb b o hb e) f0 f1 f3 f4 f5⟩
  self := fun _ _ _ _ _ st h => wpAny_pyIter_rangeiter st h
end L2

namespace L2
open PySem PySem.Spec PyProof.Rows
section
variable {X : Cx} {tg : Expr}
noncomputable def iList (K : PySem.W.Frag) (tl : TE) : TI := fun σ H R => tl σ H fun x H1 => ∃ a, x = .ref a ∧ (∃ xs, SqL K H1 a xs) ∧ R (Itl K a) H1
noncomputable def iTup (K : PySem.W.Frag) (tl : TE) : TI := fun σ H R => tl σ H fun x H1 => ∃ a, x = .ref a ∧ (∃ xs, SqT K H1 a xs) ∧ R (Itt K a) H1
theorem pi_list {l : Expr} {tl : TE} (hl : PE X l tl) : PI X tg l (iList X.K tl) := by
  intro pins s σ H R I h
  refine thn (hl pins s σ H _ I h) fun v s1 ⟨x, H1, I1, r1, q1⟩ => ?_
  obtain ⟨a, e, ⟨xs, hq⟩, q⟩ := q1
  subst e
  cases r1
  obtain ⟨its, rv, p, hz⟩ := I1.list hq
  refine wpAny_pyIter_list p.isList ?_
  refine ⟨s1.heap.objs.size, [s1.heap.objs.size], _, _, H1, rfl, I1.kept (t' := s1.toks) fun b o e => Heap.get?_push_of_some _ e, turn_list a _, ⟨_, Heap.get?_push_size _ rfl, rfl, rfl⟩, fun b hb => ?_, q⟩
  have e : b = s1.heap.objs.size := by simpa using hb
  subst e
  exact I1.fpOk (Nat.le_refl _) (I1.hok.fresh (Nat.le_refl _))
theorem range_it {pins : List (Addr × Obj)} {σ : St} {H : Hp} {s : Shared} {R : It → Hp → Prop} {E : Value → Shared → Prop} {lo hi : Int} {t u v : Tok} {tk : Nat} (I : Inv X pins σ H s) (h1 : -(2 ^ 62) ≤ lo) (h2 : lo < 2 ^ 62) (h3 : -(2 ^ 62) ≤ hi) (h4 : hi < 2 ^ 62)
    (q : R (Itr lo (hi - lo).toNat) H) : wpAny (model X.prog X.w) X.A (pyIter (.ref s.heap.objs.size)) (PIE X pins σ tg R) E { s with heap := s.heap.push { cls := .type "range", data := .fields #[.int lo t, .int hi u, .int 1 v] }, toks := tk } := by
  refine wpAny_pyIter_range (IsRange.new ..) (small_one h1 h2 h3 h4) ?_
  have I1 : Inv X pins σ H { s with heap := s.heap.push { cls := .type "range", data := .fields #[.int lo t, .int hi u, .int 1 v] }, toks := tk } := I.kept fun b o e => Heap.get?_push_of_some _ e
  refine ⟨(s.heap.push { cls := .type "range", data := .fields #[.int lo t, .int hi u, .int 1 v] }).objs.size, [(s.heap.push { cls := .type "range", data := .fields #[.int lo t, .int hi u, .int 1 v] }).objs.size], _, _, H, rfl,
    I1.kept (t' := tk) fun b o e => Heap.get?_push_of_some _ e, turn_range _ lo (hi - lo).toNat, ?_, fun b hb => ?_, q⟩
  · have e1 : lo + ((0 : Nat) : Int) * 1 = lo := by simp
    have e2 : (((hi - lo).toNat : Nat) : Int) - ((0 : Nat) : Int) = Builtin.Range.rangeSize lo hi 1 := by rw [rangeSize_one]; split <;> omega
    show IsRangeIter _ _ (lo + ((0 : Nat) : Int) * 1) ((((hi - lo).toNat : Nat) : Int) - ((0 : Nat) : Int)) 1
    rw [e1, e2]
    exact Heap.get?_push_size _ rfl
  · have e : b = (s.heap.push { cls := .type "range", data := .fields #[.int lo t, .int hi u, .int 1 v] }).objs.size := by simpa using hb
    subst e
    exact I1.fpOk (Nat.le_refl _) (I1.hok.fresh (Nat.le_refl _))
noncomputable def iRng1 (ta : TA) : TI := fun σ H R => ta σ H fun vs H1 => ∃ j : Int, vs = [.int j] ∧ -(2 ^ 62) ≤ j ∧ j < 2 ^ 62 ∧ R (Itr 0 j.toNat) H1
noncomputable def iRng2 (ta : TA) : TI := fun σ H R => ta σ H fun vs H1 => ∃ i j : Int, vs = [.int i, .int j] ∧ (-(2 ^ 62) ≤ i ∧ i < 2 ^ 62 ∧ -(2 ^ 62) ≤ j ∧ j < 2 ^ 62) ∧ R (Itr i (j - i).toNat) H1
theorem pi_range1 {a : Expr} {ta : TA} {p pos : Pos} (hg : Gl X "range") (hm : X.mg "range" = none) (ha : PA X [a] ta) (hs : starEach [a] X.env = [(false, eval a X.env)] := by rfl) : PI X tg (.Call (.Name "range" p) [a] [] pos) (iRng1 ta) := by
  intro pins s σ H R I h
  refine Call_ (ld_blt I hg hm boot_range (PyProof.Rows.callWith_type1 (thn (ha pos pins s σ H _ I h) fun us s1 ⟨vs, H1, I1, r1, q1⟩ => ?_) hs rfl))
  obtain ⟨j, e, q1, q2, q⟩ := q1
  subst e
  cases r1 with
  | cons r rr =>
    cases rr
    obtain ⟨t, rfl⟩ := r
    exact call_range_1 (range_it I1 (by omega) (by omega) q1 q2 (by simpa using q))
theorem pi_range2 {a b : Expr} {ta : TA} {p pos : Pos} (hg : Gl X "range") (hm : X.mg "range" = none) (ha : PA X [a, b] ta) (hs : starEach [a, b] X.env = [(false, eval a X.env), (false, eval b X.env)] := by rfl) (hs2 : starEach [b] X.env = [(false, eval b X.env)] := by rfl) :
    PI X tg (.Call (.Name "range" p) [a, b] [] pos) (iRng2 ta) := by
  intro pins s σ H R I h
  refine Call_ (ld_blt I hg hm boot_range (PyProof.Rows.callWith_type1 (thn (ha pos pins s σ H _ I h) fun us s1 ⟨vs, H1, I1, r1, q1⟩ => ?_) (by rw [hs, hs2]) (by rw [hs2]; rfl)))
  obtain ⟨i, j, e, ⟨q1, q2, q3, q4⟩, q⟩ := q1
  subst e
  cases r1 with
  | cons r rr =>
    cases rr with
    | cons r' rr =>
      cases rr
      obtain ⟨t, rfl⟩ := r
      obtain ⟨t', rfl⟩ := r'
      exact call_range_2 (range_it I1 q1 q2 q3 q4 q)

/-! ### for -/
noncomputable def tFor (wi : TI) (g : TG) (tb : TS) : TS := fun D σ H => wi σ H fun J H1 => ∃ W : Nat → Nat → St → Hp → Prop, (∃ m, W 0 m σ H1) ∧ ∀ i m σ H, W i m σ H →
  (J.stop i H ∧ D.nx σ H) ∨ (J.go i H ∧ ∃ N : St → Hp → Prop, (∀ σ' H', N σ' H' → ∃ m', m' < m ∧ W (i + 1) m' σ' H') ∧ ∀ x H', J.yld i H x H' → g x σ H' fun σ2 H2 => tb { D with nx := N, ct := N, bk := D.nx } σ2 H2)
noncomputable def pinsAt (fp : List Addr) (h : Heap) : List (Addr × Obj) := fp.filterMap fun b => (h.get? b).map fun o => (b, o)
theorem mem_pinsAt {fp : List Addr} {h : Heap} {b : Addr} {o : Obj} (hb : b ∈ fp) (e : h.get? b = some o) : (b, o) ∈ pinsAt fp h := List.mem_filterMap.mpr ⟨b, hb, by rw [e]; rfl⟩
theorem of_pinsAt {fp : List Addr} {h : Heap} {p : Addr × Obj} (hp : p ∈ pinsAt fp h) : p.1 ∈ fp ∧ h.get? p.1 = some p.2 := by
  obtain ⟨b, hb, e⟩ := List.mem_filterMap.mp hp
  cases q : h.get? b with
  | none => rw [q] at e; cases e
  | some o =>
    rw [q] at e
    have e' : (b, o) = p := Option.some.inj e
    subst e'
    exact ⟨hb, q⟩
theorem Inv.pinned {pins : List (Addr × Obj)} {σ : St} {H : Hp} {s : Shared} {fp : List Addr} (I : Inv X pins σ H s) (hf : ∀ b ∈ fp, FpOk X pins H b) (ho : ∀ b ∈ fp, ∃ o, s.heap.get? b = some o ∧ ∀ v, o.data ≠ .cell v) : Inv X (pins ++ pinsAt fp s.heap) σ H s :=
  I.pins_of fun p hp => (List.mem_append.mp hp).elim (fun z => I.pin p (List.mem_append_right _ z)) fun z => by
    obtain ⟨hb, e⟩ := of_pinsAt z
    obtain ⟨f0, f1, f2, _⟩ := hf p.1 hb
    obtain ⟨o, e', d⟩ := ho p.1 hb
    rw [e] at e'; cases e'
    exact ⟨e, f0, f1, f2, d⟩
theorem Inv.unpinned {pins pl : List (Addr × Obj)} {σ : St} {H : Hp} {s : Shared} (I : Inv X (pins ++ pl) σ H s) : Inv X pins σ H s := I.pins_of fun p hp => I.pin p (List.mem_append_right _ (List.mem_append_left _ hp))
theorem ps_for {iter : Expr} {body : List Stmt} {wi : TI} {g : TG} {tb : TS} {pos : Pos} (hp : PassesOwn (model X.prog X.w) X.A X.env X.xe) (hc : X.calm = true) (hi : PI X tg iter wi) (hg : PG X tg g) (hb : PSs X body tb)
    (hs : ∀ x, foldedSetIterable iter X.env x = pure x := by intro _; rfl) : PS X (.For tg iter body [] pos) (tFor wi g tb) := by
  intro pins s σ H D I h
  refine wpAny_For (thn (hi pins s σ H _ I h) fun v s1 h1 => thn h1 fun itv s2 h2 => ?_) hs
  obtain ⟨it, fp, tn, J, H2, e, I2, T, st2, f2, W, ⟨m0, w0⟩, turn⟩ := h2
  subst e
  -- what stays true of the iterator's objects through the loop
  have stat : ∀ {H' : Hp}, (∀ b ∈ fp, H' b = none) → ∀ b ∈ fp, FpOk X pins H' b := fun hn b hb => ⟨hn b hb, (f2 b hb).2⟩
  refine codeAny_forLoop_any (fun n s' => ∃ i σ' H', Inv X pins σ' H' s' ∧ tn i s'.heap ∧ (∀ b ∈ fp, H' b = none) ∧ W i n σ' H') ?_ m0 ⟨0, σ, H2, I2, st2, fun b hb => (f2 b hb).1, w0⟩
  rintro n s3 ⟨i, σ3, H3, I3, st3, fr3, w3⟩
  rcases turn i n σ3 H3 w3 with ⟨stop, qn⟩ | ⟨go, N, hN, step⟩
  · refine wpAny_passesOwn hp (thn (T.done X rfl rfl rfl hc i pins s3 σ3 H3 X.xe I3 (stat fr3) st3 stop) fun r s4 ⟨hr, I4⟩ => ?_)
    subst hr
    exact wpAny_execs_nil ⟨σ3, H3, I4, qn⟩
  · refine wpAny_passesOwn hp (thn (T.item X rfl rfl rfl hc i pins s3 σ3 H3 X.xe I3 (stat fr3) st3 go) fun r s4 ⟨u, hr, h4⟩ => ?_)
    subst hr
    refine wpAny_passesOwn hp (thn h4 fun _ s5 ⟨x, H5, I5, r5, y5, st5, fr5⟩ => ?_)
    have I5' := I5.pinned (stat fr5) (T.obj _ _ st5)
    refine wpAny_passesOwn hp (thn (hg _ s5 σ3 H5 x u _ I5' r5 (step x H5 y5)) fun _ s6 ⟨σ6, H6, I6, q6⟩ => ?_)
    refine wpAny_passesOwn hp (thn (hb _ s6 σ6 H6 _ I6 q6) fun f s7 q7 => ?_)
    have again : ∀ {σ7 : St} {H7 : Hp}, Inv X (pins ++ pinsAt fp s5.heap) σ7 H7 s7 → N σ7 H7 → ∃ m, m < n ∧ ∃ i σ' H', Inv X pins σ' H' s7 ∧ tn i s7.heap ∧ (∀ b ∈ fp, H' b = none) ∧ W i m σ' H' := fun {σ7 H7} I7 n7 => by
      obtain ⟨m', hm, w7⟩ := hN σ7 H7 n7
      refine ⟨m', hm, i + 1, σ7, H7, I7.unpinned, T.keep _ _ _ st5 fun b hb o e => (I7.pin (b, o) (List.mem_append_right _ (List.mem_append_right _ (mem_pinsAt hb e)))).1, fun b hb => ?_, w7⟩
      obtain ⟨o, e, d⟩ := T.obj _ _ st5 b hb
      exact (I7.pin (b, o) (List.mem_append_right _ (List.mem_append_right _ (mem_pinsAt hb e)))).2.1
    cases f with
    | next => obtain ⟨σ7, H7, I7, n7⟩ := q7; exact again I7 n7
    | cont => obtain ⟨σ7, H7, I7, n7⟩ := q7; exact again I7 n7
    | brk => obtain ⟨σ7, H7, I7, q7⟩ := q7; exact ⟨σ7, H7, I7.unpinned, q7⟩
    | ret v => obtain ⟨x7, σ7, H7, I7, r7, q7⟩ := q7; exact ⟨x7, σ7, H7, I7.unpinned, r7, q7⟩
end

/-! ### the forms one uses -/
theorem for_list {K : PySem.W.Frag} {a : Addr} {xs : List V} {g : TG} {tb : TS} {D : Ends} {σ : St} {H : Hp} (Pv : Nat → St → Hp → Prop) (h0 : Pv 0 σ H) (hl : ∀ i σ H, i ≤ xs.length → Pv i σ H → SqL K H a xs)
    (hs : ∀ i x σ H, xs[i]? = some x → Pv i σ H → g x σ H fun σ2 H2 => tb { D with nx := Pv (i + 1), ct := Pv (i + 1), bk := D.nx } σ2 H2) (hd : ∀ σ H, Pv xs.length σ H → D.nx σ H) :
    ∃ W : Nat → Nat → St → Hp → Prop, (∃ m, W 0 m σ H) ∧ ∀ i m σ H, W i m σ H →
      ((Itl K a).stop i H ∧ D.nx σ H) ∨ ((Itl K a).go i H ∧ ∃ N : St → Hp → Prop, (∀ σ' H', N σ' H' → ∃ m', m' < m ∧ W (i + 1) m' σ' H') ∧ ∀ x H', (Itl K a).yld i H x H' → g x σ H' fun σ2 H2 => tb { D with nx := N, ct := N, bk := D.nx } σ2 H2) := by
  refine ⟨fun i m σ H => m = xs.length - i ∧ i ≤ xs.length ∧ Pv i σ H, ⟨xs.length, by simp, Nat.zero_le _, h0⟩, ?_⟩
  rintro i m σ H ⟨rfl, hi, p⟩
  have q := hl i σ H hi p
  by_cases hlt : i < xs.length
  · refine .inr ⟨⟨xs, xs[i], q, by simp [hlt]⟩, Pv (i + 1), fun σ' H' p' => ⟨xs.length - (i + 1), by omega, rfl, hlt, p'⟩, fun x H' y => ?_⟩
    obtain ⟨e, y⟩ := y
    subst e
    exact hs i x σ _ (y xs q) p
  · have e : i = xs.length := by omega
    subst e
    exact .inl ⟨⟨xs, q, Nat.le_refl _⟩, hd σ H p⟩
theorem for_range {lo : Int} {n : Nat} {g : TG} {tb : TS} {D : Ends} {σ : St} {H : Hp} (Pv : Nat → St → Hp → Prop) (h0 : Pv 0 σ H)
    (hs : ∀ i σ H, i < n → Pv i σ H → g (.int (lo + i)) σ H fun σ2 H2 => tb { D with nx := Pv (i + 1), ct := Pv (i + 1), bk := D.nx } σ2 H2) (hd : ∀ σ H, Pv n σ H → D.nx σ H) :
    ∃ W : Nat → Nat → St → Hp → Prop, (∃ m, W 0 m σ H) ∧ ∀ i m σ H, W i m σ H →
      ((Itr lo n).stop i H ∧ D.nx σ H) ∨ ((Itr lo n).go i H ∧ ∃ N : St → Hp → Prop, (∀ σ' H', N σ' H' → ∃ m', m' < m ∧ W (i + 1) m' σ' H') ∧ ∀ x H', (Itr lo n).yld i H x H' → g x σ H' fun σ2 H2 => tb { D with nx := N, ct := N, bk := D.nx } σ2 H2) := by
  refine ⟨fun i m σ H => m = n - i ∧ i ≤ n ∧ Pv i σ H, ⟨n, by simp, Nat.zero_le _, h0⟩, ?_⟩
  rintro i m σ H ⟨rfl, hi, p⟩
  by_cases hlt : i < n
  · refine .inr ⟨hlt, Pv (i + 1), fun σ' H' p' => ⟨n - (i + 1), by omega, rfl, hlt, p'⟩, fun x H' y => ?_⟩
    obtain ⟨e, y⟩ := y
    subst e y
    exact hs i σ _ hlt p
  · have e : i = n := by omega
    subst e
    exact .inl ⟨Nat.le_refl _, hd σ H p⟩
end L2

namespace L2
open PySem PySem.Spec PyProof.Rows

noncomputable abbrev R2 := V → V → Hp → VK → Prop
noncomputable def OpR (X : Cx) (f : Value → Value → Sem Value) (r : R2) : Prop :=
  ∀ (pins : List (Addr × Obj)) (s : Shared) (σ : St) (H : Hp) (x y : V) (v u : Value) (Q : VK), Inv X pins σ H s → RelV x v → RelV y u → r x y H Q →
    wpAny (model X.prog X.w) X.A (f v u) (EP X pins σ Q) X.xe s
noncomputable def UnR (X : Cx) (f : Value → Sem Value) (r : V → Hp → VK → Prop) : Prop :=
  ∀ (pins : List (Addr × Obj)) (s : Shared) (σ : St) (H : Hp) (x : V) (v : Value) (Q : VK), Inv X pins σ H s → RelV x v → r x H Q →
    wpAny (model X.prog X.w) X.A (f v) (EP X pins σ Q) X.xe s
noncomputable def CallR (X : Cx) (f : Value) (r : List V → Hp → VK → Prop) : Prop :=
  ∀ (pins : List (Addr × Obj)) (s : Shared) (σ : St) (H : Hp) (xs : List V) (us : List Value) (Q : VK), Inv X pins σ H s → Vals xs us → r xs H Q →
    wpAny (model X.prog X.w) X.A (call f us) (EP X pins σ Q) X.xe s
noncomputable def TruR (X : Cx) (r : V → Hp → (Bool → Hp → Prop) → Prop) : Prop :=
  ∀ (pins : List (Addr × Obj)) (s : Shared) (σ : St) (H : Hp) (x : V) (v : Value) (Q : Bool → Hp → Prop), Inv X pins σ H s → RelV x v → r x H Q →
    wpAny (model X.prog X.w) X.A (truthy v) (TP X pins σ Q) X.xe s

noncomputable def tOp (r : R2) (ta tb : TE) : TE := fun σ H Q => ta σ H fun x H1 => tb σ H1 fun y H2 => r x y H2 Q
noncomputable def tUn (r : V → Hp → VK → Prop) (ta : TE) : TE := fun σ H Q => ta σ H fun x H1 => r x H1 Q
noncomputable def rI (C : Int → Int → Prop) (g : Int → Int → V) : R2 := fun x y H Q => ∃ i j, x = .int i ∧ y = .int j ∧ C i j ∧ Q (g i j) H
noncomputable def rI0 (g : Int → Int → V) : R2 := fun x y H Q => ∃ i j, x = .int i ∧ y = .int j ∧ Q (g i j) H
noncomputable def rU (g : Int → V) : V → Hp → VK → Prop := fun x H Q => ∃ i, x = .int i ∧ Q (g i) H

section
variable {X : Cx} {a b c : Expr} {ta tb tc : TE} {pos : Pos}

theorem binT (ha : PE X a ta) (hb : PE X b tb) {pins : List (Addr × Obj)} {s : Shared} {σ : St} {H : Hp} {R : V → V → Hp → Prop} (I : Inv X pins σ H s)
    (h : ta σ H fun x H1 => tb σ H1 fun y H2 => R x y H2) {Q : Value → Shared → Prop} {f : Value → Value → Sem Value}
    (hf : ∀ v u s2 x y H2, Inv X pins σ H2 s2 → RelV x v → RelV y u → R x y H2 → wpAny (model X.prog X.w) X.A (f v u) Q X.xe s2) :
    wpAny (model X.prog X.w) X.A (eval a X.env) (fun v s₁ => wpAny (model X.prog X.w) X.A (eval b X.env) (fun u s₂ => wpAny (model X.prog X.w) X.A (f v u) Q X.xe s₂) X.xe s₁) X.xe s := by
  refine thn (ha pins s σ H _ I h) fun v s1 ⟨x, H1, I1, r1, q1⟩ => ?_
  refine thn (hb pins s1 σ H1 _ I1 q1) fun u s2 ⟨y, H2, I2, r2, q2⟩ => ?_
  exact hf v u s2 x y H2 I2 r1 r2 q2

theorem pe_op {op : Operator} {r : R2} (ho : OpR X (binaryOp op) r) (ha : PE X a ta) (hb : PE X b tb) : PE X (.BinOp a op b pos) (tOp r ta tb) := by
  intro pins s σ H Q I h
  exact wpAny_BinOp (binT ha hb I h fun v u s2 x y H2 I2 rx ry q => ho pins s2 σ H2 x y v u Q I2 rx ry q)
theorem pe_un {op : UnaryOp} {r : V → Hp → VK → Prop} (ho : UnR X (unaryOp op) r) (ha : PE X a ta) : PE X (.UnaryOp op a pos) (tUn r ta) := by
  intro pins s σ H Q I h
  exact UnaryOp_ (thn (ha pins s σ H _ I h) fun v s1 ⟨x, H1, I1, r1, q1⟩ => ho pins s1 σ H1 x v Q I1 r1 q1)

/-! ### ints -/
theorem opI {f : Value → Value → Sem Value} {C : Int → Int → Prop} {g : Int → Int → Int}
    (rule : ∀ (i j : Int) (t u : Tok) (s : Shared) (Q : Value → Shared → Prop) (E : Value → Shared → Prop), C i j → Q (.int (g i j) s.toks) { s with toks := s.toks + 1 } → wpAny (model X.prog X.w) X.A (f (.int i t) (.int j u)) Q E s) :
    OpR X f (rI C fun i j => .int (g i j)) := by
  intro pins s σ H x y v u Q I rx ry h
  obtain ⟨i, j, rfl, rfl, hc, q⟩ := h
  obtain ⟨t, rfl⟩ := rx
  obtain ⟨t', rfl⟩ := ry
  exact rule i j t t' s _ _ hc ⟨.int (g i j), H, I.tok _, ⟨_, rfl⟩, q⟩
theorem opI0 {f : Value → Value → Sem Value} {g : Int → Int → Int}
    (rule : ∀ (i j : Int) (t u : Tok) (s : Shared) (Q : Value → Shared → Prop) (E : Value → Shared → Prop), Q (.int (g i j) s.toks) { s with toks := s.toks + 1 } → wpAny (model X.prog X.w) X.A (f (.int i t) (.int j u)) Q E s) :
    OpR X f (rI0 fun i j => .int (g i j)) := by
  intro pins s σ H x y v u Q I rx ry h
  obtain ⟨i, j, rfl, rfl, q⟩ := h
  obtain ⟨t, rfl⟩ := rx
  obtain ⟨t', rfl⟩ := ry
  exact rule i j t t' s _ _ ⟨.int (g i j), H, I.tok _, ⟨_, rfl⟩, q⟩
theorem opB0 {f : Value → Value → Sem Value} {g : Int → Int → Bool}
    (rule : ∀ (i j : Int) (t u : Tok) (s : Shared) (Q : Value → Shared → Prop) (E : Value → Shared → Prop), Q (.bool (g i j)) s → wpAny (model X.prog X.w) X.A (f (.int i t) (.int j u)) Q E s) :
    OpR X f (rI0 fun i j => .bl (g i j)) := by
  intro pins s σ H x y v u Q I rx ry h
  obtain ⟨i, j, rfl, rfl, q⟩ := h
  obtain ⟨t, rfl⟩ := rx
  obtain ⟨t', rfl⟩ := ry
  exact rule i j t t' s _ _ ⟨.bl (g i j), H, I, rfl, q⟩

noncomputable def CDiv (i j : Int) : Prop := 0 < j ∧ j < 1073741824
noncomputable def CPow (i j : Int) : Prop := 0 ≤ j ∧ j ≤ 1000000 ∧ i.natAbs < 2 ^ 64
noncomputable def CMul (i j : Int) : Prop := (-(2 ^ 64) < i ∧ i < 2 ^ 64) ∨ (-(2 ^ 64) < j ∧ j < 2 ^ 64)
theorem CMul.ok {i j : Int} (h : CMul i j) : IntMulOk i j := by
  rcases h with ⟨h1, h2⟩ | ⟨h1, h2⟩
  · exact .of_left (intBits_le_64 h1 h2)
  · exact .of_right (intBits_le_64 h1 h2)
theorem two_pow_nn (k : Nat) : (0 : Int) ≤ 2 ^ k := by
  rw [two_pow_cast]
  exact Int.natCast_nonneg _

theorem op_add : OpR X (binaryOp .Add) (rI0 fun i j => .int (i + j)) := opI0 fun _ _ _ _ _ _ _ q => add_int q
theorem op_sub : OpR X (binaryOp .Sub) (rI0 fun i j => .int (i - j)) := opI0 fun _ _ _ _ _ _ _ q => sub_int q
theorem op_mul : OpR X (binaryOp .Mult) (rI CMul fun i j => .int (i * j)) := opI fun _ _ _ _ _ _ _ hc q => mul_int q hc.ok
theorem op_fdiv : OpR X (binaryOp .FloorDiv) (rI CDiv fun i j => .int (i / j)) := opI fun i j _ _ _ _ _ hc q => by
  have h1 : (0 : Int) < j := hc.1
  have h2 : j < 1073741824 := hc.2
  exact floordiv_int (by omega) (by rw [Int.fdiv_eq_ediv_of_nonneg i (by omega)]; exact q) (.inl (PyProof.noPylong_small (by omega)))
theorem op_mod : OpR X (binaryOp .Mod) (rI (fun _ j => 0 < j) fun i j => .int (i % j)) := opI fun i j _ _ _ _ _ hc q => by
  have h1 : (0 : Int) < j := hc
  exact mod_int' (by omega) (by rw [Int.fmod_eq_emod_of_nonneg i (by omega)]; exact q)
theorem op_shl : OpR X (binaryOp .LShift) (rI CPow fun i j => .int (i * 2 ^ j.toNat)) := opI fun _ _ _ _ _ _ _ hc q => lshift_int_small hc.1 hc.2.1 hc.2.2 q
theorem op_shr : OpR X (binaryOp .RShift) (rI (fun _ j => 0 ≤ j) fun i j => .int (i / 2 ^ j.toNat)) := opI fun i j _ _ _ _ _ hc q =>
  rshift_int hc (by rw [Int.fdiv_eq_ediv_of_nonneg i (two_pow_nn _)]; exact q)
theorem op_and : OpR X (binaryOp .BitAnd) (rI0 fun i j => .int (Builtin.bitAnd i j)) := opI0 fun _ _ _ _ _ _ _ q => and_int q
theorem op_or : OpR X (binaryOp .BitOr) (rI0 fun i j => .int (Builtin.bitOr i j)) := opI0 fun _ _ _ _ _ _ _ q => or_int q
theorem op_xor : OpR X (binaryOp .BitXor) (rI0 fun i j => .int (Builtin.bitXor i j)) := opI0 fun _ _ _ _ _ _ _ q => xor_int q


theorem unI {f : Value → Sem Value} {g : Int → Int}
    (rule : ∀ (i : Int) (t : Tok) (s : Shared) (Q : Value → Shared → Prop) (E : Value → Shared → Prop), Q (.int (g i) s.toks) { s with toks := s.toks + 1 } → wpAny (model X.prog X.w) X.A (f (.int i t)) Q E s) :
    UnR X f (rU fun i => .int (g i)) := by
  intro pins s σ H x v Q I rx h
  obtain ⟨i, rfl, q⟩ := h
  obtain ⟨t, rfl⟩ := rx
  exact rule i t s _ _ ⟨.int (g i), H, I.tok _, ⟨_, rfl⟩, q⟩
theorem un_neg : UnR X (unaryOp .USub) (rU fun i => .int (-i)) := unI fun _ _ _ _ _ q => neg_int q

/-! ### bools among ints: n += (a < b) -/
end

/-! ### comparisons -/
noncomputable def scal : V → V → Bool
  | .non, .non => true | .non, .int _ => true | .int _, .non => true | .non, .bl _ => true | .bl _, .non => true | .non, .str _ => true | .str _, .non => true
  | .int _, .int _ => true | .bl _, .bl _ => true | .str _, .str _ => true | .byt _, .byt _ => true
  | .int _, .str _ => true | .str _, .int _ => true | .bl _, .str _ => true | .str _, .bl _ => true
  | _, _ => false
theorem sc0 : scal .non .non = true := rfl
theorem sc1 {i : Int} : scal .non (.int i) = true := rfl
theorem sc2 {i : Int} : scal (.int i) .non = true := rfl
theorem sc3 {i : Bool} : scal .non (.bl i) = true := rfl
theorem sc4 {i : Bool} : scal (.bl i) .non = true := rfl
theorem sc5 {i : Str} : scal .non (.str i) = true := rfl
theorem sc6 {i : Str} : scal (.str i) .non = true := rfl
theorem sc7 {i : Int} {j : Int} : scal (.int i) (.int j) = true := rfl
theorem sc8 {i : Bool} {j : Bool} : scal (.bl i) (.bl j) = true := rfl
theorem sc9 {i : Str} {j : Str} : scal (.str i) (.str j) = true := rfl
theorem sc10 {i : Int} {j : Str} : scal (.int i) (.str j) = true := rfl
theorem sc11 {i : Str} {j : Int} : scal (.str i) (.int j) = true := rfl
theorem sc12 {i : Bool} {j : Str} : scal (.bl i) (.str j) = true := rfl
theorem sc13 {i : Str} {j : Bool} : scal (.str i) (.bl j) = true := rfl
noncomputable def rEq : R2 := fun x y H Q => scal x y = true ∧ Q (.bl (decide (x = y))) H
noncomputable def rNe : R2 := fun x y H Q => scal x y = true ∧ Q (.bl (!decide (x = y))) H

theorem dec_int {i j : Int} : decide (V.int i = V.int j) = (i == j) := by
  rw [Bool.eq_iff_iff]
  simp
theorem dec_bl {i j : Bool} : decide (V.bl i = V.bl j) = (i == j) := by
  rw [Bool.eq_iff_iff]
  simp
theorem dec_str {i j : Str} : decide (V.str i = V.str j) = (i == j) := by
  rw [Bool.eq_iff_iff]
  simp
theorem dec_byt {i j : Array UInt8} : decide (V.byt i = V.byt j) = (i.toList == j.toList) := by
  rw [Bool.eq_iff_iff]
  cases i
  cases j
  simp

section
variable {X : Cx} {a b c : Expr} {ta tb tc : TE} {pos : Pos}
theorem fin_bl {pins : List (Addr × Obj)} {σ : St} {H : Hp} {s : Shared} {Q : VK} {k k' : Bool} (I : Inv X pins σ H s) (q : Q (.bl k) H) (e : k = k') : EP X pins σ Q (.bool k') s := by
  subst e
  exact ⟨.bl k, H, I, rfl, q⟩
theorem op_eq : OpR X (compareOp .Eq) rEq := by
  intro pins s σ H x y v u Q I rx ry h
  obtain ⟨hs, q⟩ := h
  cases x with
  | non =>
    cases rx
    cases y with
    | non => cases ry; exact PySem.EqNone.eq_none_none (fin_bl I q (by simp))
    | bl j => cases ry; exact PySem.EqNone.eq_none_bool (fin_bl I q (by simp))
    | int j => obtain ⟨t', rfl⟩ := ry; exact PySem.EqNone.eq_none_int (fin_bl I q (by simp))
    | str j => obtain ⟨t', rfl⟩ := ry; exact PySem.EqNone.eq_none_str (fin_bl I q (by simp))
    | _ => exact absurd (show false = true from hs) Bool.false_ne_true
  | bl i =>
    cases rx
    cases y with
    | non => cases ry; exact PySem.EqNone.eq_bool_none (fin_bl I q (by simp))
    | bl j => cases ry; exact eq_bool (fin_bl I q dec_bl)
    | str j => obtain ⟨t', rfl⟩ := ry; exact PySem.EqMixed.eq_bool_str (fin_bl I q (by simp))
    | _ => exact absurd (show false = true from hs) Bool.false_ne_true
  | int i =>
    obtain ⟨t, rfl⟩ := rx
    cases y with
    | non => cases ry; exact PySem.EqNone.eq_int_none (fin_bl I q (by simp))
    | int j => obtain ⟨t', rfl⟩ := ry; exact eq_int (fin_bl I q dec_int)
    | str j => obtain ⟨t', rfl⟩ := ry; exact PySem.EqMixed.eq_int_str (fin_bl I q (by simp))
    | _ => exact absurd (show false = true from hs) Bool.false_ne_true
  | str i =>
    obtain ⟨t, rfl⟩ := rx
    cases y with
    | non => cases ry; exact PySem.EqNone.eq_str_none (fin_bl I q (by simp))
    | bl j => cases ry; exact PySem.EqMixed.eq_str_bool (fin_bl I q (by simp))
    | int j => obtain ⟨t', rfl⟩ := ry; exact PySem.EqMixed.eq_str_int (fin_bl I q (by simp))
    | str j => obtain ⟨t', rfl⟩ := ry; exact eq_str (fin_bl I q dec_str)
    | _ => exact absurd (show false = true from hs) Bool.false_ne_true
  | byt i =>
    obtain ⟨t, rfl⟩ := rx
    cases y with
    | byt j => obtain ⟨t', rfl⟩ := ry; exact PySem.W.eq_bytes (fin_bl I q dec_byt)
    | _ => exact absurd (show false = true from hs) Bool.false_ne_true
  | _ => cases y <;> exact absurd (show false = true from hs) Bool.false_ne_true
theorem op_ne : OpR X (compareOp .NotEq) rNe := by
  intro pins s σ H x y v u Q I rx ry h
  obtain ⟨hs, q⟩ := h
  cases x with
  | non =>
    cases rx
    cases y with
    | non => cases ry; exact PySem.EqNone.ne_none_none (fin_bl I q (by simp))
    | bl j => cases ry; exact PySem.EqNone.ne_none_bool (fin_bl I q (by simp))
    | int j => obtain ⟨t', rfl⟩ := ry; exact PySem.EqNone.ne_none_int (fin_bl I q (by simp))
    | str j => obtain ⟨t', rfl⟩ := ry; exact PySem.EqNone.ne_none_str (fin_bl I q (by simp))
    | _ => exact absurd (show false = true from hs) Bool.false_ne_true
  | bl i =>
    cases rx
    cases y with
    | non => cases ry; exact PySem.EqNone.ne_bool_none (fin_bl I q (by simp))
    | bl j => cases ry; exact ne_bool (fin_bl I q (congrArg not dec_bl))
    | str j => obtain ⟨t', rfl⟩ := ry; exact PySem.EqMixed.ne_bool_str (fin_bl I q (by simp))
    | _ => exact absurd (show false = true from hs) Bool.false_ne_true
  | int i =>
    obtain ⟨t, rfl⟩ := rx
    cases y with
    | non => cases ry; exact PySem.EqNone.ne_int_none (fin_bl I q (by simp))
    | int j => obtain ⟨t', rfl⟩ := ry; exact ne_int (fin_bl I q (congrArg not dec_int))
    | str j => obtain ⟨t', rfl⟩ := ry; exact PySem.EqMixed.ne_int_str (fin_bl I q (by simp))
    | _ => exact absurd (show false = true from hs) Bool.false_ne_true
  | str i =>
    obtain ⟨t, rfl⟩ := rx
    cases y with
    | non => cases ry; exact PySem.EqNone.ne_str_none (fin_bl I q (by simp))
    | bl j => cases ry; exact PySem.EqMixed.ne_str_bool (fin_bl I q (by simp))
    | int j => obtain ⟨t', rfl⟩ := ry; exact PySem.EqMixed.ne_str_int (fin_bl I q (by simp))
    | str j => obtain ⟨t', rfl⟩ := ry; exact ne_str (fin_bl I q (congrArg not dec_str))
    | _ => exact absurd (show false = true from hs) Bool.false_ne_true
  | byt i =>
    obtain ⟨t, rfl⟩ := rx
    cases y with
    | byt j => obtain ⟨t', rfl⟩ := ry; exact PySem.W.ne_bytes (fin_bl I q (congrArg not dec_byt))
    | _ => exact absurd (show false = true from hs) Bool.false_ne_true
  | _ => cases y <;> exact absurd (show false = true from hs) Bool.false_ne_true

theorem op_lt : OpR X (compareOp .Lt) (rI0 fun i j => .bl (decide (i < j))) := opB0 fun _ _ _ _ _ _ _ q => lt_int q
theorem op_gt : OpR X (compareOp .Gt) (rI0 fun i j => .bl (decide (j < i))) := opB0 fun _ _ _ _ _ _ _ q => gt_int q
theorem op_in_str : OpR X (compareOp .In) (fun x y H Q => ∃ i j, x = .str i ∧ y = .str j ∧ Q (.bl (!(Builtin.Str.occurrences j i 0 j.length 1).isEmpty)) H) := by
  intro pins s σ H x y v u Q I rx ry h
  obtain ⟨i, j, rfl, rfl, q⟩ := h
  obtain ⟨t, rfl⟩ := rx
  obtain ⟨t', rfl⟩ := ry
  exact in_str (fin_bl I q rfl)

theorem op_isN : OpR X (compareOp .Is) (fun x y H Q => y = .non ∧ Q (.bl (decide (x = .non))) H) := by
  intro pins s σ H x y v u Q I rx ry h
  obtain ⟨rfl, q⟩ := h
  cases ry
  refine is_none_gen (fin_bl I q ?_)
  cases x <;> first
    | (cases rx; rfl)
    | (obtain ⟨t, rfl⟩ := rx; rfl)
theorem op_notN : OpR X (compareOp .IsNot) (fun x y H Q => y = .non ∧ Q (.bl (!decide (x = .non))) H) := by
  intro pins s σ H x y v u Q I rx ry h
  obtain ⟨rfl, q⟩ := h
  cases ry
  refine isnot_none_gen (fin_bl I q ?_)
  cases x <;> first
    | (cases rx; rfl)
    | (obtain ⟨t, rfl⟩ := rx; rfl)


theorem OpR.or {f : Value → Value → Sem Value} {r r' : R2} (h : OpR X f r) (h' : OpR X f r') : OpR X f (fun x y H Q => r x y H Q ∨ r' x y H Q) := by
  intro pins s σ H x y v u Q I rx ry q
  rcases q with q | q
  · exact h pins s σ H x y v u Q I rx ry q
  · exact h' pins s σ H x y v u Q I rx ry q

theorem nomark (b : Expr) {op : CmpOp} (h : op ≠ .In := by decide) (h2 : op ≠ .NotIn := by decide) : behindInMarks op b = false := by
  have e1 : (op == CmpOp.In) = false := by cases op <;> first | rfl | exact absurd rfl h
  have e2 : (op == CmpOp.NotIn) = false := by cases op <;> first | rfl | exact absurd rfl h2
  cases b <;> simp [behindInMarks, e1, e2]
theorem pe_cmpR {op : CmpOp} {r : R2} (ho : OpR X (compareOp op) r) (ha : PE X a ta) (hb : PE X b tb) (hm : behindInMarks op b = false) : PE X (.Compare a [op] [b] pos) (tOp r ta tb) := by
  intro pins s σ H Q I h
  exact wpAny_Compare1 (binT ha hb I h fun v u s2 x y H2 I2 rx ry q => ho pins s2 σ H2 x y v u Q I2 rx ry q) hm
noncomputable def tTest (t : TE) : TT := fun σ H Q => t σ H fun x H' => ∃ k, x = .bl k ∧ Q k H'
theorem pt_cmpR {op : CmpOp} {r : R2} (ho : OpR X (compareOp op) r) (ha : PE X a ta) (hb : PE X b tb) (hm : behindInMarks op b = false) : PT X (.Compare a [op] [b] pos) (tTest (tOp r ta tb)) := by
  intro pins s σ H Q I h
  refine wpAny_isTrue_Compare1 (thn (ha pins s σ H _ I h) fun v s1 ⟨x, H1, I1, r1, q1⟩ => thn (hb pins s1 σ H1 _ I1 q1) fun u s2 ⟨y, H2, I2, r2, q2⟩ =>
    thn (ho pins s2 σ H2 x y v u _ I2 r1 r2 q2) fun c s3 ⟨z, H3, I3, r3, k, e, q3⟩ => ?_) hm
  subst e
  cases r3
  exact wpAny_truthy_bool ⟨H3, I3, q3⟩
noncomputable def tChain (r r' : R2) (ta tb tc : TE) : TE := fun σ H Q => ta σ H fun x H1 => tb σ H1 fun y H2 => r x y H2 fun z H3 => ∃ k, z = .bl k ∧
  (if k = true then tc σ H3 fun w' H4 => r' y w' H4 Q else Q (.bl false) H3)

/-! ### truth -/
noncomputable def TruV (K : PySem.W.Frag) (x : V) (H : Hp) (k : Bool) : Prop :=
  match x with
  | .non => k = false
  | .bl b => k = b
  | .int i => k = (i != 0)
  | .str y => y.length ≤ sizeLine ∧ k = ((y.length : Int) != 0)
  | .byt y => y.size ≤ sizeLine ∧ k = ((y.size : Int) != 0)
  | .ref p => (∃ xs, SqL K H p xs ∧ k = !xs.isEmpty) ∨ (∃ xs, SqT K H p xs ∧ k = !xs.isEmpty) ∨ ∃ kvs, H p = some (.dK kvs) ∧ k = !kvs.isEmpty
  | _ => False
theorem isEmpty_kv {κ : Type} {kvs : List (κ × V)} {vs : List (κ × Value)} (r : KV kvs vs) : (!vs.isEmpty) = !kvs.isEmpty := by
  cases r <;> rfl
theorem isEmpty_of {xs : List V} {its : List Value} (r : Vals xs its) : (!its.toArray.isEmpty) = !xs.isEmpty := by
  cases r <;> simp
theorem line63 : (sizeLine : Nat) < 2 ^ 63 := by rw [sizeLine_eq]; decide
theorem tru_ok : TruR X (fun x H Q => ∃ k, TruV X.K x H k ∧ Q k H) := by
  intro pins s σ H x v Q I rx h
  obtain ⟨k, e, q⟩ := h
  have hl := line63
  have hs : sizeLine = 16777216 := sizeLine_eq
  cases x with
  | non =>
    cases rx
    have e' : k = false := e
    subst e'
    exact truthy_none ⟨H, I, q⟩
  | bl b =>
    cases rx
    have e' : k = b := e
    subst e'
    exact wpAny_truthy_bool ⟨H, I, q⟩
  | int i =>
    obtain ⟨t, rfl⟩ := rx
    have e' : k = (i != 0) := e
    subst e'
    exact PySem.P.truthy_int ⟨H, I, q⟩
  | str y =>
    obtain ⟨t, rfl⟩ := rx
    obtain ⟨hy, e'⟩ : y.length ≤ sizeLine ∧ k = ((y.length : Int) != 0) := e
    subst e'
    exact PySem.P.truthy_str (by omega) ⟨H, I.tok _, q⟩
  | byt y =>
    obtain ⟨t, rfl⟩ := rx
    obtain ⟨hy, e'⟩ : y.size ≤ sizeLine ∧ k = ((y.size : Int) != 0) := e
    subst e'
    exact PySem.W.truthy_bytes (by omega) ⟨H, I.tok _, q⟩
  | ref p =>
    cases rx
    have e' : (∃ xs, SqL X.K H p xs ∧ k = !xs.isEmpty) ∨ (∃ xs, SqT X.K H p xs ∧ k = !xs.isEmpty) ∨ ∃ kvs, H p = some (.dK kvs) ∧ k = !kvs.isEmpty := e
    rcases e' with ⟨xs, hx, e'⟩ | ⟨xs, hx, e'⟩ | ⟨kvs, hx, e'⟩
    · subst e'
      obtain ⟨its, r, pl, hz⟩ := I.list hx
      have hlen := r.length
      exact wpAny_truthy_list pl.isList (by simp only [List.size_toArray]; omega) ⟨H, I.tok _, by rw [isEmpty_of r]; exact q⟩
    · subst e'
      obtain ⟨its, r, pl, hz⟩ := I.tuple hx
      have hlen := r.length
      exact truthy_tuple pl (by simp only [List.size_toArray]; omega) ⟨H, I.tok _, by rw [isEmpty_of r]; exact q⟩
    · subst e'
      obtain ⟨hz, hS, vs, r, m⟩ : kvs.length ≤ sizeLine ∧ (p == sysModules) = false ∧ ∃ vs, KV kvs vs ∧ s.heap.DictOf (mixKind X.prog X.w) p vs := I.hok p _ hx
      have hlen : kvs.length = vs.length := Paired.length r
      exact wpAny_truthy_dict hS m (by omega) ⟨H, I.tok _, by rw [isEmpty_kv r]; exact q⟩
  | _ => exact (show False from e).elim

/-! ### strs and bytes -/


/-! ### scalar builtins, by CallR -/
theorem vals1 {x : V} {us : List Value} (r : Vals [x] us) : ∃ u, us = [u] ∧ RelV x u := by
  cases r with
  | cons r1 r2 => cases r2; exact ⟨_, rfl, r1⟩
theorem vals2 {x y : V} {us : List Value} (r : Vals [x, y] us) : ∃ u w', us = [u, w'] ∧ RelV x u ∧ RelV y w' := by
  cases r with
  | cons r1 r2 =>
    cases r2 with
    | cons r3 r4 => cases r4; exact ⟨_, _, rfl, r1, r3⟩
theorem call_max2 (hc : X.calm = true) : CallR X (.builtin "max") (fun xs H Q => ∃ i j, xs = [.int i, .int j] ∧ Q (.int (if j > i then j else i)) H) := by
  intro pins s σ H xs us Q I r h
  obtain ⟨i, j, rfl, q⟩ := h
  obtain ⟨u, w', rfl, ⟨t, rfl⟩, ⟨t', rfl⟩⟩ := vals2 r
  refine max_two_ints (I.ok.hd hc) fun h' tk k => ⟨_, H, I.kept k, ?_, q⟩
  by_cases hj : j > i
  · rw [if_pos hj, if_pos hj]; exact ⟨_, rfl⟩
  · rw [if_neg hj, if_neg hj]; exact ⟨_, rfl⟩
noncomputable def LenV (K : PySem.W.Frag) (x : V) (H : Hp) (n : Nat) : Prop :=
  match x with
  | .str y => y.length ≤ sizeLine ∧ n = y.length
  | .byt y => y.size ≤ sizeLine ∧ n = y.size
  | .ref p => (∃ xs, SqL K H p xs ∧ n = xs.length) ∨ ∃ xs, SqT K H p xs ∧ n = xs.length
  | _ => False
theorem call_len : CallR X (.builtin "len") (fun xs H Q => ∃ x n, xs = [x] ∧ LenV X.K x H n ∧ Q (.int n) H) := by
  intro pins s σ H xs us Q I r h
  obtain ⟨x, n, rfl, e, q⟩ := h
  obtain ⟨u, rfl, rx⟩ := vals1 r
  have hl := line63
  have hs : sizeLine = 16777216 := sizeLine_eq
  cases x with
  | str y =>
    obtain ⟨t, rfl⟩ := rx
    obtain ⟨hy, e'⟩ : y.length ≤ sizeLine ∧ n = y.length := e
    subst e'
    exact len_str (by omega) ⟨.int _, H, I.tok _, ⟨_, rfl⟩, q⟩
  | byt y =>
    obtain ⟨t, rfl⟩ := rx
    obtain ⟨hy, e'⟩ : y.size ≤ sizeLine ∧ n = y.size := e
    subst e'
    exact PySem.W.len_bytes (by omega) ⟨.int _, H, I.tok _, ⟨_, rfl⟩, q⟩
  | ref p =>
    cases rx
    have e' : (∃ xs, SqL X.K H p xs ∧ n = xs.length) ∨ ∃ xs, SqT X.K H p xs ∧ n = xs.length := e
    rcases e' with ⟨xs, hx, e'⟩ | ⟨xs, hx, e'⟩
    · subst e'
      obtain ⟨its, r', pl, hz⟩ := I.list hx
      have hlen := r'.length
      exact Calls.call_len_list pl.isList (by simp only [List.size_toArray]; omega) ⟨.int xs.length, H, I.tok _, ⟨_, by simp only [List.size_toArray]; rw [hlen]⟩, q⟩
    · subst e'
      obtain ⟨its, r', pl, hz⟩ := I.tuple hx
      have hlen := r'.length
      exact len_tuple pl (by simp only [List.size_toArray]; omega) ⟨.int xs.length, H, I.tok _, ⟨_, by simp only [List.size_toArray]; rw [hlen]⟩, q⟩
  | _ => exact (show False from e).elim
end
end L2

namespace L2
open PySem PySem.Spec PyProof.Rows

/-! ### an instance, its attributes a map -/
set_option genInjectivity false in
structure ObjM (h : Heap) (x dx C : Addr) (mA : Str → Option Value) : Prop where
  obj : h.get? x = some (PySem.W.instObj C dx)
  ns : h.Ns1 dx mA
  ne : dx ≠ x

theorem lookIn_ns {h : Heap} {dx : Addr} {mA : Str → Option Value} (n : h.Ns1 dx mA) : ∃ od, h.get? dx = some od ∧ ∀ name, PySem.W.lookIn name od = some (mA name) := by
  obtain ⟨o, es, ep, ho, hd, hk, _, hm⟩ := n
  refine ⟨o, ho, fun name => ?_⟩
  have e := hm name
  unfold nsFind findBy at e
  rw [← Array.find?_toList] at e
  unfold PySem.W.lookIn
  rw [hd]
  dsimp only
  split
  · rename_i y q
    rw [q] at e
    exact congrArg some e
  · rename_i q
    rw [q] at e
    have a : es.toList.any (·.refKey) = false := by
      rw [List.any_eq_false]
      intro y hy
      obtain ⟨z, t, hkey⟩ := hk y (Array.mem_toList_iff.mp hy)
      simp [DictEntry.refKey, hkey]
    have a' : ¬ es.toList.any (·.refKey) = true := by rw [a]; exact Bool.false_ne_true
    rw [if_neg a']
    exact congrArg some e

theorem ObjM.look {h : Heap} {x dx C : Addr} {mA : Str → Option Value} (I : ObjM h x dx C mA) : ∃ od, PySem.W.InstAt h x (PySem.W.instObj C dx) C (some od) ∧ ∀ name, PySem.W.lookIn name od = some (mA name) :=
  let ⟨od, ho, hl⟩ := lookIn_ns I.ns
  ⟨od, ⟨I.obj, rfl, rfl, ho⟩, hl⟩

section
variable {prog : Program} {w : World} {A : Around} {E : Value → Shared → Prop} {s : Shared} {K : PySem.W.Frag} {x dx C f : Addr} {mA : Str → Option Value} {name : Str} {v : Value}

theorem get_map {expr : Bool} {Q : Value → Shared → Prop} (X : K.In s.heap) (I : ObjM s.heap x dx C mA) (hg : PySem.W.plainGet K C name = true) (hh : PySem.W.hasDictIn K C = true)
    (ha : PySem.W.findIn K (.ref C) name = some none) (hv : mA name = some v) (hv' : PySem.W.handedIn v = true) (h : Q v { s with toks := s.toks + 1 }) :
    wpAny (model prog w) A (getAttr (.ref x) name expr) Q E s := by
  obtain ⟨od, J, hl⟩ := I.look
  exact PySem.W.get_value X J (PySem.W.plainGet_of hg).1 (PySem.W.findObj_own hh ha rfl (by rw [hl, hv])) hv' h


theorem get_meth {pl : Sem Bool} {Q : Value × List Value → Shared → Prop} (X : K.In s.heap) (I : ObjM s.heap x dx C mA) (hg : PySem.W.plainGet K C name = true)
    (hf : PySem.W.findIn K (.ref C) name = some (some (.ref f))) (ht : PySem.W.isFn K (.ref f) = true) (hv : mA name = none) (h : Q (.ref f, [.ref x]) s) :
    wpAny (model prog w) A (getMethod (.ref x) name pl) Q E s := by
  obtain ⟨od, J, hl⟩ := I.look
  exact PySem.W.method_fn X J (PySem.W.plainGet_of hg).1 (PySem.W.plainGet_of hg).2 hf (beq_iff_eq.mp ht) (by show (PySem.W.lookIn name od).map (·.isSome) = some false; rw [hl, hv]; rfl) h

theorem set_map {ns : List Str} {Q : Unit → Shared → Prop} (X : K.In s.heap) (I : ObjM s.heap x dx C mA)
    (hs : PySem.W.findIn K (.ref C) "__setattr__" = some (some (.builtin "object.__setattr__"))) (hp : PySem.W.plainOver K C = true) (ht : PySem.W.takerIn K C name = some none) (hh : PySem.W.hasDictIn K C = true)
    (hw : PySem.Within mA ns) (hsz : ns.length ≤ sizeLine)
    (h : ∀ h', ObjM h' x dx C (fun y => if y = name then some v else mA y) → Heap.SameBut dx s.heap h' → Q () { s with heap := h', toks := s.toks + 2 }) :
    wpAny (model prog w) A (setAttr (.ref x) name v) Q E s := by
  obtain ⟨od, J, hl⟩ := I.look
  refine PySem.W.set_plain X J hs (PySem.W.osa_open (s := { s with toks := s.toks + 1 }) (r := none) X J hp ht fun b => ?_)
  obtain ⟨cd, hc, hd'⟩ := PySem.W.any_some hh
  have hx : s.heap.get? x = some ⟨.ref C, some dx, .plain, #[]⟩ := I.obj
  refine wpAny_bind (wpAny_pure (wpAny_bind (wpAny_bind (wpAny_loadPart hx (wpAny_bind (PySem.W.Looks.here (s := { s with toks := s.toks + 1 }) (PySem.W.looks_clsIn X hc) ?_))))))
  rw [hd']
  refine wpAny_pure (a := some dx) (wpAny_bind (wpAny_pure (wpAny_bind ?_)))
  refine wpAny_nsSet1 (s := { s with toks := s.toks + 1 }) I.ns fun h' hn2 hs2 => ?_
  obtain ⟨oD, esD, epD, hoD, hdD, hcD⟩ := hn2.count (PySem.Within.cons name v hw)
  refine wpAny_bind (wpAny_lookBehind hoD (by rw [hdD]; exact pastItsLine_dict (Nat.le_trans hcD (by rw [List.length_cons]; omega))) ?_)
  exact wpAny_pure (h _ ⟨(hs2.2 _ (Ne.symm I.ne)).trans I.obj, hn2, I.ne⟩ hs2)

theorem make_map {R : Result → Shared → Prop} {vs : List Value} {kw : List (Str × Value)} (X : K.In s.heap) (hm : PySem.W.makesIn K C = true)
    (hi : PySem.W.findIn K (.ref C) "__init__" = some (some (.ref f))) (hf : PySem.W.typeIn K (.ref f) = some (.type "function"))
    (h : codeAny (model prog w) (A.under (.builtin "type.__call__" ⟨.ref C :: vs, kw⟩)) (.call (.ref f) ⟨.ref (s.heap.objs.size + 1) :: vs, kw⟩) (PySem.W.InitBack (s.heap.objs.size + 1) R)
      { s with heap := (s.heap.push PySem.W.emptyDict).push (PySem.W.instObj C s.heap.objs.size) }) :
    codeAny (model prog w) A (.call (.ref C) ⟨vs, kw⟩) R s := by
  obtain ⟨hh, g, d, t, os⟩ := s
  exact PySem.W.make_core (PySem.W.makes_of X hm) (PySem.W.looks_findIn X hi) (fun self => PySem.W.bind_fn X self hf) (.inl rfl) h
end

/-! ### the attributes as a list of pairs -/
noncomputable def putF (f : Str) (v : V) : List (Str × V) → List (Str × V)
  | [] => [(f, v)]
  | (g, x) :: r => if g = f then (g, v) :: r else (g, x) :: putF f v r
theorem lookup_putF (f g : Str) (v : V) : ∀ fs : List (Str × V), (putF f v fs).lookup g = if g = f then some v else fs.lookup g
  | [] => by
    show List.lookup g [(f, v)] = _
    by_cases h : g = f
    · have hb : (g == f) = true := beq_iff_eq.mpr h
      simp only [List.lookup, hb, if_pos h]
    · have hb : (g == f) = false := beq_eq_false_iff_ne.mpr h
      simp only [List.lookup, hb, if_neg h]
  | (k, x) :: r => by
    have ih := lookup_putF f g v r
    rw [show putF f v ((k, x) :: r) = (if k = f then (k, v) :: r else (k, x) :: putF f v r) from rfl]
    by_cases hk : k = f
    · rw [if_pos hk]
      by_cases h : g = k
      · have hb : (g == k) = true := beq_iff_eq.mpr h
        simp only [List.lookup, hb, if_pos (h.trans hk)]
      · have hb : (g == k) = false := beq_eq_false_iff_ne.mpr h
        simp only [List.lookup, hb, if_neg (fun e : g = f => h (e.trans hk.symm))]
    · rw [if_neg hk]
      by_cases h : g = k
      · have hb : (g == k) = true := beq_iff_eq.mpr h
        simp only [List.lookup, hb, if_neg (fun e : g = f => hk (h.symm.trans e))]
      · have hb : (g == k) = false := beq_eq_false_iff_ne.mpr h
        simp only [List.lookup, hb]
        exact ih
theorem keys_putF (f : Str) (v : V) : ∀ fs : List (Str × V), f ∈ (putF f v fs).map (·.1) ∧ ∀ g, g ∈ fs.map (·.1) → g ∈ (putF f v fs).map (·.1)
  | [] => ⟨by simp [putF], fun g h => by simp at h⟩
  | (k, x) :: r => by
    obtain ⟨i1, i2⟩ := keys_putF f v r
    rw [show putF f v ((k, x) :: r) = (if k = f then (k, v) :: r else (k, x) :: putF f v r) from rfl]
    by_cases hk : k = f
    · rw [if_pos hk]
      subst hk
      exact ⟨by simp, fun g h => by simpa using h⟩
    · rw [if_neg hk]
      refine ⟨?_, fun g h => ?_⟩
      · rw [List.map_cons]
        exact List.mem_cons_of_mem _ i1
      · rw [List.map_cons] at h ⊢
        rcases List.mem_cons.mp h with e | e
        · exact List.mem_cons.mpr (.inl e)
        · exact List.mem_cons_of_mem _ (i2 g e)
theorem length_putF (f : Str) (v : V) : ∀ fs : List (Str × V), (putF f v fs).length ≤ fs.length + 1
  | [] => by simp [putF]
  | (k, x) :: r => by
    have ih := length_putF f v r
    rw [show putF f v ((k, x) :: r) = (if k = f then (k, v) :: r else (k, x) :: putF f v r) from rfl]
    by_cases hk : k = f
    · rw [if_pos hk, List.length_cons, List.length_cons]; omega
    · rw [if_neg hk, List.length_cons, List.length_cons]; omega

theorem RelO.some_of {v : V} {o : Option Value} (r : RelO (some v) o) : ∃ u, o = some u ∧ RelV v u := by
  cases o with
  | none => exact (show False from r).elim
  | some u => exact ⟨u, rfl, r⟩
theorem RelO.none_of {o : Option Value} (r : RelO none o) : o = none := by
  cases o with
  | none => rfl
  | some u => exact (show False from r).elim
theorem handed_of {v : V} {u : Value} (r : RelV v u) : PySem.W.handedIn u = true := by
  cases v with
  | non => cases (show u = Value.none from r); rfl
  | bl b => cases (show u = Value.bool b from r); rfl
  | int i => obtain ⟨t, e⟩ := (show ∃ t, u = Value.int i t from r); cases e; rfl
  | str x => obtain ⟨t, e⟩ := (show ∃ t, u = Value.str x t from r); cases e; rfl
  | byt b => obtain ⟨t, e⟩ := (show ∃ t, u = Value.bytes b t from r); cases e; rfl
  | flt b => obtain ⟨t, e⟩ := (show ∃ t, u = Value.float b t from r); cases e; rfl
  | ref a => cases (show u = Value.ref a from r); rfl
  | ty n => cases (show u = Value.type n from r); rfl

section
variable {P : Program} {w : World} {H H' : Hp} {h h' : Heap} {a C dx : Addr} {fs fs' : List (Str × V)}
theorem ins_get (hok : HOk P w H h) (e : H a = some (.ins C dx fs)) : ∃ mA, ObjM h a dx C mA ∧ (∀ f, RelO (fs.lookup f) (mA f)) ∧ PySem.Within mA (fs.map (·.1)) ∧ fs.length ≤ 1000 ∧ H dx = some (.own a) := by
  obtain ⟨d, z, ne, ob, mA, n, r, q⟩ := (show ObjOk P w H h a (.ins C dx fs) from hok a _ e)
  exact ⟨mA, ⟨ob, n, ne⟩, r, q, z, d⟩
end

/-! ### what of the text a class must have -/
set_option genInjectivity false in
structure Cls (K : PySem.W.Frag) (C : Addr) : Prop where
  pg : PySem.W.plainGet K C Str.empty = true
  hd : PySem.W.hasDictIn K C = true
  po : PySem.W.plainOver K C = true
  sa : PySem.W.findIn K (.ref C) "__setattr__" = some (some (.builtin "object.__setattr__"))
theorem Cls.get {K : PySem.W.Frag} {C : Addr} (c : Cls K C) (f : Str) : PySem.W.plainGet K C f = true := c.pg
noncomputable def NoAttr (K : PySem.W.Frag) (C : Addr) (f : Str) : Prop := PySem.W.findIn K (.ref C) f = some none
theorem NoAttr.taker {K : PySem.W.Frag} {C : Addr} {f : Str} (n : NoAttr K C f) : PySem.W.takerIn K C f = some none := by
  unfold PySem.W.takerIn
  rw [show PySem.W.findIn K (.ref C) f = some none from n]
  rfl
set_option genInjectivity false in
structure Meth (K : PySem.W.Frag) (C : Addr) (m : Str) (f : Addr) : Prop where
  at_ : PySem.W.findIn K (.ref C) m = some (some (.ref f))
  fn : PySem.W.isFn K (.ref f) = true
  kp : PySem.W.keepIn K (.ref f) = true

section
variable {X : Cx} {pins : List (Addr × Obj)} {σ : St} {H : Hp} {s : Shared} {a C dx : Addr} {fs : List (Str × V)} {f : Str} {v : V} {A : Around} {E : Value → Shared → Prop}

theorem getattr_ok {b : Bool} {Q : Value → Shared → Prop} (I : Inv X pins σ H s) (e : H a = some (.ins C dx fs)) (c : Cls X.K C) (n : NoAttr X.K C f) (l : fs.lookup f = some v)
    (h : ∀ u s', Inv X pins σ H s' → RelV v u → Q u s') : wpAny (model X.prog X.w) A (getAttr (.ref a) f b) Q E s := by
  obtain ⟨mA, O, r, _, _, _⟩ := ins_get I.hok e
  obtain ⟨u, hu, ru⟩ := RelO.some_of (v := v) (o := mA f) (by rw [← l]; exact r f)
  exact get_map I.kIn O (c.get f) c.hd n hu (handed_of ru) (h u _ (I.tok _) ru)


theorem getmeth_ok {m : Str} {g : Addr} {pl : Sem Bool} {Q : Value × List Value → Shared → Prop} (I : Inv X pins σ H s) (e : H a = some (.ins C dx fs)) (c : Cls X.K C) (k : Meth X.K C m g) (l : fs.lookup m = none)
    (h : Q (.ref g, [.ref a]) s) : wpAny (model X.prog X.w) A (getMethod (.ref a) m pl) Q E s := by
  obtain ⟨mA, O, r, _, _, _⟩ := ins_get I.hok e
  have hn : mA m = none := RelO.none_of (by rw [← l]; exact r m)
  exact get_meth I.kIn O (c.get m) k.at_ k.fn hn h

theorem setattr_ok {y : V} {u : Value} {Q : Unit → Shared → Prop} (I : Inv X pins σ H s) (e : H a = some (.ins C dx fs)) (c : Cls X.K C) (n : NoAttr X.K C f) (hl : fs.length < 1000) (ry : RelV y u)
    (h : ∀ s', Inv X pins σ (upd H a (.ins C dx (putF f y fs))) s' → Q () s') : wpAny (model X.prog X.w) A (setAttr (.ref a) f u) Q E s := by
  obtain ⟨mA, O, r, wi, _, ho⟩ := ins_get I.hok e
  have hz : (fs.map (·.1)).length ≤ sizeLine := by rw [List.length_map, sizeLine_eq]; omega
  refine set_map I.kIn O c.sa c.po n.taker c.hd wi hz fun h' O' sb => h _ ?_
  have hd : ∃ o, h'.get? dx = some o := let ⟨o, _, _, e', _⟩ := O'.ns; ⟨o, e'⟩
  refine I.write (x := a) (e := dx) (by rw [e]; exact True.intro) (.inr ho) (fun b q hb z => (sb.2 b hb).trans z) hd ?_
  refine ⟨by rw [upd_ne O.ne]; exact ho, ?_, O.ne, O'.obj, _, O'.ns, fun g => ?_, fun g hg => ?_⟩
  · have := length_putF f y fs; omega
  · show RelO ((putF f y fs).lookup g) (if g = f then some u else mA g)
    rw [lookup_putF]
    by_cases q : g = f
    · rw [if_pos q, if_pos q]; exact ry
    · rw [if_neg q, if_neg q]; exact r g
  · by_cases q : g = f
    · rw [q]; exact (keys_putF f y fs).1
    · refine (keys_putF f y fs).2 g (wi g fun z => hg ?_)
      show (if g = f then some u else mA g) = none
      rw [if_neg q]; exact z

theorem Inv.made (I : Inv X pins σ H s) : Inv X pins σ (upd (upd H s.heap.objs.size (.own (s.heap.objs.size + 1))) (s.heap.objs.size + 1) (.ins C s.heap.objs.size []))
    { s with heap := (s.heap.push PySem.W.emptyDict).push (PySem.W.instObj C s.heap.objs.size) } := by
  have e1 : (s.heap.push PySem.W.emptyDict).get? s.heap.objs.size = some PySem.W.emptyDict := Heap.get?_push_size s.heap rfl
  have e2 : ((s.heap.push PySem.W.emptyDict).push (PySem.W.instObj C s.heap.objs.size)).get? (s.heap.objs.size + 1) = some (PySem.W.instObj C s.heap.objs.size) := by
    have := Heap.get?_push_size (s.heap.push PySem.W.emptyDict) (o := PySem.W.instObj C s.heap.objs.size) rfl
    rwa [Heap.size_push] at this
  have e3 : (s.heap.push PySem.W.emptyDict).Ns s.heap.objs.size (fun _ => none) := ⟨PySem.W.emptyDict, #[], _, e1, rfl, (fun e he => absurd he (by simp)), fun _ => rfl⟩
  have I1 := I.laid (a := s.heap.objs.size) (o := .own (s.heap.objs.size + 1)) (h' := s.heap.push PySem.W.emptyDict) (t' := s.toks) (fun b u q => Heap.get?_push_of_some _ q) (Nat.le_refl _) ⟨_, e1⟩
  refine I1.laid (a := s.heap.objs.size + 1) (o := .ins C s.heap.objs.size []) (t' := s.toks) (fun b u q => Heap.get?_push_of_some _ q) (Nat.le_of_eq (Heap.size_push _ _)) ?_
  have ne : s.heap.objs.size ≠ s.heap.objs.size + 1 := Nat.ne_of_lt (Nat.lt_succ_self _)
  refine ⟨by rw [upd_ne ne, upd_same], Nat.zero_le _, ne, e2, fun _ => none, (Heap.Ns1.of_empty e3).at fun o q => Heap.get?_push_of_some _ q, fun _ => True.intro, fun y hy => absurd rfl hy⟩

theorem attr_of {prog : Program} {w : World} {env : Env} {e : Expr} {f : Str} {pos : Pos} {s : Shared} {Q : Value → Shared → Prop} (hb : attributeBase e f env (eval e env) = eval e env)
    (h : wpAny (model prog w) A (eval e env) (fun o s₁ => wpAny (model prog w) A (getAttr o f true) Q E s₁) E s) : wpAny (model prog w) A (eval (.Attribute e f pos) env) Q E s :=
  Attribute_any_ h (by rw [arm_eval_Attribute, hb])
end

/-! ### readings and rules -/
noncomputable def tFld (K : PySem.W.Frag) (ta : TE) (f : Str) : TE := fun σ H Q => ta σ H fun x H1 => ∃ a C dx fs v, x = .ref a ∧ H1 a = some (.ins C dx fs) ∧ Cls K C ∧ NoAttr K C f ∧ fs.lookup f = some v ∧ Q v H1
noncomputable def sFld (K : PySem.W.Frag) (ta tv : TE) (f : Str) : TS := fun D σ H => tv σ H fun y H1 => ta σ H1 fun x H2 => ∃ a C dx fs, x = .ref a ∧ H2 a = some (.ins C dx fs) ∧ Cls K C ∧ NoAttr K C f ∧ fs.length < 1000 ∧
  D.nx σ (upd H2 a (.ins C dx (putF f y fs)))

section
variable {X : Cx} {o e value : Expr} {f : Str} {pos pos' tpos : Pos} {ta tv : TE}
theorem pe_fld (he : PE X e ta) (hb : attributeBase e f X.env (eval e X.env) = eval e X.env) : PE X (.Attribute e f pos) (tFld X.K ta f) := by
  intro pins s σ H Q I h
  refine attr_of hb (thn (he pins s σ H _ I h) fun u s1 ⟨x, H1, I1, rx, a, C, dx, fs, v, ex, ea, c, n, l, q⟩ => ?_)
  subst ex
  obtain rfl : u = Value.ref a := rx
  exact getattr_ok I1 ea c n l fun u' s2 I2 ru => ⟨v, H1, I2, ru, q⟩
theorem ps_fld (ha : PE X o ta) (hv : PE X value tv) (hs : swapsWith value (some (.Attribute o f pos')) pos.line X.env = pure false) : PS X (.Assign [.Attribute o f pos'] value pos) (sFld X.K ta tv f) := by
  intro pins s σ H D I h
  refine plainObj_wpAny_Assign_Attribute (thn (hv pins s σ H _ I h) fun u s1 ⟨y, H1, I1, ry, q⟩ => thn (ha pins s1 σ H1 _ I1 q) fun ov s2 ⟨x, H2, I2, rx, a, C, dx, fs, ex, ea, c, n, l, q2⟩ => ?_) hs
  subst ex
  obtain rfl : ov = Value.ref a := rx
  exact setattr_ok I2 ea c n l ry fun s3 I3 => ⟨σ, _, I3, q2⟩

theorem methcall_of {pl : Sem Bool} {m : Str} {apos : Pos} {args : List Expr} {pins : List (Addr × Obj)} {s : Shared} {σ : St} {H : Hp} {Q : Value → Shared → Prop} {te : TE} (he : PE X e te) (I : Inv X pins σ H s)
    (h : te σ H fun x H1 => ∃ a C dx fs g, x = .ref a ∧ H1 a = some (.ins C dx fs) ∧ Cls X.K C ∧ Meth X.K C m g ∧ fs.lookup m = none ∧
      ∀ s1, Inv X pins σ H1 s1 → wpAny (model X.prog X.w) X.A (callWith pos (.ref g) [.ref a] (backTo pos (starEach args X.env)) (backToKw pos (keywordEach [] X.env))) Q X.xe s1)
    (ht : eval (.Call (.Attribute e m apos) args [] pos) X.env = (do
      let ov ← eval e X.env
      standAt apos.atName
      let (f, first) ← holding [ov] (getMethod ov m pl)
      callWith pos f first (backTo pos (starEach args X.env)) (backToKw pos (keywordEach [] X.env)))) :
    wpAny (model X.prog X.w) X.A (eval (.Call (.Attribute e m apos) args [] pos) X.env) Q X.xe s := by
  refine PySem.W.methodCall_KW (pl := pl) (thn (he pins s σ H _ I h) fun u s1 ⟨x, H1, I1, rx, a, C, dx, fs, g, ex, ea, c, k, l, q⟩ => ?_) ht
  subst ex
  obtain rfl : u = Value.ref a := rx
  exact getmeth_ok I1 ea c k l (q s1 I1)
end

/-! ### isinstance -/
section
variable {X : Cx} {pins : List (Addr × Obj)} {σ : St} {H : Hp} {s : Shared} {A : Around} {E : Value → Shared → Prop} {Q : Value → Shared → Prop} {c : Value} {b : Bool}
inductive TyOf (K : PySem.W.Frag) (H : Hp) : V → Value → Prop where
  | non : TyOf K H .non (.type "NoneType")
  | bl (x : Bool) : TyOf K H (.bl x) (.type "bool")
  | int (i : Int) : TyOf K H (.int i) (.type "int")
  | str (x : Str) : TyOf K H (.str x) (.type "str")
  | flt (x : UInt64) : TyOf K H (.flt x) (.type "float")
  | lst {a : Addr} {xs : List V} (e : H a = some (.lst xs)) : TyOf K H (.ref a) (.type "list")
  | frz {a : Addr} {o : Obj} {xs : List V} (e : H a = some (.frz o (.lst xs))) : TyOf K H (.ref a) (.type "list")
  | tup {a : Addr} {xs : List V} (e : H a = some (.tup xs)) : TyOf K H (.ref a) (.type "tuple")
  | dK {a : Addr} {kvs : List (Key × V)} (e : H a = some (.dK kvs)) : TyOf K H (.ref a) (.type "dict")
  | dT {a : Addr} {kvs : List (List Key × V)} (e : H a = some (.dT kvs)) : TyOf K H (.ref a) (.type "dict")
  | ins {a C dx : Addr} {fs : List (Str × V)} (e : H a = some (.ins C dx fs)) (cl : Cls K C) (ha : PySem.W.findIn K (.ref C) "__class__" = some (some (.builtin "object.__class__")))
      (hn : PySem.W.specialIn K (.builtin "object.__class__") "__get__" = some (some (.builtin "getset_descriptor.__get__"))) (htk : PySem.W.takesIn K (.builtin "object.__class__") = some true)
      (hm : PySem.W.mroIn K C (.type "object") = some true) : TyOf K H (.ref a) (.ref C)
theorem isinst_ok {x : V} {u t : Value} (I : Inv X pins σ H s) (rx : RelV x u) (ty : TyOf X.K H x t) (e : PySem.W.kitOne X.K t c = some b) (h : ∀ tk, Q (.bool b) { s with toks := tk }) :
    wpAny (model X.prog X.w) A (call (.builtin "isinstance") [u, c]) Q E s := by
  cases ty with
  | non => cases (show u = Value.none from rx); exact PySem.W.kia_one PySem.W.kitx_none I.kIn True.intro e (fun z => nomatch z) h
  | bl y => cases (show u = Value.bool y from rx); exact PySem.W.kia_one PySem.W.kitx_bool I.kIn True.intro e (fun z => nomatch z) h
  | int i => obtain ⟨t, q⟩ := (show ∃ t, u = Value.int i t from rx); cases q; exact PySem.W.kia_one PySem.W.kitx_int I.kIn True.intro e (fun z => nomatch z) h
  | str y => obtain ⟨t, q⟩ := (show ∃ t, u = Value.str y t from rx); cases q; exact PySem.W.kia_one PySem.W.kitx_str I.kIn True.intro e (fun z => nomatch z) h
  | flt y => obtain ⟨t, q⟩ := (show ∃ t, u = Value.float y t from rx); cases q; exact PySem.W.kia_one PySem.W.kitx_float I.kIn True.intro e (fun z => nomatch z) h
  | @lst a xs ea =>
    cases (show u = Value.ref a from rx)
    obtain ⟨_, _, n, _, h1⟩ := (show ObjOk X.prog X.w H s.heap a (.lst xs) from I.hok a _ ea)
    exact PySem.W.kia_one PySem.W.kitx_list I.kIn ⟨_, h1, rfl⟩ e (fun z => nomatch z) h
  | @frz a ob xs ea =>
    cases (show u = Value.ref a from rx)
    obtain ⟨_, _, _, n, _, h1⟩ := (show ObjOk X.prog X.w H s.heap a (.frz ob (.lst xs)) from I.hok a _ ea)
    exact PySem.W.kia_one PySem.W.kitx_list I.kIn ⟨_, h1, rfl⟩ e (fun z => nomatch z) h
  | @tup a xs ea =>
    cases (show u = Value.ref a from rx)
    obtain ⟨_, _, _, p⟩ := (show ObjOk X.prog X.w H s.heap a (.tup xs) from I.hok a _ ea)
    obtain ⟨o, h1, h2, _⟩ := p
    exact PySem.W.kia_one PySem.W.kitx_tuple I.kIn ⟨o, h1, h2⟩ e (fun z => nomatch z) h
  | @dK a kvs ea =>
    cases (show u = Value.ref a from rx)
    obtain ⟨_, _, vs, _, p⟩ := (show ObjOk X.prog X.w H s.heap a (.dK kvs) from I.hok a _ ea)
    obtain ⟨o, es, ep, h1, h2, _⟩ := p
    exact PySem.W.kia_one PySem.W.kitx_dict I.kIn ⟨o, h1, h2.1⟩ e (fun z => nomatch z) h
  | @dT a kvs ea =>
    cases (show u = Value.ref a from rx)
    obtain ⟨_, _, xs, _, o, es, ep, h1, h2, _⟩ := (show ObjOk X.prog X.w H s.heap a (.dT kvs) from I.hok a _ ea)
    exact PySem.W.kia_one PySem.W.kitx_dict I.kIn ⟨o, h1, h2.1⟩ e (fun z => nomatch z) h
  | @ins a C dx fs ea cl ha hn htk hm =>
    cases (show u = Value.ref a from rx)
    obtain ⟨mA, O, _⟩ := ins_get I.hok ea
    obtain ⟨od, J, _⟩ := O.look
    exact PySem.W.kia_one (PySem.W.kitx_own (cl.get _) cl.hd ha hn htk hm) I.kIn J e (fun z => nomatch z) h
end
end L2

namespace L2
open PySem PySem.Spec PyProof.Rows

/-! ### room -/
set_option genInjectivity false in
structure Room (k : Nat) (A : Around) : Prop where
  hd : A.handled = none
  dp : A.depth + 3 * k + 5 < recursionLimit
  un : A.units + 16 * k + 200 < cLine
theorem Room.mono {j k : Nat} {A : Around} (r : Room k A) (h : j ≤ k) : Room j A := ⟨r.hd, by have := r.dp; omega, by have := r.un; omega⟩
theorem Room.deeper {k : Nat} {A : Around} (r : Room (k + 1) A) (env : Env) : Room k (A.deeper env) :=
  ⟨r.hd, by have := r.dp; show A.depth + 1 + 3 * k + 5 < _; omega, by have := r.un; show A.units + 3 + 16 * k + 200 < _; omega⟩
theorem make_depth {A : Around} {C : Addr} {us : List Value} {kw : List (Str × Value)} : (A.under (.builtin "type.__call__" ⟨.ref C :: us, kw⟩)).depth = A.depth + 1 := by
  first | rfl | simp [Around.under, Code.weight, Code.isCreation, Code.isGuard, Code.isCaller, Code.frames, Code.isFrame, guardIds]
theorem make_units {A : Around} {C : Addr} {us : List Value} {kw : List (Str × Value)} : (A.under (.builtin "type.__call__" ⟨.ref C :: us, kw⟩)).units = A.units + 1 := by
  first | rfl | simp [Around.under, Code.cUnits, Code.frames, Code.isFrame]
theorem Room.make {k : Nat} {A : Around} (r : Room (k + 1) A) (C : Addr) (us : List Value) (kw : List (Str × Value)) : Room k (A.under (.builtin "type.__call__" ⟨.ref C :: us, kw⟩)) :=
  ⟨r.hd, by have := r.dp; rw [make_depth]; omega, by have := r.un; rw [make_units]; omega⟩
theorem Room.depth {k : Nat} {A : Around} (r : Room k A) : A.depth < recursionLimit := by have := r.dp; omega
theorem Room.units {k : Nat} {A : Around} (r : Room k A) : A.units + 64 < cLine := by have := r.un; omega

/-! ### argument lists and displays -/
noncomputable def tNil : TA := fun _ H Q => Q [] H
noncomputable def tCons (ta : TE) (tr : TA) : TA := fun σ H Q => ta σ H fun x H1 => tr σ H1 fun xs H2 => Q (x :: xs) H2
section
variable {X : Cx} {e : Expr} {es : List Expr} {te : TE} {t : TA} {pos : Pos}
theorem pa_nil : PA X [] tNil := fun _ _ _ _ H Q I h => Calls.spliced_nil ⟨[], H, I, .nil, h⟩
theorem pa_cons (ha : PE X e te) (hr : PA X es t) (hs : starEach (e :: es) X.env = (false, eval e X.env) :: starEach es X.env := by rfl) : PA X (e :: es) (tCons te t) := by
  intro pos pins s σ H Q I h
  rw [hs]
  show wpAny _ _ (spliced ((false, eval e X.env) :: backTo pos (starEach es X.env))) _ _ s
  refine Calls.spliced_cons (thn (ha pins s σ H _ I h) fun u s1 ⟨x, H1, I1, r1, q1⟩ => ?_)
  exact thn (hr pos pins s1 σ H1 _ I1 q1) fun us s2 ⟨xs, H2, I2, r2, q2⟩ => ⟨x :: xs, H2, I2, .cons r1 r2, q2⟩

noncomputable def tTup (t : TA) : TE := fun σ H Q => t σ H fun xs H1 => xs.length ≤ sizeLine ∧ ∀ p, H1 p = none → Q (.ref p) (upd H1 p (.tup xs))
noncomputable def tLst (t : TA) : TE := fun σ H Q => t σ H fun xs H1 => xs.length ≤ sizeLine ∧ ∀ p, H1 p = none → Q (.ref p) (upd H1 p (.lst xs))
theorem pe_tup {x1} (h : PA X es t) : PE X (.Tuple es x1 pos) (tTup t) := by
  intro pins s σ H Q I hq
  refine wpAny_Tuple_spliced (thn (h pos pins s σ H _ I hq) fun us s1 ⟨xs, H1, I1, r, z, q⟩ => ⟨by rw [← r.length]; exact z, ?_⟩)
  have hf : H1 s1.heap.objs.size = none := I1.hok.fresh (Nat.le_refl _)
  refine ⟨.ref s1.heap.objs.size, upd H1 s1.heap.objs.size (.tup xs), I1.laid (t' := s1.toks) (fun b u e => Heap.get?_push_of_some _ e) (Nat.le_refl _) ?_, rfl, q _ hf⟩
  exact ⟨z, us, r, ⟨_, Heap.get?_push_size _ rfl, rfl, _, rfl⟩⟩
theorem pe_lst (h : PA X es t) : PE X (.List es pos) (tLst t) := by
  intro pins s σ H Q I hq
  refine wpAny_List_spliced (thn (h pos pins s σ H _ I hq) fun us s1 ⟨xs, H1, I1, r, z, q⟩ => ⟨by rw [← r.length]; exact z, ?_⟩)
  have hf : H1 s1.heap.objs.size = none := I1.hok.fresh (Nat.le_refl _)
  refine ⟨.ref s1.heap.objs.size, upd H1 s1.heap.objs.size (.lst xs), I1.laid (t' := s1.toks) (fun b u e => Heap.get?_push_of_some _ e) (Nat.le_refl _) ?_, rfl, q _ hf⟩
  exact ⟨z, us, 0, r, Heap.get?_push_size _ rfl⟩
end

/-! ### what a def promises -/
noncomputable abbrev Sp := List V → Hp → VK → XK → Prop
noncomputable abbrev CXT := List Env → Hp → Shared → XK → Value → Shared → Prop

set_option genInjectivity false in
structure Env0 (P : Program) (w : World) (K : PySem.W.Frag) (mg : Str → Option Value) (base : Heap) (A : Around) (outer : List Env) (s : Shared) (H : Hp) : Prop where
  frames : A.frames = some outer
  mod : Mod K mg base
  bs : ∀ b o, base.get? b = some o → s.heap.get? b = some o ∧ H b = none
  bsz : base.objs.size ≤ s.heap.objs.size
  funs : s.heap.FunFrames base outer
  frf : ∀ b ∈ frs outer, H b = none
  hok : HOk P w H s.heap
  bare : AllBare s.gens
noncomputable def CE (outer : List Env) (P : Program) (w : World) (H : Hp) (s : Shared) (Q : VK) (u : Value) (s' : Shared) : Prop :=
  ∃ v H', s'.os = s.os ∧ AllBare s'.gens ∧ Un (frs outer) [] H H' s.heap s'.heap ∧ HOk P w H' s'.heap ∧ RelV v u ∧ Q v H'
noncomputable def CR (CX : CXT) (outer : List Env) (P : Program) (w : World) (H : Hp) (s : Shared) (Q : VK) (E : XK) (r : Result) (s' : Shared) : Prop :=
  match r with
  | .ok (.ret u) => CE outer P w H s Q u s'
  | .ok _ => False
  | .error e => CX outer H s E e s'
set_option genInjectivity false in
structure FnOk (P : Program) (w : World) (K : PySem.W.Frag) (mg : Str → Option Value) (base : Heap) (CX : CXT) (k : Nat) (f : Addr) (fd : FuncData) (ps : List Str) (sp : Sp) : Prop where
  len : ∀ vs H Q E, sp vs H Q E → vs.length = ps.length
  run : ∀ (A : Around) (outer : List Env) (s : Shared) (H : Hp) (args : Args) (us : List Value) (vs : List V) (Q : VK) (E : XK), Room k A → Env0 P w K mg base A outer s H → BindsTo s fd args (ps.zip us) → Vals vs us → sp vs H Q E →
    codeAny (model P w) A (.call (.ref f) args) (CR CX outer P w H s Q E) s

theorem Env0.make {P : Program} {w : World} {K : PySem.W.Frag} {mg : Str → Option Value} {base : Heap} {A : Around} {outer : List Env} {s : Shared} {H : Hp} (e : Env0 P w K mg base A outer s H) (C : Addr) (us : List Value) (kw : List (Str × Value)) :
    Env0 P w K mg base (A.under (.builtin "type.__call__" ⟨.ref C :: us, kw⟩)) outer s H := ⟨by first | exact e.frames | (simpa [Around.under, Code.envs, Code.isFrame, pushEnvs] using e.frames), e.mod, e.bs, e.bsz, e.funs, e.frf, e.hok, e.bare⟩

section
variable {X : Cx} {pins : List (Addr × Obj)} {σ : St} {H : Hp} {s s' : Shared}
theorem Inv.env0 (I : Inv X pins σ H s) : Env0 X.prog X.w X.K X.mg X.base X.A X.stack s H :=
  ⟨I.ok.frames, I.ok.mod, I.bs, Nat.le_trans I.ok.bsz I.sz, I.stack, I.stkFree, I.hok, I.bare⟩
theorem Inv.after {Q : VK} {u : Value} (I : Inv X pins σ H s) (h : CE X.stack X.prog X.w H s Q u s') : EP X pins σ Q u s' := by
  obtain ⟨v, H', os, bare, un, hok, r, q⟩ := h
  obtain ⟨hh, g, d, t, os'⟩ := s'
  obtain rfl : os' = s.os := os
  exact ⟨v, H', I.call (h' := hh) (g' := g) (d' := d) (t' := t) (ch := []) un hok bare (fun b z => absurd z (by simp)), r, q⟩
end

/-! ### calls -/
noncomputable def tCall (sp : Sp) (dvs : List V) (E : XK) (t : TA) : TE := fun σ H Q => t σ H fun vs H1 => sp (vs ++ dvs) H1 Q E
noncomputable def tMeth (C : Addr) (m : Str) (sp : Sp) (dvs : List V) (E : XK) (ta : TE) (t : TA) : TE := fun σ H Q => ta σ H fun x H1 => ∃ a dx fs, x = .ref a ∧ H1 a = some (.ins C dx fs) ∧ fs.lookup m = none ∧
  t σ H1 fun vs H2 => sp (x :: (vs ++ dvs)) H2 Q E
noncomputable def tMake (C : Addr) (sp : Sp) (dvs : List V) (E : XK) (t : TA) : TE := fun σ H Q => t σ H fun vs H1 => ∀ x dx, H1 x = none → H1 dx = none → dx ≠ x →
  sp (.ref x :: (vs ++ dvs)) (upd (upd H1 dx (.own x)) x (.ins C dx [])) (fun v H2 => v = .non ∧ Q (.ref x) H2) E

noncomputable def Binds (K : PySem.W.Frag) (fd : FuncData) (ps : List Str) (ds : List Value) : Prop :=
  ∀ (s : Shared) (us : List Value), K.In s.heap → (us ++ ds).length = ps.length → BindsTo s fd ⟨us, []⟩ (ps.zip (us ++ ds))
theorem Binds.all {K : PySem.W.Frag} {fd : FuncData} {ps : List Str} (h : ∀ us : List Value, us.length = ps.length → bindArgs fd ⟨us, []⟩ = pure (ps.zip us)) : Binds K fd ps [] := fun s us _ hl => by
  rw [List.append_nil] at hl ⊢
  exact .of_eq (h us hl)

noncomputable def Passes (CX : CXT) (X : Cx) (E : XK) : Prop := ∀ (pins : List (Addr × Obj)) (σ : St) (H : Hp) (s : Shared) (e : Value) (s' : Shared), Inv X pins σ H s → CX X.stack H s E e s' → X.xe e s'

section
variable {X : Cx} {CX : CXT} {k : Nat} {f C : Addr} {fd : FuncData} {ps : List Str} {sp : Sp} {dvs : List V} {ds : List Value} {E : XK} {x m : Str} {p pos apos : Pos} {e o : Expr} {es : List Expr} {ta : TE} {t : TA}

theorem run_fn {pins : List (Addr × Obj)} {σ : St} {H : Hp} {s : Shared} {Q : VK} {us : List Value} {vs : List V} (F : FnOk X.prog X.w X.K X.mg X.base CX k f fd ps sp) (hr : Room k X.A) (hb : Binds X.K fd ps ds) (hd : Vals dvs ds) (hx : Passes CX X E)
    (I : Inv X pins σ H s) (r : Vals vs us) (h : sp (vs ++ dvs) H Q E) : wpAny (model X.prog X.w) X.A (call (.ref f) us) (EP X pins σ Q) X.xe s := by
  have r2 : Vals (vs ++ dvs) (us ++ ds) := r.append hd
  have hl : (us ++ ds).length = ps.length := by rw [← r2.length]; exact F.len _ _ _ _ h
  refine wpAny_call (codeAny_mono (F.run X.A X.stack s H ⟨us, []⟩ (us ++ ds) (vs ++ dvs) Q E hr I.env0 (hb s us I.kIn hl) r2 h) fun r s' hq => ?_)
  cases r with
  | error e => exact hx pins σ H s e s' I hq
  | ok fl =>
    cases fl with
    | ret u => exact I.after hq
    | next => exact False.elim hq
    | brk => exact False.elim hq
    | cont => exact False.elim hq

theorem pe_call (F : FnOk X.prog X.w X.K X.mg X.base CX k f fd ps sp) (hr : Room k X.A) (hg : Gl X x) (hm : X.mg x = some (.ref f)) (hk : PySem.W.keepIn X.K (.ref f) = true) (hb : Binds X.K fd ps ds) (hd : Vals dvs ds) (hx : Passes CX X E)
    (ha : PA X (e :: es) t) (hdb : (x == ("__debug__" : Str)) = false := by decide) (he : starEach (e :: es) X.env = (false, eval e X.env) :: starEach es X.env := by rfl) (hpl : (backTo pos (starEach es X.env)).any (·.1) = false := by rfl) :
    PE X (.Call (.Name x p) (e :: es) [] pos) (tCall sp dvs E t) := by
  intro pins s σ H Q I h
  refine wpAny_Call_Name_kw (ld_glob I hg hm ?_ hdb)
  refine PySem.W.callWith_K (h₀ := X.base) I.ok.mod.kin hk (thn (ha pos pins s σ H _ I h) fun us s1 ⟨vs, H1, I1, r, q⟩ => ⟨I1.kIn, ?_⟩) he hpl
  exact run_fn F hr hb hd hx I1 r q

theorem pe_meth {pl : Sem Bool} (he : PE X o ta) (c : Cls X.K C) (hm : Meth X.K C m f) (F : FnOk X.prog X.w X.K X.mg X.base CX k f fd ps sp) (hr : Room k X.A) (hb : Binds X.K fd ps ds) (hd : Vals dvs ds) (hx : Passes CX X E) (ha : PA X (e :: es) t)
    (hst : starEach (e :: es) X.env = (false, eval e X.env) :: starEach es X.env := by rfl) (hpl : (backTo pos (starEach es X.env)).any (·.1) = false := by rfl)
    (ht : eval (.Call (.Attribute o m apos) (e :: es) [] pos) X.env = (do
      let ov ← eval o X.env
      standAt apos.atName
      let (f, first) ← holding [ov] (getMethod ov m pl)
      callWith pos f first (backTo pos (starEach (e :: es) X.env)) (backToKw pos (keywordEach [] X.env))) := by rfl) :
    PE X (.Call (.Attribute o m apos) (e :: es) [] pos) (tMeth C m sp dvs E ta t) := by
  intro pins s σ H Q I h
  refine PySem.W.methodCall_KW (pl := pl) (thn (he pins s σ H _ I h) fun u s1 ⟨x, H1, I1, rx, a, dx, fs, ex, ea, l, q⟩ => ?_) ht
  subst ex
  obtain rfl : u = Value.ref a := rx
  refine getmeth_ok I1 ea c hm l ?_
  refine PySem.W.callWith_K (first := [.ref a]) (h₀ := X.base) I.ok.mod.kin hm.kp (thn (ha pos pins s1 σ H1 _ I1 q) fun us s2 ⟨vs, H2, I2, r, q2⟩ => ⟨I2.kIn, ?_⟩) hst hpl
  exact run_fn (us := .ref a :: us) (vs := .ref a :: vs) F hr hb hd hx I2 (.cons rfl r) q2
theorem pe_meth0 {pl : Sem Bool} (he : PE X o ta) (c : Cls X.K C) (hm : Meth X.K C m f) (F : FnOk X.prog X.w X.K X.mg X.base CX k f fd ps sp) (hr : Room k X.A) (hb : Binds X.K fd ps ds) (hd : Vals dvs ds) (hx : Passes CX X E)
    (ht : eval (.Call (.Attribute o m apos) [] [] pos) X.env = (do
      let ov ← eval o X.env
      standAt apos.atName
      let (f, first) ← holding [ov] (getMethod ov m pl)
      callWith pos f first (backTo pos (starEach [] X.env)) (backToKw pos (keywordEach [] X.env))) := by rfl) :
    PE X (.Call (.Attribute o m apos) [] [] pos) (tMeth C m sp dvs E ta tNil) := by
  intro pins s σ H Q I h
  refine PySem.W.methodCall_KW (pl := pl) (thn (he pins s σ H _ I h) fun u s1 ⟨x, H1, I1, rx, a, dx, fs, ex, ea, l, q⟩ => ?_) ht
  subst ex
  obtain rfl : u = Value.ref a := rx
  refine getmeth_ok I1 ea c hm l ?_
  exact PySem.W.callWith_K0 (first := [.ref a]) I1.kIn hm.kp (run_fn (us := [.ref a]) (vs := [.ref a]) F hr hb hd hx I1 (.cons rfl .nil) q)

set_option genInjectivity false in
structure Mk (K : PySem.W.Frag) (C f : Addr) : Prop where
  makes : PySem.W.makesIn K C = true
  init : PySem.W.findIn K (.ref C) "__init__" = some (some (.ref f))
  fn : PySem.W.isFn K (.ref f) = true
  kp : PySem.W.keepIn K (.ref C) = true

theorem run_make {pins : List (Addr × Obj)} {σ : St} {H : Hp} {s : Shared} {Q : VK} {us : List Value} {vs : List V} (M : Mk X.K C f) (F : FnOk X.prog X.w X.K X.mg X.base CX k f fd ps sp) (hr : Room (k + 1) X.A) (hb : Binds X.K fd ps ds) (hd : Vals dvs ds)
    (hx : Passes CX X E) (I : Inv X pins σ H s) (r : Vals vs us)
    (h : ∀ x dx, H x = none → H dx = none → dx ≠ x → sp (.ref x :: (vs ++ dvs)) (upd (upd H dx (.own x)) x (.ins C dx [])) (fun v H2 => v = .non ∧ Q (.ref x) H2) E) :
    wpAny (model X.prog X.w) X.A (call (.ref C) us) (EP X pins σ Q) X.xe s := by
  have hq := h (s.heap.objs.size + 1) s.heap.objs.size (I.hok.fresh (Nat.le_succ _)) (I.hok.fresh (Nat.le_refl _)) (Nat.ne_of_lt (Nat.lt_succ_self _))
  have I2 := Inv.made (C := C) I
  have r2 : Vals (V.ref (s.heap.objs.size + 1) :: (vs ++ dvs)) (Value.ref (s.heap.objs.size + 1) :: (us ++ ds)) := .cons rfl (r.append hd)
  have hl : (Value.ref (s.heap.objs.size + 1) :: us ++ ds).length = ps.length := by
    have e := r2.length
    rw [F.len _ _ _ _ hq] at e
    exact e.symm
  refine wpAny_call (make_map (f := f) I.kIn M.makes M.init (beq_iff_eq.mp M.fn) (codeAny_mono (F.run _ X.stack _ _ ⟨Value.ref (s.heap.objs.size + 1) :: us, []⟩ (Value.ref (s.heap.objs.size + 1) :: (us ++ ds)) _ _ E (hr.make C us [])
    (I2.env0.make C us []) (hb _ (Value.ref (s.heap.objs.size + 1) :: us) I2.kIn hl) r2 hq) fun r s' hq' => ?_))
  cases r with
  | error e => exact hx pins σ _ _ e s' I2 hq'
  | ok fl =>
    cases fl with
    | ret u =>
      obtain ⟨v, H', I3, rv, ev, q3⟩ := I2.after hq'
      subst ev
      exact ⟨rv, ⟨V.ref (s.heap.objs.size + 1), H', I3, rfl, q3⟩⟩
    | next => exact False.elim hq'
    | brk => exact False.elim hq'
    | cont => exact False.elim hq'
theorem pe_make (M : Mk X.K C f) (F : FnOk X.prog X.w X.K X.mg X.base CX k f fd ps sp) (hr : Room (k + 1) X.A) (hg : Gl X x) (hm : X.mg x = some (.ref C)) (hb : Binds X.K fd ps ds) (hd : Vals dvs ds) (hx : Passes CX X E)
    (ha : PA X (e :: es) t) (hdb : (x == ("__debug__" : Str)) = false := by decide) (he : starEach (e :: es) X.env = (false, eval e X.env) :: starEach es X.env := by rfl) (hpl : (backTo pos (starEach es X.env)).any (·.1) = false := by rfl) :
    PE X (.Call (.Name x p) (e :: es) [] pos) (tMake C sp dvs E t) := by
  intro pins s σ H Q I h
  refine wpAny_Call_Name_kw (ld_glob I hg hm ?_ hdb)
  refine PySem.W.callWith_K (h₀ := X.base) I.ok.mod.kin M.kp (thn (ha pos pins s σ H _ I h) fun us s1 ⟨vs, H1, I1, r, q⟩ => ⟨I1.kIn, ?_⟩) he hpl
  exact run_make M F hr hb hd hx I1 r q
end

/-! ### keywords -/
section
variable {X : Cx} {CX : CXT} {k : Nat} {f C : Addr} {fd : FuncData} {ps ks : List Str} {sp : Sp} {E : XK} {x m : Str} {p pos apos kpos : Pos} {e o : Expr} {es : List Expr} {kws : List Keyword} {te ta : TE} {t tk : TA} {nm : Option Str}

variable {g : List Value → List Value → List Value} {gV : List V → List V → List V}
end

/-! ### a def's body keeps its promise -/
set_option genInjectivity false in
structure FnScope (N P : List Str) (sc : Scope) : Prop where
  kind : sc.kind = .function
  co : sc.isCoroutine = false
  gen : sc.isGenerator = false
  nd : N.Nodup
  pre : N.take P.length = P
  par : ∀ x ∈ P, sc.names.lookup x = some .local ∨ sc.names.lookup x = some .cell
  nofree : ∀ y ∈ sc.names, y.2 ≠ .free

theorem bindL_out {kindOf : Str → Option NameKind} {x : Str} : ∀ {binds : List (Str × Value)} {m : Str → Option Value}, (∀ v, (x, v) ∉ binds) → bindL kindOf binds m x = m x
  | [], _, _ => rfl
  | (n, v) :: r, m, h => by
    unfold bindL
    rw [bindL_out fun w hw => h w (List.mem_cons_of_mem _ hw)]
    split
    · have : x ≠ n := by rintro rfl; exact h v List.mem_cons_self
      simp [this]
    · rfl
theorem bindC_out {kindOf : Str → Option NameKind} {x : Str} : ∀ {binds : List (Str × Value)} {m : Str → Option Value}, (∀ v, (x, v) ∉ binds) → bindC kindOf binds m x = m x
  | [], _, _ => rfl
  | (n, v) :: r, m, h => by
    unfold bindC
    rw [bindC_out fun w hw => h w (List.mem_cons_of_mem _ hw)]
    split
    · rfl
    · have : x ≠ n := by rintro rfl; exact h v List.mem_cons_self
      simp [this]
theorem bindL_get {kindOf : Str → Option NameKind} {x : Str} {v : Value} : ∀ {P : List Str} {vs : List Value} {i : Nat} {m : Str → Option Value}, P.Nodup → P[i]? = some x → vs[i]? = some v → kindOf x = some .local →
    bindL kindOf (P.zip vs) m x = some v
  | [], _, _, _, _, h, _, _ => by simp at h
  | _ :: _, [], _, _, _, _, h, _ => by simp at h
  | p :: P, w :: vs, 0, m, nd, h1, h2, hk => by
    simp at h1 h2; subst h1; subst h2
    show bindL kindOf ((p, w) :: P.zip vs) m p = _
    unfold bindL
    rw [bindL_out fun v hv => (List.nodup_cons.mp nd).1 (List.of_mem_zip hv).1, if_pos hk]
    simp
  | p :: P, w :: vs, i + 1, m, nd, h1, h2, hk => by
    show bindL kindOf ((p, w) :: P.zip vs) m x = _
    unfold bindL
    exact bindL_get (i := i) (List.nodup_cons.mp nd).2 (by simpa using h1) (by simpa using h2) hk
theorem bindC_get {kindOf : Str → Option NameKind} {x : Str} {v : Value} : ∀ {P : List Str} {vs : List Value} {i : Nat} {m : Str → Option Value}, P.Nodup → P[i]? = some x → vs[i]? = some v → kindOf x ≠ some .local →
    bindC kindOf (P.zip vs) m x = some v
  | [], _, _, _, _, h, _, _ => by simp at h
  | _ :: _, [], _, _, _, _, h, _ => by simp at h
  | p :: P, w :: vs, 0, m, nd, h1, h2, hk => by
    simp at h1 h2; subst h1; subst h2
    show bindC kindOf ((p, w) :: P.zip vs) m p = _
    unfold bindC
    rw [bindC_out fun v hv => (List.nodup_cons.mp nd).1 (List.of_mem_zip hv).1, if_neg hk]
    simp
  | p :: P, w :: vs, i + 1, m, nd, h1, h2, hk => by
    show bindC kindOf ((p, w) :: P.zip vs) m x = _
    unfold bindC
    exact bindC_get (i := i) (List.nodup_cons.mp nd).2 (by simpa using h1) (by simpa using h2) hk

noncomputable def start (N : List Str) (vs : List V) : St := vs.map some ++ List.replicate (N.length - vs.length) none

noncomputable def cxOf (CX : CXT) (P : Program) (w : World) (K : PySem.W.Frag) (mg : Str → Option Value) (base : Heap) (N : List Str) (qual : Str) (scope : Scope) (f : Addr) (cd : Value) (A : Around) (outer : List Env) (s : Shared) (H : Hp) (E : XK) : Cx where
  prog := P
  w := w
  K := K
  mg := mg
  base := base
  A := A.deeper (envOfC qual scope s.heap.objs.size f cd)
  N := N
  s₀ := s
  H₀ := H
  env := envOfC qual scope s.heap.objs.size f cd
  outer := outer
  stack := envOfC qual scope s.heap.objs.size f cd :: outer
  ex := []
  calm := true
  fn := fun _ => true
  pn := []
  xe := fun e s' => wpAny (model P w) (A.deeper (envOfC qual scope s.heap.objs.size f cd)) (leaving (envOfC qual scope s.heap.objs.size f cd) e) (fun _ s'' => CX outer H s E e s'') (fun e' s'' => CX outer H s E e' s'') s'

theorem cell_has {sc : Scope} {n : Nat} {x : Str} (h : sc.names.lookup x = some .cell) : ∃ c, (cellsFrom n sc.names []).lookup x = some c := by
  have q := PySem.W.cellsFrom_some sc.names n [] (.inl h)
  exact Option.isSome_iff_exists.mp q

theorem inv_start {CX : CXT} {P : Program} {w : World} {K : PySem.W.Frag} {mg : Str → Option Value} {base : Heap} {N ps : List Str} {qual : Str} {scope : Scope} {f : Addr} {cd : Value} {A : Around} {outer : List Env} {s s1 : Shared} {H : Hp} {E : XK} {us : List Value} {vs : List V}
    (S : FnScope N ps scope) (hd : A.handled = none) (e0 : Env0 P w K mg base A outer s H) (hl : vs.length = ps.length) (r : Vals vs us)
    (x : InCallC s s.heap.objs.size (bindL (envOfC qual scope s.heap.objs.size f cd).kindOf (ps.zip us) fun _ => none) (cellsFrom (s.heap.objs.size + 1) scope.names []) (bindC (envOfC qual scope s.heap.objs.size f cd).kindOf (ps.zip us) fun _ => none) s1) :
    Inv (cxOf CX P w K mg base N qual scope f cd A outer s H E) [] (start N vs) H s1 := by
  have hpl : ps.length ≤ N.length := by have := congrArg List.length S.pre; rw [List.length_take] at this; omega
  obtain ⟨h1, tk, rfl, hk⟩ := x.done
  have noA : ∀ b : Addr, b ∉ (cxOf CX P w K mg base N qual scope f cd A outer s H E).ex := fun b z => absurd (show b ∈ ([] : List Addr) from z) (by simp)
  refine ⟨⟨e0.mod, S.kind, rfl, rfl, Nat.le_refl _, fun y z c h1 h2 => ?_, fun y hy => ?_, fun y c _ h => ?_, fun _ => hd, Around.frames_deeper e0.frames, .inr ⟨rfl, rfl⟩, fun b z => absurd z (noA b), e0.bs, e0.bsz, fun b _ _ => noA b, fun b z => absurd z (noA b), e0.funs, e0.frf⟩,
    rfl, e0.bare, Un.kept hk, ⟨_, x.toInCall.ns, fun i y v h1 h2 h3 => ?_⟩, fun y c h => ⟨_, x.cell y c h⟩, e0.hok.fresh (Nat.le_refl _), fun y c h => ?_, fun p hp => absurd (show p ∈ ([] : List (Addr × Obj)) from hp) (by simp), e0.hok.kept hk, ?_⟩
  · exact name_of_addr x.apart (PySem.mem_of_lookup h1) (PySem.mem_of_lookup h2)
  · have hy : scope.names.lookup y = some .cell ∨ scope.names.lookup y = some .free := hy
    rcases hy with hy | hy
    · exact cell_has hy
    · exact absurd rfl (S.nofree _ (PySem.mem_of_lookup hy))
  · exact Nat.le_of_lt (x.above y c (PySem.mem_of_lookup h))
  · have hi : i < vs.length := by
      unfold start at h2
      by_cases hi : i < vs.length
      · exact hi
      · rw [List.getElem?_append_right (by simpa using hi)] at h2
        rw [List.getElem?_replicate] at h2
        split at h2 <;> cases h2
    have ha : vs[i]? = some v := by
      unfold start at h2
      rw [List.getElem?_append_left (by simpa using hi), List.getElem?_map] at h2
      cases e : vs[i]? with
      | none => rw [e] at h2; cases h2
      | some a => rw [e] at h2; cases h2; rfl
    obtain ⟨u, hu, rv⟩ := r.get ha
    have hp : ps[i]? = some y := by
      rw [← S.pre, List.getElem?_take_of_lt (by omega)]; exact h1
    have ndP : ps.Nodup := by rw [← S.pre]; exact S.nd.sublist (List.take_sublist _ _)
    refine ⟨u, rv, ?_⟩
    rcases S.par y (List.mem_of_getElem? hp) with k | k
    · exact .inl ⟨k, bindL_get ndP hp hu k⟩
    · obtain ⟨c, e⟩ := cell_has (n := s.heap.objs.size + 1) k
      refine .inr ⟨.inl k, c, e, ?_⟩
      have q := x.cell y c e
      rw [bindC_get ndP hp hu (by show scope.names.lookup y ≠ _; rw [k]; decide)] at q
      exact q
  · exact e0.hok.fresh (Nat.le_of_lt (x.above y c (PySem.mem_of_lookup h)))
  · unfold start
    show _ = N.length
    rw [List.length_append, List.length_map, List.length_replicate]
    omega

theorem fn_of {CX : CXT} {P : Program} {w : World} {K : PySem.W.Frag} {mg : Str → Option Value} {base : Heap} {k : Nat} {f : Addr} {name qual : Str} {params : Arguments} {body : List Stmt} {scope : Scope} {dV kV doc pm cdv ct oc : Value} {an od : Option Addr}
    {osl : Array (Option Value)} {N ps : List Str} {sp : Sp} (lk : K.lookup f = some ⟨oc, od, .func (PySem.W.fnOf name qual params body scope dV kV doc pm an cdv ct), osl⟩) (hcd : PySem.W.codeIn K cdv qual = true) (S : FnScope N ps scope)
    (len : ∀ vs H Q E, sp vs H Q E → vs.length = ps.length)
    (hbody : ∀ (A : Around) (outer : List Env) (s : Shared) (H : Hp) (vs : List V) (Q : VK) (E : XK), Room k (A.deeper (envOfC qual scope s.heap.objs.size f cdv)) → sp vs H Q E →
      ∃ t, PSs (cxOf CX P w K mg base N qual scope f cdv A outer s H E) body t ∧ t { nx := fun _ H' => Q .non H', rt := Q } (start N vs) H) :
    FnOk P w K mg base CX (k + 1) f (PySem.W.fnOf name qual params body scope dV kV doc pm an cdv ct) ps sp := by
  refine ⟨len, fun A outer s H args us vs Q E hr e0 hb r hsp => ?_⟩
  have hl := len _ _ _ _ hsp
  have KX : K.In s.heap := e0.mod.kin.keeps fun b o e => (e0.bs b o e).1
  have lim : s.heap.NoLimit := e0.mod.nolimit.keeps fun b o e => (e0.bs b o e).1
  have hkind : ∀ y ∈ ps.zip us, scope.names.lookup y.1 = some .local ∨ (scope.names.lookup y.1 = some .cell ∧ ((cellsFrom (s.heap.objs.size + 1) scope.names []).lookup y.1).isSome = true) := fun ⟨n, v⟩ hy => by
    rcases S.par n (List.of_mem_zip hy).1 with q | q
    · exact .inl q
    · exact .inr ⟨q, PySem.W.cellsFrom_some _ _ _ (.inl q)⟩
  refine codeAny_call_function hr.depth (KX _ _ lk) rfl S.co S.gen rfl (PySem.W.codeRec_of KX hcd) (hb _ _ _ _ ?_)
  refine wpAny_newFunctionEnv_cells S.kind hkind fun env he s1 x => ?_
  subst he
  refine ⟨lim.keeps x.toInCall.keep, codeAny_func ?_⟩
  obtain ⟨t, ht, hq⟩ := hbody A outer s H vs Q E (hr.deeper _) hsp
  have I : Inv (cxOf CX P w K mg base N qual scope f cdv A outer s H E) [] (start N vs) H s1 := inv_start S hr.hd e0 hl r x
  refine wpAny_mono (ht [] s1 (start N vs) H _ I hq) (fun fl s' hs => ?_) fun e s' hs => hs
  have fin : ∀ {σ' : St} {H' : Hp} {v : V} {u : Value}, Inv (cxOf CX P w K mg base N qual scope f cdv A outer s H E) [] σ' H' s' → RelV v u → Q v H' → CE outer P w H s Q u s' :=
    fun {σ' H' v u} J rv q => ⟨v, H', J.os, J.bare, J.base, J.hok, rv, q⟩
  cases fl with
  | ret u =>
    obtain ⟨v, σ', H', J, rv, q⟩ := hs
    exact fin J rv q
  | next =>
    obtain ⟨σ', H', J, q⟩ := hs
    exact fin (v := V.non) (u := Value.none) J rfl q
  | brk =>
    obtain ⟨_, _, _, q⟩ := hs
    exact False.elim q
  | cont =>
    obtain ⟨_, _, _, q⟩ := hs
    exact False.elim q
end L2

namespace L2
open PySem PySem.Spec PyProof.Rows
section
variable {X : Cx} {x : Str} {p pos : Pos} {e : Expr} {es : List Expr} {t : TA} {id T : String} {r : List V → Hp → VK → Prop}

noncomputable def tCB (r : List V → Hp → VK → Prop) (t : TA) : TE := fun σ H Q => t σ H fun vs H1 => r vs H1 Q
theorem pe_callB (hc : CallR X (.builtin id) r) (hg : Gl X x) (hm : X.mg x = none) (hv : bootBuiltins x = some (.builtin id)) (ha : PA X (e :: es) t) (hn : x ≠ "__name__" := by decide) (hdb : (x == ("__debug__" : Str)) = false := by decide)
    (he : starEach (e :: es) X.env = (false, eval e X.env) :: starEach es X.env := by rfl) (hpl : (backTo pos (starEach es X.env)).any (·.1) = false := by rfl) : PE X (.Call (.Name x p) (e :: es) [] pos) (tCB r t) := by
  intro pins s σ H Q I h
  refine wpAny_Call_Name_kw (ld_blt I hg hm hv ?_ hn hdb)
  exact PyProof.Rows.callWith_builtin1 (thn (ha pos pins s σ H _ I h) fun us s1 ⟨vs, H1, I1, r1, q1⟩ => hc pins s1 σ H1 vs us Q I1 r1 q1) he hpl
theorem pe_callTy (hc : CallR X (.type T) r) (hg : Gl X x) (hm : X.mg x = none) (hv : bootBuiltins x = some (.type T)) (ha : PA X (e :: es) t) (hn : x ≠ "__name__" := by decide) (hdb : (x == ("__debug__" : Str)) = false := by decide)
    (he : starEach (e :: es) X.env = (false, eval e X.env) :: starEach es X.env := by rfl) (hpl : (backTo pos (starEach es X.env)).any (·.1) = false := by rfl) : PE X (.Call (.Name x p) (e :: es) [] pos) (tCB r t) := by
  intro pins s σ H Q I h
  refine wpAny_Call_Name_kw (ld_blt I hg hm hv ?_ hn hdb)
  exact PyProof.Rows.callWith_type1 (thn (ha pos pins s σ H _ I h) fun us s1 ⟨vs, H1, I1, r1, q1⟩ => hc pins s1 σ H1 vs us Q I1 r1 q1) he hpl
end
end L2

namespace HT
open PySem PyProof.Rows



section
open PySem.SeqAt
open PySem.AutoSeq1 (wpAny_loadPart')
open PySem.MeetsSeq PySem.MeetsSeq2 PySem.MeetsSeq3

end

section
variable {prog : Program} {w : World} {A : Around} {E : Value → Shared → Prop} {s : Shared}



/-! ### t[a:b], not the whole -/
noncomputable def sIx (n d : Nat) : Option Int → Nat
  | none => d
  | some v => if v < 0 then (v + (n : Int)).toNat else min v.toNat n

end
end HT

namespace L2
open PySem PySem.Spec PyProof.Rows

/-! ### the parts of a slice -/
noncomputable abbrev TO := St → Hp → (Option Int → Hp → Prop) → Prop
noncomputable def PO (X : Cx) (e : Option Expr) (t : TO) : Prop :=
  ∀ (pins : List (Addr × Obj)) (s : Shared) (σ : St) (H : Hp) (Q : Option Int → Hp → Prop), Inv X pins σ H s → t σ H Q →
    wpAny (model X.prog X.w) X.A (evalPart e X.env) (fun u s' => ∃ o H', Inv X pins σ H' s' ∧ IsPart u o ∧ Q o H') X.xe s
noncomputable def tNoPart : TO := fun _ H Q => Q none H
noncomputable def tPart (t : TE) : TO := fun σ H Q => t σ H fun x H1 => ∃ i, x = .int i ∧ Q (some i) H1


section
variable {X : Cx} {e : Expr} {te : TE} {lo hi : Option Expr} {tl th : TO} {pos p2 : Pos}

theorem po_some (h : PE X e te) : PO X (some e) (tPart te) := by
  intro pins s σ H Q I hw
  rw [evalPart_some]
  refine thn (h pins s σ H _ I hw) fun u s1 ⟨x, H1, I1, r1, q1⟩ => ?_
  obtain ⟨i, rfl, q⟩ := q1
  obtain ⟨t, rfl⟩ := r1
  exact ⟨some i, H1, I1, .int i t, q⟩

noncomputable def SlR (X : Cx) (r : V → Option Int → Option Int → Hp → VK → Prop) : Prop :=
  ∀ (pins : List (Addr × Obj)) (s : Shared) (σ : St) (H : Hp) (x : V) (v vl vu : Value) (lo hi : Option Int) (sl : Addr) (Q : VK), Inv X pins σ H s → RelV x v → s.heap.IsSliceOf sl vl vu .none → IsPart vl lo → IsPart vu hi → r x lo hi H Q →
    ∃ T id, typeLookup (.type T) "__getitem__" = pure (some (.builtin id)) ∧ s.TypeIs v T ∧ wpAny (model X.prog X.w) X.A (getItem v (.ref sl)) (EP X pins σ Q) X.xe s
noncomputable def tSl (r : V → Option Int → Option Int → Hp → VK → Prop) (te : TE) (tl th : TO) : TE := fun σ H Q => te σ H fun x H1 => tl σ H1 fun l H2 => th σ H2 fun u H3 => r x l u H3 Q
theorem pe_slice {r : V → Option Int → Option Int → Hp → VK → Prop} (hr : SlR X r) (he : PE X e te) (hl : PO X lo tl) (hu : PO X hi th) : PE X (.Subscript e (.Slice lo hi none p2) pos) (tSl r te tl th) := by
  intro pins s σ H Q I h
  refine Subscript_ (thn (he pins s σ H _ I h) fun v s1 ⟨x, H1, I1, r1, q1⟩ => ?_)
  refine wpAny_Slice (thn (hl pins s1 σ H1 _ I1 q1) fun vl s2 ⟨l, H2, I2, pl, q2⟩ => thn (hu pins s2 σ H2 _ I2 q2) fun vu s3 ⟨u, H3, I3, pu, q3⟩ => ?_)
  rw [evalPart_none]
  refine wpAny_pure ?_
  have I4 : Inv X pins σ H3 { s3 with heap := s3.heap.push { cls := .type "slice", data := .fields #[vl, vu, .none] } } := I3.kept (t' := s3.toks) fun b ob q => Heap.get?_push_of_some _ q
  obtain ⟨T, id, hT, ht, hg⟩ := hr pins { s3 with heap := s3.heap.push { cls := .type "slice", data := .fields #[vl, vu, .none] } } σ H3 x v vl vu l u s3.heap.objs.size Q I4 r1 (Heap.IsSliceOf.new ..) pl pu q3
  show wpAny (model X.prog X.w) X.A (subscriptTail e (.Slice lo hi none p2) v (.ref s3.heap.objs.size)) (EP X pins σ Q) X.xe { s3 with heap := s3.heap.push { cls := .type "slice", data := .fields #[vl, vu, .none] } }
  exact tail_any (ops := [.ref s3.heap.objs.size, v]) ht hT hg (by with_unfolding_all rfl)

noncomputable def cutV (xs : List V) (lo hi : Option Int) : List V := (xs.drop (HT.sIx xs.length 0 lo)).take (HT.sIx xs.length xs.length hi - HT.sIx xs.length 0 lo)
theorem cutV_length (xs : List V) (lo hi : Option Int) : (cutV xs lo hi).length ≤ xs.length := by
  unfold cutV
  rw [List.length_take, List.length_drop]
  omega

/-! ### t < u, t + u -/
noncomputable def rCatT (K : PySem.W.Frag) : R2 := fun x y H Q => ∃ a b xs ys, x = .ref a ∧ y = .ref b ∧ SqT K H a xs ∧ SqT K H b ys ∧ xs ≠ [] ∧ xs.length + ys.length ≤ sizeLine ∧
  (ys = [] → Q (.ref a) H) ∧ (ys ≠ [] → ∀ p, H p = none → Q (.ref p) (upd H p (.tup (xs ++ ys))))
end
end L2

namespace L2
open PySem PySem.Spec PyProof.Rows

/-! ### places -/
noncomputable def ixN (n : Nat) (i : Int) : Option Nat := if 0 ≤ i then (if i < n then some i.toNat else none) else if -(n : Int) ≤ i then some (i + n).toNat else none
noncomputable def atI {α : Type} (xs : List α) (i : Int) : Option α := (ixN xs.length i).bind fun j => xs[j]?
theorem ixN_seq {n : Nat} {i : Int} {j : Nat} (h : ixN n i = some j) : seqIndex? i n = some j ∧ j < n ∧ -(n : Int) ≤ i ∧ i < n := by
  unfold ixN at h
  by_cases h0 : 0 ≤ i
  · rw [if_pos h0] at h
    by_cases h1 : i < n
    · rw [if_pos h1] at h
      have e : i.toNat = j := Option.some.inj h
      exact ⟨by rw [seqIndex_of h0 h1, e], by omega, by omega, h1⟩
    · rw [if_neg h1] at h; cases h
  · rw [if_neg h0] at h
    by_cases h1 : -(n : Int) ≤ i
    · rw [if_pos h1] at h
      have e : (i + n).toNat = j := Option.some.inj h
      exact ⟨by rw [seqIndex_neg (by omega) h1, e], by omega, h1, by omega⟩
    · rw [if_neg h1] at h; cases h
theorem atI_get {α : Type} {xs : List α} {i : Int} {v : α} (h : atI xs i = some v) : ∃ j, seqIndex? i xs.length = some j ∧ xs[j]? = some v ∧ j < xs.length ∧ -(xs.length : Int) ≤ i ∧ i < xs.length := by
  unfold atI at h
  cases e : ixN xs.length i with
  | none => rw [e] at h; cases h
  | some j =>
    rw [e] at h
    obtain ⟨h1, h2, h3, h4⟩ := ixN_seq e
    exact ⟨j, h1, h, h2, h3, h4⟩
theorem atI_nat {α : Type} {xs : List α} {j : Nat} {v : α} (h : xs[j]? = some v) : atI xs (j : Int) = some v := by
  have hj : j < xs.length := (List.getElem?_eq_some_iff.mp h).1
  have e : ixN xs.length (j : Int) = some j := by
    unfold ixN
    rw [if_pos (by omega), if_pos (by omega)]; simp
  unfold atI; rw [e]; exact h

/-! ### what may be subscripted -/
noncomputable def PlainIx (b : Expr) : Prop := ∀ o i, subscripted b false o i = operate [o, i] (getItem o i)
noncomputable def IxR (X : Cx) (r : R2) : Prop :=
  ∀ (value slice : Expr) (pins : List (Addr × Obj)) (s : Shared) (σ : St) (H : Hp) (x y : V) (v u : Value) (Q : VK), Inv X pins σ H s → RelV x v → RelV y u → r x y H Q →
    subscripted slice false v u = operate [v, u] (getItem v u) → wpAny (model X.prog X.w) X.A (subscriptTail value slice v u) (EP X pins σ Q) X.xe s
noncomputable def MtR (X : Cx) (id : String) (r : V → List V → Hp → VK → Prop) : Prop :=
  ∀ (pins : List (Addr × Obj)) (s : Shared) (σ : St) (H : Hp) (x : V) (xs : List V) (v : Value) (us : List Value) (Q : VK), Inv X pins σ H s → RelV x v → Vals xs us → r x xs H Q →
    wpAny (model X.prog X.w) X.A (call (.builtin id) (v :: us)) (EP X pins σ Q) X.xe s
section
variable {X : Cx} {a b : Expr} {ta tb : TE} {pos : Pos}
theorem pe_ix {r : R2} (hr : IxR X r) (ha : PE X a ta) (hb : PE X b tb) (hs : PlainIx b) : PE X (.Subscript a b pos) (tOp r ta tb) := by
  intro pins s σ H Q I h
  exact Subscript_ (binT ha hb I h fun v u s2 x y H2 I2 rx ry q => hr a b pins s2 σ H2 x y v u Q I2 rx ry q (hs _ _))

noncomputable def rIxL (K : PySem.W.Frag) : R2 := fun x y H Q => ∃ p xs i v, x = .ref p ∧ y = .int i ∧ SqL K H p xs ∧ atI xs i = some v ∧ Q v H
noncomputable def rIxT (K : PySem.W.Frag) : R2 := fun x y H Q => ∃ p xs i v, x = .ref p ∧ y = .int i ∧ SqT K H p xs ∧ atI xs i = some v ∧ Q v H
noncomputable def rIxS : R2 := fun x y H Q => ∃ z i c, x = .str z ∧ y = .int i ∧ z.length ≤ sizeLine ∧ atI z.cps.toList i = some c ∧ Q (.str ⟨#[c]⟩) H
theorem ix_list : IxR X (rIxL X.K) := by
  intro value slice pins s σ H x y v u Q I rx ry h hs
  obtain ⟨p, xs, i, z, rfl, rfl, hq, he, q⟩ := h
  cases rx
  obtain ⟨t, rfl⟩ := ry
  obtain ⟨its, r, pl, hz⟩ := I.list hq
  obtain ⟨j, h1, h2, h3, h4, h5⟩ := atI_get he
  obtain ⟨w, ew, rw'⟩ := r.get h2
  have hl := r.length
  have hn := line63
  have fin : EP X pins σ Q w s := ⟨z, H, I, rw', q⟩
  by_cases h0 : 0 ≤ i
  · have hj : i.toNat = j := by
      rw [seqIndex_of h0 h5] at h1
      exact Option.some.inj h1
    exact item_listR pl.isList h0 (by omega) (by rw [hj]; simpa using ew) fin hs
  · have hj : (i + (its.toArray.size : Int)).toNat = j := by
      rw [seqIndex_neg (by omega) h4] at h1
      rw [List.size_toArray, ← hl]
      exact Option.some.inj h1
    exact subscriptTail_builtinR (x := w) pl.isList.typeIs slot_list_getitem.lookup
      (wpAny_getItem_list_neg (Q := fun r s' => r = w ∧ EP X pins σ Q r s') pl.isList (by omega) (by rw [List.size_toArray] <;> omega) (by omega) (by rw [hj]; simpa using ew) ⟨rfl, fin⟩) hs
theorem ix_tup : IxR X (rIxT X.K) := by
  intro value slice pins s σ H x y v u Q I rx ry h hs
  obtain ⟨p, xs, i, z, rfl, rfl, hq, he, q⟩ := h
  cases rx
  obtain ⟨t, rfl⟩ := ry
  obtain ⟨its, r, pl, hz⟩ := I.tuple hq
  obtain ⟨j, h1, h2, h3, h4, h5⟩ := atI_get he
  obtain ⟨w, ew, rw'⟩ := r.get h2
  have hl := r.length
  have hn := line63
  have fin : EP X pins σ Q w s := ⟨z, H, I, rw', q⟩
  exact subscriptTail_builtinR (x := w) pl.typeIs slot_tuple_getitem.lookup
    (getItem_tuple (j := j) (Q := fun r s' => r = w ∧ EP X pins σ Q r s') pl (by omega) (by omega) (by rw [List.size_toArray, ← hl]; exact h1) (by simpa using ew) ⟨rfl, fin⟩) hs

/-! ### xs[i] = v, any sign -/
theorem mapSeq_set (its : List Value) (n j : Nat) (u : Value) : Obj.mapSeq (·.setIfInBounds j u) { cls := .type "list", data := .seq its.toArray n } = { cls := .type "list", data := .seq (its.set j u).toArray n } := by
  simp [Obj.mapSeq]
theorem Inv.lst {pins : List (Addr × Obj)} {σ : St} {H : Hp} {s : Shared} {p : Addr} {xs : List V} (I : Inv X pins σ H s) (h : H p = some (.lst xs)) :
    ∃ (its : List Value) (n : Nat), Vals xs its ∧ s.heap.get? p = some { cls := .type "list", data := .seq its.toArray n } ∧ xs.length ≤ sizeLine := by
  obtain ⟨z, its, n, r, e⟩ := I.hok p _ h
  exact ⟨its, n, r, e, z⟩
theorem Inv.lstUpd {pins : List (Addr × Obj)} {σ : St} {H : Hp} {s : Shared} {p : Addr} {xs ys : List V} {its its' : List Value} {n n' : Nat} {f : Obj → Obj} (I : Inv X pins σ H s) (h : H p = some (.lst xs))
    (ho : s.heap.get? p = some { cls := .type "list", data := .seq its.toArray n }) (hf : f { cls := .type "list", data := .seq its.toArray n } = { cls := .type "list", data := .seq its'.toArray n' }) (r : Vals ys its') (hz : ys.length ≤ sizeLine) (t : Nat) :
    Inv X pins σ (upd H p (.lst ys)) { s with heap := s.heap.update p f, toks := t } := by
  have e : (s.heap.update p f).get? p = some { cls := .type "list", data := .seq its'.toArray n' } := by
    rw [Heap.get?_update_self f ho (by rw [hf] <;> rfl), hf]
  refine I.write (x := p) (e := p) (by rw [h]; trivial) (.inl rfl) (fun b u hb q => (Heap.get?_update_other _ _ (Ne.symm hb)).trans q) ⟨_, e⟩ ?_
  exact ⟨hz, its', n', r, e⟩
noncomputable def rSetL : V → V → V → Hp → (Hp → Prop) → Prop := fun o i v H Q => ∃ p xs k j, o = .ref p ∧ i = .int k ∧ H p = some (.lst xs) ∧ ixN xs.length k = some j ∧ Q (upd H p (.lst (xs.set j v)))
theorem set_list : PSet X rSetL := by
  intro pins s σ H o i v ov iv u Q I ro ri rv h
  obtain ⟨p, xs, k, j, rfl, rfl, hp, hj, q⟩ := h
  cases ro
  obtain ⟨t, rfl⟩ := ri
  obtain ⟨its, n, r, ho, hz⟩ := I.lst hp
  obtain ⟨h1, h2, h3, h4⟩ := ixN_seq hj
  have hl := r.length
  have hn := line63
  have I' : Inv X pins σ (upd H p (.lst (xs.set j v))) { s with heap := s.heap.update p (Obj.mapSeq (·.setIfInBounds j u)) } :=
    I.lstUpd hp ho (mapSeq_set its n j u) (r.set rv j) (by rw [List.length_set]; exact hz) s.toks
  by_cases h0 : 0 ≤ k
  · have hk : k.toNat = j := by
      rw [seqIndex_of h0 h4] at h1
      exact Option.some.inj h1
    exact PySem.W.ki_setAt ho h0 (by omega) (by rw [List.size_toArray, ← hl]; exact h4) (by rw [hk]; exact ⟨_, I', q⟩)
  · have hk : (k + (its.toArray.size : Int)).toNat = j := by
      rw [seqIndex_neg (by omega) h3] at h1
      rw [List.size_toArray, ← hl]
      exact Option.some.inj h1
    exact PySem.W.ki_setBack ho (by omega) (by rw [List.size_toArray, ← hl]; exact h3) (by omega) (by rw [hk]; exact ⟨_, I', q⟩)

/-! ### slices -/
theorem slice_bounds (lo hi : Option Int) (n : Nat) : (sliceBounds lo hi none n).1 = ((HT.sIx n 0 lo : Nat) : Int) ∧ (sliceBounds lo hi none n).2.1 = ((HT.sIx n n hi : Nat) : Int) ∧ (sliceBounds lo hi none n).2.2 = 1 := by
  refine ⟨?_, ?_, rfl⟩
  · cases lo with
    | none => simp [sliceBounds, HT.sIx]
    | some i =>
      simp only [sliceBounds, HT.sIx, Option.getD_none, show (1 : Int) > 0 by decide, if_true]
      by_cases h : i < 0
      · simp only [h, if_true] <;> omega
      · simp only [h, if_false] <;> omega
  · cases hi with
    | none => simp [sliceBounds, HT.sIx]
    | some i =>
      simp only [sliceBounds, HT.sIx, Option.getD_none, show (1 : Int) > 0 by decide, if_true]
      by_cases h : i < 0
      · simp only [h, if_true] <;> omega
      · simp only [h, if_false] <;> omega
theorem slicePick_cut (its : List Value) (lo hi : Option Int) : slicePick its.toArray lo hi none = ((its.drop (HT.sIx its.length 0 lo)).take (HT.sIx its.length its.length hi - HT.sIx its.length 0 lo)).toArray := by
  obtain ⟨h1, h2, h3⟩ := slice_bounds lo hi its.toArray.size
  unfold slicePick
  rw [h1, h2, h3]
  simp only [sliceRange_one, pick_run, List.size_toArray] <;> rfl
noncomputable def rSlL (K : PySem.W.Frag) : V → Option Int → Option Int → Hp → VK → Prop := fun x lo hi H Q => ∃ a xs, x = .ref a ∧ SqL K H a xs ∧ ∀ p, H p = none → Q (.ref p) (upd H p (.lst (cutV xs lo hi)))
theorem sl_list : SlR X (rSlL X.K) := by
  intro pins s σ H x v vl vu lo hi sl Q I rx hs pl pu h
  obtain ⟨a, xs, rfl, hx, q⟩ := h
  cases rx
  obtain ⟨its, r, ht, hz⟩ := I.list hx
  have hlen := r.length
  refine ⟨"list", _, slot_list_getitem.lookup, ht.isList.typeIs, ?_⟩
  refine wpAny_getItem_list_slice ht.isList hs pl pu .none (by simp) ?_ (by rw [List.size_toArray] <;> omega)
  rw [slicePick_cut, ← hlen]
  refine ⟨.ref s.heap.objs.size, _, I.laid (t' := s.toks) (o := .lst (cutV xs lo hi)) (fun b ob q => Heap.get?_push_of_some _ q) (Nat.le_refl _) ?_, rfl, q _ (I.hok.fresh (Nat.le_refl _))⟩
  exact ⟨Nat.le_trans (cutV_length xs lo hi) hz, _, 0, (r.drop (HT.sIx xs.length 0 lo)).take (HT.sIx xs.length xs.length hi - HT.sIx xs.length 0 lo), Heap.get?_push_size _ rfl⟩

/-! ### in, not in: flat items -/
noncomputable def flatV : V → Bool
  | .non => true
  | .bl _ => true
  | .int _ => true
  | .str _ => true
  | _ => false
noncomputable def eqV : V → V → Bool
  | .non, .non => true
  | .bl a, .bl b => a == b
  | .bl a, .int b => (if a then 1 else 0) == b
  | .int a, .bl b => a == (if b then 1 else 0)
  | .int a, .int b => a == b
  | .str a, .str b => a == b
  | _, _ => false
theorem eqAt_V {A : Around} {s : Shared} {y x : V} {u v : Value} (ry : RelV y u) (rx : RelV x v) (fy : flatV y = true) (fx : flatV x = true) : SeqAt.EqAt A s u v (eqV y x) := by
  cases y with
  | non =>
    cases ry
    cases x with
    | non => cases rx; exact SeqAt.EqAt.same _
    | bl b => cases rx; exact SeqAt.EqAt.none_bool b
    | int b => obtain ⟨t, rfl⟩ := rx; exact SeqAt.EqAt.none_int b t
    | str b => obtain ⟨t, rfl⟩ := rx; exact SeqAt.EqAt.none_str b t
    | _ => exact absurd (show false = true from fx) Bool.false_ne_true
  | bl a =>
    cases ry
    cases x with
    | non => cases rx; exact SeqAt.EqAt.bool_none a
    | bl b => cases rx; exact SeqAt.EqAt.bool_bool a b
    | int b => obtain ⟨t, rfl⟩ := rx; exact SeqAt.EqAt.bool_int a b t
    | str b => obtain ⟨t, rfl⟩ := rx; exact SeqAt.EqAt.bool_str a b t
    | _ => exact absurd (show false = true from fx) Bool.false_ne_true
  | int a =>
    obtain ⟨t', rfl⟩ := ry
    cases x with
    | non => cases rx; exact SeqAt.EqAt.int_none a t'
    | bl b => cases rx; exact SeqAt.EqAt.int_bool a t' b
    | int b => obtain ⟨t, rfl⟩ := rx; exact SeqAt.EqAt.int_int a t' b t
    | str b => obtain ⟨t, rfl⟩ := rx; exact SeqAt.EqAt.int_str a t' b t
    | _ => exact absurd (show false = true from fx) Bool.false_ne_true
  | str a =>
    obtain ⟨t', rfl⟩ := ry
    cases x with
    | non => cases rx; exact SeqAt.EqAt.str_none a t'
    | bl b => cases rx; exact SeqAt.EqAt.str_bool a t' b
    | int b => obtain ⟨t, rfl⟩ := rx; exact SeqAt.EqAt.str_int a t' b t
    | str b => obtain ⟨t, rfl⟩ := rx; exact SeqAt.EqAt.str_str a t' b t
    | _ => exact absurd (show false = true from fx) Bool.false_ne_true
  | _ => exact absurd (show false = true from fy) Bool.false_ne_true
noncomputable def eqU (x : V) (u : Value) : Bool := match u with
  | .none => eqV .non x
  | .bool b => eqV (.bl b) x
  | .int i _ => eqV (.int i) x
  | .str z _ => eqV (.str z) x
  | _ => false
theorem eqU_of {x y : V} {u : Value} (r : RelV y u) (f : flatV y = true) : eqU x u = eqV y x := by
  cases y with
  | non => cases r; rfl
  | bl b => cases r; rfl
  | int i => obtain ⟨t, rfl⟩ := r; rfl
  | str z => obtain ⟨t, rfl⟩ := r; rfl
  | _ => exact absurd (show false = true from f) Bool.false_ne_true
theorem any_eqU {x : V} : ∀ {xs : List V} {us : List Value}, Vals xs us → xs.all flatV = true → us.any (eqU x) = xs.any fun y => eqV y x
  | _, _, .nil, _ => rfl
  | y :: xs, u :: us, .cons r t, f => by
    rw [List.all_cons, Bool.and_eq_true] at f
    rw [List.any_cons, List.any_cons, eqU_of r f.1, any_eqU t f.2]
theorem mem_eqAt {A : Around} {s : Shared} {x : V} {v : Value} (rx : RelV x v) (fx : flatV x = true) : ∀ {xs : List V} {us : List Value}, Vals xs us → xs.all flatV = true → ∀ u ∈ us, SeqAt.EqAt A s u v (eqU x u)
  | _, _, .nil, _ => fun u hu => by cases hu
  | y :: xs, u :: us, .cons r t, f => fun u' hu => by
    rw [List.all_cons, Bool.and_eq_true] at f
    rcases List.mem_cons.mp hu with rfl | hu
    · rw [eqU_of r f.1]; exact eqAt_V r rx f.1 fx
    · exact mem_eqAt rx fx t f.2 u' hu
noncomputable def inV (x : V) (xs : List V) : Bool := xs.any fun y => eqV y x
noncomputable def rIn (K : PySem.W.Frag) (neg : Bool) : R2 := fun x y H Q => ∃ p xs, y = .ref p ∧ (SqL K H p xs ∨ SqT K H p xs) ∧ flatV x = true ∧ xs.all flatV = true ∧ Q (.bl (if neg then !inV x xs else inV x xs)) H
theorem op_in_seq : OpR X (compareOp .In) (rIn X.K false) := by
  intro pins s σ H x y v u Q I rx ry h
  obtain ⟨p, xs, rfl, hq, fx, fs, q⟩ := h
  cases ry
  rcases hq with hq | hq
  · obtain ⟨its, r, pl, hz⟩ := I.list hq
    refine SeqAt.in_listAt (eqU x) pl.isList (fun w hw => mem_eqAt rx fx r fs w (by simpa using hw)) ⟨.bl _, H, I, rfl, ?_⟩
    rw [show its.toArray.any (eqU x) = its.any (eqU x) by simp, any_eqU r fs]
    exact q
  · obtain ⟨its, r, pl, hz⟩ := I.tuple hq
    refine SeqAt.in_tupleAt (eqU x) pl (fun w hw => mem_eqAt rx fx r fs w (by simpa using hw)) ⟨.bl _, H, I, rfl, ?_⟩
    rw [show its.toArray.any (eqU x) = its.any (eqU x) by simp, any_eqU r fs]
    exact q

/-! ### len, list(x), tuple(x) of any list or tuple that is read -/
theorem call_list_of : CallR X (.type "list") (fun xs H Q => ∃ p ys, xs = [.ref p] ∧ (SqL X.K H p ys ∨ SqT X.K H p ys) ∧ ∀ l, H l = none → Q (.ref l) (upd H l (.lst ys))) := by
  intro pins s σ H xs us Q I r h
  obtain ⟨p, ys, rfl, hq, q⟩ := h
  obtain ⟨u, rfl, rx⟩ := vals1 r
  cases rx
  have fin : ∀ (its : List Value), Vals ys its → ys.length ≤ sizeLine → ∀ (h' : Heap) (c' : Nat), (∀ b o', s.heap.get? b = some o' → h'.get? b = some o') →
      h'.get? s.heap.objs.size = some { cls := .type "list", dict := none, data := .seq its.toArray c', slots := #[] } → EP X pins σ Q (.ref s.heap.objs.size) { s with heap := h' } := fun its r' hz h' c' kp e =>
    ⟨.ref s.heap.objs.size, _, I.laid (t' := s.toks) kp (Nat.le_refl _) (show ObjOk X.prog X.w _ h' _ (.lst ys) from ⟨hz, its, c', r', e⟩), rfl, q _ (I.hok.fresh (Nat.le_refl _))⟩
  rcases hq with hq | hq
  · obtain ⟨its, r', pl, hz⟩ := I.list hq
    have hlen := r'.length
    obtain ⟨o, ho, hc, n, hd⟩ := pl.isList
    exact call_list_seq p (.inl rfl) ho hc hd (fun h' c' kp e => fin its r' hz h' c' kp e) (by simp only [List.size_toArray] <;> omega)
  · obtain ⟨its, r', pl, hz⟩ := I.tuple hq
    have hlen := r'.length
    obtain ⟨o, ho, hc, n, hd⟩ := pl
    exact call_list_seq p (.inr rfl) ho hc hd (fun h' c' kp e => fin its r' hz h' c' kp e) (by simp only [List.size_toArray] <;> omega)

/-! ### the call of a builtin's method: o.m(..) -/
noncomputable def tyV (K : PySem.W.Frag) (T : String) (x : V) (H : Hp) : Prop := match x with
  | .str _ => T = "str"
  | .int _ => T = "int"
  | .ref p => (T = "list" ∧ ∃ xs, SqL K H p xs) ∨ (T = "tuple" ∧ ∃ o, K.lookup p = some o ∧ o.cls = .type "tuple" ∧ o.dict = none) ∨
      (T = "dict" ∧ ((∃ kvs, H p = some (.dK kvs)) ∨ ∃ kvs, H p = some (.dT kvs))) ∨ (T = "set" ∧ ∃ S n, H p = some (.set S n))
  | _ => False
theorem tyV_is {pins : List (Addr × Obj)} {σ : St} {H : Hp} {s : Shared} {T : String} {x : V} {v : Value} (I : Inv X pins σ H s) (r : RelV x v) (ty : tyV X.K T x H) :
    s.TypeIs v T ∧ ∀ a, v = .ref a → ∃ ob, s.heap.get? a = some ob ∧ ob.dict = none := by
  cases x with
  | str z =>
    obtain ⟨t, rfl⟩ := r
    cases (show T = "str" from ty)
    exact ⟨typeIs_str s z t, fun _ e => nomatch e⟩
  | int i =>
    obtain ⟨t, rfl⟩ := r
    cases (show T = "int" from ty)
    exact ⟨typeIs_int s i t, fun _ e => nomatch e⟩
  | ref p =>
    cases r
    rcases ty with ⟨rfl, xs, hq⟩ | ⟨rfl, o, hk, hc, hd⟩ | ⟨rfl, hk⟩ | ⟨rfl, S, n, hk⟩
    · obtain ⟨its, _, pl, _⟩ := I.list hq
      refine ⟨pl.isList.typeIs, fun a e => ?_⟩
      cases e
      obtain ⟨o, n, e, c, hd, _⟩ := pl
      exact ⟨o, e, hd⟩
    · refine ⟨⟨o, I.kIn p o hk, hc⟩, fun a e => ?_⟩
      cases e
      exact ⟨o, I.kIn _ o hk, hd⟩
    · have z : ∃ o, s.heap.get? p = some o ∧ o.ExactDict := by
        rcases hk with ⟨kvs, hk⟩ | ⟨kvs, hk⟩
        · obtain ⟨_, _, _, _, o, _, _, e, ex, _⟩ := I.hok p _ hk
          exact ⟨o, e, ex⟩
        · obtain ⟨_, _, _, _, o, _, _, e, ex, _⟩ := I.hok p _ hk
          exact ⟨o, e, ex⟩
      obtain ⟨o, e, ex⟩ := z
      refine ⟨⟨o, e, ex.1⟩, fun a e2 => ?_⟩
      cases e2
      exact ⟨o, e, ex.2.1⟩
    · obtain ⟨o, _, _, _, e, ex, _⟩ := I.hok p _ hk
      refine ⟨⟨o, e, ex.1⟩, fun a e2 => ?_⟩
      cases e2
      exact ⟨o, e, ex.2.1⟩
  | _ => exact False.elim ty
noncomputable def tBM (K : PySem.W.Frag) (T : String) (r : V → List V → Hp → VK → Prop) (to : TE) (t : TA) : TE := fun σ H Q => to σ H fun x H1 => tyV K T x H1 ∧ t σ H1 fun xs H2 => r x xs H2 Q
variable {o e : Expr} {es : List Expr} {to : TE} {t : TA} {name : Str} {apos cpos : Pos} {T id : String} {r : V → List V → Hp → VK → Prop}
theorem pe_bm (pa : PlainAttrs T) (slot : Slot T name id) (hty : typeOf (.builtin id) = pure (.type "method_descriptor")) (hm : MtR X id r) (ho : PE X o to) (ha : PA X (e :: es) t)
    (hbase : attributeBase o name X.env (eval o X.env) = eval o X.env := by rfl)
    (hfew : ((backTo cpos (starEach (e :: es) X.env)).all (fun x => !x.1) && (backToKw cpos (keywordEach [] X.env)).all (fun x => x.1.isSome)
      && decide ((e :: es).length + ([] : List Keyword).length + (if ([] : List Keyword).isEmpty then 0 else 1) < 30)) = true := by rfl)
    (hline : (apos.endLine == cpos.line) = true := by rfl) (hs : starEach (e :: es) X.env = (false, eval e X.env) :: starEach es X.env := by rfl) (hplain : (backTo cpos (starEach es X.env)).any (·.1) = false := by rfl) :
    PE X (.Call (.Attribute o name apos) (e :: es) [] cpos) (tBM X.K T r to t) := by
  intro pins s σ H Q I h
  refine wpAny_Call_method_late hbase hfew hline rfl (thn (ho pins s σ H _ I h) fun v s1 ⟨x, H1, I1, r1, ty, q1⟩ => ?_)
  obtain ⟨h1, h2⟩ := tyV_is I1 r1 ty
  refine ⟨T, id, pa, slot, hty, h1, h2, ?_⟩
  have hA := ha cpos pins s1 σ H1 _ I1 q1
  rw [hs] at hA ⊢
  refine Calls.callWith_builtin (by show (false || (backTo cpos (starEach es X.env)).any (·.1)) = false; rw [hplain] <;> rfl) (Calls.evalArgs_plain ?_)
  exact thn hA fun us s2 ⟨vs, H2, I2, r2, q2⟩ => hm pins s2 σ H2 x vs v us Q I2 r1 r2 q2
/- xs.append(e), list.index on a module's tuple .. are MtR facts of 06m -/
end
end L2

namespace L2
open PySem PySem.Spec PyProof.Rows

noncomputable def MtM (X : Cx) (id : String) (r : V → List V → Hp → VK → Prop) : Prop :=
  ∀ (pins : List (Addr × Obj)) (s : Shared) (σ : St) (H : Hp) (x : V) (xs : List V) (v : Value) (us : List Value) (Q : VK), Inv X pins σ H s → RelV x v → Vals xs us → r x xs H Q →
    wpAny (model X.prog X.w) X.A (call (.builtin id) (v :: us)) (EP X pins σ Q) X.xe s

/-! ### lists of values -/
theorem Vals.one : ∀ {x : V} {us : List Value}, Vals [x] us → ∃ u, us = [u] ∧ RelV x u
  | _, _, .cons r .nil => ⟨_, rfl, r⟩
theorem Vals.rep {xs : List V} {us : List Value} (h : Vals xs us) : ∀ k : Nat, Vals (List.replicate k xs).flatten (List.replicate k us).flatten
  | 0 => .nil
  | k + 1 => by
    rw [List.replicate_succ, List.replicate_succ, List.flatten_cons, List.flatten_cons]
    exact Vals.append h (Vals.rep h k)

section
variable {X : Cx} {pins : List (Addr × Obj)} {σ : St} {H : Hp} {s : Shared} {l b : Addr} {xs ys zs : List V}

/-! ### the two steps: a tracked list is rewritten, a new list is laid -/
theorem Inv.lset {its its' : List Value} {n : Nat} {f : Array Value → Array Value} {t' : Nat} (I : Inv X pins σ H s) (hH : H l = some (.lst xs))
    (e : s.heap.get? l = some { cls := .type "list", data := .seq its.toArray n }) (hf : f its.toArray = its'.toArray) (hv : Vals ys its') (hz : ys.length ≤ sizeLine) :
    Inv X pins σ (upd H l (.lst ys)) { s with heap := s.heap.update l (Obj.mapSeq f), toks := t' } := by
  have q := PySem.IsL.update e f
  rw [hf] at q
  refine I.write (x := l) (e := l) (by rw [hH]; exact trivial) (.inl rfl) (fun b' u hb hu => (Heap.get?_update_other s.heap (Obj.mapSeq f) (Ne.symm hb)).trans hu) ⟨_, q⟩ ?_
  exact ⟨hz, its', _, hv, q⟩
theorem Inv.lnew {its : List Value} {t' : Nat} (I : Inv X pins σ H s) (hv : Vals ys its) (hz : ys.length ≤ sizeLine) :
    Inv X pins σ (upd H s.heap.objs.size (.lst ys)) { s with heap := s.heap.push { cls := .type "list", data := .seq its.toArray }, toks := t' } :=
  I.laid (fun _ _ q => Heap.get?_push_of_some _ q) (Nat.le_refl _) ⟨hz, its, 0, hv, Heap.get?_push_size _ rfl⟩
theorem Inv.fresh (I : Inv X pins σ H s) : H s.heap.objs.size = none := I.hok.fresh (Nat.le_refl _)
theorem Inv.lstM (I : Inv X pins σ H s) (hH : H l = some (.lst xs)) : xs.length ≤ sizeLine ∧ ∃ (its : List Value) (n : Nat), Vals xs its ∧ xs.length = its.length ∧ s.heap.get? l = some { cls := .type "list", data := .seq its.toArray n } := by
  obtain ⟨z, its, n, r, e⟩ := I.hok l _ hH
  exact ⟨z, its, n, r, r.length, e⟩

end

section
variable {X : Cx}

/-! ### methods -/
noncomputable def rAppend : V → List V → Hp → VK → Prop := fun x vs H Q => ∃ l xs y, x = .ref l ∧ vs = [y] ∧ H l = some (.lst xs) ∧ xs.length < sizeLine ∧ Q .non (upd H l (.lst (xs ++ [y])))
theorem mt_append : MtM X "list.append" rAppend := by
  intro pins s σ H x vs v us Q I rx rv h
  obtain ⟨l, xs, y, rfl, rfl, hH, hz, q⟩ := h
  cases rx
  obtain ⟨u, rfl, ru⟩ := rv.one
  obtain ⟨z, its, n, r, hl, e⟩ := I.lstM hH
  refine call_meets F.slot_list_append ⟨_, e, rfl⟩ F.entry_list_append (F.args_list_append_2 _ _) (PySem.list_append l its.toArray n u (by rw [List.size_toArray]; omega)) ⟨e, ?_⟩
  refine ⟨.non, _, I.lset (its' := its ++ [u]) hH e (by simp) (r.append (.cons ru .nil)) ?_, rfl, q⟩
  rw [List.length_append, List.length_singleton]
  omega






/-! ### list + list, list += list, list * int -/

/-! ### del xs[i] -/
end

/-! ### xs[a:b] = ys -/
section
variable {prog : Program} {w : World} {A : Around} {E : Value → Shared → Prop} {s : Shared}
set_option maxRecDepth 100000 in
end

section
variable {X : Cx}
end
end L2

namespace L2
open PySem PySem.Spec PyProof.Rows

/-! ### lists of pairs as tables -/
section
variable {κ : Type} [DecidableEq κ]
noncomputable def valV (kvs : List (κ × V)) (k : κ) : Option V := (kvs.find? fun kv => decide (kv.1 = k)).map (·.2)
noncomputable def putK (kvs : List (κ × V)) (k : κ) (v : V) : List (κ × V) :=
  if (kvs.any fun kv => decide (kv.1 = k)) = true then kvs.map (fun kv => if kv.1 = k then (kv.1, v) else kv) else kvs ++ [(k, v)]

theorem valV_pos {p : κ × V} {r : List (κ × V)} {k : κ} (e : p.1 = k) : valV (p :: r) k = some p.2 := by simp [valV, List.find?_cons, e]
theorem valV_neg {p : κ × V} {r : List (κ × V)} {k : κ} (e : ¬ p.1 = k) : valV (p :: r) k = valV r k := by simp [valV, List.find?_cons, e]
theorem valV_any (k : κ) : ∀ kvs : List (κ × V), (kvs.any fun kv => decide (kv.1 = k)) = (valV kvs k).isSome
  | [] => rfl
  | p :: r => by
    rw [List.any_cons]
    by_cases e : p.1 = k
    · simp only [valV_pos e, decide_eq_true e, Bool.true_or, Option.isSome_some]
    · rw [valV_neg e, decide_eq_false e, Bool.false_or]; exact valV_any k r
theorem valV_map (k j : κ) (y : V) : ∀ kvs : List (κ × V), valV (kvs.map fun kv => if kv.1 = k then (kv.1, y) else kv) j = (valV kvs j).map fun x => if j = k then y else x
  | [] => rfl
  | p :: r => by
    have ih := valV_map k j y r
    rw [List.map_cons]
    by_cases h : p.1 = k
    · rw [if_pos h]
      by_cases e : p.1 = j
      · rw [valV_pos (p := (p.1, y)) e, valV_pos e, Option.map_some, if_pos (e.symm.trans h)]
      · rw [valV_neg (p := (p.1, y)) e, valV_neg e, ih]
    · rw [if_neg h]
      by_cases e : p.1 = j
      · rw [valV_pos (p := p) e, valV_pos e, Option.map_some, if_neg (fun z => h (e.trans z))]
      · rw [valV_neg (p := p) e, valV_neg e, ih]
theorem valV_snoc (k j : κ) (y : V) : ∀ kvs : List (κ × V), valV kvs k = none → valV (kvs ++ [(k, y)]) j = if j = k then some y else valV kvs j
  | [], _ => by
    by_cases e : k = j
    · rw [if_pos e.symm]; exact valV_pos (p := (k, y)) e
    · rw [if_neg (fun z => e z.symm)]; exact valV_neg (p := (k, y)) e
  | p :: r, hn => by
    rw [List.cons_append]
    have hk : ¬ p.1 = k := fun z => by rw [valV_pos z] at hn; cases hn
    rw [valV_neg hk] at hn
    have ih := valV_snoc k j y r hn
    by_cases e : p.1 = j
    · rw [valV_pos e, valV_pos e, if_neg (fun z => hk (e.trans z))]
    · rw [valV_neg e, valV_neg e, ih]
theorem valV_put (kvs : List (κ × V)) (k j : κ) (y : V) : valV (putK kvs k y) j = if j = k then some y else valV kvs j := by
  unfold putK
  by_cases a : (kvs.any fun kv => decide (kv.1 = k)) = true
  · rw [if_pos a, valV_map]
    rw [valV_any] at a
    by_cases e : j = k
    · obtain ⟨x, hx⟩ := Option.isSome_iff_exists.mp a
      rw [if_pos e, e, hx, Option.map_some, if_pos rfl]
    · rw [if_neg e]
      cases valV kvs j with
      | none => rfl
      | some x => rw [Option.map_some, if_neg e]
  · rw [if_neg a]
    refine valV_snoc k j y kvs ?_
    rw [valV_any] at a
    cases q : valV kvs k with
    | none => rfl
    | some x => rw [q] at a; exact (a rfl).elim
theorem length_putK (kvs : List (κ × V)) (k : κ) (v : V) : (putK kvs k v).length ≤ kvs.length + 1 := by
  unfold putK
  split
  · rw [List.length_map]; omega
  · rw [List.length_append, List.length_cons, List.length_nil]; omega

theorem RelO.isSome_eq {o : Option V} {u : Option Value} (r : RelO o u) : o.isSome = u.isSome := by
  cases o with
  | none => cases u with
    | none => rfl
    | some _ => exact (show False from r).elim
  | some _ => cases u with
    | none => exact (show False from r).elim
    | some _ => rfl
theorem RelO.getD {o : Option V} {u : Option Value} {d : V} {d' : Value} (r : RelO o u) (rd : RelV d d') : RelV (o.getD d) (u.getD d') := by
  cases o with
  | none => cases u with
    | none => exact rd
    | some _ => exact (show False from r).elim
  | some _ => cases u with
    | none => exact (show False from r).elim
    | some _ => exact r

theorem KV.val {kvs : List (κ × V)} {vs : List (κ × Value)} (r : KV kvs vs) (k : κ) : RelO (valV kvs k) (valueAt vs k) := by
  unfold KV at r
  induction r with
  | nil => exact True.intro
  | @cons p q ps qs h t ih =>
    obtain ⟨h1, h2⟩ := h
    by_cases e : p.1 = k
    · have e' : q.1 = k := h1.symm.trans e
      have b : valueAt (q :: qs) k = some q.2 := by simp [valueAt, List.find?_cons, e']
      rw [valV_pos e, b]; exact h2
    · have e' : ¬ q.1 = k := fun z => e (h1.trans z)
      have b : valueAt (q :: qs) k = valueAt qs k := by simp [valueAt, List.find?_cons, e']
      rw [valV_neg e, b]; exact ih
theorem KV.any {kvs : List (κ × V)} {vs : List (κ × Value)} (r : KV kvs vs) (k : κ) : (kvs.any fun kv => decide (kv.1 = k)) = vs.any fun kv => decide (kv.1 = k) := by
  unfold KV at r
  induction r with
  | nil => rfl
  | cons h t ih => rw [List.any_cons, List.any_cons, ih, h.1]
theorem KV.repl {kvs : List (κ × V)} {vs : List (κ × Value)} (r : KV kvs vs) (k : κ) {y : V} {u : Value} (ry : RelV y u) :
    KV (kvs.map fun kv => if kv.1 = k then (kv.1, y) else kv) (vs.map fun kv => if kv.1 = k then (kv.1, u) else kv) := by
  unfold KV at r ⊢
  induction r with
  | nil => exact .nil
  | @cons p q ps qs h t ih =>
    rw [List.map_cons, List.map_cons]
    refine .cons ?_ ih
    obtain ⟨h1, h2⟩ := h
    by_cases e : p.1 = k
    · rw [if_pos e, if_pos (h1.symm.trans e)]; exact ⟨h1, ry⟩
    · rw [if_neg e, if_neg (fun z => e (h1.trans z))]; exact ⟨h1, h2⟩
theorem KV.put {kvs : List (κ × V)} {vs : List (κ × Value)} (r : KV kvs vs) (k : κ) {y : V} {u : Value} (ry : RelV y u) : KV (putK kvs k y) (stored vs k u) := by
  unfold putK stored
  rw [r.any k]
  by_cases e : (vs.any fun kv => decide (kv.1 = k)) = true
  · rw [if_pos e, if_pos e]; exact r.repl k ry
  · rw [if_neg e, if_neg e]; exact Paired.snoc r ⟨rfl, ry⟩
theorem KV.length {kvs : List (κ × V)} {vs : List (κ × Value)} (r : KV kvs vs) : kvs.length = vs.length := Paired.length r
end


/-! ### a tracked dict, its keys ints and texts or tuples of these -/
theorem kV_is {P : Program} {w : World} {k : Key} {u : Value} (r : RelV (kV k) u) : (mixKind P w).is k u = true := by
  cases k with
  | inl i => obtain ⟨t, e⟩ := (show ∃ t, u = Value.int i t from r); subst e; exact mixKind_int P w i t
  | inr x => obtain ⟨t, e⟩ := (show ∃ t, u = Value.str x t from r); subst e; exact mixKind_str P w x t
theorem items_are {P : Program} {w : World} : ∀ {ks : List Key} {us : List Value}, Vals (ks.map kV) us → ItemsAre (mixKind P w) ks us
  | [], _, r => by rw [List.map_nil] at r; cases r; exact .nil
  | k :: ks, _, r => by
    rw [List.map_cons] at r
    cases r with
    | cons h t => exact .cons (kV_is h) (items_are t)

noncomputable abbrev KT (H : Hp) : List (List Key × V) → List (List Key × Addr × Value) → Prop := Paired fun p q => p.1 = q.1 ∧ H q.2.1 = some (.tup (p.1.map kV)) ∧ RelV p.2 q.2.2
theorem KT.val {H : Hp} {kvs : List (List Key × V)} {xs : List (List Key × Addr × Value)} (r : KT H kvs xs) (k : List Key) : RelO (valV kvs k) ((atKey xs k).map (·.2)) := by
  induction r with
  | nil => exact True.intro
  | @cons p q ps qs h t ih =>
    obtain ⟨h1, _, h2⟩ := h
    by_cases e : p.1 = k
    · have e' : q.1 = k := h1.symm.trans e
      have b : atKey (q :: qs) k = some q.2 := by simp [atKey, List.find?_cons, e']
      rw [valV_pos e, b]; exact h2
    · have e' : ¬ q.1 = k := fun z => e (h1.trans z)
      have b : atKey (q :: qs) k = atKey qs k := by simp [atKey, List.find?_cons, e']
      rw [valV_neg e, b]; exact ih
theorem KT.repl {H : Hp} {kvs : List (List Key × V)} {xs : List (List Key × Addr × Value)} (r : KT H kvs xs) (k : List Key) {y : V} {u : Value} (ry : RelV y u) :
    KT H (kvs.map fun kv => if kv.1 = k then (kv.1, y) else kv) (xs.map (putAt k u)) := by
  induction r with
  | nil => exact .nil
  | @cons p q ps qs h t ih =>
    rw [List.map_cons, List.map_cons]
    refine .cons ?_ ih
    obtain ⟨h1, h2, h3⟩ := h
    unfold putAt
    by_cases e : p.1 = k
    · rw [if_pos e, if_pos (h1.symm.trans e)]; exact ⟨h1, h2, ry⟩
    · rw [if_neg e, if_neg (fun z => e (h1.trans z))]; exact ⟨h1, h2, h3⟩
theorem KT.put {H : Hp} {kvs : List (List Key × V)} {xs : List (List Key × Addr × Value)} (r : KT H kvs xs) (k : List Key) {b : Addr} {y : V} {u : Value} (hb : H b = some (.tup (k.map kV))) (ry : RelV y u) :
    KT H (putK kvs k y) (storedH xs k b u) := by
  have e : (kvs.any fun kv => decide (kv.1 = k)) = (atKey xs k).isSome := by
    rw [valV_any, (r.val k).isSome_eq, Option.isSome_map]
  unfold putK storedH
  rw [e]
  by_cases q : (atKey xs k).isSome = true
  · rw [if_pos q, if_pos q]; exact r.repl k ry
  · rw [if_neg q, if_neg q]; exact Paired.snoc r ⟨rfl, hb, ry⟩
theorem KT.keeps {H H' : Hp} {kvs : List (List Key × V)} {xs : List (List Key × Addr × Value)} (r : KT H kvs xs) (ht : ∀ b ys, H b = some (.tup ys) → H' b = some (.tup ys)) : KT H' kvs xs :=
  Paired.mapP r fun _ _ z => ⟨z.1, ht _ _ z.2.1, z.2.2⟩

section
variable {P : Program} {w : World} {H : Hp} {h : Heap} {a : Addr}
theorem rd_of {u : HO} (ok : HOk P w H h) (e : Rd H a u) : ObjOk P w H h a u := e.ok ok
theorem dk_rd {kvs : List (Key × V)} (ok : HOk P w H h) (e : Rd H a (.dK kvs)) : kvs.length ≤ sizeLine ∧ (a == sysModules) = false ∧ ∃ vs, KV kvs vs ∧ h.DictOf (mixKind P w) a vs :=
  show ObjOk P w H h a (.dK kvs) from rd_of ok e
theorem dk_of {kvs : List (Key × V)} (ok : HOk P w H h) (e : H a = some (.dK kvs)) : kvs.length ≤ sizeLine ∧ (a == sysModules) = false ∧ ∃ vs, KV kvs vs ∧ h.DictOf (mixKind P w) a vs := dk_rd ok (.inl e)
theorem key_of {ks : List Key} (ok : HOk P w H h) (e : H a = some (.tup (ks.map kV))) : (tupleKind (mixKind P w)).is h ks a := by
  obtain ⟨_, its, r, o, h1, h2, n, h3⟩ := (show ObjOk P w H h a (.tup (ks.map kV)) from ok a _ e)
  exact ⟨o, its.toArray, n, h1, h2, h3, by simpa using items_are r⟩
theorem dt_rd {kvs : List (List Key × V)} (ok : HOk P w H h) (e : Rd H a (.dT kvs)) : kvs.length ≤ sizeLine ∧ (a == sysModules) = false ∧
    ∃ xs, KT H kvs xs ∧ h.DictOfH (tupleKind (mixKind P w)) a xs := by
  obtain ⟨z, y, xs, r, o, es, ep, h1, h2, h3, h4, h5⟩ := (show ObjOk P w H h a (.dT kvs) from rd_of ok e)
  refine ⟨z, y, xs, r, o, es, ep, h1, h2, h3, h4, fun x hx => ?_, h5⟩
  have all : ∀ {l : List (List Key × V)} {m : List (List Key × Addr × Value)}, KT H l m → ∀ x ∈ m, (tupleKind (mixKind P w)).is h x.1 x.2.1 := by
    intro l m q
    induction q with
    | nil => intro x hx; exact nomatch hx
    | @cons p q ps qs hq t ih =>
      intro x hx
      rcases List.mem_cons.mp hx with e | hx
      · subst e
        exact key_of ok (by rw [← hq.1]; exact hq.2.1)
      · exact ih x hx
  exact all r x hx
theorem dt_of {kvs : List (List Key × V)} (ok : HOk P w H h) (e : H a = some (.dT kvs)) : kvs.length ≤ sizeLine ∧ (a == sysModules) = false ∧
    ∃ xs, KT H kvs xs ∧ h.DictOfH (tupleKind (mixKind P w)) a xs := dt_rd ok (.inl e)
end

noncomputable def DGet (H : Hp) (a : Addr) (y : V) (r : Option V) : Prop :=
  (∃ kvs k, Rd H a (.dK kvs) ∧ y = kV k ∧ r = valV kvs k) ∨ ∃ kvs k b, Rd H a (.dT kvs) ∧ y = .ref b ∧ H b = some (.tup (k.map kV)) ∧ r = valV kvs k
noncomputable def DPut (H : Hp) (a : Addr) (y v : V) (H' : Hp) : Prop :=
  (∃ kvs k, H a = some (.dK kvs) ∧ y = kV k ∧ kvs.length < sizeLine ∧ H' = upd H a (.dK (putK kvs k v))) ∨
  ∃ kvs k b, H a = some (.dT kvs) ∧ y = .ref b ∧ H b = some (.tup (k.map kV)) ∧ kvs.length < sizeLine ∧ H' = upd H a (.dT (putK kvs k v))
theorem DGet.k {H : Hp} {a : Addr} {kvs : List (Key × V)} {k : Key} (e : H a = some (.dK kvs)) : DGet H a (kV k) (valV kvs k) := .inl ⟨kvs, k, .inl e, rfl, rfl⟩
theorem DPut.k {H : Hp} {a : Addr} {kvs : List (Key × V)} {k : Key} {v : V} (e : H a = some (.dK kvs)) (hl : kvs.length < sizeLine) : DPut H a (kV k) v (upd H a (.dK (putK kvs k v))) := .inl ⟨kvs, k, e, rfl, hl, rfl⟩


section
variable {X : Cx} {pins : List (Addr × Obj)} {σ : St} {H : Hp} {s : Shared} {a : Addr} {y v : V} {u r : Value} {o : Option V} {A : Around} {E : Value → Shared → Prop}

theorem Inv.big (I : Inv X pins σ H s) : sysModules < s.heap.objs.size := by
  have h : mainGlobals < s.heap.objs.size := (I.mod.glob.keeps I.bk).lt
  exact Nat.lt_trans (by decide) h

theorem d_getItem {Q : Value → Shared → Prop} (hu : A.units + 1 < cLine) (I : Inv X pins σ H s) (g : DGet H a y (some v)) (ry : RelV y u) (h : ∀ w' s', Inv X pins σ H s' → RelV v w' → Q w' s') :
    wpAny (model X.prog X.w) A (getItem (.ref a) u) Q E s := by
  rcases g with ⟨kvs, k, e, ey, l⟩ | ⟨kvs, k, b, e, ey, eb, l⟩
  · subst ey
    obtain ⟨z, hd, vs, rel, dd⟩ := dk_rd I.hok e
    obtain ⟨w', hw, rw'⟩ := RelO.some_of (v := v) (o := valueAt vs k) (by rw [l]; exact rel.val k)
    exact wpAny_getItem_of (kV_is ry) dd.mapOf hw (h w' _ (I.tok _) rw')
  · subst ey
    cases (show u = Value.ref b from ry)
    obtain ⟨z, hd, xs, rel, dd⟩ := dt_rd I.hok e
    obtain ⟨w', hw, rw'⟩ := RelO.some_of (v := v) (o := (atKey xs k).map (·.2)) (by rw [l]; exact rel.val k)
    obtain ⟨p, hp, hp2⟩ := Option.map_eq_some_iff.mp hw
    refine wpAny_getItem_heap (tupleKind_room_in1 hu) (key_of I.hok eb) dd hp ?_
    rw [hp2]
    exact h w' _ (I.tok _) rw'
theorem d_in {Q : Value → Shared → Prop} (hu : A.units + 1 < cLine) (I : Inv X pins σ H s) (g : DGet H a y o) (ry : RelV y u) (h : ∀ s', Inv X pins σ H s' → Q (.bool o.isSome) s') :
    wpAny (model X.prog X.w) A (compareOp .In u (.ref a)) Q E s := by
  rcases g with ⟨kvs, k, e, ey, l⟩ | ⟨kvs, k, b, e, ey, eb, l⟩
  · subst ey
    obtain ⟨z, hd, vs, rel, dd⟩ := dk_rd I.hok e
    refine wpAny_in_of (kV_is ry) hd dd.mapOf ?_
    rw [← (rel.val k).isSome_eq, ← l]
    exact h _ (I.tok _)
  · subst ey
    cases (show u = Value.ref b from ry)
    obtain ⟨z, hd, xs, rel, dd⟩ := dt_rd I.hok e
    refine wpAny_in_heap (tupleKind_room_in1 hu) (key_of I.hok eb) hd dd ?_
    have q := (rel.val k).isSome_eq
    rw [Option.isSome_map] at q
    rw [← q, ← l]
    exact h _ (I.tok _)
theorem d_notIn {Q : Value → Shared → Prop} (hu : A.units + 1 < cLine) (I : Inv X pins σ H s) (g : DGet H a y o) (ry : RelV y u) (h : ∀ s', Inv X pins σ H s' → Q (.bool (!o.isSome)) s') :
    wpAny (model X.prog X.w) A (compareOp .NotIn u (.ref a)) Q E s := by
  rcases g with ⟨kvs, k, e, ey, l⟩ | ⟨kvs, k, b, e, ey, eb, l⟩
  · subst ey
    obtain ⟨z, hd, vs, rel, dd⟩ := dk_rd I.hok e
    refine wpAny_notIn_of (kV_is ry) hd dd.mapOf ?_
    rw [← (rel.val k).isSome_eq, ← l]
    exact h _ (I.tok _)
  · subst ey
    cases (show u = Value.ref b from ry)
    obtain ⟨z, hd, xs, rel, dd⟩ := dt_rd I.hok e
    refine wpAny_notIn_heap (tupleKind_room_in1 hu) (key_of I.hok eb) hd dd ?_
    have q := (rel.val k).isSome_eq
    rw [Option.isSome_map] at q
    rw [← q, ← l]
    exact h _ (I.tok _)
theorem d_write {h' : Heap} {t' : Nat} {ob : HO} (I : Inv X pins σ H s) (mu : Mut (H a)) (hs : Heap.SameBut a s.heap h') (he : ∃ q, h'.get? a = some q) (new : ObjOk X.prog X.w (upd H a ob) h' a ob) :
    Inv X pins σ (upd H a ob) { s with heap := h', toks := t' } :=
  I.write (x := a) (e := a) mu (.inl rfl) (fun b q hb z => (hs.2 b hb).trans z) he new
theorem dk_new {P : Program} {w : World} {H' : Hp} {h' : Heap} {kvs : List (Key × V)} {vs : List (Key × Value)} (z : kvs.length ≤ sizeLine) (hd : (a == sysModules) = false) (rel : KV kvs vs) (dd : h'.DictOf (mixKind P w) a vs) :
    ObjOk P w H' h' a (.dK kvs) := ⟨z, hd, vs, rel, dd⟩
theorem d_setItem {H' : Hp} {Q : Unit → Shared → Prop} (hu : A.units + 1 < cLine) (I : Inv X pins σ H s) (g : DPut H a y v H') (ry : RelV y u) (rv : RelV v r) (h : ∀ s', Inv X pins σ H' s' → Q () s') :
    wpAny (model X.prog X.w) A (setItem (.ref a) u r) Q E s := by
  rcases g with ⟨kvs, k, e, ey, l, eH⟩ | ⟨kvs, k, b, e, ey, eb, l, eH⟩
  · subst ey eH
    obtain ⟨z, hd, vs, rel, dd⟩ := dk_of I.hok e
    have hz : vs.length ≤ sizeLine := by rw [← rel.length]; exact z
    have hl : (putK kvs k v).length ≤ sizeLine := by have := length_putK kvs k v; omega
    refine wpAny_setItem_pairs (hsz := hz) (kV_is ry) dd fun h' dd' hs => h _ ?_
    have he : ∃ q, h'.get? a = some q := let ⟨q, _, _, hq, _⟩ := dd'; ⟨q, hq⟩
    exact d_write I (by rw [e]; exact True.intro) hs he (dk_new hl hd (rel.put k rv) dd')
  · subst ey eH
    cases (show u = Value.ref b from ry)
    obtain ⟨z, hd, xs, rel, dd⟩ := dt_of I.hok e
    have hz : xs.length ≤ sizeLine := by rw [← Paired.length rel]; exact z
    have hl : (putK kvs k v).length ≤ sizeLine := by have := length_putK kvs k v; omega
    refine wpAny_setItem_heap (hsz := hz) (tupleKind_room_in1 hu) (key_of I.hok eb) dd fun h' dd' hs => h _ ?_
    obtain ⟨q, es, ep, hq, h2, h3, h4, _, h5⟩ := dd'
    refine d_write I (by rw [e]; exact True.intro) hs ⟨q, hq⟩ ⟨hl, hd, _, (rel.put k eb rv).keeps fun c ys ec => ?_, q, es, ep, hq, h2, h3, h4, h5⟩
    rw [upd_ne (ne_of ec e (fun z => nomatch z))]
    exact ec
end

section
variable {X : Cx} {pins : List (Addr × Obj)} {σ : St} {H : Hp} {s : Shared} {a : Addr} {kvs : List (Key × V)} {k : Key} {u : Value} {A : Around} {E : Value → Shared → Prop}
end


/-! ### readings and rules -/
noncomputable def NoSl (i : Expr) : Prop := ∀ ov iv, subscripted i false ov iv = operate [ov, iv] (getItem ov iv)
theorem subD_of {prog : Program} {w : World} {A : Around} {E : Value → Shared → Prop} {s : Shared} {env : Env} {value slice : Expr} {pos : Pos} {T id : String} {Q : Value → Shared → Prop}
    (hl : typeLookup (.type T) "__getitem__" = pure (some (.builtin id))) (hs : NoSl slice)
    (h : wpAny (model prog w) A (eval value env) (fun o s₁ => wpAny (model prog w) A (eval slice env) (fun i s₂ => s₂.TypeIs o T ∧ wpAny (model prog w) A (getItem o i) Q E s₂) E s₁) E s) :
    wpAny (model prog w) A (eval (.Subscript value slice pos) env) Q E s := by
  refine Subscript_ (wpAny_mono h (fun o s₁ h₁ => wpAny_mono h₁ (fun i s₂ h₂ => ?_) fun _ _ x => x) fun _ _ x => x)
  obtain ⟨hT, h₂⟩ := h₂
  unfold subscriptTail
  refine wpAny_bind ?_
  rw [getitemInPython_of_ne hT.not_modules]
  refine wpAny_bind (wpAny_specialOf hT hl ?_)
  have fin : wpAny (model prog w) A (subscripted slice false o i) (fun r s₃ => wpAny (model prog w) A (letTemporaryGo value o r >>= fun _ => pure r) Q E s₃) E s₂ := by
    rw [hs o i]
    exact wpAny_operating (wpAny_mono h₂ (fun r s₃ h₃ => wpAny_bind (wpAny_letTemporaryGo (wpAny_pure h₃))) fun _ _ x => x)
  first
    | exact wpAny_pure (wpAny_bind fin)
    | exact wpAny_bind (wpAny_pure (wpAny_bind fin))
    | exact wpAny_bind fin

theorem dict_typeIs {X : Cx} {pins : List (Addr × Obj)} {σ : St} {H : Hp} {s : Shared} {a : Addr} {y : V} {o : Option V} (I : Inv X pins σ H s) (g : DGet H a y o) : s.TypeIs (.ref a) "dict" := by
  rcases g with ⟨kvs, k, e, _, _⟩ | ⟨kvs, k, b, e, _, _, _⟩
  · obtain ⟨_, _, vs, _, dd⟩ := dk_rd I.hok e
    exact dd.typeIs
  · obtain ⟨_, _, xs, _, dd⟩ := dt_rd I.hok e
    exact dd.typeIs

noncomputable def tDGet (td ty : TE) : TE := fun σ H Q => td σ H fun x H1 => ty σ H1 fun y H2 => ∃ a v, x = .ref a ∧ DGet H2 a y (some v) ∧ Q v H2
noncomputable def tDIn (ty td : TE) : TE := fun σ H Q => ty σ H fun y H1 => td σ H1 fun x H2 => ∃ a o, x = .ref a ∧ DGet H2 a y o ∧ Q (.bl o.isSome) H2
noncomputable def tDNotIn (ty td : TE) : TE := fun σ H Q => ty σ H fun y H1 => td σ H1 fun x H2 => ∃ a o, x = .ref a ∧ DGet H2 a y o ∧ Q (.bl (!o.isSome)) H2
noncomputable def sDPut (td ty tv : TE) : TS := fun D σ H => tv σ H fun v H1 => td σ H1 fun x H2 => ty σ H2 fun y H3 => ∃ a H4, x = .ref a ∧ DPut H3 a y v H4 ∧ D.nx σ H4

section
variable {X : Cx} {o i e value : Expr} {pos pos' tpos : Pos} {td ty tv : TE}
theorem pe_dget (hu : X.A.units + 1 < cLine) (ho : PE X o td) (hi : PE X i ty) (hs : NoSl i) : PE X (.Subscript o i pos) (tDGet td ty) := by
  intro pins s σ H Q I h
  refine subD_of PySem.F.slot_dict_getitem.lookup hs (thn (ho pins s σ H _ I h) fun u s1 ⟨x, H1, I1, rx, q1⟩ => thn (hi pins s1 σ H1 _ I1 q1) fun iv s2 ⟨y, H2, I2, ry, a, v, ex, g, q2⟩ => ?_)
  subst ex
  obtain rfl : u = Value.ref a := rx
  exact ⟨dict_typeIs I2 g, d_getItem hu I2 g ry fun w' s3 I3 rw' => ⟨v, H2, I3, rw', q2⟩⟩
theorem pc_din (hu : X.A.units + 1 < cLine) (hi : PE X i ty) (ho : PE X o td) : PC X .In i o (tDIn ty td) := by
  intro pins s σ H Q I h
  refine thn (hi pins s σ H _ I h) fun iv s1 ⟨y, H1, I1, ry, q1⟩ => thn (ho pins s1 σ H1 _ I1 q1) fun u s2 ⟨x, H2, I2, rx, a, ov, ex, g, q2⟩ => ?_
  subst ex
  obtain rfl : u = Value.ref a := rx
  exact d_in hu I2 g ry fun s3 I3 => ⟨.bl ov.isSome, H2, I3, rfl, q2⟩
theorem pc_dnotin (hu : X.A.units + 1 < cLine) (hi : PE X i ty) (ho : PE X o td) : PC X .NotIn i o (tDNotIn ty td) := by
  intro pins s σ H Q I h
  refine thn (hi pins s σ H _ I h) fun iv s1 ⟨y, H1, I1, ry, q1⟩ => thn (ho pins s1 σ H1 _ I1 q1) fun u s2 ⟨x, H2, I2, rx, a, ov, ex, g, q2⟩ => ?_
  subst ex
  obtain rfl : u = Value.ref a := rx
  exact d_notIn hu I2 g ry fun s3 I3 => ⟨.bl (!ov.isSome), H2, I3, rfl, q2⟩
theorem ps_dput (hu : X.A.units + 1 < cLine) (ho : PE X o td) (hi : PE X i ty) (hv : PE X value tv) (hs : swapsWith value (some (.Subscript o i pos')) pos.line X.env = pure false) :
    PS X (.Assign [.Subscript o i pos'] value pos) (sDPut td ty tv) := by
  intro pins s σ H D I h
  refine wpAny_Assign_Subscript (thn (hv pins s σ H _ I h) fun r s1 ⟨v, H1, I1, rv, q1⟩ => thn (ho pins s1 σ H1 _ I1 q1) fun u s2 ⟨x, H2, I2, rx, q2⟩ => thn (hi pins s2 σ H2 _ I2 q2) fun iv s3 ⟨y, H3, I3, ry, a, H4, ex, g, q3⟩ => ?_) hs
  subst ex
  obtain rfl : u = Value.ref a := rx
  exact d_setItem hu I3 g ry rv fun s4 I4 => ⟨σ, H4, I4, q3⟩
end


/-! ### displays -/
theorem dk_empty {P : Program} {w : World} {H : Hp} (h : Heap) (hb : sysModules < h.objs.size) : ObjOk P w H (h.push { cls := .type "dict", data := .dict #[] }) h.objs.size (.dK []) :=
  ⟨Nat.zero_le _, beq_eq_false_iff_ne.mpr (Ne.symm (Nat.ne_of_lt hb)), [], .nil, Heap.DictOf.new h⟩
noncomputable def tDNewK : TE := fun _ H Q => ∀ p, H p = none → Q (.ref p) (upd H p (.dK []))
section
variable {X : Cx} {pos : Pos}
theorem pe_dnewK : PE X (.Dict [] [] pos) tDNewK := fun pins s σ H Q I h =>
  wpAny_Dict_empty ⟨.ref s.heap.objs.size, _, I.laid (a := s.heap.objs.size) (o := .dK []) (t' := s.toks) (fun _ _ q => Heap.get?_push_of_some _ q) (Nat.le_refl _) (dk_empty s.heap I.big), rfl, h _ (I.hok.fresh (Nat.le_refl _))⟩
end

noncomputable def tPairs : List (TE × TE) → St → Hp → (List (V × V) → Hp → Prop) → Prop
  | [], _, H, Q => Q [] H
  | (tk, tv) :: r, σ, H, Q => tk σ H fun x H1 => tv σ H1 fun y H2 => tPairs r σ H2 fun ps H3 => Q ((x, y) :: ps) H3

noncomputable def mergeK (kvs more : List (Key × V)) : List (Key × V) := more.foldl (fun acc kv => putK acc kv.1 kv.2) kvs
noncomputable def tDisp (trs : List (TE × TE)) : TE := fun σ H Q => ∀ p, H p = none → tPairs trs σ (upd H p (.dK [])) fun ps H2 => H2 p = some (.dK []) ∧ ∃ kvs : List (Key × V), ps = kvs.map (fun kv => (kV kv.1, kv.2)) ∧ kvs.length ≤ 15 ∧ Q (.ref p) (upd H2 p (.dK (mergeK [] kvs)))


/-! ### methods -/
set_option genInjectivity false in
structure M1 (X : Cx) (o : Expr) (m : Str) (apos : Pos) (e : Expr) (cpos : Pos) : Prop where
  base : attributeBase o m X.env (eval o X.env) = eval o X.env
  few : ((backTo cpos (starEach [e] X.env)).all (fun x => !x.1) && (backToKw cpos (keywordEach [] X.env)).all (fun x => x.1.isSome)
    && decide (([e] : List Expr).length + ([] : List Keyword).length + (if ([] : List Keyword).isEmpty then 0 else 1) < 30)) = true
  line : (apos.endLine == cpos.line) = true
  trees : backTo cpos (starEach [e] X.env) = [(false, eval e X.env)]

noncomputable def IsD (H : Hp) (a : Addr) : Prop := (∃ kvs, Rd H a (.dK kvs)) ∨ ∃ kvs, Rd H a (.dT kvs)
theorem isD_at {X : Cx} {pins : List (Addr × Obj)} {σ : St} {H : Hp} {s : Shared} {a : Addr} (I : Inv X pins σ H s) (d : IsD H a) :
    s.TypeIs (.ref a) "dict" ∧ (∀ b, Value.ref a = .ref b → ∃ ob, s.heap.get? b = some ob ∧ ob.dict = none) ∧ (a == sysModules) = false := by
  rcases d with ⟨kvs, e⟩ | ⟨kvs, e⟩
  · obtain ⟨_, hd, vs, _, dd⟩ := dk_rd I.hok e
    refine ⟨dd.typeIs, fun b q => ?_, hd⟩
    cases q
    obtain ⟨ob, _, _, h1, h2, _⟩ := dd
    exact ⟨ob, h1, h2.2.1⟩
  · obtain ⟨_, hd, xs, _, dd⟩ := dt_rd I.hok e
    refine ⟨dd.typeIs, fun b q => ?_, hd⟩
    cases q
    obtain ⟨ob, _, _, h1, h2, _⟩ := dd
    exact ⟨ob, h1, h2.2.1⟩

section
variable {X : Cx} {pins : List (Addr × Obj)} {σ : St} {H : Hp} {s : Shared} {a : Addr} {y d : V} {u r : Value} {o : Option V} {A : Around} {E : Value → Shared → Prop}
theorem d_get1 {Q : Value → Shared → Prop} (hu : A.units + 1 < cLine) (I : Inv X pins σ H s) (g : DGet H a y o) (ry : RelV y u) (h : ∀ w' s', Inv X pins σ H s' → RelV (o.getD .non) w' → Q w' s') :
    wpAny (model X.prog X.w) A (call (.builtin "dict.get") [.ref a, u]) Q E s := by
  rcases g with ⟨kvs, k, e, ey, l⟩ | ⟨kvs, k, b, e, ey, eb, l⟩
  · subst ey
    obtain ⟨z, hd, vs, rel, dd⟩ := dk_rd I.hok e
    refine call_meetsIn PySem.F.slot_dict_get dd.typeIs PySem.F.entry_dict_get (PySem.F.args_dict_get_2 _ _) (meets_dict_get (mixKind X.prog X.w) a (kV_is ry) hd) ⟨_, dd.mapOf, h _ _ (I.tok _) ?_⟩
    rw [l]
    exact (rel.val k).getD rfl
  · subst ey
    cases (show u = Value.ref b from ry)
    obtain ⟨z, hd, xs, rel, dd⟩ := dt_rd I.hok e
    refine call_meetsIn PySem.F.slot_dict_get dd.typeIs PySem.F.entry_dict_get (PySem.F.args_dict_get_2 _ _) (meetsH_dict_get (tupleKind (mixKind X.prog X.w)) a b hd) ⟨tupleKind_room_in1 hu, k, xs, key_of I.hok eb, dd, h _ _ (I.tok _) ?_⟩
    rw [l]
    exact (rel.val k).getD rfl
end

noncomputable def tDGet1 (td ty : TE) : TE := fun σ H Q => td σ H fun x H1 => ∃ a, x = .ref a ∧ IsD H1 a ∧ ty σ H1 fun y H2 => ∃ o, DGet H2 a y o ∧ Q (o.getD .non) H2
noncomputable def tDGet2 (td ty tx : TE) : TE := fun σ H Q => td σ H fun x H1 => ∃ a, x = .ref a ∧ IsD H1 a ∧ ty σ H1 fun y H2 => tx σ H2 fun z H3 => ∃ o, DGet H3 a y o ∧ Q (o.getD z) H3
section
variable {X : Cx} {o e f : Expr} {apos cpos : Pos} {td ty tx : TE}
theorem pe_dget1 (hu : X.A.units + 1 < cLine) (ho : PE X o td) (he : PE X e ty) (m : M1 X o "get" apos e cpos) : PE X (.Call (.Attribute o "get" apos) [e] [] cpos) (tDGet1 td ty) := by
  intro pins s σ H Q I h
  refine wpAny_Call_method m.base m.few m.line PySem.F.plainAttrs_dict PySem.F.slot_dict_get PySem.F.type_dict_get (thn (ho pins s σ H _ I h) fun u s1 ⟨x, H1, I1, rx, a, ex, d, q1⟩ => ?_)
  subst ex
  obtain rfl : u = Value.ref a := rx
  obtain ⟨t1, t2, _⟩ := isD_at I1 d
  refine ⟨t1, t2, ?_⟩
  rw [m.trees]
  refine Calls.callWith_builtin rfl (Calls.evalArgs_plain (Calls.spliced_cons (thn (he pins s1 σ H1 _ I1 q1) fun iv s2 ⟨y, H2, I2, ry, ov, g, q2⟩ => Calls.spliced_nil ?_)))
  exact d_get1 hu I2 g ry fun w' s3 I3 rw' => ⟨_, H2, I3, rw', q2⟩
end

/-! ### dict(d): a copy -/
section
variable {X : Cx} {pins : List (Addr × Obj)} {σ : St} {H : Hp} {s : Shared} {a : Addr} {kvs : List (Key × V)} {A : Around} {E : Value → Shared → Prop}
end


section
variable {X : Cx} {pins : List (Addr × Obj)} {σ : St} {H : Hp} {s : Shared} {a : Addr} {y : V} {u : Value} {A : Around} {E : Value → Shared → Prop}
end
end L2

namespace Att
open PySem PySem.W PySem.Calls PyProof.Rows

/-! ### the script -/
theorem ints_of_wellAll {P : Params} {h : Heap} : ∀ (ns : List Int) (vs : List Value), WellAll P h vs (ns.map WData.int) → IntsAre vs ns := by
  intro ns
  induction ns with
  | nil =>
    intro vs w
    rw [List.map_nil] at w
    cases w
    exact .nil
  | cons n ns ih =>
    intro vs w
    rw [List.map_cons] at w
    cases w with
    | cons a b =>
      cases a
      exact .cons _ _ (ih _ b)

theorem script_of {l : OpenLaw} {n : Nat} (hn : l.most = some n) {P : Params} {h : Heap} {args : List WData} {vals : List Value}
    (hpre : l.row.toRowW.claim.pre args = true) (hwl : WellAll P h vals args) :
    ∃ a vs ns, vals = [Value.ref a] ∧ args = [WData.list (ns.map WData.int)] ∧ h.get? a = some { cls := .type "list", data := .seq vs.toArray } ∧ IntsAre vs ns ∧ ns.length ≤ n := by
  have hsh : WShape.hasAll [] args [.list .int] = true := (pre_splitW hpre).1
  have hc : l.pre.holds [] { args := args } = true := (pre_splitW hpre).2
  obtain ⟨d, r, rfl, h1, h2⟩ := hasAllW_cons hsh
  obtain rfl := hasAllW_nil h2
  obtain ⟨xs, rfl, h3⟩ := hasW_list h1
  obtain ⟨ns, rfl⟩ := items_int h3
  have hlen : ns.length ≤ n := by
    unfold OpenLaw.pre at hc
    have h4 : (WTm.not (.lt (.lit (.int (n : Int))) (.len (.arg 0)))).holds [] { args := [.list (ns.map .int)] } = true := by
      have h4 := (holds_andW hc).1
      rw [hn] at h4
      exact h4
    have h5 := condW_of h4 (w_not (w_lt w_lit (w_len_list (w_arg rfl))))
    rw [List.length_map] at h5
    refine Nat.le_of_not_lt fun q => ?_
    have q' : (n : Int) < ((ns.length : Nat) : Int) := by omega
    first
      | (rw [decide_eq_true q'] at h5; exact absurd h5 (by decide))
      | (simp at h5; omega)
  cases hwl with
  | cons w1 w2 =>
    cases w2
    cases w1 with
    | list ho hall => exact ⟨_, _, ns, rfl, rfl, ho, ints_of_wellAll ns _ hall, hlen⟩

theorem post_true (l : OpenLaw) (args : List WData) : l.row.toRowW.claim.post args (.bool true) args = true :=
  postW_of (r := l.row.toRowW) (X := (true == true))
    (show WShape.has [] (.bool true) .bool = true by first | rfl | decide | simp [WShape.has, WShape.arms, WShape.armsAll])
    (show (WTm.eq .res (.lit (.bool true))).value [] { args := args, res := some (.bool true), after := args } = some (.bool (true == true)) from w_eq_bool (w_res rfl) w_lit) rfl

/-! ### the attachment: holds_open's last premise (the goal 'hc' behind k_head) from a wpAny of the law's body -/

theorem attach_call {l : OpenLaw} {n : Nat} {q : Program} {loose : List Str} {XP : (Str → Option Value) → Heap → Prop} {YP : World → Heap → Prop} {d : DefRec}
    (hn : l.most = some n) (hdf : d.params.defaults = [])
    (call : ∀ (w : World) (s₀ s₁ : Shared) (mg mb : Str → Option Value) (fa : Addr) (o : Obj) (pm cd doc : Value) (a : Addr) (vs : List Value) (ns : List Int),
      Ground q loose [] XP w s₀ mg mb s₁.heap → YP w s₁.heap →
      s₁.heap.get? fa = some o → o.data = .func (docDef d.name d.params d.body d.scope pm cd doc) → s₁.heap.CodeRec cd d.name → mg d.name = some (.ref fa) →
      s₁.heap.get? a = some { cls := .type "list", data := .seq vs.toArray } → IntsAre vs ns → ns.length ≤ n → s₁.gens = #[] →
      codeAny (model l.prog w) callerA (.call (.ref fa) ⟨[.ref a], []⟩) (fun r s' => r = .ok (.ret (.bool true)) ∧ OldK s₁.heap s'.heap ∧ s'.os = s₁.os ∧ AllBare s'.gens) s₁) :
    WalkO q loose XP YP l.row.toRowW d [] (fun f vs => PySem.call f vs) := by
  intro w s₀ s₁ mg mb G Y fa o pm cd doc dV kV ho hd hcd hD hmg hg args vals as hpre hlay hrd hwl hlo
  obtain rfl : dV = .none := Dflts.none hD hdf
  obtain rfl : kV = .none := Dflts.noKw hD
  obtain ⟨a, vs, ns, rfl, rfl, hobj, hints, hlen⟩ := script_of hn hpre hwl
  refine enter_call (codeAny_mono (call w s₀ s₁ mg mb fa o pm cd doc a vs ns G Y ho (fd_plain hd) hcd hmg hobj hints hlen hg) fun r s' hq => ?_)
  obtain ⟨rfl, h2, h3, h4⟩ := hq
  exact ⟨.inl ⟨.bool true, .bool true, [], rfl, fun _ => rfl, .bool true, post_true l _, fun _ => ⟨List.Pairwise.nil, fun _ hm => (nomatch hm)⟩⟩, h2, h3, h4⟩


/-! ### rules over ANY heap (no ledger) from facts about the written part K: the library's own take a ledger (News) for what they write -/
section
variable {prog : Program} {w : World} {A : Around} {E : Value → Shared → Prop} {s : Shared} {K : Frag}





/-! the whole heap as the ledger: makes every rule that writes through a ledger a rule over any heap -/
noncomputable def ledger (h : Heap) (L d : Addr) : List (Addr × Obj) := (List.range h.objs.size).filterMap fun a => if a = L ∨ a = d then none else (h.get? a).map fun o => (a, o)

end
end Att

namespace L2
open PySem PySem.Spec PyProof.Rows

theorem vals_ints : ∀ {vs : List Value} {ns : List Int}, IntsAre vs ns → Vals (ns.map V.int) vs
  | _, _, .nil => .nil
  | _, _, .cons n t h => .cons ⟨t, rfl⟩ (vals_ints h)

noncomputable def Only (H : Hp) : Prop := ∀ b, H b = none ∨ ∃ o xs, H b = some (.frz o (.lst xs))

theorem law_call {P : Program} {w : World} {K : PySem.W.Frag} {mg mb : Str → Option Value} {CX : CXT} {k : Nat} {fa a : Addr} {fd : FuncData} {x : Str} {sp : Sp} {s₁ : Shared} {vs : List Value} {ns : List Int}
    (KX : K.In s₁.heap) (hns : s₁.heap.Ns mainGlobals mg) (hb : s₁.heap.Ns builtinsNs mb) (hbb : ∀ x : Str, x ≠ "__name__" → mb x = bootBuiltins x) (hlim : s₁.heap.NoLimit) (hg : s₁.gens = #[])
    (ha : s₁.heap.get? a = some { cls := .type "list", data := .seq vs.toArray }) (hi : IntsAre vs ns) (hl : ns.length ≤ sizeLine) (hr : Room k callerA)
    (F : ∀ base : Heap, K.In base → base.Ns mainGlobals mg → FnOk P w K mg base CX k fa fd [x] sp) (hbind : ∀ (s : Shared) (u : Value), BindsTo s fd ⟨[u], []⟩ [(x, u)])
    (hsp : ∀ H : Hp, Only H → SqL K H a (ns.map V.int) → sp [.ref a] H (fun v _ => v = .bl true) fun _ _ _ => False)
    (hCX : ∀ H e s', CX [] H s₁ (fun _ _ _ => False) e s' → False) :
    codeAny (model P w) callerA (.call (.ref fa) ⟨[.ref a], []⟩) (fun r s' => r = .ok (.ret (.bool true)) ∧ OldK s₁.heap s'.heap ∧ s'.os = s₁.os ∧ AllBare s'.gens) s₁ := by
  have rv := vals_ints hi
  have lenV := hi.length
  -- from an abstract heap in which nothing but the script may be tracked
  have core : ∀ H : Hp, Only H → SqL K H a (ns.map V.int) → HOk P w H s₁.heap → (∀ b, H b ≠ none → b = a) → (H a ≠ none → K.lookup a = none) →
      codeAny (model P w) callerA (.call (.ref fa) ⟨[.ref a], []⟩) (fun r s' => r = .ok (.ret (.bool true)) ∧ OldK s₁.heap s'.heap ∧ s'.os = s₁.os ∧ AllBare s'.gens) s₁ := by
    intro H hO hS hok hA hK
    have base_of : ∀ {b : Addr} {o : Obj}, s₁.heap.get? b = some o → H b = none → (hidT s₁.heap H).get? b = some o := fun e n => hidT_get e n
    have noA : ∀ {b : Addr} {o : Obj} {es : Array DictEntry} {ep : Nat}, s₁.heap.get? b = some o → o.data = .dict es ep → H b = none := fun {b o es ep} e d => by
      cases q : H b with
      | none => rfl
      | some u =>
        have e' : b = a := hA b (by rw [q]; simp)
        subst e'
        rw [ha] at e; cases e
        have d' : Data.seq vs.toArray _ = Data.dict es ep := d
        cases d'
    have nsK : ∀ {b : Addr} {m : Str → Option Value}, s₁.heap.Ns b m → (hidT s₁.heap H).Ns b m := fun {b m} ⟨o, es, ep, e, d, r⟩ => ⟨o, es, ep, base_of e (noA e d), d, r⟩
    have hKb : K.In (hidT s₁.heap H) := fun b o e => base_of (KX b o e) (by
      cases q : H b with
      | none => rfl
      | some u =>
        have e' : b = a := hA b (by rw [q]; simp)
        subst e'
        rw [hK (by rw [q]; simp)] at e; cases e)
    have hM : Mod K mg (hidT s₁.heap H) := ⟨hKb, nsK hns, ⟨mb, nsK hb, hbb⟩, let ⟨mc, h1, h2⟩ := hlim; ⟨mc, nsK h1, h2⟩⟩
    have e0 : Env0 P w K mg (hidT s₁.heap H) callerA [] s₁ H := ⟨rfl, hM, fun b o e => of_hidT e, Nat.le_of_eq (hidT_size _ _), trivial, fun b hb => absurd (show b ∈ ([] : List Addr) from hb) (by simp), hok, .of_eq hg⟩
    refine codeAny_mono ((F _ hKb (nsK hns)).run callerA [] s₁ H ⟨[.ref a], []⟩ [.ref a] [.ref a] _ _ hr e0 (hbind s₁ (.ref a)) (.cons rfl .nil) (hsp H hO hS)) fun r s' h => ?_
    cases r with
    | error e => exact (hCX H e s' h).elim
    | ok fl =>
      cases fl with
      | next => exact False.elim h
      | brk => exact False.elim h
      | cont => exact False.elim h
      | ret u =>
        obtain ⟨v, H', os, bare, un, hok', r', q⟩ := h
        have q' : v = .bl true := q
        subst q'
        obtain rfl : u = Value.bool true := r'
        refine ⟨rfl, OldK.of_keep fun b o e => ?_, os, bare⟩
        cases q : H b with
        | none => exact un.keep b o e q (by intro z; exact absurd (show b ∈ ([] : List Addr) from z) (by simp)) (by simp)
        | some u =>
          rcases hO b with z | ⟨ob, xs, z⟩
          · rw [q] at z; cases z
          · have z2 := un.frzs b ob _ z
            obtain ⟨e1, _⟩ := hok b _ z
            obtain ⟨e2, _⟩ := hok' b _ z2
            rw [e] at e1; cases e1
            exact e2
  cases hk : K.lookup a with
  | some o =>
    -- the script is one of the module's own objects
    have e := KX a o hk
    rw [ha] at e
    cases e
    refine core (fun _ => none) (fun _ => .inl rfl) (.inr ⟨_, vs.toArray, _, hk, rfl, rfl, rfl, by rw [List.size_toArray, lenV]; exact hl, by simpa using rv⟩) (fun b u z => by have z' : (none : Option HO) = some u := z; cases z') (fun b z => absurd rfl z) fun z => absurd rfl z
  | none =>
    refine core (fun b => if b = a then some (.frz { cls := .type "list", data := .seq vs.toArray } (.lst (ns.map V.int))) else none) (fun b => ?_) (.inl (.inr ⟨{ cls := .type "list", data := .seq vs.toArray }, if_pos rfl⟩)) (fun b u z => ?_) (fun b z => ?_) fun _ => hk
    · by_cases hb : b = a
      · exact .inr ⟨_, _, if_pos hb⟩
      · exact .inl (if_neg hb)
    · by_cases hb : b = a
      · have z' := (if_pos hb).symm.trans z
        cases z'
        subst hb
        exact ⟨ha, by rw [List.length_map]; exact hl, vs, _, rv, ha⟩
      · have z' := (if_neg hb).symm.trans z
        cases z'
    · by_cases hb : b = a
      · exact hb
      · exact absurd (if_neg hb) z
end L2

namespace L2
open PySem PySem.Spec PyProof.Rows


theorem walk_of {l : PySem.W.OpenLaw} {n k : Nat} {q : Program} {loose : List Str} {XP : (Str → Option Value) → Heap → Prop} {YP : World → Heap → Prop} {d : DefRec} {K : Params → PySem.W.Frag} {CX : World → CXT} {sp : World → Sp} {x : Str}
    (hn : l.most = some n) (hn2 : n ≤ sizeLine) (hdf : d.params.defaults = []) (hr : Room k callerA)
    (hY : ∀ (w : World) (h : Heap), YP w h → (K w.params).In h)
    (F : ∀ (w : World) (mg : Str → Option Value) (fa : Addr) (h : Heap), (K w.params).In h → h.Ns mainGlobals mg → mg d.name = some (.ref fa) →
      ∃ fd : FuncData, (∀ (s : Shared) (u : Value), BindsTo s fd ⟨[u], []⟩ [(x, u)]) ∧
        ∀ base : Heap, (K w.params).In base → base.Ns mainGlobals mg → FnOk l.prog w (K w.params) mg base (CX w) k fa fd [x] (sp w))
    (hsp : ∀ (w : World) (H : Hp) (a : Addr) (ns : List Int), ns.length ≤ n → Only H → SqL (K w.params) H a (ns.map V.int) → sp w [.ref a] H (fun v _ => v = .bl true) fun _ _ _ => False)
    (hCX : ∀ (w : World) (H : Hp) (s : Shared) (e : Value) (s' : Shared), CX w [] H s (fun _ _ _ => False) e s' → False) :
    PySem.W.WalkO q loose XP YP l.row.toRowW d [] (fun f vs => PySem.call f vs) := by
  refine Att.attach_call hn hdf fun w s₀ s₁ mg mb fa o pm cd doc a vs ns G Y ho hd hcd hmg hobj hints hlen hg => ?_
  have KX := hY w _ Y
  obtain ⟨fd, hb, hF⟩ := F w mg fa _ KX G.T.g hmg
  exact law_call KX G.T.g G.T.b G.T.builtins G.T.nolimit hg hobj hints (Nat.le_trans hlen hn2) hr hF hb (fun H hO hS => hsp w H a ns hlen hO hS) fun H e s' => hCX w H s₁ e s'
end L2

/-! SHORT WORDS over the layer: a def of the text, its body, what a loop and a test want. -/
namespace L2
open PySem PySem.Spec PyProof.Rows

/-! ### the text by places -/
noncomputable def inClass (s : Stmt) (j : Nat) : Stmt := match s with
  | .ClassDef _ _ _ body _ _ _ _ _ _ _ => body.getD j (.Pass ⟨0, 0, 0, 0⟩)
  | _ => .Pass ⟨0, 0, 0, 0⟩
noncomputable def defArgs (s : Stmt) : Arguments := match s with
  | .FunctionDef _ a _ _ _ _ _ _ _ _ => a
  | _ => { posonlyargs := [], args := [], vararg := none, kwonlyargs := [], kw_defaults := [], kwarg := none, defaults := [] }
noncomputable def defBody (s : Stmt) : List Stmt := match s with
  | .FunctionDef _ _ b _ _ _ _ _ _ _ => b
  | _ => []
noncomputable def defScope (s : Stmt) : Scope := match s with
  | .FunctionDef _ _ _ _ _ _ sc _ _ _ => sc
  | _ => { kind := .function, names := [], isGenerator := false, isCoroutine := false }

/-! ### no exception leaves a def -/
noncomputable abbrev CX0 : CXT := fun _ _ _ _ _ _ => False
noncomputable abbrev E0 : XK := fun _ _ _ => False
theorem pass0 {X : Cx} : Passes CX0 X E0 := fun _ _ _ _ _ _ _ h => h.elim

/-! ### a def (or method) of the text as it stands behind the top -/
set_option genInjectivity false in
structure Fun (K : PySem.W.Frag) (x qual : Str) (st : Stmt) (f : Addr) (fd : FuncData) : Prop where
  ex : ∃ (oc : Value) (od : Option Addr) (kV doc pm : Value) (an : Option Addr) (cdv ct : Value) (osl : Array (Option Value)),
    fd = PySem.W.fnOf x qual (defArgs st) (defBody st) (defScope st) .none kV doc pm an cdv ct ∧ K.lookup f = some ⟨oc, od, .func fd, osl⟩ ∧ PySem.W.codeIn K cdv qual = true
  kp : PySem.W.keepIn K (.ref f) = true
section
variable {P : Program} {w : World} {K : PySem.W.Frag} {mg : Str → Option Value} {base : Heap}
theorem Fun.ok {x qual : Str} {st : Stmt} {f : Addr} {fd : FuncData} {N ps : List Str} {k : Nat} {sp : Sp} (F : Fun K x qual st f fd) (S : FnScope N ps (defScope st)) (len : ∀ vs H Q E, sp vs H Q E → vs.length = ps.length)
    (hbody : ∀ (cdv : Value) (A : Around) (outer : List Env) (s : Shared) (H : Hp) (vs : List V) (Q : VK) (E : XK), Room k (A.deeper (envOfC qual (defScope st) s.heap.objs.size f cdv)) → sp vs H Q E →
      ∃ t, PSs (cxOf CX0 P w K mg base N qual (defScope st) f cdv A outer s H E).nox (defBody st) t ∧ t { nx := fun _ H' => Q .non H', rt := Q } (start N vs) H) : FnOk P w K mg base CX0 (k + 1) f fd ps sp := by
  obtain ⟨oc, od, kV, doc, pm, an, cdv, ct, osl, rfl, lk, hcd⟩ := F.ex
  refine fn_of lk hcd S len fun A outer s H vs Q E hr hsp => ?_
  obtain ⟨t, h, q⟩ := hbody cdv A outer s H vs Q E hr hsp
  exact ⟨t, h.nox, q⟩
theorem Fun.binds {x qual : Str} {st : Stmt} {f : Addr} {fd : FuncData} {ps : List Str} (F : Fun K x qual st f fd)
    (h : ∀ (kV doc pm : Value) (an : Option Addr) (cdv ct : Value) (us : List Value), us.length = ps.length → bindArgs (PySem.W.fnOf x qual (defArgs st) (defBody st) (defScope st) .none kV doc pm an cdv ct) ⟨us, []⟩ = pure (ps.zip us)) : Binds K fd ps [] := by
  obtain ⟨oc, od, kV, doc, pm, an, cdv, ct, osl, rfl, lk, hcd⟩ := F.ex
  exact .all (h kV doc pm an cdv ct)
theorem fun_mk {x qual : Str} {st : Stmt} {f : Addr} {oc : Value} {od an : Option Addr} {osl : Array (Option Value)} {kV doc pm cdv ct : Value} (l : K.lookup f = some ⟨oc, od, .func (PySem.W.fnOf x qual (defArgs st) (defBody st) (defScope st) .none kV doc pm an cdv ct), osl⟩)
    (c : PySem.W.codeIn K cdv qual = true) (k : PySem.W.keepIn K (.ref f) = true) : Fun K x qual st f (PySem.W.fnOf x qual (defArgs st) (defBody st) (defScope st) .none kV doc pm an cdv ct) := ⟨⟨oc, od, kV, doc, pm, an, cdv, ct, osl, rfl, l, c⟩, k⟩
end
theorem hu_of {A : Around} {k : Nat} (hr : Room k A) : A.units + 1 < cLine := Nat.lt_of_le_of_lt (Nat.add_le_add_left (by decide : 1 ≤ 64) _) hr.units

/-! ### expressions in short: the name that stands in the i-th slot -/
section
variable {X : Cx}
theorem pv (i : Nat) {x : Str} {pos : Pos} (hN : X.N[i]? = some x := by rfl) (hv : Vis X.env.scope x := by first | exact Or.inl rfl | exact Or.inr (Or.inl rfl) | exact Or.inr (Or.inr rfl)) (hd : (x == ("__debug__" : Str)) = false := by decide)
    (hcd : (x == ("__classdict__" : Str)) = false := by decide) : PE X (.Name x pos) (tVar i) := pe_var hN hv hd hcd
end

/-! ### tests -/
theorem iteT {A B : Prop} (h : A) : if true = true then A else B := by
  rw [if_pos rfl]
  exact h
theorem ite2 {c A B : Prop} [Decidable c] (h1 : c → A) (h2 : ¬ c → B) : if c then A else B := by
  by_cases h : c
  · rw [if_pos h]
    exact h1 h
  · rw [if_neg h]
    exact h2 h

/-! ### heaps -/
noncomputable def Same (H H' : Hp) : Prop := ∀ b o, H b = some o → H' b = some o
theorem Same.refl (H : Hp) : Same H H := fun _ _ h => h
theorem Same.trans {H H1 H2 : Hp} (a : Same H H1) (b : Same H1 H2) : Same H H2 := fun c o h => b c o (a c o h)
theorem Same.seq {K : PySem.W.Frag} {H H' : Hp} {a : Addr} {xs : List V} (e : Same H H') (h : SqL K H a xs) : SqL K H' a xs := by
  rcases h with (h | ⟨o, h⟩) | h
  · exact .inl (.inl (e _ _ h))
  · exact .inl (.inr ⟨o, e _ _ h⟩)
  · exact .inr h

end L2

namespace L2
open PySem PySem.Spec PyProof.Rows
section
variable {X : Cx}
end
/-! ### a dict's pairs: keys that differ -/
section
variable {κ : Type} [DecidableEq κ]
end
end L2

namespace L2
open PySem PySem.Spec PyProof.Rows

/-! ### a comprehension's cells: those of the names that it takes from around it -/
noncomputable def clOf (env : Env) : List (Str × NameKind) → List (Str × Addr) → List (Str × Addr)
  | [], acc => acc
  | (n, k) :: r, acc => clOf env r (if (k == NameKind.free) = true then (n, (env.cells.lookup n).getD 0) :: acc else acc)
theorem clOf_ok {env : Env} : ∀ (ns : List (Str × NameKind)) (acc : List (Str × Addr)), (∀ x ∈ ns, x.2 = .free → ∃ c, env.cells.lookup x.1 = some c) →
    (∀ x c, acc.lookup x = some c → env.cells.lookup x = some c) → ∀ x c, (clOf env ns acc).lookup x = some c → env.cells.lookup x = some c
  | [], acc, _, ha => ha
  | (n, k) :: r, acc, hn, ha => by
    refine clOf_ok r _ (fun x hx => hn x (List.mem_cons_of_mem _ hx)) ?_
    intro x c e
    by_cases hk : (k == NameKind.free) = true
    · rw [if_pos hk] at e
      have hk' : k = .free := by simpa using hk
      obtain ⟨c', ec⟩ := hn (n, k) List.mem_cons_self hk'
      rw [List.lookup_cons] at e
      cases hx : x == n with
      | true =>
        rw [hx] at e
        have : x = n := by simpa using hx
        subst this
        have ec' : List.lookup x env.cells = some c' := ec
        rw [ec'] at e
        simp at e
        rw [← e]; exact ec'
      | false => rw [hx] at e; exact ha x c e
    · rw [if_neg hk] at e; exact ha x c e
theorem clOf_keep {env : Env} : ∀ (ns : List (Str × NameKind)) (acc : List (Str × Addr)) (x : Str), (∃ c, acc.lookup x = some c) → ∃ c, (clOf env ns acc).lookup x = some c
  | [], acc, x, h => h
  | (n, k) :: r, acc, x, h => by
    refine clOf_keep r _ x ?_
    by_cases hk : (k == NameKind.free) = true
    · rw [if_pos hk, List.lookup_cons]
      cases hx : x == n with
      | true => exact ⟨_, rfl⟩
      | false => exact h
    · rw [if_neg hk]; exact h
theorem clOf_has {env : Env} : ∀ (ns : List (Str × NameKind)) (acc : List (Str × Addr)) (x : Str), (x, NameKind.free) ∈ ns → ∃ c, (clOf env ns acc).lookup x = some c
  | [], acc, x, h => absurd h (by simp)
  | (n, k) :: r, acc, x, h => by
    rcases List.mem_cons.mp h with e | e
    · injection e with e1 e2
      subst e1 e2
      refine clOf_keep r _ x ⟨(env.cells.lookup x).getD 0, ?_⟩
      rw [if_pos (by decide)]
      simp
    · exact clOf_has r _ x e
theorem closureFor_eq {scope : Scope} {env : Env} (h : ∀ x ∈ scope.names, x.2 = .free → ∃ c, env.cells.lookup x.1 = some c) : closureFor scope env = pure (clOf env scope.names []) := by
  have key : ∀ (ns : List (Str × NameKind)) (acc : List (Str × Addr)), (∀ x ∈ ns, x.2 = .free → ∃ c, env.cells.lookup x.1 = some c) →
      (do let r ← forIn (m := Sem) ns acc (fun x r => if (x.2 == NameKind.free) = true then do let c ← cellOf env x.1; pure (ForInStep.yield ((x.1, c) :: r)) else pure (ForInStep.yield r)); pure r : Sem (List (Str × Addr))) = pure (clOf env ns acc) := by
    intro ns
    induction ns with
    | nil => intro acc _; rfl
    | cons y r ih =>
      intro acc hy
      obtain ⟨n, k⟩ := y
      rw [List.forIn_cons]
      by_cases hk : (k == NameKind.free) = true
      · have hk' : k = .free := by simpa using hk
        obtain ⟨c, ec⟩ := hy (n, k) List.mem_cons_self hk'
        have ec' : List.lookup n env.cells = some c := ec
        have e1 : cellOf env n = pure c := by unfold cellOf; rw [ec']
        simp only [hk, if_true, e1]
        have := ih ((n, c) :: acc) fun x hx => hy x (List.mem_cons_of_mem _ hx)
        show _ = pure (clOf env r (if (k == NameKind.free) = true then (n, (List.lookup n env.cells).getD 0) :: acc else acc))
        rw [if_pos hk, ec']
        exact this
      · simp only [hk]
        have := ih acc fun x hx => hy x (List.mem_cons_of_mem _ hx)
        show _ = pure (clOf env r (if (k == NameKind.free) = true then (n, (List.lookup n env.cells).getD 0) :: acc else acc))
        rw [if_neg hk]
        exact this
  simp only [closureFor]
  rw [key scope.names [] h]
  rfl
/-! ### the turns of a comprehension -/
section
variable {prog : Program} {w : World} {A : Around} {R : Result → Shared → Prop} {s : Shared}
theorem compLoop_any {elt target iter : Expr} {ifs : List Expr} {scope : Scope} {pos : Pos} {it acc : Value} {env : Env} (I : Nat → Shared → Prop)
    (turn : ∀ n s, I n s → wpAny (model prog w) A (pyNext it) (fun r s₁ => match r with
      | none => R (.ok .next) s₁
      | some v => wpAny (model prog w) A (letOwnedTupleGo target it v) (fun _ s₁' => wpAny (model prog w) A (assign target env v) (fun _ s₂ =>
          wpAny (model prog w) A (forIn ifs true fun c r => if r = true then do let ok ← isTrue c env (eval c env); pure (ForInStep.yield ok) else pure (ForInStep.yield r)) (fun ok s₃ =>
            if ok = true then wpAny (model prog w) A (eval elt env) (fun x s₄ =>
              wpAny (model prog w) A (call (.builtin "list.append") [acc, x]) (fun _ s₅ => ∃ m, m < n ∧ I m s₅) (fun _ _ => False) s₄) (fun _ _ => False) s₃
            else ∃ m, m < n ∧ I m s₃) (fun _ _ => False) s₂) (fun _ _ => False) s₁') (fun _ _ => False) s₁) (fun _ _ => False) s)
    (n : Nat) (h : I n s) :
    codeAny (model prog w) A (.compLoop (.ListComp elt [⟨target, iter, ifs, 0⟩] scope pos) 0 it acc env) R s := by
  refine codeAny_loop rfl I (fun n s hI => ?_) n h
  show wpAny _ A ((compTurn (.ListComp elt [⟨target, iter, ifs, 0⟩] scope pos) 0 it acc env).onRaise (fun x => do noteFrame x env; theTreesLotGoes x)) _ _ s
  refine wpAny_noted ?_
  rw [compTurn_list]
  refine wpAny_bind (wpAny_standAt (wpAny_bind (wpAny_mono (turn n s hI) (fun r s₁ h₁ => ?_) fun _ _ h' => h'.elim)))
  cases r with
  | none => exact wpAny_pure h₁
  | some v =>
    refine wpAny_bind (wpAny_mono h₁ (fun _ s₁' h₁' => ?_) fun _ _ h' => h'.elim)
    refine wpAny_bind (wpAny_mono h₁' (fun _ s₂ h₂ => wpAny_bind (wpAny_mono h₂ (fun ok s₃ h₃ => ?_) fun _ _ h' => h'.elim)) fun _ _ h' => h'.elim)
    cases ok with
    | false => exact wpAny_pure ⟨rfl, h₃⟩
    | true =>
      exact wpAny_bind (wpAny_bind (wpAny_mono h₃ (fun x s₄ h₄ => wpAny_bind (wpAny_mono h₄ (fun _ s₅ h₅ => wpAny_pure (wpAny_pure ⟨rfl, h₅⟩)) fun _ _ h' => h'.elim)) fun _ _ h' => h'.elim))
end

/-! ### the block's context -/
noncomputable def blk (X : Cx) (N' : List Str) (scope : Scope) (fp : List Addr) (s : Shared) (H : Hp) : Cx :=
  { X with N := N', s₀ := s, H₀ := H, env := compEnvC scope (clOf X.env scope.names []) s.heap.objs.size X.env, outer := X.stack, stack := X.stack, ex := fp, fn := fun _ => false, xe := fun _ _ => False }
noncomputable def PTs (X : Cx) (ifs : List Expr) (t : TT) : Prop :=
  ∀ (pins : List (Addr × Obj)) (s : Shared) (σ : St) (H : Hp) (Q : Bool → Hp → Prop), Inv X pins σ H s → t σ H Q →
    wpAny (model X.prog X.w) X.A (forIn ifs true fun c r => if r = true then do let ok ← isTrue c X.env (eval c X.env); pure (ForInStep.yield ok) else pure (ForInStep.yield r)) (TP X pins σ Q) X.xe s
noncomputable def tYes : TT := fun _ H Q => Q true H
theorem pts_one {X : Cx} {c : Expr} {t : TT} (h : PT X c t) : PTs X [c] t := fun pins s σ H Q I q => wpAny_tests_one (h pins s σ H Q I q)
inductive Ext : St → St → Prop
  | nil : Ext [] []
  | no {σ τ : St} {a : Option V} : Ext σ τ → Ext (none :: σ) (a :: τ)
  | yes {σ τ : St} {v : V} : Ext σ τ → Ext (some v :: σ) (some v :: τ)
theorem Ext.len : ∀ {σ τ : St}, Ext σ τ → σ.length = τ.length
  | _, _, .nil => rfl
  | _, _, .no h => by simp [h.len]
  | _, _, .yes h => by simp [h.len]
theorem Ext.get : ∀ {σ τ : St}, Ext σ τ → ∀ (i : Nat) (v : V), σ[i]? = some (some v) → τ[i]? = some (some v)
  | _, _, .nil, i, v, e => e
  | _, _, .no h, 0, v, e => by simp at e
  | _, _, .no h, i + 1, v, e => by simpa using h.get i v (by simpa using e)
  | _, _, .yes h, 0, v, e => by simpa using e
  | _, _, .yes h, i + 1, v, e => by simpa using h.get i v (by simpa using e)
noncomputable def blkSt (k : Nat) (fm : List Nat) (σ : St) : St := List.replicate k none ++ fm.map fun j => (σ[j]?).join
noncomputable def tComp (k : Nat) (fm : List Nat) (wi : TI) (g : TG) (tt : TT) (te : TE) : TE := fun σ H Q => wi σ H fun J H1 => ∀ D, H1 D = none → ∃ W : Nat → Nat → List V → Hp → Prop,
  (∃ m, W 0 m [] (upd H1 D (.lst []))) ∧ ∀ i m ys H2, W i m ys H2 → H2 D = some (.lst ys) ∧ ys.length < sizeLine ∧ ((J.stop i H2 ∧ Q (.ref D) H2) ∨ (J.go i H2 ∧ ∃ N : List V → Hp → Prop, (∀ ys' H', N ys' H' → ∃ m', m' < m ∧ W (i + 1) m' ys' H') ∧ ∀ x H3, J.yld i H2 x H3 →
    g x (blkSt k fm σ) H3 fun σ3 H4 => Ext (blkSt k fm σ) σ3 ∧ tt σ3 H4 fun b H5 => if b = true then te σ3 H5 fun y H6 => H6 D = some (.lst ys) ∧ N (ys ++ [y]) (upd H6 D (.lst (ys ++ [y]))) else N ys H5))
theorem Un.tail {fs ex : List Addr} {H H' : Hp} {h h1 h2 : Heap} {C : Addr} (u : Un fs ex H H' h h1) (k : ∀ b o, b ≠ C → h1.get? b = some o → h2.get? b = some o) (hC : h.get? C = none) : Un fs ex H H' h h2 := by
  have ne : ∀ b o, h.get? b = some o → b ≠ C := fun b o e z => by rw [z, hC] at e; cases e
  exact ⟨fun b o e n hf hx => k b o (ne b o e) (u.keep b o e n hf hx), fun b o e n hf hx => let ⟨sl, q⟩ := u.slot b o e n hf hx; ⟨sl, k b _ (ne b o e) q⟩, u.free,
    fun b o e hx => let ⟨o', q⟩ := u.there b o e hx; ⟨o', k b _ (ne b o e) q⟩, u.tups, u.frzs, u.tbls⟩
theorem HOk.tail {P : Program} {w : World} {H : Hp} {h1 h2 : Heap} {C : Addr} (ok : HOk P w H h1) (k : ∀ b o, b ≠ C → h1.get? b = some o → h2.get? b = some o) (hC : H C = none) : HOk P w H h2 := fun a o e => by
  have ne : ∀ b u, H b = some u → b ≠ C := fun b u q z => by rw [z, hC] at q; cases q
  refine (ok a o e).stay (fun b u hb q => k b u ?_ q) (fun _ q => q) fun _ _ q => q
  rcases hb with z | z
  · rw [z]; exact ne a o e
  · exact ne b _ z
theorem lookup_relabel {env : Env} : ∀ {names : List (Str × NameKind)} {x : Str} {k : NameKind},
    (names.map fun (n, k) => if (k == NameKind.free && env.scope.kind == .function && env.kindOf n == some .cell) then (n, NameKind.cell) else (n, k)).lookup x = some k → ∃ k', names.lookup x = some k' ∧ (k = k' ∨ (k' = .free ∧ k = .cell))
  | [], _, _, h => by simp at h
  | (n, k0) :: r, x, k, h => by
    have ih := @lookup_relabel env r x k
    have h : List.lookup x ((if (k0 == NameKind.free && env.scope.kind == .function && env.kindOf n == some .cell) = true then (n, NameKind.cell) else (n, k0)) :: (r.map fun (n, k) => if (k == NameKind.free && env.scope.kind == .function && env.kindOf n == some .cell) then (n, NameKind.cell) else (n, k))) = some k := h
    by_cases hc : (k0 == NameKind.free && env.scope.kind == .function && env.kindOf n == some .cell) = true
    · rw [if_pos hc, List.lookup_cons] at h
      have k0f : k0 = .free := by
        simp only [Bool.and_eq_true] at hc
        simpa using hc.1.1
      rw [List.lookup_cons]
      cases hx : x == n with
      | true => rw [hx] at h; injection h with h; exact ⟨k0, rfl, .inr ⟨k0f, h.symm⟩⟩
      | false => rw [hx] at h; exact ih h
    · rw [if_neg hc, List.lookup_cons] at h
      rw [List.lookup_cons]
      cases hx : x == n with
      | true => rw [hx] at h; injection h with h; exact ⟨k0, rfl, .inl h.symm⟩
      | false => rw [hx] at h; exact ih h
set_option genInjectivity false in
structure BlkScope (X : Cx) (N' : List Str) (k : Nat) (fm : List Nat) (scope : Scope) : Prop where
  kind : scope.kind = .function
  nocell : ∀ y ∈ scope.names, y.2 ≠ .cell
  names : ∀ y ∈ scope.names, y.2 = .local → scope.names.lookup y.1 = some .local
  free : ∀ y ∈ scope.names, y.2 = .free → X.env.kindOf y.1 = some .cell ∨ X.env.kindOf y.1 = some .free
  len : N'.length = k + fm.length
  slots : ∀ i x, k ≤ i → N'[i]? = some x → scope.names.lookup x = some .free ∧ ∃ j, fm[i - k]? = some j ∧ X.N[j]? = some x
section
variable {X : Cx} {pins : List (Addr × Obj)} {σ : St} {H : Hp} {s : Shared}
theorem Inv.block {N' : List Str} {k : Nat} {fm : List Nat} {scope : Scope} {fp : List Addr} {h' : Heap} {tk : Nat} (B : BlkScope X N' k fm scope) (I : Inv X pins σ H s) (hf : ∀ b ∈ fp, FpOk X pins H b) (ho : ∀ b ∈ fp, ∃ o, s.heap.get? b = some o)
    (ns : h'.Ns s.heap.objs.size (fun _ => none)) (kp : ∀ b o, s.heap.get? b = some o → h'.get? b = some o) : Inv (blk X N' scope fp s H) [] (blkSt k fm σ) H { s with heap := h', toks := tk } := by
  have hfree : ∀ x ∈ scope.names, x.2 = .free → ∃ c, X.env.cells.lookup x.1 = some c := fun x hx hk => I.ok.has x.1 (B.free x hx hk)
  have hcl : ∀ x c, (clOf X.env scope.names []).lookup x = some c → X.env.cells.lookup x = some c := clOf_ok scope.names [] hfree fun x c e => by simp at e
  have stk : ∀ b ∈ frs X.stack, b ∈ X.env.locals :: X.fs := I.stkSub
  have hC : H s.heap.objs.size = none := I.hok.fresh (Nat.le_refl _)
  have ok : (blk X N' scope fp s H).Ok := {
    mod := I.ok.mod
    kind := B.kind
    glob := I.ok.glob
    blt := I.ok.blt
    above := Nat.le_refl _
    inj := fun x y c h1 h2 => I.ok.inj x y c (hcl x c h1) (hcl y c h2)
    has := fun x hx => by
      have hx : (relabel scope X.env).names.lookup x = some .cell ∨ (relabel scope X.env).names.lookup x = some .free := hx
      have : scope.names.lookup x = some .free := by
        rcases hx with e | e
        · obtain ⟨k', e1, e2⟩ := lookup_relabel e
          rcases e2 with e2 | ⟨e2, _⟩
          · subst e2; exact absurd rfl (B.nocell _ (PySem.mem_of_lookup e1))
          · rw [e1, e2]
        · obtain ⟨k', e1, e2⟩ := lookup_relabel e
          rcases e2 with e2 | ⟨e2, e3⟩
          · rw [e1, e2]
          · rw [e1, e2]
      exact clOf_has scope.names [] x (PySem.mem_of_lookup this)
    cab := fun x c e => by cases e
    hd := I.ok.hd
    frames := I.ok.frames
    stk := .inl rfl
    exf := fun b hb => ⟨fun z => by
        obtain ⟨o, e⟩ := ho b hb
        have hlt := Heap.lt_size e
        rw [z] at hlt
        exact Nat.lt_irrefl _ hlt, fun x c e => (hf b hb).2.2.2.2.1 x c (hcl x c e)⟩
    bs := I.bs
    bsz := Nat.le_trans I.ok.bsz I.sz
    noex := fun b o e hb => by
      rcases (hf b hb).2.2.2.1 with z | z
      · exact I.ok.noex b o e z
      · exact absurd (Nat.lt_of_lt_of_le (Heap.lt_size e) (Nat.le_trans I.ok.bsz z)) (Nat.lt_irrefl _)
    exfs := fun b hb z => (List.mem_cons.mp (stk b z)).elim (hf b hb).2.1 (hf b hb).2.2.1
    funs := I.stack
    frf := I.stkFree }
  refine ⟨ok, rfl, I.bare, Un.kept kp, ⟨_, ns, fun i x v h1 h2 h3 => ?_⟩, fun x c e => ?_, hC, fun x c e => I.freeC x c (hcl x c e), fun p hp => ?_, I.hok.kept kp, ?_⟩
  · have hk : k ≤ i := by
      refine Nat.le_of_not_lt fun z => ?_
      unfold blkSt at h2
      rw [List.getElem?_append_left (by simpa using z), List.getElem?_replicate, if_pos z] at h2
      cases h2
    obtain ⟨e1, j, e2, e3⟩ := B.slots i x hk h1
    have e4 : σ[j]? = some (some v) := by
      unfold blkSt at h2
      rw [List.getElem?_append_right (by simpa using hk), List.length_replicate, List.getElem?_map, e2] at h2
      have h2 : some (σ[j]?).join = some (some v) := h2
      injection h2 with h2
      cases e : σ[j]? with
      | none => rw [e] at h2; cases h2
      | some o => rw [e] at h2; rw [show o = some v from h2]
    have kf := B.free (x, .free) (PySem.mem_of_lookup e1) rfl
    obtain ⟨m, hn, hl⟩ := I.loc
    obtain ⟨u, ru, lk⟩ := hl j x v e3 e4 (.inr kf)
    refine ⟨u, ru, .inr ⟨?_, ?_⟩⟩
    · have h3 : (relabel scope X.env).names.lookup x = some .local ∨ (relabel scope X.env).names.lookup x = some .cell ∨ (relabel scope X.env).names.lookup x = some .free := h3
      rcases h3 with z | z
      · obtain ⟨k', q1, q2⟩ := lookup_relabel z
        rw [e1] at q1
        injection q1 with q1
        subst q1
        rcases q2 with q2 | ⟨_, q2⟩ <;> cases q2
      · exact z
    · obtain ⟨c, hc⟩ := clOf_has (env := X.env) scope.names [] x (PySem.mem_of_lookup e1)
      refine ⟨c, hc, ?_⟩
      rcases lk with ⟨z, _⟩ | ⟨_, c', ec, ic⟩
      · rcases kf with y | y <;> (rw [z] at y; cases y)
      · rw [hcl x c hc] at ec
        injection ec with ec
        subst ec
        exact ic.keeps kp
  · obtain ⟨v, q⟩ := I.cell x c (hcl x c e)
    exact ⟨v, q.keeps kp⟩
  · obtain ⟨p1, p2, p3, p4, p5⟩ := I.pin p ((List.mem_append.mp hp).elim (fun z => List.mem_append_left _ z) fun z => absurd z (by simp))
    refine ⟨kp _ _ p1, p2, fun z => ?_, fun z => (List.mem_cons.mp (stk _ z)).elim p3 p4, p5⟩
    have hlt := Heap.lt_size p1
    rw [z] at hlt
    exact Nat.lt_irrefl _ hlt
  · show (blkSt k fm σ).length = N'.length
    unfold blkSt
    rw [List.length_append, List.length_replicate, List.length_map, B.len]
theorem blk_loop {X : Cx} {elt iter tg : Expr} {ifs : List Expr} {scope : Scope} {pos : Pos} {g : TG} {tt : TT} {te : TE} {J : It} {fp : List Addr} {it D : Addr} {tn : Nat → Heap → Prop} {σ0 : St} {H3 : Hp} {s4 : Shared} {Q : VK} {R : Result → Shared → Prop} {W : Nat → Nat → List V → Hp → Prop} {m0 : Nat}
    (hx : X.xe = fun _ _ => False) (hc : X.calm = true) (T : Turn X.prog X.w X.K tg J fp it tn) (stat : ∀ {H' : Hp}, (∀ b ∈ fp, H' b = none) → ∀ b ∈ fp, FpOk X [] H' b) (hg : PG X tg g) (ht : PTs X ifs tt) (he : PE X elt te)
    (turn : ∀ i m ys H2, W i m ys H2 → H2 D = some (.lst ys) ∧ ys.length < sizeLine ∧ ((J.stop i H2 ∧ Q (.ref D) H2) ∨ (J.go i H2 ∧ ∃ N : List V → Hp → Prop, (∀ ys' H', N ys' H' → ∃ m', m' < m ∧ W (i + 1) m' ys' H') ∧ ∀ x H3, J.yld i H2 x H3 →
      g x σ0 H3 fun σ3 H4 => Ext σ0 σ3 ∧ tt σ3 H4 fun b H5 => if b = true then te σ3 H5 fun y H6 => H6 D = some (.lst ys) ∧ N (ys ++ [y]) (upd H6 D (.lst (ys ++ [y]))) else N ys H5)))
    (I4 : Inv X [] σ0 H3 s4) (st4 : tn 0 s4.heap) (fr4 : ∀ b ∈ fp, H3 b = none) (w4 : W 0 m0 [] H3)
    (hR : ∀ H' s', Inv X [] σ0 H' s' → Q (.ref D) H' → R (.ok .next) s') :
    codeAny (model X.prog X.w) X.A (.compLoop (.ListComp elt [⟨tg, iter, ifs, 0⟩] scope pos) 0 (.ref it) (.ref D) X.env) R s4 := by
  refine compLoop_any (fun n s' => ∃ i ys H', Inv X [] σ0 H' s' ∧ tn i s'.heap ∧ (∀ b ∈ fp, H' b = none) ∧ W i n ys H') ?_ m0 ⟨0, [], H3, I4, st4, fr4, w4⟩
  rintro n s5 ⟨i, ys, H5, I5, st5, fr5, w5⟩
  obtain ⟨hD, hl, cs⟩ := turn i n ys H5 w5
  rcases cs with ⟨stop, q⟩ | ⟨go, N, hN, step⟩
  · refine thn (T.done X rfl rfl rfl hc i [] s5 σ0 H5 _ I5 (stat fr5) st5 stop) fun r s6 ⟨hr, I6⟩ => ?_
    subst hr
    exact hR H5 s6 I6 q
  · refine thn (T.item X rfl rfl rfl hc i [] s5 σ0 H5 _ I5 (stat fr5) st5 go) fun r s6 ⟨u, hr, h6⟩ => ?_
    subst hr
    refine thn h6 fun _ s7 ⟨x, H7, I7, r7, y7, st7, fr7⟩ => ?_
    have I7' := I7.pinned (stat fr7) (T.obj _ _ st7)
    have again : ∀ {σ' : St} {H' : Hp} {s' : Shared}, Ext σ0 σ' → Inv X ([] ++ pinsAt fp s7.heap) σ' H' s' → Inv X [] σ0 H' s' ∧ tn (i + 1) s'.heap ∧ ∀ b ∈ fp, H' b = none := fun {σ' H' s'} ex I' => by
      refine ⟨I'.unpinned.weak ex.len ex.get, T.keep _ _ _ st7 fun b hb o e => (I'.pin (b, o) (List.mem_append_right _ (List.mem_append_right _ (mem_pinsAt hb e)))).1, fun b hb => ?_⟩
      obtain ⟨o, e, d⟩ := T.obj _ _ st7 b hb
      exact (I'.pin (b, o) (List.mem_append_right _ (List.mem_append_right _ (mem_pinsAt hb e)))).2.1
    have w8 := hg _ s7 σ0 H7 x u _ I7' r7 (step x H7 y7)
    rw [hx] at w8
    refine thn w8 fun _ s8 ⟨σ8, H8, I8, ex8, q8⟩ => ?_
    have w9 := ht _ s8 σ8 H8 _ I8 q8
    rw [hx] at w9
    refine thn w9 fun ok s9 ⟨H9, I9, q9⟩ => ?_
    cases ok with
    | false =>
      obtain ⟨m', hm, w'⟩ := hN _ _ q9
      obtain ⟨a1, a2, a3⟩ := again ex8 I9
      exact ⟨m', hm, i + 1, ys, H9, a1, a2, a3, w'⟩
    | true =>
      have w10 := he _ s9 σ8 H9 _ I9 q9
      rw [hx] at w10
      refine thn w10 fun y s10 ⟨yv, H10, I10, r10, hD10, n10⟩ => ?_
      obtain ⟨m', hm, w'⟩ := hN _ _ n10
      have w11 := mt_append (X := X) _ s10 σ8 H10 (.ref D) [yv] (.ref D) [y] (fun v H' => v = .non ∧ H' = upd H10 D (.lst (ys ++ [yv]))) I10 rfl (.cons r10 .nil) ⟨D, ys, yv, rfl, rfl, hD10, hl, rfl, rfl⟩
      rw [hx] at w11
      refine thn w11 fun _ s11 ⟨_, H11, I11, _, _, e11⟩ => ?_
      subst e11
      obtain ⟨a1, a2, a3⟩ := again ex8 I11
      exact ⟨m', hm, i + 1, _, _, a1, a2, a3, w'⟩
theorem pe_comp {elt iter tg : Expr} {ifs : List Expr} {scope : Scope} {pos : Pos} {N' : List Str} {k : Nat} {fm : List Nat} {wi : TI} {g : TG} {tt : TT} {te : TE} (B : BlkScope X N' k fm scope) (hc : X.calm = true) (hi : PI X tg iter wi)
    (hb : ∀ fp s H, PG (blk X N' scope fp s H) tg g ∧ PTs (blk X N' scope fp s H) ifs tt ∧ PE (blk X N' scope fp s H) elt te)
    (hs : ∀ x, foldedSetIterable iter X.env x = pure x := by intro _; rfl) : PE X (.ListComp elt [⟨tg, iter, ifs, 0⟩] scope pos) (tComp k fm wi g tt te) := by
  intro pins s σ H Q I h
  have hfree : ∀ x ∈ scope.names, x.2 = .free → ∃ c, X.env.cells.lookup x.1 = some c := fun x hx hk => I.ok.has x.1 (B.free x hx hk)
  rw [eval_ListComp]
  refine wpAny_comprehension_free (use := none) rfl hs (closureFor_eq hfree) B.kind B.names (thn (hi pins s σ H _ I h) fun v s1 h1 => thn h1 fun itv s2 h2 => ?_)
  obtain ⟨it, fp, tn, J, H2, e, I2, T, st2, f2, h2⟩ := h2
  subst e
  obtain ⟨W, ⟨m0, w0⟩, turn⟩ := h2 s2.heap.objs.size I2.fresh
  refine wpAny_newObj_type (wpAny_newFunctionEnv B.nocell (by intro y hy; simp at hy) (fun h4 hns4 hsb4 => ?_) B.kind)
  have I3 := I2.lnew (its := []) (ys := []) (t' := s2.toks) .nil (Nat.zero_le _)
  have hf3 : ∀ b ∈ fp, FpOk X pins (upd H2 s2.heap.objs.size (.lst [])) b := fun b hb => by
    obtain ⟨o, e, _⟩ := T.obj _ _ st2 b hb
    refine ⟨?_, (f2 b hb).2⟩
    rw [upd_ne (fun z => Nat.lt_irrefl _ (z ▸ Heap.lt_size e))]
    exact (f2 b hb).1
  have ho3 : ∀ b ∈ fp, ∃ o, (s2.heap.push { cls := .type "list", data := .seq ([] : List Value).toArray }).get? b = some o := fun b hb => by
    obtain ⟨o, e, _⟩ := T.obj _ _ st2 b hb
    exact ⟨o, Heap.get?_push_of_some _ e⟩
  have kp4 : ∀ b o, (s2.heap.push { cls := .type "list", data := .seq ([] : List Value).toArray }).get? b = some o → h4.get? b = some o := fun b o e =>
    hsb4.extBut b o (fun z => Nat.lt_irrefl _ (z ▸ Heap.lt_size e)) (Heap.get?_push_of_some _ e)
  have I4 := I3.block (fp := fp) (h' := h4) (tk := s2.toks + ([] : List (Str × Value)).length) B hf3 ho3 hns4 kp4
  generalize hs3 : ({ s2 with heap := s2.heap.push { cls := .type "list", data := .seq ([] : List Value).toArray }, toks := s2.toks } : Shared) = s3 at *
  obtain ⟨hg, ht, he⟩ := hb fp s3 (upd H2 s2.heap.objs.size (.lst []))
  have st4 : tn 0 h4 := T.keep _ _ _ st2 fun b hb o e => kp4 b o (Heap.get?_push_of_some _ e)
  have stat : ∀ {H' : Hp}, (∀ b ∈ fp, H' b = none) → ∀ b ∈ fp, FpOk (blk X N' scope fp s3 (upd H2 s2.heap.objs.size (.lst []))) [] H' b := fun {H'} hn b hb => by
    obtain ⟨f0, f1, f3, f4, f5, f6⟩ := hf3 b hb
    obtain ⟨g1, g2⟩ := I4.ok.exf b hb
    exact ⟨hn b hb, g1, I4.ok.exfs b hb, .inl hb, g2, fun p hp => f6 p ((List.mem_append.mp hp).elim (fun z => List.mem_append_left _ z) fun z => absurd z (by simp))⟩
  have loop : codeAny (model X.prog X.w) X.A (.compLoop (.ListComp elt [⟨tg, iter, ifs, 0⟩] scope pos) 0 (.ref it) (.ref s2.heap.objs.size) (compEnvC scope (clOf X.env scope.names []) s3.heap.objs.size X.env))
      (compPost (model X.prog X.w) X.A X.xe none (EP X pins σ Q) (.ref s2.heap.objs.size) s3.heap.objs.size) { s3 with heap := h4, toks := s2.toks + ([] : List (Str × Value)).length } := by
    refine blk_loop (X := blk X N' scope fp s3 (upd H2 s2.heap.objs.size (.lst []))) (D := s2.heap.objs.size) (Q := Q) (W := W) (m0 := m0) rfl hc T stat hg ht he turn I4 st4 (fun b hb => (hf3 b hb).1) w0 ?_
    intro H' s' I' q
    obtain ⟨m, hn, _⟩ := I'.loc
    refine ⟨m, hn, fun h'' hs'' => ?_⟩
    have hC : s3.heap.get? s3.heap.objs.size = none := by
      cases e : s3.heap.get? s3.heap.objs.size with
      | none => rfl
      | some o => exact absurd (Heap.lt_size e) (Nat.lt_irrefl _)
    have u : Un (frs X.stack) fp (upd H2 s2.heap.objs.size (.lst [])) H' s3.heap h'' := Un.tail I'.base (fun b o hb e => hs''.extBut b o hb e) hC
    refine ⟨.ref s2.heap.objs.size, H', ?_, rfl, q⟩
    refine I3.call' (s' := { s' with heap := h'' }) (ch := fp) I'.os u (I'.hok.tail (fun b o hb e => hs''.extBut b o hb e) I'.free) I'.bare fun b hb => ?_
    obtain ⟨f0, f1, f3, f4, f5, f6⟩ := hf3 b hb
    exact ⟨f4, f1, f5, f6⟩
  subst hs3
  exact codeAny_compStart_list loop (T.self X.A 0 _ _ _ st4 loop)
end
end L2

namespace L2
open PySem PySem.Spec PyProof.Rows

/-! ### the signs of a text, walked -/
noncomputable def Its (z : Str) : It := ⟨fun i _ => i < z.cps.size, fun i H x H' => H' = H ∧ ∃ c, z.cps[i]? = some c ∧ x = .str ⟨#[c]⟩, fun i _ => z.cps.size ≤ i⟩
section
variable {X : Cx} {tg : Expr}
noncomputable def iStr (tl : TE) : TI := fun σ H R => tl σ H fun x H1 => ∃ z, x = .str z ∧ R (Its z) H1
end

/-! ### a part of a text -/
section
variable {X : Cx}
noncomputable def rSlS : V → Option Int → Option Int → Hp → VK → Prop := fun x lo hi H Q => ∃ z, x = .str z ∧ z.length ≤ sizeLine ∧ Q (.str (Txt.slice z lo hi)) H

/-! ### all of a list of truths -/
noncomputable def rAll (K : PySem.W.Frag) : List V → Hp → VK → Prop := fun xs H Q => ∃ (a : Addr) (bs : List Bool), xs = [.ref a] ∧ SqL K H a (bs.map V.bl) ∧ Q (.bl (bs.all id)) H

/-! ### isinstance -/
noncomputable def rIsi (K : PySem.W.Frag) : List V → Hp → VK → Prop := fun xs H Q => ∃ x n t b, xs = [x, .ty n] ∧ TyOf K H x t ∧ PySem.W.kitOne K t (.type n) = some b ∧ Q (.bl b) H
theorem call_isi : CallR X (.builtin "isinstance") (rIsi X.K) := by
  intro pins s σ H xs us Q I r h
  obtain ⟨x, n, t, b, rfl, ty, e, q⟩ := h
  obtain ⟨u, u2, rfl, ru, ru2⟩ := vals2 r
  cases ru2
  exact isinst_ok I ru ty e fun tk => ⟨.bl b, H, I.tok tk, rfl, q⟩

/-! ### list + list, lists that are read -/
noncomputable def rCatS (K : PySem.W.Frag) : R2 := fun x y H Q => ∃ l b xs zs, x = .ref l ∧ y = .ref b ∧ SqL K H l xs ∧ SqL K H b zs ∧ xs.length + zs.length ≤ sizeLine ∧ ∀ p, H p = none → Q (.ref p) (upd H p (.lst (xs ++ zs)))
theorem op_catS : OpR X (binaryOp .Add) (rCatS X.K) := by
  intro pins s σ H x y v u Q I rx ry h
  obtain ⟨l, b, xs, zs, rfl, rfl, hH, hB, hz, q⟩ := h
  cases rx
  cases ry
  obtain ⟨vs, r, p, z⟩ := I.list hH
  obtain ⟨ws, r2, p2, z2⟩ := I.list hB
  have l1 := r.length
  have l2 := r2.length
  obtain ⟨⟨cls, dd, data, sl⟩, n, ho, hc, hdd, hd⟩ := p
  obtain ⟨⟨cls2, dd2, data2, sl2⟩, n2, ho2, hc2, hdd2, hd2⟩ := p2
  simp only at hc hd hc2 hd2
  subst hc hd hc2 hd2
  have e : vs.toArray ++ ws.toArray = (vs ++ ws).toArray := by simp
  refine concat_meets ⟨_, ho, rfl⟩ ⟨_, ho2, rfl⟩ noFill_list_add seq_list_add PySem.F.slot_list_add PySem.F.entry_list_add (PySem.F.args_list_add_2 _ _) (list_addW l b vs.toArray ws.toArray n n2 dd dd2 sl sl2 (by simp; omega)) ⟨ho, ho2, ?_⟩
  rw [e]
  exact ⟨.ref _, _, I.lnew (t' := s.toks) (r.append r2) (by rw [List.length_append]; omega), rfl, q _ I.fresh⟩
end
end L2

namespace L2
open PySem PySem.Spec PyProof.Rows
/-! ### a comprehension's scope, by lists -/
inductive Slots (X : Cx) (scope : Scope) : List Str → List Nat → Prop
  | nil : Slots X scope [] []
  | cons {x : Str} {j : Nat} {xs : List Str} {js : List Nat} (h1 : scope.names.lookup x = some .free) (h2 : X.env.kindOf x = some .cell ∨ X.env.kindOf x = some .free) (h3 : X.N[j]? = some x) (r : Slots X scope xs js) : Slots X scope (x :: xs) (j :: js)
theorem Slots.len {X : Cx} {scope : Scope} : ∀ {xs : List Str} {js : List Nat}, Slots X scope xs js → xs.length = js.length
  | _, _, .nil => rfl
  | _, _, .cons _ _ _ r => by simp [r.len]
theorem Slots.kind {X : Cx} {scope : Scope} : ∀ {xs : List Str} {js : List Nat}, Slots X scope xs js → ∀ x ∈ xs, X.env.kindOf x = some .cell ∨ X.env.kindOf x = some .free
  | _, _, .nil, x, h => absurd h (by simp)
  | _, _, .cons _ h2 _ r, x, h => by
    rcases List.mem_cons.mp h with e | e
    · subst e; exact h2
    · exact r.kind x e
theorem Slots.get {X : Cx} {scope : Scope} : ∀ {xs : List Str} {js : List Nat}, Slots X scope xs js → ∀ (i : Nat) (x : Str), xs[i]? = some x → scope.names.lookup x = some .free ∧ ∃ j, js[i]? = some j ∧ X.N[j]? = some x
  | _, _, .nil, i, x, h => by simp at h
  | _, _, .cons h1 _ h3 r, 0, x, h => by
    simp only [List.getElem?_cons_zero, Option.some.injEq] at h
    subst h
    exact ⟨h1, _, by simp, h3⟩
  | _, _, .cons _ _ _ r, i + 1, x, h => by simpa using r.get i x (by simpa using h)
theorem blk_mk {X : Cx} {own fr : List Str} {fm : List Nat} {scope : Scope} (kind : scope.kind = .function) (h1 : ∀ y ∈ scope.names, y.2 ≠ .cell) (h2 : ∀ y ∈ scope.names, y.2 = .local → scope.names.lookup y.1 = some .local)
    (h3 : ∀ y ∈ scope.names, y.2 = .free → y.1 ∈ fr) (S : Slots X scope fr fm) : BlkScope X (own ++ fr) own.length fm scope :=
  ⟨kind, h1, h2, fun y hy hk => S.kind y.1 (h3 y hy hk), by rw [List.length_append, S.len], fun i x hi h => by
    rw [List.getElem?_append_right hi] at h
    exact S.get _ x h⟩
section
variable {X : Cx}
/-! ### rules that serve several kinds at once -/
theorem op_inA : OpR X (compareOp .In) (fun x y H Q => (∃ i j, x = .str i ∧ y = .str j ∧ Q (.bl (!(Builtin.Str.occurrences j i 0 j.length 1).isEmpty)) H) ∨ rIn X.K false x y H Q) := op_in_str.or op_in_seq
end
/-! ### a comprehension, by what its turns keep -/
theorem comp_list {K : PySem.W.Frag} {a : Addr} {xs : List V} {g : TG} {tt : TT} {te : TE} {σ0 : St} {H : Hp} {D : Addr} {Q : VK} (hz : xs.length < sizeLine) (Pv : Nat → List V → Hp → Prop) (h0 : Pv 0 [] (upd H D (.lst [])))
    (hl : ∀ i ys H, i ≤ xs.length → Pv i ys H → SqL K H a xs ∧ H D = some (.lst ys) ∧ ys.length ≤ i)
    (hs : ∀ i x ys H, xs[i]? = some x → Pv i ys H → g x σ0 H fun σ3 H4 => Ext σ0 σ3 ∧ tt σ3 H4 fun b H5 => if b = true then te σ3 H5 fun y H6 => H6 D = some (.lst ys) ∧ Pv (i + 1) (ys ++ [y]) (upd H6 D (.lst (ys ++ [y]))) else Pv (i + 1) ys H5)
    (hd : ∀ ys H, Pv xs.length ys H → Q (.ref D) H) :
    ∃ W : Nat → Nat → List V → Hp → Prop, (∃ m, W 0 m [] (upd H D (.lst []))) ∧ ∀ i m ys H2, W i m ys H2 → H2 D = some (.lst ys) ∧ ys.length < sizeLine ∧ (((Itl K a).stop i H2 ∧ Q (.ref D) H2) ∨ ((Itl K a).go i H2 ∧ ∃ N : List V → Hp → Prop, (∀ ys' H', N ys' H' → ∃ m', m' < m ∧ W (i + 1) m' ys' H') ∧ ∀ x H3, (Itl K a).yld i H2 x H3 →
      g x σ0 H3 fun σ3 H4 => Ext σ0 σ3 ∧ tt σ3 H4 fun b H5 => if b = true then te σ3 H5 fun y H6 => H6 D = some (.lst ys) ∧ N (ys ++ [y]) (upd H6 D (.lst (ys ++ [y]))) else N ys H5)) := by
  refine ⟨fun i m ys H => m = xs.length - i ∧ i ≤ xs.length ∧ Pv i ys H, ⟨xs.length, by simp, Nat.zero_le _, h0⟩, ?_⟩
  rintro i m ys H2 ⟨rfl, hi, p⟩
  obtain ⟨l0, l1, l2⟩ := hl i ys H2 hi p
  refine ⟨l1, by omega, ?_⟩
  by_cases hlt : i < xs.length
  · refine .inr ⟨⟨xs, xs[i], l0, by simp [hlt]⟩, Pv (i + 1), fun ys' H' p' => ⟨_, (by omega : xs.length - (i + 1) < xs.length - i), rfl, hlt, p'⟩, fun x H3 y => ?_⟩
    obtain ⟨e, y⟩ := y
    subst e
    exact hs i x ys _ (y xs l0) p
  · have e : i = xs.length := by omega
    subst e
    exact .inl ⟨⟨xs, l0, Nat.le_refl _⟩, hd ys H2 p⟩
/-! ### the same, with what is walked reckoned first -/
noncomputable def ForW (g : TG) (tb : TS) (D : Ends) (σ : St) (J : It) (H1 : Hp) : Prop := ∃ W : Nat → Nat → St → Hp → Prop, (∃ m, W 0 m σ H1) ∧ ∀ i m σ H, W i m σ H →
  (J.stop i H ∧ D.nx σ H) ∨ (J.go i H ∧ ∃ N : St → Hp → Prop, (∀ σ' H', N σ' H' → ∃ m', m' < m ∧ W (i + 1) m' σ' H') ∧ ∀ x H', J.yld i H x H' → g x σ H' fun σ2 H2 => tb { D with nx := N, ct := N, bk := D.nx } σ2 H2)
noncomputable def ForL (K : PySem.W.Frag) (g : TG) (tb : TS) (D : Ends) (σ : St) : VK := fun x H1 => ∃ a, x = .ref a ∧ (∃ xs, SqL K H1 a xs) ∧ ForW g tb D σ (Itl K a) H1
noncomputable def ForT (K : PySem.W.Frag) (g : TG) (tb : TS) (D : Ends) (σ : St) : VK := fun x H1 => ∃ a, x = .ref a ∧ (∃ xs, SqT K H1 a xs) ∧ ForW g tb D σ (Itt K a) H1
noncomputable def ForS (g : TG) (tb : TS) (D : Ends) (σ : St) : VK := fun x H1 => ∃ z, x = .str z ∧ ForW g tb D σ (Its z) H1
noncomputable def ForR (g : TG) (tb : TS) (D : Ends) (σ : St) : List V → Hp → Prop := fun vs H1 => ∃ j : Int, vs = [.int j] ∧ -(2 ^ 62) ≤ j ∧ j < 2 ^ 62 ∧ ForW g tb D σ (Itr 0 j.toNat) H1
noncomputable def ForR2 (g : TG) (tb : TS) (D : Ends) (σ : St) : List V → Hp → Prop := fun vs H1 => ∃ i j : Int, vs = [.int i, .int j] ∧ (-(2 ^ 62) ≤ i ∧ i < 2 ^ 62 ∧ -(2 ^ 62) ≤ j ∧ j < 2 ^ 62) ∧ ForW g tb D σ (Itr i (j - i).toNat) H1
section
variable {K : PySem.W.Frag} {te : TE} {ta : TA} {g : TG} {tb : TS} {D : Ends} {σ : St} {H : Hp}
theorem tFor_list : tFor (iList K te) g tb D σ H = te σ H (ForL K g tb D σ) := rfl
theorem tFor_tup : tFor (iTup K te) g tb D σ H = te σ H (ForT K g tb D σ) := rfl
theorem tFor_str : tFor (iStr te) g tb D σ H = te σ H (ForS g tb D σ) := rfl
theorem tFor_rng1 : tFor (iRng1 ta) g tb D σ H = ta σ H (ForR g tb D σ) := rfl
theorem tFor_rng2 : tFor (iRng2 ta) g tb D σ H = ta σ H (ForR2 g tb D σ) := rfl
theorem ForL.of {a : Addr} {xs : List V} (Pv : Nat → St → Hp → Prop) (h0 : Pv 0 σ H) (hl : ∀ i σ H, i ≤ xs.length → Pv i σ H → SqL K H a xs)
    (hs : ∀ i x σ H, xs[i]? = some x → Pv i σ H → g x σ H fun σ2 H2 => tb { D with nx := Pv (i + 1), ct := Pv (i + 1), bk := D.nx } σ2 H2) (hd : ∀ σ H, Pv xs.length σ H → D.nx σ H) : ForL K g tb D σ (.ref a) H :=
  ⟨a, rfl, ⟨xs, hl 0 _ _ (Nat.zero_le _) h0⟩, for_list Pv h0 hl hs hd⟩
theorem ForR.of {n : Int} (h1 : n < 2 ^ 62) (h2 : -(2 ^ 62) ≤ n) (Pv : Nat → St → Hp → Prop) (h0 : Pv 0 σ H)
    (hs : ∀ i σ H, i < n.toNat → Pv i σ H → g (.int (i : Int)) σ H fun σ2 H2 => tb { D with nx := Pv (i + 1), ct := Pv (i + 1), bk := D.nx } σ2 H2) (hd : ∀ σ H, Pv n.toNat σ H → D.nx σ H) : ForR g tb D σ [.int n] H :=
  ⟨n, rfl, h2, h1, for_range (n := n.toNat) Pv h0 (fun i σ H hi p => by
    have e : (0 : Int) + (i : Int) = i := by omega
    rw [e]; exact hs i σ H hi p) hd⟩
end
noncomputable def CompW (g : TG) (tt : TT) (te : TE) (σ0 : St) (Q : VK) (J : It) (H1 : Hp) : Prop := ∀ DD, H1 DD = none → ∃ W : Nat → Nat → List V → Hp → Prop,
  (∃ m, W 0 m [] (upd H1 DD (.lst []))) ∧ ∀ i m ys H2, W i m ys H2 → H2 DD = some (.lst ys) ∧ ys.length < sizeLine ∧ ((J.stop i H2 ∧ Q (.ref DD) H2) ∨ (J.go i H2 ∧ ∃ N : List V → Hp → Prop, (∀ ys' H', N ys' H' → ∃ m', m' < m ∧ W (i + 1) m' ys' H') ∧ ∀ x H3, J.yld i H2 x H3 →
    g x σ0 H3 fun σ3 H4 => Ext σ0 σ3 ∧ tt σ3 H4 fun b H5 => if b = true then te σ3 H5 fun y H6 => H6 DD = some (.lst ys) ∧ N (ys ++ [y]) (upd H6 DD (.lst (ys ++ [y]))) else N ys H5))
noncomputable def CompL (K : PySem.W.Frag) (g : TG) (tt : TT) (te : TE) (σ0 : St) (Q : VK) : VK := fun x H1 => ∃ a, x = .ref a ∧ (∃ xs, SqL K H1 a xs) ∧ CompW g tt te σ0 Q (Itl K a) H1
noncomputable def CompT (K : PySem.W.Frag) (g : TG) (tt : TT) (te : TE) (σ0 : St) (Q : VK) : VK := fun x H1 => ∃ a, x = .ref a ∧ (∃ xs, SqT K H1 a xs) ∧ CompW g tt te σ0 Q (Itt K a) H1
noncomputable def CompS (g : TG) (tt : TT) (te : TE) (σ0 : St) (Q : VK) : VK := fun x H1 => ∃ z, x = .str z ∧ CompW g tt te σ0 Q (Its z) H1
noncomputable def CompR (g : TG) (tt : TT) (te : TE) (σ0 : St) (Q : VK) : List V → Hp → Prop := fun vs H1 => ∃ j : Int, vs = [.int j] ∧ -(2 ^ 62) ≤ j ∧ j < 2 ^ 62 ∧ CompW g tt te σ0 Q (Itr 0 j.toNat) H1
section
variable {K : PySem.W.Frag} {k : Nat} {fm : List Nat} {tl te : TE} {ta : TA} {g : TG} {tt : TT} {σ σ0 : St} {H H1 : Hp} {Q : VK}
theorem tComp_list : tComp k fm (iList K tl) g tt te σ H Q = tl σ H (CompL K g tt te (blkSt k fm σ) Q) := rfl
theorem tComp_tup : tComp k fm (iTup K tl) g tt te σ H Q = tl σ H (CompT K g tt te (blkSt k fm σ) Q) := rfl
theorem tComp_str : tComp k fm (iStr tl) g tt te σ H Q = tl σ H (CompS g tt te (blkSt k fm σ) Q) := rfl
theorem tComp_rng1 : tComp k fm (iRng1 ta) g tt te σ H Q = ta σ H (CompR g tt te (blkSt k fm σ) Q) := rfl
theorem CompL.of {a : Addr} {xs : List V} (hz : xs.length < sizeLine) (hx : SqL K H1 a xs) (Pv : Addr → Nat → List V → Hp → Prop) (h0 : ∀ D, H1 D = none → Pv D 0 [] (upd H1 D (.lst [])))
    (hl : ∀ D i ys H', H1 D = none → i ≤ xs.length → Pv D i ys H' → SqL K H' a xs ∧ H' D = some (.lst ys) ∧ ys.length ≤ i)
    (hs : ∀ D i x ys H', H1 D = none → xs[i]? = some x → Pv D i ys H' → g x σ0 H' fun σ3 H4 => Ext σ0 σ3 ∧ tt σ3 H4 fun b H5 => if b = true then te σ3 H5 fun y H6 => H6 D = some (.lst ys) ∧ Pv D (i + 1) (ys ++ [y]) (upd H6 D (.lst (ys ++ [y]))) else Pv D (i + 1) ys H5)
    (hd : ∀ D ys H', H1 D = none → Pv D xs.length ys H' → Q (.ref D) H') : CompL K g tt te σ0 Q (.ref a) H1 :=
  ⟨a, rfl, ⟨xs, hx⟩, fun D hD => comp_list hz (Pv D) (h0 D hD) (fun i ys H' => hl D i ys H' hD) (fun i x ys H' => hs D i x ys H' hD) fun ys H' => hd D ys H' hD⟩
end
end L2

namespace L2
open PySem PySem.Spec PyProof.Rows
/-! ### plain data, as trees -/
inductive D where
  | non | bl (b : Bool) | int (i : Int) | str (z : Str) | lst (xs : List D) | tup (xs : List D)
mutual
noncomputable def Rep (K : PySem.W.Frag) (H : Hp) : D → V → Prop
  | .non, v => v = .non
  | .bl b, v => v = .bl b
  | .int i, v => v = .int i
  | .str z, v => v = .str z
  | .lst ds, v => ∃ a xs, v = .ref a ∧ SqL K H a xs ∧ RepL K H ds xs
  | .tup ds, v => ∃ a xs, v = .ref a ∧ SqT K H a xs ∧ RepL K H ds xs
noncomputable def RepL (K : PySem.W.Frag) (H : Hp) : List D → List V → Prop
  | [], xs => xs = []
  | d :: ds, xs => ∃ y ys, xs = y :: ys ∧ Rep K H d y ∧ RepL K H ds ys
end
mutual
noncomputable def deq : D → D → Bool
  | .non, .non => true
  | .bl a, .bl b => a == b
  | .bl a, .int b => (if a then 1 else 0) == b
  | .int a, .bl b => a == (if b then 1 else 0)
  | .int a, .int b => a == b
  | .str a, .str b => a == b
  | .lst a, .lst b => deqL a b
  | .tup a, .tup b => deqL a b
  | _, _ => false
noncomputable def deqL : List D → List D → Bool
  | [], [] => true
  | a :: as, b :: bs => deq a b && deqL as bs
  | _, _ => false
end
mutual
noncomputable def dep : D → Nat
  | .lst ds => depL ds + 1
  | .tup ds => depL ds + 1
  | _ => 0
noncomputable def depL : List D → Nat
  | [] => 0
  | d :: ds => max (dep d) (depL ds)
end
mutual
theorem deq_refl : ∀ d : D, deq d d = true
  | .non => rfl
  | .bl a => by simp [deq]
  | .int a => by simp [deq]
  | .str a => by simp [deq]
  | .lst a => by simp only [deq]; exact deqL_refl a
  | .tup a => by simp only [deq]; exact deqL_refl a
theorem deqL_refl : ∀ ds : List D, deqL ds ds = true
  | [] => rfl
  | d :: ds => by simp only [deqL, deq_refl d, deqL_refl ds, Bool.and_self]
end
theorem RepL.len {K : PySem.W.Frag} {H : Hp} : ∀ {ds : List D} {xs : List V}, RepL K H ds xs → ds.length = xs.length
  | [], xs, h => by simp only [RepL] at h; subst h; rfl
  | d :: ds, xs, h => by
    simp only [RepL] at h
    obtain ⟨y, ys, rfl, _, r⟩ := h
    simp [r.len]
noncomputable def eAt (ds es : List D) (j : Nat) : Bool := match ds[j]?, es[j]? with
  | some d, some e => deq d e
  | _, _ => true
theorem eAt_all : ∀ (ds es : List D), ((List.range (min ds.length es.length)).all (eAt ds es) && ds.length == es.length) = deqL ds es
  | [], [] => by simp [deqL]
  | [], e :: es => by simp [deqL]
  | d :: ds, [] => by simp [deqL]
  | d :: ds, e :: es => by
    have ih := eAt_all ds es
    have h1 : min (d :: ds).length (e :: es).length = min ds.length es.length + 1 := by simp only [List.length_cons]; omega
    rw [h1, List.range_succ_eq_map, List.all_cons, List.all_map]
    have h2 : (eAt (d :: ds) (e :: es) ∘ Nat.succ) = eAt ds es := by funext j; simp [eAt]
    have h3 : eAt (d :: ds) (e :: es) 0 = deq d e := by simp [eAt]
    rw [h2, h3]
    simp only [deqL, ← ih, List.length_cons, Bool.and_assoc]
    congr 2
    simp
section
variable {X : Cx} {pins : List (Addr × Obj)} {σ : St} {H : Hp} {s : Shared}
mutual
theorem rep_inj (I : Inv X pins σ H s) : ∀ (d e : D) (x : V), Rep X.K H d x → Rep X.K H e x → d = e
  | d, e, x, hd, he => by
    cases d with
    | non =>
      simp only [Rep] at hd; subst hd
      cases e <;> simp only [Rep] at he <;> first | rfl | (obtain ⟨a, xs, z, _⟩ := he; cases z; done) | (cases he; done)
    | bl b =>
      simp only [Rep] at hd; subst hd
      cases e <;> simp only [Rep] at he <;> first | (obtain ⟨a, xs, z, _⟩ := he; cases z; done) | (cases he; rfl) | (cases he; done)
    | int b =>
      simp only [Rep] at hd; subst hd
      cases e <;> simp only [Rep] at he <;> first | (obtain ⟨a, xs, z, _⟩ := he; cases z; done) | (cases he; rfl) | (cases he; done)
    | str b =>
      simp only [Rep] at hd; subst hd
      cases e <;> simp only [Rep] at he <;> first | (obtain ⟨a, xs, z, _⟩ := he; cases z; done) | (cases he; rfl) | (cases he; done)
    | lst ds =>
      simp only [Rep] at hd
      obtain ⟨a, xs, rfl, hx, r⟩ := hd
      cases e with
      | lst es =>
        simp only [Rep] at he
        obtain ⟨a', xs', z, hx', r'⟩ := he
        cases z
        have := I.list_inj hx hx'
        subst this
        rw [repL_inj I ds es xs r r']
      | tup es =>
        simp only [Rep] at he
        obtain ⟨a', xs', z, hx', r'⟩ := he
        cases z
        exfalso
        obtain ⟨_, _, p, _⟩ := I.list hx
        obtain ⟨_, _, q, _⟩ := I.tuple hx'
        obtain ⟨o, n, e1, e2, _⟩ := p
        obtain ⟨o', e1', e2', _⟩ := q
        rw [e1] at e1'; cases e1'
        rw [e2] at e2'; exact absurd e2' (by decide)
      | _ => simp only [Rep] at he; cases he
    | tup ds =>
      simp only [Rep] at hd
      obtain ⟨a, xs, rfl, hx, r⟩ := hd
      cases e with
      | tup es =>
        simp only [Rep] at he
        obtain ⟨a', xs', z, hx', r'⟩ := he
        cases z
        have := I.tuple_inj hx hx'
        subst this
        rw [repL_inj I ds es xs r r']
      | lst es =>
        simp only [Rep] at he
        obtain ⟨a', xs', z, hx', r'⟩ := he
        cases z
        exfalso
        obtain ⟨_, _, p, _⟩ := I.list hx'
        obtain ⟨_, _, q, _⟩ := I.tuple hx
        obtain ⟨o, n, e1, e2, _⟩ := p
        obtain ⟨o', e1', e2', _⟩ := q
        rw [e1] at e1'; cases e1'
        rw [e2] at e2'; exact absurd e2' (by decide)
      | _ => simp only [Rep] at he; cases he
theorem repL_inj (I : Inv X pins σ H s) : ∀ (ds es : List D) (xs : List V), RepL X.K H ds xs → RepL X.K H es xs → ds = es
  | [], es, xs, hd, he => by
    simp only [RepL] at hd
    subst hd
    cases es with
    | nil => rfl
    | cons e es => simp only [RepL] at he; obtain ⟨y, ys, z, _⟩ := he; cases z
  | d :: ds, es, xs, hd, he => by
    simp only [RepL] at hd
    obtain ⟨y, ys, rfl, r, rs⟩ := hd
    cases es with
    | nil => simp only [RepL] at he; cases he
    | cons e es =>
      simp only [RepL] at he
      obtain ⟨y', ys', z, r', rs'⟩ := he
      cases z
      rw [rep_inj I d e y r r', repL_inj I ds es ys rs rs']
end
theorem isTuple_of {h : Heap} {a : Addr} {its : Array Value} (p : IsTup h a its) : h.IsTuple a its := by
  obtain ⟨o, e, c, n, d⟩ := p
  exact ⟨o, e, c, n, d⟩
mutual
theorem eq_deep (I : Inv X pins σ H s) : ∀ (d e : D) (x y : V) (u v : Value) (A : Around), A.units + dep d < cLine → Rep X.K H d x → Rep X.K H e y → RelV x u → RelV y v → SeqAt.EqAt A s u v (deq d e)
  | .non, e, x, y, u, v, A, hu, hd, he, rx, ry => by
    have hu : A.units < cLine := by omega
    simp only [Rep] at hd; subst hd; cases rx
    cases e <;> simp only [Rep] at he
    · subst he; cases ry; exact SeqAt.EqAt.same _
    · subst he; cases ry; exact SeqAt.EqAt.none_bool _
    · subst he; obtain ⟨t, rfl⟩ := ry; exact SeqAt.EqAt.none_int _ _
    · subst he; obtain ⟨t, rfl⟩ := ry; exact SeqAt.EqAt.none_str _ _
    · obtain ⟨a, xs, rfl, hx, _⟩ := he; cases ry; obtain ⟨_, _, p, _⟩ := I.list hx; exact SeqAt.EqAt.none_list p.isList hu
    · obtain ⟨a, xs, rfl, hx, _⟩ := he; cases ry; obtain ⟨_, _, p, _⟩ := I.tuple hx; exact SeqAt.EqAt.none_tuple (isTuple_of p) hu
  | .bl b, e, x, y, u, v, A, hu, hd, he, rx, ry => by
    have hu : A.units < cLine := by omega
    simp only [Rep] at hd; subst hd; cases rx
    cases e <;> simp only [Rep] at he
    · subst he; cases ry; exact SeqAt.EqAt.bool_none _
    · subst he; cases ry; exact SeqAt.EqAt.bool_bool _ _
    · subst he; obtain ⟨t, rfl⟩ := ry; exact SeqAt.EqAt.bool_int _ _ _
    · subst he; obtain ⟨t, rfl⟩ := ry; exact SeqAt.EqAt.bool_str _ _ _
    · obtain ⟨a, xs, rfl, hx, _⟩ := he; cases ry; obtain ⟨_, _, p, _⟩ := I.list hx; exact SeqAt.EqAt.bool_list _ p.isList hu
    · obtain ⟨a, xs, rfl, hx, _⟩ := he; cases ry; obtain ⟨_, _, p, _⟩ := I.tuple hx; exact SeqAt.EqAt.bool_tuple _ (isTuple_of p) hu
  | .int b, e, x, y, u, v, A, hu, hd, he, rx, ry => by
    have hu : A.units < cLine := by omega
    simp only [Rep] at hd; subst hd; obtain ⟨t0, rfl⟩ := rx
    cases e <;> simp only [Rep] at he
    · subst he; cases ry; exact SeqAt.EqAt.int_none _ _
    · subst he; cases ry; exact SeqAt.EqAt.int_bool _ _ _
    · subst he; obtain ⟨t, rfl⟩ := ry; exact SeqAt.EqAt.int_int _ _ _ _
    · subst he; obtain ⟨t, rfl⟩ := ry; exact SeqAt.EqAt.int_str _ _ _ _
    · obtain ⟨a, xs, rfl, hx, _⟩ := he; cases ry; obtain ⟨_, _, p, _⟩ := I.list hx; exact SeqAt.EqAt.int_list _ _ p.isList hu
    · obtain ⟨a, xs, rfl, hx, _⟩ := he; cases ry; obtain ⟨_, _, p, _⟩ := I.tuple hx; exact SeqAt.EqAt.int_tuple _ _ (isTuple_of p) hu
  | .str b, e, x, y, u, v, A, hu, hd, he, rx, ry => by
    have hu : A.units < cLine := by omega
    simp only [Rep] at hd; subst hd; obtain ⟨t0, rfl⟩ := rx
    cases e <;> simp only [Rep] at he
    · subst he; cases ry; exact SeqAt.EqAt.str_none _ _
    · subst he; cases ry; exact SeqAt.EqAt.str_bool _ _ _
    · subst he; obtain ⟨t, rfl⟩ := ry; exact SeqAt.EqAt.str_int _ _ _ _
    · subst he; obtain ⟨t, rfl⟩ := ry; exact SeqAt.EqAt.str_str _ _ _ _
    · obtain ⟨a, xs, rfl, hx, _⟩ := he; cases ry; obtain ⟨_, _, p, _⟩ := I.list hx; exact SeqAt.EqAt.str_list _ _ p.isList hu
    · obtain ⟨a, xs, rfl, hx, _⟩ := he; cases ry; obtain ⟨_, _, p, _⟩ := I.tuple hx; exact SeqAt.EqAt.str_tuple _ _ (isTuple_of p) hu
  | .lst ds, e, x, y, u, v, A, hu, hd, he, rx, ry => by
    have hu0 : A.units < cLine := by omega
    simp only [dep] at hu
    simp only [Rep] at hd; obtain ⟨a, xs, rfl, hx, r⟩ := hd; cases rx
    obtain ⟨its, rv, p, hz⟩ := I.list hx
    cases e <;> simp only [Rep] at he
    · subst he; cases ry; exact SeqAt.EqAt.list_none p.isList hu0
    · subst he; cases ry; exact SeqAt.EqAt.list_bool _ p.isList hu0
    · subst he; obtain ⟨t, rfl⟩ := ry; exact SeqAt.EqAt.list_int _ _ p.isList hu0
    · subst he; obtain ⟨t, rfl⟩ := ry; exact SeqAt.EqAt.list_str _ _ p.isList hu0
    · rename_i es
      obtain ⟨b, ys, rfl, hy, r'⟩ := he; cases ry
      obtain ⟨its', rv', p', hz'⟩ := I.list hy
      by_cases hab : a = b
      · subst hab
        have := I.list_inj hx hy
        subst this
        rw [repL_inj I ds es xs r r', deq_refl]
        exact SeqAt.EqAt.same _
      · have l1 := r.len
        have l2 := rv.length
        have l3 := r'.len
        have l4 := rv'.length
        have key := eAt_all ds es
        simp only [deq]
        rw [← key]
        by_cases hl : its.length = its'.length
        · have := SeqAt.EqAt.of_refs hab (SeqAt.RcAt.lists (e := eAt ds es) p.isList p'.isList (by simpa using hl) hu0 (fun j h1 h2 => by
            have q := eq_deepL I ds es xs ys its its' A.in1 (by show A.units + 1 + depL ds < cLine; omega) r r' rv rv' j (by simpa using h1) (by simpa using h2)
            simpa using q))
          have e1 : its.toArray.size = min ds.length es.length := by rw [List.size_toArray]; omega
          rw [e1] at this
          have e2 : (ds.length == es.length) = true := by simp; omega
          rw [e2, Bool.and_true]
          exact this
        · have e2 : (ds.length == es.length) = false := by simp; omega
          rw [e2, Bool.and_false]
          exact SeqAt.EqAt.of_refs hab (SeqAt.RcAt.lists_lengths p.isList p'.isList (by simpa using hl) hu0)
    · obtain ⟨b, ys, rfl, hy, r'⟩ := he; cases ry
      obtain ⟨_, _, q, _⟩ := I.tuple hy
      exact SeqAt.EqAt.list_tuple p.isList (isTuple_of q) hu0
  | .tup ds, e, x, y, u, v, A, hu, hd, he, rx, ry => by
    have hu0 : A.units < cLine := by omega
    simp only [dep] at hu
    simp only [Rep] at hd; obtain ⟨a, xs, rfl, hx, r⟩ := hd; cases rx
    obtain ⟨its, rv, p, hz⟩ := I.tuple hx
    cases e <;> simp only [Rep] at he
    · subst he; cases ry; exact SeqAt.EqAt.tuple_none (isTuple_of p) hu0
    · subst he; cases ry; exact SeqAt.EqAt.tuple_bool _ (isTuple_of p) hu0
    · subst he; obtain ⟨t, rfl⟩ := ry; exact SeqAt.EqAt.tuple_int _ _ (isTuple_of p) hu0
    · subst he; obtain ⟨t, rfl⟩ := ry; exact SeqAt.EqAt.tuple_str _ _ (isTuple_of p) hu0
    · obtain ⟨b, ys, rfl, hy, r'⟩ := he; cases ry
      obtain ⟨_, _, q, _⟩ := I.list hy
      exact SeqAt.EqAt.tuple_list (isTuple_of p) q.isList hu0
    · rename_i es
      obtain ⟨b, ys, rfl, hy, r'⟩ := he; cases ry
      obtain ⟨its', rv', p', hz'⟩ := I.tuple hy
      by_cases hab : a = b
      · subst hab
        have := I.tuple_inj hx hy
        subst this
        rw [repL_inj I ds es xs r r', deq_refl]
        exact SeqAt.EqAt.same _
      · have l1 := r.len
        have l2 := rv.length
        have l3 := r'.len
        have l4 := rv'.length
        have key := eAt_all ds es
        simp only [deq]
        rw [← key]
        have := SeqAt.EqAt.of_refs hab (SeqAt.RcAt.tuples (e := eAt ds es) (isTuple_of p) (isTuple_of p') hu0 (fun j h1 h2 => by
            have q := eq_deepL I ds es xs ys its its' A.in1 (by show A.units + 1 + depL ds < cLine; omega) r r' rv rv' j (by simpa using h1) (by simpa using h2)
            simpa using q))
        have e1 : its.toArray.size = ds.length := by rw [List.size_toArray]; omega
        have e2 : its'.toArray.size = es.length := by rw [List.size_toArray]; omega
        rw [e1, e2] at this
        exact this
theorem eq_deepL (I : Inv X pins σ H s) : ∀ (ds es : List D) (xs ys : List V) (us vs : List Value) (A : Around), A.units + depL ds < cLine → RepL X.K H ds xs → RepL X.K H es ys → Vals xs us → Vals ys vs →
    ∀ (j : Nat) (h1 : j < us.length) (h2 : j < vs.length), SeqAt.EqAt A s us[j] vs[j] (eAt ds es j)
  | [], es, xs, ys, us, vs, A, hu, hd, he, rx, ry, j, h1, h2 => by
    simp only [RepL] at hd
    subst hd
    cases rx
    exact absurd h1 (by simp)
  | d :: ds, es, xs, ys, us, vs, A, hu, hd, he, rx, ry, j, h1, h2 => by
    simp only [depL] at hu
    simp only [RepL] at hd
    obtain ⟨x, xs', rfl, rd, rds⟩ := hd
    cases rx with
    | cons r0 rr =>
      cases es with
      | nil =>
        simp only [RepL] at he
        subst he
        cases ry
        exact absurd h2 (by simp)
      | cons e es =>
        simp only [RepL] at he
        obtain ⟨y, ys', rfl, re, res⟩ := he
        cases ry with
        | cons q0 qr =>
          cases j with
          | zero =>
            have : eAt (d :: ds) (e :: es) 0 = deq d e := by simp [eAt]
            rw [this]
            exact eq_deep I d e x y _ _ A (by omega) rd re r0 q0
          | succ j =>
            have : eAt (d :: ds) (e :: es) (j + 1) = eAt ds es j := by simp [eAt]
            rw [this]
            exact eq_deepL I ds es xs' ys' _ _ A (by omega) rds res rr qr j (by simpa using h1) (by simpa using h2)
end
noncomputable def rEqD (K : PySem.W.Frag) : R2 := fun x y H Q => ∃ ds es, ((Rep K H (.lst ds) x ∧ Rep K H (.lst es) y) ∨ (Rep K H (.tup ds) x ∧ Rep K H (.tup es) y)) ∧ depL ds ≤ 20 ∧ Q (.bl (deqL ds es)) H
theorem op_eqD (hu : X.A.units + 64 < cLine) : OpR X (compareOp .Eq) (rEqD X.K) := by
  intro pins s σ H x y v u Q I rx ry h
  obtain ⟨ds, es, h, hdep, q⟩ := h
  have hu0 : X.A.units < cLine := by omega
  have hin : X.A.in1.units + depL ds < cLine := by show X.A.units + 1 + depL ds < cLine; omega
  have key := eAt_all ds es
  rcases h with ⟨h1, h2⟩ | ⟨h1, h2⟩
  · simp only [Rep] at h1 h2
    obtain ⟨a, xs, rfl, hx, r⟩ := h1
    obtain ⟨b, ys, rfl, hy, r'⟩ := h2
    cases rx
    cases ry
    obtain ⟨its, rv, p, hz⟩ := I.list hx
    obtain ⟨its', rv', p', hz'⟩ := I.list hy
    have l1 := r.len
    have l2 := rv.length
    have l3 := r'.len
    have l4 := rv'.length
    by_cases hl : its.length = its'.length
    · refine SeqAt.eq_listAt (e := eAt ds es) p.isList p'.isList (by simpa using hl) hu0 (fun j h1 h2 => ?_) ?_
      · have q := eq_deepL I ds es xs ys its its' X.A.in1 hin r r' rv rv' j (by simpa using h1) (by simpa using h2)
        simpa using q
      · have e1 : its.toArray.size = min ds.length es.length := by rw [List.size_toArray]; omega
        have e2 : (ds.length == es.length) = true := by simp; omega
        rw [e2, Bool.and_true] at key
        rw [e1, key]
        exact ⟨.bl (deqL ds es), H, I, rfl, q⟩
    · have e2 : (ds.length == es.length) = false := by simp; omega
      rw [e2, Bool.and_false] at key
      rw [← key] at q
      exact SeqAt.eq_list_lengthsAt p.isList p'.isList (by simpa using hl) hu0 ⟨.bl false, H, I, rfl, q⟩
  · simp only [Rep] at h1 h2
    obtain ⟨a, xs, rfl, hx, r⟩ := h1
    obtain ⟨b, ys, rfl, hy, r'⟩ := h2
    cases rx
    cases ry
    obtain ⟨its, rv, p, hz⟩ := I.tuple hx
    obtain ⟨its', rv', p', hz'⟩ := I.tuple hy
    have l1 := r.len
    have l2 := rv.length
    have l3 := r'.len
    have l4 := rv'.length
    refine SeqAt.eq_tupleAt (e := eAt ds es) (isTuple_of p) (isTuple_of p') hu0 (fun j h1 h2 => ?_) ?_
    · have q := eq_deepL I ds es xs ys its its' X.A.in1 hin r r' rv rv' j (by simpa using h1) (by simpa using h2)
      simpa using q
    · have e1 : its.toArray.size = ds.length := by rw [List.size_toArray]; omega
      have e2 : its'.toArray.size = es.length := by rw [List.size_toArray]; omega
      rw [e1, e2, key]
      exact ⟨.bl (deqL ds es), H, I, rfl, q⟩
noncomputable def rNeD (K : PySem.W.Frag) : R2 := fun x y H Q => ∃ ds es, ((Rep K H (.lst ds) x ∧ Rep K H (.lst es) y) ∨ (Rep K H (.tup ds) x ∧ Rep K H (.tup es) y)) ∧ depL ds ≤ 20 ∧ Q (.bl (!deqL ds es)) H
theorem op_neD (hu : X.A.units + 64 < cLine) : OpR X (compareOp .NotEq) (rNeD X.K) := by
  intro pins s σ H x y v u Q I rx ry h
  obtain ⟨ds, es, h, hdep, q⟩ := h
  have hu0 : X.A.units < cLine := by omega
  have hin : X.A.in1.units + depL ds < cLine := by show X.A.units + 1 + depL ds < cLine; omega
  have key := eAt_all ds es
  rcases h with ⟨h1, h2⟩ | ⟨h1, h2⟩
  · simp only [Rep] at h1 h2
    obtain ⟨a, xs, rfl, hx, r⟩ := h1
    obtain ⟨b, ys, rfl, hy, r'⟩ := h2
    cases rx
    cases ry
    obtain ⟨its, rv, p, hz⟩ := I.list hx
    obtain ⟨its', rv', p', hz'⟩ := I.list hy
    have l1 := r.len
    have l2 := rv.length
    have l3 := r'.len
    have l4 := rv'.length
    by_cases hl : its.length = its'.length
    · refine SeqAt.RcNeAt.lists (e := eAt ds es) p.isList p'.isList (by simpa using hl) hu0 (fun j h1 h2 => ?_) X.prog X.w X.xe _ ?_
      · have q := eq_deepL I ds es xs ys its its' X.A.in1 hin r r' rv rv' j (by simpa using h1) (by simpa using h2)
        simpa using q
      · have e1 : its.toArray.size = min ds.length es.length := by rw [List.size_toArray]; omega
        have e2 : (ds.length == es.length) = true := by simp; omega
        rw [e2, Bool.and_true] at key
        rw [e1, key]
        exact ⟨.bl (!deqL ds es), H, I, rfl, q⟩
    · have e2 : (ds.length == es.length) = false := by simp; omega
      rw [e2, Bool.and_false] at key
      rw [← key] at q
      exact SeqAt.RcNeAt.lists_lengths p.isList p'.isList (by simpa using hl) hu0 X.prog X.w X.xe _ ⟨.bl true, H, I, rfl, q⟩
  · simp only [Rep] at h1 h2
    obtain ⟨a, xs, rfl, hx, r⟩ := h1
    obtain ⟨b, ys, rfl, hy, r'⟩ := h2
    cases rx
    cases ry
    obtain ⟨its, rv, p, hz⟩ := I.tuple hx
    obtain ⟨its', rv', p', hz'⟩ := I.tuple hy
    have l1 := r.len
    have l2 := rv.length
    have l3 := r'.len
    have l4 := rv'.length
    refine SeqAt.RcNeAt.tuples (e := eAt ds es) (isTuple_of p) (isTuple_of p') hu0 (fun j h1 h2 => ?_) X.prog X.w X.xe _ ?_
    · have q := eq_deepL I ds es xs ys its its' X.A.in1 hin r r' rv rv' j (by simpa using h1) (by simpa using h2)
      simpa using q
    · have e1 : its.toArray.size = ds.length := by rw [List.size_toArray]; omega
      have e2 : its'.toArray.size = es.length := by rw [List.size_toArray]; omega
      rw [e1, e2, key]
      exact ⟨.bl (!deqL ds es), H, I, rfl, q⟩
end
/-! ### the same rules with the written part named -/
section
variable {X : Cx} {K : PySem.W.Frag}
theorem ix_listK (e : X.K = K) : IxR X (rIxL K) := e ▸ ix_list
theorem ix_tupK (e : X.K = K) : IxR X (rIxT K) := e ▸ ix_tup
theorem sl_listK (e : X.K = K) : SlR X (rSlL K) := e ▸ sl_list
theorem op_catSK (e : X.K = K) : OpR X (binaryOp .Add) (rCatS K) := e ▸ op_catS
theorem op_inAK (e : X.K = K) : OpR X (compareOp .In) (fun x y H Q => (∃ i j, x = .str i ∧ y = .str j ∧ Q (.bl (!(Builtin.Str.occurrences j i 0 j.length 1).isEmpty)) H) ∨ rIn K false x y H Q) := e ▸ op_inA
theorem op_eqDK (hu : X.A.units + 64 < cLine) (e : X.K = K) : OpR X (compareOp .Eq) (rEqD K) := e ▸ op_eqD hu
theorem op_neDK (hu : X.A.units + 64 < cLine) (e : X.K = K) : OpR X (compareOp .NotEq) (rNeD K) := e ▸ op_neD hu
theorem call_lenK (e : X.K = K) : CallR X (.builtin "len") (fun xs H Q => ∃ x n, xs = [x] ∧ LenV K x H n ∧ Q (.int n) H) := e ▸ call_len
theorem call_isiK (e : X.K = K) : CallR X (.builtin "isinstance") (rIsi K) := e ▸ call_isi
theorem call_list_ofK (e : X.K = K) : CallR X (.type "list") (fun xs H Q => ∃ p ys, xs = [.ref p] ∧ (SqL K H p ys ∨ SqT K H p ys) ∧ ∀ l, H l = none → Q (.ref l) (upd H l (.lst ys))) := e ▸ call_list_of
theorem pi_listK {tg l : Expr} {tl : TE} (e : X.K = K) (hl : PE X l tl) : PI X tg l (iList K tl) := e ▸ pi_list hl
theorem pg_tupK {es : List Expr} {k : Nat} {t : TGs} {n : Nat} {pos : Pos} (e : X.K = K) (hc : X.calm = true) (h : PGs X es t)
    (hn : (assignEach es X.env).length = n := by rfl) (hst : (assignEach es X.env).findIdx? (·.1) = none := by rfl) : PG X (.Tuple es k pos) (gTup K n t) := e ▸ pg_tup hc h hn hst
theorem op_isntB : OpR X (compareOp .IsNot) (fun x y H Q => ∃ a b, x = .bl a ∧ y = .bl b ∧ Q (.bl (a != b)) H) := by
  intro pins s σ H x y v u Q I rx ry h
  obtain ⟨a, b, rfl, rfl, q⟩ := h
  cases rx
  cases ry
  exact isnot_bool ⟨.bl (a != b), H, I, rfl, q⟩
end
end L2

namespace L2
open PySem PySem.Spec PyProof.Rows
section
variable {X : Cx}
noncomputable def rStarts : V → List V → Hp → VK → Prop := fun x vs H Q => ∃ z y, x = .str z ∧ vs = [.str y] ∧ Q (.bl (Txt.startswith z y)) H
noncomputable def rIndex : V → List V → Hp → VK → Prop := fun x vs H Q => ∃ z y i, x = .str z ∧ vs = [.str y] ∧ (∃ rest, Builtin.Str.occurrences z y 0 z.length 1 = i :: rest) ∧ Q (.int (i : Nat)) H
end
end L2

namespace L2
open PySem PySem.Spec PyProof.Rows
/-! ### an exception on its way: its object at e, the head of its traces at T -/
noncomputable def ExcIs (h : Heap) (e : Addr) (cls : Value) (dx : Option Addr) (fl : Value) (T : Addr) : Prop :=
  ∃ oe vs oT ts, h.get? e = some oe ∧ oe.cls = cls ∧ oe.dict = dx ∧ oe.data = .fields vs ∧ vs[1]? = some (.ref T) ∧ T ≠ e ∧ h.get? T = some oT ∧ oT.data = .fields ts ∧ ts[3]? = some fl
set_option genInjectivity false in
structure LeftX (fs : List Addr) (e T0 : Addr) (cls : Value) (dx : Option Addr) (fl : Value) (h h' : Heap) : Prop where
  keep : ∀ b o, b ∉ fs → b ≠ e → b ≠ T0 → h.get? b = some o → h'.get? b = some o
  slot : ∀ b o, b ∈ fs → b ≠ e → b ≠ T0 → h.get? b = some o → ∃ sl, h'.get? b = some { o with slots := sl }
  there : ∀ b o, h.get? b = some o → ∃ o', h'.get? b = some o'
  exc : ∃ T, h.objs.size ≤ T ∧ ExcIs h' e cls dx fl T
section
variable {M : Model} {A : Around} {E : Value → Shared → Prop} {s : Shared}
theorem cls_dict_mapFields (f : Array Value → Array Value) (o : Obj) : (Obj.mapFields f o).dict = o.dict := by
  obtain ⟨c, d, da, sl⟩ := o
  cases da <;> rfl
theorem newEntryX {base : Heap} {env : Env} {outer : List Env} {L e T0 : Addr} {oe : Obj} {vs : Array Value} {head : Value} {hadNext : Bool} {Q : Unit → Shared → Prop}
    (hfr : A.frames = some (env :: outer)) (hl : s.heap.FunFrames base (env :: outer)) (hf : env.frame = some L)
    (he : s.heap.get? e = some oe) (hd : oe.data = .fields vs) (hsz : 1 < vs.size)
    (h : ∀ h', LeftX (frs (env :: outer)) e T0 oe.cls oe.dict (rawInt L) s.heap h' → Q () { s with heap := h' }) :
    wpAny M A (do let a ← frameOf env; let pl ← entryPlaceOf L hadNext; let b ← EntryCells.newEntry head a .none (rawInt L) .none pl; setField (.ref e) 1 b) Q E s := by
  have hene : e ∉ (env :: outer).filterMap (·.frame) := fun hm => by
    obtain ⟨_, o, ho, hnf⟩ := hl.mem hm
    rw [he] at ho; injection ho with ho; subst ho; exact hnf vs hd
  refine wpAny_bind (wpAny_frameOf_fun hfr hl hf fun h₁ hs₁ => ?_)
  refine wpAny_bind (wpAny_entryPlaceOf fun pl hpl => ?_)
  unfold EntryCells.newEntry newFields
  refine wpAny_bind (wpAny_newObj_type ?_ (hpl.sizeOk5 _ _ _ _ _))
  have he₁ : h₁.get? e = some oe := (hs₁.2.1 e hene).trans he
  have he₂ := Heap.get?_push_of_some (h := h₁) { cls := .type "traceback", dict := none, data := .fields ([head, .ref L, .none, rawInt L, .none] ++ (if pl.isEmpty then List.replicate 6 Value.none else pl)).toArray } he₁
  refine wpAny_setField he₂ hd hsz (h _ ?_)
  have hTe : h₁.objs.size ≠ e := Nat.ne_of_gt (Heap.lt_size he₁)
  have hd₃ := Obj.data_mapFields hd (·.setIfInBounds 1 (Value.ref h₁.objs.size))
  have he₃ := Heap.get?_update_self (Obj.mapFields (·.setIfInBounds 1 (Value.ref h₁.objs.size))) he₂ (Obj.isFreed_of_fields hd₃)
  have hT₃ := (Heap.get?_update_other (h₁.push { cls := .type "traceback", dict := none, data := .fields ([head, .ref L, .none, rawInt L, .none] ++ (if pl.isEmpty then List.replicate 6 Value.none else pl)).toArray })
    (Obj.mapFields (·.setIfInBounds 1 (Value.ref h₁.objs.size))) (Ne.symm hTe)).trans (Heap.get?_push_size h₁ rfl)
  have keep : ∀ b o, b ≠ e → h₁.get? b = some o →
      ((h₁.push { cls := .type "traceback", dict := none, data := .fields ([head, .ref L, .none, rawInt L, .none] ++ (if pl.isEmpty then List.replicate 6 Value.none else pl)).toArray }).update e (Obj.mapFields (·.setIfInBounds 1 (Value.ref h₁.objs.size)))).get? b = some o :=
    fun b o hbe hb => by
      rw [Heap.get?_update_other _ _ (Ne.symm hbe)]
      exact Heap.get?_push_of_some _ hb
  have new : s.heap.objs.size ≤ h₁.objs.size := Nat.le_of_eq hs₁.1.symm
  refine ⟨fun b o hb hbe _ hbo => keep b o hbe ((hs₁.2.1 b hb).trans hbo), fun b o _ hbe _ hbo => ?_, fun b o hbo => ?_, h₁.objs.size, new, _, _, _, _, he₃, Obj.cls_mapFields _ _, cls_dict_mapFields _ _, hd₃, by simp [hsz], hTe, hT₃, rfl, ?_⟩
  · obtain ⟨sl, hs⟩ := hs₁.2.2 b o hbo
    exact ⟨sl, keep b _ hbe hs⟩
  · by_cases hbe : b = e
    · subst hbe; exact ⟨_, he₃⟩
    · obtain ⟨sl, hs⟩ := hs₁.2.2 b o hbo
      exact ⟨_, keep b _ hbe hs⟩
  · first | (simp; done) | (rcases hpl with rfl | ⟨_, _, _, _, _, _, _, rfl⟩ <;> simp)
noncomputable def ExcNew (h : Heap) (e : Addr) (cls : Value) (dx : Option Addr) : Prop := ∃ oe vs, h.get? e = some oe ∧ oe.cls = cls ∧ oe.dict = dx ∧ oe.data = .fields vs ∧ vs[1]? = some .none
theorem note_new {base : Heap} {env : Env} {outer : List Env} {L e : Addr} {cls : Value} {dx : Option Addr} {Q : Unit → Shared → Prop}
    (hfr : A.frames = some (env :: outer)) (hl : s.heap.FunFrames base (env :: outer)) (hf : env.frame = some L) (hx : ExcNew s.heap e cls dx)
    (h : ∀ h', LeftX (frs (env :: outer)) e e cls dx (rawInt L) s.heap h' → Q () { s with heap := h' }) : wpAny M A (noteFrame (.ref e) env) Q E s := by
  obtain ⟨oe, vs, he, hc, hdx, hd, h1⟩ := hx
  subst hc hdx
  unfold noteFrame
  simp only [hf]
  refine wpAny_bind (wpAny_field he hd h1 ?_)
  rw [if_neg (by decide)]
  exact newEntryX hfr hl hf he hd (Array.getElem?_eq_some_iff.mp h1).1 h
theorem note_next {base : Heap} {env : Env} {outer : List Env} {L e T : Addr} {cls : Value} {dx : Option Addr} {Q : Unit → Shared → Prop}
    (hfr : A.frames = some (env :: outer)) (hl : s.heap.FunFrames base (env :: outer)) (hf : env.frame = some L) (hx : ExcIs s.heap e cls dx .none T)
    (h : ∀ h', LeftX (frs (env :: outer)) e T cls dx (rawInt L) s.heap h' → Q () { s with heap := h' }) : wpAny M A (noteFrame (.ref e) env) Q E s := by
  obtain ⟨oe, vs, oT, ts, he, hc, hdx, hd, h1, hTe, hT, hdT, h3⟩ := hx
  subst hc hdx
  unfold noteFrame
  simp only [hf]
  refine wpAny_bind (wpAny_field he hd h1 ?_)
  rw [if_pos (show (Value.ref T != Value.none) = true from by simp)]
  refine wpAny_bind (wpAny_field hT hdT h3 ?_)
  rw [if_neg (show ¬ ((Value.none == rawInt L) = true) from by simp [rawInt])]
  refine wpAny_bind (wpAny_setField hT hdT (Array.getElem?_eq_some_iff.mp h3).1 ?_)
  have other : ∀ b, b ≠ T → (s.heap.update T (Obj.mapFields (·.setIfInBounds 3 Value.none))).get? b = s.heap.get? b := fun b hb => Heap.get?_update_other _ _ (Ne.symm hb)
  have noRecord : ∀ b o, s.heap.get? b = some o → (∀ vs, o.data ≠ .fields vs) → b ≠ T := fun b o hb hnf q => by
    rw [q, hT] at hb; injection hb with hb; subst hb; exact hnf ts hdT
  have hT' := Heap.get?_update_self (Obj.mapFields (·.setIfInBounds 3 Value.none)) hT (Obj.isFreed_of_fields (Obj.data_mapFields hdT _))
  refine newEntryX (T0 := T) hfr (hl.of_keeps fun b o hb hnf => ⟨o, (other b (noRecord b o hb hnf)).trans hb, rfl⟩) hf ((other e (Ne.symm hTe)).trans he) hd (Array.getElem?_eq_some_iff.mp h1).1 fun h' x => h h' ?_
  refine ⟨fun b o hb hbe hbT hbo => x.keep b o hb hbe hbT ((other b hbT).trans hbo), fun b o hb hbe hbT hbo => x.slot b o hb hbe hbT ((other b hbT).trans hbo), fun b o hbo => ?_, ?_⟩
  · by_cases hb : b = T
    · subst hb; exact x.there b _ hT'
    · exact x.there b o ((other b hb).trans hbo)
  · obtain ⟨T', hn, y⟩ := x.exc
    exact ⟨T', by rw [Heap.size_update] at hn; exact hn, y⟩
theorem flight_off {e T : Addr} {cls : Value} {dx : Option Addr} {fl : Value} {Q : Unit → Shared → Prop} (hx : ExcIs s.heap e cls dx fl T)
    (h : ∀ h', (∀ b o, b ≠ T → s.heap.get? b = some o → h'.get? b = some o) → (∃ o, h'.get? T = some o) → ExcIs h' e cls dx .none T → Q () { s with heap := h' }) : wpAny M A (setFlight (.ref e) none) Q E s := by
  obtain ⟨oe, vs, oT, ts, he, hc, hdx, hd, h1, hTe, hT, hdT, h3⟩ := hx
  unfold setFlight
  refine wpAny_bind (wpAny_field he hd h1 ?_)
  rw [if_pos (show (Value.ref T != Value.none) = true from by simp)]
  have hs := (Array.getElem?_eq_some_iff.mp h3).1
  refine wpAny_setField hT hdT hs (h _ (fun b o hb hbo => ?_) ?_ ?_)
  · rw [Heap.get?_update_other _ _ (Ne.symm hb)]; exact hbo
  · exact ⟨_, Heap.get?_update_self _ hT (Obj.isFreed_of_fields (Obj.data_mapFields hdT _))⟩
  · refine ⟨oe, vs, _, _, ?_, hc, hdx, hd, h1, hTe, Heap.get?_update_self _ hT (Obj.isFreed_of_fields (Obj.data_mapFields hdT _)), Obj.data_mapFields hdT _, ?_⟩
    · rw [Heap.get?_update_other _ _ hTe]; exact he
    · simp [hs]
theorem LeftX.off {fs : List Addr} {e T0 T : Addr} {cls : Value} {dx : Option Addr} {fl : Value} {h h1 h2 : Heap} (x : LeftX fs e T0 cls dx fl h h1) (hT : h.objs.size ≤ T) (k : ∀ b o, b ≠ T → h1.get? b = some o → h2.get? b = some o)
    (hT2 : ∃ o, h2.get? T = some o) (y : ExcIs h2 e cls dx .none T) : LeftX fs e T0 cls dx .none h h2 := by
  have ne : ∀ b o, h.get? b = some o → b ≠ T := fun b o e z => by
    have := Heap.lt_size e
    rw [z] at this
    exact absurd (Nat.lt_of_lt_of_le this hT) (Nat.lt_irrefl _)
  refine ⟨fun b o hb hbe hb0 hbo => k b o (ne b o hbo) (x.keep b o hb hbe hb0 hbo), fun b o hb hbe hb0 hbo => ?_, fun b o hbo => ?_, T, hT, y⟩
  · obtain ⟨sl, q⟩ := x.slot b o hb hbe hb0 hbo
    exact ⟨sl, k b _ (ne b o hbo) q⟩
  · obtain ⟨o', q⟩ := x.there b o hbo
    exact ⟨o', k b _ (ne b o hbo) q⟩
theorem leave_new {base : Heap} {env : Env} {outer : List Env} {L e : Addr} {cls : Value} {dx : Option Addr} {Q : Unit → Shared → Prop}
    (hfr : A.frames = some (env :: outer)) (hl : s.heap.FunFrames base (env :: outer)) (hf : env.frame = some L) (hx : ExcNew s.heap e cls dx)
    (h : ∀ h', LeftX (frs (env :: outer)) e e cls dx .none s.heap h' → Q () { s with heap := h' }) : wpAny M A (leaving env (.ref e)) Q E s := by
  unfold leaving
  refine wpAny_bind (note_new hfr hl hf hx fun h1 x => ?_)
  obtain ⟨T, hT, y⟩ := x.exc
  exact flight_off (s := { s with heap := h1 }) y fun h2 k hT2 z => h h2 (x.off hT k hT2 z)
theorem leave_next {base : Heap} {env : Env} {outer : List Env} {L e T0 : Addr} {cls : Value} {dx : Option Addr} {Q : Unit → Shared → Prop}
    (hfr : A.frames = some (env :: outer)) (hl : s.heap.FunFrames base (env :: outer)) (hf : env.frame = some L) (hx : ExcIs s.heap e cls dx .none T0)
    (h : ∀ h', LeftX (frs (env :: outer)) e T0 cls dx .none s.heap h' → Q () { s with heap := h' }) : wpAny M A (leaving env (.ref e)) Q E s := by
  unfold leaving
  refine wpAny_bind (note_next hfr hl hf hx fun h1 x => ?_)
  obtain ⟨T, hT, y⟩ := x.exc
  exact flight_off (s := { s with heap := h1 }) y fun h2 k hT2 z => h h2 (x.off hT k hT2 z)
end
/-! ### how an exception lies behind a call -/
noncomputable def CXE (P : Program) (w : World) : CXT := fun outer H s E e s' => ∃ (a T : Addr) (cls : Value) (dx : Option Addr) (H' : Hp), e = .ref a ∧ s'.os = s.os ∧ AllBare s'.gens ∧ Un (frs outer) [] H H' s.heap s'.heap ∧ HOk P w H' s'.heap ∧
  s.heap.get? a = none ∧ s.heap.get? T = none ∧ H' a = none ∧ H' T = none ∧ ExcIs s'.heap a cls dx .none T ∧ E cls dx H'
noncomputable def ExcAt (X : Cx) (H : Hp) (h : Heap) (a : Addr) (cls : Value) (dx : Option Addr) : Prop :=
  X.s₀.heap.get? a = none ∧ H a = none ∧ (ExcNew h a cls dx ∨ ∃ T, X.s₀.heap.get? T = none ∧ H T = none ∧ ExcIs h a cls dx .none T)
noncomputable def Xe (X : Cx) (E : XK) : Prop := ∀ (pins : List (Addr × Obj)) (σ : St) (H : Hp) (s : Shared) (a : Addr) (cls : Value) (dx : Option Addr), Inv X pins σ H s → ExcAt X H s.heap a cls dx → E cls dx H → X.xe (.ref a) s
theorem HOk.tracked {P : Program} {w : World} {H : Hp} {h h' : Heap} (ok : HOk P w H h) (k : ∀ b o u, H b = some u → h.get? b = some o → h'.get? b = some o) : HOk P w H h' := fun a o e =>
  (ok a o e).stay (fun b u hb q => by
    rcases hb with z | z
    · subst z; exact k b u o e q
    · exact k b u _ z q) (fun _ q => q) fun _ _ q => q
theorem Un.left {X : Cx} {pins : List (Addr × Obj)} {σ : St} {H : Hp} {s : Shared} {a T0 : Addr} {cls : Value} {dx : Option Addr} {h' : Heap} (I : Inv X pins σ H s) (hex : X.ex = []) (hst : X.stack = X.env :: X.outer) (hfr : X.env.frame = some X.env.locals)
    (ha : X.s₀.heap.get? a = none) (hT : X.s₀.heap.get? T0 = none) (x : LeftX (frs (X.env :: X.outer)) a T0 cls dx .none s.heap h') : Un X.fs [] X.H₀ H X.s₀.heap h' := by
  have hfs : frs (X.env :: X.outer) = X.env.locals :: X.fs := by simp [frs, hfr]
  have nl : ∀ b o, X.s₀.heap.get? b = some o → b ≠ X.env.locals := fun b o e z => by
    have := Heap.lt_size e
    rw [z] at this
    exact absurd (Nat.lt_of_lt_of_le this I.ok.above) (Nat.lt_irrefl _)
  have na : ∀ b o, X.s₀.heap.get? b = some o → b ≠ a := fun b o e z => by rw [z, ha] at e; cases e
  have nT : ∀ b o, X.s₀.heap.get? b = some o → b ≠ T0 := fun b o e z => by rw [z, hT] at e; cases e
  have nx : ∀ b : Addr, b ∉ X.ex := fun b => by rw [hex]; simp
  have B := I.base
  have nfs : ∀ b o, X.s₀.heap.get? b = some o → b ∉ X.fs → b ∉ frs (X.env :: X.outer) := fun b o e hb z => by
    rw [hfs] at z
    rcases List.mem_cons.mp z with q | q
    · exact nl b o e q
    · exact hb q
  refine ⟨fun b o e n hb _ => x.keep b o (nfs b o e hb) (na b o e) (nT b o e) (B.keep b o e n hb (nx b)), fun b o e n hb _ => ?_, fun b o e n _ => B.free b o e n (nx b), fun b o e _ => ?_, B.tups, B.frzs, B.tbls⟩
  · obtain ⟨sl, q⟩ := B.slot b o e n hb (nx b)
    obtain ⟨sl2, q2⟩ := x.slot b _ (by rw [hfs]; exact List.mem_cons_of_mem _ hb) (na b o e) (nT b o e) q
    exact ⟨sl2, q2⟩
  · obtain ⟨o', q⟩ := B.there b o e (nx b)
    exact x.there b o' q
theorem xe_cx {P : Program} {w : World} {K : PySem.W.Frag} {mg : Str → Option Value} {base : Heap} {N : List Str} {qual : Str} {scope : Scope} {f : Addr} {cd : Value} {A : Around} {outer : List Env} {s₀ : Shared} {H₀ : Hp} {E₀ : XK} :
    Xe (cxOf (CXE P w) P w K mg base N qual scope f cd A outer s₀ H₀ E₀) E₀ := by
  intro pins σ H s a cls dx I hx hE
  obtain ⟨ha, hHa, hx⟩ := hx
  have hfr : (envOfC qual scope s₀.heap.objs.size f cd).frame = some s₀.heap.objs.size := rfl
  have fin : ∀ (T0 : Addr) (h' : Heap), s₀.heap.get? T0 = none → H T0 = none → LeftX (frs (envOfC qual scope s₀.heap.objs.size f cd :: outer)) a T0 cls dx .none s.heap h' → CXE P w outer H₀ s₀ E₀ (.ref a) { s with heap := h' } := by
    intro T0 h' hT0 hHT0 x
    obtain ⟨T, hT, y⟩ := x.exc
    have hTn : s₀.heap.get? T = none := by
      cases q : s₀.heap.get? T with
      | none => rfl
      | some o => exact absurd (Nat.lt_of_lt_of_le (Heap.lt_size q) (Nat.le_trans I.sz hT)) (Nat.lt_irrefl _)
    refine ⟨a, T, cls, dx, H, rfl, I.os, I.bare, Un.left I rfl rfl rfl ha hT0 x, ?_, ha, hTn, hHa, I.hok.fresh hT, y, hE⟩
    refine I.hok.tracked fun b o u hb q => x.keep b o (fun z => ?_) (fun z => by rw [z, hHa] at hb; cases hb) (fun z => by rw [z, hHT0] at hb; cases hb) q
    have := I.stkFree b z
    rw [this] at hb; cases hb
  rcases hx with hx | ⟨T0, hT0, hHT0, hx⟩
  · exact leave_new (base := base) I.ok.frames I.stack hfr hx fun h' x => fin a h' ha hHa x
  · exact leave_next (base := base) I.ok.frames I.stack hfr hx fun h' x => fin T0 h' hT0 hHT0 x
theorem passesE {X : Cx} {E : XK} (h : Xe X E) (hex : X.ex = [] := by rfl) : Passes (CXE X.prog X.w) X E := by
  intro pins σ H s e s' I hx
  obtain ⟨a, T, cls, dx, H', rfl, ho, hg, u, hok, ha, hT, hHa, hHT, y, hE⟩ := hx
  have I' : Inv X pins σ H' s' := I.call' (ch := []) ho u hok hg fun b hb => absurd hb (by simp)
  have old : ∀ b, s.heap.get? b = none → X.ex = [] → X.s₀.heap.get? b = none := fun b hb hx => by
    cases q : X.s₀.heap.get? b with
    | none => rfl
    | some o =>
      obtain ⟨o', q'⟩ := I.base.there b o q (by rw [hx]; simp)
      rw [hb] at q'; cases q'
  exact h pins σ H' s' a cls dx I' ⟨old a ha hex, hHa, .inr ⟨T, old T hT hex, hHT, y⟩⟩ hE
end L2

namespace L2
open PySem PySem.Spec PyProof.Rows
theorem ObjOk.there {P : Program} {w : World} {H : Hp} {h : Heap} {a : Addr} {o : HO} (x : ObjOk P w H h a o) : ∃ ob, h.get? a = some ob := by
  cases o with
  | lst xs => obtain ⟨_, _, _, _, e⟩ := x; exact ⟨_, e⟩
  | tup xs => obtain ⟨_, _, _, o, e, _⟩ := x; exact ⟨_, e⟩
  | dK kvs => obtain ⟨_, _, _, _, o, _, _, e, _⟩ := x; exact ⟨_, e⟩
  | dT kvs => obtain ⟨_, _, _, _, o, _, _, e, _⟩ := x; exact ⟨_, e⟩
  | set S n => obtain ⟨o, _, _, _, e, _⟩ := x; exact ⟨_, e⟩
  | ins C dx fs => obtain ⟨_, _, _, e, _⟩ := x; exact ⟨_, e⟩
  | own y => obtain ⟨_, e⟩ := x; exact ⟨_, e⟩
  | xd fs => obtain ⟨_, ⟨_, _, _, e, _⟩, _⟩ := x; exact ⟨_, e⟩
  | rng lo hi => obtain ⟨_, _, _, e⟩ := x; exact ⟨_, e⟩
  | frz ob u => obtain ⟨e, _⟩ := x; exact ⟨_, e⟩
  | tbl ps => exact ⟨_, (show h.get? a = some _ from x)⟩
  | met f y => exact ⟨_, (show h.get? a = some _ from x)⟩
  | ext φ => obtain ⟨_, ⟨_, e⟩, _⟩ := x; exact ⟨_, e⟩
theorem own_obj {K : PySem.W.Frag} {h : Heap} {C : Addr} {bmB : List Value} {newId : String} (X : K.In h) (q : PySem.W.excIn K C bmB newId = true) :
    ∃ bm N nm q bs hdct sn sub ab col dd k0 k1 k2 k3 k5 mN, h.get? C = some (excClassObj nm q C N bs bm hdct sn sub ab col dd k0 k1 k2 k3 k5 newId) ∧ h.Ns N mN ∧ mN "__init__" = none ∧ OwnTail h bmB bm := by
  unfold PySem.W.excIn at q
  split at q
  · rename_i dd cd sl ho
    split at q
    · rename_i C' bm k0 k1 k2 k3 n k5 hm hs
      simp only [Bool.and_eq_true, beq_iff_eq, Bool.not_eq_true'] at q
      obtain ⟨⟨⟨⟨⟨rfl, rfl⟩, hdel⟩, ht⟩, hok⟩, hni⟩ := q
      obtain ⟨nm, bs, mro, ns, qn, hd, sn, sub, ab, col, del⟩ := cd
      dsimp only at hm hdel hok hni
      subst hm hdel
      have hsl : sl = #[k0, k1, k2, k3, some (.builtin n), k5] := by
        obtain ⟨l⟩ := sl
        simp only at hs
        rw [hs]
      subst hsl
      exact ⟨bm, ns, nm, qn, bs, hd, sn, sub, ab, col, dd, k0, k1, k2, k3, k5, _, X _ _ ho, .of_isNs (PySem.W.isNs_of_in X hok), PySem.W.nsMap_none_of_in X hok hni, PySem.W.tail_of_in X ht⟩
    · cases q
  · cases q
section
variable {X : Cx}
noncomputable def tRaise (C : Addr) (E : XK) (t : TA) : TS := fun _ σ H => t σ H fun vs H1 => vs.length ≤ sizeLine ∧ E (.ref C) none H1
end
end L2

/-! an own error as a value: its class, its attributes, isinstance of it -/
namespace L2
open PySem PySem.Spec PyProof.Rows PySem.W
set_option genInjectivity false in
structure XCls (K : Frag) (C : Addr) : Prop where
  ga : findIn K (.ref C) "__getattribute__" = some (some (.builtin "BaseException.__getattribute__"))
  gn : findIn K (.ref C) "__getattr__" = some none
  cl : findIn K (.ref C) "__class__" = some (some (.builtin "object.__class__"))
  sg : specialIn K (.builtin "object.__class__") "__get__" = some (some (.builtin "getset_descriptor.__get__"))
  tk : takesIn K (.builtin "object.__class__") = some true
  mo : mroIn K C (.type "object") = some true
  mb : mroIn K C (.type "BaseException") = some true
section
variable {prog : Program} {w : World} {A : Around} {E : Value → Shared → Prop} {s : Shared} {K : Frag} {x C : Addr} {ox : Obj} {od : Option Obj} {name : Str}
theorem xc_some {K : Frag} {C : Addr} {b : Value} {r : Bool} (e : mroIn K C b = some r) : ∃ cd, clsIn K C = some cd := by
  obtain ⟨cd, a, _⟩ := Option.bind_eq_some_iff.mp e
  exact ⟨cd, a⟩
theorem x_check {M : Model} {nameV : Value} {Q : Unit → Shared → Prop} (X : K.In s.heap) (c : XCls K C) (I : InstAt s.heap x ox C od) (q : Q () s) : wpAny M A (checkBuiltinCall "BaseException.__getattribute__" ⟨[.ref x, nameV], []⟩) Q E s :=
  @check_slot M A E s "BaseException.__getattribute__" "BaseException" "__getattribute__" (.ref x) [nameV] [] Q (by decide +kernel) (by decide +kernel) ((I.type).andThen (looks_mroIn X c.mb)) (F.args_bexc_ga _ _) q
theorem x_entry_value {v : Value} {tk : Tok} {Q : Fin → Shared → Prop} (X : K.In s.heap) (I : InstAt s.heap x ox C od) (hf : findObj K C od name = some (.value v)) (h : Q (.done (.ret v)) s) :
    wpAny (model prog w) A (Builtin.«object.__getattribute__» ⟨[.ref x, .str name tk], []⟩) Q E s := by
  have L0 := I.type (M := model prog w)
  have L1 := looks_find (M := model prog w) X I hf
  unfold Builtin.«object.__getattribute__»
  refine wpAny_bind (wpAny_pure ?_)
  refine wpAny_bind (wpAny_pure ?_)
  refine wpAny_bind (L0.here (wpAny_bind (L1.here ?_)))
  exact wpAny_pure h
theorem bind_bexc (self : Value) : bindSpecial (.builtin "BaseException.__getattribute__") self = pure (.builtin "BaseException.__getattribute__", [self]) := F.attr_ValueError.ga.bind self
theorem plain_bexc : plainId "BaseException.__getattribute__" = true := F.attr_ValueError.ga.plain
theorem x_by {v nameV : Value} {fill expr : Bool} {Q : Value → Shared → Prop} (X : K.In s.heap) (c : XCls K C) (I : InstAt s.heap x ox C od)
    (he : ∀ (A : Around) (E : Value → Shared → Prop) (Q : Fin → Shared → Prop), Q (.done (.ret v)) s → wpAny (model prog w) A (Builtin.«object.__getattribute__» ⟨[.ref x, nameV], []⟩) Q E s)
    (hv : handedIn v = true) (h : Q v s) : wpAny (model prog w) A (getAttrBy (.ref x) nameV fill expr) Q E s := by
  have L0 := I.type (M := model prog w)
  have L1 := looks_findIn (M := model prog w) X c.ga
  have L2 := looks_findIn (M := model prog w) X c.gn
  unfold getAttrBy
  refine wpAny_holding (wpAny_bind (L0.here (wpAny_bind (L1.here ?_))))
  have hne : (onTheHeap (Value.ref C) && Value.builtin "BaseException.__getattribute__" == Value.builtin "object.__getattribute__") = false := by
    show (true && _) = false
    decide +kernel
  show wpAny _ _ (if (onTheHeap (Value.ref C) && Value.builtin "BaseException.__getattribute__" == Value.builtin "object.__getattribute__") = true then _ else getAttrByItsOwn _ _ _ _ _ _) _ _ _
  rw [hne, if_neg Bool.false_ne_true]
  unfold getAttrByItsOwn
  refine wpAny_bind ?_
  show wpAny _ _ (typeLookup (.ref C) "__getattr__") _ _ _
  refine L2.here ?_
  refine wpAny_bind (wpAny_attempt (wpAny_holding ?_))
  have hcg : callGetattribute (.ref x) nameV (.builtin "BaseException.__getattribute__") expr = boundAndCalled (.builtin "BaseException.__getattribute__") (.ref x) nameV := by
    unfold callGetattribute
    rw [if_neg (by cases expr <;> decide)]
  rw [hcg]
  unfold boundAndCalled
  rw [bind_bexc]
  refine wpAny_bind (wpAny_pure ?_)
  refine wpAny_call (codeAny_call_builtin plain_bexc F.entry_bexc_ga (x_check X c I (he _ _ _ ?_)))
  show wpAny _ _ (handedOut v) _ _ _
  rw [handedOut_of hv]
  exact wpAny_pure h
theorem x_attr {v : Value} {expr : Bool} {Q : Value → Shared → Prop} (X : K.In s.heap) (c : XCls K C) (I : InstAt s.heap x ox C od) (hf : findObj K C od name = some (.value v)) (hv : handedIn v = true)
    (h : Q v { s with toks := s.toks + 1 }) : wpAny (model prog w) A (getAttr (.ref x) name expr) Q E s := by
  unfold getAttr
  refine wpAny_bind (wpAny_mkText ?_)
  exact x_by (s := { s with toks := s.toks + 1 }) X c I (fun A E Q q => x_entry_value (s := { s with toks := s.toks + 1 }) X I hf q) hv h
end
end L2

/-! try: a call; except: a suite that raises nothing -/
namespace L2
open PySem PySem.Spec PyProof.Rows
set_option genInjectivity false in
structure Catch (K : PySem.W.Frag) (B C : Addr) : Prop where
  ty : PySem.W.instIn K (.ref B) (.type "tuple") = some false
  bb : PySem.W.mroIn K B (.type "BaseException") = some true
  sub : PySem.W.mroIn K C (.ref B) = some true
theorem isType_of {K : PySem.W.Frag} {M : Model} {h : Heap} {C : Addr} {cd : ClassData} (X : K.In h) (hc : PySem.W.clsIn K C = some cd) : PySem.W.Looks M h (isType (.ref C)) true := by
  unfold PySem.W.clsIn at hc
  split at hc
  · rename_i c' d' cd' sl' ho
    intro A' Q' E' s' k q
    unfold isType loadHead
    exact wpAny_bind (wpAny_loadPart (k _ _ (X _ _ ho)) (wpAny_pure q))
  · cases hc
theorem excMatches_in {K : PySem.W.Frag} {M : Model} {A : Around} {E : Value → Shared → Prop} {s : Shared} {a B C : Addr} {ox : Obj} {od : Option Obj} {Q : Bool → Shared → Prop} (X : K.In s.heap) (I : PySem.W.InstAt s.heap a ox C od) (c : Catch K B C) (h : Q true s) :
    wpAny M A (excMatches (.ref a) (.ref B)) Q E s := by
  obtain ⟨cd, hcd⟩ := xc_some c.bb
  have L0 := PySem.W.looks_instIn (M := M) X c.ty
  have L1 := isType_of (M := M) X hcd
  have L2 := PySem.W.looks_mroIn (M := M) X c.bb
  have L3 := I.type (M := M)
  have L4 := PySem.W.looks_mroIn (M := M) X c.sub
  unfold excMatches
  refine wpAny_bind (L0.here ?_)
  simp only [Bool.false_eq_true, if_false]
  refine wpAny_bind (wpAny_pure ?_)
  rw [List.forIn_cons]
  refine wpAny_bind (wpAny_bind (wpAny_bind ?_))
  unfold isExcClass
  refine wpAny_bind (L1.here ?_)
  simp only [if_true]
  refine L2.here ?_
  simp only [Bool.not_true, Bool.false_eq_true, if_false]
  refine wpAny_pure ?_
  simp only [List.forIn_nil]
  refine wpAny_pure ?_
  refine wpAny_bind (L3.here ?_)
  rw [List.forIn_cons]
  refine wpAny_bind (wpAny_bind (wpAny_bind (L4.here ?_)))
  simp only [if_true]
  exact wpAny_pure (wpAny_pure (wpAny_pure h))
/-! ### the context of an except suite -/
noncomputable abbrev Cx.hand (X : Cx) (a : Addr) : Cx := { X with A := X.A.mark (some (.ref a)), calm := false, xe := fun _ _ => False }
theorem Cx.Ok.hand {X : Cx} (ok : X.Ok) (a : Addr) : (X.hand a).Ok :=
  ⟨ok.mod, ok.kind, ok.glob, ok.blt, ok.above, ok.inj, ok.has, ok.cab, (fun z => by cases z), ok.frames, ok.stk, ok.exf, ok.bs, ok.bsz, ok.noex, ok.exfs, ok.funs, ok.frf⟩
section
variable {X : Cx} {pins : List (Addr × Obj)} {σ : St} {H : Hp} {s : Shared} {a : Addr}
theorem Inv.hand (I : Inv X pins σ H s) (a : Addr) : Inv (X.hand a) pins σ H s := ⟨I.ok.hand a, I.os, I.bare, I.base, I.loc, I.cell, I.free, I.freeC, I.pin, I.hok, I.len⟩
theorem Inv.unhand (ok : X.Ok) (I : Inv (X.hand a) pins σ H s) : Inv X pins σ H s := ⟨ok, I.os, I.bare, I.base, I.loc, I.cell, I.free, I.freeC, I.pin, I.hok, I.len⟩
end
/-! ### an error that was caught, as a tracked thing -/
noncomputable def XO (a C : Addr) (dx : Option Addr) : HO := .ext fun h => ∃ ob vs, h.get? a = some ob ∧ ob.cls = .ref C ∧ ob.dict = dx ∧ ob.data = .fields vs
theorem XO.ok {P : Program} {w : World} {H : Hp} {h : Heap} {a C : Addr} {dx : Option Addr} {fl : Value} {T : Addr} (x : ExcIs h a (.ref C) dx fl T) : ObjOk P w H h a (XO a C dx) := by
  obtain ⟨oe, vs, oT, ts, he, hc, hdx, hd, _⟩ := x
  exact ⟨⟨oe, vs, he, hc, hdx, hd⟩, ⟨oe, he⟩, fun h1 h2 ⟨ob, ws, q, r⟩ k => ⟨ob, ws, k _ q, r⟩⟩
noncomputable abbrev XS := St → XK
noncomputable def XP (X : Cx) (pins : List (Addr × Obj)) (E : XS) (e : Value) (s' : Shared) : Prop := ∃ σ H s, Inv X pins σ H s ∧ CXE X.prog X.w X.stack H s (E σ) e s'
noncomputable abbrev TEX := St → Hp → VK → XK → Prop
noncomputable abbrev TSX := Ends → XS → St → Hp → Prop
noncomputable def PEX (X : Cx) (e : Expr) (t : TEX) : Prop := ∀ (pins : List (Addr × Obj)) (s : Shared) (σ : St) (H : Hp) (Q : VK) (E : XS), Inv X pins σ H s → t σ H Q (E σ) →
  wpAny (model X.prog X.w) X.A (eval e X.env) (EP X pins σ Q) (XP X pins E) s
noncomputable def PSX (X : Cx) (st : Stmt) (t : TSX) : Prop := ∀ (pins : List (Addr × Obj)) (s : Shared) (σ : St) (H : Hp) (D : Ends) (E : XS), Inv X pins σ H s → t D E σ H →
  wpAny (model X.prog X.w) X.A (exec st X.env) (SP X pins D) (XP X pins E) s
noncomputable def PSsX (X : Cx) (st : List Stmt) (t : TSX) : Prop := ∀ (pins : List (Addr × Obj)) (s : Shared) (σ : St) (H : Hp) (D : Ends) (E : XS), Inv X pins σ H s → t D E σ H →
  wpAny (model X.prog X.w) X.A (execs st X.env) (SP X pins D) (XP X pins E) s
section
variable {X : Cx} {k : Nat} {f C : Addr} {fd : FuncData} {ps : List Str} {sp : Sp} {dvs : List V} {ds : List Value} {x m : Str} {p pos apos : Pos} {e o : Expr} {es : List Expr} {ta : TE} {t : TA}
theorem runX {pins : List (Addr × Obj)} {σ : St} {H : Hp} {s : Shared} {Q : VK} {E : XS} {us : List Value} {vs : List V} (F : FnOk X.prog X.w X.K X.mg X.base (CXE X.prog X.w) k f fd ps sp) (hr : Room k X.A) (hb : Binds X.K fd ps ds) (hd : Vals dvs ds)
    (I : Inv X pins σ H s) (r : Vals vs us) (h : sp (vs ++ dvs) H Q (E σ)) : wpAny (model X.prog X.w) X.A (call (.ref f) us) (EP X pins σ Q) (XP X pins E) s := by
  have r2 : Vals (vs ++ dvs) (us ++ ds) := r.append hd
  have hl : (us ++ ds).length = ps.length := by rw [← r2.length]; exact F.len _ _ _ _ h
  refine wpAny_call (codeAny_mono (F.run X.A X.stack s H ⟨us, []⟩ (us ++ ds) (vs ++ dvs) Q (E σ) hr I.env0 (hb s us I.kIn hl) r2 h) fun r s' hq => ?_)
  cases r with
  | error e => exact ⟨σ, H, s, I, hq⟩
  | ok fl =>
    cases fl with
    | ret u => exact I.after hq
    | next => exact False.elim hq
    | brk => exact False.elim hq
    | cont => exact False.elim hq
noncomputable def xCall (sp : Sp) (dvs : List V) (t : TA) : TEX := fun σ H Q E => t σ H fun vs H1 => sp (vs ++ dvs) H1 Q E
noncomputable def xMeth (C : Addr) (m : Str) (sp : Sp) (dvs : List V) (ta : TE) (t : TA) : TEX := fun σ H Q E => ta σ H fun x H1 => ∃ a dx fs, x = .ref a ∧ H1 a = some (.ins C dx fs) ∧ fs.lookup m = none ∧
  t σ H1 fun vs H2 => sp (x :: (vs ++ dvs)) H2 Q E
theorem noE {α : Type} {t : Sem α} {Q : α → Shared → Prop} {M : Model} {A : Around} {E : Value → Shared → Prop} {s : Shared} (h : wpAny M A t Q (fun _ _ => False) s) : wpAny M A t Q E s := wpAny_mono h (fun _ _ q => q) fun _ _ z => False.elim z
theorem pex_meth0 {pl : Sem Bool} (he : PE X.nox o ta) (c : Cls X.K C) (hm : Meth X.K C m f) (F : FnOk X.prog X.w X.K X.mg X.base (CXE X.prog X.w) k f fd ps sp) (hr : Room k X.A) (hb : Binds X.K fd ps ds) (hd : Vals dvs ds)
    (ht : eval (.Call (.Attribute o m apos) [] [] pos) X.env = (do
      let ov ← eval o X.env
      standAt apos.atName
      let (f, first) ← holding [ov] (getMethod ov m pl)
      callWith pos f first (backTo pos (starEach [] X.env)) (backToKw pos (keywordEach [] X.env))) := by rfl) :
    PEX X (.Call (.Attribute o m apos) [] [] pos) (xMeth C m sp dvs ta tNil) := by
  intro pins s σ H Q E I h
  refine PySem.W.methodCall_KW (pl := pl) (noE (thn (he pins s σ H _ (I.wish _) h) fun u s1 ⟨x, H1, I1, rx, a, dx, fs, ex, ea, l, q⟩ => ?_)) ht
  subst ex
  obtain rfl : u = Value.ref a := rx
  refine getmeth_ok I1.unwish ea c hm l ?_
  exact PySem.W.callWith_K0 (first := [.ref a]) I1.kIn hm.kp (runX (us := [.ref a]) (vs := [.ref a]) F hr hb hd I1.unwish (.cons rfl .nil) q)
end
section
variable {X : Cx} {st : Stmt} {rest : List Stmt} {t : TS} {tx ux : TSX} {e : Expr} {te : TEX} {pos : Pos}
noncomputable def xDrop (te : TEX) : TSX := fun D E σ H => te σ H (fun _ H1 => D.nx σ H1) (E σ)
theorem psx_expr (he : PEX X e te) (hs : swapsWith e none pos.line X.env = pure false := by rfl) : PSX X (.Expr e pos) (xDrop te) := by
  intro pins s σ H D E I h
  exact wpAny_Expr_any (thn (he pins s σ H _ E I h) fun v s1 ⟨x, H1, I1, r1, q1⟩ => ⟨σ, H1, I1, q1⟩) I.quiet hs
noncomputable def xSet (i : Nat) (te : TEX) : TSX := fun D E σ H => te σ H (fun v H1 => D.nx (σ.set i (some v)) H1) (E σ)
noncomputable def xRet (te : TEX) : TSX := fun D E σ H => te σ H D.rt (E σ)
noncomputable def xOf (t : TS) : TSX := fun D _ σ H => t D σ H
noncomputable def xSeq (t u : TSX) : TSX := fun D E σ H => t { D with nx := u D E } E σ H
theorem pssx_one (h1 : PSX X st tx) : PSsX X [st] tx := by
  intro pins s σ H D E I h
  refine wpAny_execs_cons (thn (h1 pins s σ H D E I h) fun f s1 q => ?_)
  cases f with
  | next => exact wpAny_execs_nil q
  | ret v => exact q
  | brk => exact q
  | cont => exact q
end
/-! ### the exception lands -/
set_option genInjectivity false in
structure Land (X : Cx) (H : Hp) (s : Shared) (a T : Addr) (cls : Value) (dx : Option Addr) (H' : Hp) (s' : Shared) : Prop where
  os : s'.os = s.os
  bare : AllBare s'.gens
  un : Un (frs X.stack) [] H H' s.heap s'.heap
  hok : HOk X.prog X.w H' s'.heap
  fa : s.heap.get? a = none
  fT : s.heap.get? T = none
  na : H' a = none
  nT : H' T = none
  ex : ExcIs s'.heap a cls dx .none T
section
variable {X : Cx} {pins : List (Addr × Obj)} {σ : St} {H H' : Hp} {s s' : Shared} {a T : Addr} {cls : Value} {dx : Option Addr} {M : Model} {A : Around} {E : Value → Shared → Prop}
theorem Land.inv (L : Land X H s a T cls dx H' s') (I : Inv X pins σ H s) : Inv X pins σ H' s' := I.call' (ch := []) L.os L.un L.hok L.bare fun b hb => absurd hb (by simp)
theorem Land.left {h' : Heap} (L : Land X H s a T cls dx H' s') (I : Inv X pins σ H s) (x : LeftX (frs X.stack) a T cls dx .none s'.heap h') : ∃ T', Land X H s a T' cls dx H' { s' with heap := h' } := by
  have J := L.inv I
  have na : ∀ b o, s.heap.get? b = some o → b ≠ a := fun b o e z => by rw [z, L.fa] at e; cases e
  have nT : ∀ b o, s.heap.get? b = some o → b ≠ T := fun b o e z => by rw [z, L.fT] at e; cases e
  obtain ⟨T', hT, y⟩ := x.exc
  have hT' : s.heap.get? T' = none := by
    cases q : s.heap.get? T' with
    | none => rfl
    | some o =>
      obtain ⟨o', q'⟩ := L.un.there T' o q (by simp)
      exact absurd (Nat.lt_of_lt_of_le (Heap.lt_size q') hT) (Nat.lt_irrefl _)
  refine ⟨T', L.os, L.bare, ⟨fun b o e n hb hx => x.keep b o hb (na b o e) (nT b o e) (L.un.keep b o e n hb hx), fun b o e n hb hx => ?_, L.un.free, fun b o e hx => ?_, L.un.tups, L.un.frzs, L.un.tbls⟩, ?_, L.fa, hT', L.na, L.hok.fresh hT, y⟩
  · obtain ⟨sl, q⟩ := L.un.slot b o e n hb hx
    obtain ⟨sl2, q2⟩ := x.slot b _ hb (na b o e) (nT b o e) q
    exact ⟨sl2, q2⟩
  · obtain ⟨o', q⟩ := L.un.there b o e hx
    exact x.there b o' q
  · refine L.hok.tracked fun b o u hb q => x.keep b o (fun z => ?_) (fun z => by rw [z, L.na] at hb; cases hb) (fun z => by rw [z, L.nT] at hb; cases hb) q
    have := J.stkFree b z
    rw [this] at hb; cases hb
theorem Land.off {h' : Heap} (L : Land X H s a T cls dx H' s') (k : ∀ b o, b ≠ T → s'.heap.get? b = some o → h'.get? b = some o) (hT : ∃ o, h'.get? T = some o) (y : ExcIs h' a cls dx .none T) : Land X H s a T cls dx H' { s' with heap := h' } := by
  have nT : ∀ b o, s.heap.get? b = some o → b ≠ T := fun b o e z => by rw [z, L.fT] at e; cases e
  refine ⟨L.os, L.bare, ⟨fun b o e n hb hx => k b o (nT b o e) (L.un.keep b o e n hb hx), fun b o e n hb hx => ?_, L.un.free, fun b o e hx => ?_, L.un.tups, L.un.frzs, L.un.tbls⟩, ?_, L.fa, L.fT, L.na, L.nT, y⟩
  · obtain ⟨sl, q⟩ := L.un.slot b o e n hb hx
    exact ⟨sl, k b _ (nT b o e) q⟩
  · obtain ⟨o', q⟩ := L.un.there b o e hx
    exact ⟨o', k b o' (nT b o e) q⟩
  · exact L.hok.tracked fun b o u hb q => k b o (fun z => by rw [z, L.nT] at hb; cases hb) q
theorem Land.track {C : Addr} (L : Land X H s a T (.ref C) dx H' s') (I : Inv X pins σ H s) : Inv X pins σ (upd H' a (XO a C dx)) s' := by
  have na : ∀ b o, s.heap.get? b = some o → b ≠ a := fun b o e z => by rw [z, L.fa] at e; cases e
  have up : ∀ b u, H' b = some u → upd H' a (XO a C dx) b = some u := fun b u q => by rw [upd_ne (ne_of_none q L.na)]; exact q
  refine I.call' (ch := []) L.os ⟨L.un.keep, L.un.slot, fun b o e n hx => ?_, L.un.there, fun b xs q => up b _ (L.un.tups b xs q), fun b o u q => up b _ (L.un.frzs b o u q), fun b ps q => ?_⟩ (fun b u q => ?_) L.bare fun b hb => absurd hb (by simp)
  · rw [upd_ne (na b o e)]; exact L.un.free b o e n hx
  · obtain ⟨m, z⟩ := L.un.tbls b ps q
    exact ⟨m, up b _ z⟩
  · by_cases hb : b = a
    · subst hb; rw [upd_same] at q; cases q; exact XO.ok L.ex
    · rw [upd_ne hb] at q
      exact (L.hok b u q).stay (fun c v _ q => q) (fun c q => up c _ q) fun c xs q => up c _ q
noncomputable def DxOk (dx : Option Addr) (H : Hp) : Prop := dx = none ∨ ∃ d fs, dx = some d ∧ H d = some (.xd fs)
theorem Land.inst {C : Addr} (L : Land X H s a T (.ref C) dx H' s') (hd : DxOk dx H') : ∃ ox od, PySem.W.InstAt s'.heap a ox C od := by
  obtain ⟨oe, vs, oT, ts, he, hc, hdx, hdt, _⟩ := L.ex
  rcases hd with e | ⟨d, fs, e, hd⟩
  · refine ⟨oe, none, he, hc, ?_, ?_⟩
    · unfold PySem.W.notCls; rw [hdt]
    · rw [hdx, e]; trivial
  · obtain ⟨o, q⟩ := (L.hok d _ hd).there
    refine ⟨oe, some o, he, hc, ?_, ?_⟩
    · unfold PySem.W.notCls; rw [hdt]
    · rw [hdx, e]; exact q
theorem land_note {R : Shared → Prop} (hst : X.stack = X.env :: X.outer) (hfr : X.env.frame = some X.env.locals) (L : Land X H s a T cls dx H' s') (I : Inv X pins σ H s)
    (h : ∀ T' s3, Land X H s a T' cls dx H' s3 → R s3) : wpAny M X.A (noteFrame (.ref a) X.env) (fun _ s2 => wpAny M X.A (setFlight (.ref a) none) (fun _ s3 => R s3) E s2) E s' := by
  have J := L.inv I
  refine note_next (base := X.base) (by rw [J.ok.frames, hst]) (by rw [← hst]; exact J.stack) hfr L.ex fun h1 x => ?_
  obtain ⟨T1, hT, y⟩ := x.exc
  refine flight_off (s := { s' with heap := h1 }) y fun h2 k hT2 z => ?_
  obtain ⟨T2, L2⟩ := L.left (h' := h2) I (by rw [hst]; exact x.off hT k hT2 z)
  exact h T2 _ L2
theorem name_gone {i : Nat} {n : Str} {pos : Pos} {Q : Unit → Shared → Prop} (I : Inv X pins σ H s) (hN : X.N.Nodup) (hi : X.N[i]? = some n) (hk : X.env.scope.names.lookup n = some .local) (h : ∀ s', Inv X pins (σ.set i none) H s' → Q () s') :
    wpAny M A (do bindName X.env n .none; unbindBehindTheSuite X.env n pos) Q E s := by
  obtain ⟨m, hn, hl⟩ := id I.loc
  have hcls : (X.env.scope.kind == .class || (X.env.scope.kind == .module && X.env.locals != X.env.globals)) = false := by rw [I.ok.kind]; rfl
  have hiσ : i < σ.length := by rw [I.len]; exact (List.getElem?_eq_some_iff.mp hi).1
  have cne := I.cne
  refine wpAny_nameGoes_keeps hk hn hcls fun h' v hn' hs => ?_
  obtain ⟨oL, _, _, hoL, _⟩ := id hn
  refine h _ ⟨I.ok, I.os, I.bare, ⟨fun b o e n hb hx => ?_, fun b o e n hb hx => ?_, I.base.free, fun b o e hx => ?_, I.base.tups, I.base.frzs, I.base.tbls⟩, ⟨_, hn', fun j y v' e1 e2 e3 => ?_⟩, fun y c e => ?_, I.free, I.freeC, fun p hp => ?_, fun b ob e => ?_, by simpa using I.len⟩
  · exact (hs.2 b (Nat.ne_of_lt (Nat.lt_of_lt_of_le (Heap.lt_size e) I.ok.above))).trans (I.base.keep b o e n hb hx)
  · obtain ⟨sl, e1⟩ := I.base.slot b o e n hb hx
    exact ⟨sl, (hs.2 b (Nat.ne_of_lt (Nat.lt_of_lt_of_le (Heap.lt_size e) I.ok.above))).trans e1⟩
  · obtain ⟨o', e1⟩ := I.base.there b o e hx
    exact ⟨o', (hs.2 b (Nat.ne_of_lt (Nat.lt_of_lt_of_le (Heap.lt_size e) I.ok.above))).trans e1⟩
  · by_cases hj : j = i
    · subst hj
      rw [List.getElem?_set_self hiσ] at e2
      cases e2
    · rw [List.getElem?_set_ne (Ne.symm hj)] at e2
      obtain ⟨u', r', q⟩ := hl j y v' e1 e2 e3
      refine ⟨u', r', ?_⟩
      rcases q with ⟨k, e⟩ | ⟨k, c, e, z⟩
      · refine .inl ⟨k, ?_⟩
        have : y ≠ n := fun e => hj (nodup_ix hN e1 (e ▸ hi))
        simp [this, e]
      · exact .inr ⟨k, c, e, z.sameBut hs (cne y c e)⟩
  · obtain ⟨w', z⟩ := I.cell y c e
    exact ⟨w', z.sameBut hs (cne y c e)⟩
  · obtain ⟨e, n, ne, nf, d⟩ := I.pin p hp
    exact ⟨(hs.2 p.1 ne).trans e, n, ne, nf, d⟩
  · refine (I.hok b ob e).stay (fun c w' hc q => (hs.2 c ?_).trans q) (fun _ q => q) fun _ _ q => q
    rintro rfl
    have fr := I.free
    rcases hc with rfl | hc
    · rw [fr] at e; cases e
    · rw [fr] at hc; cases hc
end
/-! ### the rule -/
noncomputable def un1 (i : Nat) (D : Ends) : Ends := { nx := fun σ H => D.nx (σ.set i none) H, rt := D.rt, bk := fun σ H => D.bk (σ.set i none) H, ct := fun σ H => D.ct (σ.set i none) H }
noncomputable def tTryAs (K : PySem.W.Frag) (B : Addr) (i : Nat) (tb : TSX) (th : TS) : TS := fun D σ H =>
  tb D (fun σ' cls dx H' => ∃ C, cls = .ref C ∧ Catch K B C ∧ DxOk dx H' ∧ ∀ a, H' a = none → th (un1 i D) (σ'.set i (some (.ref a))) (upd H' a (XO a C dx))) σ H
noncomputable def tTry0 (K : PySem.W.Frag) (B : Addr) (tb : TSX) (th : TS) : TS := fun D σ H =>
  tb D (fun σ' cls dx H' => ∃ C, cls = .ref C ∧ Catch K B C ∧ DxOk dx H' ∧ th D σ' H') σ H
section
variable {X : Cx} {body suite : List Stmt} {b₀ : Stmt} {x n : Str} {B : Addr} {i : Nat} {np hpos pos : Pos} {tb : TSX} {th : TS}
theorem ps_tryAs (hst : X.stack = X.env :: X.outer) (hfr : X.env.frame = some X.env.locals) (hN : X.N.Nodup) (hi : X.N[i]? = some n) (hlo : X.env.scope.names.lookup n = some .local) (hg : Gl X x) (hm : X.mg x = some (.ref B)) (hb : PSsX X body tb)
    (hs : ∀ a, PSs (X.hand a) (b₀ :: suite) th) (hd : (x == ("__debug__" : Str)) = false := by decide) : PS X (.Try body [.ExceptHandler (some (.Name x np)) (some n) (b₀ :: suite) hpos] [] [] pos) (tTryAs X.K B i tb th) := by
  intro pins s σ H D I h
  refine wpAny_Try_except (wpAny_mono (hb pins s σ H D _ I h) (fun f s1 q => ?_) fun e s1 hx => ?_)
  · cases f with
    | next => exact wpAny_execs_nil q
    | ret v => exact q
    | brk => exact q
    | cont => exact q
  · obtain ⟨σ1, H1, s2, I1, a, T, cls, dx, H', rfl, ho, hg', u, hok, ha, hT, hHa, hHT, y, C, rfl, hcat, hdx, hth⟩ := hx
    have L : Land X H1 s2 a T (.ref C) dx H' s1 := ⟨ho, hg', u, hok, ha, hT, hHa, hHT, y⟩
    refine land_note hst hfr L I1 fun T3 s3 L3 => ?_
    have J := L3.inv I1
    obtain ⟨ox, od, ins⟩ := L3.inst hdx
    refine wpAny_handleBy_cons (codeAny_handlers_test (ld_glob (X := X.hand a) (J.hand a) hg hm ?_ hd)) (by intro q; cases q)
    refine excMatches_in J.kIn ins hcat ?_
    refine codeAny_handlers_suite_as ?_
    refine flight_off L3.ex fun h4 k4 hT4 y4 => ?_
    have J4 := (L3.off k4 hT4 y4).track I1
    refine store_ok (X := X.hand a) (J4.hand a) hN hi (.inl hlo) (v := .ref a) rfl (fun s5 I5 => ?_) (.inr hlo)
    refine noE (thn (hs a pins s5 _ _ (un1 i D) I5 (hth a hHa)) fun f s6 q => ?_)
    have ok := I.ok
    cases f with
    | next =>
      obtain ⟨σ', H2, I6, q⟩ := q
      exact name_gone (I6.unhand ok) hN hi hlo fun s7 I7 => ⟨_, H2, I7, q⟩
    | brk =>
      obtain ⟨σ', H2, I6, q⟩ := q
      exact name_gone (I6.unhand ok) hN hi hlo fun s7 I7 => ⟨_, H2, I7, q⟩
    | cont =>
      obtain ⟨σ', H2, I6, q⟩ := q
      exact name_gone (I6.unhand ok) hN hi hlo fun s7 I7 => ⟨_, H2, I7, q⟩
    | ret v =>
      obtain ⟨v', σ', H2, I6, r, q⟩ := q
      exact name_gone (I6.unhand ok) hN hi hlo fun s7 I7 => ⟨v', _, H2, I7, r, q⟩
theorem ps_tryAsK {K : PySem.W.Frag} (e : X.K = K) (hst : X.stack = X.env :: X.outer) (hfr : X.env.frame = some X.env.locals) (hN : X.N.Nodup) (hi : X.N[i]? = some n) (hlo : X.env.scope.names.lookup n = some .local) (hg : Gl X x) (hm : X.mg x = some (.ref B)) (hb : PSsX X body tb)
    (hs : ∀ a, PSs (X.hand a) (b₀ :: suite) th) (hd : (x == ("__debug__" : Str)) = false := by decide) : PS X (.Try body [.ExceptHandler (some (.Name x np)) (some n) (b₀ :: suite) hpos] [] [] pos) (tTryAs K B i tb th) := e ▸ ps_tryAs hst hfr hN hi hlo hg hm hb hs hd
end
end L2

/-! texts put together: f"..", join; isinstance of a caught error, of a tuple of classes -/
namespace L2
open PySem PySem.Spec PyProof.Rows
section
variable {X : Cx}
noncomputable def tRepr (t : TE) : TE := fun σ H Q => t σ H fun x H1 => ∃ z, x = .str z ∧ (reprText z).length ≤ sizeLine ∧ Q (.str (reprText z)) H1
noncomputable def tFmt (t : TE) : TE := fun σ H Q => t σ H fun x H1 => (∃ z, x = .str z ∧ z.length ≤ sizeLine ∧ Q (.str z) H1) ∨ ∃ i : Int, x = .int i ∧ i.natAbs.log2 < 1920 ∧ Q (.str (toString i)) H1
theorem pe_fmt {e : Expr} {t : TE} {pos : Pos} (he : PE X e t) : PE X (.FormattedValue e (-1) none pos) (tFmt t) := by
  intro pins s σ H Q I h
  refine FormattedValue_plain (thn (he pins s σ H _ I h) fun v s1 ⟨x, H1, I1, r1, q⟩ => ?_)
  rcases q with ⟨z, rfl, hz, q⟩ | ⟨i, rfl, hi, q⟩
  · obtain ⟨t', rfl⟩ := r1
    exact formatField_str (fun t'' tk => ⟨.str z, H1, I1.tok tk, ⟨t'', rfl⟩, q⟩) hz
  · obtain ⟨t', rfl⟩ := r1
    exact formatField_int_small hi ⟨.str (toString i), H1, I1.tok _, ⟨_, rfl⟩, q⟩
noncomputable abbrev TJ := Str → St → Hp → VK → Prop
noncomputable def PJ (X : Cx) (es : List Expr) (t : TJ) : Prop := ∀ (acc : Str) (pins : List (Addr × Obj)) (s : Shared) (σ : St) (H : Hp) (Q : VK), Inv X pins σ H s → t acc σ H Q →
  wpAny (model X.prog X.w) X.A (joinParts acc (evalEach es X.env)) (EP X pins σ Q) X.xe s
noncomputable def jNil : TJ := fun acc _ H Q => acc.length ≤ sizeLine ∧ Q (.str acc) H
noncomputable def jCons (t : TE) (u : TJ) : TJ := fun acc σ H Q => t σ H fun x H1 => ∃ y, x = .str y ∧ (acc ++ y).length ≤ sizeLine ∧ u (acc ++ y) σ H1 Q
theorem pj_nil : PJ X [] jNil := fun acc pins s σ H Q I h => joinParts_nilE (joinParts_nil ⟨.str acc, H, I.tok _, ⟨_, rfl⟩, h.2⟩ h.1)
theorem pj_cons {e : Expr} {es : List Expr} {t : TE} {u : TJ} (he : PE X e t) (hr : PJ X es u) : PJ X (e :: es) (jCons t u) := by
  intro acc pins s σ H Q I h
  refine joinParts_consE (joinParts_cons (thn (he pins s σ H _ I h) fun v s1 ⟨x, H1, I1, r1, y, ey, hy, q⟩ => ?_))
  subst ey
  obtain ⟨t', rfl⟩ := r1
  exact ⟨hy, hr (acc ++ y) pins s1 σ H1 Q I1 q⟩
noncomputable def tJoined (t : TJ) : TE := fun σ H Q => t Str.empty σ H Q
theorem pe_joined {v₁ v₂ : Expr} {rest : List Expr} {pos : Pos} {t : TJ} (h : PJ X (v₁ :: v₂ :: rest) t) : PE X (.JoinedStr (v₁ :: v₂ :: rest) pos) (tJoined t) :=
  fun pins s σ H Q I hw => JoinedStr_many (h Str.empty pins s σ H Q I hw)
/-! ### sep.join(list) -/
noncomputable def rJoin (K : PySem.W.Frag) : V → List V → Hp → VK → Prop := fun x vs H Q => ∃ z a zs, x = .str z ∧ vs = [.ref a] ∧ SqL K H a (zs.map V.str) ∧ JoinOk z zs = true ∧ Q (.str (Txt.join z zs)) H
/-! ### isinstance -/
noncomputable def TyX (K : PySem.W.Frag) (H : Hp) (x : V) (t : Value) : Prop := TyOf K H x t ∨ ∃ a C dx, x = .ref a ∧ t = .ref C ∧ H a = some (XO a C dx) ∧ DxOk dx H ∧ XCls K C
noncomputable def vOf : V → Value
  | .ref a => .ref a
  | .ty n => .type n
  | _ => .none
noncomputable def isCl : V → Bool
  | .ref _ => true
  | .ty _ => true
  | _ => false
noncomputable def rIsx (K : PySem.W.Frag) : List V → Hp → VK → Prop := fun xs H Q => ∃ x c t b, xs = [x, c] ∧ isCl c = true ∧ TyX K H x t ∧ PySem.W.kitOne K t (vOf c) = some b ∧ Q (.bl b) H
noncomputable def rIst (K : PySem.W.Frag) : List V → Hp → VK → Prop := fun xs H Q => ∃ x tp cs t b, xs = [x, .ref tp] ∧ H tp = some (.tup cs) ∧ cs.all isCl = true ∧ TyX K H x t ∧ PySem.W.kitAny K t (cs.map vOf) = some b ∧ Q (.bl b) H
end
section
variable {P : Program} {w : World} {K : PySem.W.Frag} {mg : Str → Option Value} {base : Heap}
theorem Fun.okE {x qual : Str} {st : Stmt} {f : Addr} {fd : FuncData} {N ps : List Str} {k : Nat} {sp : Sp} (F : Fun K x qual st f fd) (S : FnScope N ps (defScope st)) (len : ∀ vs H Q E, sp vs H Q E → vs.length = ps.length)
    (hbody : ∀ (cdv : Value) (A : Around) (outer : List Env) (s : Shared) (H : Hp) (vs : List V) (Q : VK) (E : XK), Room k (A.deeper (envOfC qual (defScope st) s.heap.objs.size f cdv)) → sp vs H Q E →
      ∃ t, PSs (cxOf (CXE P w) P w K mg base N qual (defScope st) f cdv A outer s H E) (defBody st) t ∧ t { nx := fun _ H' => Q .non H', rt := Q } (start N vs) H) : FnOk P w K mg base (CXE P w) (k + 1) f fd ps sp := by
  obtain ⟨oc, od, kV, doc, pm, an, cdv, ct, osl, rfl, lk, hcd⟩ := F.ex
  refine fn_of lk hcd S len fun A outer s H vs Q E hr hsp => ?_
  obtain ⟨t, h, q⟩ := hbody cdv A outer s H vs Q E hr hsp
  exact ⟨t, h, q⟩
end
end L2
namespace L2
end L2
namespace L2
open PySem PySem.Spec PyProof.Rows
theorem pass0E {X : Cx} : Passes (CXE X.prog X.w) X E0 := fun _ _ _ _ _ _ _ h => by
  obtain ⟨_, _, _, _, _, _, _, _, _, _, _, _, _, _, _, z⟩ := h
  exact z.elim
end L2

/-! pieces that lie in the heap: (name, stretches, names); what is done to the last one -/
namespace L2
open PySem PySem.Spec PyProof.Rows
set_option genInjectivity false in
structure FillM where
  a : Addr
  at_ : Int
  rule : Str
  name : Str
  add : Int
  soft : Bool
set_option genInjectivity false in
structure StM where
  t : Addr
  lw : Addr
  lf : Addr
  kind : Str
  step : Int
  words : List Int
  fills : List FillM
set_option genInjectivity false in
structure ToldM where
  a : Addr
  name : Str
  sort : Str
  st : Int
  off : Int
set_option genInjectivity false in
structure PcM where
  t : Addr
  ls : Addr
  ln : Addr
  name : Str
  sts : List StM
  nms : List ToldM
noncomputable abbrev FillM.v (f : FillM) : V := .ref f.a
noncomputable abbrev StM.v (s : StM) : V := .ref s.t
noncomputable abbrev ToldM.v (n : ToldM) : V := .ref n.a
noncomputable def FillM.At (H : Hp) (f : FillM) : Prop := H f.a = some (.tup [.int f.at_, .str f.rule, .str f.name, .int f.add, .bl f.soft])
noncomputable def ToldM.At (H : Hp) (n : ToldM) : Prop := H n.a = some (.tup [.str n.name, .str n.sort, .int n.st, .int n.off])
set_option genInjectivity false in
structure StM.At (H : Hp) (s : StM) : Prop where
  top : H s.t = some (.tup [.str s.kind, .int s.step, .ref s.lw, .ref s.lf])
  wd : H s.lw = some (.lst (s.words.map V.int))
  fl : H s.lf = some (.lst (s.fills.map FillM.v))
  fs : ∀ f ∈ s.fills, f.At H
set_option genInjectivity false in
structure PcM.At (H : Hp) (p : PcM) : Prop where
  top : H p.t = some (.tup [.str p.name, .ref p.ls, .ref p.ln])
  sl : H p.ls = some (.lst (p.sts.map StM.v))
  nl : H p.ln = some (.lst (p.nms.map ToldM.v))
  ss : ∀ s ∈ p.sts, s.At H
  ns : ∀ n ∈ p.nms, n.At H
noncomputable def StM.lists (s : StM) : List Addr := [s.lw, s.lf]
noncomputable def PcM.lists (p : PcM) : List Addr := p.ls :: p.ln :: p.sts.flatMap StM.lists
/-! ### kept -/
noncomputable def But (H H' : Hp) (l : Addr) : Prop := (∃ xs, H l = some (.lst xs)) ∧ ∀ b o, H b = some o → b ≠ l → H' b = some o
theorem But.tup {H H' : Hp} {l a : Addr} {xs : List V} (b : But H H' l) (h : H a = some (.tup xs)) : H' a = some (.tup xs) := by
  obtain ⟨ys, hl⟩ := b.1
  exact b.2 _ _ h fun e => by rw [e, hl] at h; cases h
theorem FillM.At.but {H H' : Hp} {l : Addr} {f : FillM} (h : f.At H) (b : But H H' l) : f.At H' := b.tup h
theorem ToldM.At.but {H H' : Hp} {l : Addr} {n : ToldM} (h : n.At H) (b : But H H' l) : n.At H' := b.tup h
theorem StM.At.but {H H' : Hp} {l : Addr} {s : StM} (h : s.At H) (b : But H H' l) (n : l ∉ s.lists) : s.At H' :=
  ⟨b.tup h.top, b.2 _ _ h.wd fun e => n (by simp [StM.lists, e]), b.2 _ _ h.fl fun e => n (by simp [StM.lists, e]), fun f hf => (h.fs f hf).but b⟩
theorem PcM.At.but {H H' : Hp} {l : Addr} {p : PcM} (h : p.At H) (b : But H H' l) (n : l ∉ p.lists) : p.At H' :=
  ⟨b.tup h.top, b.2 _ _ h.sl fun e => n (by simp [PcM.lists, e]), b.2 _ _ h.nl fun e => n (by simp [PcM.lists, e]),
    fun s hs => (h.ss s hs).but b fun z => n (by simp only [PcM.lists, List.mem_cons]; exact .inr (.inr (List.mem_flatMap.mpr ⟨s, hs, z⟩))), fun m hm => (h.ns m hm).but b⟩
/-! ### the lists are tracked -/
theorem StM.At.list {H : Hp} {s : StM} (h : s.At H) {b : Addr} (hb : b ∈ s.lists) : ∃ xs, H b = some (.lst xs) := by
  simp only [StM.lists, List.mem_cons, List.not_mem_nil, or_false] at hb
  rcases hb with e | e
  · rw [e]; exact ⟨_, h.wd⟩
  · rw [e]; exact ⟨_, h.fl⟩
/-! ### what is done -/
end L2
namespace L2
open PySem PySem.Spec PyProof.Rows
/-! ### as data -/
theorem RepL.map {K : PySem.W.Frag} {H : Hp} {α : Type} {f : α → D} {g : α → V} : ∀ {xs : List α}, (∀ x ∈ xs, Rep K H (f x) (g x)) → RepL K H (xs.map f) (xs.map g)
  | [], _ => by simp [RepL]
  | x :: xs, h => by
    simp only [List.map_cons, RepL]
    exact ⟨_, _, rfl, h x (List.mem_cons_self ..), RepL.map fun y hy => h y (List.mem_cons_of_mem _ hy)⟩
theorem depL_le {α : Type} {f : α → D} {n : Nat} : ∀ {xs : List α}, (∀ x ∈ xs, dep (f x) ≤ n) → depL (xs.map f) ≤ n
  | [], _ => by simp [depL]
  | x :: xs, h => by
    simp only [List.map_cons, depL]
    exact Nat.max_le.mpr ⟨h x (List.mem_cons_self ..), depL_le fun y hy => h y (List.mem_cons_of_mem _ hy)⟩
end L2

/-! own errors with an __init__ of their own -/
namespace L2
open PySem PySem.Spec PyProof.Rows PySem.W
noncomputable abbrev VE : List Value := [.type "ValueError", .type "Exception", .type "BaseException", .type "object"]
noncomputable def ownInit (K : Frag) (C fI : Addr) : Bool :=
  match K.lookup C with
  | none => false
  | some ob =>
    match ob.cls, ob.data, ob.slots.toList with
    | .type "type", .cls cd, [_, _, _, _, some (.builtin n), _] =>
      (match cd.mro with
       | .ref C' :: bm => C' == C && (n == "ValueError.__new__" && (!cd.hasDel && (tailIn K VE bm && (nsOkIn K cd.ns && (cd.hasDict && nsIn K cd.ns "__init__" == some (some (.ref fI)))))))
       | _ => false)
    | _, _, _ => false
theorem ns_has {K : Frag} {h : Heap} {N : Addr} {m : Str → Option Value} {n : Str} {v : Value} (X : K.In h) (G : h.Ns N m) (e : nsIn K N n = some (some v)) : m n = some v := by
  obtain ⟨o, es, ep, ho, hd, _, hf⟩ := G
  unfold nsIn at e
  split at e
  · rename_i c d es' n' sl q
    have z := X _ _ q
    rw [ho] at z
    cases z
    cases hd
    split at e
    · rename_i en he
      cases e
      rw [← hf]
      unfold nsFind findBy
      rw [← Array.find?_toList, he]
      rfl
    · split at e <;> cases e
  · cases e
theorem init_obj {K : Frag} {h : Heap} {C fI : Addr} (X : K.In h) (q : ownInit K C fI = true) :
    ∃ bm N nm q bs sn sub ab col dd k0 k1 k2 k3 k5 mN, h.get? C = some (excClassObj nm q C N bs bm true sn sub ab col dd k0 k1 k2 k3 k5 "ValueError.__new__") ∧ h.Ns N mN ∧ mN "__init__" = some (.ref fI) ∧ OwnTail h VE bm := by
  unfold ownInit at q
  split at q
  · cases q
  · rename_i ob ho
    split at q
    · rename_i cd _ _ _ _ n _ hc hd hs
      split at q
      · rename_i C' bm hm
        simp only [Bool.and_eq_true, beq_iff_eq, Bool.not_eq_true'] at q
        obtain ⟨rfl, rfl, hdel, ht, hok, hdi, hni⟩ := q
        obtain ⟨oc, odi, oda, osl⟩ := ob
        dsimp only at hc hd hs
        subst hc hd
        obtain ⟨nm, bs, mro, ns, qn, hdd, sn, sub, ab, col, del⟩ := cd
        dsimp only at hm hdel hok hni hdi
        subst hm hdel hdi
        obtain ⟨l⟩ := osl
        simp only at hs
        subst hs
        refine ⟨bm, ns, nm, qn, bs, sn, sub, ab, col, odi, _, _, _, _, _, _, X _ _ ho, .of_isNs (PySem.W.isNs_of_in X hok), ?_, PySem.W.tail_of_in X ht⟩
        exact ns_has X (.of_isNs (PySem.W.isNs_of_in X hok)) hni
      · cases q
    · cases q
section
variable {prog : Program} {w : World} {A : Around} {E : Value → Shared → Prop} {h : Heap} {g : Array GenState} {d : Drawn} {t : Nat} {os : OsState}
variable {nm q : Str} {C N : Addr} {bs bm bmB : List Value} {hdct : Bool} {sn : List Str} {sub : List Value} {ab : Bool} {col : Option Bool} {dd : Option Addr} {k0 k1 k2 k3 k5 : Option Value} {B newId initId : String}
theorem type_call_init (F : ExcBaseFacts B newId initId bmB) (T : OwnTail h bmB bm) {mN : Str → Option Value} {rest : List Value} {fI : Addr} {oI : Obj} {Q : Fin → Shared → Prop}
    (hC : h.get? C = some (excClassObj nm q C N bs bm hdct sn sub ab col dd k0 k1 k2 k3 k5 newId)) (hn : h.Ns N mN) (hi : mN "__init__" = some (.ref fI))
    (hfI : h.get? fI = some oI) (hfc : oI.cls = .type "function")
    (hq : ∀ h' e, h.objs.size ≤ e → Heap.MadeExcOf h h' e (.ref C) rest →
      wpAny (model prog w) A (call (.ref fI) (.ref e :: rest)) (fun r s' => r = .none ∧ Q (.done (.ret (.ref e))) s') E ⟨h', g, d, t, os⟩) (hrest : rest.length ≤ sizeLine) :
    wpAny (model prog w) A (Builtin.«type.__call__» ⟨.ref C :: rest, []⟩) Q E ⟨h, g, d, t, os⟩ := by
  repeat (first | with_reducible refine wpAny_loadPart_at hC ?_ | with_reducible refine wpAny_madeBy_exc hC ?_ | wp_step)
  refine codeAny_call_builtin_code (Code.quiet_builtin _ F.quiet) (wpAny_check_new_subT F T hC ?_)
  refine codeAny_exc_new_subT F T hC ?_ hrest
  show wpAny _ _ _ _ _ _
  have up : ∀ b o, h.get? b = some o → ((h.push { cls := .type "tuple", data := .seq rest.toArray }).push { cls := .ref C, data := .fields #[.ref h.objs.size, .none, .none, .none, .bool false, .none] }).get? b = some o :=
    fun b o e => Heap.get?_push_of_some _ (Heap.get?_push_of_some _ e)
  have hC₁ := up _ _ hC
  have hfI₁ := up _ _ hfI
  have hn₁ := hn.keeps up
  have hget : ((h.push { cls := .type "tuple", data := .seq rest.toArray }).push
      { cls := .ref C, data := .fields #[.ref h.objs.size, .none, .none, .none, .bool false, .none] }).get? (h.objs.size + 1) = some
      { cls := .ref C, data := .fields #[.ref h.objs.size, .none, .none, .none, .bool false, .none] } := by heap_get
  have hcC : (Value.ref C :: bm).contains (.ref C) = true := by simp
  unfold isInstance
  repeat (first | with_reducible refine wpAny_loadPart_at hget ?_ | (with_reducible refine wpAny_isSubtype_exc hC₁ ?_; rw [hcC]) | wp_step)
  show wpAny _ _ (typeLookup (.ref C) _) _ _ _
  refine wpAny_typeLookup_tail hC₁ hn₁ (T.keeps up) F.mroIs F.init.lookup ?_
  rw [hi]
  refine wpAny_holding (wpAny_bind ?_)
  unfold bindSpecial
  refine wpAny_bind (wpAny_typeOf (T := "function") ⟨_, hfI₁, hfc⟩ ?_)
  rw [if_pos (by decide)]
  refine wpAny_pure (wpAny_bind (wpAny_mono (hq _ (h.objs.size + 1) (Nat.le_succ _) ⟨up, Heap.get?_none_of_le (Nat.le_succ _), h.objs.size, hget, Heap.get?_none_of_le (Nat.le_refl _), ?_⟩) (fun r s' hr => ?_) fun _ _ x => x))
  · exact Heap.get?_push_of_some _ (Heap.get?_push_at rfl rfl)
  · obtain ⟨rfl, hQ⟩ := hr
    wp_walk
    exact hQ
theorem call_init (F : ExcBaseFacts B newId initId bmB) (T : OwnTail h bmB bm) {mN : Str → Option Value} {rest : List Value} {fI : Addr} {oI : Obj} {Q : Value → Shared → Prop}
    (hC : h.get? C = some (excClassObj nm q C N bs bm hdct sn sub ab col dd k0 k1 k2 k3 k5 newId)) (hn : h.Ns N mN) (hi : mN "__init__" = some (.ref fI))
    (hfI : h.get? fI = some oI) (hfc : oI.cls = .type "function")
    (hq : ∀ h' e, h.objs.size ≤ e → Heap.MadeExcOf h h' e (.ref C) rest →
      wpAny (model prog w) (A.under (.builtin "type.__call__" ⟨.ref C :: rest, []⟩)) (call (.ref fI) (.ref e :: rest)) (fun r s' => r = .none ∧ Q (.ref e) s') E ⟨h', g, d, t, os⟩) (hrest : rest.length ≤ sizeLine) :
    wpAny (model prog w) A (call (.ref C) rest) Q E ⟨h, g, d, t, os⟩ := by
  have f1 := tc_lookup
  have f2 := tc_bind (.ref C)
  have hT : (⟨h, g, d, t, os⟩ : Shared).TypeIs (.ref C) "type" := ⟨_, hC, rfl⟩
  refine wpAny_call (codeAny_of_tree ?_)
  show wpAny _ _ (callAny (.ref C) _) _ _ _
  repeat (any_goals (first | assumption | with_reducible refine wpAny_loadPart_at hC ?_ | wp_step))
  refine ⟨rfl, ?_⟩
  refine codeAny_call_builtin_at (Code.quiet_builtin _ (by decide +kernel)) entry_typeCall (wpAny_check_type_call_sub hC (type_call_init (hrest := hrest) F T hC hn hi hfI hfc fun h' e hz hm => ?_))
  exact hq h' e hz hm
theorem base_init (F : ExcBaseFacts B newId initId bmB) (T : OwnTail h bmB bm) {e : Addr} {oe : Obj} {vs : Array Value} {v0 : Value} {rest : List Value} {Q : Value → Shared → Prop}
    (hC : h.get? C = some (excClassObj nm q C N bs bm hdct sn sub ab col dd k0 k1 k2 k3 k5 newId)) (he : h.get? e = some oe) (hcls : oe.cls = .ref C) (hd : oe.data = .fields vs) (h0 : vs[0]? = some v0)
    (hq : ∀ h' T, (∀ b o, b ≠ e → h.get? b = some o → h'.get? b = some o) → h'.get? e = some { oe with data := .fields (vs.setIfInBounds 0 T) } → Q .none ⟨h', g, d, t, os⟩) (hrest : rest.length ≤ sizeLine) :
    wpAny (model prog w) A (call (.builtin initId) (.ref e :: rest)) Q E ⟨h, g, d, t, os⟩ := by
  refine wpAny_call (codeAny_call_builtin F.init.plain F.initEntry (wpAny_check_init_subT F T hC he hcls ?_))
  have he1 := Heap.get?_push_of_some { cls := .type "tuple", data := .seq rest.toArray } he
  have hsz := (Array.getElem?_eq_some_iff.mp h0).1
  unfold Builtin.«BaseException.__init__»
  repeat (first | with_reducible refine wpAny_field he1 hd h0 ?_ | with_reducible refine wpAny_setField he1 hd hsz ?_ | wp_step)
  have hd3 : (Obj.mapFields (·.setIfInBounds 0 (Value.ref h.objs.size)) oe).data = .fields (vs.setIfInBounds 0 (Value.ref h.objs.size)) := Obj.data_mapFields hd _
  have e3 := Heap.get?_update_self (Obj.mapFields (·.setIfInBounds 0 (Value.ref h.objs.size))) he1 (Obj.isFreed_of_fields hd3)
  have e4 : Obj.mapFields (·.setIfInBounds 0 (Value.ref h.objs.size)) oe = { oe with data := .fields (vs.setIfInBounds 0 (Value.ref h.objs.size)) } := by
    obtain ⟨oc, od, oda, osl⟩ := oe
    dsimp only at hd
    subst hd
    rfl
  rw [e4] at e3
  have fin := hq _ (.ref h.objs.size) (fun b o hb ho => by rw [Heap.get?_update_other _ _ (Ne.symm hb)]; exact Heap.get?_push_of_some _ ho) e3
  cases v0 <;> repeat (first | exact fin | (unfold letGo; done) | with_reducible exact wpAny_holding (wpAny_point (wpAny_pure ?_)) | wp_step)
end
/-! ### self.f = v of an error that is being made -/
noncomputable def onlyErr : List Value → Bool
  | .ref _ :: r => onlyErr r
  | l => l == VE
noncomputable def errIn (K : Frag) (C : Addr) : Bool := (clsIn K C).any fun cd => cd.hasDict && onlyErr cd.mro
theorem refuse_err (self : Value) : ∀ {l : List Value}, onlyErr l = true → refuseLoop self "__setattr__" l = pure ()
  | .ref c :: r, e => by rw [refuseLoop_ref]; exact refuse_err self (l := r) e
  | [], e => by cases (show ([] : List Value) = VE from beq_iff_eq.mp e)
  | .type n :: r, e => by rw [show (Value.type n :: r) = VE from beq_iff_eq.mp e]; exact PySem.F.store_ValueError.passes self
  | .none :: r, e => nomatch (show (Value.none :: r) = VE from beq_iff_eq.mp e)
  | .bool b :: r, e => nomatch (show (Value.bool b :: r) = VE from beq_iff_eq.mp e)
  | .int b t :: r, e => nomatch (show (Value.int b t :: r) = VE from beq_iff_eq.mp e)
  | .str b t :: r, e => nomatch (show (Value.str b t :: r) = VE from beq_iff_eq.mp e)
  | .bytes b t :: r, e => nomatch (show (Value.bytes b t :: r) = VE from beq_iff_eq.mp e)
  | .float b t :: r, e => nomatch (show (Value.float b t :: r) = VE from beq_iff_eq.mp e)
  | .builtin b :: r, e => nomatch (show (Value.builtin b :: r) = VE from beq_iff_eq.mp e)
theorem err_has : ∀ {l : List Value}, onlyErr l = true → l.contains (.type "object") = true
  | .ref c :: r, e => by rw [List.contains_cons, err_has (l := r) e, Bool.or_true]
  | [], e => by cases (show ([] : List Value) = VE from beq_iff_eq.mp e)
  | .type n :: r, e => by rw [show (Value.type n :: r) = VE from beq_iff_eq.mp e]; decide
  | .none :: r, e => nomatch (show (Value.none :: r) = VE from beq_iff_eq.mp e)
section
variable {prog : Program} {w : World} {A : Around} {E : Value → Shared → Prop} {s : Shared} {K : Frag} {x C : Addr} {R : Result → Shared → Prop}
theorem osa_err {ox : Obj} {od : Option Obj} {name : Str} {tk : Tok} {v : Value} (X : K.In s.heap) (I : InstAt s.heap x ox C od) (hp : errIn K C = true) (hf : findIn K (.ref C) name = some none)
    (h : wpAny (model prog w) A.in1 (Builtin.ObjectAttr.storeInOwnDict (.ref x) (.ref C) (.str name tk) name v false)
      (fun fin s' => match fin with | .done f => R (.ok f) s' | .again c' => c'.quiet = true ∧ codeAny (model prog w) A c' R s') (fun e s' => R (.error e) s') s) :
    codeAny (model prog w) A (.call (.builtin "object.__setattr__") ⟨[.ref x, .str name tk, v], []⟩) R s := by
  have SF := PySem.F.store_object
  obtain ⟨cd, hc, ho⟩ := any_some hp
  rw [Bool.and_eq_true] at ho
  obtain ⟨_, ho⟩ := ho
  have ne : cd.mro.isEmpty = false := by cases q : cd.mro with | nil => rw [q] at ho; cases ho | cons _ _ => rfl
  have sub : Looks (model prog w) s.heap (isInstance (.ref x) (.type "object")) true := I.type.andThen (looks_mroIn X (by unfold mroIn; rw [hc, Option.bind_some, if_neg (by rw [ne]; decide), err_has ho]))
  refine codeAny_call_builtin SF.slot.plain SF.entry (@check_slot (model prog w) _ _ s "object.__setattr__" "object" "__setattr__" (.ref x) [.str name tk, v] [] _ SF.kind SF.split sub (SF.args (.ref x) (.str name tk) v) ?_)
  have hm : Looks (model prog w) s.heap (mroOf (.ref C)) cd.mro := (looks_clsIn X hc).andThen .now
  rw [osa_eq, refuse_eq]
  refine wpAny_bind (wpAny_bind (I.type.here (wpAny_bind (hm.here ?_))))
  rw [refuse_err _ ho]
  refine wpAny_pure (wpAny_bind (I.type.here (wpAny_bind ((looks_findIn X hf).here (wpAny_bind (wpAny_pure ?_))))))
  exact h
theorem set_err0 {ox : Obj} {vs : Array Value} {name : Str} {v : Value} {Q : Unit → Shared → Prop} (X : K.In s.heap) (hx : s.heap.get? x = some ox) (hcl : ox.cls = .ref C) (hdn : ox.dict = none) (hda : ox.data = .fields vs) (hp : errIn K C = true)
    (hs : findIn K (.ref C) "__setattr__" = some (some (.builtin "object.__setattr__"))) (hf : findIn K (.ref C) name = some none)
    (h : ∀ h' tk, h'.get? x = some { ox with dict := some s.heap.objs.size } → h'.Ns1 s.heap.objs.size (fun y => if y = name then some v else none) → (∀ b o, b ≠ x → s.heap.get? b = some o → h'.get? b = some o) → Q () { s with heap := h', toks := tk }) :
    wpAny (model prog w) A (setAttr (.ref x) name v) Q E s := by
  obtain ⟨hh, g, d, t, os⟩ := s
  have J : InstAt hh x ox C none := ⟨hx, hcl, by unfold notCls; rw [hda], by rw [hdn]; trivial⟩
  refine set_plain X J hs (osa_err (s := ⟨hh, g, d, t + 1, os⟩) X J hp hf ?_)
  obtain ⟨cd, hc, ho⟩ := any_some hp
  rw [Bool.and_eq_true] at ho
  refine wpAny_bind (wpAny_pure (wpAny_bind (wpAny_bind (wpAny_loadPart hx ?_))))
  rw [hcl]
  refine wpAny_bind (Looks.here (s := ⟨hh, g, d, t + 1, os⟩) (looks_clsIn X hc) ?_)
  rw [ho.1, hdn, hda]
  rw [if_neg (by decide)]
  dsimp only
  rw [if_neg (by simp [typeHasDict])]
  have hx₁ : (hh.push { cls := .type "dict", data := .dict #[] }).get? x = some ox := Heap.get?_push_of_some _ hx
  have hxs : x ≠ hh.objs.size := Nat.ne_of_lt (Heap.lt_size hx)
  refine wpAny_bind (wpAny_alloc' ?_)
  refine wpAny_bind (wpAny_update' hx₁ ?_)
  refine wpAny_pure ?_
  have hgd : ((hh.push { cls := .type "dict", data := .dict #[] }).update x fun o => { cls := o.cls, dict := some hh.objs.size, data := o.data, slots := o.slots }).get? hh.objs.size
      = some { cls := .type "dict", data := .dict #[] } := (Heap.get?_update_ne _ _ _ _ hxs.symm).trans (Heap.get?_push_at rfl rfl)
  have hnd : ((hh.push { cls := .type "dict", data := .dict #[] }).update x fun o => { cls := o.cls, dict := some hh.objs.size, data := o.data, slots := o.slots }).Ns hh.objs.size (fun _ => none) :=
    ⟨_, #[], _, hgd, rfl, fun e he => absurd he (by simp), fun _ => rfl⟩
  show wpAny _ _ (Builtin.ObjectAttr.storeInDict hh.objs.size (.str name t) name v) _ _ _
  unfold Builtin.ObjectAttr.storeInDict Builtin.ObjectAttr.newKeyGuard
  refine wpAny_bind (wpAny_pure (wpAny_bind (wpAny_nsSet1 (Heap.Ns1.of_empty hnd) fun h' hn' hs => ?_)))
  obtain ⟨oD, esD, epD, hoD, hdD, hcD⟩ := hn'.count (Within.cons name v Within.nil)
  refine wpAny_bind (wpAny_lookBehind hoD (by rw [hdD]; exact pastItsLine_dict (Nat.le_trans hcD (by rw [List.length_cons, List.length_nil, sizeLine_eq]; omega))) ?_)
  refine wpAny_pure (h h' _ ?_ hn' fun b o hb hbo => ?_)
  · refine (hs.2 x hxs).trans (Heap.get?_update_self _ hx₁ ?_)
    obtain ⟨oc, od, odt, osl⟩ := ox
    dsimp only at hda
    subst hda
    rfl
  · exact (hs.2 b (Nat.ne_of_lt (Heap.lt_size hbo))).trans ((Heap.get?_update_ne _ _ _ _ hb).trans (Heap.get?_push_of_some _ hbo))
theorem set_err1 {ox : Obj} {dx : Addr} {mA : Str → Option Value} {vs : Array Value} {name : Str} {v : Value} {ns : List Str} {Q : Unit → Shared → Prop} (X : K.In s.heap) (hx : s.heap.get? x = some ox) (hcl : ox.cls = .ref C) (hdn : ox.dict = some dx) (hda : ox.data = .fields vs)
    (hns : s.heap.Ns1 dx mA) (hp : errIn K C = true) (hs : findIn K (.ref C) "__setattr__" = some (some (.builtin "object.__setattr__"))) (hf : findIn K (.ref C) name = some none) (hw : Within mA ns) (hsz : ns.length ≤ sizeLine)
    (h : ∀ h' tk, h'.Ns1 dx (fun y => if y = name then some v else mA y) → Heap.SameBut dx s.heap h' → Q () { s with heap := h', toks := tk }) :
    wpAny (model prog w) A (setAttr (.ref x) name v) Q E s := by
  obtain ⟨hh, g, d, t, os⟩ := s
  obtain ⟨oD, _, _, hoD, _⟩ := id hns
  have J : InstAt hh x ox C (some oD) := ⟨hx, hcl, by unfold notCls; rw [hda], by rw [hdn]; exact hoD⟩
  refine set_plain X J hs (osa_err (s := ⟨hh, g, d, t + 1, os⟩) X J hp hf ?_)
  obtain ⟨cd, hc, ho⟩ := any_some hp
  rw [Bool.and_eq_true] at ho
  refine wpAny_bind (wpAny_pure (wpAny_bind (wpAny_bind (wpAny_loadPart hx ?_))))
  rw [hcl]
  refine wpAny_bind (Looks.here (s := ⟨hh, g, d, t + 1, os⟩) (looks_clsIn X hc) ?_)
  rw [ho.1, hdn]
  rw [if_neg (by decide)]
  refine wpAny_pure ?_
  show wpAny _ _ (Builtin.ObjectAttr.storeInDict dx (.str name t) name v) _ _ _
  unfold Builtin.ObjectAttr.storeInDict Builtin.ObjectAttr.newKeyGuard
  refine wpAny_bind (wpAny_pure (wpAny_bind (wpAny_nsSet1 hns fun h' hn' hs => ?_)))
  obtain ⟨oD, esD, epD, hoD, hdD, hcD⟩ := hn'.count (Within.cons name v hw)
  refine wpAny_bind (wpAny_lookBehind hoD (by rw [hdD]; exact pastItsLine_dict (Nat.le_trans hcD (by rw [List.length_cons]; omega))) ?_)
  exact wpAny_pure (h h' _ hn' hs)
end
end L2

namespace L2
open PySem PySem.Spec PyProof.Rows PySem.W
section
variable {M : Model} {A : Around} {E : Value → Shared → Prop} {env : Env}
variable {nm q : Str} {C N : Addr} {bs bm : List Value} {hdct : Bool} {sn : List Str} {sub : List Value} {ab : Bool} {col : Option Bool} {dd : Option Addr} {k0 k1 k2 k3 k5 : Option Value} {newId : String}
theorem raise_made {s : Shared} {x : Sem Value} {Q : Flow → Shared → Prop} (hbase : bm.contains (.type "BaseException") = true) (hh : A.handled = none)
    (h : wpAny M A x (fun v s₁ => ∃ e oe vs, v = .ref e ∧ s₁.heap.get? C = some (excClassObj nm q C N bs bm hdct sn sub ab col dd k0 k1 k2 k3 k5 newId) ∧
      s₁.heap.get? e = some oe ∧ oe.cls = .ref C ∧ oe.data = .fields vs ∧ vs[1]? = some .none ∧ E (.ref e) s₁) E s) :
    wpAny M A (raiseStmt env (some x) none) Q E s := by
  have hcB : (Value.ref C :: bm).contains (.type "BaseException") = true := by rw [List.contains_cons, hbase, Bool.or_true]
  unfold raiseStmt
  refine wpAny_bind (wpAny_mono h (fun v s₁ h₁ => ?_) fun _ _ x => x)
  obtain ⟨e, oe, vs, rfl, hC, he, hcls, hd, h1, hE⟩ := h₁
  obtain ⟨hp, g, d, tk, os⟩ := s₁
  obtain ⟨oc, odi, oda, osl⟩ := oe
  dsimp only at hcls hd
  subst hcls hd
  repeat (first | with_reducible refine wpAny_loadPart_at he ?_ | with_reducible refine wpAny_loadPart_at hC ?_ | (with_reducible refine wpAny_isSubtype_exc hC ?_; rw [hcB]) | with_reducible refine wpAny_field he rfl h1 ?_ | wp_step)
  exact wpAny_raiseNew_none hh hE
end
section
variable {prog : Program} {w : World} {A : Around} {E : Value → Shared → Prop} {s : Shared} {env : Env}
variable {nm q : Str} {C N : Addr} {bs bm bmB : List Value} {hdct : Bool} {sn : List Str} {sub : List Value} {ab : Bool} {col : Option Bool} {dd : Option Addr} {k0 k1 k2 k3 k5 : Option Value} {B newId initId : String}
theorem raise_init (F : ExcBaseFacts B newId initId bmB) {mN : Str → Option Value} {x : Str} {np cpos pos : Pos} {args : List Expr} {fI : Addr} {oI : Obj} {Q : Flow → Shared → Prop}
    (hbase : bm.contains (.type "BaseException") = true) (hh : A.handled = none) (hplain : (backTo cpos (starEach args env)).any (·.1) = false) (hi : mN "__init__" = some (.ref fI)) (hfc : oI.cls = .type "function")
    (h : wpAny (model prog w) A (eval (.Name x np) env) (fun f s₁ => f = .ref C ∧ wpAny (model prog w) A (evalArgs (.ref C) true (backTo cpos (starEach args env)) [])
      (fun a s₂ => a.kw = [] ∧ a.pos.length ≤ sizeLine ∧ s₂.heap.get? C = some (excClassObj nm q C N bs bm hdct sn sub ab col dd k0 k1 k2 k3 k5 newId) ∧ s₂.heap.Ns N mN ∧ OwnTail s₂.heap bmB bm ∧ s₂.heap.get? fI = some oI ∧
        ∀ h' e, s₂.heap.objs.size ≤ e → Heap.MadeExcOf s₂.heap h' e (.ref C) a.pos →
          wpAny (model prog w) (A.under (.builtin "type.__call__" ⟨.ref C :: a.pos, []⟩)) (call (.ref fI) (.ref e :: a.pos)) (fun r s' => r = .none ∧ ∃ oe vs, s'.heap.get? C = some (excClassObj nm q C N bs bm hdct sn sub ab col dd k0 k1 k2 k3 k5 newId) ∧
            s'.heap.get? e = some oe ∧ oe.cls = .ref C ∧ oe.data = .fields vs ∧ vs[1]? = some .none ∧ E (.ref e) s') E { s₂ with heap := h' }) E s₁) E s) :
    wpAny (model prog w) A (exec (.Raise (some (.Call (.Name x np) args [] cpos)) none pos) env) Q E s := by
  rw [arm_exec_Raise]
  refine wpAny_bind (wpAny_standAt (raise_made (C := C) (nm := nm) (q := q) (N := N) (bs := bs) (bm := bm) (hdct := hdct) (sn := sn) (sub := sub) (ab := ab) (col := col) (dd := dd) (k0 := k0) (k1 := k1) (k2 := k2) (k3 := k3) (k5 := k5) (newId := newId) hbase hh
    (wpAny_bind (wpAny_mono (wpAny_Call_ofName (wpAny_mono h (fun f s₁ h₁ => ?_) fun _ _ x => x)) (fun v s₃ h₃ => wpAny_bind (wpAny_standAt (wpAny_pure h₃))) fun _ _ x => x))))
  obtain ⟨rfl, h₁⟩ := h₁
  unfold callWith
  refine wpAny_bind (wpAny_holding (wpAny_mono h₁ (fun a s₂ h₂ => wpAny_bind (wpAny_standAt ?_)) fun _ _ x => x))
  obtain ⟨apos, akw⟩ := a
  obtain ⟨hkw, hlen, hC, hn, T, hfI, h₂⟩ := h₂
  obtain rfl : akw = [] := hkw
  obtain ⟨hp, g, d, tk, os⟩ := s₂
  simp only [hplain]
  refine wpAny_bind (wpAny_keeperOf_exc hC ?_)
  refine wpAny_bind (call_init (hrest := hlen) F T hC hn hi hfI hfc fun h' e hz hm => wpAny_mono (h₂ h' e hz hm) (fun r s' hr => ⟨hr.1, wpAny_bind (wpAny_holding (wpAny_point (wpAny_pure ?_)))⟩) fun _ _ x => x)
  obtain ⟨_, oe, vs, k1, k2, k3, k4, k5, k6⟩ := hr
  exact ⟨e, oe, vs, rfl, k1, k2, k3, k4, k5, k6⟩
end
/-! ### an error that is being made -/
noncomputable def XN (a C : Addr) (dx : Option Addr) : HO := .ext fun h => ∃ ob vs v0, h.get? a = some ob ∧ ob.cls = .ref C ∧ ob.dict = dx ∧ ob.data = .fields vs ∧ vs[0]? = some v0 ∧ vs[1]? = some .none
noncomputable def XD (d : Addr) (fs : List (Str × V)) : HO := .ext fun h => ∃ mA, h.Ns1 d mA ∧ (∀ f, RelO (fs.lookup f) (mA f)) ∧ PySem.Within mA (fs.map (·.1))
noncomputable def del (H : Hp) (a : Addr) : Hp := fun b => if b = a then none else H b
theorem del_ne {H : Hp} {a b : Addr} (h : b ≠ a) : del H a b = H b := by unfold del; rw [if_neg h]
theorem del_same {H : Hp} {a : Addr} : del H a a = none := by unfold del; rw [if_pos rfl]
theorem XN.get {P : Program} {w : World} {H : Hp} {h : Heap} {a C : Addr} {dx : Option Addr} (ok : HOk P w H h) (e : H a = some (XN a C dx)) : ∃ ob vs v0, h.get? a = some ob ∧ ob.cls = .ref C ∧ ob.dict = dx ∧ ob.data = .fields vs ∧ vs[0]? = some v0 ∧ vs[1]? = some .none := (ok a _ e).1
theorem XD.get {P : Program} {w : World} {H : Hp} {h : Heap} {d : Addr} {fs : List (Str × V)} (ok : HOk P w H h) (e : H d = some (XD d fs)) : ∃ mA, h.Ns1 d mA ∧ (∀ f, RelO (fs.lookup f) (mA f)) ∧ PySem.Within mA (fs.map (·.1)) := (ok d _ e).1
theorem XN.ok {P : Program} {w : World} {H : Hp} {h : Heap} {a C : Addr} {dx : Option Addr} (x : ∃ ob vs v0, h.get? a = some ob ∧ ob.cls = .ref C ∧ ob.dict = dx ∧ ob.data = .fields vs ∧ vs[0]? = some v0 ∧ vs[1]? = some .none) : ObjOk P w H h a (XN a C dx) := by
  obtain ⟨ob, vs, v0, he, r⟩ := x
  exact ⟨⟨ob, vs, v0, he, r⟩, ⟨ob, he⟩, fun h1 h2 ⟨ob, ws, v0, q, r⟩ k => ⟨ob, ws, v0, k _ q, r⟩⟩
theorem XD.ok {P : Program} {w : World} {H : Hp} {h : Heap} {d : Addr} {fs : List (Str × V)} (x : ∃ mA, h.Ns1 d mA ∧ (∀ f, RelO (fs.lookup f) (mA f)) ∧ PySem.Within mA (fs.map (·.1))) : ObjOk P w H h d (XD d fs) := by
  obtain ⟨mA, n, r⟩ := x
  obtain ⟨o, _, _, e, _⟩ := id n
  exact ⟨⟨mA, n, r⟩, ⟨o, e⟩, fun h1 h2 ⟨mA, n, r⟩ k => ⟨mA, n.at k, r⟩⟩
section
variable {X : Cx} {pins : List (Addr × Obj)} {σ : St} {H : Hp} {s : Shared} {a C : Addr} {φ : Heap → Prop}
theorem Inv.untrack (I : Inv X pins σ H s) (e : H a = some (.ext φ)) : Inv X pins σ (del H a) s := by
  have ne : ∀ b u, H b = some u → (∀ ψ, u ≠ .ext ψ) → b ≠ a := fun b u q n z => by rw [z, e] at q; exact n φ (Option.some.inj q).symm
  refine I.un (h' := s.heap) (t' := s.toks) ⟨fun b o q _ _ _ => q, fun b o q _ _ _ => ⟨o.slots, q⟩, fun b o q n _ => ?_, fun b o q _ => ⟨o, q⟩, fun b xs q => ?_, fun b o u q => ?_, fun b ps q => ⟨#[], ?_⟩⟩ fun b u q => ?_
  · by_cases hb : b = a
    · rw [hb]; exact del_same
    · rw [del_ne hb]; exact n
  · rw [del_ne (ne b _ q (by intro ψ z; cases z))]; exact q
  · rw [del_ne (ne b _ q (by intro ψ z; cases z))]; exact q
  · rw [del_ne (ne b _ q (by intro ψ z; cases z)), q]; simp
  · by_cases hb : b = a
    · rw [hb, del_same] at q; cases q
    · rw [del_ne hb] at q
      exact (I.hok b u q).stay (fun _ _ _ z => z) (fun c z => by rw [del_ne (ne c _ z (by intro ψ z; cases z))]; exact z) fun c xs z => by rw [del_ne (ne c _ z (by intro ψ z; cases z))]; exact z
theorem Inv.dictDone {d : Addr} {fs : List (Str × V)} (I : Inv X pins σ H s) (e : H d = some (XD d fs)) : Inv X pins σ (upd H d (.xd fs)) s := by
  obtain ⟨mA, n, r, _⟩ := XD.get I.hok e
  obtain ⟨o, _, _, q, _⟩ := id n
  exact I.write (h' := s.heap) (t' := s.toks) (x := d) (e := d) (by rw [e]; exact True.intro) (.inl rfl) (fun _ _ _ z => z) ⟨o, q⟩ ⟨mA, n, r⟩
end
end L2

namespace L2
open PySem PySem.Spec PyProof.Rows PySem.W
set_option genInjectivity false in
structure ErrC (K : Frag) (C f : Addr) : Prop where
  ini : ownInit K C f = true
  ei : errIn K C = true
  sa : findIn K (.ref C) "__setattr__" = some (some (.builtin "object.__setattr__"))
  fn : isFn K (.ref f) = true
set_option genInjectivity false in
structure BaseI (K : Frag) (B : Addr) : Prop where
  rd : readsIn K B (.type "type") = true
  fc : findCls K (.ref B) (.type "type") "__init__" = some (.val (.builtin "ValueError.__init__"))
  ga : specialIn K (.ref B) "__getattribute__" = some (some (.builtin "type.__getattribute__"))
theorem upd_id {H : Hp} {a : Addr} {o : HO} (e : H a = some o) : upd H a o = H := by
  funext b
  by_cases hb : b = a
  · subst hb; rw [upd_same, e]
  · rw [upd_ne hb]
noncomputable def tRaiseI (C : Addr) (sp : Sp) (E : XK) (t : TA) : TS := fun _ σ H => t σ H fun vs H1 => vs.length ≤ sizeLine ∧ ∀ x, H1 x = none → sp (.ref x :: vs) (upd H1 x (XN x C none)) (fun v H2 => v = .non ∧
  ((H2 x = some (XN x C none) ∧ E (.ref C) none (del H2 x)) ∨ ∃ d fs, d ≠ x ∧ H2 x = some (XN x C (some d)) ∧ H2 d = some (XD d fs) ∧ E (.ref C) (some d) (del (upd H2 d (.xd fs)) x))) E0
noncomputable def tXInit (K : Frag) (t : TA) : TE := fun σ H Q => t σ H fun vs H1 => ∃ a C dx rest f, vs = .ref a :: rest ∧ H1 a = some (XN a C dx) ∧ ErrC K C f ∧ rest.length ≤ sizeLine ∧ Q .non H1
noncomputable def sXFld (K : Frag) (ta tv : TE) (f : Str) : TS := fun D σ H => tv σ H fun y H1 => ta σ H1 fun x H2 => ∃ a C fI dx, x = .ref a ∧ H2 a = some (XN a C dx) ∧ ErrC K C fI ∧ NoAttr K C f ∧
  ((dx = none ∧ ∀ d, H2 d = none → D.nx σ (upd (upd H2 d (XD d [(f, y)])) a (XN a C (some d)))) ∨ ∃ d fs, dx = some d ∧ H2 d = some (XD d fs) ∧ fs.length < 1000 ∧ D.nx σ (upd H2 d (XD d (putF f y fs))))
noncomputable def tXFld (K : Frag) (ta : TE) (f : Str) : TE := fun σ H Q => ta σ H fun x H1 => ∃ a C d fs v, x = .ref a ∧ H1 a = some (XO a C (some d)) ∧ H1 d = some (.xd fs) ∧ XCls K C ∧ hasDictIn K C = true ∧ NoAttr K C f ∧ fs.lookup f = some v ∧ Q v H1
section
variable {X : Cx} {x f : Str} {B C fI : Addr} {k : Nat} {fd : FuncData} {ps : List Str} {sp : Sp} {E : XK} {e o value : Expr} {es : List Expr} {p np apos cpos pos pos' : Pos} {t : TA} {ta tv : TE}
theorem ps_raiseI (F : FnOk X.prog X.w X.K X.mg X.base CX0 k fI fd ps sp) (hr : Room (k + 1) X.A) (hb : Binds X.K fd ps []) (M : ErrC X.K C fI) (hg : Gl X x) (hm : X.mg x = some (.ref C)) (hc : X.calm = true) (hX : Xe X E) (ha : PA X (e :: es) t) (hex : X.ex = [] := by rfl)
    (he : starEach (e :: es) X.env = (false, eval e X.env) :: starEach es X.env := by rfl) (hplain : (backTo cpos (starEach es X.env)).any (·.1) = false := by rfl) (hdb : (x == ("__debug__" : Str)) = false := by decide) :
    PS X (.Raise (some (.Call (.Name x np) (e :: es) [] cpos)) none pos) (tRaiseI C sp E t) := by
  intro pins s σ H D I h
  obtain ⟨tl, N, nm, qn, bs, sn, sub, ab, col, dd, k0, k1, k2, k3, k5, mN, hC, hN, hni, T⟩ := init_obj I.ok.mod.kin M.ini
  obtain ⟨oI, hoI, hfc⟩ : ∃ oI, X.K.lookup fI = some oI ∧ oI.cls = .type "function" := Option.map_eq_some_iff.mp (beq_iff_eq.mp M.fn)
  have hfI := I.ok.mod.kin _ _ hoI
  refine raise_init (C := C) (nm := nm) (q := qn) (N := N) (bs := bs) (bm := tl) (hdct := true) (sn := sn) (sub := sub) (ab := ab) (col := col) (dd := dd) (k0 := k0) (k1 := k1) (k2 := k2) (k3 := k3) (k5 := k5) (fI := fI) (oI := oI)
    PySem.F.excBase_ValueError (mN := mN) (T.hasType PySem.F.excBase_ValueError.hasBase) (I.ok.hd hc) (by rw [he]; show (false || (backTo cpos (starEach es X.env)).any (·.1)) = false; rw [hplain]; rfl) hni hfc (ld_glob I hg hm ⟨rfl, ?_⟩ hdb)
  have h1 := ha cpos pins s σ H _ I h
  rw [he] at h1 ⊢
  refine Calls.evalArgs_plain (wpAny_mono h1 (fun us s2 h2 => ?_) fun _ _ y => y)
  obtain ⟨vs, H2, I2, rv, hz, hE⟩ := h2
  refine ⟨rfl, by rw [← rv.length]; exact hz, I2.bk _ _ hC, hN.keeps I2.bk, T.keeps I2.bk, I2.bk _ _ hfI, fun h' e hsz me => ?_⟩
  obtain ⟨t', hx, _, _⟩ := me.there
  have I3 : Inv X pins σ (upd H2 e (XN e C none)) { s2 with heap := h' } := I2.laid (t' := s2.toks) me.keeps hsz (XN.ok ⟨_, _, _, hx, rfl, rfl, rfl, rfl, rfl⟩)
  have hq := hE e (I2.hok.fresh hsz)
  have r2 : Vals (V.ref e :: vs) (Value.ref e :: us) := .cons rfl rv
  have hl : (Value.ref e :: us ++ []).length = ps.length := by
    have z := r2.length
    rw [F.len _ _ _ _ hq] at z
    rw [List.append_nil]; exact z.symm
  have hbb := hb { s2 with heap := h' } (Value.ref e :: us) I3.kIn hl
  rw [List.append_nil] at hbb
  have hs0 : X.s₀.heap.get? e = none := by
    cases qq : X.s₀.heap.get? e with
    | none => rfl
    | some o =>
      obtain ⟨o', q'⟩ := I2.base.there e o qq (by rw [hex]; simp)
      rw [me.new] at q'; cases q'
  refine wpAny_call (codeAny_mono (F.run _ X.stack _ _ ⟨Value.ref e :: us, []⟩ (Value.ref e :: us) _ _ E0 (hr.make C us []) (I3.env0.make C us []) hbb r2 hq) fun r s' hq' => ?_)
  cases r with
  | error e => exact False.elim hq'
  | ok fl =>
    cases fl with
    | ret u =>
      obtain ⟨v, H', I4, rv', ev, alt⟩ := I3.after hq'
      subst ev
      rcases alt with ⟨e1, hE⟩ | ⟨d, fs, dne, e1, e2, hE⟩
      · obtain ⟨ob, ws, v0, g1, g2, g3, g4, g5, g6⟩ := XN.get I4.hok e1
        exact ⟨rv', ob, ws, I4.bk _ _ hC, g1, g2, g4, g6, hX pins σ _ _ e (.ref C) none (I4.untrack e1) ⟨hs0, del_same, .inl ⟨ob, ws, g1, g2, g3, g4, g6⟩⟩ hE⟩
      · obtain ⟨ob, ws, v0, g1, g2, g3, g4, g5, g6⟩ := XN.get I4.hok e1
        have I5 := I4.dictDone e2
        have e3 : upd H' d (.xd fs) e = some (XN e C (some d)) := by rw [upd_ne (Ne.symm dne)]; exact e1
        exact ⟨rv', ob, ws, I4.bk _ _ hC, g1, g2, g4, g6, hX pins σ _ _ e (.ref C) (some d) (I5.untrack e3) ⟨hs0, del_same, .inl ⟨ob, ws, g1, g2, g3, g4, g6⟩⟩ hE⟩
    | next => exact False.elim hq'
    | brk => exact False.elim hq'
    | cont => exact False.elim hq'
theorem pe_xinit {pl : Sem Bool} (hg : Gl X x) (hm : X.mg x = some (.ref B)) (b : BaseI X.K B) (ha : PA X (e :: es) t) (hdb : (x == ("__debug__" : Str)) = false := by decide)
    (hst : starEach (e :: es) X.env = (false, eval e X.env) :: starEach es X.env := by rfl) (hpl : (backTo pos (starEach es X.env)).any (·.1) = false := by rfl)
    (ht : eval (.Call (.Attribute (.Name x p) "__init__" apos) (e :: es) [] pos) X.env = (do
      let ov ← eval (.Name x p) X.env
      standAt apos.atName
      let (f, first) ← holding [ov] (getMethod ov "__init__" pl)
      callWith pos f first (backTo pos (starEach (e :: es) X.env)) (backToKw pos (keywordEach [] X.env))) := by rfl) :
    PE X (.Call (.Attribute (.Name x p) "__init__" apos) (e :: es) [] pos) (tXInit X.K t) := by
  intro pins s σ H Q I h
  refine methodCall_KW (pl := pl) (ld_glob I hg hm ?_ hdb) ht
  refine method_cls I.kIn b.ga (cls_value I.kIn b.rd b.fc (by rfl) ?_)
  refine callWith_builtin1 (thn (ha pos pins _ σ H _ (I.tok (s.toks + 1)) h) fun us s1 ⟨vs, H1, I2, r, q⟩ => ?_) hst hpl
  obtain ⟨a, C, dx, rest, f, rfl, e1, M, hz, q⟩ := q
  cases r with
  | cons ra rr =>
    rename_i u us _
    obtain rfl : u = Value.ref a := ra
    obtain ⟨tl, N, nm, qn, bs, sn, sub, ab, col, dd, k0, k1, k2, k3, k5, mN, hC, hN, hni, T⟩ := init_obj I2.kIn M.ini
    obtain ⟨ob, ws, v0, g1, g2, g3, g4, g5, g6⟩ := XN.get I2.hok e1
    obtain ⟨hh, g, d, tk, os⟩ := s1
    have h0 := (Array.getElem?_eq_some_iff.mp g5).1
    refine base_init PySem.F.excBase_ValueError T hC g1 g2 g4 g5 (fun h' T' kk e' => ?_) (by rw [← rr.length]; exact hz)
    have I3 := I2.write (h' := h') (t' := tk) (x := a) (e := a) (o := XN a C dx) (by rw [e1]; exact True.intro) (.inl rfl) kk ⟨_, e'⟩
      (XN.ok ⟨_, ws.setIfInBounds 0 T', T', e', g2, g3, rfl, by simp [h0], by rw [Array.getElem?_setIfInBounds_ne (by decide)]; exact g6⟩)
    rw [upd_id e1] at I3
    exact ⟨.non, H1, I3, rfl, q⟩
theorem ps_xfld (ha : PE X o ta) (hv : PE X value tv) (hs : swapsWith value (some (.Attribute o f pos')) pos.line X.env = pure false) : PS X (.Assign [.Attribute o f pos'] value pos) (sXFld X.K ta tv f) := by
  intro pins s σ H D I h
  refine plainObj_wpAny_Assign_Attribute (thn (hv pins s σ H _ I h) fun u s1 hz => ?_) hs
  obtain ⟨y, H1, I1, ry, q⟩ := hz
  refine thn (ha pins s1 σ H1 _ I1 q) fun ov s2 hz => ?_
  obtain ⟨x, H2, I2, rx, a, C, fI, dx, ex, ea, M, n, q2⟩ := hz
  subst ex
  obtain rfl : ov = Value.ref a := rx
  obtain ⟨ob, ws, v0, g1, g2, g3, g4, g5, g6⟩ := XN.get I2.hok ea
  rcases q2 with ⟨rfl, q2⟩ | ⟨d, fs, rfl, ed, hl, q2⟩
  · refine set_err0 I2.kIn g1 g2 g3 g4 M.ei M.sa n fun h' tk k1 k2 k3 => ?_
    have hne : s2.heap.objs.size ≠ a := Ne.symm (Nat.ne_of_lt (Heap.lt_size g1))
    have hn := I2.hok.fresh (Nat.le_refl s2.heap.objs.size)
    refine ⟨σ, _, ?_, q2 s2.heap.objs.size hn⟩
    have na : ∀ b u, H2 b = some u → (∀ ψ, u ≠ .ext ψ) → b ≠ a := fun b u q nx z => by rw [z, ea] at q; exact nx _ (Option.some.inj q).symm
    have nd : ∀ b u, H2 b = some u → b ≠ s2.heap.objs.size := fun b u q => ne_of_none q hn
    have n0 : ∀ b, H2 b = none → b ≠ a := fun b q z => by rw [z, ea] at q; cases q
    have up : ∀ b, b ≠ a → b ≠ s2.heap.objs.size → upd (upd H2 s2.heap.objs.size (XD s2.heap.objs.size [(f, y)])) a (XN a C (some s2.heap.objs.size)) b = H2 b := fun b z1 z2 => by rw [upd_ne z1, upd_ne z2]
    refine I2.un (h' := h') (t' := tk) ⟨fun b o q m _ _ => k3 b o (n0 b m) q, fun b o q m _ _ => ⟨o.slots, k3 b o (n0 b m) q⟩, fun b o q m _ => ?_, fun b o q _ => ?_, fun b xs q => ?_, fun b o u q => ?_, fun b ps q => ⟨#[], ?_⟩⟩ fun b u q => ?_
    · rw [up b (n0 b m) (Nat.ne_of_lt (Heap.lt_size q))]; exact m
    · by_cases hb : b = a
      · rw [hb]; exact ⟨_, k1⟩
      · exact ⟨o, k3 b o hb q⟩
    · rw [up b (na b _ q (by intro ψ z; cases z)) (nd b _ q)]; exact q
    · rw [up b (na b _ q (by intro ψ z; cases z)) (nd b _ q)]; exact q
    · rw [up b (na b _ q (by intro ψ z; cases z)) (nd b _ q), q]; simp
    · by_cases hb : b = a
      · subst hb
        rw [upd_same] at q; cases q
        exact XN.ok ⟨_, ws, v0, k1, g2, rfl, g4, g5, g6⟩
      · by_cases hd : b = s2.heap.objs.size
        · subst hd
          rw [upd_ne hb, upd_same] at q; cases q
          refine XD.ok ⟨_, k2, fun g => ?_, fun g hg => ?_⟩
          · by_cases z : g = f
            · rw [if_pos z, z]; simp [List.lookup]; exact ry
            · have zb : (g == f) = false := beq_eq_false_iff_ne.mpr z
              rw [if_neg z]; simp only [List.lookup, zb]; trivial
          · by_cases z : g = f
            · rw [z]; simp
            · exact absurd (if_neg z) hg
        · rw [up b hb hd] at q
          refine (I2.hok b u q).stay (fun c v hc z => k3 c v ?_ z) (fun c z => by rw [up c (na c _ z (by intro ψ z; cases z)) (nd c _ z)]; exact z) fun c xs z => by rw [up c (na c _ z (by intro ψ z; cases z)) (nd c _ z)]; exact z
          rcases hc with z | z
          · rw [z]; exact hb
          · exact na c _ z (by intro ψ z; cases z)
  · obtain ⟨mA, n1, r, wi⟩ := XD.get I2.hok ed
    have hz : (fs.map (·.1)).length ≤ sizeLine := by rw [List.length_map, sizeLine_eq]; omega
    refine set_err1 I2.kIn g1 g2 g3 g4 n1 M.ei M.sa n wi hz fun h' tk k1 sb => ?_
    refine ⟨σ, _, ?_, q2⟩
    obtain ⟨od, _, _, hod, _⟩ := id k1
    refine I2.write (x := d) (e := d) (by rw [ed]; exact True.intro) (.inl rfl) (fun b q hb z => (sb.2 b hb).trans z) ⟨od, hod⟩ (XD.ok ⟨_, k1, fun g => ?_, fun g hg => ?_⟩)
    · show RelO ((putF f y fs).lookup g) (if g = f then some u else mA g)
      rw [lookup_putF]
      by_cases q : g = f
      · rw [if_pos q, if_pos q]; exact ry
      · rw [if_neg q, if_neg q]; exact r g
    · by_cases q : g = f
      · rw [q]; exact (keys_putF f y fs).1
      · refine (keys_putF f y fs).2 g (wi g fun z => hg ?_)
        show (if g = f then some u else mA g) = none
        rw [if_neg q]; exact z
theorem pe_xfld (he : PE X o ta) (hb : attributeBase o f X.env (eval o X.env) = eval o X.env) : PE X (.Attribute o f pos) (tXFld X.K ta f) := by
  intro pins s σ H Q I h
  refine attr_of hb (thn (he pins s σ H _ I h) fun u s1 hz => ?_)
  obtain ⟨x, H1, I1, rx, a, C, d, fs, v, ex, ea, ed, c, hd, n, l, q⟩ := hz
  subst ex
  obtain rfl : u = Value.ref a := rx
  obtain ⟨⟨ob, ws, g1, g2, g3, g4⟩, _⟩ := (I1.hok a _ ea)
  obtain ⟨mA, n1, r⟩ := (show ∃ mA, s1.heap.Ns1 d mA ∧ ∀ f, RelO (fs.lookup f) (mA f) from I1.hok d _ ed)
  obtain ⟨od, ho, hl⟩ := lookIn_ns n1
  obtain ⟨u, hu, ru⟩ := RelO.some_of (v := v) (o := mA f) (by rw [← l]; exact r f)
  have J : InstAt s1.heap a ob C (some od) := ⟨g1, g2, by unfold notCls; rw [g4], by rw [g3]; exact ho⟩
  exact x_attr I1.kIn c J (findObj_own hd n rfl (by rw [hl, hu])) (handed_of ru) ⟨v, H1, I1.tok _, ru, q⟩
end
end L2

namespace L2
open PySem PySem.Spec PyProof.Rows
section
variable {X : Cx}
theorem pss_weak {b : List Stmt} {t u : TS} (h : PSs X b t) (w : ∀ D σ H, u D σ H → t D σ H) : PSs X b u := fun pins s σ H D I q => h pins s σ H D I (w D σ H q)
theorem ps_weak {b : Stmt} {t u : TS} (h : PS X b t) (w : ∀ D σ H, u D σ H → t D σ H) : PS X b u := fun pins s σ H D I q => h pins s σ H D I (w D σ H q)
end
end L2

/-! x = [.. for ..]: the store is done while the comprehension's frame stands yet -/
namespace L2
open PySem PySem.Spec PyProof.Rows
section
variable {X : Cx}
end
end L2

/-! dict(d), d == e, xs.count(x) -/
namespace L2
open PySem PySem.Spec PyProof.Rows
section
variable {prog : Program} {w : World} {K : Type} [DecidableEq K] {knd : KeyKind prog w K} {A : Around} {E : Value → Shared → Prop} {s : Shared}
end
section
variable {X : Cx}
noncomputable def rEqDict (K : PySem.W.Frag) : R2 := fun x y H Q => ∃ p q kvs, x = .ref p ∧ y = .ref q ∧ H p = some (.dK kvs) ∧ H q = some (.dK kvs) ∧ (∀ kv ∈ kvs, ∃ d, Rep K H d kv.2 ∧ dep d ≤ 20) ∧ Q (.bl true) H
noncomputable def rDictOf : List V → Hp → VK → Prop := fun xs H Q => ∃ p kvs, xs = [.ref p] ∧ H p = some (.dK kvs) ∧ ∀ q, H q = none → Q (.ref q) (upd H q (.dK kvs))
theorem call_dictOf : CallR X (.type "dict") rDictOf := by
  intro pins s σ H xs us Q I r h
  obtain ⟨p, kvs, rfl, e, k⟩ := h
  obtain ⟨u, rfl, rx⟩ := vals1 r
  cases rx
  obtain ⟨z, hS, vs, rel, dd⟩ := dk_of I.hok e
  refine kt_call_dict hS dd (by rw [← Paired.length rel]; exact z) fun h' hd sb => ?_
  have kp : ∀ b o, s.heap.get? b = some o → h'.get? b = some o := fun b o q => (sb.2 b (Nat.ne_of_lt (Heap.lt_size q))).trans (Heap.get?_push_of_some _ q)
  exact ⟨.ref s.heap.objs.size, _, I.laid (a := s.heap.objs.size) (o := .dK kvs) (t' := s.toks) kp (Nat.le_refl _) (dk_new z (beq_eq_false_iff_ne.mpr (Ne.symm (Nat.ne_of_lt I.big))) rel hd), rfl, k _ (I.hok.fresh (Nat.le_refl _))⟩
noncomputable def cntV (x : V) (xs : List V) : Nat := xs.countP fun y => eqV y x
noncomputable def rCount (K : PySem.W.Frag) : V → List V → Hp → VK → Prop := fun x vs H Q => ∃ p xs y, x = .ref p ∧ vs = [y] ∧ SqL K H p xs ∧ flatV y = true ∧ xs.all flatV = true ∧ Q (.int (cntV y xs : Nat)) H
end
end L2

/-! a comprehension whose element may raise -/
namespace L2
open PySem PySem.Spec PyProof.Rows
section
variable {M : Model} {A : Around} {E : Value → Shared → Prop} {s : Shared}
end
section
variable {prog : Program} {w : World} {A : Around} {R : Result → Shared → Prop} {s : Shared}
end
section
variable {X : Cx}
noncomputable def tCompX (E : XK) (k : Nat) (fm : List Nat) (wi : TI) (g : TG) (tt : TT) (te : TEX) : TE := fun σ H Q => wi σ H fun J H1 => ∀ D, H1 D = none → ∃ W : Nat → Nat → List V → Hp → Prop,
  (∃ m, W 0 m [] (upd H1 D (.lst []))) ∧ ∀ i m ys H2, W i m ys H2 → H2 D = some (.lst ys) ∧ ys.length < sizeLine ∧ ((J.stop i H2 ∧ Q (.ref D) H2) ∨ (J.go i H2 ∧ ∃ N : List V → Hp → Prop, (∀ ys' H', N ys' H' → ∃ m', m' < m ∧ W (i + 1) m' ys' H') ∧ ∀ x H3, J.yld i H2 x H3 →
    g x (blkSt k fm σ) H3 fun σ3 H4 => Ext (blkSt k fm σ) σ3 ∧ tt σ3 H4 fun b H5 => if b = true then te σ3 H5 (fun y H6 => H6 D = some (.lst ys) ∧ N (ys ++ [y]) (upd H6 D (.lst (ys ++ [y])))) E else N ys H5))
end
/-! ### the readings -/
noncomputable def CompWX (E : XK) (g : TG) (tt : TT) (te : TEX) (σ0 : St) (Q : VK) (J : It) (H1 : Hp) : Prop := ∀ DD, H1 DD = none → ∃ W : Nat → Nat → List V → Hp → Prop,
  (∃ m, W 0 m [] (upd H1 DD (.lst []))) ∧ ∀ i m ys H2, W i m ys H2 → H2 DD = some (.lst ys) ∧ ys.length < sizeLine ∧ ((J.stop i H2 ∧ Q (.ref DD) H2) ∨ (J.go i H2 ∧ ∃ N : List V → Hp → Prop, (∀ ys' H', N ys' H' → ∃ m', m' < m ∧ W (i + 1) m' ys' H') ∧ ∀ x H3, J.yld i H2 x H3 →
    g x σ0 H3 fun σ3 H4 => Ext σ0 σ3 ∧ tt σ3 H4 fun b H5 => if b = true then te σ3 H5 (fun y H6 => H6 DD = some (.lst ys) ∧ N (ys ++ [y]) (upd H6 DD (.lst (ys ++ [y])))) E else N ys H5))
noncomputable def CompLX (K : PySem.W.Frag) (E : XK) (g : TG) (tt : TT) (te : TEX) (σ0 : St) (Q : VK) : VK := fun x H1 => ∃ a, x = .ref a ∧ (∃ xs, SqL K H1 a xs) ∧ CompWX E g tt te σ0 Q (Itl K a) H1
section
variable {K : PySem.W.Frag} {k : Nat} {fm : List Nat} {tl : TE} {te : TEX} {g : TG} {tt : TT} {σ σ0 : St} {H H1 : Hp} {Q : VK} {E : XK}
theorem tCompX_list : tCompX E k fm (iList K tl) g tt te σ H Q = tl σ H (CompLX K E g tt te (blkSt k fm σ) Q) := rfl
end
section
variable {M : Model} {A : Around} {E : Value → Shared → Prop} {s : Shared}
end
end L2

set_option maxHeartbeats 0
set_option pp.deepTerms true
set_option pp.maxSteps 100000
namespace My
open PySem PySem.Spec PyProof.Rows L2
noncomputable def top (i : Nat) : Stmt := PySem.Challenge.pw_joinload_k54_whole_runs_by_a_plain_model.main.body.getD i (.Pass ⟨0, 0, 0, 0⟩)
noncomputable abbrev s_wrapped : Stmt := top 3
noncomputable abbrev s_field : Stmt := top 4
noncomputable abbrev s_signed : Stmt := top 5
noncomputable abbrev s_turned : Stmt := top 6
noncomputable abbrev s_ones : Stmt := top 7
noncomputable abbrev s_moved : Stmt := top 8
noncomputable abbrev s_deed_of : Stmt := top 11
noncomputable abbrev s_op_of : Stmt := top 12
noncomputable abbrev s_a_of : Stmt := top 13
noncomputable abbrev s_b_of : Stmt := top 14
noncomputable abbrev s_c_of : Stmt := top 15
noncomputable abbrev s_n_of : Stmt := top 16
noncomputable abbrev s_s_of : Stmt := top 17
noncomputable abbrev s_near_of : Stmt := top 18
noncomputable abbrev s_split_of : Stmt := top 19
noncomputable abbrev s_of_two_words : Stmt := top 20
noncomputable abbrev s_Lost___init__ : Stmt := inClass (top 23) 0
noncomputable abbrev s_Machine___init__ : Stmt := inClass (top 25) 0
noncomputable abbrev s_Machine_go_on : Stmt := inClass (top 25) 1
noncomputable abbrev s_Machine_state : Stmt := inClass (top 25) 2
noncomputable abbrev s_Machine_word_at : Stmt := inClass (top 25) 3
noncomputable abbrev s_Machine_found : Stmt := inClass (top 25) 4
noncomputable abbrev s_Machine_do : Stmt := inClass (top 25) 5
noncomputable abbrev s_Machine_sought : Stmt := inClass (top 25) 6
noncomputable abbrev s_Machine_store : Stmt := inClass (top 25) 7
noncomputable abbrev s_Machine_goes : Stmt := inClass (top 25) 8
noncomputable abbrev s_Machine_result : Stmt := inClass (top 25) 9
noncomputable abbrev s__law_whole : Stmt := top 27
noncomputable abbrev s__law_cell_at : Stmt := top 28
noncomputable abbrev s__law_word_by : Stmt := top 29
noncomputable abbrev s__law_split : Stmt := top 30
noncomputable abbrev s__law_near : Stmt := top 31
noncomputable abbrev s__law_small : Stmt := top 32
noncomputable abbrev s__law_lacks : Stmt := top 33
noncomputable abbrev s__law_made : Stmt := top 34
noncomputable abbrev s__law_onward : Stmt := top 35
noncomputable abbrev s__law_done : Stmt := top 36
noncomputable abbrev s__law_state : Stmt := top 37
noncomputable abbrev s__law_lost_at : Stmt := top 38
noncomputable abbrev s__law_stays : Stmt := top 39
noncomputable abbrev s__law_runs : Stmt := top 40
noncomputable abbrev s__law_held : Stmt := top 41
noncomputable abbrev s_law : Stmt := top 42
theorem bt_bool : bootBuiltins "bool" = some (.type "bool") := by decide +kernel
theorem bt_dict : bootBuiltins "dict" = some (.type "dict") := by decide +kernel
theorem bt_int : bootBuiltins "int" = some (.type "int") := by decide +kernel
theorem bt_isinstance : bootBuiltins "isinstance" = some (.builtin "isinstance") := by decide +kernel
theorem bt_len : bootBuiltins "len" = some (.builtin "len") := by decide +kernel
theorem bt_list : bootBuiltins "list" = some (.type "list") := by decide +kernel
theorem bt_max : bootBuiltins "max" = some (.builtin "max") := by decide +kernel
theorem bt_tuple : bootBuiltins "tuple" = some (.type "tuple") := by decide +kernel
theorem relI {i : Int} {t : Tok} : RelV (.int i) (.int i t) := ⟨t, rfl⟩
theorem relT {n : String} : RelV (.ty n) (.type n) := rfl
theorem relS {x : Str} {t : Tok} : RelV (.str x) (.str x t) := ⟨t, rfl⟩
set_option genInjectivity false in
structure Ad where
  wrapped : Addr
  fd_wrapped : FuncData
  field : Addr
  fd_field : FuncData
  signed : Addr
  fd_signed : FuncData
  turned : Addr
  fd_turned : FuncData
  ones : Addr
  fd_ones : FuncData
  moved : Addr
  fd_moved : FuncData
  deed_of : Addr
  fd_deed_of : FuncData
  op_of : Addr
  fd_op_of : FuncData
  a_of : Addr
  fd_a_of : FuncData
  b_of : Addr
  fd_b_of : FuncData
  c_of : Addr
  fd_c_of : FuncData
  n_of : Addr
  fd_n_of : FuncData
  s_of : Addr
  fd_s_of : FuncData
  near_of : Addr
  fd_near_of : FuncData
  split_of : Addr
  fd_split_of : FuncData
  of_two_words : Addr
  fd_of_two_words : FuncData
  Lost___init__ : Addr
  fd_Lost___init__ : FuncData
  Machine___init__ : Addr
  fd_Machine___init__ : FuncData
  Machine_go_on : Addr
  fd_Machine_go_on : FuncData
  Machine_state : Addr
  fd_Machine_state : FuncData
  Machine_word_at : Addr
  fd_Machine_word_at : FuncData
  Machine_found : Addr
  fd_Machine_found : FuncData
  Machine_do : Addr
  fd_Machine_do : FuncData
  Machine_sought : Addr
  fd_Machine_sought : FuncData
  Machine_store : Addr
  fd_Machine_store : FuncData
  Machine_goes : Addr
  fd_Machine_goes : FuncData
  Machine_result : Addr
  fd_Machine_result : FuncData
  _law_whole : Addr
  fd__law_whole : FuncData
  _law_cell_at : Addr
  fd__law_cell_at : FuncData
  _law_word_by : Addr
  fd__law_word_by : FuncData
  _law_split : Addr
  fd__law_split : FuncData
  _law_near : Addr
  fd__law_near : FuncData
  _law_small : Addr
  fd__law_small : FuncData
  _law_lacks : Addr
  fd__law_lacks : FuncData
  _law_made : Addr
  fd__law_made : FuncData
  _law_onward : Addr
  fd__law_onward : FuncData
  _law_done : Addr
  fd__law_done : FuncData
  _law_state : Addr
  fd__law_state : FuncData
  _law_lost_at : Addr
  fd__law_lost_at : FuncData
  _law_stays : Addr
  fd__law_stays : FuncData
  _law_runs : Addr
  fd__law_runs : FuncData
  _law_held : Addr
  fd__law_held : FuncData
  law : Addr
  fd_law : FuncData
  o_DEEDS : Addr
  t_WORD_BITS : Tok
  t_WORD_COUNT : Tok
  c_JoinError : Addr
  c_Lost : Addr
  c_Machine : Addr
set_option genInjectivity false in
structure Txt (K : PySem.W.Frag) (mg : Str → Option Value) (A : Ad) : Prop where
  m_wrapped : mg "wrapped" = some (.ref A.wrapped)
  k_wrapped : PySem.W.keepIn K (.ref A.wrapped) = true
  b_wrapped : Binds K A.fd_wrapped ["number"] []
  F_wrapped : Fun K "wrapped" "wrapped" s_wrapped A.wrapped A.fd_wrapped
  m_field : mg "field" = some (.ref A.field)
  k_field : PySem.W.keepIn K (.ref A.field) = true
  b_field : Binds K A.fd_field ["word", "low", "many"] []
  F_field : Fun K "field" "field" s_field A.field A.fd_field
  m_signed : mg "signed" = some (.ref A.signed)
  k_signed : PySem.W.keepIn K (.ref A.signed) = true
  b_signed : Binds K A.fd_signed ["number", "many"] []
  F_signed : Fun K "signed" "signed" s_signed A.signed A.fd_signed
  m_turned : mg "turned" = some (.ref A.turned)
  k_turned : PySem.W.keepIn K (.ref A.turned) = true
  b_turned : Binds K A.fd_turned ["word", "by"] []
  F_turned : Fun K "turned" "turned" s_turned A.turned A.fd_turned
  m_ones : mg "ones" = some (.ref A.ones)
  k_ones : PySem.W.keepIn K (.ref A.ones) = true
  b_ones : Binds K A.fd_ones ["many"] []
  F_ones : Fun K "ones" "ones" s_ones A.ones A.fd_ones
  m_moved : mg "moved" = some (.ref A.moved)
  k_moved : PySem.W.keepIn K (.ref A.moved) = true
  b_moved : Binds K A.fd_moved ["number", "up"] []
  F_moved : Fun K "moved" "moved" s_moved A.moved A.fd_moved
  m_deed_of : mg "deed_of" = some (.ref A.deed_of)
  k_deed_of : PySem.W.keepIn K (.ref A.deed_of) = true
  b_deed_of : Binds K A.fd_deed_of ["word"] []
  F_deed_of : Fun K "deed_of" "deed_of" s_deed_of A.deed_of A.fd_deed_of
  m_op_of : mg "op_of" = some (.ref A.op_of)
  k_op_of : PySem.W.keepIn K (.ref A.op_of) = true
  b_op_of : Binds K A.fd_op_of ["word"] []
  F_op_of : Fun K "op_of" "op_of" s_op_of A.op_of A.fd_op_of
  m_a_of : mg "a_of" = some (.ref A.a_of)
  k_a_of : PySem.W.keepIn K (.ref A.a_of) = true
  b_a_of : Binds K A.fd_a_of ["word"] []
  F_a_of : Fun K "a_of" "a_of" s_a_of A.a_of A.fd_a_of
  m_b_of : mg "b_of" = some (.ref A.b_of)
  k_b_of : PySem.W.keepIn K (.ref A.b_of) = true
  b_b_of : Binds K A.fd_b_of ["word"] []
  F_b_of : Fun K "b_of" "b_of" s_b_of A.b_of A.fd_b_of
  m_c_of : mg "c_of" = some (.ref A.c_of)
  k_c_of : PySem.W.keepIn K (.ref A.c_of) = true
  b_c_of : Binds K A.fd_c_of ["word"] []
  F_c_of : Fun K "c_of" "c_of" s_c_of A.c_of A.fd_c_of
  m_n_of : mg "n_of" = some (.ref A.n_of)
  k_n_of : PySem.W.keepIn K (.ref A.n_of) = true
  b_n_of : Binds K A.fd_n_of ["word"] []
  F_n_of : Fun K "n_of" "n_of" s_n_of A.n_of A.fd_n_of
  m_s_of : mg "s_of" = some (.ref A.s_of)
  k_s_of : PySem.W.keepIn K (.ref A.s_of) = true
  b_s_of : Binds K A.fd_s_of ["word"] []
  F_s_of : Fun K "s_of" "s_of" s_s_of A.s_of A.fd_s_of
  m_near_of : mg "near_of" = some (.ref A.near_of)
  k_near_of : PySem.W.keepIn K (.ref A.near_of) = true
  b_near_of : Binds K A.fd_near_of ["word"] []
  F_near_of : Fun K "near_of" "near_of" s_near_of A.near_of A.fd_near_of
  m_split_of : mg "split_of" = some (.ref A.split_of)
  k_split_of : PySem.W.keepIn K (.ref A.split_of) = true
  b_split_of : Binds K A.fd_split_of ["word"] []
  F_split_of : Fun K "split_of" "split_of" s_split_of A.split_of A.fd_split_of
  m_of_two_words : mg "of_two_words" = some (.ref A.of_two_words)
  k_of_two_words : PySem.W.keepIn K (.ref A.of_two_words) = true
  b_of_two_words : Binds K A.fd_of_two_words ["deed", "first", "second"] []
  F_of_two_words : Fun K "of_two_words" "of_two_words" s_of_two_words A.of_two_words A.fd_of_two_words
  k_Lost___init__ : PySem.W.keepIn K (.ref A.Lost___init__) = true
  b_Lost___init__ : Binds K A.fd_Lost___init__ ["self", "place"] []
  F_Lost___init__ : Fun K "__init__" "Lost.__init__" s_Lost___init__ A.Lost___init__ A.fd_Lost___init__
  k_Machine___init__ : PySem.W.keepIn K (.ref A.Machine___init__) = true
  b_Machine___init__ : Binds K A.fd_Machine___init__ ["self", "memory", "start", "registers"] []
  F_Machine___init__ : Fun K "__init__" "Machine.__init__" s_Machine___init__ A.Machine___init__ A.fd_Machine___init__
  k_Machine_go_on : PySem.W.keepIn K (.ref A.Machine_go_on) = true
  b_Machine_go_on : Binds K A.fd_Machine_go_on ["self"] []
  F_Machine_go_on : Fun K "go_on" "Machine.go_on" s_Machine_go_on A.Machine_go_on A.fd_Machine_go_on
  k_Machine_state : PySem.W.keepIn K (.ref A.Machine_state) = true
  b_Machine_state : Binds K A.fd_Machine_state ["self"] []
  F_Machine_state : Fun K "state" "Machine.state" s_Machine_state A.Machine_state A.fd_Machine_state
  k_Machine_word_at : PySem.W.keepIn K (.ref A.Machine_word_at) = true
  b_Machine_word_at : Binds K A.fd_Machine_word_at ["self", "place"] []
  F_Machine_word_at : Fun K "word_at" "Machine.word_at" s_Machine_word_at A.Machine_word_at A.fd_Machine_word_at
  k_Machine_found : PySem.W.keepIn K (.ref A.Machine_found) = true
  b_Machine_found : Binds K A.fd_Machine_found ["self", "place"] []
  F_Machine_found : Fun K "found" "Machine.found" s_Machine_found A.Machine_found A.fd_Machine_found
  k_Machine_do : PySem.W.keepIn K (.ref A.Machine_do) = true
  b_Machine_do : Binds K A.fd_Machine_do ["self", "word"] []
  F_Machine_do : Fun K "do" "Machine.do" s_Machine_do A.Machine_do A.fd_Machine_do
  k_Machine_sought : PySem.W.keepIn K (.ref A.Machine_sought) = true
  b_Machine_sought : Binds K A.fd_Machine_sought ["self", "word"] []
  F_Machine_sought : Fun K "sought" "Machine.sought" s_Machine_sought A.Machine_sought A.fd_Machine_sought
  k_Machine_store : PySem.W.keepIn K (.ref A.Machine_store) = true
  b_Machine_store : Binds K A.fd_Machine_store ["self", "place", "word"] []
  F_Machine_store : Fun K "store" "Machine.store" s_Machine_store A.Machine_store A.fd_Machine_store
  k_Machine_goes : PySem.W.keepIn K (.ref A.Machine_goes) = true
  b_Machine_goes : Binds K A.fd_Machine_goes ["self", "deed", "word"] []
  F_Machine_goes : Fun K "goes" "Machine.goes" s_Machine_goes A.Machine_goes A.fd_Machine_goes
  k_Machine_result : PySem.W.keepIn K (.ref A.Machine_result) = true
  b_Machine_result : Binds K A.fd_Machine_result ["self", "deed", "word"] []
  F_Machine_result : Fun K "result" "Machine.result" s_Machine_result A.Machine_result A.fd_Machine_result
  m__law_whole : mg "_law_whole" = some (.ref A._law_whole)
  k__law_whole : PySem.W.keepIn K (.ref A._law_whole) = true
  b__law_whole : Binds K A.fd__law_whole ["_law_found"] []
  F__law_whole : Fun K "_law_whole" "_law_whole" s__law_whole A._law_whole A.fd__law_whole
  m__law_cell_at : mg "_law_cell_at" = some (.ref A._law_cell_at)
  k__law_cell_at : PySem.W.keepIn K (.ref A._law_cell_at) = true
  b__law_cell_at : Binds K A.fd__law_cell_at ["_law_script", "_law_k"] []
  F__law_cell_at : Fun K "_law_cell_at" "_law_cell_at" s__law_cell_at A._law_cell_at A.fd__law_cell_at
  m__law_word_by : mg "_law_word_by" = some (.ref A._law_word_by)
  k__law_word_by : PySem.W.keepIn K (.ref A._law_word_by) = true
  b__law_word_by : Binds K A.fd__law_word_by ["_law_cell"] []
  F__law_word_by : Fun K "_law_word_by" "_law_word_by" s__law_word_by A._law_word_by A.fd__law_word_by
  m__law_split : mg "_law_split" = some (.ref A._law_split)
  k__law_split : PySem.W.keepIn K (.ref A._law_split) = true
  b__law_split : Binds K A.fd__law_split ["_law_word"] []
  F__law_split : Fun K "_law_split" "_law_split" s__law_split A._law_split A.fd__law_split
  m__law_near : mg "_law_near" = some (.ref A._law_near)
  k__law_near : PySem.W.keepIn K (.ref A._law_near) = true
  b__law_near : Binds K A.fd__law_near ["_law_word"] []
  F__law_near : Fun K "_law_near" "_law_near" s__law_near A._law_near A.fd__law_near
  m__law_small : mg "_law_small" = some (.ref A._law_small)
  k__law_small : PySem.W.keepIn K (.ref A._law_small) = true
  b__law_small : Binds K A.fd__law_small ["_law_word"] []
  F__law_small : Fun K "_law_small" "_law_small" s__law_small A._law_small A.fd__law_small
  m__law_lacks : mg "_law_lacks" = some (.ref A._law_lacks)
  k__law_lacks : PySem.W.keepIn K (.ref A._law_lacks) = true
  b__law_lacks : Binds K A.fd__law_lacks ["_law_memory", "_law_row", "_law_here"] []
  F__law_lacks : Fun K "_law_lacks" "_law_lacks" s__law_lacks A._law_lacks A.fd__law_lacks
  m__law_made : mg "_law_made" = some (.ref A._law_made)
  k__law_made : PySem.W.keepIn K (.ref A._law_made) = true
  b__law_made : Binds K A.fd__law_made ["_law_memory", "_law_op", "_law_word", "_law_one", "_law_other"] []
  F__law_made : Fun K "_law_made" "_law_made" s__law_made A._law_made A.fd__law_made
  m__law_onward : mg "_law_onward" = some (.ref A._law_onward)
  k__law_onward : PySem.W.keepIn K (.ref A._law_onward) = true
  b__law_onward : Binds K A.fd__law_onward ["_law_op", "_law_word", "_law_here", "_law_one", "_law_other"] []
  F__law_onward : Fun K "_law_onward" "_law_onward" s__law_onward A._law_onward A.fd__law_onward
  m__law_done : mg "_law_done" = some (.ref A._law_done)
  k__law_done : PySem.W.keepIn K (.ref A._law_done) = true
  b__law_done : Binds K A.fd__law_done ["_law_memory", "_law_row", "_law_told", "_law_here"] []
  F__law_done : Fun K "_law_done" "_law_done" s__law_done A._law_done A.fd__law_done
  m__law_state : mg "_law_state" = some (.ref A._law_state)
  k__law_state : PySem.W.keepIn K (.ref A._law_state) = true
  b__law_state : Binds K A.fd__law_state ["_law_found", "_law_due"] []
  F__law_state : Fun K "_law_state" "_law_state" s__law_state A._law_state A.fd__law_state
  m__law_lost_at : mg "_law_lost_at" = some (.ref A._law_lost_at)
  k__law_lost_at : PySem.W.keepIn K (.ref A._law_lost_at) = true
  b__law_lost_at : Binds K A.fd__law_lost_at ["_law_machine"] []
  F__law_lost_at : Fun K "_law_lost_at" "_law_lost_at" s__law_lost_at A._law_lost_at A.fd__law_lost_at
  m__law_stays : mg "_law_stays" = some (.ref A._law_stays)
  k__law_stays : PySem.W.keepIn K (.ref A._law_stays) = true
  b__law_stays : Binds K A.fd__law_stays ["_law_machine", "_law_due", "_law_lack"] []
  F__law_stays : Fun K "_law_stays" "_law_stays" s__law_stays A._law_stays A.fd__law_stays
  m__law_runs : mg "_law_runs" = some (.ref A._law_runs)
  k__law_runs : PySem.W.keepIn K (.ref A._law_runs) = true
  b__law_runs : Binds K A.fd__law_runs ["_law_machine", "_law_memory", "_law_row", "_law_here", "_law_most"] []
  F__law_runs : Fun K "_law_runs" "_law_runs" s__law_runs A._law_runs A.fd__law_runs
  m__law_held : mg "_law_held" = some (.ref A._law_held)
  k__law_held : PySem.W.keepIn K (.ref A._law_held) = true
  b__law_held : Binds K A.fd__law_held ["_law_held_here"] []
  F__law_held : Fun K "_law_held" "_law_held" s__law_held A._law_held A.fd__law_held
  m_law : mg "law" = some (.ref A.law)
  k_law : PySem.W.keepIn K (.ref A.law) = true
  b_law : Binds K A.fd_law ["_law_script"] []
  F_law : Fun K "law" "law" s_law A.law A.fd_law
  g_DEEDS : mg "DEEDS" = some (.ref A.o_DEEDS)
  q_DEEDS : ∀ H : Hp, SqT K H A.o_DEEDS [V.str "end", V.str "tell", V.str "put", V.str "high", V.str "add", V.str "load", V.str "store", V.str "sum", V.str "less", V.str "both", V.str "odd", V.str "turn", V.str "same", V.str "under", V.str "call", V.str "go"]
  g_WORD_BITS : mg "WORD_BITS" = some (.int 32 A.t_WORD_BITS)
  g_WORD_COUNT : mg "WORD_COUNT" = some (.int 4294967296 A.t_WORD_COUNT)
  n_bool : mg "bool" = none
  n_dict : mg "dict" = none
  n_int : mg "int" = none
  n_isinstance : mg "isinstance" = none
  n_len : mg "len" = none
  n_list : mg "list" = none
  n_max : mg "max" = none
  n_range : mg "range" = none
  n_tuple : mg "tuple" = none
  mc_JoinError : mg "JoinError" = some (.ref A.c_JoinError)
  mc_Lost : mg "Lost" = some (.ref A.c_Lost)
  mc_Machine : mg "Machine" = some (.ref A.c_Machine)
  cl_Machine : Cls K A.c_Machine
  hd_L : PySem.W.hasDictIn K A.c_Lost = true
  ml : PySem.W.mroIn K A.c_Lost (.ref A.c_Lost) = some true
  xg_Lost : PySem.W.findIn K (.ref A.c_Lost) "__getattribute__" = some (some (.builtin "BaseException.__getattribute__"))
  xn_Lost : PySem.W.findIn K (.ref A.c_Lost) "__getattr__" = some none
  xl_Lost : PySem.W.findIn K (.ref A.c_Lost) "__class__" = some (some (.builtin "object.__class__"))
  xo_Lost : PySem.W.mroIn K A.c_Lost (.type "object") = some true
  xb_Lost : PySem.W.mroIn K A.c_Lost (.type "BaseException") = some true
  sp_cl : PySem.W.specialIn K (.builtin "object.__class__") "__get__" = some (some (.builtin "getset_descriptor.__get__"))
  tk_cl : PySem.W.takesIn K (.builtin "object.__class__") = some true
  ei_Lost : ownInit K A.c_Lost A.Lost___init__ = true
  ee_Lost : errIn K A.c_Lost = true
  es_Lost : PySem.W.findIn K (.ref A.c_Lost) "__setattr__" = some (some (.builtin "object.__setattr__"))
  br_JoinError : PySem.W.readsIn K A.c_JoinError (.type "type") = true
  bf_JoinError : PySem.W.findCls K (.ref A.c_JoinError) (.type "type") "__init__" = some (.val (.builtin "ValueError.__init__"))
  bg_JoinError : PySem.W.specialIn K (.ref A.c_JoinError) "__getattribute__" = some (some (.builtin "type.__getattribute__"))
  ct_Lost : PySem.W.instIn K (.ref A.c_Lost) (.type "tuple") = some false
  cb_Lost : PySem.W.mroIn K A.c_Lost (.type "BaseException") = some true
  er_Lost : ErrC K A.c_Lost A.Lost___init__
  bi_JoinError : BaseI K A.c_JoinError
  mk_Machine : Mk K A.c_Machine A.Machine___init__
  me_Machine_do : Meth K A.c_Machine "do" A.Machine_do
  me_Machine_found : Meth K A.c_Machine "found" A.Machine_found
  me_Machine_go_on : Meth K A.c_Machine "go_on" A.Machine_go_on
  me_Machine_goes : Meth K A.c_Machine "goes" A.Machine_goes
  me_Machine_result : Meth K A.c_Machine "result" A.Machine_result
  me_Machine_sought : Meth K A.c_Machine "sought" A.Machine_sought
  me_Machine_state : Meth K A.c_Machine "state" A.Machine_state
  me_Machine_store : Meth K A.c_Machine "store" A.Machine_store
  me_Machine_word_at : Meth K A.c_Machine "word_at" A.Machine_word_at
  no_Machine_memory : NoAttr K A.c_Machine "memory"
  no_Machine_place : NoAttr K A.c_Machine "place"
  no_Machine_registers : NoAttr K A.c_Machine "registers"
  no_Machine_numbers : NoAttr K A.c_Machine "numbers"
  no_Machine_ended : NoAttr K A.c_Machine "ended"
  no_Lost_place : NoAttr K A.c_Lost "place"
theorem sc_wrapped : FnScope ["number"] ["number"] (defScope s_wrapped) := ⟨rfl, rfl, rfl, by decide +kernel, rfl, by decide +kernel, by decide +kernel⟩
theorem sc_field : FnScope ["word", "low", "many"] ["word", "low", "many"] (defScope s_field) := ⟨rfl, rfl, rfl, by decide +kernel, rfl, by decide +kernel, by decide +kernel⟩
theorem sc_signed : FnScope ["number", "many", "half"] ["number", "many"] (defScope s_signed) := ⟨rfl, rfl, rfl, by decide +kernel, rfl, by decide +kernel, by decide +kernel⟩
theorem sc_turned : FnScope ["word", "by", "right"] ["word", "by"] (defScope s_turned) := ⟨rfl, rfl, rfl, by decide +kernel, rfl, by decide +kernel, by decide +kernel⟩
theorem sc_ones : FnScope ["many"] ["many"] (defScope s_ones) := ⟨rfl, rfl, rfl, by decide +kernel, rfl, by decide +kernel, by decide +kernel⟩
theorem sc_moved : FnScope ["number", "up"] ["number", "up"] (defScope s_moved) := ⟨rfl, rfl, rfl, by decide +kernel, rfl, by decide +kernel, by decide +kernel⟩
theorem sc_deed_of : FnScope ["word"] ["word"] (defScope s_deed_of) := ⟨rfl, rfl, rfl, by decide +kernel, rfl, by decide +kernel, by decide +kernel⟩
theorem sc_op_of : FnScope ["word"] ["word"] (defScope s_op_of) := ⟨rfl, rfl, rfl, by decide +kernel, rfl, by decide +kernel, by decide +kernel⟩
theorem sc_a_of : FnScope ["word"] ["word"] (defScope s_a_of) := ⟨rfl, rfl, rfl, by decide +kernel, rfl, by decide +kernel, by decide +kernel⟩
theorem sc_b_of : FnScope ["word"] ["word"] (defScope s_b_of) := ⟨rfl, rfl, rfl, by decide +kernel, rfl, by decide +kernel, by decide +kernel⟩
theorem sc_c_of : FnScope ["word"] ["word"] (defScope s_c_of) := ⟨rfl, rfl, rfl, by decide +kernel, rfl, by decide +kernel, by decide +kernel⟩
theorem sc_n_of : FnScope ["word"] ["word"] (defScope s_n_of) := ⟨rfl, rfl, rfl, by decide +kernel, rfl, by decide +kernel, by decide +kernel⟩
theorem sc_s_of : FnScope ["word"] ["word"] (defScope s_s_of) := ⟨rfl, rfl, rfl, by decide +kernel, rfl, by decide +kernel, by decide +kernel⟩
theorem sc_near_of : FnScope ["word"] ["word"] (defScope s_near_of) := ⟨rfl, rfl, rfl, by decide +kernel, rfl, by decide +kernel, by decide +kernel⟩
theorem sc_split_of : FnScope ["word"] ["word"] (defScope s_split_of) := ⟨rfl, rfl, rfl, by decide +kernel, rfl, by decide +kernel, by decide +kernel⟩
theorem sc_of_two_words : FnScope ["deed", "first", "second"] ["deed", "first", "second"] (defScope s_of_two_words) := ⟨rfl, rfl, rfl, by decide +kernel, rfl, by decide +kernel, by decide +kernel⟩
theorem sc_Lost___init__ : FnScope ["self", "place"] ["self", "place"] (defScope s_Lost___init__) := ⟨rfl, rfl, rfl, by decide +kernel, rfl, by decide +kernel, by decide +kernel⟩
theorem sc_Machine___init__ : FnScope ["self", "memory", "start", "registers"] ["self", "memory", "start", "registers"] (defScope s_Machine___init__) := ⟨rfl, rfl, rfl, by decide +kernel, rfl, by decide +kernel, by decide +kernel⟩
theorem sc_Machine_go_on : FnScope ["self"] ["self"] (defScope s_Machine_go_on) := ⟨rfl, rfl, rfl, by decide +kernel, rfl, by decide +kernel, by decide +kernel⟩
theorem sc_Machine_state : FnScope ["self"] ["self"] (defScope s_Machine_state) := ⟨rfl, rfl, rfl, by decide +kernel, rfl, by decide +kernel, by decide +kernel⟩
theorem sc_Machine_word_at : FnScope ["self", "place"] ["self", "place"] (defScope s_Machine_word_at) := ⟨rfl, rfl, rfl, by decide +kernel, rfl, by decide +kernel, by decide +kernel⟩
theorem sc_Machine_found : FnScope ["self", "place"] ["self", "place"] (defScope s_Machine_found) := ⟨rfl, rfl, rfl, by decide +kernel, rfl, by decide +kernel, by decide +kernel⟩
theorem sc_Machine_do : FnScope ["self", "word", "deed", "a", "first", "after"] ["self", "word"] (defScope s_Machine_do) := ⟨rfl, rfl, rfl, by decide +kernel, rfl, by decide +kernel, by decide +kernel⟩
theorem sc_Machine_sought : FnScope ["self", "word"] ["self", "word"] (defScope s_Machine_sought) := ⟨rfl, rfl, rfl, by decide +kernel, rfl, by decide +kernel, by decide +kernel⟩
theorem sc_Machine_store : FnScope ["self", "place", "word"] ["self", "place", "word"] (defScope s_Machine_store) := ⟨rfl, rfl, rfl, by decide +kernel, rfl, by decide +kernel, by decide +kernel⟩
theorem sc_Machine_goes : FnScope ["self", "deed", "word", "first", "second"] ["self", "deed", "word"] (defScope s_Machine_goes) := ⟨rfl, rfl, rfl, by decide +kernel, rfl, by decide +kernel, by decide +kernel⟩
theorem sc_Machine_result : FnScope ["self", "deed", "word"] ["self", "deed", "word"] (defScope s_Machine_result) := ⟨rfl, rfl, rfl, by decide +kernel, rfl, by decide +kernel, by decide +kernel⟩
theorem sc__law_whole : FnScope ["_law_found"] ["_law_found"] (defScope s__law_whole) := ⟨rfl, rfl, rfl, by decide +kernel, rfl, by decide +kernel, by decide +kernel⟩
theorem sc__law_cell_at : FnScope ["_law_script", "_law_k"] ["_law_script", "_law_k"] (defScope s__law_cell_at) := ⟨rfl, rfl, rfl, by decide +kernel, rfl, by decide +kernel, by decide +kernel⟩
theorem sc__law_word_by : FnScope ["_law_cell", "_law_number", "_law_op", "_law_rest", "_law_low", "_law_way"] ["_law_cell"] (defScope s__law_word_by) := ⟨rfl, rfl, rfl, by decide +kernel, rfl, by decide +kernel, by decide +kernel⟩
theorem sc__law_split : FnScope ["_law_word", "_law_number"] ["_law_word"] (defScope s__law_split) := ⟨rfl, rfl, rfl, by decide +kernel, rfl, by decide +kernel, by decide +kernel⟩
theorem sc__law_near : FnScope ["_law_word"] ["_law_word"] (defScope s__law_near) := ⟨rfl, rfl, rfl, by decide +kernel, rfl, by decide +kernel, by decide +kernel⟩
theorem sc__law_small : FnScope ["_law_word"] ["_law_word"] (defScope s__law_small) := ⟨rfl, rfl, rfl, by decide +kernel, rfl, by decide +kernel, by decide +kernel⟩
theorem sc__law_lacks : FnScope ["_law_memory", "_law_row", "_law_here", "_law_word", "_law_there"] ["_law_memory", "_law_row", "_law_here"] (defScope s__law_lacks) := ⟨rfl, rfl, rfl, by decide +kernel, rfl, by decide +kernel, by decide +kernel⟩
theorem sc__law_made : FnScope ["_law_memory", "_law_op", "_law_word", "_law_one", "_law_other"] ["_law_memory", "_law_op", "_law_word", "_law_one", "_law_other"] (defScope s__law_made) := ⟨rfl, rfl, rfl, by decide +kernel, rfl, by decide +kernel, by decide +kernel⟩
theorem sc__law_onward : FnScope ["_law_op", "_law_word", "_law_here", "_law_one", "_law_other"] ["_law_op", "_law_word", "_law_here", "_law_one", "_law_other"] (defScope s__law_onward) := ⟨rfl, rfl, rfl, by decide +kernel, rfl, by decide +kernel, by decide +kernel⟩
theorem sc__law_done : FnScope ["_law_memory", "_law_row", "_law_told", "_law_here", "_law_word", "_law_op", "_law_a", "_law_one", "_law_other", "_law_onward_here"] ["_law_memory", "_law_row", "_law_told", "_law_here"] (defScope s__law_done) := ⟨rfl, rfl, rfl, by decide +kernel, rfl, by decide +kernel, by decide +kernel⟩
theorem sc__law_state : FnScope ["_law_found", "_law_due"] ["_law_found", "_law_due"] (defScope s__law_state) := ⟨rfl, rfl, rfl, by decide +kernel, rfl, by decide +kernel, by decide +kernel⟩
theorem sc__law_lost_at : FnScope ["_law_machine", "_law_told", "e"] ["_law_machine"] (defScope s__law_lost_at) := ⟨rfl, rfl, rfl, by decide +kernel, rfl, by decide +kernel, by decide +kernel⟩
theorem sc__law_stays : FnScope ["_law_machine", "_law_due", "_law_lack", "_law_k"] ["_law_machine", "_law_due", "_law_lack"] (defScope s__law_stays) := ⟨rfl, rfl, rfl, by decide +kernel, rfl, by decide +kernel, by decide +kernel⟩
theorem sc__law_runs : FnScope ["_law_machine", "_law_memory", "_law_row", "_law_here", "_law_most", "_law_told", "_law_held_here", "_law_k", "_law_lack", "_law_onward_here", "_law_found"] ["_law_machine", "_law_memory", "_law_row", "_law_here", "_law_most"] (defScope s__law_runs) := ⟨rfl, rfl, rfl, by decide +kernel, rfl, by decide +kernel, by decide +kernel⟩
theorem sc__law_held : FnScope ["_law_held_here", "_law_found", "_law_row", "_law_many"] ["_law_held_here"] (defScope s__law_held) := ⟨rfl, rfl, rfl, by decide +kernel, rfl, by decide +kernel, by decide +kernel⟩
theorem sc_law : FnScope ["_law_script", "_law_cells", "_law_first", "_law_start", "_law_memory", "_law_k", "_law_number", "_law_row", "_law_begin", "_law_machine", "_law_place", "_law_found"] ["_law_script"] (defScope s_law) := ⟨rfl, rfl, rfl, by decide +kernel, rfl, by decide +kernel, by decide +kernel⟩
theorem cK {CX P w K mg base N qual scope f cd Ar outer s H E} : (cxOf CX P w K mg base N qual scope f cd Ar outer s H E).K = K := rfl
theorem bK {X : Cx} {N' : List Str} {scope : Scope} {fp : List Addr} {s : Shared} {H : Hp} : (blk X N' scope fp s H).K = X.K := rfl
theorem slen (a b : Str) : (a ++ b).length = a.length + b.length := Array.size_append
namespace M50
theorem and_step (a b k : Nat) : (a &&& b) % 2 ^ (k + 1) = (a &&& b) % 2 ^ k + (if a / 2 ^ k % 2 + b / 2 ^ k % 2 = 2 then 2 ^ k else 0) := by
  rw [Nat.mod_pow_succ]
  have h : (a &&& b) / 2 ^ k % 2 = if a / 2 ^ k % 2 + b / 2 ^ k % 2 = 2 then 1 else 0 := by
    rw [Nat.and_div_two_pow]
    have e := Nat.and_mod_two_pow (a := a / 2 ^ k) (b := b / 2 ^ k) (n := 1)
    rw [Nat.pow_one] at e
    rw [e]
    rcases Nat.mod_two_eq_zero_or_one (a / 2 ^ k) with h1 | h1 <;> rcases Nat.mod_two_eq_zero_or_one (b / 2 ^ k) with h2 | h2 <;> rw [h1, h2] <;> rfl
  rw [h]
  split <;> simp
theorem xor_step (a b k : Nat) : (a ^^^ b) % 2 ^ (k + 1) = (a ^^^ b) % 2 ^ k + (if a / 2 ^ k % 2 + b / 2 ^ k % 2 = 1 then 2 ^ k else 0) := by
  rw [Nat.mod_pow_succ]
  have h : (a ^^^ b) / 2 ^ k % 2 = if a / 2 ^ k % 2 + b / 2 ^ k % 2 = 1 then 1 else 0 := by
    rw [Nat.xor_div_two_pow]
    have e := Nat.xor_mod_two_pow (a := a / 2 ^ k) (b := b / 2 ^ k) (n := 1)
    rw [Nat.pow_one] at e
    rw [e]
    rcases Nat.mod_two_eq_zero_or_one (a / 2 ^ k) with h1 | h1 <;> rcases Nat.mod_two_eq_zero_or_one (b / 2 ^ k) with h2 | h2 <;> rw [h1, h2] <;> rfl
  rw [h]
  split <;> simp
noncomputable def turnN (w k : Nat) : Nat := w / 2 ^ k + w % 2 ^ k * 2 ^ (32 - k)
theorem turn_or {w k : Nat} (hw : w < 2 ^ 32) (hk : k < 32) : ((w / 2 ^ k) ||| (2 ^ (32 - k) * w)) % 2 ^ 32 = turnN w k := by
  have e : (2 : Nat) ^ 32 = 2 ^ (32 - k) * 2 ^ k := by rw [← Nat.pow_add]; congr 1; omega
  have h1 : w / 2 ^ k < 2 ^ (32 - k) := by rw [Nat.div_lt_iff_lt_mul (Nat.two_pow_pos k), ← e]; exact hw
  have h2 : 2 ^ (32 - k) * w % 2 ^ 32 = 2 ^ (32 - k) * (w % 2 ^ k) := by rw [e, Nat.mul_mod_mul_left]
  have h3 : w / 2 ^ k % 2 ^ 32 = w / 2 ^ k := Nat.mod_eq_of_lt (Nat.lt_of_lt_of_le h1 (Nat.pow_le_pow_right (by decide) (by omega)))
  rw [Nat.or_mod_two_pow, h2, h3, Nat.or_comm, ← Nat.two_pow_add_eq_or_of_lt h1, turnN, Nat.add_comm, Nat.mul_comm]
theorem turn_lt {w k : Nat} (hw : w < 2 ^ 32) (hk : k < 32) : turnN w k < 2 ^ 32 := by
  rw [← turn_or hw hk]; exact Nat.mod_lt _ (by decide)
end M50
namespace K3
open PySem PySem.W PySem.Calls PyProof.Rows
noncomputable def rest (W l m : Nat) : Nat := 2 ^ l * (2 ^ m * (W / 2 ^ l / 2 ^ m)) + W % 2 ^ l
noncomputable def put (W l m y : Nat) : Nat := rest W l m + 2 ^ l * y

-- over Int
noncomputable def pw (m : Int) : Int := 2 ^ m.toNat
theorem pow_pos (k : Nat) : (0 : Int) < 2 ^ k := Int.pow_pos (by decide)
noncomputable def fieldF (w l m : Int) : Int := (w.fdiv (pw l)).fmod (pw m)
noncomputable def putF (w l m n : Int) : Int := (put w.toNat l.toNat m.toNat (n.fmod (pw m)).toNat : Nat)
-- others = w & ~((2^m-1)*2^l), then | (n mod 2^m) * 2^l
-- a bit, as the law reads it

noncomputable def onesF (m : Int) : Int := pw m - 1
noncomputable def movedF (n up : Int) : Int := if up < 0 then n.fdiv (pw (-up)) else n * pw up
theorem moved_down {n up : Int} (h : up < 0) : n.fdiv (2 ^ (-up).toNat) = movedF n up := by
  unfold movedF; rw [if_pos h]; rfl
theorem moved_up {n up : Int} (h : ¬ up < 0) : n * 2 ^ up.toNat = movedF n up := by
  unfold movedF; rw [if_neg h]; rfl
theorem ones_eq {m k : Int} (h : k = m ∨ (m ≤ 0 ∧ k = 0)) : (1 : Int) * 2 ^ k.toNat - 1 = onesF m := by
  have e : k.toNat = m.toNat := by omega
  rw [e, Int.one_mul]; rfl
theorem field_eq {w l m r : Int} (hr : r = Builtin.bitAnd (movedF w (-l)) (onesF m)) (h : 0 ≤ l) : r = fieldF w l m := by
  have e : movedF w (-l) = w.fdiv (pw l) := by
    unfold movedF
    by_cases c : l = 0
    · subst c
      rw [if_neg (by decide)]
      show w * 1 = w.fdiv 1
      rw [Int.fdiv_one, Int.mul_one]
    · rw [if_pos (by omega), Int.neg_neg]
  rw [hr, e]
  show Builtin.bitAnd (w.fdiv (pw l)) (2 ^ m.toNat - 1) = _
  rw [kbt_maskF]
  rfl
noncomputable def sg (n m : Int) : Int := (n + pw (m - 1)).fmod (pw m) - pw (m - 1)
theorem signed_eq {n m : Int} (h : 1 ≤ m) : Builtin.bitAnd (n + movedF 1 (m - 1)) (onesF m) - movedF 1 (m - 1) = sg n m := by
  have e : movedF 1 (m - 1) = pw (m - 1) := by
    unfold movedF; rw [if_neg (by omega), Int.one_mul]
  rw [e]
  show Builtin.bitAnd (n + pw (m - 1)) (2 ^ m.toNat - 1) - pw (m - 1) = _
  rw [kbt_maskF]
  rfl
theorem pwl (k : Nat) (v : Int) (h : (2 : Int) ^ k = v) : pw (k : Int) = v := by
  unfold pw; rw [Int.toNat_natCast]; exact h
theorem field_at (w : Int) (l m : Nat) (a b : Int) (ha : (2 : Int) ^ l = a) (hb : (2 : Int) ^ m = b) : fieldF w l m = (w / a) % b := by
  have pa := pow_pos l
  have pb := pow_pos m
  unfold fieldF
  rw [pwl l a ha, pwl m b hb, Int.fdiv_eq_ediv_of_nonneg _ (by omega), Int.fmod_eq_emod_of_nonneg _ (by omega)]
theorem sg_at (n : Int) (m : Nat) (a b : Int) (hb : (2 : Int) ^ (m + 1) = b) (ha : (2 : Int) ^ m = a) : sg n ((m + 1 : Nat) : Int) = (n + a) % b - a := by
  have pb := pow_pos (m + 1)
  unfold sg
  have e : (((m + 1 : Nat) : Int) - 1) = (m : Int) := by omega
  rw [e, pwl m a ha, pwl (m + 1) b hb, Int.fmod_eq_emod_of_nonneg _ (by omega)]
end K3

noncomputable def sp_wrapped : Sp := fun vs H Q _ => ∃ n : Int, vs = [.int n] ∧ Q (.int (n % 4294967296)) H
noncomputable def sp_moved : Sp := fun vs H Q _ => ∃ n u : Int, vs = [.int n, .int u] ∧ 0 ≤ n ∧ n ≤ 4294967296 ∧ u ≤ 100 ∧ Q (.int (K3.movedF n u)) H
noncomputable def sp_ones : Sp := fun vs H Q _ => ∃ m : Int, vs = [.int m] ∧ 0 ≤ m ∧ m ≤ 32 ∧ Q (.int (K3.onesF m)) H
noncomputable def sp_field : Sp := fun vs H Q _ => ∃ a l m : Int, vs = [.int a, .int l, .int m] ∧ 0 ≤ a ∧ a ≤ 4294967295 ∧ 0 ≤ l ∧ l ≤ 31 ∧ 1 ≤ m ∧ m ≤ 32 ∧ Q (.int (K3.fieldF a l m)) H
noncomputable def sp_signed : Sp := fun vs H Q _ => ∃ n m : Int, vs = [.int n, .int m] ∧ 1 ≤ m ∧ m ≤ 32 ∧ Q (.int (K3.sg n m)) H

noncomputable def turnE (w b : Int) : Int := (Builtin.bitOr (w / 2 ^ (b % 32).toNat) (w * 2 ^ (32 - b % 32).toNat)) % 4294967296
noncomputable def sp_turned : Sp := fun vs H Q _ => ∃ n b : Int, vs = [.int n, .int b] ∧ 0 ≤ n ∧ n ≤ 4294967295 ∧ Q (.int (turnE n b)) H
noncomputable def sp_whole : Sp := fun vs H Q _ => ∃ n : Int, vs = [.int n] ∧ Q (.bl true) H
noncomputable def sp_fld (d m : Int) : Sp := fun vs H Q _ => ∃ a : Int, vs = [.int a] ∧ 0 ≤ a ∧ a ≤ 4294967295 ∧ Q (.int (a / d % m)) H
noncomputable def sE (a : Int) : Int := (a % 65536 + 32768) % 65536 - 32768
noncomputable def sp_s : Sp := fun vs H Q _ => ∃ a : Int, vs = [.int a] ∧ 0 ≤ a ∧ a ≤ 4294967295 ∧ Q (.int (sE a)) H
set_option genInjectivity false in
structure MM where
  x : Addr
  dx : Addr
  am : Addr
  ar : Addr
  at_ : Addr
noncomputable def MM.fs (M : MM) (pl : Int) (en : Bool) : List (Str × V) := [("memory", .ref M.am), ("place", .int pl), ("registers", .ref M.ar), ("numbers", .ref M.at_), ("ended", .bl en)]
set_option genInjectivity false in
structure Mach (C : Addr) (H : Hp) (M : MM) (mem : List (Key × V)) (pl : Int) (rs ts : List Int) (en : Bool) : Prop where
  top : H M.x = some (.ins C M.dx (M.fs pl en))
  mem : H M.am = some (.dK mem)
  reg : H M.ar = some (.lst (rs.map V.int))
  tol : H M.at_ = some (.lst (ts.map V.int))
  nd : M.ar ≠ M.at_
noncomputable def Words (rs : List Int) : Prop := ∀ r ∈ rs, 0 ≤ r ∧ r ≤ 4294967295
noncomputable def MM.Off (M : MM) (H H' : Hp) : Prop := ∀ b o, H b = some o → b ≠ M.x → b ≠ M.am → b ≠ M.ar → b ≠ M.at_ → H' b = some o
noncomputable def dueE (op one other word : Int) : Int := if op = 2 then word % 65536 else if op = 3 then word % 65536 * 65536 % 4294967296 else if op = 4 then (one + sE word) % 4294967296 else if op = 7 then (one + other) % 4294967296 else if op = 8 then (one - other) % 4294967296
  else if op = 9 then Builtin.bitAnd one other else if op = 10 then Builtin.bitXor one other else turnE one other
noncomputable def isOp (op : Int) : Prop := op = 2 ∨ op = 3 ∨ op = 4 ∨ op = 7 ∨ op = 8 ∨ op = 9 ∨ op = 10 ∨ op = 11
noncomputable def opW (w : Int) : Int := w / 268435456 % 16
noncomputable def regW (w d : Int) : Nat := (w / d % 8).toNat
noncomputable def stepR (rs : List Int) (w : Int) : List Int := rs.set (regW w 33554432) (dueE (opW w) (rs.getD (regW w 4194304) 0) (rs.getD (regW w 524288) 0) w)
noncomputable def sp_minit (C : Addr) : Sp := fun vs H Q _ => ∃ (x dx d l : Addr) (mem : List (Key × V)) (pl : Int) (rs : List Int), vs = [.ref x, .ref d, .int pl, .ref l] ∧ H x = some (.ins C dx []) ∧ H d = some (.dK mem) ∧ H l = some (.lst (rs.map V.int)) ∧ rs.length ≤ 100 ∧ 0 ≤ pl ∧ pl ≤ 4294967295 ∧
  ∀ (M : MM) (H' : Hp), M.x = x → M.dx = dx → (∀ b o, b ≠ x → H b = some o → H' b = some o) → Mach C H' M mem pl rs [] false → H M.am = none → H M.ar = none → H M.at_ = none → Q .non H'
noncomputable def regA (rs : List Int) (w : Int) : Int := rs.getD (regW w 33554432) 0
noncomputable def regB (rs : List Int) (w : Int) : Int := rs.getD (regW w 4194304) 0
noncomputable def nearW (w : Int) : Int := (w % 524288 + 262144) % 524288 - 262144
noncomputable def splitN (w : Int) : Int := w % 128 + 128 * (w / 16384 % 32)
noncomputable def splitW (w : Int) : Int := (splitN w + 2048) % 4096 - 2048
noncomputable def goRs (pl : Int) (rs : List Int) (w : Int) : List Int := if opW w = 14 then rs.set (regW w 33554432) ((pl + 1) % 4294967296) else if opW w = 0 ∨ opW w = 1 ∨ opW w = 12 ∨ opW w = 13 ∨ opW w = 15 then rs else stepR rs w
noncomputable def goPl (pl : Int) (rs : List Int) (w : Int) : Int := if opW w = 0 then pl else if opW w = 15 then regA rs w else if opW w = 14 then ((pl + 1) % 4294967296 + nearW w) % 4294967296 else if (opW w = 12 ∧ regA rs w = regB rs w) ∨ (opW w = 13 ∧ regA rs w < regB rs w) then ((pl + 1) % 4294967296 + splitW w) % 4294967296 else (pl + 1) % 4294967296
noncomputable def goTs (ts rs : List Int) (w : Int) : List Int := if opW w = 1 then ts ++ [regA rs w] else ts
noncomputable def deeds : List Str := ["end", "tell", "put", "high", "add", "load", "store", "sum", "less", "both", "odd", "turn", "same", "under", "call", "go"]
noncomputable def deedN (n : Nat) : Str := deeds.getD n ""
noncomputable def dW (w : Int) : Str := deedN (opW w).toNat
noncomputable def sp_deed : Sp := fun vs H Q _ => ∃ a : Int, vs = [.int a] ∧ 0 ≤ a ∧ a ≤ 4294967295 ∧ Q (.str (dW a)) H
noncomputable def sp_nearof : Sp := fun vs H Q _ => ∃ a : Int, vs = [.int a] ∧ 0 ≤ a ∧ a ≤ 4294967295 ∧ Q (.int (nearW a)) H
noncomputable def sp_splitof : Sp := fun vs H Q _ => ∃ a : Int, vs = [.int a] ∧ 0 ≤ a ∧ a ≤ 4294967295 ∧ Q (.int (splitW a)) H
noncomputable def isTwo (op : Int) : Prop := op = 7 ∨ op = 8 ∨ op = 9 ∨ op = 10 ∨ op = 11
noncomputable def sp_two : Sp := fun vs H Q _ => ∃ word one other : Int, vs = [.str (dW word), .int one, .int other] ∧ isTwo (opW word) ∧ 0 ≤ one ∧ one ≤ 4294967295 ∧ Q (.int (dueE (opW word) one other word)) H
set_option genInjectivity false in
structure Rdy (C : Addr) (H : Hp) (M : MM) (mem : List (Key × V)) (pl : Int) (rs ts : List Int) (en : Bool) (word : Int) : Prop where
  mach : Mach C H M mem pl rs ts en
  len : rs.length = 8
  ws : Words rs
  w0 : 0 ≤ word
  w1 : word ≤ 4294967295
noncomputable def sp_sought (C : Addr) : Sp := fun vs H Q _ => ∃ (M : MM) (mem : List (Key × V)) (pl word : Int) (rs ts : List Int) (en : Bool), vs = [.ref M.x, .int word] ∧ Rdy C H M mem pl rs ts en word ∧ Q (.int ((regB rs word + sE word) % 4294967296)) H
noncomputable def goesB (rs : List Int) (w : Int) : Bool := if opW w = 12 then decide (regA rs w = regB rs w) else decide (regA rs w < regB rs w)
noncomputable def sp_goes (C : Addr) : Sp := fun vs H Q _ => ∃ (M : MM) (mem : List (Key × V)) (pl word : Int) (rs ts : List Int) (en : Bool), vs = [.ref M.x, .str (dW word), .int word] ∧ Rdy C H M mem pl rs ts en word ∧ (opW word = 12 ∨ opW word = 13) ∧ Q (.bl (goesB rs word)) H
noncomputable def regC (rs : List Int) (w : Int) : Int := rs.getD (regW w 524288) 0
noncomputable def xdL (p : Int) : HO := .xd [("place", .int p)]
noncomputable def LostTo (A : Ad) (H : Hp) (p : Int) (E : XK) : Prop := ∀ d H', Same H H' → H' d = some (xdL p) → E (.ref A.c_Lost) (some d) H'
noncomputable def sp_linit (A : Ad) : Sp := fun vs H Q _ => ∃ (a : Addr) (p : Int), vs = [.ref a, .int p] ∧ H a = some (XN a A.c_Lost none) ∧ 0 ≤ p ∧ p ≤ 4294967295 ∧
  ∀ d H', H d = none → d ≠ a → (∀ b o, b ≠ a → H b = some o → H' b = some o) → H' a = some (XN a A.c_Lost (some d)) → H' d = some (XD d [("place", .int p)]) → Q .non H'
noncomputable def sp_foundX (A : Ad) : Sp := fun vs H Q E => ∃ (M : MM) (mem : List (Key × V)) (pl p : Int) (rs ts : List Int) (en : Bool), vs = [.ref M.x, .int p] ∧ Mach A.c_Machine H M mem pl rs ts en ∧ 0 ≤ p ∧ p ≤ 4294967295 ∧ (∀ v, valV mem (.inl p) = some v → Q v H) ∧ (valV mem (.inl p) = none → LostTo A H p E)
noncomputable def sp_storeX (A : Ad) : Sp := fun vs H Q E => ∃ (M : MM) (mem : List (Key × V)) (pl p v : Int) (rs ts : List Int) (en : Bool), vs = [.ref M.x, .int p, .int v] ∧ Mach A.c_Machine H M mem pl rs ts en ∧ 0 ≤ p ∧ p ≤ 4294967295 ∧ mem.length ≤ 1000 ∧
  (valV mem (.inl p) ≠ none → ∀ H', M.Off H H' → Mach A.c_Machine H' M (putK mem (.inl p) (.int v)) pl rs ts en → Q .non H') ∧ (valV mem (.inl p) = none → LostTo A H p E)
noncomputable def MemI (mem : List (Key × V)) : Prop := mem.length ≤ 1000 ∧ ∀ p v, valV mem (.inl p) = some v → ∃ n : Int, v = .int n ∧ 0 ≤ n ∧ n ≤ 4294967295
noncomputable def thereW (rs : List Int) (w : Int) : Int := (regB rs w + sE w) % 4294967296
noncomputable def intAt (mem : List (Key × V)) (p : Int) : Int := match valV mem (.inl p) with | some (.int n) => n | _ => 0
noncomputable def sp_resultX (A : Ad) : Sp := fun vs H Q E => ∃ (M : MM) (mem : List (Key × V)) (pl word : Int) (rs ts : List Int) (en : Bool), vs = [.ref M.x, .str (dW word), .int word] ∧ Rdy A.c_Machine H M mem pl rs ts en word ∧ MemI mem ∧
  ((isOp (opW word) ∧ Q (.int (dueE (opW word) (regB rs word) (regC rs word) word)) H) ∨ (opW word = 5 ∧ (valV mem (.inl (thereW rs word)) ≠ none → Q (.int (intAt mem (thereW rs word))) H) ∧ (valV mem (.inl (thereW rs word)) = none → LostTo A H (thereW rs word) E)))
noncomputable def lackW (mem : List (Key × V)) (rs : List Int) (w : Int) : Prop := (opW w = 5 ∨ opW w = 6) ∧ valV mem (.inl (thereW rs w)) = none
noncomputable def goMem (mem : List (Key × V)) (rs : List Int) (w : Int) : List (Key × V) := if opW w = 6 then putK mem (.inl (thereW rs w)) (.int (regA rs w)) else mem
noncomputable def goRsX (mem : List (Key × V)) (pl : Int) (rs : List Int) (w : Int) : List Int := if opW w = 5 then rs.set (regW w 33554432) (intAt mem (thereW rs w)) else if opW w = 6 then rs else goRs pl rs w
noncomputable def sp_doX (A : Ad) : Sp := fun vs H Q E => ∃ (M : MM) (mem : List (Key × V)) (pl word : Int) (rs ts : List Int), vs = [.ref M.x, .int word] ∧ Rdy A.c_Machine H M mem pl rs ts false word ∧ MemI mem ∧ ts.length ≤ 1000 ∧
  (¬ lackW mem rs word → ∀ H', M.Off H H' → Mach A.c_Machine H' M (goMem mem rs word) (goPl pl rs word) (goRsX mem pl rs word) (goTs ts rs word) (decide (opW word = 0)) → Q .non H') ∧ (lackW mem rs word → LostTo A H (thereW rs word) E)
noncomputable def doSX (A : Ad) (E : XK) : TS := fun D σ H => ∃ (M : MM) (mem : List (Key × V)) (pl word : Int) (rs ts : List Int), σ = [some (.ref M.x), some (.int word), some (.str (dW word)), some (.int (word / 33554432 % 8)), some (.int (regA rs word)), some (.int ((pl + 1) % 4294967296))] ∧ Rdy A.c_Machine H M mem pl rs ts false word ∧ MemI mem ∧ opW word ≠ 0 ∧ ts.length ≤ 1000 ∧
  (¬ lackW mem rs word → ∀ H', M.Off H H' → Mach A.c_Machine H' M (goMem mem rs word) pl (goRsX mem pl rs word) (goTs ts rs word) false → D.nx [some (.ref M.x), some (.int word), some (.str (dW word)), some (.int (word / 33554432 % 8)), some (.int (regA rs word)), some (.int (goPl pl rs word))] H') ∧ (lackW mem rs word → LostTo A H (thereW rs word) E)
noncomputable def sp_goX (A : Ad) : Sp := fun vs H Q E => ∃ (M : MM) (mem : List (Key × V)) (pl : Int) (rs ts : List Int) (en : Bool), vs = [.ref M.x] ∧ Mach A.c_Machine H M mem pl rs ts en ∧ MemI mem ∧ rs.length = 8 ∧ Words rs ∧ ts.length ≤ 1000 ∧ 0 ≤ pl ∧ pl ≤ 4294967295 ∧
  ((en = true ∧ Q (.bl false) H) ∨ (en = false ∧ valV mem (.inl pl) = none ∧ LostTo A H pl E) ∨ (en = false ∧ ∃ word : Int, valV mem (.inl pl) = some (.int word) ∧
  (¬ lackW mem rs word → ∀ H', M.Off H H' → Mach A.c_Machine H' M (goMem mem rs word) (goPl pl rs word) (goRsX mem pl rs word) (goTs ts rs word) (decide (opW word = 0)) → Q (.bl true) H') ∧ (lackW mem rs word → LostTo A H (thereW rs word) E)))
noncomputable def sp_state (C : Addr) : Sp := fun vs H Q _ => ∃ (M : MM) (mem : List (Key × V)) (pl : Int) (rs ts : List Int) (en : Bool), vs = [.ref M.x] ∧ Mach C H M mem pl rs ts en ∧
  ∀ (q r t : Addr) (H' : Hp), Same H H' → H' q = some (.tup [.int pl, .ref r, .ref t, .bl en]) → H' r = some (.lst (rs.map V.int)) → H' t = some (.lst (ts.map V.int)) → H r = none → H t = none → r ≠ t → Q (.ref q) H'
noncomputable def sp_wordat (C : Addr) : Sp := fun vs H Q _ => ∃ (M : MM) (mem : List (Key × V)) (pl p : Int) (rs ts : List Int) (en : Bool), vs = [.ref M.x, .int p] ∧ Mach C H M mem pl rs ts en ∧ Q ((valV mem (.inl p)).getD .non) H
noncomputable def sp_law (K : PySem.W.Frag) : Sp := fun vs H Q _ => ∃ (a : Addr) (ns : List Int), vs = [.ref a] ∧ SqL K H a (ns.map V.int) ∧ ns.length ≤ 63 ∧ ∀ H', Q (.bl true) H'

noncomputable def sp_cellat (K : PySem.W.Frag) : Sp := fun vs H Q _ => ∃ (a : Addr) (ns : List Int) (k : Int), vs = [.ref a, .int k] ∧ SqL K H a (ns.map V.int) ∧ ns.length ≤ 63 ∧ 0 ≤ k ∧ ∀ i : Int, Q (.int i) H
noncomputable def sp_wordby : Sp := fun vs H Q _ => ∃ c : Int, vs = [.int c] ∧ ∀ w : Int, 0 ≤ w → w ≤ 4294967295 → Q (.int w) H
noncomputable def wS : TS := fun D σ H => ∃ (c n op r low : Int) (x : Option V), σ = [some (.int c), some (.int n), some (.int op), some (.int r), some (.int low), x] ∧ 0 ≤ low ∧ low < 524288 ∧ ∀ (low' : Int) (y : Option V), 0 ≤ low' → low' < 524288 → D.nx [some (.int c), some (.int n), some (.int op), some (.int r), some (.int low'), y] H
noncomputable def sp_lsplit : Sp := fun vs H Q _ => ∃ w : Int, vs = [.int w] ∧ Q (.int (splitW w)) H
noncomputable def sp_lnear : Sp := fun vs H Q _ => ∃ w : Int, vs = [.int w] ∧ Q (.int (nearW w)) H
noncomputable def sp_lsmall : Sp := fun vs H Q _ => ∃ w : Int, vs = [.int w] ∧ Q (.int (sE w)) H
set_option genInjectivity false in
structure Own (H : Hp) (dm q : Addr) (mem : List (Key × V)) (rs : List Int) : Prop where
  dct : H dm = some (.dK mem)
  row : H q = some (.lst (rs.map V.int))
  mi : MemI mem
  len : rs.length = 8
  ws : Words rs
noncomputable def sp_lacks : Sp := fun vs H Q _ => ∃ (dm q : Addr) (here : Int) (mem : List (Key × V)) (rs : List Int), vs = [.ref dm, .ref q, .int here] ∧ Own H dm q mem rs ∧
  (valV mem (.inl here) = none → Q (.int here) H) ∧ (∀ w : Int, valV mem (.inl here) = some (.int w) → ∀ H', Same H H' → (lackW mem rs w → Q (.int (thereW rs w)) H') ∧ (¬ lackW mem rs w → Q .non H'))
noncomputable def madeV (mem : List (Key × V)) (w one other : Int) : Int := if opW w = 5 then intAt mem ((one + sE w) % 4294967296) else dueE (opW w) one other w
noncomputable def sp_made : Sp := fun vs H Q _ => ∃ (dm : Addr) (w one other : Int) (mem : List (Key × V)), vs = [.ref dm, .int (opW w), .int w, .int one, .int other] ∧ H dm = some (.dK mem) ∧ MemI mem ∧ 0 ≤ one ∧ one ≤ 4294967295 ∧ 0 ≤ other ∧ other ≤ 4294967295 ∧ (isOp (opW w) ∨ opW w = 5) ∧
  (opW w = 5 → valV mem (.inl ((one + sE w) % 4294967296)) ≠ none) ∧ ∀ v : Int, v % 4294967296 = madeV mem w one other → Q (.int v) H
noncomputable def onV (w here a b : Int) : Int := if opW w = 15 then a else if opW w = 14 then ((here + 1) % 4294967296 + nearW w) % 4294967296 else if (opW w = 12 ∧ a = b) ∨ (opW w = 13 ∧ a < b) then ((here + 1) % 4294967296 + splitW w) % 4294967296 else (here + 1) % 4294967296
noncomputable def sp_onward : Sp := fun vs H Q _ => ∃ (w here a b : Int), vs = [.int (opW w), .int w, .int here, .int a, .int b] ∧ 0 ≤ a ∧ a ≤ 4294967295 ∧ ∀ v : Int, v % 4294967296 = onV w here a b → Q (.int v) H
noncomputable def sp_done : Sp := fun vs H Q _ => ∃ (dm q t : Addr) (here w : Int) (mem : List (Key × V)) (rs ts : List Int), vs = [.ref dm, .ref q, .ref t, .int here] ∧ Own H dm q mem rs ∧ H t = some (.lst (ts.map V.int)) ∧ q ≠ t ∧ ts.length ≤ 1000 ∧ valV mem (.inl here) = some (.int w) ∧ ¬ lackW mem rs w ∧
  (opW w = 0 → Q .non H) ∧ (opW w ≠ 0 → ∀ H', (∀ b o, H b = some o → b ≠ dm → b ≠ q → b ≠ t → H' b = some o) → H' dm = some (.dK (goMem mem rs w)) → H' q = some (.lst ((goRsX mem here rs w).map V.int)) → H' t = some (.lst ((goTs ts rs w).map V.int)) → Q (.int (goPl here rs w)) H')
noncomputable def dnS : TS := fun D σ H => ∃ (dm q t : Addr) (here w v : Int) (mem : List (Key × V)) (rs ts : List Int), σ = [some (.ref dm), some (.ref q), some (.ref t), some (.int here), some (.int w), some (.int (opW w)), some (.int (w / 33554432 % 8)), some (.int (regB rs w)), some (.int (regC rs w)), some (.int v)] ∧ Own H dm q mem rs ∧ H t = some (.lst (ts.map V.int)) ∧ q ≠ t ∧ ts.length ≤ 1000 ∧ opW w ≠ 0 ∧ ¬ lackW mem rs w ∧
  ∀ H', (∀ b o, H b = some o → b ≠ dm → b ≠ q → b ≠ t → H' b = some o) → H' dm = some (.dK (goMem mem rs w)) → H' q = some (.lst ((goRsX mem here rs w).map V.int)) → H' t = some (.lst ((goTs ts rs w).map V.int)) → D.nx σ H'
set_option genInjectivity false in
structure St4 (H : Hp) (q r t : Addr) (pl : Int) (rs ts : List Int) (en : Bool) : Prop where
  top : H q = some (.tup [.int pl, .ref r, .ref t, .bl en])
  row : H r = some (.lst (rs.map V.int))
  tol : H t = some (.lst (ts.map V.int))
noncomputable def StE (H : Hp) (q : Addr) (pl : Int) (rs ts : List Int) (en : Bool) : Prop := ∃ r t, St4 H q r t pl rs ts en
noncomputable def sp_lstate2 : Sp := fun vs H Q _ => ∃ (q q' : Addr) (pl : Int) (rs ts : List Int) (en : Bool), vs = [.ref q', .ref q] ∧ StE H q' pl rs ts en ∧ StE H q pl rs ts en ∧ rs.length ≤ 100 ∧ ts.length ≤ 1000 ∧ ∀ H', Same H H' → Q (.bl true) H'
noncomputable def LostAt (mem : List (Key × V)) (rs : List Int) (pl p : Int) : Prop := (valV mem (.inl pl) = none ∧ p = pl) ∨ (∃ word : Int, valV mem (.inl pl) = some (.int word) ∧ lackW mem rs word ∧ p = thereW rs word)
set_option genInjectivity false in
structure Run (C : Addr) (H : Hp) (M : MM) (mem : List (Key × V)) (pl : Int) (rs ts : List Int) (en : Bool) : Prop where
  mach : Mach C H M mem pl rs ts en
  mi : MemI mem
  len : rs.length = 8
  ws : Words rs
  tl : ts.length ≤ 900
  p0 : 0 ≤ pl
  p1 : pl ≤ 4294967295
noncomputable def sp_lostat (A : Ad) : Sp := fun vs H Q _ => ∃ (M : MM) (mem : List (Key × V)) (pl p : Int) (rs ts : List Int), vs = [.ref M.x] ∧ Run A.c_Machine H M mem pl rs ts false ∧ LostAt mem rs pl p ∧ ∀ H', Same H H' → Q (.int p) H'
noncomputable def sp_stays (A : Ad) : Sp := fun vs H Q _ => ∃ (M : MM) (mem : List (Key × V)) (pl : Int) (rs ts : List Int) (en : Bool) (q : Addr) (v : V), vs = [.ref M.x, .ref q, v] ∧ Run A.c_Machine H M mem pl rs ts en ∧ StE H q pl rs ts en ∧ ((en = true ∧ v = .non) ∨ (en = false ∧ ∃ p, v = .int p ∧ LostAt mem rs pl p)) ∧ ∀ H', Same H H' → Q (.bl true) H'
noncomputable def stB (C : Addr) : TS := fun D σ H => ∃ (M : MM) (mem : List (Key × V)) (pl : Int) (rs ts : List Int) (en : Bool) (q : Addr) (v b : Option V), σ = [some (.ref M.x), some (.ref q), v, b] ∧ Run C H M mem pl rs ts en ∧ StE H q pl rs ts en ∧ ∀ H', Same H H' → D.nx σ H'
set_option genInjectivity false in
structure He (H : Hp) (mods : List Addr) (h : Addr) : Prop where
  ex : ∃ (f r a b : Addr) (x y : V) (rs ts : List Int), H h = some (.tup [.ref f, .ref r, .int ts.length]) ∧ H f = some (.tup [x, .ref a, .ref b, y]) ∧ H a = some (.lst (rs.map V.int)) ∧ H r = some (.lst (rs.map V.int)) ∧ H b = some (.lst (ts.map V.int)) ∧ rs.length ≤ 100 ∧ ∀ c ∈ [h, f, r, a, b], c ∉ mods
noncomputable def sp_held : Sp := fun vs H Q _ => ∃ (l : Addr) (hs mods : List Addr), vs = [.ref l] ∧ H l = some (.lst (hs.map V.ref)) ∧ hs.length ≤ 100 ∧ (∀ h ∈ hs, He H mods h) ∧ ∀ H', Same H H' → Q (.bl true) H'
noncomputable def MM.as (M : MM) : List Addr := [M.x, M.am, M.ar, M.at_]
noncomputable def sp_runs (A : Ad) : Sp := fun vs H Q _ => ∃ (M : MM) (dm q : Addr) (here : Int) (mem : List (Key × V)) (rs : List Int), vs = [.ref M.x, .ref dm, .ref q, .int here, .int 60] ∧ Run A.c_Machine H M mem here rs [] false ∧ Own H dm q mem rs ∧ (∀ c ∈ [dm, q], c ∉ M.as) ∧
  ∀ (mem' : List (Key × V)) (pl : Int) (rs' ts' : List Int) (en : Bool) (H' : Hp), (∀ b o, H b = some o → b ∉ dm :: q :: M.as → H' b = some o) → Mach A.c_Machine H' M mem' pl rs' ts' en → H' dm = some (.dK mem') → MemI mem' → Q (.bl true) H'
noncomputable def mods (M : MM) (dm q t l : Addr) : List Addr := dm :: q :: t :: l :: M.as
set_option genInjectivity false in
structure RA (M : MM) (dm q t l : Addr) (H0 : Hp) : Prop where
  ap : ∀ c ∈ [dm, q, t, l], c ∉ M.as
  qt : q ≠ t
  ql : q ≠ l
  tl : t ≠ l
  nt : H0 t = none
  nl : H0 l = none
set_option genInjectivity false in
structure RI (C : Addr) (M : MM) (dm q t l : Addr) (mem : List (Key × V)) (pl : Int) (rs ts : List Int) (memL : List (Key × V)) (rsL tsL : List Int) (hs : List Addr) (en : Bool) (H0 H : Hp) : Prop where
  ra : RA M dm q t l H0
  run : Run C H M mem pl rs ts en
  own : Own H dm q memL rsL
  tol : H t = some (.lst (tsL.map V.int))
  hl : H l = some (.lst (hs.map V.ref))
  held : ∀ h ∈ hs, He H (mods M dm q t l) h
  fr : ∀ b o, H0 b = some o → b ∉ dm :: q :: M.as → H b = some o
noncomputable def KK (C : Addr) (M : MM) (dm q : Addr) (H0 : Hp) (R : V → Hp → Prop) : Prop := ∀ (mem' : List (Key × V)) (pl : Int) (rs' ts' : List Int) (en : Bool) (H' : Hp), (∀ b o, H0 b = some o → b ∉ dm :: q :: M.as → H' b = some o) → Mach C H' M mem' pl rs' ts' en → H' dm = some (.dK mem') → MemI mem' → R (.bl true) H'
noncomputable def σ54 (M : MM) (dm q t l : Addr) (x3 : V) (x4 x7 x8 x9 x10 : Option V) : L2.St := [some (.ref M.x), some (.ref dm), some (.ref q), some x3, x4, some (.ref t), some (.ref l), x7, x8, x9, x10]
noncomputable def NX (C : Addr) (M : MM) (dm q t l : Addr) (x4 x7 : Option V) (n m : Nat) (H0 : Hp) (D : Ends) : Prop := ∀ (mem : List (Key × V)) (pl : Int) (rs ts : List Int) (hs : List Addr) (x8 x9 x10 : Option V) (H' : Hp), RI C M dm q t l mem pl rs ts mem rs ts hs false H0 H' → hs.length ≤ n + 1 → ts.length ≤ m + 1 → D.nx (σ54 M dm q t l (.int pl) x4 x7 x8 x9 x10) H'
noncomputable def r1 (C : Addr) : TS := fun D σ H => ∃ (M : MM) (dm q t l : Addr) (mem : List (Key × V)) (pl : Int) (rs ts : List Int) (hs : List Addr) (x4 x7 x9 x10 : Option V) (v : V) (H0 : Hp), σ = σ54 M dm q t l (.int pl) x4 x7 (some v) x9 x10 ∧ RI C M dm q t l mem pl rs ts mem rs ts hs false H0 H ∧ hs.length ≤ 60 ∧ ts.length ≤ 60 ∧
  ((∃ p, v = .int p ∧ LostAt mem rs pl p) ∨ (v = .non ∧ ∃ w : Int, valV mem (.inl pl) = some (.int w) ∧ ¬ lackW mem rs w)) ∧ KK C M dm q H0 D.rt ∧ NX C M dm q t l x4 x7 hs.length ts.length H0 D
noncomputable def r2 (C : Addr) : TS := fun D σ H => ∃ (M : MM) (dm q t l : Addr) (mem : List (Key × V)) (pl w : Int) (rs ts : List Int) (hs : List Addr) (x4 x7 x8 x9 x10 : Option V) (H0 : Hp), σ = σ54 M dm q t l (.int pl) x4 x7 x8 x9 x10 ∧ RI C M dm q t l mem pl rs ts mem rs ts hs false H0 H ∧ hs.length ≤ 60 ∧ ts.length ≤ 60 ∧
  valV mem (.inl pl) = some (.int w) ∧ ¬ lackW mem rs w ∧ KK C M dm q H0 D.rt ∧ NX C M dm q t l x4 x7 hs.length ts.length H0 D
noncomputable def r3 (C : Addr) : TS := fun D σ H => ∃ (M : MM) (dm q t l : Addr) (mem memL : List (Key × V)) (pl w : Int) (rs ts rsL tsL : List Int) (hs : List Addr) (x4 x7 x8 x10 : Option V) (v : V) (H0 : Hp), σ = σ54 M dm q t l (.int pl) x4 x7 x8 (some v) x10 ∧ RI C M dm q t l mem pl rs ts memL rsL tsL hs false H0 H ∧ hs.length ≤ 60 ∧ ts.length ≤ 60 ∧
  valV mem (.inl pl) = some (.int w) ∧ ¬ lackW mem rs w ∧ memL = goMem mem rs w ∧ rsL = goRsX mem pl rs w ∧ tsL = goTs ts rs w ∧ ((opW w = 0 ∧ v = .non) ∨ (opW w ≠ 0 ∧ v = .int (goPl pl rs w))) ∧ KK C M dm q H0 D.rt ∧ NX C M dm q t l x4 x7 hs.length ts.length H0 D
noncomputable def r4 (C : Addr) : TS := fun D σ H => ∃ (M : MM) (dm q t l : Addr) (mem : List (Key × V)) (pl h : Int) (rs ts : List Int) (hs : List Addr) (x4 x7 x8 x10 : Option V) (v : V) (n m : Nat) (en : Bool) (H0 : Hp), σ = σ54 M dm q t l (.int h) x4 x7 x8 (some v) x10 ∧ RI C M dm q t l mem pl rs ts mem rs ts hs en H0 H ∧ hs.length ≤ 60 ∧ ts.length ≤ 61 ∧ hs.length ≤ n ∧ ts.length ≤ m + 1 ∧
  ((en = true ∧ v = .non ∧ h = pl) ∨ (en = false ∧ v = .int pl)) ∧ KK C M dm q H0 D.rt ∧ NX C M dm q t l x4 x7 n m H0 D
noncomputable def r5 (C : Addr) : TS := fun D σ H => ∃ (M : MM) (dm q t l : Addr) (mem : List (Key × V)) (pl : Int) (rs ts : List Int) (hs : List Addr) (x3 : V) (x4 x7 x8 x10 : Option V) (n m : Nat) (H0 : Hp), σ = σ54 M dm q t l x3 x4 x7 x8 (some (.int pl)) x10 ∧ RI C M dm q t l mem pl rs ts mem rs ts hs false H0 H ∧ hs.length ≤ 60 ∧ ts.length ≤ 61 ∧ hs.length ≤ n ∧ ts.length ≤ m + 1 ∧
  NX C M dm q t l x4 x7 n m H0 D
set_option genInjectivity false in
structure LA (K : PySem.W.Frag) (H : Hp) (a ce dm : Addr) (ns cs : List Int) (mem : List (Key × V)) : Prop where
  sc : SqL K H a (ns.map V.int)
  hn : ns.length ≤ 63
  ce : H ce = some (.lst (cs.map V.int))
  hc : cs.length ≤ 63
  dct : H dm = some (.dK mem)
  mi : MemI mem
noncomputable def lA (K : PySem.W.Frag) : TS := fun D σ H => ∃ (a ce dm : Addr) (st : Int) (ns cs : List Int) (mem : List (Key × V)) (x2 x5 x6 x7 x8 x9 x10 x11 : Option V), σ = [some (.ref a), some (.ref ce), x2, some (.int st), some (.ref dm), x5, x6, x7, x8, x9, x10, x11] ∧ LA K H a ce dm ns cs mem ∧ ∀ H', D.rt (.bl true) H'
noncomputable def lB (K : PySem.W.Frag) : TS := fun D σ H => ∃ (a ce dm q : Addr) (st : Int) (ns cs rs : List Int) (mem : List (Key × V)) (x2 x5 x6 x8 x9 x10 x11 : Option V), σ = [some (.ref a), some (.ref ce), x2, some (.int st), some (.ref dm), x5, x6, some (.ref q), x8, x9, x10, x11] ∧ LA K H a ce dm ns cs mem ∧ H q = some (.lst (rs.map V.int)) ∧ rs.length = 8 ∧ Words rs ∧ ce ≠ q ∧ ∀ H', D.rt (.bl true) H'
noncomputable def lC (C : Addr) : TS := fun D σ H => ∃ (ce dm q : Addr) (M : MM) (st pl : Int) (cs rs : List Int) (mem : List (Key × V)) (x0 x2 x5 x6 x10 x11 : Option V), σ = [x0, some (.ref ce), x2, some (.int st), some (.ref dm), x5, x6, some (.ref q), some (.int pl), some (.ref M.x), x10, x11] ∧ Run C H M mem pl rs [] false ∧ Own H dm q mem rs ∧ (∀ c ∈ [dm, q], c ∉ M.as) ∧ H ce = some (.lst (cs.map V.int)) ∧ cs.length ≤ 63 ∧ ce ∉ dm :: q :: M.as ∧ ∀ H', D.rt (.bl true) H'
noncomputable def lD (C : Addr) : TS := fun D σ H => ∃ (ce dm : Addr) (M : MM) (st pl : Int) (cs rs ts : List Int) (mem : List (Key × V)) (en : Bool) (x0 x2 x5 x6 x7 x8 x10 x11 : Option V), σ = [x0, some (.ref ce), x2, some (.int st), some (.ref dm), x5, x6, x7, x8, some (.ref M.x), x10, x11] ∧ Mach C H M mem pl rs ts en ∧ H dm = some (.dK mem) ∧ MemI mem ∧ H ce = some (.lst (cs.map V.int)) ∧ cs.length ≤ 63 ∧ ∀ H', D.rt (.bl true) H'
local macro_rules | `(tactic| walk_at "rdd") => `(tactic| (try dsimp only [tSeq, tAsg, gName, tC, tOp, tUn, tVar, tRet, tIfS, tOr, tAnd, tNot, tTest, tB, tChain, tCB, tCons, tNil, tCall, tSl, tNoPart, tPart, tNext, tDrop, tLst, tTup, tYes, tNotV, tAndV, tOrV, L2.start, List.set, List.map, List.length, List.replicate, List.cons_append, List.nil_append, List.append_nil, cK, bK, rI0, rI, rU, rIxS, rIxL, rIxT, tRetN, rSlL, rIn, rCatT, gTup, gCons, gNil, tRaiseI, tXInit, tDGet, tDGet1, tDGet2, tDIn, tDNotIn, sDPut, tDNewK, rDictOf, rEqDict, rCount, tCompX_list, xCall, sXFld, tXFld, rSlS, rEq, rNe, sc0, sc1, sc2, sc3, sc4, sc5, sc6, sc7, sc8, sc9, sc10, sc11, sc12, sc13, rCatS, rIsi, LenV, rAll, tFor_list, tFor_tup, tFor_str, tFor_rng1, tFor_rng2, tComp_list, tComp_tup, tComp_str, tComp_rng1, blkSt, tBM, rAppend, rStarts, rIndex, tIf, tMake, tMeth, sFld, tFld, tRepr, tFmt, jNil, jCons, tJoined, rJoin, rIsx, rIst, tRaise, tTryAs, tTry0, un1, xMeth, xDrop, xSet, xRet, xOf, xSeq, List.getElem?_cons_zero, List.getElem?_cons_succ, Option.some.injEq, V.int.injEq, V.str.injEq, V.bl.injEq, V.ref.injEq, V.ty.injEq, List.cons.injEq, exists_eq_left', exists_eq_left, exists_eq', and_assoc, if_true, if_false, Bool.not_false, Bool.not_true, Bool.not_not, Bool.false_eq_true, exists_and_left, and_true, true_and, List.set_cons_zero, List.set_cons_succ, Option.join_some, false_and, or_false, false_or, exists_false, sp_wrapped, sp_moved, sp_ones, sp_field, sp_signed, sp_turned, sp_fld, sp_s, sp_deed, sp_nearof, sp_splitof, sp_two, sp_minit, sp_linit, sp_foundX, sp_storeX, sp_resultX, sp_doX, doSX, sp_goX, sp_sought, sp_goes, sp_state, sp_wordat, sp_whole, sp_cellat, sp_wordby, sp_lsplit, sp_lnear, sp_lsmall, sp_lacks, sp_made, sp_onward, sp_done, sp_lstate2, sp_lostat, sp_stays, sp_runs, sp_held, tDisp, tPairs, rSetL, gSub, Ends.nx, Nat.reduceSub, Nat.reduceAdd]))
local macro_rules | `(tactic| walk_at "rd") => `(tactic| (walk_at "rdd"; (try simp only [tSeq, tAsg, gName, tC, tOp, tUn, tVar, tRet, tIfS, tOr, tAnd, tNot, tTest, tB, tChain, tCB, tCons, tNil, tCall, tSl, tNoPart, tPart, tNext, tDrop, tLst, tTup, tYes, tNotV, tAndV, tOrV, L2.start, List.set, List.map, List.length, List.replicate, List.cons_append, List.nil_append, List.append_nil, cK, bK, rI0, rI, rU, rIxS, rIxL, rIxT, tRetN, rSlL, rIn, rCatT, gTup, gCons, gNil, tRaiseI, tXInit, tDGet, tDGet1, tDGet2, tDIn, tDNotIn, sDPut, tDNewK, rDictOf, rEqDict, rCount, tCompX_list, xCall, sXFld, tXFld, rSlS, rEq, rNe, sc0, sc1, sc2, sc3, sc4, sc5, sc6, sc7, sc8, sc9, sc10, sc11, sc12, sc13, rCatS, rIsi, LenV, rAll, tFor_list, tFor_tup, tFor_str, tFor_rng1, tFor_rng2, tComp_list, tComp_tup, tComp_str, tComp_rng1, blkSt, tBM, rAppend, rStarts, rIndex, tIf, tMake, tMeth, sFld, tFld, tRepr, tFmt, jNil, jCons, tJoined, rJoin, rIsx, rIst, tRaise, tTryAs, tTry0, un1, xMeth, xDrop, xSet, xRet, xOf, xSeq, List.getElem?_cons_zero, List.getElem?_cons_succ, Option.some.injEq, V.int.injEq, V.str.injEq, V.bl.injEq, V.ref.injEq, V.ty.injEq, List.cons.injEq, exists_eq_left', exists_eq_left, exists_eq', and_assoc, if_true, if_false, Bool.not_false, Bool.not_true, Bool.not_not, Bool.false_eq_true, exists_and_left, and_true, true_and, List.set_cons_zero, List.set_cons_succ, Option.join_some, false_and, or_false, false_or, exists_false, sp_wrapped, sp_moved, sp_ones, sp_field, sp_signed, sp_turned, sp_fld, sp_s, sp_deed, sp_nearof, sp_splitof, sp_two, sp_minit, sp_linit, sp_foundX, sp_storeX, sp_resultX, sp_doX, doSX, sp_goX, sp_sought, sp_goes, sp_state, sp_wordat, sp_whole, sp_cellat, sp_wordby, sp_lsplit, sp_lnear, sp_lsmall, sp_lacks, sp_made, sp_onward, sp_done, sp_lstate2, sp_lostat, sp_stays, sp_runs, sp_held, tDisp, tPairs, rSetL, gSub, Ends.nx, Nat.reduceSub, Nat.reduceAdd, reduceCtorEq])))
local macro_rules | `(tactic| walk_at "rdi") => `(tactic| (walk_at "rdd"; (try simp only [tSeq, tAsg, gName, tC, tOp, tUn, tVar, tRet, tIfS, tOr, tAnd, tNot, tTest, tB, tChain, tCB, tCons, tNil, tCall, tSl, tNoPart, tPart, tNext, tDrop, tLst, tTup, tYes, tNotV, tAndV, tOrV, L2.start, List.set, List.map, List.length, List.replicate, List.cons_append, List.nil_append, List.append_nil, cK, bK, rI0, rI, rU, rIxS, rIxL, rIxT, tRetN, rSlL, rIn, rCatT, gTup, gCons, gNil, tRaiseI, tXInit, tDGet, tDGet1, tDGet2, tDIn, tDNotIn, sDPut, tDNewK, rDictOf, rEqDict, rCount, tCompX_list, xCall, sXFld, tXFld, rSlS, rEq, rNe, sc0, sc1, sc2, sc3, sc4, sc5, sc6, sc7, sc8, sc9, sc10, sc11, sc12, sc13, rCatS, rIsi, LenV, rAll, tFor_list, tFor_tup, tFor_str, tFor_rng1, tFor_rng2, tComp_list, tComp_tup, tComp_str, tComp_rng1, blkSt, tBM, rAppend, rStarts, rIndex, tIf, tMake, tMeth, sFld, tFld, tRepr, tFmt, jNil, jCons, tJoined, rJoin, rIsx, rIst, tRaise, tTryAs, tTry0, un1, xMeth, xDrop, xSet, xRet, xOf, xSeq, List.getElem?_cons_zero, List.getElem?_cons_succ, Option.some.injEq, V.int.injEq, V.str.injEq, V.bl.injEq, V.ref.injEq, V.ty.injEq, List.cons.injEq, exists_eq_left', exists_eq_left, exists_eq', and_assoc, if_true, if_false, Bool.not_false, Bool.not_true, Bool.not_not, Bool.false_eq_true, exists_and_left, and_true, true_and, List.set_cons_zero, List.set_cons_succ, Option.join_some, false_and, or_false, false_or, exists_false, sp_wrapped, sp_moved, sp_ones, sp_field, sp_signed, sp_turned, sp_fld, sp_s, sp_deed, sp_nearof, sp_splitof, sp_two, sp_minit, sp_linit, sp_foundX, sp_storeX, sp_resultX, sp_doX, doSX, sp_goX, sp_sought, sp_goes, sp_state, sp_wordat, sp_whole, sp_cellat, sp_wordby, sp_lsplit, sp_lnear, sp_lsmall, sp_lacks, sp_made, sp_onward, sp_done, sp_lstate2, sp_lostat, sp_stays, sp_runs, sp_held, tDisp, tPairs, rSetL, gSub, Ends.nx, Nat.reduceSub, Nat.reduceAdd, reduceCtorEq, decide_true, decide_false, ↓reduceIte])))

section
variable {P : Program} {w : World} {K : PySem.W.Frag} {mg : Str → Option Value} {base : Heap} {A : Ad}
theorem G_wrapped (T : Txt K mg A) : FnOk P w K mg base CX0 1 A.wrapped A.fd_wrapped ["number"] sp_wrapped := by
  refine T.F_wrapped.ok sc_wrapped (fun vs H Q E h => ?_) (fun cdv Ar outer s H vs Q E hr h => ?_)
  · obtain ⟨c, rfl, _⟩ := h
    rfl
  · obtain ⟨c, rfl, k⟩ := h
    refine ⟨_, (pss_one (ps_ret (pe_op op_mod (pv 0) (pe_glob rfl T.g_WORD_COUNT relI)))), ?_⟩
    walk_at "rd"
    exact ⟨by decide, k⟩
theorem moved_dn {n u : Int} (h : u < 0) : n / 2 ^ (-u).toNat = K3.movedF n u := by
  rw [← K3.moved_down h, Int.fdiv_eq_ediv_of_nonneg _ (Int.le_of_lt (K3.pow_pos _))]
theorem G_moved (T : Txt K mg A) : FnOk P w K mg base CX0 1 A.moved A.fd_moved ["number", "up"] sp_moved := by
  refine T.F_moved.ok sc_moved (fun vs H Q E h => ?_) (fun cdv Ar outer s H vs Q E hr h => ?_)
  · obtain ⟨n, u, rfl, _⟩ := h
    rfl
  · obtain ⟨n, u, rfl, h1, h2, h3, k⟩ := h
    refine ⟨_, (pss_cons (ps_if (pt_cmpR op_lt (pv 1) pe_int (nomark _)) (pss_one (ps_ret (pe_op op_shr (pv 0) (pe_un un_neg (pv 1))))) pss_nil) (pss_one (ps_ret (pe_op op_shl (pv 0) (pv 1))))), ?_⟩
    walk_at "rd"
    refine ite2 (fun h => ?_) (fun h => ?_)
    · have h := of_decide_eq_true h
      rw [← moved_dn h] at k
      exact ⟨by omega, k⟩
    · have h : ¬ u < 0 := of_decide_eq_false (by simpa using h)
      rw [← K3.moved_up h] at k
      exact ⟨⟨by omega, by omega, by omega⟩, k⟩
theorem G_ones (T : Txt K mg A) : FnOk P w K mg base CX0 1 A.ones A.fd_ones ["many"] sp_ones := by
  refine T.F_ones.ok sc_ones (fun vs H Q E h => ?_) (fun cdv Ar outer s H vs Q E hr h => ?_)
  · obtain ⟨m, rfl, _⟩ := h
    rfl
  · obtain ⟨m, rfl, h1, h2, k⟩ := h
    refine ⟨_, (pss_one (ps_ret (pe_op op_sub (pe_op op_shl pe_int (pe_callB (call_max2 rfl) (by rfl) T.n_max bt_max (pa_cons (pv 0) (pa_cons pe_int pa_nil)))) pe_int))), ?_⟩
    walk_at "rd"
    rw [← K3.ones_eq (k := if 0 > m then 0 else m) (by split <;> omega)] at k
    exact ⟨⟨by split <;> omega, by split <;> omega, by decide⟩, k⟩
theorem G_field (T : Txt K mg A) : FnOk P w K mg base CX0 2 A.field A.fd_field ["word", "low", "many"] sp_field := by
  refine T.F_field.ok sc_field (fun vs H Q E h => ?_) (fun cdv Ar outer s H vs Q E hr h => ?_)
  · obtain ⟨a, l, m, rfl, _⟩ := h
    rfl
  · obtain ⟨a, l, m, rfl, h1, h2, h3, h4, h5, h6, k⟩ := h
    refine ⟨_, (pss_one (ps_ret (pe_op op_and (pe_call (G_moved T) (hr.mono (by decide)) rfl T.m_moved T.k_moved T.b_moved .nil pass0 (pa_cons (pv 0) (pa_cons (pe_un un_neg (pv 1)) pa_nil))) (pe_call (G_ones T) (hr.mono (by decide)) rfl T.m_ones T.k_ones T.b_ones .nil pass0 (pa_cons (pv 2) pa_nil))))), ?_⟩
    walk_at "rd"
    rw [← K3.field_eq rfl h3] at k
    exact ⟨h1, by omega, by omega, by omega, by omega, k⟩
theorem G_signed (T : Txt K mg A) : FnOk P w K mg base CX0 2 A.signed A.fd_signed ["number", "many"] sp_signed := by
  refine T.F_signed.ok sc_signed (fun vs H Q E h => ?_) (fun cdv Ar outer s H vs Q E hr h => ?_)
  · obtain ⟨n, m, rfl, _⟩ := h
    rfl
  · obtain ⟨n, m, rfl, h1, h2, k⟩ := h
    refine ⟨_, (pss_cons (ps_set (i := 2) sc_signed.nd rfl (by first | exact Or.inl rfl | exact Or.inr rfl) (pe_call (G_moved T) (hr.mono (by decide)) rfl T.m_moved T.k_moved T.b_moved .nil pass0 (pa_cons pe_int (pa_cons (pe_op op_sub (pv 1) pe_int) pa_nil)))) (pss_one (ps_ret (pe_op op_sub (pe_op op_and (pe_op op_add (pv 0) (pv 2)) (pe_call (G_ones T) (hr.mono (by decide)) rfl T.m_ones T.k_ones T.b_ones .nil pass0 (pa_cons (pv 1) pa_nil))) (pv 2))))), ?_⟩
    walk_at "rd"
    rw [← K3.signed_eq h1] at k
    exact ⟨by decide, by decide, by omega, by omega, by omega, k⟩

theorem G_turned (T : Txt K mg A) : FnOk P w K mg base CX0 2 A.turned A.fd_turned ["word", "by"] sp_turned := by
  refine T.F_turned.ok sc_turned (fun vs H Q E h => ?_) (fun cdv Ar outer s H vs Q E hr h => ?_)
  · obtain ⟨c, b, rfl, _⟩ := h
    rfl
  · obtain ⟨c, b, rfl, h1, h2, k⟩ := h
    refine ⟨_, (pss_cons (ps_set (i := 2) sc_turned.nd rfl (by first | exact Or.inl rfl | exact Or.inr rfl) (pe_op op_mod (pv 1) (pe_glob rfl T.g_WORD_BITS relI))) (pss_one (ps_ret (pe_call (G_wrapped T) (hr.mono (by decide)) rfl T.m_wrapped T.k_wrapped T.b_wrapped .nil pass0 (pa_cons (pe_op op_or (pe_op op_shr (pv 0) (pv 2)) (pe_op op_shl (pv 0) (pe_op op_sub (pe_glob rfl T.g_WORD_BITS relI) (pv 2)))) pa_nil))))), ?_⟩
    walk_at "rd"
    exact ⟨by decide, by omega, ⟨by omega, by omega, by omega⟩, k⟩
theorem G__law_whole (T : Txt K mg A) : FnOk P w K mg base CX0 1 A._law_whole A.fd__law_whole ["_law_found"] sp_whole := by
  refine T.F__law_whole.ok sc__law_whole (fun vs H Q E h => ?_) (fun cdv Ar outer s H vs Q E hr h => ?_)
  · obtain ⟨c, rfl, _⟩ := h
    rfl
  · obtain ⟨c, rfl, k⟩ := h
    refine ⟨_, (pss_one (ps_ret (pe_and (pe_callB (call_isiK (K := K) rfl) (by rfl) T.n_isinstance bt_isinstance (pa_cons (pv 0) (pa_cons (pe_bltn rfl T.n_int bt_int relT) pa_nil))) (pe_one (pe_not (pe_callB (call_isiK (K := K) rfl) (by rfl) T.n_isinstance bt_isinstance (pa_cons (pv 0) (pa_cons (pe_bltn rfl T.n_bool bt_bool relT) pa_nil)))))))), ?_⟩
    walk_at "rd"
    exact ⟨_, .int c, true, rfl, iteT ⟨_, .int c, false, rfl, k⟩⟩
theorem same_new {H : Hp} {p : Addr} {o : HO} (h : H p = none) : Same H (upd H p o) := fun b u e => by rw [upd_ne (ne_of_none e h)]; exact e
theorem same_upd {H0 H : Hp} {L : Addr} {o : HO} (h : H0 L = none) (e : Same H0 H) : Same H0 (upd H L o) := fun b u q => by rw [upd_ne (ne_of_none q h)]; exact e b u q
theorem same_no {H H' : Hp} {l : Addr} (e : Same H H') (h : H' l = none) : H l = none := by
  cases q : H l with
  | none => rfl
  | some o => rw [e _ _ q] at h; cases h
theorem atI_int {rs : List Int} {i : Int} (h0 : 0 ≤ i) (h1 : i < rs.length) : ∃ v : Int, atI (rs.map V.int) i = some (V.int v) ∧ rs.getD i.toNat 0 = v ∧ v ∈ rs := by
  have hi : i.toNat < rs.length := by omega
  have e : i = ((i.toNat : Nat) : Int) := by omega
  refine ⟨rs[i.toNat], ?_, by rw [List.getD_eq_getElem?_getD, List.getElem?_eq_getElem hi]; rfl, List.getElem_mem hi⟩
  have z : atI (rs.map V.int) ((i.toNat : Nat) : Int) = some (V.int rs[i.toNat]) := atI_nat (by rw [List.getElem?_map, List.getElem?_eq_getElem hi]; rfl)
  rw [← e] at z
  exact z
theorem Mach.mono {C : Addr} {H H' : Hp} {M : MM} {mem : List (Key × V)} {pl : Int} {rs ts : List Int} {en : Bool} (h : Mach C H M mem pl rs ts en) (e : Same H H') : Mach C H' M mem pl rs ts en := ⟨e _ _ h.top, e _ _ h.mem, e _ _ h.reg, e _ _ h.tol, h.nd⟩
theorem G_op_of (T : Txt K mg A) : FnOk P w K mg base CX0 3 A.op_of A.fd_op_of ["word"] (sp_fld 268435456 16) := by
  refine T.F_op_of.ok sc_op_of (fun vs H Q E h => ?_) (fun cdv Ar outer s H vs Q E hr h => ?_)
  · obtain ⟨a, rfl, _⟩ := h
    rfl
  · obtain ⟨a, rfl, h1, h2, k⟩ := h
    refine ⟨_, (pss_one (ps_ret (pe_call (G_field T) (hr.mono (by decide)) rfl T.m_field T.k_field T.b_field .nil pass0 (pa_cons (pv 0) (pa_cons pe_int (pa_cons pe_int pa_nil)))))), ?_⟩
    walk_at "rd"
    rw [← K3.field_at a 28 4 268435456 16 rfl rfl] at k
    exact ⟨h1, h2, by decide, by decide, by decide, by decide, k⟩
theorem G_a_of (T : Txt K mg A) : FnOk P w K mg base CX0 3 A.a_of A.fd_a_of ["word"] (sp_fld 33554432 8) := by
  refine T.F_a_of.ok sc_a_of (fun vs H Q E h => ?_) (fun cdv Ar outer s H vs Q E hr h => ?_)
  · obtain ⟨a, rfl, _⟩ := h
    rfl
  · obtain ⟨a, rfl, h1, h2, k⟩ := h
    refine ⟨_, (pss_one (ps_ret (pe_call (G_field T) (hr.mono (by decide)) rfl T.m_field T.k_field T.b_field .nil pass0 (pa_cons (pv 0) (pa_cons pe_int (pa_cons pe_int pa_nil)))))), ?_⟩
    walk_at "rd"
    rw [← K3.field_at a 25 3 33554432 8 rfl rfl] at k
    exact ⟨h1, h2, by decide, by decide, by decide, by decide, k⟩
theorem G_b_of (T : Txt K mg A) : FnOk P w K mg base CX0 3 A.b_of A.fd_b_of ["word"] (sp_fld 4194304 8) := by
  refine T.F_b_of.ok sc_b_of (fun vs H Q E h => ?_) (fun cdv Ar outer s H vs Q E hr h => ?_)
  · obtain ⟨a, rfl, _⟩ := h
    rfl
  · obtain ⟨a, rfl, h1, h2, k⟩ := h
    refine ⟨_, (pss_one (ps_ret (pe_call (G_field T) (hr.mono (by decide)) rfl T.m_field T.k_field T.b_field .nil pass0 (pa_cons (pv 0) (pa_cons pe_int (pa_cons pe_int pa_nil)))))), ?_⟩
    walk_at "rd"
    rw [← K3.field_at a 22 3 4194304 8 rfl rfl] at k
    exact ⟨h1, h2, by decide, by decide, by decide, by decide, k⟩
theorem G_c_of (T : Txt K mg A) : FnOk P w K mg base CX0 3 A.c_of A.fd_c_of ["word"] (sp_fld 524288 8) := by
  refine T.F_c_of.ok sc_c_of (fun vs H Q E h => ?_) (fun cdv Ar outer s H vs Q E hr h => ?_)
  · obtain ⟨a, rfl, _⟩ := h
    rfl
  · obtain ⟨a, rfl, h1, h2, k⟩ := h
    refine ⟨_, (pss_one (ps_ret (pe_call (G_field T) (hr.mono (by decide)) rfl T.m_field T.k_field T.b_field .nil pass0 (pa_cons (pv 0) (pa_cons pe_int (pa_cons pe_int pa_nil)))))), ?_⟩
    walk_at "rd"
    rw [← K3.field_at a 19 3 524288 8 rfl rfl] at k
    exact ⟨h1, h2, by decide, by decide, by decide, by decide, k⟩
theorem G_n_of (T : Txt K mg A) : FnOk P w K mg base CX0 3 A.n_of A.fd_n_of ["word"] (sp_fld 1 65536) := by
  refine T.F_n_of.ok sc_n_of (fun vs H Q E h => ?_) (fun cdv Ar outer s H vs Q E hr h => ?_)
  · obtain ⟨a, rfl, _⟩ := h
    rfl
  · obtain ⟨a, rfl, h1, h2, k⟩ := h
    refine ⟨_, (pss_one (ps_ret (pe_call (G_field T) (hr.mono (by decide)) rfl T.m_field T.k_field T.b_field .nil pass0 (pa_cons (pv 0) (pa_cons pe_int (pa_cons pe_int pa_nil)))))), ?_⟩
    walk_at "rd"
    rw [← K3.field_at a 0 16 1 65536 rfl rfl] at k
    exact ⟨h1, h2, by decide, by decide, by decide, by decide, k⟩
theorem G_s_of (T : Txt K mg A) : FnOk P w K mg base CX0 4 A.s_of A.fd_s_of ["word"] sp_s := by
  refine T.F_s_of.ok sc_s_of (fun vs H Q E h => ?_) (fun cdv Ar outer s H vs Q E hr h => ?_)
  · obtain ⟨a, rfl, _⟩ := h
    rfl
  · obtain ⟨a, rfl, h1, h2, k⟩ := h
    refine ⟨_, (pss_one (ps_ret (pe_call (G_signed T) (hr.mono (by decide)) rfl T.m_signed T.k_signed T.b_signed .nil pass0 (pa_cons (pe_call (G_n_of T) (hr.mono (by decide)) rfl T.m_n_of T.k_n_of T.b_n_of .nil pass0 (pa_cons (pv 0) pa_nil)) (pa_cons pe_int pa_nil))))), ?_⟩
    walk_at "rd"
    refine ⟨h1, h2, by decide, by decide, ?_⟩
    have e := K3.sg_at (a / 1 % 65536) 15 32768 65536 rfl rfl
    have e' : K3.sg (a / 1 % 65536) 16 = (a / 1 % 65536 + 32768) % 65536 - 32768 := e
    rw [e', Int.ediv_one]
    exact k
theorem stor {H0 H : Hp} {x : Addr} {o : HO} (fr : ∀ b o, b ≠ x → H0 b = some o → H b = some o) : ∀ b u, b ≠ x → H0 b = some u → upd H x o b = some u := fun b u n e => by rw [upd_ne n]; exact fr b u n e
theorem G_Machine___init__ (T : Txt K mg A) : FnOk P w K mg base CX0 2 A.Machine___init__ A.fd_Machine___init__ ["self", "memory", "start", "registers"] (sp_minit A.c_Machine) := by
  refine T.F_Machine___init__.ok sc_Machine___init__ (fun vs H Q E h => ?_) (fun cdv Ar outer s H vs Q E hr h => ?_)
  · obtain ⟨x, dx, d, l, mem, pl, rs, rfl, _⟩ := h
    rfl
  · obtain ⟨x, dx, d, l, mem, pl, rs, rfl, hx, hd, hl, hn, hp0, hp1, k⟩ := h
    refine ⟨_, (pss_cons (ps_fld (pv 0) (pe_callTy call_dictOf (by rfl) T.n_dict bt_dict (pa_cons (pv 1) pa_nil)) rfl) (pss_cons (ps_fld (pv 0) (pe_call (G_wrapped T) (hr.mono (by decide)) rfl T.m_wrapped T.k_wrapped T.b_wrapped .nil pass0 (pa_cons (pv 2) pa_nil)) rfl) (pss_cons (ps_fld (pv 0) (pe_callTy (call_list_ofK (K := K) rfl) (by rfl) T.n_list bt_list (pa_cons (pv 3) pa_nil)) rfl) (pss_cons (ps_fld (pv 0) (pe_lst pa_nil) rfl) (pss_one (ps_fld (pv 0) pe_bl rfl)))))), ?_⟩
    walk_at "rd"
    rw [Int.emod_eq_of_lt hp0 (by omega)]
    refine ⟨_, hd, fun q hq => ?_⟩
    have s1 := same_new (o := HO.dK mem) hq
    have hqq : upd H q (HO.dK mem) q = some (HO.dK mem) := upd_same
    have fr1 : ∀ b o, b ≠ x → H b = some o → upd H q (HO.dK mem) b = some o := fun b o _ e => s1 b o e
    have hx1 := s1 _ _ hx
    generalize upd H q (HO.dK mem) = H1 at *
    have nq : q ≠ x := Ne.symm (ne_of hx1 hqq (by intro z; cases z))
    refine ⟨_, _, _, hx1, T.cl_Machine, T.no_Machine_memory, by show 0 < 1000; decide, _, _, _, upd_same, T.cl_Machine, T.no_Machine_place, by show 1 < 1000; decide, ?_⟩
    rw [upd_upd]
    have st2 := stor (o := HO.ins A.c_Machine dx (putF (Str.ofString "place") (V.int pl) (putF (Str.ofString "memory") (V.ref q) []))) fr1
    have hq2 : upd H1 x (HO.ins A.c_Machine dx (putF (Str.ofString "place") (V.int pl) (putF (Str.ofString "memory") (V.ref q) []))) q = some (HO.dK mem) := by rw [upd_ne nq]; exact hqq
    have hx2 : upd H1 x (HO.ins A.c_Machine dx (putF (Str.ofString "place") (V.int pl) (putF (Str.ofString "memory") (V.ref q) []))) x = some (HO.ins A.c_Machine dx (putF (Str.ofString "place") (V.int pl) (putF (Str.ofString "memory") (V.ref q) []))) := upd_same
    generalize upd H1 x (HO.ins A.c_Machine dx (putF (Str.ofString "place") (V.int pl) (putF (Str.ofString "memory") (V.ref q) []))) = H2 at *
    have nl : l ≠ x := fun z => by rw [z, hx] at hl; cases hl
    refine ⟨_, .inl (SqL.of (st2 l _ nl hl)), fun r hr => ?_⟩
    have s3 := same_new (o := HO.lst (rs.map V.int)) hr
    have hrr : upd H2 r (HO.lst (rs.map V.int)) r = some (HO.lst (rs.map V.int)) := upd_same
    generalize upd H2 r (HO.lst (rs.map V.int)) = H3 at *
    have nr : r ≠ x := fun z => by rw [z, hx2] at hr; cases hr
    refine ⟨_, _, _, s3 _ _ hx2, T.cl_Machine, T.no_Machine_registers, by show 2 < 1000; decide, Nat.zero_le _, fun p hp => ?_⟩
    have st4 := stor (o := HO.ins A.c_Machine dx (putF (Str.ofString "registers") (V.ref r) (putF (Str.ofString "place") (V.int pl) (putF (Str.ofString "memory") (V.ref q) [])))) (fun b o n e => s3 b o (st2 b o n e))
    have hx4 : upd H3 x (HO.ins A.c_Machine dx (putF (Str.ofString "registers") (V.ref r) (putF (Str.ofString "place") (V.int pl) (putF (Str.ofString "memory") (V.ref q) [])))) x = some (HO.ins A.c_Machine dx (putF (Str.ofString "registers") (V.ref r) (putF (Str.ofString "place") (V.int pl) (putF (Str.ofString "memory") (V.ref q) [])))) := upd_same
    have hq4 : upd H3 x (HO.ins A.c_Machine dx (putF (Str.ofString "registers") (V.ref r) (putF (Str.ofString "place") (V.int pl) (putF (Str.ofString "memory") (V.ref q) [])))) q = some (HO.dK mem) := by rw [upd_ne nq]; exact s3 _ _ hq2
    have hr4 : upd H3 x (HO.ins A.c_Machine dx (putF (Str.ofString "registers") (V.ref r) (putF (Str.ofString "place") (V.int pl) (putF (Str.ofString "memory") (V.ref q) [])))) r = some (HO.lst (rs.map V.int)) := by rw [upd_ne nr]; exact hrr
    generalize upd H3 x (HO.ins A.c_Machine dx (putF (Str.ofString "registers") (V.ref r) (putF (Str.ofString "place") (V.int pl) (putF (Str.ofString "memory") (V.ref q) [])))) = H4 at *
    have s5 := same_new (o := HO.lst []) hp
    have hpp : upd H4 p (HO.lst []) p = some (HO.lst []) := upd_same
    generalize upd H4 p (HO.lst []) = H5 at *
    have np : p ≠ x := fun z => by rw [z, hx4] at hp; cases hp
    refine ⟨_, _, _, s5 _ _ hx4, T.cl_Machine, T.no_Machine_numbers, by show 3 < 1000; decide, _, _, _, upd_same, T.cl_Machine, T.no_Machine_ended, by show 4 < 1000; decide, ?_⟩
    rw [upd_upd]
    have nrp : r ≠ p := ne_of_none hr4 hp
    refine k ⟨x, dx, q, r, p⟩ _ rfl rfl (stor fun b o n e => s5 b o (st4 b o n e)) ⟨upd_same, by rw [upd_ne nq]; exact s5 _ _ hq4, by rw [upd_ne nr]; exact s5 _ _ hr4, by rw [upd_ne np]; exact hpp, nrp⟩ hq ?_ ?_
    · show H r = none
      cases e : H r with
      | none => rfl
      | some o => rw [st2 r o nr e] at hr; cases hr
    · show H p = none
      cases e : H p with
      | none => rfl
      | some o => rw [st4 p o np e] at hp; cases hp
theorem deed_is {w : Int} (j : Nat) (hj : j < 16) {t : Str} (ht : deedN j = t) : (dW w = t) ↔ opW w = j := by
  have key : ∀ i : Fin 16, ∀ j : Fin 16, deedN i.1 = deedN j.1 → i = j := by decide +kernel
  have hi : (opW w).toNat < 16 := by unfold opW; omega
  have h0 : 0 ≤ opW w := by unfold opW; omega
  constructor
  · intro h
    have e := key ⟨_, hi⟩ ⟨j, hj⟩ (h.trans ht.symm)
    have e := congrArg Fin.val e
    dsimp only at e
    omega
  · intro h
    rw [← ht]
    unfold dW
    rw [h]
    rfl
theorem d0 {w : Int} : dW w = Str.ofString "end" ↔ opW w = 0 := deed_is 0 (by decide) rfl
theorem d1 {w : Int} : dW w = Str.ofString "tell" ↔ opW w = 1 := deed_is 1 (by decide) rfl
theorem d2 {w : Int} : dW w = Str.ofString "put" ↔ opW w = 2 := deed_is 2 (by decide) rfl
theorem d3 {w : Int} : dW w = Str.ofString "high" ↔ opW w = 3 := deed_is 3 (by decide) rfl
theorem d4 {w : Int} : dW w = Str.ofString "add" ↔ opW w = 4 := deed_is 4 (by decide) rfl
theorem d5 {w : Int} : dW w = Str.ofString "load" ↔ opW w = 5 := deed_is 5 (by decide) rfl
theorem d6 {w : Int} : dW w = Str.ofString "store" ↔ opW w = 6 := deed_is 6 (by decide) rfl
theorem d7 {w : Int} : dW w = Str.ofString "sum" ↔ opW w = 7 := deed_is 7 (by decide) rfl
theorem d8 {w : Int} : dW w = Str.ofString "less" ↔ opW w = 8 := deed_is 8 (by decide) rfl
theorem d9 {w : Int} : dW w = Str.ofString "both" ↔ opW w = 9 := deed_is 9 (by decide) rfl
theorem d10 {w : Int} : dW w = Str.ofString "odd" ↔ opW w = 10 := deed_is 10 (by decide) rfl
theorem d12 {w : Int} : dW w = Str.ofString "same" ↔ opW w = 12 := deed_is 12 (by decide) rfl
theorem d13 {w : Int} : dW w = Str.ofString "under" ↔ opW w = 13 := deed_is 13 (by decide) rfl
theorem d14 {w : Int} : dW w = Str.ofString "call" ↔ opW w = 14 := deed_is 14 (by decide) rfl
theorem d15 {w : Int} : dW w = Str.ofString "go" ↔ opW w = 15 := deed_is 15 (by decide) rfl
theorem G_deed_of (T : Txt K mg A) : FnOk P w K mg base CX0 4 A.deed_of A.fd_deed_of ["word"] sp_deed := by
  refine T.F_deed_of.ok sc_deed_of (fun vs H Q E h => ?_) (fun cdv Ar outer s H vs Q E hr h => ?_)
  · obtain ⟨a, rfl, _⟩ := h
    rfl
  · obtain ⟨a, rfl, h1, h2, k⟩ := h
    refine ⟨_, (pss_one (ps_ret (pe_ix (ix_tupK (K := K) rfl) (pe_glob (v := .ref A.o_DEEDS) rfl T.g_DEEDS rfl) (pe_call (G_op_of T) (hr.mono (by decide)) rfl T.m_op_of T.k_op_of T.b_op_of .nil pass0 (pa_cons (pv 0) pa_nil)) (fun _ _ => rfl)))), ?_⟩
    walk_at "rd"
    refine ⟨h1, h2, _, T.q_DEEDS H, _, ?_, k⟩
    have key : ∀ i : Fin 16, atI [V.str (Str.ofString "end"), V.str (Str.ofString "tell"), V.str (Str.ofString "put"), V.str (Str.ofString "high"), V.str (Str.ofString "add"), V.str (Str.ofString "load"), V.str (Str.ofString "store"), V.str (Str.ofString "sum"), V.str (Str.ofString "less"), V.str (Str.ofString "both"), V.str (Str.ofString "odd"), V.str (Str.ofString "turn"), V.str (Str.ofString "same"), V.str (Str.ofString "under"), V.str (Str.ofString "call"), V.str (Str.ofString "go")] (i.1 : Int) = some (V.str (deedN i.1)) := fun i => by
      refine atI_nat ?_
      obtain ⟨i, hi⟩ := i
      have : i = 0 ∨ i = 1 ∨ i = 2 ∨ i = 3 ∨ i = 4 ∨ i = 5 ∨ i = 6 ∨ i = 7 ∨ i = 8 ∨ i = 9 ∨ i = 10 ∨ i = 11 ∨ i = 12 ∨ i = 13 ∨ i = 14 ∨ i = 15 := by omega
      rcases this with rfl | rfl | rfl | rfl | rfl | rfl | rfl | rfl | rfl | rfl | rfl | rfl | rfl | rfl | rfl | rfl <;> rfl
    have e : a / 268435456 % 16 = (((opW a).toNat : Nat) : Int) := by unfold opW; omega
    rw [e]
    exact key ⟨(opW a).toNat, by unfold opW; omega⟩
theorem G_near_of (T : Txt K mg A) : FnOk P w K mg base CX0 3 A.near_of A.fd_near_of ["word"] sp_nearof := by
  refine T.F_near_of.ok sc_near_of (fun vs H Q E h => ?_) (fun cdv Ar outer s H vs Q E hr h => ?_)
  · obtain ⟨a, rfl, _⟩ := h
    rfl
  · obtain ⟨a, rfl, h1, h2, k⟩ := h
    refine ⟨_, (pss_one (ps_ret (pe_call (G_signed T) (hr.mono (by decide)) rfl T.m_signed T.k_signed T.b_signed .nil pass0 (pa_cons (pe_call (G_field T) (hr.mono (by decide)) rfl T.m_field T.k_field T.b_field .nil pass0 (pa_cons (pv 0) (pa_cons pe_int (pa_cons pe_int pa_nil)))) (pa_cons pe_int pa_nil))))), ?_⟩
    walk_at "rd"
    have f := K3.field_at a 0 19 1 524288 rfl rfl
    have e := K3.sg_at (a / 1 % 524288) 18 262144 524288 rfl rfl
    have e' : K3.sg (a / 1 % 524288) 19 = (a / 1 % 524288 + 262144) % 524288 - 262144 := e
    refine ⟨h1, h2, by decide, by decide, by decide, by decide, by decide, by decide, ?_⟩
    have f : K3.fieldF a 0 19 = a / 1 % 524288 := f
    rw [f, e', Int.ediv_one]
    exact k
theorem G_split_of (T : Txt K mg A) : FnOk P w K mg base CX0 3 A.split_of A.fd_split_of ["word"] sp_splitof := by
  refine T.F_split_of.ok sc_split_of (fun vs H Q E h => ?_) (fun cdv Ar outer s H vs Q E hr h => ?_)
  · obtain ⟨a, rfl, _⟩ := h
    rfl
  · obtain ⟨a, rfl, h1, h2, k⟩ := h
    refine ⟨_, (pss_one (ps_ret (pe_call (G_signed T) (hr.mono (by decide)) rfl T.m_signed T.k_signed T.b_signed .nil pass0 (pa_cons (pe_op op_add (pe_call (G_field T) (hr.mono (by decide)) rfl T.m_field T.k_field T.b_field .nil pass0 (pa_cons (pv 0) (pa_cons pe_int (pa_cons pe_int pa_nil)))) (pe_op op_mul pe_int (pe_call (G_field T) (hr.mono (by decide)) rfl T.m_field T.k_field T.b_field .nil pass0 (pa_cons (pv 0) (pa_cons pe_int (pa_cons pe_int pa_nil)))))) (pa_cons pe_int pa_nil))))), ?_⟩
    walk_at "rd"
    have f1 : K3.fieldF a 0 7 = a / 1 % 128 := K3.field_at a 0 7 1 128 rfl rfl
    have f2 : K3.fieldF a 14 5 = a / 16384 % 32 := K3.field_at a 14 5 16384 32 rfl rfl
    refine ⟨h1, h2, by decide, by decide, by decide, by decide, h1, h2, by decide, by decide, by decide, by decide, .inl ⟨by decide, by decide⟩, by decide, by decide, ?_⟩
    rw [f1, f2, Int.ediv_one]
    have e : K3.sg (a % 128 + 128 * (a / 16384 % 32)) 12 = (a % 128 + 128 * (a / 16384 % 32) + 2048) % 4096 - 2048 := K3.sg_at _ 11 2048 4096 rfl rfl
    rw [e]
    exact k
theorem G_of_two_words (T : Txt K mg A) : FnOk P w K mg base CX0 3 A.of_two_words A.fd_of_two_words ["deed", "first", "second"] sp_two := by
  refine T.F_of_two_words.ok sc_of_two_words (fun vs H Q E h => ?_) (fun cdv Ar outer s H vs Q E hr h => ?_)
  · obtain ⟨word, one, other, rfl, _⟩ := h
    rfl
  · obtain ⟨word, one, other, rfl, ho, h1, h2, k⟩ := h
    refine ⟨_, (pss_cons (ps_if (pt_cmpR op_eq (pv 0) pe_str (nomark _)) (pss_one (ps_ret (pe_call (G_wrapped T) (hr.mono (by decide)) rfl T.m_wrapped T.k_wrapped T.b_wrapped .nil pass0 (pa_cons (pe_op op_add (pv 1) (pv 2)) pa_nil)))) pss_nil) (pss_cons (ps_if (pt_cmpR op_eq (pv 0) pe_str (nomark _)) (pss_one (ps_ret (pe_call (G_wrapped T) (hr.mono (by decide)) rfl T.m_wrapped T.k_wrapped T.b_wrapped .nil pass0 (pa_cons (pe_op op_sub (pv 1) (pv 2)) pa_nil)))) pss_nil) (pss_cons (ps_if (pt_cmpR op_eq (pv 0) pe_str (nomark _)) (pss_one (ps_ret (pe_op op_and (pv 1) (pv 2)))) pss_nil) (pss_cons (ps_if (pt_cmpR op_eq (pv 0) pe_str (nomark _)) (pss_one (ps_ret (pe_op op_xor (pv 1) (pv 2)))) pss_nil) (pss_one (ps_ret (pe_call (G_turned T) (hr.mono (by decide)) rfl T.m_turned T.k_turned T.b_turned .nil pass0 (pa_cons (pv 1) (pa_cons (pv 2) pa_nil))))))))), ?_⟩
    walk_at "rd"
    unfold isTwo at ho
    unfold dueE at k
    rw [if_neg (by omega), if_neg (by omega), if_neg (by omega)] at k
    refine ite2 (fun h => ?_) (fun h => ?_)
    · rw [if_pos (d7.mp (of_decide_eq_true h))] at k; exact k
    rw [if_neg (fun z => h (decide_eq_true (d7.mpr z)))] at k
    refine ite2 (fun h => ?_) (fun h => ?_)
    · rw [if_pos (d8.mp (of_decide_eq_true h))] at k; exact k
    rw [if_neg (fun z => h (decide_eq_true (d8.mpr z)))] at k
    refine ite2 (fun h => ?_) (fun h => ?_)
    · rw [if_pos (d9.mp (of_decide_eq_true h))] at k; exact k
    rw [if_neg (fun z => h (decide_eq_true (d9.mpr z)))] at k
    refine ite2 (fun h => ?_) (fun h => ?_)
    · rw [if_pos (d10.mp (of_decide_eq_true h))] at k; exact k
    rw [if_neg (fun z => h (decide_eq_true (d10.mpr z)))] at k
    exact ⟨h1, h2, k⟩
theorem reg_at {C : Addr} {H : Hp} {M : MM} {mem : List (Key × V)} {pl : Int} {rs ts : List Int} {en : Bool} {word : Int} (r : Rdy C H M mem pl rs ts en word) (d : Int) : atI (rs.map V.int) (word / d % 8) = some (V.int (rs.getD (regW word d) 0)) ∧ 0 ≤ rs.getD (regW word d) 0 ∧ rs.getD (regW word d) 0 ≤ 4294967295 := by
  have hl := r.len
  obtain ⟨v, e, g, m⟩ := atI_int (rs := rs) (i := word / d % 8) (by omega) (by omega)
  have g : rs.getD (regW word d) 0 = v := g
  rw [g]
  exact ⟨e, r.ws v m⟩
theorem G_Machine_sought (T : Txt K mg A) : FnOk P w K mg base CX0 5 A.Machine_sought A.fd_Machine_sought ["self", "word"] (sp_sought A.c_Machine) := by
  refine T.F_Machine_sought.ok sc_Machine_sought (fun vs H Q E h => ?_) (fun cdv Ar outer s H vs Q E hr h => ?_)
  · obtain ⟨M, mem, pl, word, rs, ts, en, rfl, _⟩ := h
    rfl
  · obtain ⟨M, mem, pl, word, rs, ts, en, rfl, r, k⟩ := h
    refine ⟨_, (pss_one (ps_ret (pe_call (G_wrapped T) (hr.mono (by decide)) rfl T.m_wrapped T.k_wrapped T.b_wrapped .nil pass0 (pa_cons (pe_op op_add (pe_ix (ix_listK (K := K) rfl) (pe_fld (pv 0) rfl) (pe_call (G_b_of T) (hr.mono (by decide)) rfl T.m_b_of T.k_b_of T.b_b_of .nil pass0 (pa_cons (pv 1) pa_nil)) (fun _ _ => rfl)) (pe_call (G_s_of T) (hr.mono (by decide)) rfl T.m_s_of T.k_s_of T.b_s_of .nil pass0 (pa_cons (pv 1) pa_nil))) pa_nil)))), ?_⟩
    walk_at "rd"
    obtain ⟨e, _⟩ := reg_at r 4194304
    exact ⟨_, _, _, r.mach.top, T.cl_Machine, T.no_Machine_registers, _, rfl, r.w0, r.w1, _, rfl, _, SqL.of r.mach.reg, _, e, r.w0, r.w1, _, rfl, k⟩
theorem G_Machine_goes (T : Txt K mg A) : FnOk P w K mg base CX0 4 A.Machine_goes A.fd_Machine_goes ["self", "deed", "word"] (sp_goes A.c_Machine) := by
  refine T.F_Machine_goes.ok sc_Machine_goes (fun vs H Q E h => ?_) (fun cdv Ar outer s H vs Q E hr h => ?_)
  · obtain ⟨M, mem, pl, word, rs, ts, en, rfl, _⟩ := h
    rfl
  · obtain ⟨M, mem, pl, word, rs, ts, en, rfl, r, ho, k⟩ := h
    refine ⟨_, (pss_cons (ps_set (i := 3) sc_Machine_goes.nd rfl (by first | exact Or.inl rfl | exact Or.inr rfl) (pe_ix (ix_listK (K := K) rfl) (pe_fld (pv 0) rfl) (pe_call (G_a_of T) (hr.mono (by decide)) rfl T.m_a_of T.k_a_of T.b_a_of .nil pass0 (pa_cons (pv 2) pa_nil)) (fun _ _ => rfl))) (pss_cons (ps_set (i := 4) sc_Machine_goes.nd rfl (by first | exact Or.inl rfl | exact Or.inr rfl) (pe_ix (ix_listK (K := K) rfl) (pe_fld (pv 0) rfl) (pe_call (G_b_of T) (hr.mono (by decide)) rfl T.m_b_of T.k_b_of T.b_b_of .nil pass0 (pa_cons (pv 2) pa_nil)) (fun _ _ => rfl))) (pss_one (ps_ret (pe_ifExp (pt_cmpR op_eq (pv 1) pe_str (nomark _)) (pe_cmpR op_eq (pv 3) (pv 4) (nomark _)) (pe_cmpR op_lt (pv 3) (pv 4) (nomark _))))))), ?_⟩
    walk_at "rd"
    obtain ⟨e1, _⟩ := reg_at r 33554432
    obtain ⟨e2, _⟩ := reg_at r 4194304
    refine ⟨_, _, _, r.mach.top, T.cl_Machine, T.no_Machine_registers, _, rfl, r.w0, r.w1, _, rfl, _, SqL.of r.mach.reg, _, e1, _, _, _, r.mach.top, T.cl_Machine, T.no_Machine_registers, _, rfl, r.w0, r.w1, _, rfl, _, SqL.of r.mach.reg, _, e2, ite2 (fun h => ⟨rfl, ?_⟩) (fun h => ⟨_, rfl, _, rfl, ?_⟩)⟩
    · unfold goesB at k
      rw [if_pos (d12.mp (of_decide_eq_true h))] at k
      have e : decide (V.int (rs.getD (regW word 33554432) 0) = V.int (rs.getD (regW word 4194304) 0)) = decide (regA rs word = regB rs word) := by simp [regA, regB]
      rw [e]
      exact k
    · unfold goesB at k
      rw [if_neg (fun z => h (decide_eq_true (d12.mpr z)))] at k
      exact k
theorem Mach.place {C : Addr} {H H' : Hp} {M : MM} {mem : List (Key × V)} {pl pl' : Int} {rs ts : List Int} {en en' : Bool} (m : Mach C H M mem pl rs ts en) (h : H' M.x = some (.ins C M.dx (M.fs pl' en'))) (e : ∀ b o, b ≠ M.x → H b = some o → H' b = some o) : Mach C H' M mem pl' rs ts en' :=
  ⟨h, e _ _ (ne_of m.mem m.top (by intro z; cases z)) m.mem, e _ _ (ne_of m.reg m.top (by intro z; cases z)) m.reg, e _ _ (ne_of m.tol m.top (by intro z; cases z)) m.tol, m.nd⟩
theorem Mach.regs {C : Addr} {H : Hp} {M : MM} {mem : List (Key × V)} {pl : Int} {rs rs' ts : List Int} {en : Bool} (m : Mach C H M mem pl rs ts en) : Mach C (upd H M.ar (.lst (rs'.map V.int))) M mem pl rs' ts en :=
  ⟨by rw [upd_ne (ne_of m.top m.reg (by intro z; cases z))]; exact m.top, by rw [upd_ne (ne_of m.mem m.reg (by intro z; cases z))]; exact m.mem, upd_same, by rw [upd_ne (Ne.symm m.nd)]; exact m.tol, m.nd⟩
theorem Mach.tells {C : Addr} {H : Hp} {M : MM} {mem : List (Key × V)} {pl : Int} {rs ts ts' : List Int} {en : Bool} (m : Mach C H M mem pl rs ts en) : Mach C (upd H M.at_ (.lst (ts'.map V.int))) M mem pl rs ts' en :=
  ⟨by rw [upd_ne (ne_of m.top m.tol (by intro z; cases z))]; exact m.top, by rw [upd_ne (ne_of m.mem m.tol (by intro z; cases z))]; exact m.mem, by rw [upd_ne m.nd]; exact m.reg, upd_same, m.nd⟩
theorem log_ok {n : Int} (h0 : 0 ≤ n) (h1 : n ≤ 4294967295) : n.natAbs.log2 < 1920 := by
  by_cases hz : n.natAbs = 0
  · rw [hz]; decide
  · have := (Nat.log2_lt (n := n.natAbs) (k := 40) hz).mpr (by omega)
    omega
theorem num_len10 {n : Int} (h0 : 0 ≤ n) (h1 : n ≤ 4294967295) : (Str.ofString (toString n)).length ≤ 12 := by
  have z : (PySem.Str.ofString (toString n)).length ≤ 10 := by open PySem PySem.W PyProof.Rows in exact toString_length_le h0 (by decide) (by omega)
  omega
theorem G_Lost___init__ (T : Txt K mg A) : FnOk P w K mg base CX0 1 A.Lost___init__ A.fd_Lost___init__ ["self", "place"] (sp_linit A) := by
  refine T.F_Lost___init__.ok sc_Lost___init__ (fun vs H Q E h => ?_) (fun cdv Ar outer s H vs Q E hr h => ?_)
  · obtain ⟨a, p, rfl, _⟩ := h
    rfl
  · obtain ⟨a, p, rfl, ha, hp0, hp1, k⟩ := h
    refine ⟨_, (pss_cons (ps_expr (pe_xinit rfl T.mc_JoinError T.bi_JoinError (pa_cons (pv 0) (pa_cons (pe_joined (pj_cons pe_str (pj_cons (pe_fmt (pv 1)) pj_nil))) pa_nil)))) (pss_one (ps_xfld (pv 0) (pv 1) rfl))), ?_⟩
    walk_at "rd"
    have l1 := num_len10 hp0 hp1
    have l0 : Str.empty.length = 0 := rfl
    have l3 : (Str.ofString "no word at ").length = 11 := by decide +kernel
    have sz : ∀ m : Nat, m ≤ 400 → m ≤ sizeLine := fun m h => by rw [sizeLine_eq]; omega
    refine ⟨sz _ (by rw [slen]; omega), log_ok hp0 hp1, sz _ (by rw [slen, slen]; omega), sz _ (by rw [slen, slen]; omega), A.c_Lost, none, ha, A.Lost___init__, T.er_Lost, sz _ (by decide), A.c_Lost, A.Lost___init__, none, ha, T.er_Lost, T.no_Lost_place, .inl ⟨rfl, fun d hd => ?_⟩⟩
    have hne : d ≠ a := Ne.symm (ne_of_none ha hd)
    refine k d _ hd hne (fun b o hb q => ?_) upd_same ?_
    · rw [upd_ne hb, upd_ne (ne_of_none q hd)]; exact q
    · rw [upd_ne hne, upd_same]
theorem free_of {H : Hp} {p q : Addr} {o : HO} (h : upd H p o q = none) : q ≠ p ∧ H q = none := by
  have n : q ≠ p := fun e => by rw [e, upd_same] at h; cases h
  exact ⟨n, by rw [upd_ne n] at h; exact h⟩
theorem G_Machine_found (T : Txt K mg A) : FnOk P w K mg base (CXE P w) 3 A.Machine_found A.fd_Machine_found ["self", "place"] (sp_foundX A) := by
  refine T.F_Machine_found.okE sc_Machine_found (fun vs H Q E h => ?_) (fun cdv Ar outer s H vs Q E hr h => ?_)
  · obtain ⟨M, mem, pl, p, rs, ts, en, rfl, _⟩ := h
    rfl
  · obtain ⟨M, mem, pl, p, rs, ts, en, rfl, m, hp0, hp1, k1, k2⟩ := h
    refine ⟨_, (pss_cons (ps_if (pt_cmp (pc_dnotin (hu_of hr) (pv 1) (pe_fld (pv 0) rfl))) (pss_one (ps_raiseI (G_Lost___init__ T) (hr.mono (by decide)) T.b_Lost___init__ T.er_Lost rfl T.mc_Lost rfl xe_cx (pa_cons (pv 1) pa_nil))) pss_nil) (pss_one (ps_ret (pe_dget (hu_of hr) (pe_fld (pv 0) rfl) (pv 1) (fun _ _ => rfl))))), ?_⟩
    walk_at "rd"
    have g : DGet H M.am (V.int p) (valV mem (.inl p)) := DGet.k (k := Sum.inl p) m.mem
    refine ⟨_, _, _, m.top, T.cl_Machine, T.no_Machine_memory, _, rfl, _, rfl, _, g, ?_⟩
    cases hv : valV mem (.inl p) with
    | some v =>
      rw [hv] at g
      rw [if_neg (by simp)]
      exact ⟨_, _, _, m.top, T.cl_Machine, T.no_Machine_memory, _, rfl, _, rfl, _, g, k1 v hv⟩
    | none =>
      rw [if_pos (by simp)]
      refine ⟨by rw [sizeLine_eq]; decide, fun x hx => ⟨upd_same, hp0, hp1, fun d H' hd hne hk hx' hd' => .inr ⟨d, hne, hx', _, hd', k2 hv d _ (fun b o q => ?_) ?_⟩⟩⟩
      · have hb := ne_of_none q hx
        have hdn := (free_of hd).2
        rw [del_ne hb, upd_ne (ne_of_none q hdn)]
        exact hk b o hb (by rw [upd_ne hb]; exact q)
      · rw [del_ne hne, upd_same]; rfl
theorem G_Machine_store (T : Txt K mg A) : FnOk P w K mg base (CXE P w) 4 A.Machine_store A.fd_Machine_store ["self", "place", "word"] (sp_storeX A) := by
  refine T.F_Machine_store.okE sc_Machine_store (fun vs H Q E h => ?_) (fun cdv Ar outer s H vs Q E hr h => ?_)
  · obtain ⟨M, mem, pl, p, v, rs, ts, en, rfl, _⟩ := h
    rfl
  · obtain ⟨M, mem, pl, p, v, rs, ts, en, rfl, m, hp0, hp1, hl, k1, k2⟩ := h
    refine ⟨_, (pss_cons (ps_expr (pe_meth (pv 0) T.cl_Machine T.me_Machine_found (G_Machine_found T) (hr.mono (by decide)) T.b_Machine_found .nil (passesE xe_cx) (pa_cons (pv 1) pa_nil))) (pss_one (ps_dput (hu_of hr) (pe_fld (pv 0) rfl) (pv 1) (pv 2) rfl))), ?_⟩
    walk_at "rd"
    refine ⟨_, _, m.top, rfl, M, rfl, mem, pl, rs, ts, en, m, hp0, hp1, fun v0 hv => ?_, k2⟩
    refine ⟨_, _, _, m.top, T.cl_Machine, T.no_Machine_memory, _, rfl, _, rfl, _, DPut.k (k := Sum.inl p) m.mem (by rw [sizeLine_eq]; omega), k1 (by rw [hv]; simp) _ (fun b o e _ h _ _ => by rw [upd_ne h]; exact e) ?_⟩
    exact ⟨by rw [upd_ne (ne_of m.top m.mem (by intro z; cases z))]; exact m.top, upd_same, by rw [upd_ne (ne_of m.reg m.mem (by intro z; cases z))]; exact m.reg, by rw [upd_ne (ne_of m.tol m.mem (by intro z; cases z))]; exact m.tol, m.nd⟩
theorem G_Machine_result (T : Txt K mg A) : FnOk P w K mg base (CXE P w) 6 A.Machine_result A.fd_Machine_result ["self", "deed", "word"] (sp_resultX A) := by
  refine T.F_Machine_result.okE sc_Machine_result (fun vs H Q E h => ?_) (fun cdv Ar outer s H vs Q E hr h => ?_)
  · obtain ⟨M, mem, pl, word, rs, ts, en, rfl, _⟩ := h
    rfl
  · obtain ⟨M, mem, pl, word, rs, ts, en, rfl, r, hmi, ho⟩ := h
    refine ⟨_, (pss_cons (ps_if (pt_cmpR op_eq (pv 1) pe_str (nomark _)) (pss_one (ps_ret (pe_call (G_n_of T) (hr.mono (by decide)) rfl T.m_n_of T.k_n_of T.b_n_of .nil pass0 (pa_cons (pv 2) pa_nil)))) pss_nil) (pss_cons (ps_if (pt_cmpR op_eq (pv 1) pe_str (nomark _)) (pss_one (ps_ret (pe_op op_mul pe_int (pe_call (G_n_of T) (hr.mono (by decide)) rfl T.m_n_of T.k_n_of T.b_n_of .nil pass0 (pa_cons (pv 2) pa_nil))))) pss_nil) (pss_cons (ps_if (pt_cmpR op_eq (pv 1) pe_str (nomark _)) (pss_one (ps_ret (pe_meth (pv 0) T.cl_Machine T.me_Machine_sought (G_Machine_sought T) (hr.mono (by decide)) T.b_Machine_sought .nil pass0 (pa_cons (pv 2) pa_nil)))) pss_nil) (pss_cons (ps_if (pt_cmpR op_eq (pv 1) pe_str (nomark _)) (pss_one (ps_ret (pe_meth (pv 0) T.cl_Machine T.me_Machine_found (G_Machine_found T) (hr.mono (by decide)) T.b_Machine_found .nil (passesE xe_cx) (pa_cons (pe_meth (pv 0) T.cl_Machine T.me_Machine_sought (G_Machine_sought T) (hr.mono (by decide)) T.b_Machine_sought .nil pass0 (pa_cons (pv 2) pa_nil)) pa_nil)))) pss_nil) (pss_one (ps_ret (pe_call (G_of_two_words T) (hr.mono (by decide)) rfl T.m_of_two_words T.k_of_two_words T.b_of_two_words .nil pass0 (pa_cons (pv 1) (pa_cons (pe_ix (ix_listK (K := K) rfl) (pe_fld (pv 0) rfl) (pe_call (G_b_of T) (hr.mono (by decide)) rfl T.m_b_of T.k_b_of T.b_b_of .nil pass0 (pa_cons (pv 2) pa_nil)) (fun _ _ => rfl)) (pa_cons (pe_ix (ix_listK (K := K) rfl) (pe_fld (pv 0) rfl) (pe_call (G_c_of T) (hr.mono (by decide)) rfl T.m_c_of T.k_c_of T.b_c_of .nil pass0 (pa_cons (pv 2) pa_nil)) (fun _ _ => rfl)) pa_nil)))))))))), ?_⟩
    walk_at "rd"
    have ho1 : isOp (opW word) ∨ opW word = 5 := by rcases ho with z | z; exact .inl z.1; exact .inr z.1
    have k : opW word ≠ 5 → Q (V.int (dueE (opW word) (regB rs word) (regC rs word) word)) H := fun h => by
      rcases ho with z | z
      · exact z.2
      · exact absurd z.1 h
    unfold isOp at ho1
    rw [Int.ediv_one]
    unfold dueE at k
    refine ite2 (fun h => ⟨r.w0, r.w1, ?_⟩) (fun h2 => ?_)
    · have o := d2.mp (of_decide_eq_true h)
      have k := k (by omega)
      rw [if_pos o] at k; exact k
    have h2 : opW word ≠ 2 := fun z => h2 (decide_eq_true (d2.mpr z))
    rw [if_neg h2] at k
    refine ite2 (fun h => ⟨r.w0, r.w1, .inl ⟨by decide, by decide⟩, ?_⟩) (fun h3 => ?_)
    · have o := d3.mp (of_decide_eq_true h)
      have k := k (by omega)
      have e : word % 65536 * 65536 % 4294967296 = 65536 * (word % 65536) := by omega
      rw [if_pos o, e] at k; exact k
    have h3 : opW word ≠ 3 := fun z => h3 (decide_eq_true (d3.mpr z))
    rw [if_neg h3] at k
    refine ite2 (fun h => ?_) (fun h4 => ?_)
    · have o := d4.mp (of_decide_eq_true h)
      have k := k (by omega)
      rw [if_pos o] at k
      exact ⟨_, _, r.mach.top, rfl, M, rfl, _, _, _, _, _, r, k⟩
    have h4 : opW word ≠ 4 := fun z => h4 (decide_eq_true (d4.mpr z))
    refine ite2 (fun h => ?_) (fun h5 => ?_)
    · have o := d5.mp (of_decide_eq_true h)
      obtain ⟨_, k1, k2⟩ : opW word = 5 ∧ _ := by
        rcases ho with z | z
        · have := z.1; unfold isOp at this; omega
        · exact z
      refine ⟨_, _, r.mach.top, rfl, _, _, r.mach.top, rfl, M, rfl, _, _, _, _, _, r, M, rfl, _, _, _, _, _, r.mach, by omega, by omega, fun v hv => ?_, k2⟩
      obtain ⟨n, e, _⟩ := hmi.2 _ _ hv
      subst e
      have e : intAt mem (thereW rs word) = n := by unfold intAt; rw [show valV mem (.inl (thereW rs word)) = some (V.int n) from hv]
      rw [e] at k1
      exact k1 (by rw [show valV mem (.inl (thereW rs word)) = some (V.int n) from hv]; simp)
    have h5 : opW word ≠ 5 := fun z => h5 (decide_eq_true (d5.mpr z))
    have k := k h5
    obtain ⟨e1, b1, b2⟩ := reg_at r 4194304
    obtain ⟨e2, _⟩ := reg_at r 524288
    refine ⟨_, _, _, r.mach.top, T.cl_Machine, T.no_Machine_registers, _, rfl, r.w0, r.w1, _, rfl, _, SqL.of r.mach.reg, _, e1, _, _, _, r.mach.top, T.cl_Machine, T.no_Machine_registers, _, rfl, r.w0, r.w1, _, rfl, _, SqL.of r.mach.reg, _, e2, word, rfl, _, rfl, _, rfl, by unfold isTwo; omega, b1, b2, ?_⟩
    unfold dueE
    rw [if_neg h2, if_neg h3]
    exact k
theorem G_Machine_do (T : Txt K mg A) : FnOk P w K mg base (CXE P w) 7 A.Machine_do A.fd_Machine_do ["self", "word"] (sp_doX A) := by
  refine T.F_Machine_do.okE sc_Machine_do (fun vs H Q E h => ?_) (fun cdv Ar outer s H vs Q E hr h => ?_)
  · obtain ⟨M, mem, pl, word, rs, ts, rfl, _⟩ := h
    rfl
  · obtain ⟨M, mem, pl, word, rs, ts, rfl, r, hmi, ht, k, kL⟩ := h
    refine ⟨_, (pss_cons (ps_set (i := 2) sc_Machine_do.nd rfl (by first | exact Or.inl rfl | exact Or.inr rfl) (pe_call (G_deed_of T) (hr.mono (by decide)) rfl T.m_deed_of T.k_deed_of T.b_deed_of .nil pass0 (pa_cons (pv 1) pa_nil))) (pss_cons (ps_set (i := 3) sc_Machine_do.nd rfl (by first | exact Or.inl rfl | exact Or.inr rfl) (pe_call (G_a_of T) (hr.mono (by decide)) rfl T.m_a_of T.k_a_of T.b_a_of .nil pass0 (pa_cons (pv 1) pa_nil))) (pss_cons (ps_set (i := 4) sc_Machine_do.nd rfl (by first | exact Or.inl rfl | exact Or.inr rfl) (pe_ix (ix_listK (K := K) rfl) (pe_fld (pv 0) rfl) (pv 3) (fun _ _ => rfl))) (pss_cons (ps_set (i := 5) sc_Machine_do.nd rfl (by first | exact Or.inl rfl | exact Or.inr rfl) (pe_call (G_wrapped T) (hr.mono (by decide)) rfl T.m_wrapped T.k_wrapped T.b_wrapped .nil pass0 (pa_cons (pe_op op_add (pe_fld (pv 0) rfl) pe_int) pa_nil))) (pss_cons (ps_if (pt_cmpR op_eq (pv 2) pe_str (nomark _)) (pss_cons (ps_fld (pv 0) pe_bl rfl) (pss_one ps_retN)) pss_nil) (pss_cons (ps_weak (u := doSX A E) (ps_if (pt_cmpR op_eq (pv 2) pe_str (nomark _)) (pss_one (ps_expr (pe_bm PySem.F.plainAttrs_list PySem.F.slot_list_append PySem.F.type_list_append mt_append (pe_fld (pv 0) rfl) (pa_cons (pv 4) pa_nil)))) (pss_one (ps_if (pt_cmpR op_eq (pv 2) pe_str (nomark _)) (pss_one (ps_expr (pe_meth (pv 0) T.cl_Machine T.me_Machine_store (G_Machine_store T) (hr.mono (by decide)) T.b_Machine_store .nil (passesE xe_cx) (pa_cons (pe_meth (pv 0) T.cl_Machine T.me_Machine_sought (G_Machine_sought T) (hr.mono (by decide)) T.b_Machine_sought .nil pass0 (pa_cons (pv 1) pa_nil)) (pa_cons (pv 4) pa_nil))))) (pss_one (ps_if (PW.pt (pw_or (pt_cmpR op_eq (pv 2) pe_str (nomark _)) (pw_or1 (pt_cmpR op_eq (pv 2) pe_str (nomark _))))) (pss_one (ps_if (pt_val (pe_meth (pv 0) T.cl_Machine T.me_Machine_goes (G_Machine_goes T) (hr.mono (by decide)) T.b_Machine_goes .nil pass0 (pa_cons (pv 2) (pa_cons (pv 1) pa_nil)))) (pss_one (ps_set (i := 5) sc_Machine_do.nd rfl (by first | exact Or.inl rfl | exact Or.inr rfl) (pe_call (G_wrapped T) (hr.mono (by decide)) rfl T.m_wrapped T.k_wrapped T.b_wrapped .nil pass0 (pa_cons (pe_op op_add (pv 5) (pe_call (G_split_of T) (hr.mono (by decide)) rfl T.m_split_of T.k_split_of T.b_split_of .nil pass0 (pa_cons (pv 1) pa_nil))) pa_nil)))) pss_nil)) (pss_one (ps_if (pt_cmpR op_eq (pv 2) pe_str (nomark _)) (pss_cons (ps_asg (pv 5) (pg_sub (pe_fld (pv 0) rfl) (pv 3) set_list)) (pss_one (ps_set (i := 5) sc_Machine_do.nd rfl (by first | exact Or.inl rfl | exact Or.inr rfl) (pe_call (G_wrapped T) (hr.mono (by decide)) rfl T.m_wrapped T.k_wrapped T.b_wrapped .nil pass0 (pa_cons (pe_op op_add (pv 5) (pe_call (G_near_of T) (hr.mono (by decide)) rfl T.m_near_of T.k_near_of T.b_near_of .nil pass0 (pa_cons (pv 1) pa_nil))) pa_nil))))) (pss_one (ps_if (pt_cmpR op_eq (pv 2) pe_str (nomark _)) (pss_one (ps_set (i := 5) sc_Machine_do.nd rfl (by first | exact Or.inl rfl | exact Or.inr rfl) (pv 4))) (pss_one (ps_asg (pe_meth (pv 0) T.cl_Machine T.me_Machine_result (G_Machine_result T) (hr.mono (by decide)) T.b_Machine_result .nil (passesE xe_cx) (pa_cons (pv 2) (pa_cons (pv 1) pa_nil))) (pg_sub (pe_fld (pv 0) rfl) (pv 3) set_list)))))))))))) ?dos) (pss_one (ps_fld (pv 0) (pv 5) rfl)))))))), ?main⟩
    case dos =>
      rintro D σ H ⟨M, mem, pl, word, rs, ts, rfl, r, hmi, o0, ht, k, kL⟩
      walk_at "rd"
      have m := r.mach
      have ob : 0 ≤ opW word ∧ opW word < 16 := by unfold opW; omega
      have ea : ixN (rs.map V.int).length (word / 33554432 % 8) = some (regW word 33554432) := by
        have := r.len
        unfold ixN regW
        rw [if_pos (by omega), if_pos (by rw [List.length_map]; omega)]
      have noL : opW word ≠ 5 → opW word ≠ 6 → ¬ lackW mem rs word := fun a b c => by rcases c.1 with z | z; exact a z; exact b z
      have ret : opW word ≠ 5 → opW word ≠ 6 → ∀ (H' : Hp) (p : Int) (rs' ts' : List Int), M.Off H H' → Mach A.c_Machine H' M mem pl rs' ts' false → goPl pl rs word = p → goRs pl rs word = rs' → goTs ts rs word = ts' → D.nx [some (V.ref M.x), some (V.int word), some (V.str (dW word)), some (V.int (word / 33554432 % 8)), some (V.int (regA rs word)), some (V.int p)] H' := by
        rintro a b H' _ _ _ off m' rfl rfl rfl
        refine k (noL a b) H' off ?_
        unfold goMem goRsX
        rw [if_neg b, if_neg a, if_neg b]
        exact m'
      have off0 : M.Off H H := fun b o e _ _ _ _ => e
      have offr : ∀ o', M.Off H (upd H M.ar o') := fun o' b o e _ _ h _ => by rw [upd_ne h]; exact e
      refine ite2 (fun h => ?_) (fun h1 => ?_)
      · have o := d1.mp (of_decide_eq_true h)
        refine ⟨_, _, _, m.top, T.cl_Machine, T.no_Machine_numbers, _, rfl, .inl ⟨rfl, _, SqL.of m.tol⟩, _, rfl, _, m.tol, by rw [List.length_map, sizeLine_eq]; omega, ?_⟩
        rw [show ts.map V.int ++ [V.int (regA rs word)] = (ts ++ [regA rs word]).map V.int from by simp]
        refine ret (by omega) (by omega) _ _ _ _ (fun b o e _ _ _ ht => by rw [upd_ne ht]; exact e) m.tells ?_ ?_ ?_
        · unfold goPl; rw [if_neg (by omega), if_neg (by omega), if_neg (by omega), if_neg (by omega)]
        · unfold goRs; rw [if_neg (by omega), if_pos (by omega)]
        · unfold goTs; rw [if_pos o]
      have h1 : opW word ≠ 1 := fun z => h1 (decide_eq_true (d1.mpr z))
      have e3 : goTs ts rs word = ts := by unfold goTs; rw [if_neg h1]
      refine ite2 (fun h => ?_) (fun h6 => ?_)
      · have o := d6.mp (of_decide_eq_true h)
        refine ⟨_, _, m.top, rfl, _, _, m.top, rfl, M, rfl, _, _, _, _, _, r, M, rfl, mem, pl, rs, ts, false, m, by omega, by omega, hmi.1, fun hn H' off m' => ?_, fun hn => kL ⟨.inr o, hn⟩⟩
        have z := k (fun c => hn c.2) H' off (by unfold goMem goRsX; rw [if_pos o, if_neg (by omega), if_pos o, e3]; exact m')
        have e1 : goPl pl rs word = (pl + 1) % 4294967296 := by unfold goPl; rw [if_neg (by omega), if_neg (by omega), if_neg (by omega), if_neg (by omega)]
        rw [e1] at z
        exact z
      have h6 : opW word ≠ 6 := fun z => h6 (decide_eq_true (d6.mpr z))
      have way : opW word = 12 ∨ opW word = 13 → (goesB rs word = true ↔ ((opW word = 12 ∧ regA rs word = regB rs word) ∨ (opW word = 13 ∧ regA rs word < regB rs word))) := fun ho => by
        unfold goesB
        rcases ho with o | o
        · rw [if_pos o, decide_eq_true_iff]; exact ⟨fun z => .inl ⟨o, z⟩, fun z => z.elim (fun y => y.2) (fun y => absurd y.1 (by rw [o]; decide))⟩
        · rw [if_neg (by rw [o]; decide), decide_eq_true_iff]; exact ⟨fun z => .inr ⟨o, z⟩, fun z => z.elim (fun y => absurd y.1 (by rw [o]; decide)) (fun y => y.2)⟩
      have ways : opW word = 12 ∨ opW word = 13 → goRs pl rs word = rs := fun ho => by unfold goRs; rw [if_neg (by omega), if_pos (by omega)]
      have wayT : opW word = 12 ∨ opW word = 13 → goesB rs word = true → goPl pl rs word = ((pl + 1) % 4294967296 + splitW word) % 4294967296 := fun ho hg => by
        unfold goPl; rw [if_neg (by omega), if_neg (by omega), if_neg (by omega), if_pos ((way ho).mp hg)]
      have wayF : opW word = 12 ∨ opW word = 13 → ¬ goesB rs word = true → goPl pl rs word = (pl + 1) % 4294967296 := fun ho hg => by
        unfold goPl; rw [if_neg (by omega), if_neg (by omega), if_neg (by omega), if_neg (fun z => hg ((way ho).mpr z))]
      refine ite2 (fun h => ?_) (fun h12 => ?_)
      · have o := d12.mp (of_decide_eq_true h)
        exact ⟨_, _, m.top, rfl, M, rfl, _, _, word, rfl, rfl, _, _, _, r, .inl o, ite2 (fun g => ⟨r.w0, r.w1, ret (by omega) (by omega) _ _ _ _ off0 m (wayT (.inl o) g) (ways (.inl o)) e3⟩) (fun g => ret (by omega) (by omega) _ _ _ _ off0 m (wayF (.inl o) g) (ways (.inl o)) e3)⟩
      have h12 : opW word ≠ 12 := fun z => h12 (decide_eq_true (d12.mpr z))
      refine ite2 (fun h => ?_) (fun h13 => ?_)
      · have o := d13.mp (of_decide_eq_true h)
        exact ⟨_, _, m.top, rfl, M, rfl, _, _, word, rfl, rfl, _, _, _, r, .inr o, ite2 (fun g => ⟨r.w0, r.w1, ret (by omega) (by omega) _ _ _ _ off0 m (wayT (.inr o) g) (ways (.inr o)) e3⟩) (fun g => ret (by omega) (by omega) _ _ _ _ off0 m (wayF (.inr o) g) (ways (.inr o)) e3)⟩
      have h13 : opW word ≠ 13 := fun z => h13 (decide_eq_true (d13.mpr z))
      refine ite2 (fun h => ?_) (fun h14 => ?_)
      · have o := d14.mp (of_decide_eq_true h)
        refine ⟨_, _, _, m.top, T.cl_Machine, T.no_Machine_registers, _, rfl, _, rfl, _, m.reg, _, ea, r.w0, r.w1, ?_⟩
        rw [← List.map_set]
        refine ret (by omega) (by omega) _ _ _ _ (offr _) m.regs ?_ ?_ e3
        · unfold goPl; rw [if_neg (by omega), if_neg (by omega), if_pos o]
        · unfold goRs; rw [if_pos o]
      have h14 : opW word ≠ 14 := fun z => h14 (decide_eq_true (d14.mpr z))
      refine ite2 (fun h => ?_) (fun h15 => ?_)
      · have o := d15.mp (of_decide_eq_true h)
        refine ret (by omega) (by omega) _ _ _ _ off0 m ?_ ?_ e3
        · unfold goPl; rw [if_neg (by omega), if_pos o]
        · unfold goRs; rw [if_neg (by omega), if_pos (by omega)]
      have h15 : opW word ≠ 15 := fun z => h15 (decide_eq_true (d15.mpr z))
      have e1 : goPl pl rs word = (pl + 1) % 4294967296 := by unfold goPl; rw [if_neg (by omega), if_neg (by omega), if_neg (by omega), if_neg (by omega)]
      refine ⟨_, _, m.top, rfl, M, rfl, _, _, word, rfl, rfl, _, _, _, r, hmi, ?_⟩
      by_cases o5 : opW word = 5
      · refine .inr ⟨o5, fun hn => ⟨_, _, _, m.top, T.cl_Machine, T.no_Machine_registers, _, rfl, _, rfl, _, m.reg, _, ea, ?_⟩, fun hn => kL ⟨.inl o5, hn⟩⟩
        rw [← List.map_set]
        have z := k (fun c => hn c.2) _ (offr _) (by unfold goMem goRsX; rw [if_neg h6, if_pos o5, e3]; exact m.regs)
        rw [e1] at z
        exact z
      · refine .inl ⟨by unfold isOp; omega, _, _, _, m.top, T.cl_Machine, T.no_Machine_registers, _, rfl, _, rfl, _, m.reg, _, ea, ?_⟩
        rw [← List.map_set]
        refine ret o5 h6 _ _ _ _ (offr _) m.regs e1 ?_ e3
        unfold goRs; rw [if_neg (by omega), if_neg (by omega)]; rfl
    walk_at "rd"
    obtain ⟨ea, _⟩ := reg_at r 33554432
    have m := r.mach
    refine ⟨r.w0, r.w1, r.w0, r.w1, _, _, _, m.top, T.cl_Machine, T.no_Machine_registers, _, rfl, _, rfl, _, SqL.of m.reg, _, ea, _, _, _, m.top, T.cl_Machine, T.no_Machine_place, _, rfl, pl, rfl, ite2 (fun h => ?_) (fun h => ?_)⟩
    · have o0 := d0.mp (of_decide_eq_true h)
      have e1 : goPl pl rs word = pl := by unfold goPl; rw [if_pos o0]
      have e2 : goRs pl rs word = rs := by unfold goRs; rw [if_neg (by omega), if_pos (.inl o0)]
      have e3 : goTs ts rs word = ts := by unfold goTs; rw [if_neg (by omega)]
      have k := k (fun c => by rcases c.1 with z | z <;> omega)
      unfold goMem goRsX at k
      rw [if_neg (by omega), if_neg (by omega), if_neg (by omega), e1, e2, e3, decide_eq_true o0] at k
      exact ⟨_, _, _, m.top, T.cl_Machine, T.no_Machine_ended, by show 5 < 1000; decide, k _ (fun b o e hx _ _ _ => by rw [upd_ne hx]; exact e) (m.place upd_same fun b o hx e => by rw [upd_ne hx]; exact e)⟩
    · have o0 : opW word ≠ 0 := fun z => h (decide_eq_true (d0.mpr z))
      rw [decide_eq_false o0] at k
      refine ⟨M, rfl, mem, pl, rs, rfl, rfl, ts, r, hmi, o0, ht, fun hL H' off m' => ?_, kL⟩
      exact ⟨_, _, _, m'.top, T.cl_Machine, T.no_Machine_place, by show 5 < 1000; decide, k hL _ (fun b o e hx h2 h3 h4 => by rw [upd_ne hx]; exact off b o e hx h2 h3 h4) (m'.place upd_same fun b o hx e => by rw [upd_ne hx]; exact e)⟩
theorem G_Machine_go_on (T : Txt K mg A) : FnOk P w K mg base (CXE P w) 8 A.Machine_go_on A.fd_Machine_go_on ["self"] (sp_goX A) := by
  refine T.F_Machine_go_on.okE sc_Machine_go_on (fun vs H Q E h => ?_) (fun cdv Ar outer s H vs Q E hr h => ?_)
  · obtain ⟨M, mem, pl, rs, ts, en, rfl, _⟩ := h
    rfl
  · obtain ⟨M, mem, pl, rs, ts, en, rfl, m, hmi, hl, hw, ht, hp0, hp1, h⟩ := h
    refine ⟨_, (pss_cons (ps_if (pt_val (pe_fld (pv 0) rfl)) (pss_one (ps_ret pe_bl)) pss_nil) (pss_cons (ps_expr (pe_meth (pv 0) T.cl_Machine T.me_Machine_do (G_Machine_do T) (hr.mono (by decide)) T.b_Machine_do .nil (passesE xe_cx) (pa_cons (pe_meth (pv 0) T.cl_Machine T.me_Machine_found (G_Machine_found T) (hr.mono (by decide)) T.b_Machine_found .nil (passesE xe_cx) (pa_cons (pe_fld (pv 0) rfl) pa_nil)) pa_nil))) (pss_one (ps_ret pe_bl)))), ?_⟩
    walk_at "rd"
    refine ⟨_, _, _, m.top, T.cl_Machine, T.no_Machine_ended, _, rfl, en, rfl, ?_⟩
    rcases h with ⟨rfl, q⟩ | ⟨rfl, hv, q⟩ | ⟨rfl, word, hv, q1, q2⟩
    · exact q
    · exact ⟨_, _, m.top, rfl, _, _, m.top, rfl, _, _, _, m.top, T.cl_Machine, T.no_Machine_place, _, rfl, M, rfl, mem, pl, pl, rfl, rs, ts, false, m, hp0, hp1, fun v h => (by rw [hv] at h; cases h), fun _ => q⟩
    · obtain ⟨n, e, w0, w1⟩ := hmi.2 pl _ hv
      cases e
      refine ⟨_, _, m.top, rfl, _, _, m.top, rfl, _, _, _, m.top, T.cl_Machine, T.no_Machine_place, _, rfl, M, rfl, mem, pl, pl, rfl, rs, ts, false, m, hp0, hp1, fun v h => ?_, fun h => (by rw [hv] at h; cases h)⟩
      rw [hv] at h
      cases h
      exact ⟨M, rfl, mem, pl, word, rfl, rs, ts, ⟨m, hl, hw, w0, w1⟩, hmi, ht, q1, q2⟩
theorem G_Machine_state (T : Txt K mg A) : FnOk P w K mg base CX0 1 A.Machine_state A.fd_Machine_state ["self"] (sp_state A.c_Machine) := by
  refine T.F_Machine_state.ok sc_Machine_state (fun vs H Q E h => ?_) (fun cdv Ar outer s H vs Q E hr h => ?_)
  · obtain ⟨M, mem, pl, rs, ts, en, rfl, _⟩ := h
    rfl
  · obtain ⟨M, mem, pl, rs, ts, en, rfl, m, k⟩ := h
    refine ⟨_, (pss_one (ps_ret (pe_tup (pa_cons (pe_fld (pv 0) rfl) (pa_cons (pe_callTy (call_list_ofK (K := K) rfl) (by rfl) T.n_list bt_list (pa_cons (pe_fld (pv 0) rfl) pa_nil)) (pa_cons (pe_callTy (call_list_ofK (K := K) rfl) (by rfl) T.n_list bt_list (pa_cons (pe_fld (pv 0) rfl) pa_nil)) (pa_cons (pe_fld (pv 0) rfl) pa_nil))))))), ?_⟩
    walk_at "rd"
    refine ⟨_, _, _, m.top, T.cl_Machine, T.no_Machine_place, _, rfl, _, _, _, m.top, T.cl_Machine, T.no_Machine_registers, _, rfl, _, rfl, _, .inl (SqL.of m.reg), fun l hl => ?_⟩
    have s1 := same_new (o := HO.lst (rs.map V.int)) hl
    refine ⟨_, _, _, s1 _ _ m.top, T.cl_Machine, T.no_Machine_numbers, _, rfl, _, rfl, _, .inl (SqL.of (s1 _ _ m.tol)), fun l1 hl1 => ?_⟩
    have s2 := same_new (o := HO.lst (ts.map V.int)) hl1
    refine ⟨_, _, _, s2 _ _ (s1 _ _ m.top), T.cl_Machine, T.no_Machine_ended, _, rfl, by rw [sizeLine_eq]; decide, fun p hp => ?_⟩
    have s3 := same_new (o := HO.tup [V.int pl, V.ref l, V.ref l1, V.bl en]) hp
    exact k p l l1 _ ((s1.trans s2).trans s3) upd_same (s3 _ _ (s2 _ _ upd_same)) (s3 _ _ upd_same) hl (same_no s1 hl1) (ne_of_none upd_same hl1)
theorem G_Machine_word_at (T : Txt K mg A) : FnOk P w K mg base CX0 1 A.Machine_word_at A.fd_Machine_word_at ["self", "place"] (sp_wordat A.c_Machine) := by
  refine T.F_Machine_word_at.ok sc_Machine_word_at (fun vs H Q E h => ?_) (fun cdv Ar outer s H vs Q E hr h => ?_)
  · obtain ⟨M, mem, pl, p, rs, ts, en, rfl, _⟩ := h
    rfl
  · obtain ⟨M, mem, pl, p, rs, ts, en, rfl, m, k⟩ := h
    refine ⟨_, (pss_one (ps_ret (pe_dget1 (hu_of hr) (pe_fld (pv 0) rfl) (pv 1) ⟨rfl, rfl, rfl, rfl⟩))), ?_⟩
    walk_at "rd"
    exact ⟨_, _, _, m.top, T.cl_Machine, T.no_Machine_memory, _, rfl, _, rfl, .inl ⟨_, .inl m.mem⟩, _, DGet.k (k := Sum.inl p) m.mem, k⟩

theorem and_int (a b : Nat) : Builtin.bitAnd (a : Int) (b : Int) = ((a &&& b : Nat) : Int) := by
  unfold Builtin.bitAnd
  rw [decide_eq_true (Int.natCast_nonneg a), decide_eq_true (Int.natCast_nonneg b)]
  rfl
theorem sum_bits (a b : Nat) : ∀ k : Nat, a % 2 ^ k + b % 2 ^ k = (a ^^^ b) % 2 ^ k + 2 * ((a &&& b) % 2 ^ k)
  | 0 => by simp [Nat.mod_one]
  | k + 1 => by
    rw [M50.xor_step, M50.and_step, Nat.mod_pow_succ, Nat.mod_pow_succ]
    have ih := sum_bits a b k
    rcases Nat.mod_two_eq_zero_or_one (a / 2 ^ k) with h1 | h1 <;> rcases Nat.mod_two_eq_zero_or_one (b / 2 ^ k) with h2 | h2 <;> rw [h1, h2] <;> simp <;> omega
theorem xor_int {a b : Nat} (ha : a < 4294967296) (hb : b < 4294967296) : Builtin.bitXor (a : Int) (b : Int) = ((a ^^^ b : Nat) : Int) := by
  have h := sum_bits a b 32
  have h1 : a % 2 ^ 32 = a := Nat.mod_eq_of_lt ha
  have h2 : b % 2 ^ 32 = b := Nat.mod_eq_of_lt hb
  have h3 : (a ^^^ b) % 2 ^ 32 = a ^^^ b := Nat.mod_eq_of_lt (Nat.xor_lt_two_pow (n := 32) ha hb)
  have h4 : (a &&& b) % 2 ^ 32 = a &&& b := Nat.mod_eq_of_lt (Nat.and_lt_two_pow (n := 32) a hb)
  rw [h1, h2, h3, h4] at h
  have e : Builtin.bitXor (a : Int) (b : Int) = a + b - 2 * Builtin.bitAnd a b := by open PySem PySem.W PySem.Calls PyProof.Rows in exact bitXor_and a b
  rw [e, and_int]
  omega
theorem or_int (x y : Nat) : Builtin.bitOr (x : Int) (y : Int) = ((x ||| y : Nat) : Int) := by
  have h1 : ¬ (0 : Int) ≤ Builtin.bitNot (x : Int) := by unfold Builtin.bitNot; omega
  have h2 : ¬ (0 : Int) ≤ Builtin.bitNot (y : Int) := by unfold Builtin.bitNot; omega
  show Builtin.bitNot (Builtin.bitAnd (Builtin.bitNot x) (Builtin.bitNot y)) = _
  open PyProof.Rows in rw [bitAnd_nn h1 h2, bitNot_bitNot, bitNot_bitNot, bitNot_bitNot, Int.toNat_natCast, Int.toNat_natCast]
theorem turn_due {a b : Nat} (ha : a < 4294967296) : turnE (a : Int) (b : Int) = ((M50.turnN a ((b : Int) % 32).toNat : Nat) : Int) := by
  have hr : ((b : Int) % 32).toNat < 32 := by omega
  have e : (b : Int) % 32 = ((((b : Int) % 32).toNat : Nat) : Int) := by omega
  unfold turnE
  generalize ((b : Int) % 32).toNat = r at *
  rw [e]
  have e1 : (32 - (r : Int)).toNat = 32 - r := by omega
  have cp : ∀ k : Nat, (2 : Int) ^ k = ((2 ^ k : Nat) : Int) := fun k => by rw [Int.natCast_pow]; rfl
  rw [e1, cp, cp, ← Int.natCast_ediv, ← Int.natCast_mul, or_int, Nat.mul_comm a]
  have z := M50.turn_or (w := a) (k := r) ha hr
  rw [← z]
  rfl
theorem turn_two {a k : Nat} (ha : a < 2 ^ 32) (hk : k < 32) : (a * 2 ^ 32 + a) / 2 ^ k % 2 ^ 32 = M50.turnN a k := by
  have e : (2 : Nat) ^ 32 = 2 ^ k * 2 ^ (32 - k) := by rw [← Nat.pow_add]; congr 1; omega
  have hp : 0 < 2 ^ k := Nat.two_pow_pos k
  have h1 : (a * 2 ^ 32 + a) / 2 ^ k = a * 2 ^ (32 - k) + a / 2 ^ k := by
    rw [e, ← Nat.mul_assoc, Nat.mul_comm a (2 ^ k), Nat.mul_assoc, Nat.mul_add_div hp]
  have h2 : a * 2 ^ (32 - k) = 2 ^ 32 * (a / 2 ^ k) + a % 2 ^ k * 2 ^ (32 - k) := by
    have hd := Nat.div_add_mod a (2 ^ k)
    calc a * 2 ^ (32 - k) = (2 ^ k * (a / 2 ^ k) + a % 2 ^ k) * 2 ^ (32 - k) := by rw [hd]
      _ = 2 ^ 32 * (a / 2 ^ k) + a % 2 ^ k * 2 ^ (32 - k) := by rw [Nat.add_mul, e, Nat.mul_right_comm]
  have hl := M50.turn_lt (w := a) ha hk
  rw [h1, h2, Nat.add_assoc, Nat.mul_add_mod]
  rw [show a % 2 ^ k * 2 ^ (32 - k) + a / 2 ^ k = M50.turnN a k from by unfold M50.turnN; rw [Nat.add_comm]]
  exact Nat.mod_eq_of_lt hl
theorem turn_int {a b : Int} (a0 : 0 ≤ a) (a1 : a ≤ 4294967295) (b0 : 0 ≤ b) : (a * 4294967296 + a) / 2 ^ (b % 32).toNat % 4294967296 = turnE a b := by
  obtain ⟨n, rfl⟩ : ∃ n : Nat, a = n := ⟨a.toNat, by omega⟩
  obtain ⟨m, rfl⟩ : ∃ m : Nat, b = m := ⟨b.toNat, by omega⟩
  rw [turn_due (by omega)]
  have hr : ((m : Int) % 32).toNat < 32 := by omega
  generalize ((m : Int) % 32).toNat = r at *
  rw [← turn_two (a := n) (k := r) (by omega) hr]
  have cp : (2 : Int) ^ r = ((2 ^ r : Nat) : Int) := by rw [Int.natCast_pow]; rfl
  rw [cp]
  rfl
theorem bit_lt {a b : Int} (a0 : 0 ≤ a) (a1 : a ≤ 4294967295) (b0 : 0 ≤ b) (b1 : b ≤ 4294967295) : Builtin.bitAnd a b % 4294967296 = Builtin.bitAnd a b ∧ Builtin.bitXor a b % 4294967296 = Builtin.bitXor a b := by
  obtain ⟨n, rfl⟩ : ∃ n : Nat, a = n := ⟨a.toNat, by omega⟩
  obtain ⟨m, rfl⟩ : ∃ m : Nat, b = m := ⟨b.toNat, by omega⟩
  rw [and_int, xor_int (by omega) (by omega)]
  have h1 := Nat.and_lt_two_pow (n := 32) n (show m < 2 ^ 32 by omega)
  have h2 := Nat.xor_lt_two_pow (n := 32) (show n < 2 ^ 32 by omega) (show m < 2 ^ 32 by omega)
  omega
theorem G__law_cell_at (T : Txt K mg A) : FnOk P w K mg base CX0 1 A._law_cell_at A.fd__law_cell_at ["_law_script", "_law_k"] (sp_cellat K) := by
  refine T.F__law_cell_at.ok sc__law_cell_at (fun vs H Q E h => ?_) (fun cdv Ar outer s H vs Q E hr h => ?_)
  · obtain ⟨a, ns, k, rfl, _⟩ := h
    rfl
  · obtain ⟨a, ns, k, rfl, hS, hn, hk, q⟩ := h
    refine ⟨_, (pss_cons (ps_if (pt_cmpR op_lt (pv 1) (pe_callB (call_lenK (K := K) rfl) (by rfl) T.n_len bt_len (pa_cons (pv 0) pa_nil)) (nomark _)) (pss_one (ps_ret (pe_ix (ix_listK (K := K) rfl) (pv 0) (pv 1) (fun _ _ => rfl)))) pss_nil) (pss_one (ps_ret pe_int))), ?_⟩
    walk_at "rd"
    refine ⟨_, .inl ⟨_, hS, rfl⟩, ite2 (fun h => ?_) (fun _ => q 0)⟩
    have h := of_decide_eq_true h
    rw [List.length_map] at h
    obtain ⟨v, e, _, _⟩ := atI_int (rs := ns) hk h
    exact ⟨_, hS, _, e, q v⟩
theorem G__law_word_by (T : Txt K mg A) : FnOk P w K mg base CX0 1 A._law_word_by A.fd__law_word_by ["_law_cell"] sp_wordby := by
  refine T.F__law_word_by.ok sc__law_word_by (fun vs H Q E h => ?_) (fun cdv Ar outer s H vs Q E hr h => ?_)
  · obtain ⟨c, rfl, _⟩ := h
    rfl
  · obtain ⟨c, rfl, k⟩ := h
    refine ⟨_, (pss_cons (ps_set (i := 1) sc__law_word_by.nd rfl (by first | exact Or.inl rfl | exact Or.inr rfl) (pe_op op_mod (pe_op op_mul (pv 0) pe_int) pe_int)) (pss_cons (ps_set (i := 2) sc__law_word_by.nd rfl (by first | exact Or.inl rfl | exact Or.inr rfl) (pe_op op_mod (pv 0) pe_int)) (pss_cons (ps_set (i := 3) sc__law_word_by.nd rfl (by first | exact Or.inl rfl | exact Or.inr rfl) (pe_op op_fdiv (pv 1) pe_int)) (pss_cons (ps_set (i := 4) sc__law_word_by.nd rfl (by first | exact Or.inl rfl | exact Or.inr rfl) (pe_op op_mod (pv 3) pe_int)) (pss_cons (ps_weak (u := wS) (ps_if (PW.pt (pw_or (pt_cmpR op_eq (pv 2) pe_int (nomark _)) (pw_or1 (pt_cmpR op_eq (pv 2) pe_int (nomark _))))) (pss_cons (ps_set (i := 5) sc__law_word_by.nd rfl (by first | exact Or.inl rfl | exact Or.inr rfl) (pe_op op_mod (pe_op op_sub (pe_op op_mod (pv 3) pe_int) pe_int) pe_int)) (pss_one (ps_set (i := 4) sc__law_word_by.nd rfl (by first | exact Or.inl rfl | exact Or.inr rfl) (pe_op op_add (pe_op op_add (pe_op op_mod (pv 5) pe_int) (pe_op op_mul (pe_op op_mod (pe_op op_fdiv (pv 3) pe_int) pe_int) pe_int)) (pe_op op_mul (pe_op op_fdiv (pv 5) pe_int) pe_int))))) pss_nil) ?w1) (pss_cons (ps_weak (u := wS) (ps_if (pt_cmpR op_eq (pv 2) pe_int (nomark _)) (pss_cons (ps_set (i := 5) sc__law_word_by.nd rfl (by first | exact Or.inl rfl | exact Or.inr rfl) (pe_op op_sub (pe_op op_mod (pv 3) pe_int) pe_int)) (pss_one (ps_set (i := 4) sc__law_word_by.nd rfl (by first | exact Or.inl rfl | exact Or.inr rfl) (pe_op op_mod (pv 5) pe_int)))) pss_nil) ?w2) (pss_cons (ps_weak (u := wS) (ps_if (PW.pt (pw_and (pt_cmpR op_gt (pv 2) pe_int (nomark _)) (pw_and (pt_cmpR op_lt (pv 2) pe_int (nomark _)) (pw_and1 (pt_cmpR op_gt (pe_op op_mod (pv 3) pe_int) pe_int (nomark _)))))) (pss_one (ps_set (i := 4) sc__law_word_by.nd rfl (by first | exact Or.inl rfl | exact Or.inr rfl) (pe_op op_add (pe_op op_mod (pe_op op_sub (pe_op op_mod (pe_op op_fdiv (pv 3) pe_int) pe_int) pe_int) pe_int) (pe_op op_mul (pe_op op_mod (pe_op op_fdiv (pv 3) pe_int) pe_int) pe_int)))) pss_nil) ?w3) (pss_one (ps_ret (pe_op op_add (pe_op op_add (pe_op op_mul (pv 2) pe_int) (pe_op op_mul (pe_op op_mod (pv 1) pe_int) pe_int)) (pv 4))))))))))), ?main⟩
    case w1 =>
      rintro D σ H ⟨c, n, op, r, low, x, rfl, h0, h1, k⟩
      walk_at "rd"
      have z := k ((r % 9 - 3) % 4096 % 128 + r / 9 % 128 * 128 + (r % 9 - 3) % 4096 / 128 * 16384) (some (V.int ((r % 9 - 3) % 4096))) (by omega) (by omega)
      exact ite2 (fun _ => ⟨by decide, by decide, by decide, ⟨by decide, by decide⟩, by decide, .inr ⟨by decide, by decide⟩, ⟨by decide, by decide⟩, .inr ⟨by decide, by decide⟩, z⟩) (fun _ => ite2 (fun _ => ⟨by decide, by decide, by decide, ⟨by decide, by decide⟩, by decide, .inr ⟨by decide, by decide⟩, ⟨by decide, by decide⟩, .inr ⟨by decide, by decide⟩, z⟩) (fun _ => k low x h0 h1))
    case w2 =>
      rintro D σ H ⟨c, n, op, r, low, x, rfl, h0, h1, k⟩
      walk_at "rd"
      exact ite2 (fun _ => ⟨by decide, by decide, k _ _ (by omega) (by omega)⟩) (fun _ => k low x h0 h1)
    case w3 =>
      rintro D σ H ⟨c, n, op, r, low, x, rfl, h0, h1, k⟩
      walk_at "rd"
      have z := k low x h0 h1
      exact ite2 (fun _ => ite2 (fun _ => ⟨by decide, ite2 (fun _ => ⟨⟨by decide, by decide⟩, by decide, by decide, ⟨by decide, by decide⟩, by decide, .inr ⟨by decide, by decide⟩, k _ _ (by omega) (by omega)⟩) (fun _ => z)⟩) (fun _ => z)) (fun _ => z)
    walk_at "rd"
    refine ⟨.inr ⟨by decide, by decide⟩, by decide, by decide, ⟨by decide, by decide⟩, by decide, c, _, _, _, _, _, rfl, by omega, by omega, fun l1 y1 a0 a1 => ?_⟩
    walk_at "rd"
    refine ⟨c, _, _, _, l1, y1, rfl, a0, a1, fun l2 y2 b0 b1 => ?_⟩
    walk_at "rd"
    refine ⟨c, _, _, _, l2, y2, rfl, b0, b1, fun l3 y3 c0 c1 => ?_⟩
    walk_at "rd"
    exact ⟨.inr ⟨by decide, by decide⟩, by decide, .inr ⟨by decide, by decide⟩, k _ (by omega) (by omega)⟩
theorem G__law_split (T : Txt K mg A) : FnOk P w K mg base CX0 1 A._law_split A.fd__law_split ["_law_word"] sp_lsplit := by
  refine T.F__law_split.ok sc__law_split (fun vs H Q E h => ?_) (fun cdv Ar outer s H vs Q E hr h => ?_)
  · obtain ⟨w, rfl, _⟩ := h
    rfl
  · obtain ⟨w, rfl, k⟩ := h
    refine ⟨_, (pss_cons (ps_set (i := 1) sc__law_split.nd rfl (by first | exact Or.inl rfl | exact Or.inr rfl) (pe_op op_add (pe_op op_mod (pv 0) pe_int) (pe_op op_mul (pe_op op_mod (pe_op op_fdiv (pv 0) pe_int) pe_int) pe_int))) (pss_one (ps_ret (pe_op op_sub (pv 1) (pe_op op_mul pe_int (pe_op op_fdiv (pv 1) pe_int)))))), ?main⟩
    walk_at "rd"
    have e : w % 128 + w / 16384 % 32 * 128 - 4096 * ((w % 128 + w / 16384 % 32 * 128) / 2048) = splitW w := by unfold splitW splitN; omega
    rw [← e] at k
    exact ⟨by decide, ⟨by decide, by decide⟩, by decide, .inr ⟨by decide, by decide⟩, ⟨by decide, by decide⟩, .inl ⟨by decide, by decide⟩, k⟩
theorem G__law_near (T : Txt K mg A) : FnOk P w K mg base CX0 1 A._law_near A.fd__law_near ["_law_word"] sp_lnear := by
  refine T.F__law_near.ok sc__law_near (fun vs H Q E h => ?_) (fun cdv Ar outer s H vs Q E hr h => ?_)
  · obtain ⟨w, rfl, _⟩ := h
    rfl
  · obtain ⟨w, rfl, k⟩ := h
    refine ⟨_, (pss_one (ps_ret (pe_op op_sub (pe_op op_mod (pv 0) pe_int) (pe_op op_mul pe_int (pe_op op_fdiv (pe_op op_mod (pv 0) pe_int) pe_int))))), ?main⟩
    walk_at "rd"
    have e : w % 524288 - 524288 * (w % 524288 / 262144) = nearW w := by unfold nearW; omega
    rw [← e] at k
    exact ⟨by decide, by decide, ⟨by decide, by decide⟩, .inl ⟨by decide, by decide⟩, k⟩
theorem G__law_small (T : Txt K mg A) : FnOk P w K mg base CX0 1 A._law_small A.fd__law_small ["_law_word"] sp_lsmall := by
  refine T.F__law_small.ok sc__law_small (fun vs H Q E h => ?_) (fun cdv Ar outer s H vs Q E hr h => ?_)
  · obtain ⟨w, rfl, _⟩ := h
    rfl
  · obtain ⟨w, rfl, k⟩ := h
    refine ⟨_, (pss_one (ps_ret (pe_op op_sub (pe_op op_mod (pv 0) pe_int) (pe_op op_mul pe_int (pe_op op_fdiv (pe_op op_mod (pv 0) pe_int) pe_int))))), ?main⟩
    walk_at "rd"
    have e : w % 65536 - 65536 * (w % 65536 / 32768) = sE w := by unfold sE; omega
    rw [← e] at k
    exact ⟨by decide, by decide, ⟨by decide, by decide⟩, .inl ⟨by decide, by decide⟩, k⟩
theorem in56 {x : Int} : inV (V.int x) [V.int 5, V.int 6] = true ↔ x = 5 ∨ x = 6 := by
  simp [inV, eqV]
  constructor <;> (intro h; omega)
theorem G__law_lacks (T : Txt K mg A) : FnOk P w K mg base CX0 2 A._law_lacks A.fd__law_lacks ["_law_memory", "_law_row", "_law_here"] sp_lacks := by
  refine T.F__law_lacks.ok sc__law_lacks (fun vs H Q E h => ?_) (fun cdv Ar outer s H vs Q E hr h => ?_)
  · obtain ⟨dm, q, here, mem, rs, rfl, _⟩ := h
    rfl
  · obtain ⟨dm, q, here, mem, rs, rfl, own, k1, k2⟩ := h
    refine ⟨_, (pss_cons (ps_if (pt_cmp (pc_dnotin (hu_of hr) (pv 2) (pv 0))) (pss_one (ps_ret (pv 2))) pss_nil) (pss_cons (ps_set (i := 3) sc__law_lacks.nd rfl (by first | exact Or.inl rfl | exact Or.inr rfl) (pe_dget (hu_of hr) (pv 0) (pv 2) (fun _ _ => rfl))) (pss_cons (ps_if (pt_cmpR (op_inAK (K := K) rfl) (pe_op op_fdiv (pv 3) pe_int) (pe_lst (pa_cons pe_int (pa_cons pe_int pa_nil))) (by with_unfolding_all rfl)) (pss_cons (ps_set (i := 4) sc__law_lacks.nd rfl (by first | exact Or.inl rfl | exact Or.inr rfl) (pe_op op_mod (pe_op op_add (pe_ix (ix_listK (K := K) rfl) (pv 1) (pe_op op_mod (pe_op op_fdiv (pv 3) pe_int) pe_int) (fun _ _ => rfl)) (pe_call (G__law_small T) (hr.mono (by decide)) rfl T.m__law_small T.k__law_small T.b__law_small .nil pass0 (pa_cons (pv 3) pa_nil))) pe_int)) (pss_one (ps_if (pt_cmp (pc_dnotin (hu_of hr) (pv 4) (pv 0))) (pss_one (ps_ret (pv 4))) pss_nil))) pss_nil) (pss_one (ps_ret pe_non))))), ?main⟩
    walk_at "rd"
    have g : DGet H dm (V.int here) (valV mem (.inl here)) := DGet.k (k := Sum.inl here) own.dct
    refine ⟨_, g, ?_⟩
    cases hv : valV mem (.inl here) with
    | none => rw [if_pos (by simp)]; exact k1 hv
    | some v =>
      obtain ⟨n, rfl, n0, n1⟩ := own.mi.2 _ _ hv
      rw [hv] at g
      rw [if_neg (by simp)]
      refine ⟨_, g, n, rfl, ⟨by decide, by decide⟩, by rw [sizeLine_eq]; decide, fun p hp => ?_⟩
      have sp := same_new (o := HO.lst [V.int 5, V.int 6]) hp
      have kk := k2 n hv _ sp
      have eo : n / 268435456 = opW n := by unfold opW; omega
      rw [eo]
      refine ⟨_, .inl (SqL.of upd_same), rfl, rfl, ite2 (fun h => ?_) (fun h => ?_)⟩
      · have ho : opW n = 5 ∨ opW n = 6 := in56.mp h
        obtain ⟨v, e, g1, _⟩ := atI_int (rs := rs) (i := n / 4194304 % 8) (by omega) (by have := own.len; omega)
        have et : (v + sE n) % 4294967296 = thereW rs n := by unfold thereW regB; rw [show rs.getD (regW n 4194304) 0 = v from g1]
        refine ⟨n, rfl, ⟨by decide, by decide⟩, by decide, _, SqL.of (sp _ _ own.row), _, e, n, rfl, v, rfl, by decide, ?_⟩
        rw [et]
        have g2 : DGet (upd H p (HO.lst [V.int 5, V.int 6])) dm (V.int (thereW rs n)) (valV mem (.inl (thereW rs n))) := DGet.k (k := Sum.inl (thereW rs n)) (sp _ _ own.dct)
        refine ⟨_, g2, ?_⟩
        cases hv2 : valV mem (.inl (thereW rs n)) with
        | none => rw [if_pos (by simp)]; exact kk.1 ⟨ho, hv2⟩
        | some v2 => rw [if_neg (by simp)]; exact kk.2 (fun c => by rw [c.2] at hv2; cases hv2)
      · exact kk.2 (fun c => h (in56.mpr c.1))
theorem G__law_made (T : Txt K mg A) : FnOk P w K mg base CX0 2 A._law_made A.fd__law_made ["_law_memory", "_law_op", "_law_word", "_law_one", "_law_other"] sp_made := by
  refine T.F__law_made.ok sc__law_made (fun vs H Q E h => ?_) (fun cdv Ar outer s H vs Q E hr h => ?_)
  · obtain ⟨dm, w, one, other, mem, rfl, _⟩ := h
    rfl
  · obtain ⟨dm, w, one, other, mem, rfl, hd, hmi, a0, a1, b0, b1, ho, h5, k⟩ := h
    refine ⟨_, (pss_cons (ps_if (pt_cmpR op_eq (pv 1) pe_int (nomark _)) (pss_one (ps_ret (pe_op op_mod (pv 2) pe_int))) pss_nil) (pss_cons (ps_if (pt_cmpR op_eq (pv 1) pe_int (nomark _)) (pss_one (ps_ret (pe_op op_mul (pe_op op_mod (pv 2) pe_int) pe_int))) pss_nil) (pss_cons (ps_if (pt_cmpR op_eq (pv 1) pe_int (nomark _)) (pss_one (ps_ret (pe_op op_add (pv 3) (pe_call (G__law_small T) (hr.mono (by decide)) rfl T.m__law_small T.k__law_small T.b__law_small .nil pass0 (pa_cons (pv 2) pa_nil))))) pss_nil) (pss_cons (ps_if (pt_cmpR op_eq (pv 1) pe_int (nomark _)) (pss_one (ps_ret (pe_dget (hu_of hr) (pv 0) (pe_op op_mod (pe_op op_add (pv 3) (pe_call (G__law_small T) (hr.mono (by decide)) rfl T.m__law_small T.k__law_small T.b__law_small .nil pass0 (pa_cons (pv 2) pa_nil))) pe_int) (fun _ _ => rfl)))) pss_nil) (pss_cons (ps_if (pt_cmpR op_eq (pv 1) pe_int (nomark _)) (pss_one (ps_ret (pe_op op_add (pv 3) (pv 4)))) pss_nil) (pss_cons (ps_if (pt_cmpR op_eq (pv 1) pe_int (nomark _)) (pss_one (ps_ret (pe_op op_sub (pv 3) (pv 4)))) pss_nil) (pss_cons (ps_if (pt_cmpR op_eq (pv 1) pe_int (nomark _)) (pss_one (ps_ret (pe_op op_and (pv 3) (pv 4)))) pss_nil) (pss_cons (ps_if (pt_cmpR op_eq (pv 1) pe_int (nomark _)) (pss_one (ps_ret (pe_op op_xor (pv 3) (pv 4)))) pss_nil) (pss_one (ps_ret (pe_op op_shr (pe_op op_add (pe_op op_mul (pv 3) pe_int) (pv 3)) (pe_op op_mod (pv 4) pe_int)))))))))))), ?main⟩
    walk_at "rd"
    unfold madeV dueE at k
    obtain ⟨l1, l2⟩ := bit_lt a0 a1 b0 b1
    refine ite2 (fun h => ?_) (fun h2 => ?_)
    · have o := of_decide_eq_true h
      rw [if_neg (by omega), if_pos o] at k
      exact ⟨by decide, k _ (by omega)⟩
    have h2 : opW w ≠ 2 := fun z => h2 (decide_eq_true z)
    rw [if_neg h2] at k
    refine ite2 (fun h => ?_) (fun h3 => ?_)
    · have o := of_decide_eq_true h
      rw [if_neg (by omega), if_pos o] at k
      exact ⟨by decide, .inr ⟨by decide, by decide⟩, k _ rfl⟩
    have h3 : opW w ≠ 3 := fun z => h3 (decide_eq_true z)
    rw [if_neg h3] at k
    refine ite2 (fun h => ?_) (fun h4 => ?_)
    · have o := of_decide_eq_true h
      rw [if_neg (by omega), if_pos o] at k
      exact k _ rfl
    have h4 : opW w ≠ 4 := fun z => h4 (decide_eq_true z)
    rw [if_neg h4] at k
    refine ite2 (fun h => ?_) (fun h5' => ?_)
    · have o := of_decide_eq_true h
      rw [if_pos o] at k
      cases hv : valV mem (.inl ((one + sE w) % 4294967296)) with
      | none => exact absurd hv (h5 o)
      | some v =>
        obtain ⟨n, rfl, n0, n1⟩ := hmi.2 _ _ hv
        have g : DGet H dm (V.int ((one + sE w) % 4294967296)) (some (V.int n)) := by rw [← hv]; exact DGet.k (k := Sum.inl _) hd
        exact ⟨by decide, _, g, k n (by unfold intAt; rw [hv]; show n % 4294967296 = n; omega)⟩
    have h5' : opW w ≠ 5 := fun z => h5' (decide_eq_true z)
    rw [if_neg h5'] at k
    refine ite2 (fun h => ?_) (fun h7 => ?_)
    · rw [if_pos (of_decide_eq_true h)] at k; exact k _ rfl
    rw [if_neg (fun z => h7 (decide_eq_true z))] at k
    refine ite2 (fun h => ?_) (fun h8 => ?_)
    · rw [if_pos (of_decide_eq_true h)] at k; exact k _ rfl
    rw [if_neg (fun z => h8 (decide_eq_true z))] at k
    refine ite2 (fun h => ?_) (fun h9 => ?_)
    · rw [if_pos (of_decide_eq_true h)] at k; exact k _ l1
    rw [if_neg (fun z => h9 (decide_eq_true z))] at k
    refine ite2 (fun h => ?_) (fun h10 => ?_)
    · rw [if_pos (of_decide_eq_true h)] at k; exact k _ l2
    rw [if_neg (fun z => h10 (decide_eq_true z))] at k
    exact ⟨.inr ⟨by decide, by decide⟩, by decide, by omega, k _ (turn_int a0 a1 b0)⟩
theorem G__law_onward (T : Txt K mg A) : FnOk P w K mg base CX0 2 A._law_onward A.fd__law_onward ["_law_op", "_law_word", "_law_here", "_law_one", "_law_other"] sp_onward := by
  refine T.F__law_onward.ok sc__law_onward (fun vs H Q E h => ?_) (fun cdv Ar outer s H vs Q E hr h => ?_)
  · obtain ⟨w, here, a, b, rfl, _⟩ := h
    rfl
  · obtain ⟨w, here, a, b, rfl, a0, a1, k⟩ := h
    refine ⟨_, (pss_cons (ps_if (pt_cmpR op_eq (pv 0) pe_int (nomark _)) (pss_one (ps_ret (pv 3))) pss_nil) (pss_cons (ps_if (pt_cmpR op_eq (pv 0) pe_int (nomark _)) (pss_one (ps_ret (pe_op op_add (pe_op op_add (pv 2) pe_int) (pe_call (G__law_near T) (hr.mono (by decide)) rfl T.m__law_near T.k__law_near T.b__law_near .nil pass0 (pa_cons (pv 1) pa_nil))))) pss_nil) (pss_cons (ps_if (PW.pt (pw_or (PW.pt (pw_and (pt_cmpR op_eq (pv 0) pe_int (nomark _)) (pw_and1 (pt_cmpR op_eq (pv 3) (pv 4) (nomark _))))) (pw_or1 (PW.pt (pw_and (pt_cmpR op_eq (pv 0) pe_int (nomark _)) (pw_and1 (pt_cmpR op_lt (pv 3) (pv 4) (nomark _)))))))) (pss_one (ps_ret (pe_op op_add (pe_op op_add (pv 2) pe_int) (pe_call (G__law_split T) (hr.mono (by decide)) rfl T.m__law_split T.k__law_split T.b__law_split .nil pass0 (pa_cons (pv 1) pa_nil))))) pss_nil) (pss_one (ps_ret (pe_op op_add (pv 2) pe_int)))))), ?main⟩
    walk_at "rd"
    have c1 : (here + 1 + nearW w) % 4294967296 = ((here + 1) % 4294967296 + nearW w) % 4294967296 := by omega
    have c2 : (here + 1 + splitW w) % 4294967296 = ((here + 1) % 4294967296 + splitW w) % 4294967296 := by omega
    refine ite2 (fun h => ?_) (fun h15 => ?_)
    · exact k a (by unfold onV; rw [if_pos (of_decide_eq_true h)]; omega)
    have h15 : opW w ≠ 15 := fun z => h15 (decide_eq_true z)
    refine ite2 (fun h => ?_) (fun h14 => ?_)
    · exact k _ (by unfold onV; rw [if_neg h15, if_pos (of_decide_eq_true h)]; exact c1)
    have h14 : opW w ≠ 14 := fun z => h14 (decide_eq_true z)
    have yes : (opW w = 12 ∧ a = b) ∨ (opW w = 13 ∧ a < b) → Q (V.int (here + 1 + splitW w)) H := fun z => k _ (by unfold onV; rw [if_neg h15, if_neg h14, if_pos z]; exact c2)
    have no : ¬ ((opW w = 12 ∧ a = b) ∨ (opW w = 13 ∧ a < b)) → Q (V.int (here + 1)) H := fun z => k _ (by unfold onV; rw [if_neg h15, if_neg h14, if_neg z])
    refine ite2 (fun h => ite2 (fun h' => yes (.inl ⟨of_decide_eq_true h, of_decide_eq_true h'⟩)) (fun h' => ite2 (fun z => ?_) (fun z => no ?_))) (fun h => ite2 (fun z => ite2 (fun z' => yes (.inr ⟨of_decide_eq_true z, of_decide_eq_true z'⟩)) (fun z' => no ?_)) (fun z => no ?_))
    · have := of_decide_eq_true h; have := of_decide_eq_true z; omega
    · rintro (y | y)
      · exact h' (decide_eq_true y.2)
      · exact z (decide_eq_true y.1)
    · rintro (y | y)
      · exact h (decide_eq_true y.1)
      · exact z' (decide_eq_true y.2)
    · rintro (y | y)
      · exact h (decide_eq_true y.1)
      · exact z (decide_eq_true y.1)
theorem G__law_done (T : Txt K mg A) : FnOk P w K mg base CX0 3 A._law_done A.fd__law_done ["_law_memory", "_law_row", "_law_told", "_law_here"] sp_done := by
  refine T.F__law_done.ok sc__law_done (fun vs H Q E h => ?_) (fun cdv Ar outer s H vs Q E hr h => ?_)
  · obtain ⟨dm, q, t, here, w, mem, rs, ts, rfl, _⟩ := h
    rfl
  · obtain ⟨dm, q, t, here, w, mem, rs, ts, rfl, own, ht, ne, hl, hv, nL, k0, k1⟩ := h
    refine ⟨_, (pss_cons (ps_set (i := 4) sc__law_done.nd rfl (by first | exact Or.inl rfl | exact Or.inr rfl) (pe_dget (hu_of hr) (pv 0) (pv 3) (fun _ _ => rfl))) (pss_cons (ps_set (i := 5) sc__law_done.nd rfl (by first | exact Or.inl rfl | exact Or.inr rfl) (pe_op op_fdiv (pv 4) pe_int)) (pss_cons (ps_set (i := 6) sc__law_done.nd rfl (by first | exact Or.inl rfl | exact Or.inr rfl) (pe_op op_mod (pe_op op_fdiv (pv 4) pe_int) pe_int)) (pss_cons (ps_set (i := 7) sc__law_done.nd rfl (by first | exact Or.inl rfl | exact Or.inr rfl) (pe_ix (ix_listK (K := K) rfl) (pv 1) (pe_op op_mod (pe_op op_fdiv (pv 4) pe_int) pe_int) (fun _ _ => rfl))) (pss_cons (ps_set (i := 8) sc__law_done.nd rfl (by first | exact Or.inl rfl | exact Or.inr rfl) (pe_ix (ix_listK (K := K) rfl) (pv 1) (pe_op op_mod (pe_op op_fdiv (pv 4) pe_int) pe_int) (fun _ _ => rfl))) (pss_cons (ps_set (i := 9) sc__law_done.nd rfl (by first | exact Or.inl rfl | exact Or.inr rfl) (pe_call (G__law_onward T) (hr.mono (by decide)) rfl T.m__law_onward T.k__law_onward T.b__law_onward .nil pass0 (pa_cons (pv 5) (pa_cons (pv 4) (pa_cons (pv 3) (pa_cons (pe_ix (ix_listK (K := K) rfl) (pv 1) (pv 6) (fun _ _ => rfl)) (pa_cons (pv 7) pa_nil))))))) (pss_cons (ps_if (pt_cmpR op_eq (pv 5) pe_int (nomark _)) (pss_one (ps_ret pe_non)) pss_nil) (pss_cons (ps_weak (u := dnS) (ps_if (pt_cmpR op_eq (pv 5) pe_int (nomark _)) (pss_one (ps_expr (pe_bm PySem.F.plainAttrs_list PySem.F.slot_list_append PySem.F.type_list_append mt_append (pv 2) (pa_cons (pe_ix (ix_listK (K := K) rfl) (pv 1) (pv 6) (fun _ _ => rfl)) pa_nil)))) (pss_one (ps_if (pt_cmpR op_eq (pv 5) pe_int (nomark _)) (pss_one (ps_dput (hu_of hr) (pv 0) (pe_op op_mod (pe_op op_add (pv 7) (pe_call (G__law_small T) (hr.mono (by decide)) rfl T.m__law_small T.k__law_small T.b__law_small .nil pass0 (pa_cons (pv 4) pa_nil))) pe_int) (pe_ix (ix_listK (K := K) rfl) (pv 1) (pv 6) (fun _ _ => rfl)) rfl)) (pss_one (ps_if (pt_cmpR op_eq (pv 5) pe_int (nomark _)) (pss_one (ps_asg (pe_op op_mod (pe_op op_add (pv 3) pe_int) pe_int) (pg_sub (pv 1) (pv 6) set_list))) (pss_one (ps_if (pt_cmpR op_lt (pv 5) pe_int (nomark _)) (pss_one (ps_asg (pe_op op_mod (pe_call (G__law_made T) (hr.mono (by decide)) rfl T.m__law_made T.k__law_made T.b__law_made .nil pass0 (pa_cons (pv 0) (pa_cons (pv 5) (pa_cons (pv 4) (pa_cons (pv 7) (pa_cons (pv 8) pa_nil)))))) pe_int) (pg_sub (pv 1) (pv 6) set_list))) pss_nil))))))) ?dn) (pss_one (ps_ret (pe_op op_mod (pv 9) pe_int))))))))))), ?main⟩
    case dn =>
      rintro D σ H ⟨dm, q, t, here, w, v, mem, rs, ts, rfl, own, ht, ne, hl, o0, nL, k⟩
      walk_at "rd"
      have hl8 := own.len
      have ob : 0 ≤ opW w ∧ opW w < 16 := by unfold opW; omega
      obtain ⟨va, ea, ga, ma⟩ := atI_int (rs := rs) (i := w / 33554432 % 8) (by omega) (by omega)
      obtain ⟨vb, _, gb, mb⟩ := atI_int (rs := rs) (i := w / 4194304 % 8) (by omega) (by omega)
      obtain ⟨vc, _, gc, mc⟩ := atI_int (rs := rs) (i := w / 524288 % 8) (by omega) (by omega)
      have ga : regA rs w = va := ga
      have gb : regB rs w = vb := gb
      have gc : regC rs w = vc := gc
      have ix : ixN (rs.map V.int).length (w / 33554432 % 8) = some (regW w 33554432) := by
        unfold ixN regW
        rw [if_pos (by omega), if_pos (by rw [List.length_map]; omega)]
      have qd : q ≠ dm := ne_of own.row own.dct (by intro z; cases z)
      have td : t ≠ dm := ne_of ht own.dct (by intro z; cases z)
      have ret : ∀ (H' : Hp) (mem' : List (Key × V)) (rs' ts' : List Int), (∀ b o, H b = some o → b ≠ dm → b ≠ q → b ≠ t → H' b = some o) → H' dm = some (.dK mem') → H' q = some (.lst (rs'.map V.int)) → H' t = some (.lst (ts'.map V.int)) → goMem mem rs w = mem' → goRsX mem here rs w = rs' → goTs ts rs w = ts' → D.nx [some (V.ref dm), some (V.ref q), some (V.ref t), some (V.int here), some (V.int w), some (V.int (opW w)), some (V.int (w / 33554432 % 8)), some (V.int (regB rs w)), some (V.int (regC rs w)), some (V.int v)] H' := by
        rintro H' _ _ _ fr a1 a2 a3 rfl rfl rfl
        exact k H' fr a1 a2 a3
      refine ite2 (fun h => ?_) (fun h1 => ?_)
      · have o := of_decide_eq_true h
        refine ⟨.inl ⟨rfl, _, SqL.of ht⟩, _, SqL.of own.row, _, ea, _, ht, by rw [List.length_map, sizeLine_eq]; omega, ?_⟩
        rw [show ts.map V.int ++ [V.int va] = (ts ++ [va]).map V.int from by simp]
        refine ret _ mem rs _ (fun b o e _ _ n => by rw [upd_ne n]; exact e) (by rw [upd_ne (Ne.symm td)]; exact own.dct) (by rw [upd_ne ne]; exact own.row) upd_same ?_ ?_ ?_
        · unfold goMem; rw [if_neg (by omega)]
        · unfold goRsX goRs; rw [if_neg (by omega), if_neg (by omega), if_neg (by omega), if_pos (.inr (.inl o))]
        · unfold goTs; rw [if_pos o, ga]
      have h1 : opW w ≠ 1 := fun z => h1 (decide_eq_true z)
      have e3 : goTs ts rs w = ts := by unfold goTs; rw [if_neg h1]
      refine ite2 (fun h => ?_) (fun h6 => ?_)
      · have o := of_decide_eq_true h
        refine ⟨_, SqL.of own.row, _, ea, by decide, _, DPut.k (k := Sum.inl (thereW rs w)) own.dct (by have := own.mi.1; rw [sizeLine_eq]; omega), ?_⟩
        refine ret _ _ rs ts (fun b o e n _ _ => by rw [upd_ne n]; exact e) upd_same (by rw [upd_ne qd]; exact own.row) (by rw [upd_ne td]; exact ht) ?_ ?_ e3
        · unfold goMem; rw [if_pos o, ga]
        · unfold goRsX; rw [if_neg (by omega), if_pos o]
      have h6 : opW w ≠ 6 := fun z => h6 (decide_eq_true z)
      have e1 : goMem mem rs w = mem := by unfold goMem; rw [if_neg h6]
      have set : ∀ n : Int, goRsX mem here rs w = rs.set (regW w 33554432) n → D.nx [some (V.ref dm), some (V.ref q), some (V.ref t), some (V.int here), some (V.int w), some (V.int (opW w)), some (V.int (w / 33554432 % 8)), some (V.int (regB rs w)), some (V.int (regC rs w)), some (V.int v)] (upd H q (HO.lst ((rs.map V.int).set (regW w 33554432) (V.int n)))) := fun n e => by
        rw [← List.map_set]
        exact ret _ mem _ ts (fun b o e _ n _ => by rw [upd_ne n]; exact e) (by rw [upd_ne (Ne.symm qd)]; exact own.dct) upd_same (by rw [upd_ne (Ne.symm ne)]; exact ht) e1 e e3
      refine ite2 (fun h => ?_) (fun h14 => ?_)
      · have o := of_decide_eq_true h
        exact ⟨by decide, _, own.row, _, ix, set _ (by unfold goRsX goRs; rw [if_neg (by omega), if_neg h6, if_pos o])⟩
      have h14 : opW w ≠ 14 := fun z => h14 (decide_eq_true z)
      refine ite2 (fun h => ?_) (fun h12 => ?_)
      · have o := of_decide_eq_true h
        refine ⟨w, rfl, rfl, mem, own.dct, own.mi, by rw [gb]; exact (own.ws vb mb).1, by rw [gb]; exact (own.ws vb mb).2, by rw [gc]; exact (own.ws vc mc).1, by rw [gc]; exact (own.ws vc mc).2, by unfold isOp; omega, fun o5 c => nL ⟨.inl o5, c⟩, fun v1 hv1 => ⟨by decide, _, own.row, _, ix, ?_⟩⟩
        rw [hv1]
        refine set _ ?_
        unfold goRsX madeV
        by_cases o5 : opW w = 5
        · rw [if_pos o5, if_pos o5]; rfl
        · rw [if_neg o5, if_neg h6, if_neg o5]
          unfold goRs
          rw [if_neg h14, if_neg (by omega)]; rfl
      have h12 : ¬ opW w < 12 := fun z => h12 (decide_eq_true z)
      refine ret H mem rs ts (fun b o e _ _ _ => e) own.dct own.row ht e1 ?_ e3
      unfold goRsX goRs
      rw [if_neg (by omega), if_neg h6, if_neg h14, if_pos (by omega)]
    walk_at "rd"
    obtain ⟨n, e, n0, n1⟩ := own.mi.2 _ _ hv
    cases e
    have g : DGet H dm (V.int here) (some (V.int w)) := by rw [← hv]; exact DGet.k (k := Sum.inl here) own.dct
    have eo : w / 268435456 = opW w := by unfold opW; omega
    have hl8 := own.len
    obtain ⟨va, ea, ga, ma⟩ := atI_int (rs := rs) (i := w / 33554432 % 8) (by omega) (by omega)
    obtain ⟨vb, eb, gb, mb⟩ := atI_int (rs := rs) (i := w / 4194304 % 8) (by omega) (by omega)
    obtain ⟨vc, ec, gc, mc⟩ := atI_int (rs := rs) (i := w / 524288 % 8) (by omega) (by omega)
    have ga : regA rs w = va := ga
    have gb : regB rs w = vb := gb
    have gc : regC rs w = vc := gc
    refine ⟨_, g, w, rfl, ⟨by decide, by decide⟩, w, rfl, ⟨by decide, by decide⟩, by decide, w, rfl, ⟨by decide, by decide⟩, by decide, _, SqL.of own.row, _, eb, w, rfl, ⟨by decide, by decide⟩, by decide, _, SqL.of own.row, _, ec, _, SqL.of own.row, _, ea, w, eo, rfl, va, rfl, vb, rfl, (own.ws va ma).1, (own.ws va ma).2, fun v hv' => ?_⟩
    rw [eo]
    refine ite2 (fun h => k0 (of_decide_eq_true h)) (fun h => ?_)
    have o0 : opW w ≠ 0 := fun z => h (decide_eq_true z)
    refine ⟨dm, q, t, here, w, v, mem, rs, ts, by rw [gb, gc], own, ht, ne, hl, o0, nL, fun H' fr h1 h2 h3 => ?_⟩
    walk_at "rd"
    have e : v % 4294967296 = goPl here rs w := by rw [hv']; unfold onV goPl; rw [ga, gb, if_neg o0]
    rw [e]
    exact ⟨by decide, k1 o0 H' fr h1 h2 h3⟩
theorem G__law_state (T : Txt K mg A) : FnOk P w K mg base CX0 2 A._law_state A.fd__law_state ["_law_found", "_law_due"] sp_lstate2 := by
  refine T.F__law_state.ok sc__law_state (fun vs H Q E h => ?_) (fun cdv Ar outer s H vs Q E hr h => ?_)
  · obtain ⟨q, q', pl, rs, ts, en, rfl, _⟩ := h
    rfl
  · obtain ⟨q, q', pl, rs, ts, en, rfl, ⟨r', t', f1⟩, ⟨r, t, f2⟩, hl1, hl2, k⟩ := h
    refine ⟨_, (pss_cons (ps_if (PW.pt (pw_or (pt_not (pt_val (pe_callB (call_isiK (K := K) rfl) (by rfl) T.n_isinstance bt_isinstance (pa_cons (pv 0) (pa_cons (pe_bltn rfl T.n_tuple bt_tuple relT) pa_nil))))) (pw_or (pt_cmpR (op_neDK hr.units (K := K) rfl) (pv 0) (pv 1) (nomark _)) (pw_or (pt_not (pt_val (pe_call (G__law_whole T) (hr.mono (by decide)) rfl T.m__law_whole T.k__law_whole T.b__law_whole .nil pass0 (pa_cons (pe_ix (ix_tupK (K := K) rfl) (pv 0) pe_int (fun _ _ => rfl)) pa_nil)))) (pw_or1 (pt_not (pt_val (pe_callB (call_isiK (K := K) rfl) (by rfl) T.n_isinstance bt_isinstance (pa_cons (pe_ix (ix_tupK (K := K) rfl) (pv 0) pe_int (fun _ _ => rfl)) (pa_cons (pe_bltn rfl T.n_bool bt_bool relT) pa_nil)))))))))) (pss_one (ps_ret pe_bl)) pss_nil) (pss_one (ps_ret (pe_cmpR (op_eqDK hr.units (K := K) rfl) (pe_comp (blk_mk (own := ["_law_number"]) (fr := []) (fm := []) rfl (by decide +kernel) (by decide +kernel) (by decide +kernel) .nil) rfl (pi_listK (K := K) rfl (pe_op (op_catSK (K := K) rfl) (pe_ix (ix_tupK (K := K) rfl) (pv 0) pe_int (fun _ _ => rfl)) (pe_ix (ix_tupK (K := K) rfl) (pv 0) pe_int (fun _ _ => rfl)))) (fun _ _ _ => ⟨(pg_name (i := 0) (by show List.Nodup (["_law_number"] : List Str); decide +kernel) rfl (by first | exact Or.inl rfl | exact Or.inr rfl)), (pts_one (pt_not (pt_val (pe_call (G__law_whole T) (hr.mono (by decide)) rfl T.m__law_whole T.k__law_whole T.b__law_whole .nil pass0 (pa_cons (pv 0) pa_nil))))), (pv 0)⟩)) (pe_lst pa_nil) (nomark _))))), ?main⟩
    walk_at "rd"
    have rl : ∀ {H : Hp} {l : Addr} {zs : List Int}, H l = some (HO.lst (zs.map V.int)) → Rep K H (.lst (zs.map D.int)) (V.ref l) := fun {H l zs} h => by
      simp only [Rep]
      exact ⟨_, _, rfl, SqL.of h, RepL.map fun z _ => by simp [Rep]⟩
    have rt : ∀ {H : Hp} {q r t : Addr}, H q = some (HO.tup [V.int pl, V.ref r, V.ref t, V.bl en]) → H r = some (HO.lst (rs.map V.int)) → H t = some (HO.lst (ts.map V.int)) → Rep K H (.tup [.int pl, .lst (rs.map D.int), .lst (ts.map D.int), .bl en]) (V.ref q) := fun {H q r t} h1 h2 h3 => by
      rw [Rep]
      refine ⟨_, _, rfl, SqT.of h1, ?_⟩
      simp only [RepL]
      exact ⟨_, _, rfl, by simp [Rep], _, _, rfl, rl h2, _, _, rfl, rl h3, _, _, rfl, by simp [Rep], rfl⟩
    refine ⟨_, .tup f1.top, true, rfl, ?_⟩
    rw [if_neg (by simp)]
    unfold rNeD
    refine ⟨_, _, .inr ⟨rt f1.top f1.row f1.tol, rt f2.top f2.row f2.tol⟩, ?_, ?_⟩
    · simp only [dep, depL]
      have e1 := depL_le (f := D.int) (n := 0) (xs := rs) fun x _ => by simp [dep]
      have e2 := depL_le (f := D.int) (n := 0) (xs := ts) fun x _ => by simp [dep]
      omega
    rw [deqL_refl]
    refine ⟨false, rfl, ?_⟩
    rw [if_neg (by simp)]
    refine ⟨_, SqT.of f1.top, _, rfl, pl, rfl, _, SqT.of f1.top, _, rfl, _, .bl en, true, rfl, ?_⟩
    rw [if_neg (by simp)]
    refine ⟨_, SqT.of f1.top, _, rfl, _, SqT.of f1.top, _, rfl, r', rfl, t', rfl, _, SqL.of f1.row, _, SqL.of f1.tol, by rw [List.length_map, List.length_map, sizeLine_eq]; omega, fun g hg => ?_⟩
    have sg := same_new (o := HO.lst (rs.map V.int ++ ts.map V.int)) hg
    have hgg : upd H g (HO.lst (rs.map V.int ++ ts.map V.int)) g = some (HO.lst ((rs ++ ts).map V.int)) := by rw [upd_same, List.map_append]
    have s2 := sg
    generalize upd H g (HO.lst (rs.map V.int ++ ts.map V.int)) = H2 at *
    refine CompL.of (xs := (rs ++ ts).map V.int) (by rw [List.length_map, List.length_append, sizeLine_eq]; omega) (SqL.of hgg) (fun D i ys H3 => Same H2 H3 ∧ H3 D = some (.lst []) ∧ ys = [])
      (fun D hD => ⟨same_new hD, upd_same, rfl⟩) ?_ ?_ ?_
    · rintro D i ys H3 hD hi ⟨s3, hDD, rfl⟩
      exact ⟨SqL.of (s3 _ _ hgg), hDD, Nat.zero_le _⟩
    · rintro D i x ys H3 hD hx ⟨s3, hDD, rfl⟩
      rw [List.getElem?_map] at hx
      obtain ⟨n, hn, rfl⟩ := Option.map_eq_some_iff.mp hx
      walk_at "rd"
      exact ⟨.no .nil, s3, hDD⟩
    · rintro D ys H3 hD ⟨s3, hDD, rfl⟩
      refine ⟨Nat.zero_le _, fun f hf => ?_⟩
      have sf := same_new (o := HO.lst []) hf
      unfold rEqD
      refine ⟨[], [], .inl ⟨?_, ?_⟩, by simp [depL], ?_⟩
      · simp only [Rep, RepL]; exact ⟨_, _, rfl, SqL.of (sf _ _ hDD), rfl⟩
      · simp only [Rep, RepL]; exact ⟨_, _, rfl, SqL.of upd_same, rfl⟩
      · exact k _ ((s2.trans s3).trans sf)
theorem Run.mono {C : Addr} {H H' : Hp} {M : MM} {mem : List (Key × V)} {pl : Int} {rs ts : List Int} {en : Bool} (h : Run C H M mem pl rs ts en) (s : Same H H') : Run C H' M mem pl rs ts en := ⟨h.mach.mono s, h.mi, h.len, h.ws, h.tl, h.p0, h.p1⟩
theorem St4.mono {H H' : Hp} {q r t : Addr} {pl : Int} {rs ts : List Int} {en : Bool} (h : St4 H q r t pl rs ts en) (s : Same H H') : St4 H' q r t pl rs ts en := ⟨s _ _ h.top, s _ _ h.row, s _ _ h.tol⟩
theorem StE.mono {H H' : Hp} {q : Addr} {pl : Int} {rs ts : List Int} {en : Bool} (h : StE H q pl rs ts en) (s : Same H H') : StE H' q pl rs ts en := by
  obtain ⟨r, t, h⟩ := h
  exact ⟨r, t, h.mono s⟩
theorem G__law_lost_at (T : Txt K mg A) : FnOk P w K mg base CX0 9 A._law_lost_at A.fd__law_lost_at ["_law_machine"] (sp_lostat A) := by
  refine T.F__law_lost_at.ok sc__law_lost_at (fun vs H Q E h => ?_) (fun cdv Ar outer s H vs Q E hr h => ?_)
  · obtain ⟨M, mem, pl, p, rs, ts, rfl, _⟩ := h
    rfl
  · obtain ⟨M, mem, pl, p, rs, ts, rfl, run, hL, k⟩ := h
    refine ⟨_, (pss_cons (ps_set (i := 1) sc__law_lost_at.nd rfl (by first | exact Or.inl rfl | exact Or.inr rfl) pe_non) (pss_cons (ps_tryAsK (K := K) rfl rfl rfl (i := 2) sc__law_lost_at.nd rfl rfl rfl T.mc_Lost (pssx_one (psx_expr (pex_meth0 (pv 0) T.cl_Machine T.me_Machine_go_on (G_Machine_go_on T) (hr.mono (by decide)) T.b_Machine_go_on .nil ))) (fun _ => (pss_one (ps_set (i := 1) sc__law_lost_at.nd rfl (by first | exact Or.inl rfl | exact Or.inr rfl) (pv 2))))) (pss_cons (ps_if (pt_cmpR op_isN (pv 1) pe_non (nomark _)) (pss_one (ps_ret pe_non)) pss_nil) (pss_one (ps_ret (pe_xfld (pv 1) rfl)))))), ?main⟩
    walk_at "rd"
    have xc : XCls K A.c_Lost := ⟨T.xg_Lost, T.xn_Lost, T.xl_Lost, T.sp_cl, T.tk_cl, T.xo_Lost, T.xb_Lost⟩
    have lk : List.lookup (Str.ofString "place") [(Str.ofString "place", V.int p)] = some (V.int p) := by simp [List.lookup]
    have m := run.mach
    refine ⟨_, _, m.top, rfl, M, rfl, mem, pl, rs, ts, false, m, run.mi, run.len, run.ws, by have := run.tl; omega, run.p0, run.p1, ?_⟩
    rcases hL with ⟨hv, rfl⟩ | ⟨word, hv, hL, rfl⟩
    · refine .inr (.inl ⟨rfl, hv, fun d H' s1 hd => ⟨_, rfl, ⟨T.ct_Lost, T.cb_Lost, T.ml⟩, .inr ⟨d, _, rfl, hd⟩, fun a ha => ?_⟩⟩)
      rw [if_neg (by simp)]
      exact ⟨_, d, upd_same, _, same_new ha _ _ hd, xc, T.hd_L, T.no_Lost_place, _, lk, k _ (s1.trans (same_new ha))⟩
    · refine .inr (.inr ⟨rfl, word, hv, fun n => absurd hL n, fun _ d H' s1 hd => ⟨_, rfl, ⟨T.ct_Lost, T.cb_Lost, T.ml⟩, .inr ⟨d, _, rfl, hd⟩, fun a ha => ?_⟩⟩)
      rw [if_neg (by simp)]
      exact ⟨_, d, upd_same, _, same_new ha _ _ hd, xc, T.hd_L, T.no_Lost_place, _, lk, k _ (s1.trans (same_new ha))⟩
theorem G__law_stays (T : Txt K mg A) : FnOk P w K mg base CX0 10 A._law_stays A.fd__law_stays ["_law_machine", "_law_due", "_law_lack"] (sp_stays A) := by
  refine T.F__law_stays.ok sc__law_stays (fun vs H Q E h => ?_) (fun cdv Ar outer s H vs Q E hr h => ?_)
  · obtain ⟨M, mem, pl, rs, ts, en, q, v, rfl, _⟩ := h
    rfl
  · obtain ⟨M, mem, pl, rs, ts, en, q, v, rfl, run, st, hc, k⟩ := h
    refine ⟨_, (pss_cons (ps_for PassesOwn.never rfl (pi_range1 rfl T.n_range (pa_cons pe_int pa_nil)) (pg_name (i := 3) sc__law_stays.nd rfl (by first | exact Or.inl rfl | exact Or.inr rfl)) (pss_cons (ps_if (pt_cmpR op_isN (pv 2) pe_non (nomark _)) (pss_one (ps_if (pt_cmpR op_isntB (pe_meth0 (pv 0) T.cl_Machine T.me_Machine_go_on (G_Machine_go_on T) (hr.mono (by decide)) T.b_Machine_go_on .nil pass0E ) pe_bl (nomark _)) (pss_one (ps_ret pe_bl)) pss_nil)) (pss_one (ps_if (pt_cmpR op_ne (pe_call (G__law_lost_at T) (hr.mono (by decide)) rfl T.m__law_lost_at T.k__law_lost_at T.b__law_lost_at .nil pass0 (pa_cons (pv 0) pa_nil)) (pv 2) (nomark _)) (pss_one (ps_ret pe_bl)) pss_nil))) (pss_weak (u := stB A.c_Machine) (pss_one (ps_if (pt_not (pt_val (pe_call (G__law_state T) (hr.mono (by decide)) rfl T.m__law_state T.k__law_state T.b__law_state .nil pass0 (pa_cons (pe_meth0 (pv 0) T.cl_Machine T.me_Machine_state (G_Machine_state T) (hr.mono (by decide)) T.b_Machine_state .nil pass0 ) (pa_cons (pv 1) pa_nil))))) (pss_one (ps_ret pe_bl)) pss_nil)) ?stb))) (pss_one (ps_ret pe_bl))), ?main⟩
    case stb =>
      rintro D σ H ⟨M, mem, pl, rs, ts, en, q, v, b, rfl, run, st, k⟩
      have m := run.mach
      walk_at "rd"
      refine ⟨_, _, m.top, rfl, M, rfl, mem, pl, rs, ts, en, m, fun q' r' t' H1 s1 hq' hr' ht' _ _ _ => ?_⟩
      exact ⟨pl, rs, ts, en, ⟨_, _, hq', hr', ht'⟩, st.mono s1, by rw [run.len]; decide, by have := run.tl; omega, fun H2 s2 => k H2 (s1.trans s2)⟩
    walk_at "rd"
    refine ForR.of (by decide) (by decide) (fun i σ H' => Same H H' ∧ ∃ b3 : Option V, σ = [some (V.ref M.x), some (V.ref q), some v, b3]) ⟨Same.refl _, _, rfl⟩ ?_ ?_
    · rintro i σ H1 hi ⟨s1, b3, rfl⟩
      have run1 := run.mono s1
      have m := run1.mach
      have st1 := st.mono s1
      rcases hc with ⟨rfl, rfl⟩ | ⟨rfl, p, rfl, hL⟩
      · walk_at "rd"
        rw [if_pos (by simp)]
        refine ⟨_, _, m.top, rfl, M, rfl, mem, pl, rs, ts, true, m, run.mi, run.len, run.ws, by have := run.tl; omega, run.p0, run.p1, .inl ⟨rfl, ?_⟩⟩
        rw [if_neg (by simp)]
        exact ⟨M, mem, pl, rs, ts, true, q, _, _, rfl, run1, st1, fun H' s' => ⟨s1.trans s', _, rfl⟩⟩
      · walk_at "rd"
        rw [if_neg (by simp)]
        refine ⟨M, rfl, mem, pl, p, rs, ts, run1, hL, fun H' s' => ?_⟩
        rw [if_neg (by simp)]
        exact ⟨M, mem, pl, rs, ts, false, q, _, _, rfl, run1.mono s', st1.mono s', fun H2 s2 => ⟨(s1.trans s').trans s2, _, rfl⟩⟩
    · rintro σ H1 ⟨s1, b3, rfl⟩
      walk_at "rd"
      exact k _ s1
theorem G__law_held (T : Txt K mg A) : FnOk P w K mg base CX0 2 A._law_held A.fd__law_held ["_law_held_here"] sp_held := by
  refine T.F__law_held.ok sc__law_held (fun vs H Q E h => ?_) (fun cdv Ar outer s H vs Q E hr h => ?_)
  · obtain ⟨l, hs, mods, rfl, _⟩ := h
    rfl
  · obtain ⟨l, hs, mods, rfl, hl, hn, hh, k⟩ := h
    refine ⟨_, (pss_cons (ps_for PassesOwn.never rfl (pi_listK (K := K) rfl (pv 0)) (pg_tupK (K := K) (n := 3) rfl rfl (pgs_cons (pg_name (i := 1) sc__law_held.nd rfl (by first | exact Or.inl rfl | exact Or.inr rfl)) (pgs_cons (pg_name (i := 2) sc__law_held.nd rfl (by first | exact Or.inl rfl | exact Or.inr rfl)) (pgs_cons (pg_name (i := 3) sc__law_held.nd rfl (by first | exact Or.inl rfl | exact Or.inr rfl)) pgs_nil)))) (pss_one (ps_if (PW.pt (pw_or (pt_cmpR (op_neDK hr.units (K := K) rfl) (pe_ix (ix_tupK (K := K) rfl) (pv 1) pe_int (fun _ _ => rfl)) (pv 2) (nomark _)) (pw_or1 (pt_cmpR op_ne (pe_callB (call_lenK (K := K) rfl) (by rfl) T.n_len bt_len (pa_cons (pe_ix (ix_tupK (K := K) rfl) (pv 1) pe_int (fun _ _ => rfl)) pa_nil)) (pv 3) (nomark _))))) (pss_one (ps_ret pe_bl)) pss_nil))) (pss_one (ps_ret pe_bl))), ?main⟩
    walk_at "rd"
    refine ForL.of (xs := hs.map V.ref) (fun i σ H' => Same H H' ∧ ∃ b1 b2 b3 : Option V, σ = [some (V.ref l), b1, b2, b3]) ⟨Same.refl _, _, _, _, rfl⟩ (fun i σ H' _ ⟨sm, _⟩ => SqL.of (sm _ _ hl)) ?_ ?_
    · rintro i x σ H1 hx ⟨s1, b1, b2, b3, rfl⟩
      rw [List.getElem?_map] at hx
      obtain ⟨h, hh', rfl⟩ := Option.map_eq_some_iff.mp hx
      obtain ⟨f, r, a, b, x, y, rs, ts, e1, e2, e3, e4, e5, hn, _⟩ := (hh h (List.mem_of_getElem? hh')).ex
      walk_at "rd"
      have rl : ∀ {H : Hp} {l : Addr} {zs : List Int}, H l = some (HO.lst (zs.map V.int)) → Rep K H (.lst (zs.map D.int)) (V.ref l) := fun {H l zs} h => by
        simp only [Rep]
        exact ⟨_, _, rfl, SqL.of h, RepL.map fun z _ => by simp [Rep]⟩
      refine ⟨_, SqT.of (s1 _ _ e1), rfl, _, _, rfl, _, _, rfl, _, _, rfl, rfl, f, rfl, _, SqT.of (s1 _ _ e2), _, rfl, ?_⟩
      unfold rNeD
      refine ⟨_, _, .inl ⟨rl (s1 _ _ e3), rl (s1 _ _ e4)⟩, ?_, ?_⟩
      · have e1 := depL_le (f := D.int) (n := 0) (xs := rs) fun x _ => by simp [dep]
        omega
      rw [deqL_refl]
      refine ⟨false, rfl, ?_⟩
      rw [if_neg (by simp)]
      refine ⟨f, rfl, _, SqT.of (s1 _ _ e2), _, rfl, ts.length, .inl ⟨_, SqL.of (s1 _ _ e5), by simp⟩, rfl, ?_⟩
      rw [if_neg (by simp)]
      exact s1
    · rintro σ H1 ⟨s1, b1, b2, b3, rfl⟩
      walk_at "rd"
      exact k _ s1
theorem putK_old {mem : List (Key × V)} {k : Key} {v : V} (h : valV mem k ≠ none) : (putK mem k v).length = mem.length := by
  have a : (mem.any fun kv => decide (kv.1 = k)) = true := by
    rw [valV_any]
    cases e : valV mem k with
    | none => exact absurd e h
    | some x => rfl
  unfold putK
  rw [if_pos a, List.length_map]
theorem reg_w {rs : List Int} (hl : rs.length = 8) (hw : Words rs) (w d : Int) : 0 ≤ rs.getD (regW w d) 0 ∧ rs.getD (regW w d) 0 ≤ 4294967295 := by
  obtain ⟨v, _, g, m⟩ := atI_int (rs := rs) (i := w / d % 8) (by omega) (by omega)
  have g : rs.getD (regW w d) 0 = v := g
  rw [g]
  exact hw v m
theorem goMem_mi {mem : List (Key × V)} {rs : List Int} {w : Int} (h : MemI mem) (hl : rs.length = 8) (hw : Words rs) (nL : ¬ lackW mem rs w) : MemI (goMem mem rs w) := by
  unfold goMem
  split
  · rename_i o
    have b := reg_w hl hw w 33554432
    refine ⟨by rw [putK_old (fun z => nL ⟨.inr o, z⟩)]; exact h.1, fun p v hv => ?_⟩
    rw [valV_put] at hv
    split at hv
    · cases hv; exact ⟨_, rfl, b.1, b.2⟩
    · exact h.2 p v hv
  · exact h
theorem due_lt {op one other w : Int} (a0 : 0 ≤ one) (a1 : one ≤ 4294967295) (b0 : 0 ≤ other) (b1 : other ≤ 4294967295) : 0 ≤ dueE op one other w ∧ dueE op one other w ≤ 4294967295 := by
  obtain ⟨l1, l2⟩ := bit_lt a0 a1 b0 b1
  unfold dueE
  split
  · omega
  split
  · omega
  split
  · omega
  split
  · omega
  split
  · omega
  split
  · omega
  split
  · omega
  unfold turnE
  omega
theorem words_set {rs : List Int} (hw : Words rs) {i : Nat} {n : Int} (h0 : 0 ≤ n) (h1 : n ≤ 4294967295) : Words (rs.set i n) := fun r hr => by
  rcases List.mem_or_eq_of_mem_set hr with z | z
  · exact hw r z
  · rw [z]; exact ⟨h0, h1⟩
theorem goRsX_ok {mem : List (Key × V)} {pl : Int} {rs : List Int} {w : Int} (h : MemI mem) (hl : rs.length = 8) (hw : Words rs) : (goRsX mem pl rs w).length = 8 ∧ Words (goRsX mem pl rs w) := by
  have bb := reg_w hl hw w 4194304
  have bc := reg_w hl hw w 524288
  unfold goRsX goRs stepR
  split
  · refine ⟨by rw [List.length_set]; exact hl, words_set hw ?_ ?_⟩ <;> unfold intAt <;> split
    · rename_i n e; obtain ⟨m, e', b⟩ := h.2 _ _ e; cases e'; exact b.1
    · decide
    · rename_i n e; obtain ⟨m, e', b⟩ := h.2 _ _ e; cases e'; exact b.2
    · decide
  split
  · exact ⟨hl, hw⟩
  split
  · exact ⟨by rw [List.length_set]; exact hl, words_set hw (by omega) (by omega)⟩
  split
  · exact ⟨hl, hw⟩
  · have := due_lt (op := opW w) (w := w) bb.1 bb.2 bc.1 bc.2
    exact ⟨by rw [List.length_set]; exact hl, words_set hw this.1 this.2⟩
theorem goPl_b {pl : Int} {rs : List Int} {w : Int} (hl : rs.length = 8) (hw : Words rs) (p0 : 0 ≤ pl) (p1 : pl ≤ 4294967295) : 0 ≤ goPl pl rs w ∧ goPl pl rs w ≤ 4294967295 := by
  have ba := reg_w hl hw w 33554432
  unfold goPl regA
  split
  · omega
  split
  · exact ba
  split
  · omega
  split <;> omega
theorem goTs_len {ts rs : List Int} {w : Int} : (goTs ts rs w).length ≤ ts.length + 1 := by
  unfold goTs
  split
  · simp
  · omega
theorem He.keep {H H' : Hp} {ms : List Addr} {h : Addr} (e : He H ms h) (k : ∀ b o, b ∉ ms → H b = some o → H' b = some o) : He H' ms h := by
  obtain ⟨f, r, a, b, x, y, rs, ts, e1, e2, e3, e4, e5, hn, no⟩ := e.ex
  exact ⟨f, r, a, b, x, y, rs, ts, k _ _ (no h (by simp)) e1, k _ _ (no f (by simp)) e2, k _ _ (no a (by simp)) e3, k _ _ (no r (by simp)) e4, k _ _ (no b (by simp)) e5, hn, no⟩
theorem RI.mono {C : Addr} {M : MM} {dm q t l : Addr} {mem : List (Key × V)} {pl : Int} {rs ts : List Int} {memL : List (Key × V)} {rsL tsL : List Int} {hs : List Addr} {en : Bool} {H0 H H' : Hp} (h : RI C M dm q t l mem pl rs ts memL rsL tsL hs en H0 H) (s : Same H H') : RI C M dm q t l mem pl rs ts memL rsL tsL hs en H0 H' :=
  ⟨h.ra, h.run.mono s, ⟨s _ _ h.own.dct, s _ _ h.own.row, h.own.mi, h.own.len, h.own.ws⟩, s _ _ h.tol, s _ _ h.hl, fun x hx => (h.held x hx).keep fun b o _ e => s b o e, fun b o e n => s _ _ (h.fr b o e n)⟩
theorem RI.out {C : Addr} {M : MM} {dm q t l : Addr} {mem : List (Key × V)} {pl : Int} {rs ts rsL tsL : List Int} {hs : List Addr} {en : Bool} {H0 H : Hp} {R : V → Hp → Prop} (h : RI C M dm q t l mem pl rs ts mem rsL tsL hs en H0 H) (k : KK C M dm q H0 R) : R (.bl true) H := k mem pl rs ts en H h.fr h.run.mach h.own.dct h.run.mi
theorem RI.full {C : Addr} {M : MM} {dm q t l : Addr} {mem : List (Key × V)} {pl : Int} {rs ts : List Int} {memL : List (Key × V)} {rsL tsL : List Int} {hs : List Addr} {en : Bool} {H0 H : Hp} (h : RI C M dm q t l mem pl rs ts memL rsL tsL hs en H0 H) : ∀ c ∈ mods M dm q t l, ∃ o, H c = some o ∧ ∀ xs, o ≠ .tup xs := fun c hc => by
  simp only [mods, MM.as, List.mem_cons, List.not_mem_nil, or_false] at hc
  rcases hc with rfl | rfl | rfl | rfl | rfl | rfl | rfl | rfl
  · exact ⟨_, h.own.dct, fun _ z => by cases z⟩
  · exact ⟨_, h.own.row, fun _ z => by cases z⟩
  · exact ⟨_, h.tol, fun _ z => by cases z⟩
  · exact ⟨_, h.hl, fun _ z => by cases z⟩
  · exact ⟨_, h.run.mach.top, fun _ z => by cases z⟩
  · exact ⟨_, h.run.mach.mem, fun _ z => by cases z⟩
  · exact ⟨_, h.run.mach.reg, fun _ z => by cases z⟩
  · exact ⟨_, h.run.mach.tol, fun _ z => by cases z⟩
theorem Mach.keep {C : Addr} {H H' : Hp} {M : MM} {mem : List (Key × V)} {pl : Int} {rs ts : List Int} {en : Bool} (h : Mach C H M mem pl rs ts en) (e : ∀ b o, b ∈ M.as → H b = some o → H' b = some o) : Mach C H' M mem pl rs ts en :=
  ⟨e _ _ (by simp [MM.as]) h.top, e _ _ (by simp [MM.as]) h.mem, e _ _ (by simp [MM.as]) h.reg, e _ _ (by simp [MM.as]) h.tol, h.nd⟩
theorem RI.push {C : Addr} {M : MM} {dm q t l : Addr} {mem : List (Key × V)} {pl : Int} {rs ts : List Int} {memL : List (Key × V)} {rsL tsL : List Int} {hs hs' : List Addr} {en : Bool} {H0 H : Hp} (h : RI C M dm q t l mem pl rs ts memL rsL tsL hs en H0 H) (hh : ∀ x ∈ hs', He H (mods M dm q t l) x) : RI C M dm q t l mem pl rs ts memL rsL tsL hs' en H0 (upd H l (.lst (hs'.map V.ref))) := by
  have nl : ∀ b ∈ M.as, b ≠ l := fun b hb z => h.ra.ap l (by simp) (z ▸ hb)
  refine ⟨h.ra, ⟨h.run.mach.keep fun b o hb e => by rw [upd_ne (nl b hb)]; exact e, h.run.mi, h.run.len, h.run.ws, h.run.tl, h.run.p0, h.run.p1⟩, ⟨by rw [upd_ne (ne_of h.own.dct h.hl (by intro z; cases z))]; exact h.own.dct, by rw [upd_ne h.ra.ql]; exact h.own.row, h.own.mi, h.own.len, h.own.ws⟩, by rw [upd_ne h.ra.tl]; exact h.tol, upd_same, fun x hx => (hh x hx).keep fun b o nb e => ?_, fun b o e n => ?_⟩
  · rw [upd_ne (fun z => nb (by simp [mods, z]))]; exact e
  · rw [upd_ne (ne_of_none e h.ra.nl)]; exact h.fr b o e n
theorem G__law_runs (T : Txt K mg A) : FnOk P w K mg base CX0 11 A._law_runs A.fd__law_runs ["_law_machine", "_law_memory", "_law_row", "_law_here", "_law_most"] (sp_runs A) := by
  refine T.F__law_runs.ok sc__law_runs (fun vs H Q E h => ?_) (fun cdv Ar outer s H vs Q E hr h => ?_)
  · obtain ⟨M, dm, q, here, mem, rs, rfl, _⟩ := h
    rfl
  · obtain ⟨M, dm, q, here, mem, rs, rfl, run, own, ap, k⟩ := h
    refine ⟨_, (pss_cons (ps_set (i := 5) sc__law_runs.nd rfl (by first | exact Or.inl rfl | exact Or.inr rfl) (pe_lst pa_nil)) (pss_cons (ps_set (i := 6) sc__law_runs.nd rfl (by first | exact Or.inl rfl | exact Or.inr rfl) (pe_lst pa_nil)) (pss_cons (ps_for PassesOwn.never rfl (pi_range1 rfl T.n_range (pa_cons (pv 4) pa_nil)) (pg_name (i := 7) sc__law_runs.nd rfl (by first | exact Or.inl rfl | exact Or.inr rfl)) (pss_cons (ps_set (i := 8) sc__law_runs.nd rfl (by first | exact Or.inl rfl | exact Or.inr rfl) (pe_call (G__law_lacks T) (hr.mono (by decide)) rfl T.m__law_lacks T.k__law_lacks T.b__law_lacks .nil pass0 (pa_cons (pv 1) (pa_cons (pv 2) (pa_cons (pv 3) pa_nil))))) (pss_weak (u := r1 A.c_Machine) (pss_cons (ps_if (pt_cmpR op_notN (pv 8) pe_non (nomark _)) (pss_one (ps_ret (pe_and (pe_call (G__law_stays T) (hr.mono (by decide)) rfl T.m__law_stays T.k__law_stays T.b__law_stays .nil pass0 (pa_cons (pv 0) (pa_cons (pe_tup (pa_cons (pv 3) (pa_cons (pv 2) (pa_cons (pv 5) (pa_cons pe_bl pa_nil))))) (pa_cons (pv 8) pa_nil)))) (pe_one (pe_call (G__law_held T) (hr.mono (by decide)) rfl T.m__law_held T.k__law_held T.b__law_held .nil pass0 (pa_cons (pv 6) pa_nil)))))) pss_nil) (pss_weak (u := r2 A.c_Machine) (pss_cons (ps_set (i := 9) sc__law_runs.nd rfl (by first | exact Or.inl rfl | exact Or.inr rfl) (pe_call (G__law_done T) (hr.mono (by decide)) rfl T.m__law_done T.k__law_done T.b__law_done .nil pass0 (pa_cons (pv 1) (pa_cons (pv 2) (pa_cons (pv 5) (pa_cons (pv 3) pa_nil)))))) (pss_weak (u := r3 A.c_Machine) (pss_cons (ps_if (pt_cmpR op_isntB (pe_meth0 (pv 0) T.cl_Machine T.me_Machine_go_on (G_Machine_go_on T) (hr.mono (by decide)) T.b_Machine_go_on .nil pass0E ) pe_bl (nomark _)) (pss_one (ps_ret pe_bl)) pss_nil) (pss_weak (u := r4 A.c_Machine) (pss_cons (ps_if (pt_cmpR op_isN (pv 9) pe_non (nomark _)) (pss_one (ps_ret (pe_and (pe_call (G__law_stays T) (hr.mono (by decide)) rfl T.m__law_stays T.k__law_stays T.b__law_stays .nil pass0 (pa_cons (pv 0) (pa_cons (pe_tup (pa_cons (pv 3) (pa_cons (pv 2) (pa_cons (pv 5) (pa_cons pe_bl pa_nil))))) (pa_cons pe_non pa_nil)))) (pe_one (pe_call (G__law_held T) (hr.mono (by decide)) rfl T.m__law_held T.k__law_held T.b__law_held .nil pass0 (pa_cons (pv 6) pa_nil)))))) pss_nil) (pss_weak (u := r5 A.c_Machine) (pss_cons (ps_set (i := 3) sc__law_runs.nd rfl (by first | exact Or.inl rfl | exact Or.inr rfl) (pv 9)) (pss_cons (ps_set (i := 10) sc__law_runs.nd rfl (by first | exact Or.inl rfl | exact Or.inr rfl) (pe_meth0 (pv 0) T.cl_Machine T.me_Machine_state (G_Machine_state T) (hr.mono (by decide)) T.b_Machine_state .nil pass0 )) (pss_cons (ps_if (pt_not (pt_val (pe_call (G__law_state T) (hr.mono (by decide)) rfl T.m__law_state T.k__law_state T.b__law_state .nil pass0 (pa_cons (pv 10) (pa_cons (pe_tup (pa_cons (pv 3) (pa_cons (pv 2) (pa_cons (pv 5) (pa_cons pe_bl pa_nil))))) pa_nil))))) (pss_one (ps_ret pe_bl)) pss_nil) (pss_one (ps_expr (pe_bm PySem.F.plainAttrs_list PySem.F.slot_list_append PySem.F.type_list_append mt_append (pv 6) (pa_cons (pe_tup (pa_cons (pv 10) (pa_cons (pe_callTy (call_list_ofK (K := K) rfl) (by rfl) T.n_list bt_list (pa_cons (pv 2) pa_nil)) (pa_cons (pe_callB (call_lenK (K := K) rfl) (by rfl) T.n_len bt_len (pa_cons (pv 5) pa_nil)) pa_nil)))) pa_nil))))))) ?r5)) ?r4)) ?r3)) ?r2)) ?r1))) (pss_one (ps_ret (pe_call (G__law_held T) (hr.mono (by decide)) rfl T.m__law_held T.k__law_held T.b__law_held .nil pass0 (pa_cons (pv 6) pa_nil))))))), ?main⟩
    case r1 =>
      rintro D σ H ⟨M, dm, q, t, l, mem, pl, rs, ts, hs, x4, x7, x9, x10, v, H0, rfl, ri, hn, hts, hc, kk, nx⟩
      unfold σ54 at *
      walk_at "rd"
      rcases hc with ⟨p, rfl, hL⟩ | ⟨rfl, w, hv, nL⟩
      · rw [if_pos (by simp)]
        refine ⟨by rw [sizeLine_eq]; decide, fun p1 hp1 => ?_⟩
        have ri1 := ri.mono (same_new (o := HO.tup [V.int pl, V.ref q, V.ref t, V.bl false]) hp1)
        refine ⟨M, rfl, mem, pl, rs, ts, false, ri1.run, ⟨q, t, upd_same, ri1.own.row, ri1.tol⟩, .inr ⟨rfl, p, rfl, hL⟩, fun H' s' => ?_⟩
        have ri2 := ri1.mono s'
        exact ⟨hs, ri2.hl, by omega, _, ri2.held, fun H2 s2 => (ri2.mono s2).out kk⟩
      · rw [if_neg (by simp)]
        exact ⟨M, dm, q, t, l, mem, pl, w, rs, ts, hs, x4, x7, _, x9, x10, H0, rfl, ri, hn, hts, hv, nL, kk, nx⟩
    case r2 =>
      rintro D σ H ⟨M, dm, q, t, l, mem, pl, w, rs, ts, hs, x4, x7, x8, x9, x10, H0, rfl, ri, hn, hts, hv, nL, kk, nx⟩
      unfold σ54 at *
      walk_at "rd"
      have mi := goMem_mi (w := w) ri.own.mi ri.own.len ri.own.ws nL
      obtain ⟨gl, gw⟩ := goRsX_ok (w := w) (pl := pl) ri.own.mi ri.own.len ri.own.ws
      refine ⟨w, mem, rs, ri.own, ts, ri.tol, ri.ra.qt, by omega, hv, nL, fun o0 => ?_, fun o0 H' fr h1 h2 h3 => ?_⟩
      · have e1 : mem = goMem mem rs w := by unfold goMem; rw [if_neg (by omega)]
        have e2 : rs = goRsX mem pl rs w := by unfold goRsX goRs; rw [if_neg (by omega), if_neg (by omega), if_neg (by omega), if_pos (.inl o0)]
        have e3 : ts = goTs ts rs w := by unfold goTs; rw [if_neg (by omega)]
        exact ⟨M, dm, q, t, l, mem, mem, pl, w, rs, ts, rs, ts, hs, x4, x7, x8, x10, .non, H0, rfl, ri, hn, hts, hv, nL, e1, e2, e3, .inl ⟨o0, rfl⟩, kk, nx⟩
      · have off : ∀ b o, b ∈ M.as → H b = some o → H' b = some o := fun b o hb e => fr b o e (fun z => ri.ra.ap dm (by simp) (z ▸ hb)) (fun z => ri.ra.ap q (by simp) (z ▸ hb)) (fun z => ri.ra.ap t (by simp) (z ▸ hb))
        have rn := ri.run
        exact ⟨M, dm, q, t, l, mem, goMem mem rs w, pl, w, rs, ts, _, _, hs, x4, x7, x8, x10, .int (goPl pl rs w), H0, rfl, ⟨ri.ra, ⟨rn.mach.keep off, rn.mi, rn.len, rn.ws, rn.tl, rn.p0, rn.p1⟩, ⟨h1, h2, mi, gl, gw⟩, h3, fr l _ ri.hl (ne_of ri.hl ri.own.dct (by intro z; cases z)) (Ne.symm ri.ra.ql) (Ne.symm ri.ra.tl), fun x hx => (ri.held x hx).keep fun b o nb e => fr b o e (fun z => nb (by simp [mods, z])) (fun z => nb (by simp [mods, z])) (fun z => nb (by simp [mods, z])), fun b o e n => fr b o (ri.fr b o e n) (fun z => n (by simp [z])) (fun z => n (by simp [z])) (ne_of_none e ri.ra.nt)⟩, hn, hts, hv, nL, rfl, rfl, rfl, .inr ⟨o0, rfl⟩, kk, nx⟩
    case r3 =>
      rintro D σ H ⟨M, dm, q, t, l, mem, memL, pl, w, rs, ts, rsL, tsL, hs, x4, x7, x8, x10, v, H0, rfl, ri, hn, hts, hv, nL, e1, e2, e3, hc, kk, nx⟩
      unfold σ54 at *
      walk_at "rd"
      have m := ri.run.mach
      have rn := ri.run
      have mi := goMem_mi (w := w) rn.mi rn.len rn.ws nL
      obtain ⟨gl, gw⟩ := goRsX_ok (w := w) (pl := pl) rn.mi rn.len rn.ws
      obtain ⟨g0, g1⟩ := goPl_b (w := w) rn.len rn.ws rn.p0 rn.p1
      have gt := goTs_len (ts := ts) (rs := rs) (w := w)
      refine ⟨_, _, m.top, rfl, M, rfl, mem, pl, rs, ts, false, m, rn.mi, rn.len, rn.ws, by omega, rn.p0, rn.p1, .inr (.inr ⟨rfl, w, hv, fun _ H' off m' => ?_, fun L => absurd L nL⟩)⟩
      rw [if_neg (by simp)]
      have of : ∀ b o, b ∉ M.as → H b = some o → H' b = some o := fun b o n e => off b o e (fun z => n (by simp [MM.as, z])) (fun z => n (by simp [MM.as, z])) (fun z => n (by simp [MM.as, z])) (fun z => n (by simp [MM.as, z]))
      subst e1
      subst e2
      subst e3
      refine ⟨M, dm, q, t, l, goMem mem rs w, goPl pl rs w, pl, goRsX mem pl rs w, goTs ts rs w, hs, x4, x7, x8, x10, v, hs.length, ts.length, decide (opW w = 0), H0, rfl, ⟨ri.ra, ⟨m', mi, gl, gw, by omega, g0, g1⟩, ⟨of _ _ (ri.ra.ap dm (by simp)) ri.own.dct, of _ _ (ri.ra.ap q (by simp)) ri.own.row, mi, gl, gw⟩, of _ _ (ri.ra.ap t (by simp)) ri.tol, of _ _ (ri.ra.ap l (by simp)) ri.hl, fun x hx => (ri.held x hx).keep fun b o nb e => of b o (fun z => nb (by simp [mods, z])) e, fun b o e n => of b o (fun z => n (by simp [z])) (ri.fr b o e n)⟩, hn, by omega, Nat.le_refl _, by omega, ?_, kk, nx⟩
      rcases hc with ⟨o0, rfl⟩ | ⟨o0, rfl⟩
      · exact .inl ⟨decide_eq_true o0, rfl, by unfold goPl; rw [if_pos o0]⟩
      · exact .inr ⟨decide_eq_false o0, rfl⟩
    case r4 =>
      rintro D σ H ⟨M, dm, q, t, l, mem, pl, h, rs, ts, hs, x4, x7, x8, x10, v, n, m, en, H0, rfl, ri, hn, hts, hn2, hm2, hc, kk, nx⟩
      unfold σ54 at *
      walk_at "rd"
      rcases hc with ⟨rfl, rfl, rfl⟩ | ⟨rfl, rfl⟩
      · rw [if_pos (by simp)]
        refine ⟨by rw [sizeLine_eq]; decide, fun p1 hp1 => ?_⟩
        have ri1 := ri.mono (same_new (o := HO.tup [V.int h, V.ref q, V.ref t, V.bl true]) hp1)
        refine ⟨M, rfl, mem, h, rs, ts, true, ri1.run, ⟨q, t, upd_same, ri1.own.row, ri1.tol⟩, .inl rfl, fun H' s' => ?_⟩
        have ri2 := ri1.mono s'
        exact ⟨hs, ri2.hl, by omega, _, ri2.held, fun H2 s2 => (ri2.mono s2).out kk⟩
      · rw [if_neg (by simp)]
        exact ⟨M, dm, q, t, l, mem, pl, rs, ts, hs, _, x4, x7, x8, x10, n, m, H0, rfl, ri, hn, hts, hn2, hm2, nx⟩
    case r5 =>
      rintro D σ H ⟨M, dm, q, t, l, mem, pl, rs, ts, hs, x3, x4, x7, x8, x10, n, m, H0, rfl, ri, hn, hts, hn2, hm2, nx⟩
      unfold σ54 at *
      walk_at "rd"
      have m := ri.run.mach
      refine ⟨_, _, m.top, rfl, M, rfl, mem, pl, rs, ts, false, m, fun f a b H1 s1 hf ha hb na nb nab => ⟨by rw [sizeLine_eq]; decide, fun p hp => ?_⟩⟩
      have s2 := same_new (o := HO.tup [V.int pl, V.ref q, V.ref t, V.bl false]) hp
      have ri2 := (ri.mono s1).mono s2
      refine ⟨pl, rs, ts, false, ⟨a, b, s2 _ _ hf, s2 _ _ ha, s2 _ _ hb⟩, ⟨q, t, upd_same, ri2.own.row, ri2.tol⟩, by rw [ri.run.len]; decide, by omega, fun H3 s3 => ?_⟩
      have ri3 := ri2.mono s3
      have s23 := s2.trans s3
      refine ⟨.inl ⟨rfl, _, SqL.of ri3.hl⟩, _, .inl (SqL.of ri3.own.row), fun c hc => ?_⟩
      have s4 := same_new (o := HO.lst (rs.map V.int)) hc
      have ri4 := ri3.mono s4
      refine ⟨ts.length, .inl ⟨_, SqL.of ri4.tol, by simp⟩, by rw [sizeLine_eq]; decide, fun h hh => ?_⟩
      have s5 := same_new (o := HO.tup [V.ref f, V.ref c, V.int ts.length]) hh
      have ri5 := ri4.mono s5
      have s45 := s4.trans s5
      refine ⟨_, ri5.hl, by rw [List.length_map, sizeLine_eq]; omega, ?_⟩
      rw [show hs.map V.ref ++ [V.ref h] = (hs ++ [h]).map V.ref from by simp]
      have s25 := s23.trans s45
      have fresh : ∀ x, H x = none → x ∉ mods M dm q t l := fun x hx hm => by obtain ⟨o, e, _⟩ := ri.full x hm; rw [hx] at e; cases e
      have fresh3 : ∀ x, H3 x = none → x ∉ mods M dm q t l := fun x hx hm => by obtain ⟨o, e, _⟩ := ri3.full x hm; rw [hx] at e; cases e
      have tup5 : ∀ x xs, upd (upd H3 c (HO.lst (rs.map V.int))) h (HO.tup [V.ref f, V.ref c, V.int ts.length]) x = some (.tup xs) → x ∉ mods M dm q t l := fun x xs hx hm => by obtain ⟨o, e, z⟩ := ri5.full x hm; rw [hx] at e; exact z xs (Option.some.inj e).symm
      have hf5 := s25 _ _ hf
      refine nx mem pl rs ts (hs ++ [h]) _ _ _ _ (ri5.push fun x hx => ?_) (by rw [List.length_append]; show hs.length + 1 ≤ _; omega) (by omega)
      rcases List.mem_append.mp hx with z | z
      · exact ri5.held x z
      · rw [List.mem_singleton.mp z]
        refine ⟨f, c, a, b, V.int pl, V.bl false, rs, ts, upd_same, hf5, s25 _ _ ha, s5 _ _ upd_same, s25 _ _ hb, by rw [ri.run.len]; decide, fun y hy => ?_⟩
        simp only [List.mem_cons, List.not_mem_nil, or_false] at hy
        rcases hy with rfl | rfl | rfl | rfl | rfl
        · exact tup5 _ _ upd_same
        · exact tup5 _ _ hf5
        · exact fresh3 _ hc
        · exact fresh _ na
        · exact fresh _ nb
    walk_at "rd"
    refine ⟨Nat.zero_le _, fun t ht => ⟨Nat.zero_le _, fun l hl => ?_⟩⟩
    have s1 := same_new (o := HO.lst []) ht
    have s2 := same_new (o := HO.lst []) hl
    have s12 := s1.trans s2
    have as : ∀ c ∈ dm :: q :: M.as, ∃ o, H c = some o := fun c hc => by
      simp only [MM.as, List.mem_cons, List.not_mem_nil, or_false] at hc
      rcases hc with rfl | rfl | rfl | rfl | rfl | rfl
      · exact ⟨_, own.dct⟩
      · exact ⟨_, own.row⟩
      · exact ⟨_, run.mach.top⟩
      · exact ⟨_, run.mach.mem⟩
      · exact ⟨_, run.mach.reg⟩
      · exact ⟨_, run.mach.tol⟩
    have nt : ∀ c ∈ dm :: q :: M.as, c ≠ t := fun c hc z => by obtain ⟨o, e⟩ := as c hc; rw [z, ht] at e; cases e
    have hl0 : H l = none := same_no s1 hl
    have nl : ∀ c ∈ dm :: q :: M.as, c ≠ l := fun c hc z => by obtain ⟨o, e⟩ := as c hc; rw [z, hl0] at e; cases e
    have tl : t ≠ l := ne_of_none (upd_same) hl
    have ra : RA M dm q t l H := ⟨fun c hc => by
      simp only [List.mem_cons, List.not_mem_nil, or_false] at hc
      rcases hc with rfl | rfl | rfl | rfl
      · exact ap _ (by simp)
      · exact ap _ (by simp)
      · exact fun z => nt _ (by simp [z]) rfl
      · exact fun z => nl _ (by simp [z]) rfl, nt q (by simp), nl q (by simp), tl, ht, hl0⟩
    refine ForR.of (by decide) (by decide) (fun i σ H' => ∃ (mem : List (Key × V)) (pl : Int) (rs ts : List Int) (hs : List Addr) (x7 x8 x9 x10 : Option V), σ = σ54 M dm q t l (.int pl) (some (V.int 60)) x7 x8 x9 x10 ∧ RI A.c_Machine M dm q t l mem pl rs ts mem rs ts hs false H H' ∧ hs.length ≤ i ∧ ts.length ≤ i)
      ⟨mem, here, rs, [], [], _, _, _, _, rfl, ⟨ra, run.mono s12, ⟨s12 _ _ own.dct, s12 _ _ own.row, own.mi, own.len, own.ws⟩, s2 _ _ upd_same, upd_same, fun x hx => (nomatch hx), fun b o e _ => s12 _ _ e⟩, Nat.le_refl _, Nat.le_refl _⟩ ?_ ?_
    · rintro i σ H1 hi ⟨mem, pl, rs, ts, hs, x7, x8, x9, x10, rfl, ri, hn, hts⟩
      have hi : i < 60 := hi
      have nx : ∀ D : Ends, D.nx = (fun σ H' => ∃ (mem : List (Key × V)) (pl : Int) (rs ts : List Int) (hs : List Addr) (x7 x8 x9 x10 : Option V), σ = σ54 M dm q t l (.int pl) (some (V.int 60)) x7 x8 x9 x10 ∧ RI A.c_Machine M dm q t l mem pl rs ts mem rs ts hs false H H' ∧ hs.length ≤ i + 1 ∧ ts.length ≤ i + 1) → NX A.c_Machine M dm q t l (some (V.int 60)) (some (V.int (i : Int))) hs.length ts.length H D := fun D e mem pl rs ts hs x8 x9 x10 H' ri h1 h2 => by
        rw [e]
        exact ⟨mem, pl, rs, ts, hs, _, x8, x9, x10, rfl, ri, by omega, by omega⟩
      have go : ∀ (v : V) (H2 : Hp), Same H1 H2 → ((∃ p, v = .int p ∧ LostAt mem rs pl p) ∨ (v = .non ∧ ∃ w : Int, valV mem (.inl pl) = some (.int w) ∧ ¬ lackW mem rs w)) → ∀ D : Ends, KK A.c_Machine M dm q H D.rt → NX A.c_Machine M dm q t l (some (V.int 60)) (some (V.int (i : Int))) hs.length ts.length H D → r1 A.c_Machine D (σ54 M dm q t l (.int pl) (some (V.int 60)) (some (V.int (i : Int))) (some v) x9 x10) H2 := fun v H2 s' hc D kk nx => ⟨M, dm, q, t, l, mem, pl, rs, ts, hs, _, _, x9, x10, v, H, rfl, ri.mono s', by omega, by omega, hc, kk, nx⟩
      unfold σ54 at go ⊢
      walk_at "rd"
      refine ⟨mem, rs, ri.own, fun hv => go _ _ (Same.refl _) (.inl ⟨pl, rfl, .inl ⟨hv, rfl⟩⟩) _ k (nx _ rfl), fun w hv H2 s' => ⟨fun L => go _ _ s' (.inl ⟨_, rfl, .inr ⟨w, hv, L, rfl⟩⟩) _ k (nx _ rfl), fun nL => go _ _ s' (.inr ⟨rfl, w, hv, nL⟩) _ k (nx _ rfl)⟩⟩
    · rintro σ H1 ⟨mem, pl, rs, ts, hs, x7, x8, x9, x10, rfl, ri, hn, hts⟩
      have hn : hs.length ≤ 60 := hn
      unfold σ54
      walk_at "rd"
      exact ⟨hs, ri.hl, by omega, _, ri.held, fun H' s' => (ri.mono s').out k⟩
theorem for2 {g : TG} {tb : TS} {D : Ends} {σ : L2.St} {H : Hp} {lo hi : Int} (h : -(2 ^ 62) ≤ lo ∧ lo < 2 ^ 62 ∧ -(2 ^ 62) ≤ hi ∧ hi < 2 ^ 62) (Pv : Nat → L2.St → Hp → Prop) (h0 : Pv 0 σ H)
    (hs : ∀ i σ H, i < (hi - lo).toNat → Pv i σ H → g (.int (lo + i)) σ H fun σ2 H2 => tb { D with nx := Pv (i + 1), ct := Pv (i + 1), bk := D.nx } σ2 H2) (hd : ∀ σ H, Pv (hi - lo).toNat σ H → D.nx σ H) : ForR2 g tb D σ [.int lo, .int hi] H :=
  ⟨lo, hi, rfl, h, for_range Pv h0 hs hd⟩
theorem MemI.put {mem : List (Key × V)} (h : MemI mem) (hl : mem.length ≤ 900) {n : Int} (h0 : 0 ≤ n) (h1 : n ≤ 4294967295) (p : Int) : MemI (putK mem (.inl p) (.int n)) := by
  refine ⟨Nat.le_trans (length_putK _ _ _) (by omega), fun p' v hv => ?_⟩
  rw [valV_put] at hv
  split at hv
  · cases hv; exact ⟨n, rfl, h0, h1⟩
  · exact h.2 p' v hv
theorem G_law (T : Txt K mg A) : FnOk P w K mg base CX0 14 A.law A.fd_law ["_law_script"] (sp_law K) := by
  refine T.F_law.ok sc_law (fun vs H Q E h => ?_) (fun cdv Ar outer s H vs Q E hr h => ?_)
  · obtain ⟨a, ns, rfl, _⟩ := h
    rfl
  · obtain ⟨a, ns, rfl, hS, hl, k⟩ := h
    refine ⟨_, (pss_cons (ps_set (i := 1) sc_law.nd rfl (by first | exact Or.inl rfl | exact Or.inr rfl) (pe_slice (sl_listK (K := K) rfl) (pv 0) (po_some pe_int) (po_some pe_int))) (pss_cons (ps_set (i := 2) sc_law.nd rfl (by first | exact Or.inl rfl | exact Or.inr rfl) (pe_call (G__law_cell_at T) (hr.mono (by decide)) rfl T.m__law_cell_at T.k__law_cell_at T.b__law_cell_at .nil pass0 (pa_cons (pv 0) (pa_cons pe_int pa_nil)))) (pss_cons (ps_set (i := 3) sc_law.nd rfl (by first | exact Or.inl rfl | exact Or.inr rfl) (pe_ix (ix_listK (K := K) rfl) (pe_lst (pa_cons (pe_op op_mod (pe_op op_mul (pv 2) pe_int) pe_int) (pa_cons (pe_op op_sub pe_int (pe_op op_mod (pe_op op_fdiv (pv 2) pe_int) pe_int)) (pa_cons (pe_op op_add pe_int (pe_op op_mod (pe_op op_fdiv (pv 2) pe_int) pe_int)) pa_nil)))) (pe_op op_mod (pv 2) pe_int) (fun _ _ => rfl))) (pss_cons (ps_set (i := 4) sc_law.nd rfl (by first | exact Or.inl rfl | exact Or.inr rfl) pe_dnewK) (pss_cons (ps_for PassesOwn.never rfl (pi_range1 rfl T.n_range (pa_cons (pe_callB (call_lenK (K := K) rfl) (by rfl) T.n_len bt_len (pa_cons (pv 1) pa_nil)) pa_nil)) (pg_name (i := 5) sc_law.nd rfl (by first | exact Or.inl rfl | exact Or.inr rfl)) (pss_one (ps_dput (hu_of hr) (pv 4) (pe_op op_mod (pe_op op_add (pv 3) (pv 5)) pe_int) (pe_call (G__law_word_by T) (hr.mono (by decide)) rfl T.m__law_word_by T.k__law_word_by T.b__law_word_by .nil pass0 (pa_cons (pe_ix (ix_listK (K := K) rfl) (pv 1) (pv 5) (fun _ _ => rfl)) pa_nil)) rfl))) (pss_weak (u := lA K) (pss_cons (ps_set (i := 6) sc_law.nd rfl (by first | exact Or.inl rfl | exact Or.inr rfl) (pe_op op_mod (pe_op op_mul (pe_call (G__law_cell_at T) (hr.mono (by decide)) rfl T.m__law_cell_at T.k__law_cell_at T.b__law_cell_at .nil pass0 (pa_cons (pv 0) (pa_cons pe_int pa_nil))) pe_int) pe_int)) (pss_cons (ps_set (i := 7) sc_law.nd rfl (by first | exact Or.inl rfl | exact Or.inr rfl) (pe_lst pa_nil)) (pss_cons (ps_for PassesOwn.never rfl (pi_range1 rfl T.n_range (pa_cons pe_int pa_nil)) (pg_name (i := 5) sc_law.nd rfl (by first | exact Or.inl rfl | exact Or.inr rfl)) (pss_one (ps_if (pt_cmpR op_eq (pe_op op_mod (pe_op op_add (pe_op op_fdiv (pv 6) pe_int) (pv 5)) pe_int) pe_int (nomark _)) (pss_one (ps_expr (pe_bm PySem.F.plainAttrs_list PySem.F.slot_list_append PySem.F.type_list_append mt_append (pv 7) (pa_cons (pe_op op_mod (pe_op op_mul (pe_op op_mul (pv 6) (pe_op op_add (pv 5) pe_int)) pe_int) pe_int) pa_nil)))) (pss_one (ps_expr (pe_bm PySem.F.plainAttrs_list PySem.F.slot_list_append PySem.F.type_list_append mt_append (pv 7) (pa_cons (pe_op op_mod (pe_op op_sub (pe_op op_add (pv 3) (pe_op op_mod (pe_op op_mod (pe_op op_mul (pv 6) (pe_op op_add (pv 5) pe_int)) pe_int) (pe_op op_add (pe_callB (call_lenK (K := K) rfl) (by rfl) T.n_len bt_len (pa_cons (pv 1) pa_nil)) pe_int))) pe_int) pe_int) pa_nil))))))) (pss_weak (u := lB K) (pss_cons (ps_set (i := 8) sc_law.nd rfl (by first | exact Or.inl rfl | exact Or.inr rfl) (pe_op op_mod (pe_op op_add (pv 3) (pe_op op_mod (pe_call (G__law_cell_at T) (hr.mono (by decide)) rfl T.m__law_cell_at T.k__law_cell_at T.b__law_cell_at .nil pass0 (pa_cons (pv 0) (pa_cons pe_int pa_nil))) (pe_op op_add pe_int (pe_op op_fdiv (pe_callB (call_lenK (K := K) rfl) (by rfl) T.n_len bt_len (pa_cons (pv 1) pa_nil)) pe_int)))) pe_int)) (pss_cons (ps_set (i := 9) sc_law.nd rfl (by first | exact Or.inl rfl | exact Or.inr rfl) (pe_make T.mk_Machine (G_Machine___init__ T) (hr.mono (by decide)) rfl T.mc_Machine T.b_Machine___init__ .nil pass0 (pa_cons (pe_callTy call_dictOf (by rfl) T.n_dict bt_dict (pa_cons (pv 4) pa_nil)) (pa_cons (pv 8) (pa_cons (pe_callTy (call_list_ofK (K := K) rfl) (by rfl) T.n_list bt_list (pa_cons (pv 7) pa_nil)) pa_nil))))) (pss_cons (ps_if (pt_not (pt_val (pe_call (G__law_state T) (hr.mono (by decide)) rfl T.m__law_state T.k__law_state T.b__law_state .nil pass0 (pa_cons (pe_meth0 (pv 9) T.cl_Machine T.me_Machine_state (G_Machine_state T) (hr.mono (by decide)) T.b_Machine_state .nil pass0 ) (pa_cons (pe_tup (pa_cons (pv 8) (pa_cons (pv 7) (pa_cons (pe_lst pa_nil) (pa_cons pe_bl pa_nil))))) pa_nil))))) (pss_one (ps_ret pe_bl)) pss_nil) (pss_weak (u := lC A.c_Machine) (pss_cons (ps_if (pt_not (pt_val (pe_call (G__law_runs T) (hr.mono (by decide)) rfl T.m__law_runs T.k__law_runs T.b__law_runs .nil pass0 (pa_cons (pv 9) (pa_cons (pv 4) (pa_cons (pv 7) (pa_cons (pv 8) (pa_cons pe_int pa_nil)))))))) (pss_one (ps_ret pe_bl)) pss_nil) (pss_weak (u := lD A.c_Machine) (pss_cons (ps_for PassesOwn.never rfl (pi_range2 rfl T.n_range (pa_cons (pe_op op_sub pe_int pe_int) (pa_cons (pe_op op_add (pe_callB (call_lenK (K := K) rfl) (by rfl) T.n_len bt_len (pa_cons (pv 1) pa_nil)) pe_int) pa_nil))) (pg_name (i := 5) sc_law.nd rfl (by first | exact Or.inl rfl | exact Or.inr rfl)) (pss_cons (ps_set (i := 10) sc_law.nd rfl (by first | exact Or.inl rfl | exact Or.inr rfl) (pe_op op_mod (pe_op op_add (pv 3) (pv 5)) pe_int)) (pss_cons (ps_set (i := 11) sc_law.nd rfl (by first | exact Or.inl rfl | exact Or.inr rfl) (pe_meth (pv 9) T.cl_Machine T.me_Machine_word_at (G_Machine_word_at T) (hr.mono (by decide)) T.b_Machine_word_at .nil pass0 (pa_cons (pv 10) pa_nil))) (pss_one (ps_if (pt_cmp (pc_din (hu_of hr) (pv 10) (pv 4))) (pss_one (ps_if (PW.pt (pw_or (pt_not (pt_val (pe_call (G__law_whole T) (hr.mono (by decide)) rfl T.m__law_whole T.k__law_whole T.b__law_whole .nil pass0 (pa_cons (pv 11) pa_nil)))) (pw_or1 (pt_cmpR op_ne (pv 11) (pe_dget (hu_of hr) (pv 4) (pv 10) (fun _ _ => rfl)) (nomark _))))) (pss_one (ps_ret pe_bl)) pss_nil)) (pss_one (ps_if (pt_cmpR op_notN (pv 11) pe_non (nomark _)) (pss_one (ps_ret pe_bl)) pss_nil))))))) (pss_one (ps_ret pe_bl))) ?ld)) ?lc)))) ?lb)))) ?la)))))), ?main⟩
    case la =>
      rintro D σ H ⟨a, ce, dm, st, ns, cs, mem, x2, x5, x6, x7, x8, x9, x10, x11, rfl, la, k⟩
      walk_at "rd"
      refine ⟨ns, la.sc, la.hn, by decide, fun i => ⟨.inr ⟨by decide, by decide⟩, by decide, Nat.zero_le _, fun p hp => ?_⟩⟩
      have s0 := same_new (o := HO.lst []) hp
      generalize i * 1583458089 % 2147483647 = num at *
      refine ForR.of (by decide) (by decide) (fun j σ H' => ∃ (x5 : Option V) (rs : List Int), σ = [some (V.ref a), some (V.ref ce), x2, some (V.int st), some (V.ref dm), x5, some (V.int num), some (V.ref p), x8, x9, x10, x11] ∧ Same H H' ∧ H' p = some (.lst (rs.map V.int)) ∧ rs.length = j ∧ Words rs)
        ⟨_, [], rfl, s0, upd_same, rfl, fun r h => (nomatch h)⟩ ?_ ?_
      · rintro j σ H1 hj ⟨x5, rs, rfl, s1, hp1, hl, hw⟩
        have hj : j < 8 := hj
        walk_at "rd"
        have app : ∀ n : Int, 0 ≤ n → n ≤ 4294967295 → ∃ x, H1 p = some (HO.lst x) ∧ x.length < sizeLine ∧ Same H (upd H1 p (HO.lst (x ++ [V.int n]))) ∧ ∃ x_1, upd H1 p (HO.lst (x ++ [V.int n])) p = some (HO.lst (List.map V.int x_1)) ∧ x_1.length = j + 1 ∧ Words x_1 := fun n n0 n1 =>
          ⟨_, hp1, by rw [List.length_map, sizeLine_eq]; omega, same_upd hp s1, rs ++ [n], by rw [upd_same, List.map_append]; rfl, by rw [List.length_append, hl]; rfl, fun r hr => by
            rcases List.mem_append.mp hr with z | z
            · exact hw r z
            · rw [List.mem_singleton.mp z]; exact ⟨n0, n1⟩⟩
        have ty : tyV K "list" (V.ref p) H1 := .inl ⟨rfl, _, SqL.of hp1⟩
        exact ⟨⟨by decide, by decide⟩, by decide, ite2 (fun _ => ⟨ty, .inr ⟨by omega, by omega⟩, .inr ⟨by decide, by decide⟩, by decide, app _ (by omega) (by omega)⟩) (fun _ => ⟨ty, .inr ⟨by omega, by omega⟩, by decide, cs.length, .inl ⟨_, SqL.of (s1 _ _ la.ce), by simp⟩, by omega, by decide, app _ (by omega) (by omega)⟩)⟩
      · rintro σ H1 ⟨x5, rs, rfl, s1, hp1, hl, hw⟩
        have hl : rs.length = 8 := hl
        exact ⟨a, ce, dm, p, st, ns, cs, rs, mem, x2, x5, _, x8, x9, x10, x11, rfl, ⟨s1.seq la.sc, la.hn, s1 _ _ la.ce, la.hc, s1 _ _ la.dct, la.mi⟩, hp1, hl, hw, ne_of_none la.ce hp, k⟩
    case lb =>
      rintro D σ H ⟨a, ce, dm, q, st, ns, cs, rs, mem, x2, x5, x6, x8, x9, x10, x11, rfl, la, hq, hl, hw, ne, k⟩
      walk_at "rd"
      refine ⟨ns, la.sc, la.hn, by decide, fun i => ⟨cs.length, .inl ⟨_, SqL.of la.ce, by simp⟩, ⟨by decide, by decide⟩, by omega, by decide, ?_⟩⟩
      have hb : 0 ≤ (st + i % (2 + (cs.length : Int) / 8)) % 4294967296 ∧ (st + i % (2 + (cs.length : Int) / 8)) % 4294967296 ≤ 4294967295 := by omega
      generalize (st + i % (2 + (cs.length : Int) / 8)) % 4294967296 = pl at *
      refine ⟨_, la.dct, fun q1 nq1 => ?_⟩
      have s1 := same_new (o := HO.dK mem) nq1
      have hq1 : upd H q1 (HO.dK mem) q1 = some (HO.dK mem) := upd_same
      generalize upd H q1 (HO.dK mem) = H1 at *
      refine ⟨_, .inl (SqL.of (s1 _ _ hq)), fun l nl x dx nx ndx nxd => ?_⟩
      have s2 := same_new (o := HO.lst (rs.map V.int)) nl
      have hll : upd H1 l (HO.lst (rs.map V.int)) l = some (HO.lst (rs.map V.int)) := upd_same
      generalize upd H1 l (HO.lst (rs.map V.int)) = H2 at *
      have s3 := (same_new (o := HO.own x) ndx).trans (same_new (o := HO.ins A.c_Machine dx []) (p := x) (by rw [upd_ne (Ne.symm nxd)]; exact nx))
      have hxx : upd (upd H2 dx (HO.own x)) x (HO.ins A.c_Machine dx []) x = some (HO.ins A.c_Machine dx []) := upd_same
      generalize upd (upd H2 dx (HO.own x)) x (HO.ins A.c_Machine dx []) = H3 at *
      have s12 := s1.trans s2
      have s13 := s12.trans s3
      refine ⟨dx, hxx, mem, s3 _ _ (s2 _ _ hq1), rs, s3 _ _ hll, by omega, hb.1, hb.2, fun M H4 ex edx fr m am ar at_ => ?_⟩
      have s14 := s12.trans (fun b o e => fr b o (ne_of_none e nx) (s3 b o e) : Same H2 H4)
      subst ex
      have no : ∀ c o, H c = some o → c ∉ M.as := fun c o e z => by
        simp only [MM.as, List.mem_cons, List.not_mem_nil, or_false] at z
        rcases z with z | z | z | z
        · rw [← z, s12 _ _ e] at nx; cases nx
        · rw [← z, s13 _ _ e] at am; cases am
        · rw [← z, s13 _ _ e] at ar; cases ar
        · rw [← z, s13 _ _ e] at at_; cases at_
      refine ⟨_, _, m.top, rfl, M, rfl, mem, pl, rs, [], false, m, fun f r t H5 s5 hf hr1 ht _ _ _ => ⟨Nat.zero_le _, fun p hp => ⟨by rw [sizeLine_eq]; decide, fun p1 hp1 => ?_⟩⟩⟩
      have s6 := same_new (o := HO.lst []) hp
      have s7 := same_new (o := HO.tup [V.int pl, V.ref q, V.ref p, V.bl false]) hp1
      have s67 := s6.trans s7
      have s17 := (s14.trans s5).trans s67
      refine ⟨pl, rs, [], false, ⟨r, t, s67 _ _ hf, s67 _ _ hr1, s67 _ _ ht⟩, ⟨q, p, upd_same, s17 _ _ hq, s7 _ _ upd_same⟩, by omega, Nat.zero_le _, fun H8 s8 => ?_⟩
      have sA := s17.trans s8
      refine ⟨ce, dm, q, M, st, pl, cs, rs, mem, _, x2, x5, x6, x10, x11, rfl, ⟨m.mono ((s5.trans s67).trans s8), la.mi, hl, hw, Nat.zero_le _, hb.1, hb.2⟩, ⟨sA _ _ la.dct, sA _ _ hq, la.mi, hl, hw⟩, fun c hc => ?_, sA _ _ la.ce, la.hc, fun z => ?_, k⟩
      · simp only [List.mem_cons, List.not_mem_nil, or_false] at hc
        rcases hc with rfl | rfl
        · exact no _ _ la.dct
        · exact no _ _ hq
      · rcases List.mem_cons.mp z with z | z
        · exact ne_of la.ce la.dct (by intro z; cases z) z
        rcases List.mem_cons.mp z with z | z
        · exact ne z
        · exact no _ _ la.ce z
    case lc =>
      rintro D σ H ⟨ce, dm, q, M, st, pl, cs, rs, mem, x0, x2, x5, x6, x10, x11, rfl, run, own, ap, hce, hc, nce, k⟩
      walk_at "rd"
      exact ⟨M, rfl, mem, rs, run, own, ap, fun mem' pl' rs' ts' en H' fr m hd hmi => ⟨ce, dm, M, st, pl', cs, rs', ts', mem', en, x0, x2, x5, x6, _, _, x10, x11, rfl, m, hd, hmi, fr ce _ hce nce, hc, k⟩⟩
    case ld =>
      rintro D σ H ⟨ce, dm, M, st, pl, cs, rs, ts, mem, en, x0, x2, x5, x6, x7, x8, x10, x11, rfl, m, hd, hmi, hce, hc, k⟩
      walk_at "rd"
      refine ⟨cs.length, .inl ⟨_, SqL.of hce, by simp⟩, for2 (by omega) (fun i σ H' => H' = H ∧ ∃ y5 y10 y11 : Option V, σ = [x0, some (V.ref ce), x2, some (V.int st), some (V.ref dm), y5, x6, x7, x8, some (V.ref M.x), y10, y11]) ⟨rfl, _, _, _, rfl⟩ ?_ ?_⟩
      · rintro i σ H' hi ⟨rfl, y5, y10, y11, rfl⟩
        walk_at "rd"
        refine ⟨by decide, ?_⟩
        generalize (st + (0 - 2 + (i : Int))) % 4294967296 = p at *
        have g : DGet H' dm (V.int p) (valV mem (.inl p)) := DGet.k (k := Sum.inl p) hd
        refine ⟨_, _, m.top, rfl, M, rfl, mem, pl, rs, ts, en, m, _, g, ?_⟩
        cases hv : valV mem (.inl p) with
        | some v =>
          obtain ⟨n, rfl, _⟩ := hmi.2 p v hv
          rw [hv] at g
          rw [if_pos (by simp)]
          exact ⟨n, rfl, _, g, rfl, by rw [if_neg (by simp)]; trivial⟩
        | none =>
          rw [if_neg (by simp), if_neg (by simp)]
          trivial
      · rintro σ H' ⟨rfl, y5, y10, y11, rfl⟩
        walk_at "rd"
        exact k _
    walk_at "rd"
    refine ⟨_, hS, fun p0 h0 => ?_⟩
    obtain ⟨cs, ecs, lcs⟩ : ∃ cs : List Int, cutV (ns.map V.int) (some 3) (some 103) = cs.map V.int ∧ cs.length ≤ 63 := by
      unfold cutV
      refine ⟨_, by rw [← List.map_drop, ← List.map_take], ?_⟩
      rw [List.length_take, List.length_drop]
      omega
    rw [ecs]
    have s0 := same_new (o := HO.lst (cs.map V.int)) h0
    have c0 : upd H p0 (HO.lst (cs.map V.int)) p0 = some (HO.lst (cs.map V.int)) := upd_same
    generalize upd H p0 (HO.lst (cs.map V.int)) = H0 at *
    refine ⟨ns, s0.seq hS, hl, by decide, fun i => ⟨.inr ⟨by decide, by decide⟩, by decide, ⟨by decide, by decide⟩, by decide, ⟨by decide, by decide⟩, by decide, by rw [sizeLine_eq]; decide, fun p1 hp1 => ⟨by decide, _, SqL.of upd_same, ?_⟩⟩⟩
    obtain ⟨st, e1, _, m1⟩ := atI_int (rs := [i * 48271 % 4294967296, 4294967295 - i / 3 % 90, 1 + i / 3 % 5]) (i := i % 3) (by omega) (by simp; omega)
    have s1 := same_new (o := HO.lst [V.int (i * 48271 % 4294967296), V.int (4294967295 - i / 3 % 90), V.int (1 + i / 3 % 5)]) hp1
    generalize upd H0 p1 (HO.lst [V.int (i * 48271 % 4294967296), V.int (4294967295 - i / 3 % 90), V.int (1 + i / 3 % 5)]) = H1 at *
    refine ⟨_, e1, fun dm hdm => ?_⟩
    have s2 := same_new (o := HO.dK []) hdm
    have s02 := (s0.trans s1).trans s2
    have c1 := s1 _ _ c0
    refine ⟨cs.length, .inl ⟨_, SqL.of (s2 _ _ c1), by simp⟩, ?_⟩
    refine ForR.of (by omega) (by omega) (fun j σ H' => ∃ (x5 : Option V) (mem : List (Key × V)), σ = [some (V.ref a), some (V.ref p0), some (V.int i), some (V.int st), some (V.ref dm), x5, none, none, none, none, none, none] ∧ Same H1 H' ∧ H' dm = some (.dK mem) ∧ MemI mem ∧ mem.length ≤ j)
      ⟨_, [], rfl, s2, upd_same, ⟨by simp, fun p v h => by cases h⟩, Nat.le_refl _⟩ ?_ ?_
    · rintro j σ H' hj ⟨x5, mem, rfl, sm, hd, hmi, hlen⟩
      obtain ⟨c, ec, _⟩ := atI_int (rs := cs) (i := (j : Int)) (by omega) (by omega)
      walk_at "rd"
      exact ⟨_, SqL.of (sm _ _ c1), _, ec, c, rfl, fun w w0 w1 => ⟨by decide, _, DPut.k (k := Sum.inl ((st + (j : Int)) % 4294967296)) hd (by rw [sizeLine_eq]; omega), same_upd hdm sm, _, upd_same, hmi.put (by omega) w0 w1 _, Nat.le_trans (length_putK _ _ _) (by omega)⟩⟩
    · rintro σ H' ⟨x5, mem, rfl, sm, hd, hmi, hlen⟩
      exact ⟨a, p0, dm, st, ns, cs, mem, _, x5, _, _, _, _, _, _, rfl, ⟨((s0.trans s1).trans sm).seq hS, hl, sm _ _ c1, lcs, hd, hmi⟩, k⟩
end
@[elab_as_elim] theorem len1 {α : Type} {p : List α → Prop} (us : List α) (h : us.length = 1) (f : ∀ a, p [a]) : p us := by
  match us, h with | [a], _ => exact f a
@[elab_as_elim] theorem len2 {α : Type} {p : List α → Prop} (us : List α) (h : us.length = 2) (f : ∀ a b, p [a, b]) : p us := by
  match us, h with | [a, b], _ => exact f a b
@[elab_as_elim] theorem len3 {α : Type} {p : List α → Prop} (us : List α) (h : us.length = 3) (f : ∀ a b c, p [a, b, c]) : p us := by
  match us, h with | [a, b, c], _ => exact f a b c
@[elab_as_elim] theorem len4 {α : Type} {p : List α → Prop} (us : List α) (h : us.length = 4) (f : ∀ a b c d, p [a, b, c, d]) : p us := by
  match us, h with | [a, b, c, d], _ => exact f a b c d
@[elab_as_elim] theorem len5 {α : Type} {p : List α → Prop} (us : List α) (h : us.length = 5) (f : ∀ a b c d e, p [a, b, c, d, e]) : p us := by
  match us, h with | [a, b, c, d, e], _ => exact f a b c d e
theorem all_mk {l : PySem.W.OpenLaw} {w : World} {K : PySem.W.Frag} {h : Heap} {mg : Str → Option Value} {fa f_wrapped f_field f_signed f_turned f_ones f_moved f_deed_of f_op_of f_a_of f_b_of f_c_of f_n_of f_s_of f_near_of f_split_of f_of_two_words f_Lost___init__ f_Machine___init__ f_Machine_go_on f_Machine_state f_Machine_word_at f_Machine_found f_Machine_do f_Machine_sought f_Machine_store f_Machine_goes f_Machine_result f__law_whole f__law_cell_at f__law_word_by f__law_split f__law_near f__law_small f__law_lacks f__law_made f__law_onward f__law_done f__law_state f__law_lost_at f__law_stays f__law_runs f__law_held f_law C_JoinError C_Lost C_Machine o_DEEDS : Addr} {t_WORD_BITS t_WORD_COUNT k_DEEDS_0 k_DEEDS_1 k_DEEDS_2 k_DEEDS_3 k_DEEDS_4 k_DEEDS_5 k_DEEDS_6 k_DEEDS_7 k_DEEDS_8 k_DEEDS_9 k_DEEDS_10 k_DEEDS_11 k_DEEDS_12 k_DEEDS_13 k_DEEDS_14 k_DEEDS_15 : Tok} (X : K.In h) (G : h.Ns mainGlobals mg) (hfa : mg "law" = some (.ref fa))
    {od_DEEDS : Option Addr} {n_DEEDS : Nat} {sl_DEEDS : Array (Option Value)}
    {od_wrapped an_wrapped : Option Addr} {sl_wrapped : Array (Option Value)} {oc_wrapped kV_wrapped dc_wrapped pm_wrapped cd_wrapped ct_wrapped : Value}
    {od_field an_field : Option Addr} {sl_field : Array (Option Value)} {oc_field kV_field dc_field pm_field cd_field ct_field : Value}
    {od_signed an_signed : Option Addr} {sl_signed : Array (Option Value)} {oc_signed kV_signed dc_signed pm_signed cd_signed ct_signed : Value}
    {od_turned an_turned : Option Addr} {sl_turned : Array (Option Value)} {oc_turned kV_turned dc_turned pm_turned cd_turned ct_turned : Value}
    {od_ones an_ones : Option Addr} {sl_ones : Array (Option Value)} {oc_ones kV_ones dc_ones pm_ones cd_ones ct_ones : Value}
    {od_moved an_moved : Option Addr} {sl_moved : Array (Option Value)} {oc_moved kV_moved dc_moved pm_moved cd_moved ct_moved : Value}
    {od_deed_of an_deed_of : Option Addr} {sl_deed_of : Array (Option Value)} {oc_deed_of kV_deed_of dc_deed_of pm_deed_of cd_deed_of ct_deed_of : Value}
    {od_op_of an_op_of : Option Addr} {sl_op_of : Array (Option Value)} {oc_op_of kV_op_of dc_op_of pm_op_of cd_op_of ct_op_of : Value}
    {od_a_of an_a_of : Option Addr} {sl_a_of : Array (Option Value)} {oc_a_of kV_a_of dc_a_of pm_a_of cd_a_of ct_a_of : Value}
    {od_b_of an_b_of : Option Addr} {sl_b_of : Array (Option Value)} {oc_b_of kV_b_of dc_b_of pm_b_of cd_b_of ct_b_of : Value}
    {od_c_of an_c_of : Option Addr} {sl_c_of : Array (Option Value)} {oc_c_of kV_c_of dc_c_of pm_c_of cd_c_of ct_c_of : Value}
    {od_n_of an_n_of : Option Addr} {sl_n_of : Array (Option Value)} {oc_n_of kV_n_of dc_n_of pm_n_of cd_n_of ct_n_of : Value}
    {od_s_of an_s_of : Option Addr} {sl_s_of : Array (Option Value)} {oc_s_of kV_s_of dc_s_of pm_s_of cd_s_of ct_s_of : Value}
    {od_near_of an_near_of : Option Addr} {sl_near_of : Array (Option Value)} {oc_near_of kV_near_of dc_near_of pm_near_of cd_near_of ct_near_of : Value}
    {od_split_of an_split_of : Option Addr} {sl_split_of : Array (Option Value)} {oc_split_of kV_split_of dc_split_of pm_split_of cd_split_of ct_split_of : Value}
    {od_of_two_words an_of_two_words : Option Addr} {sl_of_two_words : Array (Option Value)} {oc_of_two_words kV_of_two_words dc_of_two_words pm_of_two_words cd_of_two_words ct_of_two_words : Value}
    {od_Lost___init__ an_Lost___init__ : Option Addr} {sl_Lost___init__ : Array (Option Value)} {oc_Lost___init__ kV_Lost___init__ dc_Lost___init__ pm_Lost___init__ cd_Lost___init__ ct_Lost___init__ : Value}
    {od_Machine___init__ an_Machine___init__ : Option Addr} {sl_Machine___init__ : Array (Option Value)} {oc_Machine___init__ kV_Machine___init__ dc_Machine___init__ pm_Machine___init__ cd_Machine___init__ ct_Machine___init__ : Value}
    {od_Machine_go_on an_Machine_go_on : Option Addr} {sl_Machine_go_on : Array (Option Value)} {oc_Machine_go_on kV_Machine_go_on dc_Machine_go_on pm_Machine_go_on cd_Machine_go_on ct_Machine_go_on : Value}
    {od_Machine_state an_Machine_state : Option Addr} {sl_Machine_state : Array (Option Value)} {oc_Machine_state kV_Machine_state dc_Machine_state pm_Machine_state cd_Machine_state ct_Machine_state : Value}
    {od_Machine_word_at an_Machine_word_at : Option Addr} {sl_Machine_word_at : Array (Option Value)} {oc_Machine_word_at kV_Machine_word_at dc_Machine_word_at pm_Machine_word_at cd_Machine_word_at ct_Machine_word_at : Value}
    {od_Machine_found an_Machine_found : Option Addr} {sl_Machine_found : Array (Option Value)} {oc_Machine_found kV_Machine_found dc_Machine_found pm_Machine_found cd_Machine_found ct_Machine_found : Value}
    {od_Machine_do an_Machine_do : Option Addr} {sl_Machine_do : Array (Option Value)} {oc_Machine_do kV_Machine_do dc_Machine_do pm_Machine_do cd_Machine_do ct_Machine_do : Value}
    {od_Machine_sought an_Machine_sought : Option Addr} {sl_Machine_sought : Array (Option Value)} {oc_Machine_sought kV_Machine_sought dc_Machine_sought pm_Machine_sought cd_Machine_sought ct_Machine_sought : Value}
    {od_Machine_store an_Machine_store : Option Addr} {sl_Machine_store : Array (Option Value)} {oc_Machine_store kV_Machine_store dc_Machine_store pm_Machine_store cd_Machine_store ct_Machine_store : Value}
    {od_Machine_goes an_Machine_goes : Option Addr} {sl_Machine_goes : Array (Option Value)} {oc_Machine_goes kV_Machine_goes dc_Machine_goes pm_Machine_goes cd_Machine_goes ct_Machine_goes : Value}
    {od_Machine_result an_Machine_result : Option Addr} {sl_Machine_result : Array (Option Value)} {oc_Machine_result kV_Machine_result dc_Machine_result pm_Machine_result cd_Machine_result ct_Machine_result : Value}
    {od__law_whole an__law_whole : Option Addr} {sl__law_whole : Array (Option Value)} {oc__law_whole kV__law_whole dc__law_whole pm__law_whole cd__law_whole ct__law_whole : Value}
    {od__law_cell_at an__law_cell_at : Option Addr} {sl__law_cell_at : Array (Option Value)} {oc__law_cell_at kV__law_cell_at dc__law_cell_at pm__law_cell_at cd__law_cell_at ct__law_cell_at : Value}
    {od__law_word_by an__law_word_by : Option Addr} {sl__law_word_by : Array (Option Value)} {oc__law_word_by kV__law_word_by dc__law_word_by pm__law_word_by cd__law_word_by ct__law_word_by : Value}
    {od__law_split an__law_split : Option Addr} {sl__law_split : Array (Option Value)} {oc__law_split kV__law_split dc__law_split pm__law_split cd__law_split ct__law_split : Value}
    {od__law_near an__law_near : Option Addr} {sl__law_near : Array (Option Value)} {oc__law_near kV__law_near dc__law_near pm__law_near cd__law_near ct__law_near : Value}
    {od__law_small an__law_small : Option Addr} {sl__law_small : Array (Option Value)} {oc__law_small kV__law_small dc__law_small pm__law_small cd__law_small ct__law_small : Value}
    {od__law_lacks an__law_lacks : Option Addr} {sl__law_lacks : Array (Option Value)} {oc__law_lacks kV__law_lacks dc__law_lacks pm__law_lacks cd__law_lacks ct__law_lacks : Value}
    {od__law_made an__law_made : Option Addr} {sl__law_made : Array (Option Value)} {oc__law_made kV__law_made dc__law_made pm__law_made cd__law_made ct__law_made : Value}
    {od__law_onward an__law_onward : Option Addr} {sl__law_onward : Array (Option Value)} {oc__law_onward kV__law_onward dc__law_onward pm__law_onward cd__law_onward ct__law_onward : Value}
    {od__law_done an__law_done : Option Addr} {sl__law_done : Array (Option Value)} {oc__law_done kV__law_done dc__law_done pm__law_done cd__law_done ct__law_done : Value}
    {od__law_state an__law_state : Option Addr} {sl__law_state : Array (Option Value)} {oc__law_state kV__law_state dc__law_state pm__law_state cd__law_state ct__law_state : Value}
    {od__law_lost_at an__law_lost_at : Option Addr} {sl__law_lost_at : Array (Option Value)} {oc__law_lost_at kV__law_lost_at dc__law_lost_at pm__law_lost_at cd__law_lost_at ct__law_lost_at : Value}
    {od__law_stays an__law_stays : Option Addr} {sl__law_stays : Array (Option Value)} {oc__law_stays kV__law_stays dc__law_stays pm__law_stays cd__law_stays ct__law_stays : Value}
    {od__law_runs an__law_runs : Option Addr} {sl__law_runs : Array (Option Value)} {oc__law_runs kV__law_runs dc__law_runs pm__law_runs cd__law_runs ct__law_runs : Value}
    {od__law_held an__law_held : Option Addr} {sl__law_held : Array (Option Value)} {oc__law_held kV__law_held dc__law_held pm__law_held cd__law_held ct__law_held : Value}
    {od_law an_law : Option Addr} {sl_law : Array (Option Value)} {oc_law kV_law dc_law pm_law cd_law ct_law : Value}
    (ac_JoinError : PySem.W.nsIn K mainGlobals "JoinError" = some (some (.ref C_JoinError)))
    (ac_Lost : PySem.W.nsIn K mainGlobals "Lost" = some (some (.ref C_Lost)))
    (ac_Machine : PySem.W.nsIn K mainGlobals "Machine" = some (some (.ref C_Machine)))
    (a_wrapped : PySem.W.nsIn K mainGlobals "wrapped" = some (some (.ref f_wrapped)))
    (l_wrapped : K.lookup f_wrapped = some ⟨oc_wrapped, od_wrapped, .func (PySem.W.fnOf "wrapped" "wrapped" (defArgs s_wrapped) (defBody s_wrapped) (defScope s_wrapped) .none kV_wrapped dc_wrapped pm_wrapped an_wrapped cd_wrapped ct_wrapped), sl_wrapped⟩)
    (e_wrapped : PySem.W.codeIn K cd_wrapped "wrapped" = true)
    (k_wrapped : PySem.W.keepIn K (.ref f_wrapped) = true)
    (a_field : PySem.W.nsIn K mainGlobals "field" = some (some (.ref f_field)))
    (l_field : K.lookup f_field = some ⟨oc_field, od_field, .func (PySem.W.fnOf "field" "field" (defArgs s_field) (defBody s_field) (defScope s_field) .none kV_field dc_field pm_field an_field cd_field ct_field), sl_field⟩)
    (e_field : PySem.W.codeIn K cd_field "field" = true)
    (k_field : PySem.W.keepIn K (.ref f_field) = true)
    (a_signed : PySem.W.nsIn K mainGlobals "signed" = some (some (.ref f_signed)))
    (l_signed : K.lookup f_signed = some ⟨oc_signed, od_signed, .func (PySem.W.fnOf "signed" "signed" (defArgs s_signed) (defBody s_signed) (defScope s_signed) .none kV_signed dc_signed pm_signed an_signed cd_signed ct_signed), sl_signed⟩)
    (e_signed : PySem.W.codeIn K cd_signed "signed" = true)
    (k_signed : PySem.W.keepIn K (.ref f_signed) = true)
    (a_turned : PySem.W.nsIn K mainGlobals "turned" = some (some (.ref f_turned)))
    (l_turned : K.lookup f_turned = some ⟨oc_turned, od_turned, .func (PySem.W.fnOf "turned" "turned" (defArgs s_turned) (defBody s_turned) (defScope s_turned) .none kV_turned dc_turned pm_turned an_turned cd_turned ct_turned), sl_turned⟩)
    (e_turned : PySem.W.codeIn K cd_turned "turned" = true)
    (k_turned : PySem.W.keepIn K (.ref f_turned) = true)
    (a_ones : PySem.W.nsIn K mainGlobals "ones" = some (some (.ref f_ones)))
    (l_ones : K.lookup f_ones = some ⟨oc_ones, od_ones, .func (PySem.W.fnOf "ones" "ones" (defArgs s_ones) (defBody s_ones) (defScope s_ones) .none kV_ones dc_ones pm_ones an_ones cd_ones ct_ones), sl_ones⟩)
    (e_ones : PySem.W.codeIn K cd_ones "ones" = true)
    (k_ones : PySem.W.keepIn K (.ref f_ones) = true)
    (a_moved : PySem.W.nsIn K mainGlobals "moved" = some (some (.ref f_moved)))
    (l_moved : K.lookup f_moved = some ⟨oc_moved, od_moved, .func (PySem.W.fnOf "moved" "moved" (defArgs s_moved) (defBody s_moved) (defScope s_moved) .none kV_moved dc_moved pm_moved an_moved cd_moved ct_moved), sl_moved⟩)
    (e_moved : PySem.W.codeIn K cd_moved "moved" = true)
    (k_moved : PySem.W.keepIn K (.ref f_moved) = true)
    (a_deed_of : PySem.W.nsIn K mainGlobals "deed_of" = some (some (.ref f_deed_of)))
    (l_deed_of : K.lookup f_deed_of = some ⟨oc_deed_of, od_deed_of, .func (PySem.W.fnOf "deed_of" "deed_of" (defArgs s_deed_of) (defBody s_deed_of) (defScope s_deed_of) .none kV_deed_of dc_deed_of pm_deed_of an_deed_of cd_deed_of ct_deed_of), sl_deed_of⟩)
    (e_deed_of : PySem.W.codeIn K cd_deed_of "deed_of" = true)
    (k_deed_of : PySem.W.keepIn K (.ref f_deed_of) = true)
    (a_op_of : PySem.W.nsIn K mainGlobals "op_of" = some (some (.ref f_op_of)))
    (l_op_of : K.lookup f_op_of = some ⟨oc_op_of, od_op_of, .func (PySem.W.fnOf "op_of" "op_of" (defArgs s_op_of) (defBody s_op_of) (defScope s_op_of) .none kV_op_of dc_op_of pm_op_of an_op_of cd_op_of ct_op_of), sl_op_of⟩)
    (e_op_of : PySem.W.codeIn K cd_op_of "op_of" = true)
    (k_op_of : PySem.W.keepIn K (.ref f_op_of) = true)
    (a_a_of : PySem.W.nsIn K mainGlobals "a_of" = some (some (.ref f_a_of)))
    (l_a_of : K.lookup f_a_of = some ⟨oc_a_of, od_a_of, .func (PySem.W.fnOf "a_of" "a_of" (defArgs s_a_of) (defBody s_a_of) (defScope s_a_of) .none kV_a_of dc_a_of pm_a_of an_a_of cd_a_of ct_a_of), sl_a_of⟩)
    (e_a_of : PySem.W.codeIn K cd_a_of "a_of" = true)
    (k_a_of : PySem.W.keepIn K (.ref f_a_of) = true)
    (a_b_of : PySem.W.nsIn K mainGlobals "b_of" = some (some (.ref f_b_of)))
    (l_b_of : K.lookup f_b_of = some ⟨oc_b_of, od_b_of, .func (PySem.W.fnOf "b_of" "b_of" (defArgs s_b_of) (defBody s_b_of) (defScope s_b_of) .none kV_b_of dc_b_of pm_b_of an_b_of cd_b_of ct_b_of), sl_b_of⟩)
    (e_b_of : PySem.W.codeIn K cd_b_of "b_of" = true)
    (k_b_of : PySem.W.keepIn K (.ref f_b_of) = true)
    (a_c_of : PySem.W.nsIn K mainGlobals "c_of" = some (some (.ref f_c_of)))
    (l_c_of : K.lookup f_c_of = some ⟨oc_c_of, od_c_of, .func (PySem.W.fnOf "c_of" "c_of" (defArgs s_c_of) (defBody s_c_of) (defScope s_c_of) .none kV_c_of dc_c_of pm_c_of an_c_of cd_c_of ct_c_of), sl_c_of⟩)
    (e_c_of : PySem.W.codeIn K cd_c_of "c_of" = true)
    (k_c_of : PySem.W.keepIn K (.ref f_c_of) = true)
    (a_n_of : PySem.W.nsIn K mainGlobals "n_of" = some (some (.ref f_n_of)))
    (l_n_of : K.lookup f_n_of = some ⟨oc_n_of, od_n_of, .func (PySem.W.fnOf "n_of" "n_of" (defArgs s_n_of) (defBody s_n_of) (defScope s_n_of) .none kV_n_of dc_n_of pm_n_of an_n_of cd_n_of ct_n_of), sl_n_of⟩)
    (e_n_of : PySem.W.codeIn K cd_n_of "n_of" = true)
    (k_n_of : PySem.W.keepIn K (.ref f_n_of) = true)
    (a_s_of : PySem.W.nsIn K mainGlobals "s_of" = some (some (.ref f_s_of)))
    (l_s_of : K.lookup f_s_of = some ⟨oc_s_of, od_s_of, .func (PySem.W.fnOf "s_of" "s_of" (defArgs s_s_of) (defBody s_s_of) (defScope s_s_of) .none kV_s_of dc_s_of pm_s_of an_s_of cd_s_of ct_s_of), sl_s_of⟩)
    (e_s_of : PySem.W.codeIn K cd_s_of "s_of" = true)
    (k_s_of : PySem.W.keepIn K (.ref f_s_of) = true)
    (a_near_of : PySem.W.nsIn K mainGlobals "near_of" = some (some (.ref f_near_of)))
    (l_near_of : K.lookup f_near_of = some ⟨oc_near_of, od_near_of, .func (PySem.W.fnOf "near_of" "near_of" (defArgs s_near_of) (defBody s_near_of) (defScope s_near_of) .none kV_near_of dc_near_of pm_near_of an_near_of cd_near_of ct_near_of), sl_near_of⟩)
    (e_near_of : PySem.W.codeIn K cd_near_of "near_of" = true)
    (k_near_of : PySem.W.keepIn K (.ref f_near_of) = true)
    (a_split_of : PySem.W.nsIn K mainGlobals "split_of" = some (some (.ref f_split_of)))
    (l_split_of : K.lookup f_split_of = some ⟨oc_split_of, od_split_of, .func (PySem.W.fnOf "split_of" "split_of" (defArgs s_split_of) (defBody s_split_of) (defScope s_split_of) .none kV_split_of dc_split_of pm_split_of an_split_of cd_split_of ct_split_of), sl_split_of⟩)
    (e_split_of : PySem.W.codeIn K cd_split_of "split_of" = true)
    (k_split_of : PySem.W.keepIn K (.ref f_split_of) = true)
    (a_of_two_words : PySem.W.nsIn K mainGlobals "of_two_words" = some (some (.ref f_of_two_words)))
    (l_of_two_words : K.lookup f_of_two_words = some ⟨oc_of_two_words, od_of_two_words, .func (PySem.W.fnOf "of_two_words" "of_two_words" (defArgs s_of_two_words) (defBody s_of_two_words) (defScope s_of_two_words) .none kV_of_two_words dc_of_two_words pm_of_two_words an_of_two_words cd_of_two_words ct_of_two_words), sl_of_two_words⟩)
    (e_of_two_words : PySem.W.codeIn K cd_of_two_words "of_two_words" = true)
    (k_of_two_words : PySem.W.keepIn K (.ref f_of_two_words) = true)
    (a_Lost___init__ : PySem.W.findIn K (.ref C_Lost) "__init__" = some (some (.ref f_Lost___init__)))
    (i_Lost___init__ : PySem.W.isFn K (.ref f_Lost___init__) = true)
    (l_Lost___init__ : K.lookup f_Lost___init__ = some ⟨oc_Lost___init__, od_Lost___init__, .func (PySem.W.fnOf "__init__" "Lost.__init__" (defArgs s_Lost___init__) (defBody s_Lost___init__) (defScope s_Lost___init__) .none kV_Lost___init__ dc_Lost___init__ pm_Lost___init__ an_Lost___init__ cd_Lost___init__ ct_Lost___init__), sl_Lost___init__⟩)
    (e_Lost___init__ : PySem.W.codeIn K cd_Lost___init__ "Lost.__init__" = true)
    (k_Lost___init__ : PySem.W.keepIn K (.ref f_Lost___init__) = true)
    (a_Machine___init__ : PySem.W.findIn K (.ref C_Machine) "__init__" = some (some (.ref f_Machine___init__)))
    (i_Machine___init__ : PySem.W.isFn K (.ref f_Machine___init__) = true)
    (l_Machine___init__ : K.lookup f_Machine___init__ = some ⟨oc_Machine___init__, od_Machine___init__, .func (PySem.W.fnOf "__init__" "Machine.__init__" (defArgs s_Machine___init__) (defBody s_Machine___init__) (defScope s_Machine___init__) .none kV_Machine___init__ dc_Machine___init__ pm_Machine___init__ an_Machine___init__ cd_Machine___init__ ct_Machine___init__), sl_Machine___init__⟩)
    (e_Machine___init__ : PySem.W.codeIn K cd_Machine___init__ "Machine.__init__" = true)
    (k_Machine___init__ : PySem.W.keepIn K (.ref f_Machine___init__) = true)
    (a_Machine_go_on : PySem.W.findIn K (.ref C_Machine) "go_on" = some (some (.ref f_Machine_go_on)))
    (i_Machine_go_on : PySem.W.isFn K (.ref f_Machine_go_on) = true)
    (l_Machine_go_on : K.lookup f_Machine_go_on = some ⟨oc_Machine_go_on, od_Machine_go_on, .func (PySem.W.fnOf "go_on" "Machine.go_on" (defArgs s_Machine_go_on) (defBody s_Machine_go_on) (defScope s_Machine_go_on) .none kV_Machine_go_on dc_Machine_go_on pm_Machine_go_on an_Machine_go_on cd_Machine_go_on ct_Machine_go_on), sl_Machine_go_on⟩)
    (e_Machine_go_on : PySem.W.codeIn K cd_Machine_go_on "Machine.go_on" = true)
    (k_Machine_go_on : PySem.W.keepIn K (.ref f_Machine_go_on) = true)
    (a_Machine_state : PySem.W.findIn K (.ref C_Machine) "state" = some (some (.ref f_Machine_state)))
    (i_Machine_state : PySem.W.isFn K (.ref f_Machine_state) = true)
    (l_Machine_state : K.lookup f_Machine_state = some ⟨oc_Machine_state, od_Machine_state, .func (PySem.W.fnOf "state" "Machine.state" (defArgs s_Machine_state) (defBody s_Machine_state) (defScope s_Machine_state) .none kV_Machine_state dc_Machine_state pm_Machine_state an_Machine_state cd_Machine_state ct_Machine_state), sl_Machine_state⟩)
    (e_Machine_state : PySem.W.codeIn K cd_Machine_state "Machine.state" = true)
    (k_Machine_state : PySem.W.keepIn K (.ref f_Machine_state) = true)
    (a_Machine_word_at : PySem.W.findIn K (.ref C_Machine) "word_at" = some (some (.ref f_Machine_word_at)))
    (i_Machine_word_at : PySem.W.isFn K (.ref f_Machine_word_at) = true)
    (l_Machine_word_at : K.lookup f_Machine_word_at = some ⟨oc_Machine_word_at, od_Machine_word_at, .func (PySem.W.fnOf "word_at" "Machine.word_at" (defArgs s_Machine_word_at) (defBody s_Machine_word_at) (defScope s_Machine_word_at) .none kV_Machine_word_at dc_Machine_word_at pm_Machine_word_at an_Machine_word_at cd_Machine_word_at ct_Machine_word_at), sl_Machine_word_at⟩)
    (e_Machine_word_at : PySem.W.codeIn K cd_Machine_word_at "Machine.word_at" = true)
    (k_Machine_word_at : PySem.W.keepIn K (.ref f_Machine_word_at) = true)
    (a_Machine_found : PySem.W.findIn K (.ref C_Machine) "found" = some (some (.ref f_Machine_found)))
    (i_Machine_found : PySem.W.isFn K (.ref f_Machine_found) = true)
    (l_Machine_found : K.lookup f_Machine_found = some ⟨oc_Machine_found, od_Machine_found, .func (PySem.W.fnOf "found" "Machine.found" (defArgs s_Machine_found) (defBody s_Machine_found) (defScope s_Machine_found) .none kV_Machine_found dc_Machine_found pm_Machine_found an_Machine_found cd_Machine_found ct_Machine_found), sl_Machine_found⟩)
    (e_Machine_found : PySem.W.codeIn K cd_Machine_found "Machine.found" = true)
    (k_Machine_found : PySem.W.keepIn K (.ref f_Machine_found) = true)
    (a_Machine_do : PySem.W.findIn K (.ref C_Machine) "do" = some (some (.ref f_Machine_do)))
    (i_Machine_do : PySem.W.isFn K (.ref f_Machine_do) = true)
    (l_Machine_do : K.lookup f_Machine_do = some ⟨oc_Machine_do, od_Machine_do, .func (PySem.W.fnOf "do" "Machine.do" (defArgs s_Machine_do) (defBody s_Machine_do) (defScope s_Machine_do) .none kV_Machine_do dc_Machine_do pm_Machine_do an_Machine_do cd_Machine_do ct_Machine_do), sl_Machine_do⟩)
    (e_Machine_do : PySem.W.codeIn K cd_Machine_do "Machine.do" = true)
    (k_Machine_do : PySem.W.keepIn K (.ref f_Machine_do) = true)
    (a_Machine_sought : PySem.W.findIn K (.ref C_Machine) "sought" = some (some (.ref f_Machine_sought)))
    (i_Machine_sought : PySem.W.isFn K (.ref f_Machine_sought) = true)
    (l_Machine_sought : K.lookup f_Machine_sought = some ⟨oc_Machine_sought, od_Machine_sought, .func (PySem.W.fnOf "sought" "Machine.sought" (defArgs s_Machine_sought) (defBody s_Machine_sought) (defScope s_Machine_sought) .none kV_Machine_sought dc_Machine_sought pm_Machine_sought an_Machine_sought cd_Machine_sought ct_Machine_sought), sl_Machine_sought⟩)
    (e_Machine_sought : PySem.W.codeIn K cd_Machine_sought "Machine.sought" = true)
    (k_Machine_sought : PySem.W.keepIn K (.ref f_Machine_sought) = true)
    (a_Machine_store : PySem.W.findIn K (.ref C_Machine) "store" = some (some (.ref f_Machine_store)))
    (i_Machine_store : PySem.W.isFn K (.ref f_Machine_store) = true)
    (l_Machine_store : K.lookup f_Machine_store = some ⟨oc_Machine_store, od_Machine_store, .func (PySem.W.fnOf "store" "Machine.store" (defArgs s_Machine_store) (defBody s_Machine_store) (defScope s_Machine_store) .none kV_Machine_store dc_Machine_store pm_Machine_store an_Machine_store cd_Machine_store ct_Machine_store), sl_Machine_store⟩)
    (e_Machine_store : PySem.W.codeIn K cd_Machine_store "Machine.store" = true)
    (k_Machine_store : PySem.W.keepIn K (.ref f_Machine_store) = true)
    (a_Machine_goes : PySem.W.findIn K (.ref C_Machine) "goes" = some (some (.ref f_Machine_goes)))
    (i_Machine_goes : PySem.W.isFn K (.ref f_Machine_goes) = true)
    (l_Machine_goes : K.lookup f_Machine_goes = some ⟨oc_Machine_goes, od_Machine_goes, .func (PySem.W.fnOf "goes" "Machine.goes" (defArgs s_Machine_goes) (defBody s_Machine_goes) (defScope s_Machine_goes) .none kV_Machine_goes dc_Machine_goes pm_Machine_goes an_Machine_goes cd_Machine_goes ct_Machine_goes), sl_Machine_goes⟩)
    (e_Machine_goes : PySem.W.codeIn K cd_Machine_goes "Machine.goes" = true)
    (k_Machine_goes : PySem.W.keepIn K (.ref f_Machine_goes) = true)
    (a_Machine_result : PySem.W.findIn K (.ref C_Machine) "result" = some (some (.ref f_Machine_result)))
    (i_Machine_result : PySem.W.isFn K (.ref f_Machine_result) = true)
    (l_Machine_result : K.lookup f_Machine_result = some ⟨oc_Machine_result, od_Machine_result, .func (PySem.W.fnOf "result" "Machine.result" (defArgs s_Machine_result) (defBody s_Machine_result) (defScope s_Machine_result) .none kV_Machine_result dc_Machine_result pm_Machine_result an_Machine_result cd_Machine_result ct_Machine_result), sl_Machine_result⟩)
    (e_Machine_result : PySem.W.codeIn K cd_Machine_result "Machine.result" = true)
    (k_Machine_result : PySem.W.keepIn K (.ref f_Machine_result) = true)
    (a__law_whole : PySem.W.nsIn K mainGlobals "_law_whole" = some (some (.ref f__law_whole)))
    (l__law_whole : K.lookup f__law_whole = some ⟨oc__law_whole, od__law_whole, .func (PySem.W.fnOf "_law_whole" "_law_whole" (defArgs s__law_whole) (defBody s__law_whole) (defScope s__law_whole) .none kV__law_whole dc__law_whole pm__law_whole an__law_whole cd__law_whole ct__law_whole), sl__law_whole⟩)
    (e__law_whole : PySem.W.codeIn K cd__law_whole "_law_whole" = true)
    (k__law_whole : PySem.W.keepIn K (.ref f__law_whole) = true)
    (a__law_cell_at : PySem.W.nsIn K mainGlobals "_law_cell_at" = some (some (.ref f__law_cell_at)))
    (l__law_cell_at : K.lookup f__law_cell_at = some ⟨oc__law_cell_at, od__law_cell_at, .func (PySem.W.fnOf "_law_cell_at" "_law_cell_at" (defArgs s__law_cell_at) (defBody s__law_cell_at) (defScope s__law_cell_at) .none kV__law_cell_at dc__law_cell_at pm__law_cell_at an__law_cell_at cd__law_cell_at ct__law_cell_at), sl__law_cell_at⟩)
    (e__law_cell_at : PySem.W.codeIn K cd__law_cell_at "_law_cell_at" = true)
    (k__law_cell_at : PySem.W.keepIn K (.ref f__law_cell_at) = true)
    (a__law_word_by : PySem.W.nsIn K mainGlobals "_law_word_by" = some (some (.ref f__law_word_by)))
    (l__law_word_by : K.lookup f__law_word_by = some ⟨oc__law_word_by, od__law_word_by, .func (PySem.W.fnOf "_law_word_by" "_law_word_by" (defArgs s__law_word_by) (defBody s__law_word_by) (defScope s__law_word_by) .none kV__law_word_by dc__law_word_by pm__law_word_by an__law_word_by cd__law_word_by ct__law_word_by), sl__law_word_by⟩)
    (e__law_word_by : PySem.W.codeIn K cd__law_word_by "_law_word_by" = true)
    (k__law_word_by : PySem.W.keepIn K (.ref f__law_word_by) = true)
    (a__law_split : PySem.W.nsIn K mainGlobals "_law_split" = some (some (.ref f__law_split)))
    (l__law_split : K.lookup f__law_split = some ⟨oc__law_split, od__law_split, .func (PySem.W.fnOf "_law_split" "_law_split" (defArgs s__law_split) (defBody s__law_split) (defScope s__law_split) .none kV__law_split dc__law_split pm__law_split an__law_split cd__law_split ct__law_split), sl__law_split⟩)
    (e__law_split : PySem.W.codeIn K cd__law_split "_law_split" = true)
    (k__law_split : PySem.W.keepIn K (.ref f__law_split) = true)
    (a__law_near : PySem.W.nsIn K mainGlobals "_law_near" = some (some (.ref f__law_near)))
    (l__law_near : K.lookup f__law_near = some ⟨oc__law_near, od__law_near, .func (PySem.W.fnOf "_law_near" "_law_near" (defArgs s__law_near) (defBody s__law_near) (defScope s__law_near) .none kV__law_near dc__law_near pm__law_near an__law_near cd__law_near ct__law_near), sl__law_near⟩)
    (e__law_near : PySem.W.codeIn K cd__law_near "_law_near" = true)
    (k__law_near : PySem.W.keepIn K (.ref f__law_near) = true)
    (a__law_small : PySem.W.nsIn K mainGlobals "_law_small" = some (some (.ref f__law_small)))
    (l__law_small : K.lookup f__law_small = some ⟨oc__law_small, od__law_small, .func (PySem.W.fnOf "_law_small" "_law_small" (defArgs s__law_small) (defBody s__law_small) (defScope s__law_small) .none kV__law_small dc__law_small pm__law_small an__law_small cd__law_small ct__law_small), sl__law_small⟩)
    (e__law_small : PySem.W.codeIn K cd__law_small "_law_small" = true)
    (k__law_small : PySem.W.keepIn K (.ref f__law_small) = true)
    (a__law_lacks : PySem.W.nsIn K mainGlobals "_law_lacks" = some (some (.ref f__law_lacks)))
    (l__law_lacks : K.lookup f__law_lacks = some ⟨oc__law_lacks, od__law_lacks, .func (PySem.W.fnOf "_law_lacks" "_law_lacks" (defArgs s__law_lacks) (defBody s__law_lacks) (defScope s__law_lacks) .none kV__law_lacks dc__law_lacks pm__law_lacks an__law_lacks cd__law_lacks ct__law_lacks), sl__law_lacks⟩)
    (e__law_lacks : PySem.W.codeIn K cd__law_lacks "_law_lacks" = true)
    (k__law_lacks : PySem.W.keepIn K (.ref f__law_lacks) = true)
    (a__law_made : PySem.W.nsIn K mainGlobals "_law_made" = some (some (.ref f__law_made)))
    (l__law_made : K.lookup f__law_made = some ⟨oc__law_made, od__law_made, .func (PySem.W.fnOf "_law_made" "_law_made" (defArgs s__law_made) (defBody s__law_made) (defScope s__law_made) .none kV__law_made dc__law_made pm__law_made an__law_made cd__law_made ct__law_made), sl__law_made⟩)
    (e__law_made : PySem.W.codeIn K cd__law_made "_law_made" = true)
    (k__law_made : PySem.W.keepIn K (.ref f__law_made) = true)
    (a__law_onward : PySem.W.nsIn K mainGlobals "_law_onward" = some (some (.ref f__law_onward)))
    (l__law_onward : K.lookup f__law_onward = some ⟨oc__law_onward, od__law_onward, .func (PySem.W.fnOf "_law_onward" "_law_onward" (defArgs s__law_onward) (defBody s__law_onward) (defScope s__law_onward) .none kV__law_onward dc__law_onward pm__law_onward an__law_onward cd__law_onward ct__law_onward), sl__law_onward⟩)
    (e__law_onward : PySem.W.codeIn K cd__law_onward "_law_onward" = true)
    (k__law_onward : PySem.W.keepIn K (.ref f__law_onward) = true)
    (a__law_done : PySem.W.nsIn K mainGlobals "_law_done" = some (some (.ref f__law_done)))
    (l__law_done : K.lookup f__law_done = some ⟨oc__law_done, od__law_done, .func (PySem.W.fnOf "_law_done" "_law_done" (defArgs s__law_done) (defBody s__law_done) (defScope s__law_done) .none kV__law_done dc__law_done pm__law_done an__law_done cd__law_done ct__law_done), sl__law_done⟩)
    (e__law_done : PySem.W.codeIn K cd__law_done "_law_done" = true)
    (k__law_done : PySem.W.keepIn K (.ref f__law_done) = true)
    (a__law_state : PySem.W.nsIn K mainGlobals "_law_state" = some (some (.ref f__law_state)))
    (l__law_state : K.lookup f__law_state = some ⟨oc__law_state, od__law_state, .func (PySem.W.fnOf "_law_state" "_law_state" (defArgs s__law_state) (defBody s__law_state) (defScope s__law_state) .none kV__law_state dc__law_state pm__law_state an__law_state cd__law_state ct__law_state), sl__law_state⟩)
    (e__law_state : PySem.W.codeIn K cd__law_state "_law_state" = true)
    (k__law_state : PySem.W.keepIn K (.ref f__law_state) = true)
    (a__law_lost_at : PySem.W.nsIn K mainGlobals "_law_lost_at" = some (some (.ref f__law_lost_at)))
    (l__law_lost_at : K.lookup f__law_lost_at = some ⟨oc__law_lost_at, od__law_lost_at, .func (PySem.W.fnOf "_law_lost_at" "_law_lost_at" (defArgs s__law_lost_at) (defBody s__law_lost_at) (defScope s__law_lost_at) .none kV__law_lost_at dc__law_lost_at pm__law_lost_at an__law_lost_at cd__law_lost_at ct__law_lost_at), sl__law_lost_at⟩)
    (e__law_lost_at : PySem.W.codeIn K cd__law_lost_at "_law_lost_at" = true)
    (k__law_lost_at : PySem.W.keepIn K (.ref f__law_lost_at) = true)
    (a__law_stays : PySem.W.nsIn K mainGlobals "_law_stays" = some (some (.ref f__law_stays)))
    (l__law_stays : K.lookup f__law_stays = some ⟨oc__law_stays, od__law_stays, .func (PySem.W.fnOf "_law_stays" "_law_stays" (defArgs s__law_stays) (defBody s__law_stays) (defScope s__law_stays) .none kV__law_stays dc__law_stays pm__law_stays an__law_stays cd__law_stays ct__law_stays), sl__law_stays⟩)
    (e__law_stays : PySem.W.codeIn K cd__law_stays "_law_stays" = true)
    (k__law_stays : PySem.W.keepIn K (.ref f__law_stays) = true)
    (a__law_runs : PySem.W.nsIn K mainGlobals "_law_runs" = some (some (.ref f__law_runs)))
    (l__law_runs : K.lookup f__law_runs = some ⟨oc__law_runs, od__law_runs, .func (PySem.W.fnOf "_law_runs" "_law_runs" (defArgs s__law_runs) (defBody s__law_runs) (defScope s__law_runs) .none kV__law_runs dc__law_runs pm__law_runs an__law_runs cd__law_runs ct__law_runs), sl__law_runs⟩)
    (e__law_runs : PySem.W.codeIn K cd__law_runs "_law_runs" = true)
    (k__law_runs : PySem.W.keepIn K (.ref f__law_runs) = true)
    (a__law_held : PySem.W.nsIn K mainGlobals "_law_held" = some (some (.ref f__law_held)))
    (l__law_held : K.lookup f__law_held = some ⟨oc__law_held, od__law_held, .func (PySem.W.fnOf "_law_held" "_law_held" (defArgs s__law_held) (defBody s__law_held) (defScope s__law_held) .none kV__law_held dc__law_held pm__law_held an__law_held cd__law_held ct__law_held), sl__law_held⟩)
    (e__law_held : PySem.W.codeIn K cd__law_held "_law_held" = true)
    (k__law_held : PySem.W.keepIn K (.ref f__law_held) = true)
    (a_law : PySem.W.nsIn K mainGlobals "law" = some (some (.ref f_law)))
    (l_law : K.lookup f_law = some ⟨oc_law, od_law, .func (PySem.W.fnOf "law" "law" (defArgs s_law) (defBody s_law) (defScope s_law) .none kV_law dc_law pm_law an_law cd_law ct_law), sl_law⟩)
    (e_law : PySem.W.codeIn K cd_law "law" = true)
    (k_law : PySem.W.keepIn K (.ref f_law) = true)
    (pg_Machine : PySem.W.plainGet K C_Machine Str.empty = true)
    (hd_Machine : PySem.W.hasDictIn K C_Machine = true)
    (po_Machine : PySem.W.plainOver K C_Machine = true)
    (sa_Machine : PySem.W.findIn K (.ref C_Machine) "__setattr__" = some (some (.builtin "object.__setattr__")))
    (mm_Machine : PySem.W.makesIn K C_Machine = true)
    (kc_Machine : PySem.W.keepIn K (.ref C_Machine) = true)
    (hd_L : PySem.W.hasDictIn K C_Lost = true)
    (ml : PySem.W.mroIn K C_Lost (.ref C_Lost) = some true)
    (xg_Lost : PySem.W.findIn K (.ref C_Lost) "__getattribute__" = some (some (.builtin "BaseException.__getattribute__")))
    (xn_Lost : PySem.W.findIn K (.ref C_Lost) "__getattr__" = some none)
    (xl_Lost : PySem.W.findIn K (.ref C_Lost) "__class__" = some (some (.builtin "object.__class__")))
    (xo_Lost : PySem.W.mroIn K C_Lost (.type "object") = some true)
    (xb_Lost : PySem.W.mroIn K C_Lost (.type "BaseException") = some true)
    (sp_cl : PySem.W.specialIn K (.builtin "object.__class__") "__get__" = some (some (.builtin "getset_descriptor.__get__")))
    (tk_cl : PySem.W.takesIn K (.builtin "object.__class__") = some true)
    (ei_Lost : ownInit K C_Lost f_Lost___init__ = true)
    (ee_Lost : errIn K C_Lost = true)
    (es_Lost : PySem.W.findIn K (.ref C_Lost) "__setattr__" = some (some (.builtin "object.__setattr__")))
    (br_JoinError : PySem.W.readsIn K C_JoinError (.type "type") = true)
    (bf_JoinError : PySem.W.findCls K (.ref C_JoinError) (.type "type") "__init__" = some (.val (.builtin "ValueError.__init__")))
    (bg_JoinError : PySem.W.specialIn K (.ref C_JoinError) "__getattribute__" = some (some (.builtin "type.__getattribute__")))
    (ct_Lost : PySem.W.instIn K (.ref C_Lost) (.type "tuple") = some false)
    (cb_Lost : PySem.W.mroIn K C_Lost (.type "BaseException") = some true)
    (no_Machine_memory : PySem.W.findIn K (.ref C_Machine) "memory" = some none)
    (no_Machine_place : PySem.W.findIn K (.ref C_Machine) "place" = some none)
    (no_Machine_registers : PySem.W.findIn K (.ref C_Machine) "registers" = some none)
    (no_Machine_numbers : PySem.W.findIn K (.ref C_Machine) "numbers" = some none)
    (no_Machine_ended : PySem.W.findIn K (.ref C_Machine) "ended" = some none)
    (no_Lost_place : PySem.W.findIn K (.ref C_Lost) "place" = some none)
    (g_DEEDS : PySem.W.nsIn K mainGlobals "DEEDS" = some (some (.ref o_DEEDS)))
    (l_DEEDS : K.lookup o_DEEDS = some ⟨.type "tuple", od_DEEDS, .seq #[.str "end" k_DEEDS_0, .str "tell" k_DEEDS_1, .str "put" k_DEEDS_2, .str "high" k_DEEDS_3, .str "add" k_DEEDS_4, .str "load" k_DEEDS_5, .str "store" k_DEEDS_6, .str "sum" k_DEEDS_7, .str "less" k_DEEDS_8, .str "both" k_DEEDS_9, .str "odd" k_DEEDS_10, .str "turn" k_DEEDS_11, .str "same" k_DEEDS_12, .str "under" k_DEEDS_13, .str "call" k_DEEDS_14, .str "go" k_DEEDS_15] n_DEEDS, sl_DEEDS⟩)
    (g_WORD_BITS : PySem.W.nsIn K mainGlobals "WORD_BITS" = some (some (.int 32 t_WORD_BITS)))
    (g_WORD_COUNT : PySem.W.nsIn K mainGlobals "WORD_COUNT" = some (some (.int 4294967296 t_WORD_COUNT)))
    (n_bool : PySem.W.nsIn K mainGlobals "bool" = some none)
    (n_dict : PySem.W.nsIn K mainGlobals "dict" = some none)
    (n_int : PySem.W.nsIn K mainGlobals "int" = some none)
    (n_isinstance : PySem.W.nsIn K mainGlobals "isinstance" = some none)
    (n_len : PySem.W.nsIn K mainGlobals "len" = some none)
    (n_list : PySem.W.nsIn K mainGlobals "list" = some none)
    (n_max : PySem.W.nsIn K mainGlobals "max" = some none)
    (n_range : PySem.W.nsIn K mainGlobals "range" = some none)
    (n_tuple : PySem.W.nsIn K mainGlobals "tuple" = some none) :
    ∃ fd : FuncData, (∀ (s : Shared) (v : Value), BindsTo s fd ⟨[v], []⟩ [("_law_script", v)]) ∧ ∀ base : Heap, K.In base → base.Ns mainGlobals mg → FnOk l.prog w K mg base CX0 14 fa fd ["_law_script"] (sp_law K) := by
  have e := hfa.symm.trans (PySem.W.mg_of X G a_law)
  cases e
  have F_wrapped := fun_mk (st := s_wrapped) l_wrapped e_wrapped k_wrapped
  have b_wrapped := F_wrapped.binds (ps := ["number"]) fun _ _ _ _ _ _ us hl => len1 us hl fun _ => rfl
  have F_field := fun_mk (st := s_field) l_field e_field k_field
  have b_field := F_field.binds (ps := ["word", "low", "many"]) fun _ _ _ _ _ _ us hl => len3 us hl fun _ _ _ => rfl
  have F_signed := fun_mk (st := s_signed) l_signed e_signed k_signed
  have b_signed := F_signed.binds (ps := ["number", "many"]) fun _ _ _ _ _ _ us hl => len2 us hl fun _ _ => rfl
  have F_turned := fun_mk (st := s_turned) l_turned e_turned k_turned
  have b_turned := F_turned.binds (ps := ["word", "by"]) fun _ _ _ _ _ _ us hl => len2 us hl fun _ _ => rfl
  have F_ones := fun_mk (st := s_ones) l_ones e_ones k_ones
  have b_ones := F_ones.binds (ps := ["many"]) fun _ _ _ _ _ _ us hl => len1 us hl fun _ => rfl
  have F_moved := fun_mk (st := s_moved) l_moved e_moved k_moved
  have b_moved := F_moved.binds (ps := ["number", "up"]) fun _ _ _ _ _ _ us hl => len2 us hl fun _ _ => rfl
  have F_deed_of := fun_mk (st := s_deed_of) l_deed_of e_deed_of k_deed_of
  have b_deed_of := F_deed_of.binds (ps := ["word"]) fun _ _ _ _ _ _ us hl => len1 us hl fun _ => rfl
  have F_op_of := fun_mk (st := s_op_of) l_op_of e_op_of k_op_of
  have b_op_of := F_op_of.binds (ps := ["word"]) fun _ _ _ _ _ _ us hl => len1 us hl fun _ => rfl
  have F_a_of := fun_mk (st := s_a_of) l_a_of e_a_of k_a_of
  have b_a_of := F_a_of.binds (ps := ["word"]) fun _ _ _ _ _ _ us hl => len1 us hl fun _ => rfl
  have F_b_of := fun_mk (st := s_b_of) l_b_of e_b_of k_b_of
  have b_b_of := F_b_of.binds (ps := ["word"]) fun _ _ _ _ _ _ us hl => len1 us hl fun _ => rfl
  have F_c_of := fun_mk (st := s_c_of) l_c_of e_c_of k_c_of
  have b_c_of := F_c_of.binds (ps := ["word"]) fun _ _ _ _ _ _ us hl => len1 us hl fun _ => rfl
  have F_n_of := fun_mk (st := s_n_of) l_n_of e_n_of k_n_of
  have b_n_of := F_n_of.binds (ps := ["word"]) fun _ _ _ _ _ _ us hl => len1 us hl fun _ => rfl
  have F_s_of := fun_mk (st := s_s_of) l_s_of e_s_of k_s_of
  have b_s_of := F_s_of.binds (ps := ["word"]) fun _ _ _ _ _ _ us hl => len1 us hl fun _ => rfl
  have F_near_of := fun_mk (st := s_near_of) l_near_of e_near_of k_near_of
  have b_near_of := F_near_of.binds (ps := ["word"]) fun _ _ _ _ _ _ us hl => len1 us hl fun _ => rfl
  have F_split_of := fun_mk (st := s_split_of) l_split_of e_split_of k_split_of
  have b_split_of := F_split_of.binds (ps := ["word"]) fun _ _ _ _ _ _ us hl => len1 us hl fun _ => rfl
  have F_of_two_words := fun_mk (st := s_of_two_words) l_of_two_words e_of_two_words k_of_two_words
  have b_of_two_words := F_of_two_words.binds (ps := ["deed", "first", "second"]) fun _ _ _ _ _ _ us hl => len3 us hl fun _ _ _ => rfl
  have F_Lost___init__ := fun_mk (st := s_Lost___init__) l_Lost___init__ e_Lost___init__ k_Lost___init__
  have b_Lost___init__ := F_Lost___init__.binds (ps := ["self", "place"]) fun _ _ _ _ _ _ us hl => len2 us hl fun _ _ => rfl
  have F_Machine___init__ := fun_mk (st := s_Machine___init__) l_Machine___init__ e_Machine___init__ k_Machine___init__
  have b_Machine___init__ := F_Machine___init__.binds (ps := ["self", "memory", "start", "registers"]) fun _ _ _ _ _ _ us hl => len4 us hl fun _ _ _ _ => rfl
  have F_Machine_go_on := fun_mk (st := s_Machine_go_on) l_Machine_go_on e_Machine_go_on k_Machine_go_on
  have b_Machine_go_on := F_Machine_go_on.binds (ps := ["self"]) fun _ _ _ _ _ _ us hl => len1 us hl fun _ => rfl
  have F_Machine_state := fun_mk (st := s_Machine_state) l_Machine_state e_Machine_state k_Machine_state
  have b_Machine_state := F_Machine_state.binds (ps := ["self"]) fun _ _ _ _ _ _ us hl => len1 us hl fun _ => rfl
  have F_Machine_word_at := fun_mk (st := s_Machine_word_at) l_Machine_word_at e_Machine_word_at k_Machine_word_at
  have b_Machine_word_at := F_Machine_word_at.binds (ps := ["self", "place"]) fun _ _ _ _ _ _ us hl => len2 us hl fun _ _ => rfl
  have F_Machine_found := fun_mk (st := s_Machine_found) l_Machine_found e_Machine_found k_Machine_found
  have b_Machine_found := F_Machine_found.binds (ps := ["self", "place"]) fun _ _ _ _ _ _ us hl => len2 us hl fun _ _ => rfl
  have F_Machine_do := fun_mk (st := s_Machine_do) l_Machine_do e_Machine_do k_Machine_do
  have b_Machine_do := F_Machine_do.binds (ps := ["self", "word"]) fun _ _ _ _ _ _ us hl => len2 us hl fun _ _ => rfl
  have F_Machine_sought := fun_mk (st := s_Machine_sought) l_Machine_sought e_Machine_sought k_Machine_sought
  have b_Machine_sought := F_Machine_sought.binds (ps := ["self", "word"]) fun _ _ _ _ _ _ us hl => len2 us hl fun _ _ => rfl
  have F_Machine_store := fun_mk (st := s_Machine_store) l_Machine_store e_Machine_store k_Machine_store
  have b_Machine_store := F_Machine_store.binds (ps := ["self", "place", "word"]) fun _ _ _ _ _ _ us hl => len3 us hl fun _ _ _ => rfl
  have F_Machine_goes := fun_mk (st := s_Machine_goes) l_Machine_goes e_Machine_goes k_Machine_goes
  have b_Machine_goes := F_Machine_goes.binds (ps := ["self", "deed", "word"]) fun _ _ _ _ _ _ us hl => len3 us hl fun _ _ _ => rfl
  have F_Machine_result := fun_mk (st := s_Machine_result) l_Machine_result e_Machine_result k_Machine_result
  have b_Machine_result := F_Machine_result.binds (ps := ["self", "deed", "word"]) fun _ _ _ _ _ _ us hl => len3 us hl fun _ _ _ => rfl
  have F__law_whole := fun_mk (st := s__law_whole) l__law_whole e__law_whole k__law_whole
  have b__law_whole := F__law_whole.binds (ps := ["_law_found"]) fun _ _ _ _ _ _ us hl => len1 us hl fun _ => rfl
  have F__law_cell_at := fun_mk (st := s__law_cell_at) l__law_cell_at e__law_cell_at k__law_cell_at
  have b__law_cell_at := F__law_cell_at.binds (ps := ["_law_script", "_law_k"]) fun _ _ _ _ _ _ us hl => len2 us hl fun _ _ => rfl
  have F__law_word_by := fun_mk (st := s__law_word_by) l__law_word_by e__law_word_by k__law_word_by
  have b__law_word_by := F__law_word_by.binds (ps := ["_law_cell"]) fun _ _ _ _ _ _ us hl => len1 us hl fun _ => rfl
  have F__law_split := fun_mk (st := s__law_split) l__law_split e__law_split k__law_split
  have b__law_split := F__law_split.binds (ps := ["_law_word"]) fun _ _ _ _ _ _ us hl => len1 us hl fun _ => rfl
  have F__law_near := fun_mk (st := s__law_near) l__law_near e__law_near k__law_near
  have b__law_near := F__law_near.binds (ps := ["_law_word"]) fun _ _ _ _ _ _ us hl => len1 us hl fun _ => rfl
  have F__law_small := fun_mk (st := s__law_small) l__law_small e__law_small k__law_small
  have b__law_small := F__law_small.binds (ps := ["_law_word"]) fun _ _ _ _ _ _ us hl => len1 us hl fun _ => rfl
  have F__law_lacks := fun_mk (st := s__law_lacks) l__law_lacks e__law_lacks k__law_lacks
  have b__law_lacks := F__law_lacks.binds (ps := ["_law_memory", "_law_row", "_law_here"]) fun _ _ _ _ _ _ us hl => len3 us hl fun _ _ _ => rfl
  have F__law_made := fun_mk (st := s__law_made) l__law_made e__law_made k__law_made
  have b__law_made := F__law_made.binds (ps := ["_law_memory", "_law_op", "_law_word", "_law_one", "_law_other"]) fun _ _ _ _ _ _ us hl => len5 us hl fun _ _ _ _ _ => rfl
  have F__law_onward := fun_mk (st := s__law_onward) l__law_onward e__law_onward k__law_onward
  have b__law_onward := F__law_onward.binds (ps := ["_law_op", "_law_word", "_law_here", "_law_one", "_law_other"]) fun _ _ _ _ _ _ us hl => len5 us hl fun _ _ _ _ _ => rfl
  have F__law_done := fun_mk (st := s__law_done) l__law_done e__law_done k__law_done
  have b__law_done := F__law_done.binds (ps := ["_law_memory", "_law_row", "_law_told", "_law_here"]) fun _ _ _ _ _ _ us hl => len4 us hl fun _ _ _ _ => rfl
  have F__law_state := fun_mk (st := s__law_state) l__law_state e__law_state k__law_state
  have b__law_state := F__law_state.binds (ps := ["_law_found", "_law_due"]) fun _ _ _ _ _ _ us hl => len2 us hl fun _ _ => rfl
  have F__law_lost_at := fun_mk (st := s__law_lost_at) l__law_lost_at e__law_lost_at k__law_lost_at
  have b__law_lost_at := F__law_lost_at.binds (ps := ["_law_machine"]) fun _ _ _ _ _ _ us hl => len1 us hl fun _ => rfl
  have F__law_stays := fun_mk (st := s__law_stays) l__law_stays e__law_stays k__law_stays
  have b__law_stays := F__law_stays.binds (ps := ["_law_machine", "_law_due", "_law_lack"]) fun _ _ _ _ _ _ us hl => len3 us hl fun _ _ _ => rfl
  have F__law_runs := fun_mk (st := s__law_runs) l__law_runs e__law_runs k__law_runs
  have b__law_runs := F__law_runs.binds (ps := ["_law_machine", "_law_memory", "_law_row", "_law_here", "_law_most"]) fun _ _ _ _ _ _ us hl => len5 us hl fun _ _ _ _ _ => rfl
  have F__law_held := fun_mk (st := s__law_held) l__law_held e__law_held k__law_held
  have b__law_held := F__law_held.binds (ps := ["_law_held_here"]) fun _ _ _ _ _ _ us hl => len1 us hl fun _ => rfl
  have F_law := fun_mk (st := s_law) l_law e_law k_law
  have b_law := F_law.binds (ps := ["_law_script"]) fun _ _ _ _ _ _ us hl => len1 us hl fun _ => rfl
  have T : Txt K mg { wrapped := f_wrapped, fd_wrapped := _, field := f_field, fd_field := _, signed := f_signed, fd_signed := _, turned := f_turned, fd_turned := _, ones := f_ones, fd_ones := _, moved := f_moved, fd_moved := _, deed_of := f_deed_of, fd_deed_of := _, op_of := f_op_of, fd_op_of := _, a_of := f_a_of, fd_a_of := _, b_of := f_b_of, fd_b_of := _, c_of := f_c_of, fd_c_of := _, n_of := f_n_of, fd_n_of := _, s_of := f_s_of, fd_s_of := _, near_of := f_near_of, fd_near_of := _, split_of := f_split_of, fd_split_of := _, of_two_words := f_of_two_words, fd_of_two_words := _, Lost___init__ := f_Lost___init__, fd_Lost___init__ := _, Machine___init__ := f_Machine___init__, fd_Machine___init__ := _, Machine_go_on := f_Machine_go_on, fd_Machine_go_on := _, Machine_state := f_Machine_state, fd_Machine_state := _, Machine_word_at := f_Machine_word_at, fd_Machine_word_at := _, Machine_found := f_Machine_found, fd_Machine_found := _, Machine_do := f_Machine_do, fd_Machine_do := _, Machine_sought := f_Machine_sought, fd_Machine_sought := _, Machine_store := f_Machine_store, fd_Machine_store := _, Machine_goes := f_Machine_goes, fd_Machine_goes := _, Machine_result := f_Machine_result, fd_Machine_result := _, _law_whole := f__law_whole, fd__law_whole := _, _law_cell_at := f__law_cell_at, fd__law_cell_at := _, _law_word_by := f__law_word_by, fd__law_word_by := _, _law_split := f__law_split, fd__law_split := _, _law_near := f__law_near, fd__law_near := _, _law_small := f__law_small, fd__law_small := _, _law_lacks := f__law_lacks, fd__law_lacks := _, _law_made := f__law_made, fd__law_made := _, _law_onward := f__law_onward, fd__law_onward := _, _law_done := f__law_done, fd__law_done := _, _law_state := f__law_state, fd__law_state := _, _law_lost_at := f__law_lost_at, fd__law_lost_at := _, _law_stays := f__law_stays, fd__law_stays := _, _law_runs := f__law_runs, fd__law_runs := _, _law_held := f__law_held, fd__law_held := _, law := fa, fd_law := _, o_DEEDS := o_DEEDS, t_WORD_BITS := t_WORD_BITS, t_WORD_COUNT := t_WORD_COUNT, c_JoinError := C_JoinError, c_Lost := C_Lost, c_Machine := C_Machine } := {
    m_wrapped := PySem.W.mg_of X G a_wrapped
    k_wrapped := k_wrapped
    b_wrapped := b_wrapped
    F_wrapped := F_wrapped
    m_field := PySem.W.mg_of X G a_field
    k_field := k_field
    b_field := b_field
    F_field := F_field
    m_signed := PySem.W.mg_of X G a_signed
    k_signed := k_signed
    b_signed := b_signed
    F_signed := F_signed
    m_turned := PySem.W.mg_of X G a_turned
    k_turned := k_turned
    b_turned := b_turned
    F_turned := F_turned
    m_ones := PySem.W.mg_of X G a_ones
    k_ones := k_ones
    b_ones := b_ones
    F_ones := F_ones
    m_moved := PySem.W.mg_of X G a_moved
    k_moved := k_moved
    b_moved := b_moved
    F_moved := F_moved
    m_deed_of := PySem.W.mg_of X G a_deed_of
    k_deed_of := k_deed_of
    b_deed_of := b_deed_of
    F_deed_of := F_deed_of
    m_op_of := PySem.W.mg_of X G a_op_of
    k_op_of := k_op_of
    b_op_of := b_op_of
    F_op_of := F_op_of
    m_a_of := PySem.W.mg_of X G a_a_of
    k_a_of := k_a_of
    b_a_of := b_a_of
    F_a_of := F_a_of
    m_b_of := PySem.W.mg_of X G a_b_of
    k_b_of := k_b_of
    b_b_of := b_b_of
    F_b_of := F_b_of
    m_c_of := PySem.W.mg_of X G a_c_of
    k_c_of := k_c_of
    b_c_of := b_c_of
    F_c_of := F_c_of
    m_n_of := PySem.W.mg_of X G a_n_of
    k_n_of := k_n_of
    b_n_of := b_n_of
    F_n_of := F_n_of
    m_s_of := PySem.W.mg_of X G a_s_of
    k_s_of := k_s_of
    b_s_of := b_s_of
    F_s_of := F_s_of
    m_near_of := PySem.W.mg_of X G a_near_of
    k_near_of := k_near_of
    b_near_of := b_near_of
    F_near_of := F_near_of
    m_split_of := PySem.W.mg_of X G a_split_of
    k_split_of := k_split_of
    b_split_of := b_split_of
    F_split_of := F_split_of
    m_of_two_words := PySem.W.mg_of X G a_of_two_words
    k_of_two_words := k_of_two_words
    b_of_two_words := b_of_two_words
    F_of_two_words := F_of_two_words
    k_Lost___init__ := k_Lost___init__
    b_Lost___init__ := b_Lost___init__
    F_Lost___init__ := F_Lost___init__
    k_Machine___init__ := k_Machine___init__
    b_Machine___init__ := b_Machine___init__
    F_Machine___init__ := F_Machine___init__
    k_Machine_go_on := k_Machine_go_on
    b_Machine_go_on := b_Machine_go_on
    F_Machine_go_on := F_Machine_go_on
    k_Machine_state := k_Machine_state
    b_Machine_state := b_Machine_state
    F_Machine_state := F_Machine_state
    k_Machine_word_at := k_Machine_word_at
    b_Machine_word_at := b_Machine_word_at
    F_Machine_word_at := F_Machine_word_at
    k_Machine_found := k_Machine_found
    b_Machine_found := b_Machine_found
    F_Machine_found := F_Machine_found
    k_Machine_do := k_Machine_do
    b_Machine_do := b_Machine_do
    F_Machine_do := F_Machine_do
    k_Machine_sought := k_Machine_sought
    b_Machine_sought := b_Machine_sought
    F_Machine_sought := F_Machine_sought
    k_Machine_store := k_Machine_store
    b_Machine_store := b_Machine_store
    F_Machine_store := F_Machine_store
    k_Machine_goes := k_Machine_goes
    b_Machine_goes := b_Machine_goes
    F_Machine_goes := F_Machine_goes
    k_Machine_result := k_Machine_result
    b_Machine_result := b_Machine_result
    F_Machine_result := F_Machine_result
    m__law_whole := PySem.W.mg_of X G a__law_whole
    k__law_whole := k__law_whole
    b__law_whole := b__law_whole
    F__law_whole := F__law_whole
    m__law_cell_at := PySem.W.mg_of X G a__law_cell_at
    k__law_cell_at := k__law_cell_at
    b__law_cell_at := b__law_cell_at
    F__law_cell_at := F__law_cell_at
    m__law_word_by := PySem.W.mg_of X G a__law_word_by
    k__law_word_by := k__law_word_by
    b__law_word_by := b__law_word_by
    F__law_word_by := F__law_word_by
    m__law_split := PySem.W.mg_of X G a__law_split
    k__law_split := k__law_split
    b__law_split := b__law_split
    F__law_split := F__law_split
    m__law_near := PySem.W.mg_of X G a__law_near
    k__law_near := k__law_near
    b__law_near := b__law_near
    F__law_near := F__law_near
    m__law_small := PySem.W.mg_of X G a__law_small
    k__law_small := k__law_small
    b__law_small := b__law_small
    F__law_small := F__law_small
    m__law_lacks := PySem.W.mg_of X G a__law_lacks
    k__law_lacks := k__law_lacks
    b__law_lacks := b__law_lacks
    F__law_lacks := F__law_lacks
    m__law_made := PySem.W.mg_of X G a__law_made
    k__law_made := k__law_made
    b__law_made := b__law_made
    F__law_made := F__law_made
    m__law_onward := PySem.W.mg_of X G a__law_onward
    k__law_onward := k__law_onward
    b__law_onward := b__law_onward
    F__law_onward := F__law_onward
    m__law_done := PySem.W.mg_of X G a__law_done
    k__law_done := k__law_done
    b__law_done := b__law_done
    F__law_done := F__law_done
    m__law_state := PySem.W.mg_of X G a__law_state
    k__law_state := k__law_state
    b__law_state := b__law_state
    F__law_state := F__law_state
    m__law_lost_at := PySem.W.mg_of X G a__law_lost_at
    k__law_lost_at := k__law_lost_at
    b__law_lost_at := b__law_lost_at
    F__law_lost_at := F__law_lost_at
    m__law_stays := PySem.W.mg_of X G a__law_stays
    k__law_stays := k__law_stays
    b__law_stays := b__law_stays
    F__law_stays := F__law_stays
    m__law_runs := PySem.W.mg_of X G a__law_runs
    k__law_runs := k__law_runs
    b__law_runs := b__law_runs
    F__law_runs := F__law_runs
    m__law_held := PySem.W.mg_of X G a__law_held
    k__law_held := k__law_held
    b__law_held := b__law_held
    F__law_held := F__law_held
    m_law := PySem.W.mg_of X G a_law
    k_law := k_law
    b_law := b_law
    F_law := F_law
    g_DEEDS := PySem.W.mg_of X G g_DEEDS
    q_DEEDS := fun H => .inr ⟨_, _, _, l_DEEDS, rfl, rfl, (by rw [sizeLine_eq]; exact (by decide : (16 : Nat) ≤ 16777216)), .cons relS (.cons relS (.cons relS (.cons relS (.cons relS (.cons relS (.cons relS (.cons relS (.cons relS (.cons relS (.cons relS (.cons relS (.cons relS (.cons relS (.cons relS (.cons relS (.nil))))))))))))))))⟩
    g_WORD_BITS := PySem.W.mg_of X G g_WORD_BITS
    g_WORD_COUNT := PySem.W.mg_of X G g_WORD_COUNT
    n_bool := PySem.W.mg_none_of X G n_bool
    n_dict := PySem.W.mg_none_of X G n_dict
    n_int := PySem.W.mg_none_of X G n_int
    n_isinstance := PySem.W.mg_none_of X G n_isinstance
    n_len := PySem.W.mg_none_of X G n_len
    n_list := PySem.W.mg_none_of X G n_list
    n_max := PySem.W.mg_none_of X G n_max
    n_range := PySem.W.mg_none_of X G n_range
    n_tuple := PySem.W.mg_none_of X G n_tuple
    mc_JoinError := PySem.W.mg_of X G ac_JoinError
    mc_Lost := PySem.W.mg_of X G ac_Lost
    mc_Machine := PySem.W.mg_of X G ac_Machine
    cl_Machine := ⟨pg_Machine, hd_Machine, po_Machine, sa_Machine⟩
    hd_L := hd_L
    ml := ml
    xg_Lost := xg_Lost
    xn_Lost := xn_Lost
    xl_Lost := xl_Lost
    xo_Lost := xo_Lost
    xb_Lost := xb_Lost
    sp_cl := sp_cl
    tk_cl := tk_cl
    ei_Lost := ei_Lost
    ee_Lost := ee_Lost
    es_Lost := es_Lost
    br_JoinError := br_JoinError
    bf_JoinError := bf_JoinError
    bg_JoinError := bg_JoinError
    ct_Lost := ct_Lost
    cb_Lost := cb_Lost
    er_Lost := ⟨ei_Lost, ee_Lost, es_Lost, i_Lost___init__⟩
    bi_JoinError := ⟨br_JoinError, bf_JoinError, bg_JoinError⟩
    mk_Machine := ⟨mm_Machine, a_Machine___init__, i_Machine___init__, kc_Machine⟩
    me_Machine_do := ⟨a_Machine_do, i_Machine_do, k_Machine_do⟩
    me_Machine_found := ⟨a_Machine_found, i_Machine_found, k_Machine_found⟩
    me_Machine_go_on := ⟨a_Machine_go_on, i_Machine_go_on, k_Machine_go_on⟩
    me_Machine_goes := ⟨a_Machine_goes, i_Machine_goes, k_Machine_goes⟩
    me_Machine_result := ⟨a_Machine_result, i_Machine_result, k_Machine_result⟩
    me_Machine_sought := ⟨a_Machine_sought, i_Machine_sought, k_Machine_sought⟩
    me_Machine_state := ⟨a_Machine_state, i_Machine_state, k_Machine_state⟩
    me_Machine_store := ⟨a_Machine_store, i_Machine_store, k_Machine_store⟩
    me_Machine_word_at := ⟨a_Machine_word_at, i_Machine_word_at, k_Machine_word_at⟩
    no_Machine_memory := no_Machine_memory
    no_Machine_place := no_Machine_place
    no_Machine_registers := no_Machine_registers
    no_Machine_numbers := no_Machine_numbers
    no_Machine_ended := no_Machine_ended
    no_Lost_place := no_Lost_place }
  exact ⟨_, fun s v => .of_eq rfl, fun base _ _ => G_law T⟩
theorem walk {l : PySem.W.OpenLaw} {q : Program} {loose : List Str} {XP : (Str → Option Value) → Heap → Prop} {YP : World → Heap → Prop} {d : DefRec} {K : Params → PySem.W.Frag} (hn : l.most = some 63) (hdf : d.params.defaults = [])
    (hY : ∀ (w : World) (h : Heap), YP w h → (K w.params).In h)
    (F : ∀ (w : World) (mg : Str → Option Value) (fa : Addr) (h : Heap), (K w.params).In h → h.Ns mainGlobals mg → mg d.name = some (.ref fa) →
      ∃ fd : FuncData, (∀ (s : Shared) (u : Value), BindsTo s fd ⟨[u], []⟩ [("_law_script", u)]) ∧ ∀ base : Heap, (K w.params).In base → base.Ns mainGlobals mg → FnOk l.prog w (K w.params) mg base CX0 14 fa fd ["_law_script"] (sp_law (K w.params))) :
    PySem.W.WalkO q loose XP YP l.row.toRowW d [] (fun f vs => PySem.call f vs) :=
  L2.walk_of (n := 63) (k := 14) (x := "_law_script") (CX := fun _ => CX0) (sp := fun w => sp_law (K w.params)) hn (by decide) hdf ⟨rfl, by decide, by decide⟩ hY F (fun _ _ a ns hl _ hS => ⟨a, ns, rfl, hS, hl, fun _ => rfl⟩) fun _ _ _ _ _ z => z
end My
namespace Hd
open PySem PySem.W PySem.Calls PyProof.Rows
noncomputable abbrev pw : Program := PySem.Challenge.pw_joinload_k54_whole_runs_by_a_plain_model
noncomputable def T (i : Nat) : Stmt := My.top i
noncomputable def C (i j : Nat) : Stmt := L2.inClass (My.top i) j
noncomputable abbrev k (P : Params) (x : Str) (t : Tok) (v : Value) : DictEntry := ⟨PyData.keyHash P x, .str x t, v⟩
noncomputable abbrev fn (s : Stmt) (x q : Str) (dV kV doc pm : Value) (an : Option Addr) (cd ct : Value) : FuncData := fnOf x q (L2.defArgs s) (L2.defBody s) (L2.defScope s) dV kV doc pm an cd ct
noncomputable abbrev e1 : Obj := ⟨.type "tuple", none, .seq #[] 0, #[]⟩
noncomputable abbrev e2 : Obj := ⟨.none, none, .fields #[], #[]⟩
noncomputable abbrev bp : Obj := ⟨.type "builtin_function_or_method", none, .fields #[.builtin "type.__prepare__", .type "type"], #[]⟩
noncomputable abbrev tu (x : Array Value) : Obj := ⟨.type "tuple", none, .seq x 0, #[]⟩
noncomputable abbrev nf (x : Array Value) : Obj := ⟨.none, none, .fields x, #[]⟩
noncomputable abbrev bs (a : Addr) : Obj := ⟨.type "builtin_function_or_method", none, .fields #[.builtin "object.__init_subclass__", .ref a], #[]⟩
noncomputable abbrev su (a : Addr) : Obj := ⟨.type "super", none, .fields #[.ref a, .ref a, .ref a], #[]⟩
noncomputable abbrev co (x q : Str) (t : Nat) (l a b : Int) (r : Addr) (o : Bool) (r2 : Addr) (v : Value) (u : Nat) : Obj := ⟨.type "code", none, .fields #[.str x t, .str q (t + 1), .str "/claim/cut.py" (t + 2), .int l 0, .int a 0, .int 0 0, .int 0 0, .int b 0, .ref r, .bool o, .int 181 0, .ref r2, .none, .none, .none, v, .int (Int.ofNat u) 0, .int l 0, .str "/claim/cut.py" (u + 1)], #[]⟩
noncomputable abbrev fm (a b : Addr) (v : Value) : Obj := ⟨.type "frame", none, .plain, #[some (.ref a), some (.ref 3), some (.ref b), none, some v, none, some (.ref 0)]⟩
noncomputable abbrev fo (s : Stmt) (x q m : Str) (t : Nat) (c : Addr) : Obj := ⟨.type "function", none, .func (fn s x q .none .none .none (.str m t) none (.ref c) .none), #[]⟩
noncomputable abbrev ft (s : Stmt) (x q : Str) : Obj := ⟨.none, none, .func { fn s x q .none .none .none .none none .none .none with globals := 0, closure := [], builtins := 0 }, #[]⟩
noncomputable abbrev di (l : List DictEntry) (n : Nat) : Obj := ⟨.type "dict", none, .dict l.toArray n, #[]⟩
noncomputable def sv : List DictEntry → Nat → Value → List DictEntry
  | [], _, _ => []
  | e :: r, 0, v => ⟨e.hash, e.key, v⟩ :: r
  | e :: r, n + 1, v => e :: sv r n v
noncomputable def od : List (Nat × Obj) → List (Nat × Obj)
  | [] => []
  | (i, o) :: r => match Nat.beq (i % 2) 1 with
    | true => (i / 2, o) :: od r
    | false => od r
noncomputable def ev : List (Nat × Obj) → List (Nat × Obj)
  | [] => []
  | (i, o) :: r => match Nat.beq i 0 with
    | true => ev r
    | false => match Nat.beq (i % 2) 1 with
      | true => ev r
      | false => (i / 2 - 1, o) :: ev r
noncomputable def at0 (v : Obj) : List (Nat × Obj) → Obj
  | [] => v
  | (i, o) :: r => match Nat.beq i 0 with
    | true => o
    | false => at0 v r
noncomputable def mg : Nat → BT → List (Nat × Obj) → BT
  | 0, t, _ => t
  | f + 1, t, d => match d with
    | [] => t
    | x :: r => match t with
      | .nil => .node (at0 default (x :: r)) (mg f .nil (od (x :: r))) (mg f .nil (ev (x :: r)))
      | .node v a b => .node (at0 v (x :: r)) (mg f a (od (x :: r))) (mg f b (ev (x :: r)))
noncomputable def bd : List Stmt := behindTheImports pw
noncomputable def en : Env := { scope := pw.main.scope, locals := mainNs, globals := mainNs, cells := [], code := (.ref 13), frame := some 14 }
noncomputable abbrev cE : Code := .body bd en
noncomputable abbrev B : List Frame := [topFrame ⟨0, 0, 0, 0⟩]
noncomputable def li : Life := { registered := [], finalised := [], alive := [], known := 0, ids := [], orphanDicts := [], counting := false, cnt := ⟨[]⟩, zero := [], soft := 0, below := false, collecting := false, loading := false, debug := 0, thresholds := [2000, 10, 10], woke := false, asked := 0, gcEnabled := true, old := [], middle := [], young := 0, intoMiddle := false }
noncomputable abbrev an : Option Value := (some (.ref 6))
noncomputable abbrev sT (t : BT) (n k : Nat) (os : OsState) : SharedT := ⟨t, n, li, ⟨[]⟩, boot_drawn, k, os⟩
noncomputable abbrev sR (w : World) (n : Nat) (S S' : World → OsState → SharedT) (l : List Stmt) (p p' : Pos) : Prop := (fun os => segRunT treeTable pw w 11 an 1 n (S w os) (piecesOf l en cE p B)) = fun os => some (.next, S' w os, cE, p')
noncomputable def o11_0 : Obj := e1
noncomputable def o12_0 : Obj := e2
noncomputable def o13_0 : Obj := co "<module>" "<module>" 182 1 0 0 11 false 12 .none 185
noncomputable def o14_0 : Obj := fm 13 3 (.str "__main__" 164)
noncomputable def Ha (P : Params) : Heap := ⟨⟨boot_o_0 P :: boot_o_1 P :: boot_o_2 P :: boot_o_3 P :: boot_o_4 P :: boot_o_5 P :: boot_o_6 P :: boot_o_7 P :: boot_o_8 P :: boot_o_9 P :: boot_o_10 P :: o11_0 :: o12_0 :: o13_0 :: o14_0 :: []⟩, li⟩
noncomputable def S0 (w : World) (os : OsState) : Shared := ⟨boot_heap w.params, ⟨[]⟩, boot_drawn, boot_toks, os⟩
noncomputable def Sa (w : World) (os : OsState) : Shared := ⟨Ha w.params, ⟨[]⟩, boot_drawn, 187, os⟩
noncomputable def Pre (w : World) : Prop := (fun os => topGo treeTable pw w 11 an 12 (S0 w os) (topStub pw)) = fun os => some (Sa w os, ⟨denote treeTable cE, cE, ⟨0, 0, 0, 0⟩, B⟩)
noncomputable def D0 (P : Params) : List (Nat × Obj) := (0, boot_o_0 P) :: (1, boot_o_1 P) :: (2, boot_o_2 P) :: (3, boot_o_3 P) :: (4, boot_o_4 P) :: (5, boot_o_5 P) :: (6, boot_o_6 P) :: (7, boot_o_7 P) :: (8, boot_o_8 P) :: (9, boot_o_9 P) :: (10, boot_o_10 P) :: (11, o11_0) :: (12, o12_0) :: (13, o13_0) :: (14, o14_0) :: []
noncomputable def T0 (P : Params) : BT := mg 14 .nil (D0 P)
noncomputable def S0T (w : World) : OsState → SharedT := sT (T0 w.params) 15 187
noncomputable def Blk (w : World) : Prop := (fun os => segRun treeTable pw w 11 an 1 1 (Sa w os) (blockOf bd en cE ⟨0, 0, 0, 0⟩ B)) = fun os => some (.next, (S0T w os).abs, cE, ⟨0, 0, 0, 0⟩)
noncomputable def g3_2 (P : Params) : List DictEntry := [k P "__name__" 165 (.str "joinload.errors" 333), k P "__doc__" 166 .none, k P "__package__" 167 .none, k P "__loader__" 168 (.builtin "__main__.__loader__#opaque"), k P "__spec__" 169 .none, k P "__annotations__" 170 (.ref 6), k P "__builtins__" 171 (.ref 4), k P "__file__" 173 (.str "/claim/cut.py" 172), k P "__cached__" 174 .none, k P "WORD_BITS" 190 (.int (32) 189), k P "WORD_COUNT" 192 (.int (4294967296) 191), k P "wrapped" 199 (.ref 21), k P "field" 208 (.ref 28), k P "signed" 217 (.ref 35), k P "turned" 226 (.ref 42), k P "ones" 233 (.ref 49), k P "moved" 241 (.ref 56), k P "DEEDS" 260 (.ref 57), k P "deed_of" 267 (.ref 64), k P "op_of" 274 (.ref 71), k P "a_of" 281 (.ref 78), k P "b_of" 288 (.ref 85), k P "c_of" 295 (.ref 92), k P "n_of" 302 (.ref 99), k P "s_of" 309 (.ref 106), k P "near_of" 316 (.ref 113), k P "split_of" 323 (.ref 120), k P "of_two_words" 332 (.ref 127), k P "JoinError" 352 (.ref 137)]
noncomputable def o3_2 (P : Params) : Obj := ⟨(.type "dict"), none, .dict (g3_2 P).toArray 29, #[]⟩
noncomputable def o12_2 : Obj := nf #[(.int (4) 0), (.int (0) 0), (.ref 20), (.int (6) 0), (.int (0) 0), (.ref 27), (.int (8) 0), (.int (0) 0), (.ref 34), (.int (11) 0), (.int (0) 0), (.ref 41), (.int (14) 0), (.int (0) 0), (.ref 48), (.int (16) 0), (.int (0) 0), (.ref 55), (.int (22) 0), (.int (0) 0), (.ref 63), (.int (24) 0), (.int (0) 0), (.ref 70), (.int (26) 0), (.int (0) 0), (.ref 77), (.int (28) 0), (.int (0) 0), (.ref 84), (.int (30) 0), (.int (0) 0), (.ref 91), (.int (32) 0), (.int (0) 0), (.ref 98), (.int (34) 0), (.int (0) 0), (.ref 105), (.int (36) 0), (.int (0) 0), (.ref 112), (.int (38) 0), (.int (0) 0), (.ref 119), (.int (40) 0), (.int (0) 0), (.ref 126), (.int (51) 0), (.int (0) 0), (.ref 133)]
noncomputable def o15_2 : Obj := e1
noncomputable def o16_2 : Obj := e2
noncomputable def o17_2 : Obj := tu #[(.str "number" 196)]
noncomputable def o18_2 : Obj := e1
noncomputable def o19_2 : Obj := ft (T 3) "wrapped" "wrapped"
noncomputable def o20_2 : Obj := ⟨(.type "code"), none, (.fields #[(.str "wrapped" 193), (.str "wrapped" 194), (.str "/claim/cut.py" 195), (.int (4) 0), (.int (1) 0), (.int (0) 0), (.int (0) 0), (.int (3) 0), (.ref 15), (.bool true), (.int (181) 0), (.ref 16), .none, (.ref 17), (.ref 18), (.ref 19), (.int (197) 0), (.int (4) 0), (.str "/claim/cut.py" 198)]), #[]⟩
noncomputable def o21_2 : Obj := fo (T 3) "wrapped" "wrapped" "joinload.bits" 187 20
noncomputable def o22_2 : Obj := e1
noncomputable def o23_2 : Obj := e2
noncomputable def o24_2 : Obj := tu #[(.str "word" 203), (.str "low" 204), (.str "many" 205)]
noncomputable def o25_2 : Obj := e1
noncomputable def o26_2 : Obj := ft (T 4) "field" "field"
noncomputable def o27_2 : Obj := ⟨(.type "code"), none, (.fields #[(.str "field" 200), (.str "field" 201), (.str "/claim/cut.py" 202), (.int (6) 0), (.int (3) 0), (.int (0) 0), (.int (0) 0), (.int (3) 0), (.ref 22), (.bool true), (.int (181) 0), (.ref 23), .none, (.ref 24), (.ref 25), (.ref 26), (.int (206) 0), (.int (6) 0), (.str "/claim/cut.py" 207)]), #[]⟩
noncomputable def o28_2 : Obj := fo (T 4) "field" "field" "joinload.bits" 187 27
noncomputable def o29_2 : Obj := e1
noncomputable def o30_2 : Obj := e2
noncomputable def o31_2 : Obj := tu #[(.str "number" 212), (.str "many" 213), (.str "half" 214)]
noncomputable def o32_2 : Obj := e1
noncomputable def o33_2 : Obj := ft (T 5) "signed" "signed"
noncomputable def o34_2 : Obj := ⟨(.type "code"), none, (.fields #[(.str "signed" 209), (.str "signed" 210), (.str "/claim/cut.py" 211), (.int (8) 0), (.int (2) 0), (.int (0) 0), (.int (0) 0), (.int (3) 0), (.ref 29), (.bool true), (.int (181) 0), (.ref 30), .none, (.ref 31), (.ref 32), (.ref 33), (.int (215) 0), (.int (8) 0), (.str "/claim/cut.py" 216)]), #[]⟩
noncomputable def o35_2 : Obj := fo (T 5) "signed" "signed" "joinload.bits" 187 34
noncomputable def o36_2 : Obj := e1
noncomputable def o37_2 : Obj := e2
noncomputable def o38_2 : Obj := tu #[(.str "word" 221), (.str "by" 222), (.str "right" 223)]
noncomputable def o39_2 : Obj := e1
noncomputable def o40_2 : Obj := ft (T 6) "turned" "turned"
noncomputable def o41_2 : Obj := ⟨(.type "code"), none, (.fields #[(.str "turned" 218), (.str "turned" 219), (.str "/claim/cut.py" 220), (.int (11) 0), (.int (2) 0), (.int (0) 0), (.int (0) 0), (.int (3) 0), (.ref 36), (.bool true), (.int (181) 0), (.ref 37), .none, (.ref 38), (.ref 39), (.ref 40), (.int (224) 0), (.int (11) 0), (.str "/claim/cut.py" 225)]), #[]⟩
noncomputable def o42_2 : Obj := fo (T 6) "turned" "turned" "joinload.bits" 187 41
noncomputable def o43_2 : Obj := e1
noncomputable def o44_2 : Obj := e2
noncomputable def o45_2 : Obj := tu #[(.str "many" 230)]
noncomputable def o46_2 : Obj := e1
noncomputable def o47_2 : Obj := ft (T 7) "ones" "ones"
noncomputable def o48_2 : Obj := ⟨(.type "code"), none, (.fields #[(.str "ones" 227), (.str "ones" 228), (.str "/claim/cut.py" 229), (.int (14) 0), (.int (1) 0), (.int (0) 0), (.int (0) 0), (.int (3) 0), (.ref 43), (.bool true), (.int (181) 0), (.ref 44), .none, (.ref 45), (.ref 46), (.ref 47), (.int (231) 0), (.int (14) 0), (.str "/claim/cut.py" 232)]), #[]⟩
noncomputable def o49_2 : Obj := fo (T 7) "ones" "ones" "joinload.bits" 187 48
noncomputable def o50_2 : Obj := e1
noncomputable def o51_2 : Obj := e2
noncomputable def o52_2 : Obj := tu #[(.str "number" 237), (.str "up" 238)]
noncomputable def o53_2 : Obj := e1
noncomputable def o54_2 : Obj := ft (T 8) "moved" "moved"
noncomputable def o55_2 : Obj := ⟨(.type "code"), none, (.fields #[(.str "moved" 234), (.str "moved" 235), (.str "/claim/cut.py" 236), (.int (16) 0), (.int (2) 0), (.int (0) 0), (.int (0) 0), (.int (3) 0), (.ref 50), (.bool true), (.int (181) 0), (.ref 51), .none, (.ref 52), (.ref 53), (.ref 54), (.int (239) 0), (.int (16) 0), (.str "/claim/cut.py" 240)]), #[]⟩
noncomputable def o56_2 : Obj := fo (T 8) "moved" "moved" "joinload.bits" 187 55
noncomputable def o57_2 : Obj := tu #[(.str "end" 244), (.str "tell" 245), (.str "put" 246), (.str "high" 247), (.str "add" 248), (.str "load" 249), (.str "store" 250), (.str "sum" 251), (.str "less" 252), (.str "both" 253), (.str "odd" 254), (.str "turn" 255), (.str "same" 256), (.str "under" 257), (.str "call" 258), (.str "go" 259)]
noncomputable def o58_2 : Obj := e1
noncomputable def o59_2 : Obj := e2
noncomputable def o60_2 : Obj := tu #[(.str "word" 264)]
noncomputable def o61_2 : Obj := e1
noncomputable def o62_2 : Obj := ft (T 11) "deed_of" "deed_of"
noncomputable def o63_2 : Obj := ⟨(.type "code"), none, (.fields #[(.str "deed_of" 261), (.str "deed_of" 262), (.str "/claim/cut.py" 263), (.int (22) 0), (.int (1) 0), (.int (0) 0), (.int (0) 0), (.int (3) 0), (.ref 58), (.bool true), (.int (181) 0), (.ref 59), .none, (.ref 60), (.ref 61), (.ref 62), (.int (265) 0), (.int (22) 0), (.str "/claim/cut.py" 266)]), #[]⟩
noncomputable def o64_2 : Obj := fo (T 11) "deed_of" "deed_of" "joinload.deeds" 242 63
noncomputable def o65_2 : Obj := e1
noncomputable def o66_2 : Obj := e2
noncomputable def o67_2 : Obj := tu #[(.str "word" 271)]
noncomputable def o68_2 : Obj := e1
noncomputable def o69_2 : Obj := ft (T 12) "op_of" "op_of"
noncomputable def o70_2 : Obj := ⟨(.type "code"), none, (.fields #[(.str "op_of" 268), (.str "op_of" 269), (.str "/claim/cut.py" 270), (.int (24) 0), (.int (1) 0), (.int (0) 0), (.int (0) 0), (.int (3) 0), (.ref 65), (.bool true), (.int (181) 0), (.ref 66), .none, (.ref 67), (.ref 68), (.ref 69), (.int (272) 0), (.int (24) 0), (.str "/claim/cut.py" 273)]), #[]⟩
noncomputable def o71_2 : Obj := fo (T 12) "op_of" "op_of" "joinload.deeds" 242 70
noncomputable def o72_2 : Obj := e1
noncomputable def o73_2 : Obj := e2
noncomputable def o74_2 : Obj := tu #[(.str "word" 278)]
noncomputable def o75_2 : Obj := e1
noncomputable def o76_2 : Obj := ft (T 13) "a_of" "a_of"
noncomputable def o77_2 : Obj := ⟨(.type "code"), none, (.fields #[(.str "a_of" 275), (.str "a_of" 276), (.str "/claim/cut.py" 277), (.int (26) 0), (.int (1) 0), (.int (0) 0), (.int (0) 0), (.int (3) 0), (.ref 72), (.bool true), (.int (181) 0), (.ref 73), .none, (.ref 74), (.ref 75), (.ref 76), (.int (279) 0), (.int (26) 0), (.str "/claim/cut.py" 280)]), #[]⟩
noncomputable def o78_2 : Obj := fo (T 13) "a_of" "a_of" "joinload.deeds" 242 77
noncomputable def o79_2 : Obj := e1
noncomputable def o80_2 : Obj := e2
noncomputable def o81_2 : Obj := tu #[(.str "word" 285)]
noncomputable def o82_2 : Obj := e1
noncomputable def o83_2 : Obj := ft (T 14) "b_of" "b_of"
noncomputable def o84_2 : Obj := ⟨(.type "code"), none, (.fields #[(.str "b_of" 282), (.str "b_of" 283), (.str "/claim/cut.py" 284), (.int (28) 0), (.int (1) 0), (.int (0) 0), (.int (0) 0), (.int (3) 0), (.ref 79), (.bool true), (.int (181) 0), (.ref 80), .none, (.ref 81), (.ref 82), (.ref 83), (.int (286) 0), (.int (28) 0), (.str "/claim/cut.py" 287)]), #[]⟩
noncomputable def o85_2 : Obj := fo (T 14) "b_of" "b_of" "joinload.deeds" 242 84
noncomputable def o86_2 : Obj := e1
noncomputable def o87_2 : Obj := e2
noncomputable def o88_2 : Obj := tu #[(.str "word" 292)]
noncomputable def o89_2 : Obj := e1
noncomputable def o90_2 : Obj := ft (T 15) "c_of" "c_of"
noncomputable def o91_2 : Obj := ⟨(.type "code"), none, (.fields #[(.str "c_of" 289), (.str "c_of" 290), (.str "/claim/cut.py" 291), (.int (30) 0), (.int (1) 0), (.int (0) 0), (.int (0) 0), (.int (3) 0), (.ref 86), (.bool true), (.int (181) 0), (.ref 87), .none, (.ref 88), (.ref 89), (.ref 90), (.int (293) 0), (.int (30) 0), (.str "/claim/cut.py" 294)]), #[]⟩
noncomputable def o92_2 : Obj := fo (T 15) "c_of" "c_of" "joinload.deeds" 242 91
noncomputable def o93_2 : Obj := e1
noncomputable def o94_2 : Obj := e2
noncomputable def o95_2 : Obj := tu #[(.str "word" 299)]
noncomputable def o96_2 : Obj := e1
noncomputable def o97_2 : Obj := ft (T 16) "n_of" "n_of"
noncomputable def o98_2 : Obj := ⟨(.type "code"), none, (.fields #[(.str "n_of" 296), (.str "n_of" 297), (.str "/claim/cut.py" 298), (.int (32) 0), (.int (1) 0), (.int (0) 0), (.int (0) 0), (.int (3) 0), (.ref 93), (.bool true), (.int (181) 0), (.ref 94), .none, (.ref 95), (.ref 96), (.ref 97), (.int (300) 0), (.int (32) 0), (.str "/claim/cut.py" 301)]), #[]⟩
noncomputable def o99_2 : Obj := fo (T 16) "n_of" "n_of" "joinload.deeds" 242 98
noncomputable def o100_2 : Obj := e1
noncomputable def o101_2 : Obj := e2
noncomputable def o102_2 : Obj := tu #[(.str "word" 306)]
noncomputable def o103_2 : Obj := e1
noncomputable def o104_2 : Obj := ft (T 17) "s_of" "s_of"
noncomputable def o105_2 : Obj := ⟨(.type "code"), none, (.fields #[(.str "s_of" 303), (.str "s_of" 304), (.str "/claim/cut.py" 305), (.int (34) 0), (.int (1) 0), (.int (0) 0), (.int (0) 0), (.int (3) 0), (.ref 100), (.bool true), (.int (181) 0), (.ref 101), .none, (.ref 102), (.ref 103), (.ref 104), (.int (307) 0), (.int (34) 0), (.str "/claim/cut.py" 308)]), #[]⟩
noncomputable def o106_2 : Obj := fo (T 17) "s_of" "s_of" "joinload.deeds" 242 105
noncomputable def o107_2 : Obj := e1
noncomputable def o108_2 : Obj := e2
noncomputable def o109_2 : Obj := tu #[(.str "word" 313)]
noncomputable def o110_2 : Obj := e1
noncomputable def o111_2 : Obj := ft (T 18) "near_of" "near_of"
noncomputable def o112_2 : Obj := ⟨(.type "code"), none, (.fields #[(.str "near_of" 310), (.str "near_of" 311), (.str "/claim/cut.py" 312), (.int (36) 0), (.int (1) 0), (.int (0) 0), (.int (0) 0), (.int (3) 0), (.ref 107), (.bool true), (.int (181) 0), (.ref 108), .none, (.ref 109), (.ref 110), (.ref 111), (.int (314) 0), (.int (36) 0), (.str "/claim/cut.py" 315)]), #[]⟩
noncomputable def o113_2 : Obj := fo (T 18) "near_of" "near_of" "joinload.deeds" 242 112
noncomputable def o114_2 : Obj := e1
noncomputable def o115_2 : Obj := e2
noncomputable def o116_2 : Obj := tu #[(.str "word" 320)]
noncomputable def o117_2 : Obj := e1
noncomputable def o118_2 : Obj := ft (T 19) "split_of" "split_of"
noncomputable def o119_2 : Obj := ⟨(.type "code"), none, (.fields #[(.str "split_of" 317), (.str "split_of" 318), (.str "/claim/cut.py" 319), (.int (38) 0), (.int (1) 0), (.int (0) 0), (.int (0) 0), (.int (3) 0), (.ref 114), (.bool true), (.int (181) 0), (.ref 115), .none, (.ref 116), (.ref 117), (.ref 118), (.int (321) 0), (.int (38) 0), (.str "/claim/cut.py" 322)]), #[]⟩
noncomputable def o120_2 : Obj := fo (T 19) "split_of" "split_of" "joinload.deeds" 242 119
noncomputable def o121_2 : Obj := e1
noncomputable def o122_2 : Obj := e2
noncomputable def o123_2 : Obj := tu #[(.str "deed" 327), (.str "first" 328), (.str "second" 329)]
noncomputable def o124_2 : Obj := e1
noncomputable def o125_2 : Obj := ft (T 20) "of_two_words" "of_two_words"
noncomputable def o126_2 : Obj := ⟨(.type "code"), none, (.fields #[(.str "of_two_words" 324), (.str "of_two_words" 325), (.str "/claim/cut.py" 326), (.int (40) 0), (.int (3) 0), (.int (0) 0), (.int (0) 0), (.int (3) 0), (.ref 121), (.bool true), (.int (181) 0), (.ref 122), .none, (.ref 123), (.ref 124), (.ref 125), (.int (330) 0), (.int (40) 0), (.str "/claim/cut.py" 331)]), #[]⟩
noncomputable def o127_2 : Obj := fo (T 20) "of_two_words" "of_two_words" "joinload.deeds" 242 126
noncomputable def o128_2 : Obj := tu #[(.type "ValueError")]
noncomputable def o129_2 : Obj := bp
noncomputable def o130_2 (P : Params) : Obj := di [k P "__module__" 342 (.str "joinload.errors" 333), k P "__qualname__" 344 (.str "JoinError" 343), k P "__firstlineno__" 346 (.int (51) 345), k P "__static_attributes__" 347 (.ref 135)] 4
noncomputable def o131_2 : Obj := e1
noncomputable def o132_2 : Obj := e2
noncomputable def o133_2 : Obj := co "JoinError" "JoinError" 337 51 0 0 131 false 132 .none 340
noncomputable def o134_2 : Obj := fm 133 130 (.str "joinload.errors" 333)
noncomputable def o135_2 : Obj := e1
noncomputable def o136_2 (P : Params) : Obj := di [k P "__module__" 342 (.str "joinload.errors" 333), k P "__firstlineno__" 346 (.int (51) 345), k P "__static_attributes__" 347 (.ref 135), k P "__weakref__" 349 (.ref 138), k P "__doc__" 350 .none] 3
noncomputable def o137_2 : Obj := ⟨(.type "type"), none, (.cls ⟨"JoinError", [(.type "ValueError")], [(.ref 137), (.type "ValueError"), (.type "Exception"), (.type "BaseException"), (.type "object")], 136, "JoinError", true, [], [], false, none, false⟩), #[(some (.ref 128)), none, (some (.str "JoinError" 335)), (some (.str "JoinError" 343)), (some (.builtin "ValueError.__new__")), (some (.bool true))]⟩
noncomputable def o138_2 : Obj := ⟨(.type "getset_descriptor"), none, (.fields #[(.str "__weakref__" 348), (.ref 137), (.builtin "ExceptionGroup.__weakref__"), .none]), #[]⟩
noncomputable def o139_2 : Obj := su 137
noncomputable def o140_2 : Obj := bs 137
noncomputable def d1_0 (P : Params) (r : List (Nat × Obj)) : List (Nat × Obj) := (3, o3_2 P) :: (12, o12_2) :: (15, o15_2) :: (16, o16_2) :: (17, o17_2) :: (18, o18_2) :: (19, o19_2) :: (20, o20_2) :: (21, o21_2) :: (22, o22_2) :: (23, o23_2) :: (24, o24_2) :: (25, o25_2) :: (26, o26_2) :: (27, o27_2) :: (28, o28_2) :: (29, o29_2) :: (30, o30_2) :: (31, o31_2) :: (32, o32_2) :: (33, o33_2) :: (34, o34_2) :: (35, o35_2) :: (36, o36_2) :: r
noncomputable def d1_1 (P : Params) (r : List (Nat × Obj)) : List (Nat × Obj) := (37, o37_2) :: (38, o38_2) :: (39, o39_2) :: (40, o40_2) :: (41, o41_2) :: (42, o42_2) :: (43, o43_2) :: (44, o44_2) :: (45, o45_2) :: (46, o46_2) :: (47, o47_2) :: (48, o48_2) :: (49, o49_2) :: (50, o50_2) :: (51, o51_2) :: (52, o52_2) :: (53, o53_2) :: (54, o54_2) :: (55, o55_2) :: (56, o56_2) :: (57, o57_2) :: (58, o58_2) :: (59, o59_2) :: (60, o60_2) :: r
noncomputable def d1_2 (P : Params) (r : List (Nat × Obj)) : List (Nat × Obj) := (61, o61_2) :: (62, o62_2) :: (63, o63_2) :: (64, o64_2) :: (65, o65_2) :: (66, o66_2) :: (67, o67_2) :: (68, o68_2) :: (69, o69_2) :: (70, o70_2) :: (71, o71_2) :: (72, o72_2) :: (73, o73_2) :: (74, o74_2) :: (75, o75_2) :: (76, o76_2) :: (77, o77_2) :: (78, o78_2) :: (79, o79_2) :: (80, o80_2) :: (81, o81_2) :: (82, o82_2) :: (83, o83_2) :: (84, o84_2) :: r
noncomputable def d1_3 (P : Params) (r : List (Nat × Obj)) : List (Nat × Obj) := (85, o85_2) :: (86, o86_2) :: (87, o87_2) :: (88, o88_2) :: (89, o89_2) :: (90, o90_2) :: (91, o91_2) :: (92, o92_2) :: (93, o93_2) :: (94, o94_2) :: (95, o95_2) :: (96, o96_2) :: (97, o97_2) :: (98, o98_2) :: (99, o99_2) :: (100, o100_2) :: (101, o101_2) :: (102, o102_2) :: (103, o103_2) :: (104, o104_2) :: (105, o105_2) :: (106, o106_2) :: (107, o107_2) :: (108, o108_2) :: r
noncomputable def d1_4 (P : Params) (r : List (Nat × Obj)) : List (Nat × Obj) := (109, o109_2) :: (110, o110_2) :: (111, o111_2) :: (112, o112_2) :: (113, o113_2) :: (114, o114_2) :: (115, o115_2) :: (116, o116_2) :: (117, o117_2) :: (118, o118_2) :: (119, o119_2) :: (120, o120_2) :: (121, o121_2) :: (122, o122_2) :: (123, o123_2) :: (124, o124_2) :: (125, o125_2) :: (126, o126_2) :: (127, o127_2) :: (128, o128_2) :: (129, o129_2) :: (130, o130_2 P) :: (131, o131_2) :: (132, o132_2) :: r
noncomputable def d1_5 (P : Params) (r : List (Nat × Obj)) : List (Nat × Obj) := (133, o133_2) :: (134, o134_2) :: (135, o135_2) :: (136, o136_2 P) :: (137, o137_2) :: (138, o138_2) :: (139, o139_2) :: (140, o140_2) :: r
noncomputable def T1 (P : Params) : BT := mg 14 (T0 P) (d1_0 P (d1_1 P (d1_2 P (d1_3 P (d1_4 P (d1_5 P ([])))))))
noncomputable def S1T (w : World) : OsState → SharedT := sT (T1 w.params) 141 353
noncomputable def L0 : List Stmt := My.top 0 :: My.top 1 :: My.top 2 :: My.top 3 :: My.top 4 :: My.top 5 :: My.top 6 :: My.top 7 :: My.top 8 :: My.top 9 :: My.top 10 :: My.top 11 :: My.top 12 :: My.top 13 :: My.top 14 :: My.top 15 :: My.top 16 :: My.top 17 :: My.top 18 :: My.top 19 :: My.top 20 :: My.top 21 :: My.top 22 :: []
noncomputable def P0 (w : World) : Prop := sR w 731 S0T S1T L0 ⟨0, 0, 0, 0⟩ ⟨51, 0, 52, 8⟩
noncomputable def g3_3 (P : Params) : List DictEntry := sv (g3_2 P) 0 (.str "law_joinload_k54_whole_runs_by_a_plain_model" 494) ++ [k P "Lost" 377 (.ref 157), k P "Machine" 493 (.ref 239), k P "_law_whole" 502 (.ref 250), k P "_law_cell_at" 510 (.ref 257), k P "_law_word_by" 522 (.ref 264)]
noncomputable def o3_3 (P : Params) : Obj := ⟨(.type "dict"), none, .dict (g3_3 P).toArray 34, #[]⟩
noncomputable def o12_3 : Obj := nf #[(.int (4) 0), (.int (0) 0), (.ref 20), (.int (6) 0), (.int (0) 0), (.ref 27), (.int (8) 0), (.int (0) 0), (.ref 34), (.int (11) 0), (.int (0) 0), (.ref 41), (.int (14) 0), (.int (0) 0), (.ref 48), (.int (16) 0), (.int (0) 0), (.ref 55), (.int (22) 0), (.int (0) 0), (.ref 63), (.int (24) 0), (.int (0) 0), (.ref 70), (.int (26) 0), (.int (0) 0), (.ref 77), (.int (28) 0), (.int (0) 0), (.ref 84), (.int (30) 0), (.int (0) 0), (.ref 91), (.int (32) 0), (.int (0) 0), (.ref 98), (.int (34) 0), (.int (0) 0), (.ref 105), (.int (36) 0), (.int (0) 0), (.ref 112), (.int (38) 0), (.int (0) 0), (.ref 119), (.int (40) 0), (.int (0) 0), (.ref 126), (.int (51) 0), (.int (0) 0), (.ref 133), (.int (53) 0), (.int (0) 0), (.ref 146), (.int (59) 0), (.int (0) 0), (.ref 165), (.int (132) 0), (.int (0) 0), (.ref 249), (.int (134) 0), (.int (0) 0), (.ref 256), (.int (138) 0), (.int (0) 0), (.ref 263)]
noncomputable def o137_3 : Obj := ⟨(.type "type"), none, (.cls ⟨"JoinError", [(.type "ValueError")], [(.ref 137), (.type "ValueError"), (.type "Exception"), (.type "BaseException"), (.type "object")], 136, "JoinError", true, [], [(.ref 157)], false, none, false⟩), #[(some (.ref 128)), none, (some (.str "JoinError" 335)), (some (.str "JoinError" 343)), (some (.builtin "ValueError.__new__")), (some (.bool true))]⟩
noncomputable def o141_3 : Obj := tu #[(.ref 137)]
noncomputable def o142_3 : Obj := bp
noncomputable def o143_3 (P : Params) : Obj := di [k P "__module__" 360 (.str "joinload.errors" 333), k P "__qualname__" 362 (.str "Lost" 361), k P "__firstlineno__" 364 (.int (53) 363), k P "__init__" 372 (.ref 154), k P "__static_attributes__" 374 (.ref 155)] 5
noncomputable def o144_3 : Obj := e1
noncomputable def o145_3 : Obj := nf #[(.int (55) 0), (.int (4) 0), (.ref 153)]
noncomputable def o146_3 : Obj := co "Lost" "Lost" 355 53 0 0 144 false 145 .none 358
noncomputable def o147_3 : Obj := fm 146 143 (.str "joinload.errors" 333)
noncomputable def o148_3 : Obj := e1
noncomputable def o149_3 : Obj := e2
noncomputable def o150_3 : Obj := tu #[(.str "self" 368), (.str "place" 369)]
noncomputable def o151_3 : Obj := e1
noncomputable def o152_3 : Obj := ft (C 23 0) "__init__" "Lost.__init__"
noncomputable def o153_3 : Obj := ⟨(.type "code"), none, (.fields #[(.str "__init__" 365), (.str "Lost.__init__" 366), (.str "/claim/cut.py" 367), (.int (55) 0), (.int (2) 0), (.int (0) 0), (.int (0) 0), (.int (3) 0), (.ref 148), (.bool true), (.int (181) 0), (.ref 149), .none, (.ref 150), (.ref 151), (.ref 152), (.int (370) 0), (.int (55) 0), (.str "/claim/cut.py" 371)]), #[]⟩
noncomputable def o154_3 : Obj := fo (C 23 0) "__init__" "Lost.__init__" "joinload.errors" 333 153
noncomputable def o155_3 : Obj := tu #[(.str "place" 373)]
noncomputable def o156_3 (P : Params) : Obj := di [k P "__module__" 360 (.str "joinload.errors" 333), k P "__firstlineno__" 364 (.int (53) 363), k P "__init__" 372 (.ref 154), k P "__static_attributes__" 374 (.ref 155), k P "__doc__" 375 .none] 2
noncomputable def o157_3 : Obj := ⟨(.type "type"), none, (.cls ⟨"Lost", [(.ref 137)], [(.ref 157), (.ref 137), (.type "ValueError"), (.type "Exception"), (.type "BaseException"), (.type "object")], 156, "Lost", true, [], [], false, none, false⟩), #[(some (.ref 141)), none, (some (.str "Lost" 353)), (some (.str "Lost" 361)), (some (.builtin "ValueError.__new__")), (some (.bool true))]⟩
noncomputable def o158_3 : Obj := su 157
noncomputable def o159_3 : Obj := bs 157
noncomputable def o160_3 : Obj := e1
noncomputable def o161_3 : Obj := bp
noncomputable def g162_3 (P : Params) : List DictEntry := [k P "__module__" 387 (.str "joinload.machine" 378), k P "__qualname__" 389 (.str "Machine" 388), k P "__firstlineno__" 391 (.int (59) 390), k P "__init__" 401 (.ref 173), k P "go_on" 408 (.ref 180), k P "state" 415 (.ref 187), k P "word_at" 423 (.ref 194), k P "found" 431 (.ref 201), k P "do" 443 (.ref 208), k P "sought" 451 (.ref 215), k P "store" 460 (.ref 222), k P "goes" 471 (.ref 229), k P "result" 480 (.ref 236), k P "__static_attributes__" 486 (.ref 237)]
noncomputable def o162_3 (P : Params) : Obj := ⟨(.type "dict"), none, .dict (g162_3 P).toArray 14, #[]⟩
noncomputable def o163_3 : Obj := e1
noncomputable def o164_3 : Obj := nf #[(.int (61) 0), (.int (4) 0), (.ref 172), (.int (68) 0), (.int (4) 0), (.ref 179), (.int (74) 0), (.int (4) 0), (.ref 186), (.int (77) 0), (.int (4) 0), (.ref 193), (.int (80) 0), (.int (4) 0), (.ref 200), (.int (85) 0), (.int (4) 0), (.ref 207), (.int (109) 0), (.int (4) 0), (.ref 214), (.int (112) 0), (.int (4) 0), (.ref 221), (.int (116) 0), (.int (4) 0), (.ref 228), (.int (121) 0), (.int (4) 0), (.ref 235)]
noncomputable def o165_3 : Obj := co "Machine" "Machine" 382 59 0 0 163 false 164 .none 385
noncomputable def o166_3 : Obj := fm 165 162 (.str "joinload.machine" 378)
noncomputable def o167_3 : Obj := e1
noncomputable def o168_3 : Obj := e2
noncomputable def o169_3 : Obj := tu #[(.str "self" 395), (.str "memory" 396), (.str "start" 397), (.str "registers" 398)]
noncomputable def o170_3 : Obj := e1
noncomputable def o171_3 : Obj := ft (C 25 0) "__init__" "Machine.__init__"
noncomputable def o172_3 : Obj := ⟨(.type "code"), none, (.fields #[(.str "__init__" 392), (.str "Machine.__init__" 393), (.str "/claim/cut.py" 394), (.int (61) 0), (.int (4) 0), (.int (0) 0), (.int (0) 0), (.int (3) 0), (.ref 167), (.bool true), (.int (181) 0), (.ref 168), .none, (.ref 169), (.ref 170), (.ref 171), (.int (399) 0), (.int (61) 0), (.str "/claim/cut.py" 400)]), #[]⟩
noncomputable def o173_3 : Obj := fo (C 25 0) "__init__" "Machine.__init__" "joinload.machine" 378 172
noncomputable def o174_3 : Obj := e1
noncomputable def o175_3 : Obj := e2
noncomputable def o176_3 : Obj := tu #[(.str "self" 405)]
noncomputable def o177_3 : Obj := e1
noncomputable def o178_3 : Obj := ft (C 25 1) "go_on" "Machine.go_on"
noncomputable def o179_3 : Obj := ⟨(.type "code"), none, (.fields #[(.str "go_on" 402), (.str "Machine.go_on" 403), (.str "/claim/cut.py" 404), (.int (68) 0), (.int (1) 0), (.int (0) 0), (.int (0) 0), (.int (3) 0), (.ref 174), (.bool true), (.int (181) 0), (.ref 175), .none, (.ref 176), (.ref 177), (.ref 178), (.int (406) 0), (.int (68) 0), (.str "/claim/cut.py" 407)]), #[]⟩
noncomputable def o180_3 : Obj := fo (C 25 1) "go_on" "Machine.go_on" "joinload.machine" 378 179
noncomputable def o181_3 : Obj := e1
noncomputable def o182_3 : Obj := e2
noncomputable def o183_3 : Obj := tu #[(.str "self" 412)]
noncomputable def o184_3 : Obj := e1
noncomputable def o185_3 : Obj := ft (C 25 2) "state" "Machine.state"
noncomputable def o186_3 : Obj := ⟨(.type "code"), none, (.fields #[(.str "state" 409), (.str "Machine.state" 410), (.str "/claim/cut.py" 411), (.int (74) 0), (.int (1) 0), (.int (0) 0), (.int (0) 0), (.int (3) 0), (.ref 181), (.bool true), (.int (181) 0), (.ref 182), .none, (.ref 183), (.ref 184), (.ref 185), (.int (413) 0), (.int (74) 0), (.str "/claim/cut.py" 414)]), #[]⟩
noncomputable def o187_3 : Obj := fo (C 25 2) "state" "Machine.state" "joinload.machine" 378 186
noncomputable def o188_3 : Obj := e1
noncomputable def o189_3 : Obj := e2
noncomputable def o190_3 : Obj := tu #[(.str "self" 419), (.str "place" 420)]
noncomputable def o191_3 : Obj := e1
noncomputable def o192_3 : Obj := ft (C 25 3) "word_at" "Machine.word_at"
noncomputable def o193_3 : Obj := ⟨(.type "code"), none, (.fields #[(.str "word_at" 416), (.str "Machine.word_at" 417), (.str "/claim/cut.py" 418), (.int (77) 0), (.int (2) 0), (.int (0) 0), (.int (0) 0), (.int (3) 0), (.ref 188), (.bool true), (.int (181) 0), (.ref 189), .none, (.ref 190), (.ref 191), (.ref 192), (.int (421) 0), (.int (77) 0), (.str "/claim/cut.py" 422)]), #[]⟩
noncomputable def o194_3 : Obj := fo (C 25 3) "word_at" "Machine.word_at" "joinload.machine" 378 193
noncomputable def o195_3 : Obj := e1
noncomputable def o196_3 : Obj := e2
noncomputable def o197_3 : Obj := tu #[(.str "self" 427), (.str "place" 428)]
noncomputable def o198_3 : Obj := e1
noncomputable def o199_3 : Obj := ft (C 25 4) "found" "Machine.found"
noncomputable def o200_3 : Obj := ⟨(.type "code"), none, (.fields #[(.str "found" 424), (.str "Machine.found" 425), (.str "/claim/cut.py" 426), (.int (80) 0), (.int (2) 0), (.int (0) 0), (.int (0) 0), (.int (3) 0), (.ref 195), (.bool true), (.int (181) 0), (.ref 196), .none, (.ref 197), (.ref 198), (.ref 199), (.int (429) 0), (.int (80) 0), (.str "/claim/cut.py" 430)]), #[]⟩
noncomputable def o201_3 : Obj := fo (C 25 4) "found" "Machine.found" "joinload.machine" 378 200
noncomputable def o202_3 : Obj := e1
noncomputable def o203_3 : Obj := e2
noncomputable def o204_3 : Obj := tu #[(.str "self" 435), (.str "word" 436), (.str "deed" 437), (.str "a" 438), (.str "first" 439), (.str "after" 440)]
noncomputable def o205_3 : Obj := e1
noncomputable def o206_3 : Obj := ft (C 25 5) "do" "Machine.do"
noncomputable def o207_3 : Obj := ⟨(.type "code"), none, (.fields #[(.str "do" 432), (.str "Machine.do" 433), (.str "/claim/cut.py" 434), (.int (85) 0), (.int (2) 0), (.int (0) 0), (.int (0) 0), (.int (3) 0), (.ref 202), (.bool true), (.int (181) 0), (.ref 203), .none, (.ref 204), (.ref 205), (.ref 206), (.int (441) 0), (.int (85) 0), (.str "/claim/cut.py" 442)]), #[]⟩
noncomputable def o208_3 : Obj := fo (C 25 5) "do" "Machine.do" "joinload.machine" 378 207
noncomputable def o209_3 : Obj := e1
noncomputable def o210_3 : Obj := e2
noncomputable def o211_3 : Obj := tu #[(.str "self" 447), (.str "word" 448)]
noncomputable def o212_3 : Obj := e1
noncomputable def o213_3 : Obj := ft (C 25 6) "sought" "Machine.sought"
noncomputable def o214_3 : Obj := ⟨(.type "code"), none, (.fields #[(.str "sought" 444), (.str "Machine.sought" 445), (.str "/claim/cut.py" 446), (.int (109) 0), (.int (2) 0), (.int (0) 0), (.int (0) 0), (.int (3) 0), (.ref 209), (.bool true), (.int (181) 0), (.ref 210), .none, (.ref 211), (.ref 212), (.ref 213), (.int (449) 0), (.int (109) 0), (.str "/claim/cut.py" 450)]), #[]⟩
noncomputable def o215_3 : Obj := fo (C 25 6) "sought" "Machine.sought" "joinload.machine" 378 214
noncomputable def o216_3 : Obj := e1
noncomputable def o217_3 : Obj := e2
noncomputable def o218_3 : Obj := tu #[(.str "self" 455), (.str "place" 456), (.str "word" 457)]
noncomputable def o219_3 : Obj := e1
noncomputable def o220_3 : Obj := ft (C 25 7) "store" "Machine.store"
noncomputable def o221_3 : Obj := ⟨(.type "code"), none, (.fields #[(.str "store" 452), (.str "Machine.store" 453), (.str "/claim/cut.py" 454), (.int (112) 0), (.int (3) 0), (.int (0) 0), (.int (0) 0), (.int (3) 0), (.ref 216), (.bool true), (.int (181) 0), (.ref 217), .none, (.ref 218), (.ref 219), (.ref 220), (.int (458) 0), (.int (112) 0), (.str "/claim/cut.py" 459)]), #[]⟩
noncomputable def o222_3 : Obj := fo (C 25 7) "store" "Machine.store" "joinload.machine" 378 221
noncomputable def o223_3 : Obj := e1
noncomputable def o224_3 : Obj := e2
noncomputable def o225_3 : Obj := tu #[(.str "self" 464), (.str "deed" 465), (.str "word" 466), (.str "first" 467), (.str "second" 468)]
noncomputable def o226_3 : Obj := e1
noncomputable def o227_3 : Obj := ft (C 25 8) "goes" "Machine.goes"
noncomputable def o228_3 : Obj := ⟨(.type "code"), none, (.fields #[(.str "goes" 461), (.str "Machine.goes" 462), (.str "/claim/cut.py" 463), (.int (116) 0), (.int (3) 0), (.int (0) 0), (.int (0) 0), (.int (3) 0), (.ref 223), (.bool true), (.int (181) 0), (.ref 224), .none, (.ref 225), (.ref 226), (.ref 227), (.int (469) 0), (.int (116) 0), (.str "/claim/cut.py" 470)]), #[]⟩
noncomputable def o229_3 : Obj := fo (C 25 8) "goes" "Machine.goes" "joinload.machine" 378 228
noncomputable def o230_3 : Obj := e1
noncomputable def o231_3 : Obj := e2
noncomputable def o232_3 : Obj := tu #[(.str "self" 475), (.str "deed" 476), (.str "word" 477)]
noncomputable def o233_3 : Obj := e1
noncomputable def o234_3 : Obj := ft (C 25 9) "result" "Machine.result"
noncomputable def o235_3 : Obj := ⟨(.type "code"), none, (.fields #[(.str "result" 472), (.str "Machine.result" 473), (.str "/claim/cut.py" 474), (.int (121) 0), (.int (3) 0), (.int (0) 0), (.int (0) 0), (.int (3) 0), (.ref 230), (.bool true), (.int (181) 0), (.ref 231), .none, (.ref 232), (.ref 233), (.ref 234), (.int (478) 0), (.int (121) 0), (.str "/claim/cut.py" 479)]), #[]⟩
noncomputable def o236_3 : Obj := fo (C 25 9) "result" "Machine.result" "joinload.machine" 378 235
noncomputable def o237_3 : Obj := tu #[(.str "ended" 481), (.str "memory" 482), (.str "numbers" 483), (.str "place" 484), (.str "registers" 485)]
noncomputable def g238_3 (P : Params) : List DictEntry := [k P "__module__" 387 (.str "joinload.machine" 378), k P "__firstlineno__" 391 (.int (59) 390), k P "__init__" 401 (.ref 173), k P "go_on" 408 (.ref 180), k P "state" 415 (.ref 187), k P "word_at" 423 (.ref 194), k P "found" 431 (.ref 201), k P "do" 443 (.ref 208), k P "sought" 451 (.ref 215), k P "store" 460 (.ref 222), k P "goes" 471 (.ref 229), k P "result" 480 (.ref 236), k P "__static_attributes__" 486 (.ref 237), k P "__dict__" 488 (.ref 240), k P "__weakref__" 490 (.ref 241), k P "__doc__" 491 .none]
noncomputable def o238_3 (P : Params) : Obj := ⟨(.type "dict"), none, .dict (g238_3 P).toArray 4, #[]⟩
noncomputable def o239_3 : Obj := ⟨(.type "type"), none, (.cls ⟨"Machine", [(.type "object")], [(.ref 239), (.type "object")], 238, "Machine", true, [], [], false, none, false⟩), #[none, none, (some (.str "Machine" 380)), (some (.str "Machine" 388)), (some (.builtin "object.__new__")), (some (.bool true))]⟩
noncomputable def o240_3 : Obj := ⟨(.type "getset_descriptor"), none, (.fields #[(.str "__dict__" 487), (.ref 239), (.builtin "function.__dict__"), (.builtin "function.__dict__#set")]), #[]⟩
noncomputable def o241_3 : Obj := ⟨(.type "getset_descriptor"), none, (.fields #[(.str "__weakref__" 489), (.ref 239), (.builtin "ExceptionGroup.__weakref__"), .none]), #[]⟩
noncomputable def o242_3 : Obj := su 239
noncomputable def o243_3 : Obj := bs 239
noncomputable def o244_3 : Obj := e1
noncomputable def o245_3 : Obj := e2
noncomputable def o246_3 : Obj := tu #[(.str "_law_found" 499)]
noncomputable def o247_3 : Obj := e1
noncomputable def o248_3 : Obj := ft (T 27) "_law_whole" "_law_whole"
noncomputable def o249_3 : Obj := ⟨(.type "code"), none, (.fields #[(.str "_law_whole" 496), (.str "_law_whole" 497), (.str "/claim/cut.py" 498), (.int (132) 0), (.int (1) 0), (.int (0) 0), (.int (0) 0), (.int (3) 0), (.ref 244), (.bool true), (.int (181) 0), (.ref 245), .none, (.ref 246), (.ref 247), (.ref 248), (.int (500) 0), (.int (132) 0), (.str "/claim/cut.py" 501)]), #[]⟩
noncomputable def o250_3 : Obj := fo (T 27) "_law_whole" "_law_whole" "law_joinload_k54_whole_runs_by_a_plain_model" 494 249
noncomputable def o251_3 : Obj := e1
noncomputable def o252_3 : Obj := e2
noncomputable def o253_3 : Obj := tu #[(.str "_law_script" 506), (.str "_law_k" 507)]
noncomputable def o254_3 : Obj := e1
noncomputable def o255_3 : Obj := ft (T 28) "_law_cell_at" "_law_cell_at"
noncomputable def o256_3 : Obj := ⟨(.type "code"), none, (.fields #[(.str "_law_cell_at" 503), (.str "_law_cell_at" 504), (.str "/claim/cut.py" 505), (.int (134) 0), (.int (2) 0), (.int (0) 0), (.int (0) 0), (.int (3) 0), (.ref 251), (.bool true), (.int (181) 0), (.ref 252), .none, (.ref 253), (.ref 254), (.ref 255), (.int (508) 0), (.int (134) 0), (.str "/claim/cut.py" 509)]), #[]⟩
noncomputable def o257_3 : Obj := fo (T 28) "_law_cell_at" "_law_cell_at" "law_joinload_k54_whole_runs_by_a_plain_model" 494 256
noncomputable def o258_3 : Obj := e1
noncomputable def o259_3 : Obj := e2
noncomputable def o260_3 : Obj := tu #[(.str "_law_cell" 514), (.str "_law_number" 515), (.str "_law_op" 516), (.str "_law_rest" 517), (.str "_law_low" 518), (.str "_law_way" 519)]
noncomputable def o261_3 : Obj := e1
noncomputable def o262_3 : Obj := ft (T 29) "_law_word_by" "_law_word_by"
noncomputable def o263_3 : Obj := ⟨(.type "code"), none, (.fields #[(.str "_law_word_by" 511), (.str "_law_word_by" 512), (.str "/claim/cut.py" 513), (.int (138) 0), (.int (1) 0), (.int (0) 0), (.int (0) 0), (.int (3) 0), (.ref 258), (.bool true), (.int (181) 0), (.ref 259), .none, (.ref 260), (.ref 261), (.ref 262), (.int (520) 0), (.int (138) 0), (.str "/claim/cut.py" 521)]), #[]⟩
noncomputable def o264_3 : Obj := fo (T 29) "_law_word_by" "_law_word_by" "law_joinload_k54_whole_runs_by_a_plain_model" 494 263
noncomputable def d2_0 (P : Params) (r : List (Nat × Obj)) : List (Nat × Obj) := (3, o3_3 P) :: (12, o12_3) :: (137, o137_3) :: (141, o141_3) :: (142, o142_3) :: (143, o143_3 P) :: (144, o144_3) :: (145, o145_3) :: (146, o146_3) :: (147, o147_3) :: (148, o148_3) :: (149, o149_3) :: (150, o150_3) :: (151, o151_3) :: (152, o152_3) :: (153, o153_3) :: (154, o154_3) :: (155, o155_3) :: (156, o156_3 P) :: (157, o157_3) :: (158, o158_3) :: (159, o159_3) :: (160, o160_3) :: (161, o161_3) :: r
noncomputable def d2_1 (P : Params) (r : List (Nat × Obj)) : List (Nat × Obj) := (162, o162_3 P) :: (163, o163_3) :: (164, o164_3) :: (165, o165_3) :: (166, o166_3) :: (167, o167_3) :: (168, o168_3) :: (169, o169_3) :: (170, o170_3) :: (171, o171_3) :: (172, o172_3) :: (173, o173_3) :: (174, o174_3) :: (175, o175_3) :: (176, o176_3) :: (177, o177_3) :: (178, o178_3) :: (179, o179_3) :: (180, o180_3) :: (181, o181_3) :: (182, o182_3) :: (183, o183_3) :: (184, o184_3) :: (185, o185_3) :: r
noncomputable def d2_2 (P : Params) (r : List (Nat × Obj)) : List (Nat × Obj) := (186, o186_3) :: (187, o187_3) :: (188, o188_3) :: (189, o189_3) :: (190, o190_3) :: (191, o191_3) :: (192, o192_3) :: (193, o193_3) :: (194, o194_3) :: (195, o195_3) :: (196, o196_3) :: (197, o197_3) :: (198, o198_3) :: (199, o199_3) :: (200, o200_3) :: (201, o201_3) :: (202, o202_3) :: (203, o203_3) :: (204, o204_3) :: (205, o205_3) :: (206, o206_3) :: (207, o207_3) :: (208, o208_3) :: (209, o209_3) :: r
noncomputable def d2_3 (P : Params) (r : List (Nat × Obj)) : List (Nat × Obj) := (210, o210_3) :: (211, o211_3) :: (212, o212_3) :: (213, o213_3) :: (214, o214_3) :: (215, o215_3) :: (216, o216_3) :: (217, o217_3) :: (218, o218_3) :: (219, o219_3) :: (220, o220_3) :: (221, o221_3) :: (222, o222_3) :: (223, o223_3) :: (224, o224_3) :: (225, o225_3) :: (226, o226_3) :: (227, o227_3) :: (228, o228_3) :: (229, o229_3) :: (230, o230_3) :: (231, o231_3) :: (232, o232_3) :: (233, o233_3) :: r
noncomputable def d2_4 (P : Params) (r : List (Nat × Obj)) : List (Nat × Obj) := (234, o234_3) :: (235, o235_3) :: (236, o236_3) :: (237, o237_3) :: (238, o238_3 P) :: (239, o239_3) :: (240, o240_3) :: (241, o241_3) :: (242, o242_3) :: (243, o243_3) :: (244, o244_3) :: (245, o245_3) :: (246, o246_3) :: (247, o247_3) :: (248, o248_3) :: (249, o249_3) :: (250, o250_3) :: (251, o251_3) :: (252, o252_3) :: (253, o253_3) :: (254, o254_3) :: (255, o255_3) :: (256, o256_3) :: (257, o257_3) :: r
noncomputable def d2_5 (P : Params) (r : List (Nat × Obj)) : List (Nat × Obj) := (258, o258_3) :: (259, o259_3) :: (260, o260_3) :: (261, o261_3) :: (262, o262_3) :: (263, o263_3) :: (264, o264_3) :: r
noncomputable def T2 (P : Params) : BT := mg 14 (T1 P) (d2_0 P (d2_1 P (d2_2 P (d2_3 P (d2_4 P (d2_5 P ([])))))))
noncomputable def S2T (w : World) : OsState → SharedT := sT (T2 w.params) 265 523
noncomputable def L1 : List Stmt := My.top 23 :: My.top 24 :: My.top 25 :: My.top 26 :: My.top 27 :: My.top 28 :: My.top 29 :: []
noncomputable def P1 (w : World) : Prop := sR w 880 S1T S2T L1 ⟨51, 0, 52, 8⟩ ⟨138, 0, 151, 70⟩
noncomputable def g3_4 (P : Params) : List DictEntry := g3_3 P ++ [k P "_law_split" 530 (.ref 271), k P "_law_near" 537 (.ref 278), k P "_law_small" 544 (.ref 285), k P "_law_lacks" 555 (.ref 292), k P "_law_made" 566 (.ref 299), k P "_law_onward" 577 (.ref 306), k P "_law_done" 593 (.ref 313), k P "_law_state" 599 (.ref 318), k P "_law_lost_at" 608 (.ref 325), k P "_law_stays" 618 (.ref 332), k P "_law_runs" 635 (.ref 339), k P "_law_held" 645 (.ref 346), k P "law" 663 (.ref 353)]
noncomputable def o3_4 (P : Params) : Obj := ⟨(.type "dict"), none, .dict (g3_4 P).toArray 47, #[]⟩
noncomputable def o12_4 : Obj := nf #[(.int (4) 0), (.int (0) 0), (.ref 20), (.int (6) 0), (.int (0) 0), (.ref 27), (.int (8) 0), (.int (0) 0), (.ref 34), (.int (11) 0), (.int (0) 0), (.ref 41), (.int (14) 0), (.int (0) 0), (.ref 48), (.int (16) 0), (.int (0) 0), (.ref 55), (.int (22) 0), (.int (0) 0), (.ref 63), (.int (24) 0), (.int (0) 0), (.ref 70), (.int (26) 0), (.int (0) 0), (.ref 77), (.int (28) 0), (.int (0) 0), (.ref 84), (.int (30) 0), (.int (0) 0), (.ref 91), (.int (32) 0), (.int (0) 0), (.ref 98), (.int (34) 0), (.int (0) 0), (.ref 105), (.int (36) 0), (.int (0) 0), (.ref 112), (.int (38) 0), (.int (0) 0), (.ref 119), (.int (40) 0), (.int (0) 0), (.ref 126), (.int (51) 0), (.int (0) 0), (.ref 133), (.int (53) 0), (.int (0) 0), (.ref 146), (.int (59) 0), (.int (0) 0), (.ref 165), (.int (132) 0), (.int (0) 0), (.ref 249), (.int (134) 0), (.int (0) 0), (.ref 256), (.int (138) 0), (.int (0) 0), (.ref 263), (.int (152) 0), (.int (0) 0), (.ref 270), (.int (155) 0), (.int (0) 0), (.ref 277), (.int (157) 0), (.int (0) 0), (.ref 284), (.int (159) 0), (.int (0) 0), (.ref 291), (.int (168) 0), (.int (0) 0), (.ref 298), (.int (186) 0), (.int (0) 0), (.ref 305), (.int (194) 0), (.int (0) 0), (.ref 312), (.int (212) 0), (.int (0) 0), (.ref 317), (.int (216) 0), (.int (0) 0), (.ref 324), (.int (225) 0), (.int (0) 0), (.ref 331), (.int (235) 0), (.int (0) 0), (.ref 338), (.int (253) 0), (.int (0) 0), (.ref 345), (.int (258) 0), (.int (0) 0), (.ref 352)]
noncomputable def o265_4 : Obj := e1
noncomputable def o266_4 : Obj := e2
noncomputable def o267_4 : Obj := tu #[(.str "_law_word" 526), (.str "_law_number" 527)]
noncomputable def o268_4 : Obj := e1
noncomputable def o269_4 : Obj := ft (T 30) "_law_split" "_law_split"
noncomputable def o270_4 : Obj := ⟨(.type "code"), none, (.fields #[(.str "_law_split" 523), (.str "_law_split" 524), (.str "/claim/cut.py" 525), (.int (152) 0), (.int (1) 0), (.int (0) 0), (.int (0) 0), (.int (3) 0), (.ref 265), (.bool true), (.int (181) 0), (.ref 266), .none, (.ref 267), (.ref 268), (.ref 269), (.int (528) 0), (.int (152) 0), (.str "/claim/cut.py" 529)]), #[]⟩
noncomputable def o271_4 : Obj := fo (T 30) "_law_split" "_law_split" "law_joinload_k54_whole_runs_by_a_plain_model" 494 270
noncomputable def o272_4 : Obj := e1
noncomputable def o273_4 : Obj := e2
noncomputable def o274_4 : Obj := tu #[(.str "_law_word" 534)]
noncomputable def o275_4 : Obj := e1
noncomputable def o276_4 : Obj := ft (T 31) "_law_near" "_law_near"
noncomputable def o277_4 : Obj := ⟨(.type "code"), none, (.fields #[(.str "_law_near" 531), (.str "_law_near" 532), (.str "/claim/cut.py" 533), (.int (155) 0), (.int (1) 0), (.int (0) 0), (.int (0) 0), (.int (3) 0), (.ref 272), (.bool true), (.int (181) 0), (.ref 273), .none, (.ref 274), (.ref 275), (.ref 276), (.int (535) 0), (.int (155) 0), (.str "/claim/cut.py" 536)]), #[]⟩
noncomputable def o278_4 : Obj := fo (T 31) "_law_near" "_law_near" "law_joinload_k54_whole_runs_by_a_plain_model" 494 277
noncomputable def o279_4 : Obj := e1
noncomputable def o280_4 : Obj := e2
noncomputable def o281_4 : Obj := tu #[(.str "_law_word" 541)]
noncomputable def o282_4 : Obj := e1
noncomputable def o283_4 : Obj := ft (T 32) "_law_small" "_law_small"
noncomputable def o284_4 : Obj := ⟨(.type "code"), none, (.fields #[(.str "_law_small" 538), (.str "_law_small" 539), (.str "/claim/cut.py" 540), (.int (157) 0), (.int (1) 0), (.int (0) 0), (.int (0) 0), (.int (3) 0), (.ref 279), (.bool true), (.int (181) 0), (.ref 280), .none, (.ref 281), (.ref 282), (.ref 283), (.int (542) 0), (.int (157) 0), (.str "/claim/cut.py" 543)]), #[]⟩
noncomputable def o285_4 : Obj := fo (T 32) "_law_small" "_law_small" "law_joinload_k54_whole_runs_by_a_plain_model" 494 284
noncomputable def o286_4 : Obj := e1
noncomputable def o287_4 : Obj := e2
noncomputable def o288_4 : Obj := tu #[(.str "_law_memory" 548), (.str "_law_row" 549), (.str "_law_here" 550), (.str "_law_word" 551), (.str "_law_there" 552)]
noncomputable def o289_4 : Obj := e1
noncomputable def o290_4 : Obj := ft (T 33) "_law_lacks" "_law_lacks"
noncomputable def o291_4 : Obj := ⟨(.type "code"), none, (.fields #[(.str "_law_lacks" 545), (.str "_law_lacks" 546), (.str "/claim/cut.py" 547), (.int (159) 0), (.int (3) 0), (.int (0) 0), (.int (0) 0), (.int (3) 0), (.ref 286), (.bool true), (.int (181) 0), (.ref 287), .none, (.ref 288), (.ref 289), (.ref 290), (.int (553) 0), (.int (159) 0), (.str "/claim/cut.py" 554)]), #[]⟩
noncomputable def o292_4 : Obj := fo (T 33) "_law_lacks" "_law_lacks" "law_joinload_k54_whole_runs_by_a_plain_model" 494 291
noncomputable def o293_4 : Obj := e1
noncomputable def o294_4 : Obj := e2
noncomputable def o295_4 : Obj := tu #[(.str "_law_memory" 559), (.str "_law_op" 560), (.str "_law_word" 561), (.str "_law_one" 562), (.str "_law_other" 563)]
noncomputable def o296_4 : Obj := e1
noncomputable def o297_4 : Obj := ft (T 34) "_law_made" "_law_made"
noncomputable def o298_4 : Obj := ⟨(.type "code"), none, (.fields #[(.str "_law_made" 556), (.str "_law_made" 557), (.str "/claim/cut.py" 558), (.int (168) 0), (.int (5) 0), (.int (0) 0), (.int (0) 0), (.int (3) 0), (.ref 293), (.bool true), (.int (181) 0), (.ref 294), .none, (.ref 295), (.ref 296), (.ref 297), (.int (564) 0), (.int (168) 0), (.str "/claim/cut.py" 565)]), #[]⟩
noncomputable def o299_4 : Obj := fo (T 34) "_law_made" "_law_made" "law_joinload_k54_whole_runs_by_a_plain_model" 494 298
noncomputable def o300_4 : Obj := e1
noncomputable def o301_4 : Obj := e2
noncomputable def o302_4 : Obj := tu #[(.str "_law_op" 570), (.str "_law_word" 571), (.str "_law_here" 572), (.str "_law_one" 573), (.str "_law_other" 574)]
noncomputable def o303_4 : Obj := e1
noncomputable def o304_4 : Obj := ft (T 35) "_law_onward" "_law_onward"
noncomputable def o305_4 : Obj := ⟨(.type "code"), none, (.fields #[(.str "_law_onward" 567), (.str "_law_onward" 568), (.str "/claim/cut.py" 569), (.int (186) 0), (.int (5) 0), (.int (0) 0), (.int (0) 0), (.int (3) 0), (.ref 300), (.bool true), (.int (181) 0), (.ref 301), .none, (.ref 302), (.ref 303), (.ref 304), (.int (575) 0), (.int (186) 0), (.str "/claim/cut.py" 576)]), #[]⟩
noncomputable def o306_4 : Obj := fo (T 35) "_law_onward" "_law_onward" "law_joinload_k54_whole_runs_by_a_plain_model" 494 305
noncomputable def o307_4 : Obj := e1
noncomputable def o308_4 : Obj := e2
noncomputable def o309_4 : Obj := tu #[(.str "_law_memory" 581), (.str "_law_row" 582), (.str "_law_told" 583), (.str "_law_here" 584), (.str "_law_word" 585), (.str "_law_op" 586), (.str "_law_a" 587), (.str "_law_one" 588), (.str "_law_other" 589), (.str "_law_onward_here" 590)]
noncomputable def o310_4 : Obj := e1
noncomputable def o311_4 : Obj := ft (T 36) "_law_done" "_law_done"
noncomputable def o312_4 : Obj := ⟨(.type "code"), none, (.fields #[(.str "_law_done" 578), (.str "_law_done" 579), (.str "/claim/cut.py" 580), (.int (194) 0), (.int (4) 0), (.int (0) 0), (.int (0) 0), (.int (3) 0), (.ref 307), (.bool true), (.int (181) 0), (.ref 308), .none, (.ref 309), (.ref 310), (.ref 311), (.int (591) 0), (.int (194) 0), (.str "/claim/cut.py" 592)]), #[]⟩
noncomputable def o313_4 : Obj := fo (T 36) "_law_done" "_law_done" "law_joinload_k54_whole_runs_by_a_plain_model" 494 312
noncomputable def o314_4 : Obj := e1
noncomputable def o315_4 : Obj := e2
noncomputable def o316_4 : Obj := ft (T 37) "_law_state" "_law_state"
noncomputable def o317_4 : Obj := co "_law_state" "_law_state" 594 212 2 3 314 true 315 (.ref 316) 597
noncomputable def o318_4 : Obj := fo (T 37) "_law_state" "_law_state" "law_joinload_k54_whole_runs_by_a_plain_model" 494 317
noncomputable def o319_4 : Obj := e1
noncomputable def o320_4 : Obj := e2
noncomputable def o321_4 : Obj := tu #[(.str "_law_machine" 603), (.str "_law_told" 604), (.str "e" 605)]
noncomputable def o322_4 : Obj := e1
noncomputable def o323_4 : Obj := ft (T 38) "_law_lost_at" "_law_lost_at"
noncomputable def o324_4 : Obj := ⟨(.type "code"), none, (.fields #[(.str "_law_lost_at" 600), (.str "_law_lost_at" 601), (.str "/claim/cut.py" 602), (.int (216) 0), (.int (1) 0), (.int (0) 0), (.int (0) 0), (.int (3) 0), (.ref 319), (.bool true), (.int (181) 0), (.ref 320), .none, (.ref 321), (.ref 322), (.ref 323), (.int (606) 0), (.int (216) 0), (.str "/claim/cut.py" 607)]), #[]⟩
noncomputable def o325_4 : Obj := fo (T 38) "_law_lost_at" "_law_lost_at" "law_joinload_k54_whole_runs_by_a_plain_model" 494 324
noncomputable def o326_4 : Obj := e1
noncomputable def o327_4 : Obj := e2
noncomputable def o328_4 : Obj := tu #[(.str "_law_machine" 612), (.str "_law_due" 613), (.str "_law_lack" 614), (.str "_law_k" 615)]
noncomputable def o329_4 : Obj := e1
noncomputable def o330_4 : Obj := ft (T 39) "_law_stays" "_law_stays"
noncomputable def o331_4 : Obj := ⟨(.type "code"), none, (.fields #[(.str "_law_stays" 609), (.str "_law_stays" 610), (.str "/claim/cut.py" 611), (.int (225) 0), (.int (3) 0), (.int (0) 0), (.int (0) 0), (.int (3) 0), (.ref 326), (.bool true), (.int (181) 0), (.ref 327), .none, (.ref 328), (.ref 329), (.ref 330), (.int (616) 0), (.int (225) 0), (.str "/claim/cut.py" 617)]), #[]⟩
noncomputable def o332_4 : Obj := fo (T 39) "_law_stays" "_law_stays" "law_joinload_k54_whole_runs_by_a_plain_model" 494 331
noncomputable def o333_4 : Obj := e1
noncomputable def o334_4 : Obj := e2
noncomputable def o335_4 : Obj := tu #[(.str "_law_machine" 622), (.str "_law_memory" 623), (.str "_law_row" 624), (.str "_law_here" 625), (.str "_law_most" 626), (.str "_law_told" 627), (.str "_law_held_here" 628), (.str "_law_k" 629), (.str "_law_lack" 630), (.str "_law_onward_here" 631), (.str "_law_found" 632)]
noncomputable def o336_4 : Obj := e1
noncomputable def o337_4 : Obj := ft (T 40) "_law_runs" "_law_runs"
noncomputable def o338_4 : Obj := ⟨(.type "code"), none, (.fields #[(.str "_law_runs" 619), (.str "_law_runs" 620), (.str "/claim/cut.py" 621), (.int (235) 0), (.int (5) 0), (.int (0) 0), (.int (0) 0), (.int (3) 0), (.ref 333), (.bool true), (.int (181) 0), (.ref 334), .none, (.ref 335), (.ref 336), (.ref 337), (.int (633) 0), (.int (235) 0), (.str "/claim/cut.py" 634)]), #[]⟩
noncomputable def o339_4 : Obj := fo (T 40) "_law_runs" "_law_runs" "law_joinload_k54_whole_runs_by_a_plain_model" 494 338
noncomputable def o340_4 : Obj := e1
noncomputable def o341_4 : Obj := e2
noncomputable def o342_4 : Obj := tu #[(.str "_law_held_here" 639), (.str "_law_found" 640), (.str "_law_row" 641), (.str "_law_many" 642)]
noncomputable def o343_4 : Obj := e1
noncomputable def o344_4 : Obj := ft (T 41) "_law_held" "_law_held"
noncomputable def o345_4 : Obj := ⟨(.type "code"), none, (.fields #[(.str "_law_held" 636), (.str "_law_held" 637), (.str "/claim/cut.py" 638), (.int (253) 0), (.int (1) 0), (.int (0) 0), (.int (0) 0), (.int (3) 0), (.ref 340), (.bool true), (.int (181) 0), (.ref 341), .none, (.ref 342), (.ref 343), (.ref 344), (.int (643) 0), (.int (253) 0), (.str "/claim/cut.py" 644)]), #[]⟩
noncomputable def o346_4 : Obj := fo (T 41) "_law_held" "_law_held" "law_joinload_k54_whole_runs_by_a_plain_model" 494 345
noncomputable def o347_4 : Obj := e1
noncomputable def o348_4 : Obj := e2
noncomputable def o349_4 : Obj := tu #[(.str "_law_script" 649), (.str "_law_cells" 650), (.str "_law_first" 651), (.str "_law_start" 652), (.str "_law_memory" 653), (.str "_law_k" 654), (.str "_law_number" 655), (.str "_law_row" 656), (.str "_law_begin" 657), (.str "_law_machine" 658), (.str "_law_place" 659), (.str "_law_found" 660)]
noncomputable def o350_4 : Obj := e1
noncomputable def o351_4 : Obj := ft (T 42) "law" "law"
noncomputable def o352_4 : Obj := ⟨(.type "code"), none, (.fields #[(.str "law" 646), (.str "law" 647), (.str "/claim/cut.py" 648), (.int (258) 0), (.int (1) 0), (.int (0) 0), (.int (0) 0), (.int (3) 0), (.ref 347), (.bool true), (.int (181) 0), (.ref 348), .none, (.ref 349), (.ref 350), (.ref 351), (.int (661) 0), (.int (258) 0), (.str "/claim/cut.py" 662)]), #[]⟩
noncomputable def o353_4 : Obj := fo (T 42) "law" "law" "law_joinload_k54_whole_runs_by_a_plain_model" 494 352
noncomputable def d3_0 (P : Params) (r : List (Nat × Obj)) : List (Nat × Obj) := (3, o3_4 P) :: (12, o12_4) :: (265, o265_4) :: (266, o266_4) :: (267, o267_4) :: (268, o268_4) :: (269, o269_4) :: (270, o270_4) :: (271, o271_4) :: (272, o272_4) :: (273, o273_4) :: (274, o274_4) :: (275, o275_4) :: (276, o276_4) :: (277, o277_4) :: (278, o278_4) :: (279, o279_4) :: (280, o280_4) :: (281, o281_4) :: (282, o282_4) :: (283, o283_4) :: (284, o284_4) :: (285, o285_4) :: (286, o286_4) :: r
noncomputable def d3_1 (P : Params) (r : List (Nat × Obj)) : List (Nat × Obj) := (287, o287_4) :: (288, o288_4) :: (289, o289_4) :: (290, o290_4) :: (291, o291_4) :: (292, o292_4) :: (293, o293_4) :: (294, o294_4) :: (295, o295_4) :: (296, o296_4) :: (297, o297_4) :: (298, o298_4) :: (299, o299_4) :: (300, o300_4) :: (301, o301_4) :: (302, o302_4) :: (303, o303_4) :: (304, o304_4) :: (305, o305_4) :: (306, o306_4) :: (307, o307_4) :: (308, o308_4) :: (309, o309_4) :: (310, o310_4) :: r
noncomputable def d3_2 (P : Params) (r : List (Nat × Obj)) : List (Nat × Obj) := (311, o311_4) :: (312, o312_4) :: (313, o313_4) :: (314, o314_4) :: (315, o315_4) :: (316, o316_4) :: (317, o317_4) :: (318, o318_4) :: (319, o319_4) :: (320, o320_4) :: (321, o321_4) :: (322, o322_4) :: (323, o323_4) :: (324, o324_4) :: (325, o325_4) :: (326, o326_4) :: (327, o327_4) :: (328, o328_4) :: (329, o329_4) :: (330, o330_4) :: (331, o331_4) :: (332, o332_4) :: (333, o333_4) :: (334, o334_4) :: r
noncomputable def d3_3 (P : Params) (r : List (Nat × Obj)) : List (Nat × Obj) := (335, o335_4) :: (336, o336_4) :: (337, o337_4) :: (338, o338_4) :: (339, o339_4) :: (340, o340_4) :: (341, o341_4) :: (342, o342_4) :: (343, o343_4) :: (344, o344_4) :: (345, o345_4) :: (346, o346_4) :: (347, o347_4) :: (348, o348_4) :: (349, o349_4) :: (350, o350_4) :: (351, o351_4) :: (352, o352_4) :: (353, o353_4) :: r
noncomputable def T3 (P : Params) : BT := mg 14 (T2 P) (d3_0 P (d3_1 P (d3_2 P (d3_3 P ([])))))
noncomputable def S3T (w : World) : OsState → SharedT := sT (T3 w.params) 354 664
noncomputable def L2 : List Stmt := My.top 30 :: My.top 31 :: My.top 32 :: My.top 33 :: My.top 34 :: My.top 35 :: My.top 36 :: My.top 37 :: My.top 38 :: My.top 39 :: My.top 40 :: My.top 41 :: My.top 42 :: []
noncomputable def P2 (w : World) : Prop := sR w 426 S2T S3T L2 ⟨138, 0, 151, 70⟩ ⟨258, 0, 286, 15⟩
noncomputable def h_0 (P : Params) (r : List Obj) : List Obj := boot_o_0 P :: boot_o_1 P :: boot_o_2 P :: o3_4 P :: boot_o_4 P :: boot_o_5 P :: boot_o_6 P :: boot_o_7 P :: boot_o_8 P :: boot_o_9 P :: boot_o_10 P :: o11_0 :: o12_4 :: o13_0 :: o14_0 :: o15_2 :: o16_2 :: o17_2 :: o18_2 :: o19_2 :: o20_2 :: o21_2 :: o22_2 :: o23_2 :: r
noncomputable def h_1 (P : Params) (r : List Obj) : List Obj := o24_2 :: o25_2 :: o26_2 :: o27_2 :: o28_2 :: o29_2 :: o30_2 :: o31_2 :: o32_2 :: o33_2 :: o34_2 :: o35_2 :: o36_2 :: o37_2 :: o38_2 :: o39_2 :: o40_2 :: o41_2 :: o42_2 :: o43_2 :: o44_2 :: o45_2 :: o46_2 :: o47_2 :: r
noncomputable def h_2 (P : Params) (r : List Obj) : List Obj := o48_2 :: o49_2 :: o50_2 :: o51_2 :: o52_2 :: o53_2 :: o54_2 :: o55_2 :: o56_2 :: o57_2 :: o58_2 :: o59_2 :: o60_2 :: o61_2 :: o62_2 :: o63_2 :: o64_2 :: o65_2 :: o66_2 :: o67_2 :: o68_2 :: o69_2 :: o70_2 :: o71_2 :: r
noncomputable def h_3 (P : Params) (r : List Obj) : List Obj := o72_2 :: o73_2 :: o74_2 :: o75_2 :: o76_2 :: o77_2 :: o78_2 :: o79_2 :: o80_2 :: o81_2 :: o82_2 :: o83_2 :: o84_2 :: o85_2 :: o86_2 :: o87_2 :: o88_2 :: o89_2 :: o90_2 :: o91_2 :: o92_2 :: o93_2 :: o94_2 :: o95_2 :: r
noncomputable def h_4 (P : Params) (r : List Obj) : List Obj := o96_2 :: o97_2 :: o98_2 :: o99_2 :: o100_2 :: o101_2 :: o102_2 :: o103_2 :: o104_2 :: o105_2 :: o106_2 :: o107_2 :: o108_2 :: o109_2 :: o110_2 :: o111_2 :: o112_2 :: o113_2 :: o114_2 :: o115_2 :: o116_2 :: o117_2 :: o118_2 :: o119_2 :: r
noncomputable def h_5 (P : Params) (r : List Obj) : List Obj := o120_2 :: o121_2 :: o122_2 :: o123_2 :: o124_2 :: o125_2 :: o126_2 :: o127_2 :: o128_2 :: o129_2 :: o130_2 P :: o131_2 :: o132_2 :: o133_2 :: o134_2 :: o135_2 :: o136_2 P :: o137_3 :: o138_2 :: o139_2 :: o140_2 :: o141_3 :: o142_3 :: o143_3 P :: r
noncomputable def h_6 (P : Params) (r : List Obj) : List Obj := o144_3 :: o145_3 :: o146_3 :: o147_3 :: o148_3 :: o149_3 :: o150_3 :: o151_3 :: o152_3 :: o153_3 :: o154_3 :: o155_3 :: o156_3 P :: o157_3 :: o158_3 :: o159_3 :: o160_3 :: o161_3 :: o162_3 P :: o163_3 :: o164_3 :: o165_3 :: o166_3 :: o167_3 :: r
noncomputable def h_7 (P : Params) (r : List Obj) : List Obj := o168_3 :: o169_3 :: o170_3 :: o171_3 :: o172_3 :: o173_3 :: o174_3 :: o175_3 :: o176_3 :: o177_3 :: o178_3 :: o179_3 :: o180_3 :: o181_3 :: o182_3 :: o183_3 :: o184_3 :: o185_3 :: o186_3 :: o187_3 :: o188_3 :: o189_3 :: o190_3 :: o191_3 :: r
noncomputable def h_8 (P : Params) (r : List Obj) : List Obj := o192_3 :: o193_3 :: o194_3 :: o195_3 :: o196_3 :: o197_3 :: o198_3 :: o199_3 :: o200_3 :: o201_3 :: o202_3 :: o203_3 :: o204_3 :: o205_3 :: o206_3 :: o207_3 :: o208_3 :: o209_3 :: o210_3 :: o211_3 :: o212_3 :: o213_3 :: o214_3 :: o215_3 :: r
noncomputable def h_9 (P : Params) (r : List Obj) : List Obj := o216_3 :: o217_3 :: o218_3 :: o219_3 :: o220_3 :: o221_3 :: o222_3 :: o223_3 :: o224_3 :: o225_3 :: o226_3 :: o227_3 :: o228_3 :: o229_3 :: o230_3 :: o231_3 :: o232_3 :: o233_3 :: o234_3 :: o235_3 :: o236_3 :: o237_3 :: o238_3 P :: o239_3 :: r
noncomputable def h_10 (P : Params) (r : List Obj) : List Obj := o240_3 :: o241_3 :: o242_3 :: o243_3 :: o244_3 :: o245_3 :: o246_3 :: o247_3 :: o248_3 :: o249_3 :: o250_3 :: o251_3 :: o252_3 :: o253_3 :: o254_3 :: o255_3 :: o256_3 :: o257_3 :: o258_3 :: o259_3 :: o260_3 :: o261_3 :: o262_3 :: o263_3 :: r
noncomputable def h_11 (P : Params) (r : List Obj) : List Obj := o264_3 :: o265_4 :: o266_4 :: o267_4 :: o268_4 :: o269_4 :: o270_4 :: o271_4 :: o272_4 :: o273_4 :: o274_4 :: o275_4 :: o276_4 :: o277_4 :: o278_4 :: o279_4 :: o280_4 :: o281_4 :: o282_4 :: o283_4 :: o284_4 :: o285_4 :: o286_4 :: o287_4 :: r
noncomputable def h_12 (P : Params) (r : List Obj) : List Obj := o288_4 :: o289_4 :: o290_4 :: o291_4 :: o292_4 :: o293_4 :: o294_4 :: o295_4 :: o296_4 :: o297_4 :: o298_4 :: o299_4 :: o300_4 :: o301_4 :: o302_4 :: o303_4 :: o304_4 :: o305_4 :: o306_4 :: o307_4 :: o308_4 :: o309_4 :: o310_4 :: o311_4 :: r
noncomputable def h_13 (P : Params) (r : List Obj) : List Obj := o312_4 :: o313_4 :: o314_4 :: o315_4 :: o316_4 :: o317_4 :: o318_4 :: o319_4 :: o320_4 :: o321_4 :: o322_4 :: o323_4 :: o324_4 :: o325_4 :: o326_4 :: o327_4 :: o328_4 :: o329_4 :: o330_4 :: o331_4 :: o332_4 :: o333_4 :: o334_4 :: o335_4 :: r
noncomputable def h_14 (P : Params) (r : List Obj) : List Obj := o336_4 :: o337_4 :: o338_4 :: o339_4 :: o340_4 :: o341_4 :: o342_4 :: o343_4 :: o344_4 :: o345_4 :: o346_4 :: o347_4 :: o348_4 :: o349_4 :: o350_4 :: o351_4 :: o352_4 :: o353_4 :: r
noncomputable def Hf (P : Params) : Heap := ⟨⟨h_0 P (h_1 P (h_2 P (h_3 P (h_4 P (h_5 P (h_6 P (h_7 P (h_8 P (h_9 P (h_10 P (h_11 P (h_12 P (h_13 P (h_14 P ([])))))))))))))))⟩, li⟩
noncomputable def Sf (w : World) (os : OsState) : Shared := ⟨Hf w.params, ⟨[]⟩, boot_drawn, 664, os⟩
noncomputable def Fin (w : World) : Prop := (fun os => topRun treeTable pw w 11 an 2 (S3T w os).abs ⟨doneF .next, cE, ⟨258, 0, 286, 15⟩, B⟩) = fun os => some (Sf w os)
noncomputable def q : Program := { pw with main := { pw.main with body := My.top 1 :: My.top 2 :: My.top 3 :: My.top 4 :: My.top 5 :: My.top 6 :: My.top 7 :: My.top 8 :: My.top 10 :: My.top 11 :: My.top 12 :: My.top 13 :: My.top 14 :: My.top 15 :: My.top 16 :: My.top 17 :: My.top 18 :: My.top 19 :: My.top 20 :: My.top 22 :: My.top 23 :: My.top 25 :: My.top 27 :: My.top 28 :: My.top 29 :: My.top 30 :: My.top 31 :: My.top 32 :: My.top 33 :: My.top 34 :: My.top 35 :: My.top 36 :: My.top 37 :: My.top 38 :: My.top 39 :: My.top 40 :: My.top 41 :: My.top 42 :: [] } }
noncomputable def K (P : Params) : Frag := (nat_lit 2, boot_o_2 P) :: (nat_lit 3, o3_4 P) :: (nat_lit 15, o15_2) :: (nat_lit 17, o17_2) :: (nat_lit 18, o18_2) :: (nat_lit 20, o20_2) :: (nat_lit 21, o21_2) :: (nat_lit 22, o22_2) :: (nat_lit 24, o24_2) :: (nat_lit 25, o25_2) :: (nat_lit 27, o27_2) :: (nat_lit 28, o28_2) :: (nat_lit 29, o29_2) :: (nat_lit 31, o31_2) :: (nat_lit 32, o32_2) :: (nat_lit 34, o34_2) :: (nat_lit 35, o35_2) :: (nat_lit 36, o36_2) :: (nat_lit 38, o38_2) :: (nat_lit 39, o39_2) :: (nat_lit 41, o41_2) :: (nat_lit 42, o42_2) :: (nat_lit 43, o43_2) :: (nat_lit 45, o45_2) :: (nat_lit 46, o46_2) :: (nat_lit 48, o48_2) :: (nat_lit 49, o49_2) :: (nat_lit 50, o50_2) :: (nat_lit 52, o52_2) :: (nat_lit 53, o53_2) :: (nat_lit 55, o55_2) :: (nat_lit 56, o56_2) :: (nat_lit 57, o57_2) :: (nat_lit 58, o58_2) :: (nat_lit 60, o60_2) :: (nat_lit 61, o61_2) :: (nat_lit 63, o63_2) :: (nat_lit 64, o64_2) :: (nat_lit 65, o65_2) :: (nat_lit 67, o67_2) :: (nat_lit 68, o68_2) :: (nat_lit 70, o70_2) :: (nat_lit 71, o71_2) :: (nat_lit 72, o72_2) :: (nat_lit 74, o74_2) :: (nat_lit 75, o75_2) :: (nat_lit 77, o77_2) :: (nat_lit 78, o78_2) :: (nat_lit 79, o79_2) :: (nat_lit 81, o81_2) :: (nat_lit 82, o82_2) :: (nat_lit 84, o84_2) :: (nat_lit 85, o85_2) :: (nat_lit 86, o86_2) :: (nat_lit 88, o88_2) :: (nat_lit 89, o89_2) :: (nat_lit 91, o91_2) :: (nat_lit 92, o92_2) :: (nat_lit 93, o93_2) :: (nat_lit 95, o95_2) :: (nat_lit 96, o96_2) :: (nat_lit 98, o98_2) :: (nat_lit 99, o99_2) :: (nat_lit 100, o100_2) :: (nat_lit 102, o102_2) :: (nat_lit 103, o103_2) :: (nat_lit 105, o105_2) :: (nat_lit 106, o106_2) :: (nat_lit 107, o107_2) :: (nat_lit 109, o109_2) :: (nat_lit 110, o110_2) :: (nat_lit 112, o112_2) :: (nat_lit 113, o113_2) :: (nat_lit 114, o114_2) :: (nat_lit 116, o116_2) :: (nat_lit 117, o117_2) :: (nat_lit 119, o119_2) :: (nat_lit 120, o120_2) :: (nat_lit 121, o121_2) :: (nat_lit 123, o123_2) :: (nat_lit 124, o124_2) :: (nat_lit 126, o126_2) :: (nat_lit 127, o127_2) :: (nat_lit 128, o128_2) :: (nat_lit 135, o135_2) :: (nat_lit 136, o136_2 P) :: (nat_lit 137, o137_3) :: (nat_lit 138, o138_2) :: (nat_lit 141, o141_3) :: (nat_lit 148, o148_3) :: (nat_lit 150, o150_3) :: (nat_lit 151, o151_3) :: (nat_lit 153, o153_3) :: (nat_lit 154, o154_3) :: (nat_lit 155, o155_3) :: (nat_lit 156, o156_3 P) :: (nat_lit 157, o157_3) :: (nat_lit 167, o167_3) :: (nat_lit 169, o169_3) :: (nat_lit 170, o170_3) :: (nat_lit 172, o172_3) :: (nat_lit 173, o173_3) :: (nat_lit 174, o174_3) :: (nat_lit 176, o176_3) :: (nat_lit 177, o177_3) :: (nat_lit 179, o179_3) :: (nat_lit 180, o180_3) :: (nat_lit 181, o181_3) :: (nat_lit 183, o183_3) :: (nat_lit 184, o184_3) :: (nat_lit 186, o186_3) :: (nat_lit 187, o187_3) :: (nat_lit 188, o188_3) :: (nat_lit 190, o190_3) :: (nat_lit 191, o191_3) :: (nat_lit 193, o193_3) :: (nat_lit 194, o194_3) :: (nat_lit 195, o195_3) :: (nat_lit 197, o197_3) :: (nat_lit 198, o198_3) :: (nat_lit 200, o200_3) :: (nat_lit 201, o201_3) :: (nat_lit 202, o202_3) :: (nat_lit 204, o204_3) :: (nat_lit 205, o205_3) :: (nat_lit 207, o207_3) :: (nat_lit 208, o208_3) :: (nat_lit 209, o209_3) :: (nat_lit 211, o211_3) :: (nat_lit 212, o212_3) :: (nat_lit 214, o214_3) :: (nat_lit 215, o215_3) :: (nat_lit 216, o216_3) :: (nat_lit 218, o218_3) :: (nat_lit 219, o219_3) :: (nat_lit 221, o221_3) :: (nat_lit 222, o222_3) :: (nat_lit 223, o223_3) :: (nat_lit 225, o225_3) :: (nat_lit 226, o226_3) :: (nat_lit 228, o228_3) :: (nat_lit 229, o229_3) :: (nat_lit 230, o230_3) :: (nat_lit 232, o232_3) :: (nat_lit 233, o233_3) :: (nat_lit 235, o235_3) :: (nat_lit 236, o236_3) :: (nat_lit 237, o237_3) :: (nat_lit 238, o238_3 P) :: (nat_lit 239, o239_3) :: (nat_lit 240, o240_3) :: (nat_lit 241, o241_3) :: (nat_lit 244, o244_3) :: (nat_lit 246, o246_3) :: (nat_lit 247, o247_3) :: (nat_lit 249, o249_3) :: (nat_lit 250, o250_3) :: (nat_lit 251, o251_3) :: (nat_lit 253, o253_3) :: (nat_lit 254, o254_3) :: (nat_lit 256, o256_3) :: (nat_lit 257, o257_3) :: (nat_lit 258, o258_3) :: (nat_lit 260, o260_3) :: (nat_lit 261, o261_3) :: (nat_lit 263, o263_3) :: (nat_lit 264, o264_3) :: (nat_lit 265, o265_4) :: (nat_lit 267, o267_4) :: (nat_lit 268, o268_4) :: (nat_lit 270, o270_4) :: (nat_lit 271, o271_4) :: (nat_lit 272, o272_4) :: (nat_lit 274, o274_4) :: (nat_lit 275, o275_4) :: (nat_lit 277, o277_4) :: (nat_lit 278, o278_4) :: (nat_lit 279, o279_4) :: (nat_lit 281, o281_4) :: (nat_lit 282, o282_4) :: (nat_lit 284, o284_4) :: (nat_lit 285, o285_4) :: (nat_lit 286, o286_4) :: (nat_lit 288, o288_4) :: (nat_lit 289, o289_4) :: (nat_lit 291, o291_4) :: (nat_lit 292, o292_4) :: (nat_lit 293, o293_4) :: (nat_lit 295, o295_4) :: (nat_lit 296, o296_4) :: (nat_lit 298, o298_4) :: (nat_lit 299, o299_4) :: (nat_lit 300, o300_4) :: (nat_lit 302, o302_4) :: (nat_lit 303, o303_4) :: (nat_lit 305, o305_4) :: (nat_lit 306, o306_4) :: (nat_lit 307, o307_4) :: (nat_lit 309, o309_4) :: (nat_lit 310, o310_4) :: (nat_lit 312, o312_4) :: (nat_lit 313, o313_4) :: (nat_lit 314, o314_4) :: (nat_lit 317, o317_4) :: (nat_lit 318, o318_4) :: (nat_lit 319, o319_4) :: (nat_lit 321, o321_4) :: (nat_lit 322, o322_4) :: (nat_lit 324, o324_4) :: (nat_lit 325, o325_4) :: (nat_lit 326, o326_4) :: (nat_lit 328, o328_4) :: (nat_lit 329, o329_4) :: (nat_lit 331, o331_4) :: (nat_lit 332, o332_4) :: (nat_lit 333, o333_4) :: (nat_lit 335, o335_4) :: (nat_lit 336, o336_4) :: (nat_lit 338, o338_4) :: (nat_lit 339, o339_4) :: (nat_lit 340, o340_4) :: (nat_lit 342, o342_4) :: (nat_lit 343, o343_4) :: (nat_lit 345, o345_4) :: (nat_lit 346, o346_4) :: (nat_lit 347, o347_4) :: (nat_lit 349, o349_4) :: (nat_lit 350, o350_4) :: (nat_lit 352, o352_4) :: (nat_lit 353, o353_4) :: []
noncomputable def f_0 (P : Params) (r : List (Nat × Obj)) : List (Nat × Obj) := (2, boot_o_2 P) :: (3, o3_4 P) :: (15, o15_2) :: (17, o17_2) :: (18, o18_2) :: (20, o20_2) :: (21, o21_2) :: (22, o22_2) :: (24, o24_2) :: (25, o25_2) :: (27, o27_2) :: (28, o28_2) :: (29, o29_2) :: (31, o31_2) :: (32, o32_2) :: (34, o34_2) :: (35, o35_2) :: (36, o36_2) :: (38, o38_2) :: (39, o39_2) :: (41, o41_2) :: (42, o42_2) :: (43, o43_2) :: (45, o45_2) :: r
noncomputable def f_1 (P : Params) (r : List (Nat × Obj)) : List (Nat × Obj) := (46, o46_2) :: (48, o48_2) :: (49, o49_2) :: (50, o50_2) :: (52, o52_2) :: (53, o53_2) :: (55, o55_2) :: (56, o56_2) :: (57, o57_2) :: (58, o58_2) :: (60, o60_2) :: (61, o61_2) :: (63, o63_2) :: (64, o64_2) :: (65, o65_2) :: (67, o67_2) :: (68, o68_2) :: (70, o70_2) :: (71, o71_2) :: (72, o72_2) :: (74, o74_2) :: (75, o75_2) :: (77, o77_2) :: (78, o78_2) :: r
noncomputable def f_2 (P : Params) (r : List (Nat × Obj)) : List (Nat × Obj) := (79, o79_2) :: (81, o81_2) :: (82, o82_2) :: (84, o84_2) :: (85, o85_2) :: (86, o86_2) :: (88, o88_2) :: (89, o89_2) :: (91, o91_2) :: (92, o92_2) :: (93, o93_2) :: (95, o95_2) :: (96, o96_2) :: (98, o98_2) :: (99, o99_2) :: (100, o100_2) :: (102, o102_2) :: (103, o103_2) :: (105, o105_2) :: (106, o106_2) :: (107, o107_2) :: (109, o109_2) :: (110, o110_2) :: (112, o112_2) :: r
noncomputable def f_3 (P : Params) (r : List (Nat × Obj)) : List (Nat × Obj) := (113, o113_2) :: (114, o114_2) :: (116, o116_2) :: (117, o117_2) :: (119, o119_2) :: (120, o120_2) :: (121, o121_2) :: (123, o123_2) :: (124, o124_2) :: (126, o126_2) :: (127, o127_2) :: (128, o128_2) :: (135, o135_2) :: (136, o136_2 P) :: (137, o137_3) :: (138, o138_2) :: (141, o141_3) :: (148, o148_3) :: (150, o150_3) :: (151, o151_3) :: (153, o153_3) :: (154, o154_3) :: (155, o155_3) :: (156, o156_3 P) :: r
noncomputable def f_4 (P : Params) (r : List (Nat × Obj)) : List (Nat × Obj) := (157, o157_3) :: (167, o167_3) :: (169, o169_3) :: (170, o170_3) :: (172, o172_3) :: (173, o173_3) :: (174, o174_3) :: (176, o176_3) :: (177, o177_3) :: (179, o179_3) :: (180, o180_3) :: (181, o181_3) :: (183, o183_3) :: (184, o184_3) :: (186, o186_3) :: (187, o187_3) :: (188, o188_3) :: (190, o190_3) :: (191, o191_3) :: (193, o193_3) :: (194, o194_3) :: (195, o195_3) :: (197, o197_3) :: (198, o198_3) :: r
noncomputable def f_5 (P : Params) (r : List (Nat × Obj)) : List (Nat × Obj) := (200, o200_3) :: (201, o201_3) :: (202, o202_3) :: (204, o204_3) :: (205, o205_3) :: (207, o207_3) :: (208, o208_3) :: (209, o209_3) :: (211, o211_3) :: (212, o212_3) :: (214, o214_3) :: (215, o215_3) :: (216, o216_3) :: (218, o218_3) :: (219, o219_3) :: (221, o221_3) :: (222, o222_3) :: (223, o223_3) :: (225, o225_3) :: (226, o226_3) :: (228, o228_3) :: (229, o229_3) :: (230, o230_3) :: (232, o232_3) :: r
noncomputable def f_6 (P : Params) (r : List (Nat × Obj)) : List (Nat × Obj) := (233, o233_3) :: (235, o235_3) :: (236, o236_3) :: (237, o237_3) :: (238, o238_3 P) :: (239, o239_3) :: (240, o240_3) :: (241, o241_3) :: (244, o244_3) :: (246, o246_3) :: (247, o247_3) :: (249, o249_3) :: (250, o250_3) :: (251, o251_3) :: (253, o253_3) :: (254, o254_3) :: (256, o256_3) :: (257, o257_3) :: (258, o258_3) :: (260, o260_3) :: (261, o261_3) :: (263, o263_3) :: (264, o264_3) :: (265, o265_4) :: r
noncomputable def f_7 (P : Params) (r : List (Nat × Obj)) : List (Nat × Obj) := (267, o267_4) :: (268, o268_4) :: (270, o270_4) :: (271, o271_4) :: (272, o272_4) :: (274, o274_4) :: (275, o275_4) :: (277, o277_4) :: (278, o278_4) :: (279, o279_4) :: (281, o281_4) :: (282, o282_4) :: (284, o284_4) :: (285, o285_4) :: (286, o286_4) :: (288, o288_4) :: (289, o289_4) :: (291, o291_4) :: (292, o292_4) :: (293, o293_4) :: (295, o295_4) :: (296, o296_4) :: (298, o298_4) :: (299, o299_4) :: r
noncomputable def f_8 (P : Params) (r : List (Nat × Obj)) : List (Nat × Obj) := (300, o300_4) :: (302, o302_4) :: (303, o303_4) :: (305, o305_4) :: (306, o306_4) :: (307, o307_4) :: (309, o309_4) :: (310, o310_4) :: (312, o312_4) :: (313, o313_4) :: (314, o314_4) :: (317, o317_4) :: (318, o318_4) :: (319, o319_4) :: (321, o321_4) :: (322, o322_4) :: (324, o324_4) :: (325, o325_4) :: (326, o326_4) :: (328, o328_4) :: (329, o329_4) :: (331, o331_4) :: (332, o332_4) :: (333, o333_4) :: r
noncomputable def f_9 (P : Params) (r : List (Nat × Obj)) : List (Nat × Obj) := (335, o335_4) :: (336, o336_4) :: (338, o338_4) :: (339, o339_4) :: (340, o340_4) :: (342, o342_4) :: (343, o343_4) :: (345, o345_4) :: (346, o346_4) :: (347, o347_4) :: (349, o349_4) :: (350, o350_4) :: (352, o352_4) :: (353, o353_4) :: r
noncomputable def K2 (P : Params) : Frag := f_0 P (f_1 P (f_2 P (f_3 P (f_4 P (f_5 P (f_6 P (f_7 P (f_8 P (f_9 P ([]))))))))))
noncomputable def as : List Addr := nat_lit 2 :: nat_lit 3 :: nat_lit 15 :: nat_lit 17 :: nat_lit 18 :: nat_lit 20 :: nat_lit 21 :: nat_lit 22 :: nat_lit 24 :: nat_lit 25 :: nat_lit 27 :: nat_lit 28 :: nat_lit 29 :: nat_lit 31 :: nat_lit 32 :: nat_lit 34 :: nat_lit 35 :: nat_lit 36 :: nat_lit 38 :: nat_lit 39 :: nat_lit 41 :: nat_lit 42 :: nat_lit 43 :: nat_lit 45 :: nat_lit 46 :: nat_lit 48 :: nat_lit 49 :: nat_lit 50 :: nat_lit 52 :: nat_lit 53 :: nat_lit 55 :: nat_lit 56 :: nat_lit 57 :: nat_lit 58 :: nat_lit 60 :: nat_lit 61 :: nat_lit 63 :: nat_lit 64 :: nat_lit 65 :: nat_lit 67 :: nat_lit 68 :: nat_lit 70 :: nat_lit 71 :: nat_lit 72 :: nat_lit 74 :: nat_lit 75 :: nat_lit 77 :: nat_lit 78 :: nat_lit 79 :: nat_lit 81 :: nat_lit 82 :: nat_lit 84 :: nat_lit 85 :: nat_lit 86 :: nat_lit 88 :: nat_lit 89 :: nat_lit 91 :: nat_lit 92 :: nat_lit 93 :: nat_lit 95 :: nat_lit 96 :: nat_lit 98 :: nat_lit 99 :: nat_lit 100 :: nat_lit 102 :: nat_lit 103 :: nat_lit 105 :: nat_lit 106 :: nat_lit 107 :: nat_lit 109 :: nat_lit 110 :: nat_lit 112 :: nat_lit 113 :: nat_lit 114 :: nat_lit 116 :: nat_lit 117 :: nat_lit 119 :: nat_lit 120 :: nat_lit 121 :: nat_lit 123 :: nat_lit 124 :: nat_lit 126 :: nat_lit 127 :: nat_lit 128 :: nat_lit 135 :: nat_lit 136 :: nat_lit 137 :: nat_lit 138 :: nat_lit 141 :: nat_lit 148 :: nat_lit 150 :: nat_lit 151 :: nat_lit 153 :: nat_lit 154 :: nat_lit 155 :: nat_lit 156 :: nat_lit 157 :: nat_lit 167 :: nat_lit 169 :: nat_lit 170 :: nat_lit 172 :: nat_lit 173 :: nat_lit 174 :: nat_lit 176 :: nat_lit 177 :: nat_lit 179 :: nat_lit 180 :: nat_lit 181 :: nat_lit 183 :: nat_lit 184 :: nat_lit 186 :: nat_lit 187 :: nat_lit 188 :: nat_lit 190 :: nat_lit 191 :: nat_lit 193 :: nat_lit 194 :: nat_lit 195 :: nat_lit 197 :: nat_lit 198 :: nat_lit 200 :: nat_lit 201 :: nat_lit 202 :: nat_lit 204 :: nat_lit 205 :: nat_lit 207 :: nat_lit 208 :: nat_lit 209 :: nat_lit 211 :: nat_lit 212 :: nat_lit 214 :: nat_lit 215 :: nat_lit 216 :: nat_lit 218 :: nat_lit 219 :: nat_lit 221 :: nat_lit 222 :: nat_lit 223 :: nat_lit 225 :: nat_lit 226 :: nat_lit 228 :: nat_lit 229 :: nat_lit 230 :: nat_lit 232 :: nat_lit 233 :: nat_lit 235 :: nat_lit 236 :: nat_lit 237 :: nat_lit 238 :: nat_lit 239 :: nat_lit 240 :: nat_lit 241 :: nat_lit 244 :: nat_lit 246 :: nat_lit 247 :: nat_lit 249 :: nat_lit 250 :: nat_lit 251 :: nat_lit 253 :: nat_lit 254 :: nat_lit 256 :: nat_lit 257 :: nat_lit 258 :: nat_lit 260 :: nat_lit 261 :: nat_lit 263 :: nat_lit 264 :: nat_lit 265 :: nat_lit 267 :: nat_lit 268 :: nat_lit 270 :: nat_lit 271 :: nat_lit 272 :: nat_lit 274 :: nat_lit 275 :: nat_lit 277 :: nat_lit 278 :: nat_lit 279 :: nat_lit 281 :: nat_lit 282 :: nat_lit 284 :: nat_lit 285 :: nat_lit 286 :: nat_lit 288 :: nat_lit 289 :: nat_lit 291 :: nat_lit 292 :: nat_lit 293 :: nat_lit 295 :: nat_lit 296 :: nat_lit 298 :: nat_lit 299 :: nat_lit 300 :: nat_lit 302 :: nat_lit 303 :: nat_lit 305 :: nat_lit 306 :: nat_lit 307 :: nat_lit 309 :: nat_lit 310 :: nat_lit 312 :: nat_lit 313 :: nat_lit 314 :: nat_lit 317 :: nat_lit 318 :: nat_lit 319 :: nat_lit 321 :: nat_lit 322 :: nat_lit 324 :: nat_lit 325 :: nat_lit 326 :: nat_lit 328 :: nat_lit 329 :: nat_lit 331 :: nat_lit 332 :: nat_lit 333 :: nat_lit 335 :: nat_lit 336 :: nat_lit 338 :: nat_lit 339 :: nat_lit 340 :: nat_lit 342 :: nat_lit 343 :: nat_lit 345 :: nat_lit 346 :: nat_lit 347 :: nat_lit 349 :: nat_lit 350 :: nat_lit 352 :: nat_lit 353 :: []
noncomputable def H : Hook := kHook K as (fun _ => by kernel_rfl)
noncomputable abbrev R : WRecords := RowW.records (OpenRow.toRowW (OpenLaw.row PySem.Challenge.rw_joinload_k54_whole_runs_by_a_plain_model))
noncomputable abbrev Xt (s : Shared) : Bool := xlAt q [] s && recOk R s
noncomputable def Size (w : World) : Prop := ((boot_heap w.params).isNs mainGlobals && (⟨[]⟩ : Array GenState).size == 0, (boot_heap w.params).objs.size, (boot_heap w.params).nsMap mainGlobals "__annotations__") = (true, 11, an)
noncomputable def LA (w : World) : Prop := (fun os => staticsOk (importedModules pw.main.body) (boot_heap w.params) (Hf w.params) && namesBound pw (Hf w.params) && gensDone (Sf w os) && laidKept (boot_heap w.params) (Hf w.params)) = fun _ => true
noncomputable def Ls1 (w : World) : Prop := (fun os => seen ((recsOf q).map (·.name)) (ownsOf q) [] { Sf w os with gens := #[] }) = fun _ => expectedOf q
noncomputable def Ls2 (w : World) : Prop := (fun os => (Sf w os).heap.bltView) = fun _ => bltViewBooted
noncomputable def Ls3 (w : World) : Prop := (fun os => (Sf w os).heap.keysOk (looseW q []) ((recsOf q).map (·.name)) ((litsOf q).map (·.1)) ((clssOf q (looseW q [])).map (·.name)) && (Sf w os).heap.accountedOkI (importedModules pw.main.body) && (Sf w os).heap.isNs mainGlobals && (Sf w os).heap.isNs builtinsNs && tablesOk q (Sf w os).heap && Xt (Sf w os) && (if true then (Sf w os).gens.size == 0 else !leftWithCleanup (Sf w os).gens)) = fun _ => true
noncomputable def Ls4 (w : World) : Prop := (fun os => tabsOk q (Sf w os)) = fun _ => true
noncomputable def Ls5 (w : World) : Prop := (fun os => pinSeenD q (drecsOf q) (Sf w os)) = fun _ => pinGoodD (drecsOf q)
noncomputable def Ls6 (w : World) : Prop := (fun os => plainSeenE q (looseW q []) (Sf w os)) = fun _ => plainGoodE q (looseW q [])
noncomputable def Ls7 (w : World) : Prop := (fun os => plainSeenD q [] (Sf w os)) = fun _ => plainGoodD q []
noncomputable def Ls8 (w : World) : Prop := (fun os => wideSeen q (Sf w os)) = fun _ => wideGood q
noncomputable def Ls9 (w : World) : Prop := (fun os => clsSeenW q [] (Sf w os)) = fun _ => clsGoodW q []
noncomputable def Yk (w : World) : Prop := (fun os => as.map (Sf w os).heap.get?) = fun _ => (K2 w.params).map fun p => some p.2
theorem K_is : K = K2 := by kernel_rfl
theorem Pre_r : Pre = Pre := rfl
theorem Blk_r : Blk = Blk := rfl
theorem P0_r : P0 = P0 := rfl
theorem P1_r : P1 = P1 := rfl
theorem P2_r : P2 = P2 := rfl
theorem Fin_r : Fin = Fin := rfl
theorem Size_r : Size = Size := rfl
theorem LA_r : LA = LA := rfl
theorem Ls1_r : Ls1 = Ls1 := rfl
theorem Ls2_r : Ls2 = Ls2 := rfl
theorem Ls3_r : Ls3 = Ls3 := rfl
theorem Ls4_r : Ls4 = Ls4 := rfl
theorem Ls5_r : Ls5 = Ls5 := rfl
theorem Ls6_r : Ls6 = Ls6 := rfl
theorem Ls7_r : Ls7 = Ls7 := rfl
theorem Ls8_r : Ls8 = Ls8 := rfl
theorem Ls9_r : Ls9 = Ls9 := rfl
theorem Yk_r : Yk = Yk := rfl
end Hd
name_quick hdPre for Hd.Pre by Hd.Pre_r
name_quick hdBlk for Hd.Blk by Hd.Blk_r
name_quick hdP0 for Hd.P0 by Hd.P0_r
name_quick hdP1 for Hd.P1 by Hd.P1_r
name_quick hdP2 for Hd.P2 by Hd.P2_r
name_quick hdFin for Hd.Fin by Hd.Fin_r
name_quick hdSize for Hd.Size by Hd.Size_r
name_quick hdLA for Hd.LA by Hd.LA_r
name_quick hdLs1 for Hd.Ls1 by Hd.Ls1_r
name_quick hdLs2 for Hd.Ls2 by Hd.Ls2_r
name_quick hdLs3 for Hd.Ls3 by Hd.Ls3_r
name_quick hdLs4 for Hd.Ls4 by Hd.Ls4_r
name_quick hdLs5 for Hd.Ls5 by Hd.Ls5_r
name_quick hdLs6 for Hd.Ls6 by Hd.Ls6_r
name_quick hdLs7 for Hd.Ls7 by Hd.Ls7_r
name_quick hdLs8 for Hd.Ls8 by Hd.Ls8_r
name_quick hdLs9 for Hd.Ls9 by Hd.Ls9_r
name_quick hdYk for Hd.Yk by Hd.Yk_r
namespace Hd
open PySem PySem.W PySem.Calls PyProof.Rows
theorem Pre_h (w : World) : Pre w := by
  rw [show Pre w = PySem.W.Fast.hdPre w from congrFun PySem.W.Fast.hdPre_eq w]
  delta PySem.W.Fast.hdPre PySem.W.Fast.tw7651035101826984186
  kernel_rfl
theorem Blk_h (w : World) : Blk w := by
  rw [show Blk w = PySem.W.Fast.hdBlk w from congrFun PySem.W.Fast.hdBlk_eq w]
  delta PySem.W.Fast.hdBlk PySem.W.Fast.tw10272554187927912860
  kernel_rfl
theorem P0_h (w : World) : P0 w := by
  rw [show P0 w = PySem.W.Fast.hdP0 w from congrFun PySem.W.Fast.hdP0_eq w]
  delta PySem.W.Fast.hdP0 PySem.W.Fast.tw2223480372460268926 PySem.W.Fast.tw16301345103801407739
  kernel_rfl
theorem P1_h (w : World) : P1 w := by
  rw [show P1 w = PySem.W.Fast.hdP1 w from congrFun PySem.W.Fast.hdP1_eq w]
  delta PySem.W.Fast.hdP1 PySem.W.Fast.tw14855786421978465553 PySem.W.Fast.tw16301345103801407739
  kernel_rfl
theorem P2_h (w : World) : P2 w := by
  rw [show P2 w = PySem.W.Fast.hdP2 w from congrFun PySem.W.Fast.hdP2_eq w]
  delta PySem.W.Fast.hdP2 PySem.W.Fast.tw6117723192894798286 PySem.W.Fast.tw16301345103801407739
  kernel_rfl
theorem Fin_h (w : World) : Fin w := by
  rw [show Fin w = PySem.W.Fast.hdFin w from congrFun PySem.W.Fast.hdFin_eq w]
  delta PySem.W.Fast.hdFin PySem.W.Fast.tw4976735305809376593
  kernel_rfl
theorem Size_h (w : World) : Size w := by
  rw [show Size w = PySem.W.Fast.hdSize w from congrFun PySem.W.Fast.hdSize_eq w]
  delta PySem.W.Fast.hdSize PySem.W.Fast.tw14461627914784175761
  kernel_rfl
theorem LA_h (w : World) : LA w := by
  rw [show LA w = PySem.W.Fast.hdLA w from congrFun PySem.W.Fast.hdLA_eq w]
  delta PySem.W.Fast.hdLA PySem.W.Fast.tw11134583137455730433
  kernel_rfl
theorem Ls1_h (w : World) : Ls1 w := by
  rw [show Ls1 w = PySem.W.Fast.hdLs1 w from congrFun PySem.W.Fast.hdLs1_eq w]
  delta PySem.W.Fast.hdLs1 PySem.W.Fast.tw14098396552713008135
  kernel_rfl
theorem Ls2_h (w : World) : Ls2 w := by
  rw [show Ls2 w = PySem.W.Fast.hdLs2 w from congrFun PySem.W.Fast.hdLs2_eq w]
  delta PySem.W.Fast.hdLs2 PySem.W.Fast.tw6547580189001637342
  kernel_rfl
theorem Ls3_h (w : World) : Ls3 w := by
  rw [show Ls3 w = PySem.W.Fast.hdLs3 w from congrFun PySem.W.Fast.hdLs3_eq w]
  delta PySem.W.Fast.hdLs3 PySem.W.Fast.tw10934468223134025866
  kernel_rfl
theorem Ls4_h (w : World) : Ls4 w := by
  rw [show Ls4 w = PySem.W.Fast.hdLs4 w from congrFun PySem.W.Fast.hdLs4_eq w]
  delta PySem.W.Fast.hdLs4 PySem.W.Fast.tw13894289833044730176
  kernel_rfl
theorem Ls5_h (w : World) : Ls5 w := by
  rw [show Ls5 w = PySem.W.Fast.hdLs5 w from congrFun PySem.W.Fast.hdLs5_eq w]
  delta PySem.W.Fast.hdLs5 PySem.W.Fast.tw11162159950934395656
  kernel_rfl
theorem Ls6_h (w : World) : Ls6 w := by
  rw [show Ls6 w = PySem.W.Fast.hdLs6 w from congrFun PySem.W.Fast.hdLs6_eq w]
  delta PySem.W.Fast.hdLs6 PySem.W.Fast.tw9014929701734557122
  kernel_rfl
theorem Ls7_h (w : World) : Ls7 w := by
  rw [show Ls7 w = PySem.W.Fast.hdLs7 w from congrFun PySem.W.Fast.hdLs7_eq w]
  delta PySem.W.Fast.hdLs7 PySem.W.Fast.tw16695146034332369646
  kernel_rfl
theorem Ls8_h (w : World) : Ls8 w := by
  rw [show Ls8 w = PySem.W.Fast.hdLs8 w from congrFun PySem.W.Fast.hdLs8_eq w]
  delta PySem.W.Fast.hdLs8 PySem.W.Fast.tw13045354483572663336
  kernel_rfl
theorem Ls9_h (w : World) : Ls9 w := by
  rw [show Ls9 w = PySem.W.Fast.hdLs9 w from congrFun PySem.W.Fast.hdLs9_eq w]
  delta PySem.W.Fast.hdLs9 PySem.W.Fast.tw9459536174771691377
  kernel_rfl
theorem Yk_h (w : World) : Yk w := by
  rw [show Yk w = PySem.W.Fast.hdYk w from congrFun PySem.W.Fast.hdYk_eq w]
  delta PySem.W.Fast.hdYk PySem.W.Fast.tw3491827284470035837
  kernel_rfl
noncomputable def R2 : List Stmt := L2 ++ []
noncomputable def R1 : List Stmt := L1 ++ R2
noncomputable def R0 : List Stmt := L0 ++ R1
theorem bd_is : bd = R0 := by kernel_rfl
theorem rest_h (w : World) (os : OsState) : topRun treeTable pw w 11 an (731 + (880 + (426 + 2))) (S0T w os).abs (restOf R0 en cE ⟨0, 0, 0, 0⟩ B) = some (Sf w os) :=
  (piece_app (l := L0) (segRun_of (congrFun (P0_h w) os)) (piece_app (l := L1) (segRun_of (congrFun (P1_h w) os)) (piece_app (l := L2) (segRun_of (congrFun (P2_h w) os)) (congrFun (Fin_h w) os))))
theorem run_h (w : World) (os : OsState) : topRun treeTable pw w 11 an (12 + (1 + (731 + (880 + (426 + 2))))) (S0 w os) (topStub pw) = some (Sf w os) :=
  go_top (congrFun (Pre_h w) os) (piece_block (congrFun (Blk_h w) os) (by
    rw [show restOf bd en cE ⟨0, 0, 0, 0⟩ B = restOf R0 en cE ⟨0, 0, 0, 0⟩ B from congrArg (fun l => restOf l en cE ⟨0, 0, 0, 0⟩ B) bd_is]
    exact rest_h w os))
theorem Yk_k (w : World) (os : OsState) : Hook.obs H (Sf w os) = Hook.val H w := by
  show as.map (Sf w os).heap.get? = (K w.params).map fun p => some p.2
  rw [K_is]; exact congrFun (Yk_h w) os
theorem left_h : LeftO pw q [] Xt (Hook.obs H) (Hook.val H) 4194 :=
  LeftO.of_pieces (H₀ := boot_heap) (H₁ := Hf) (m₀ := 11) (ann := an) (boot_open rfl rfl (fun _ => rfl)) Size_h run_h (by decide +kernel) fun w => funext fun os =>
    looks_pair (congrFun (LA_h w) os) (looks_pair
      (show openSeen q [] (importedModules pw.main.body) Xt true (Sf w os) = openGood q [] from
        looks_pair (congrFun (Ls1_h w) os) (looks_pair (congrFun (Ls2_h w) os) (looks_pair (congrFun (Ls3_h w) os) (looks_pair (congrFun (Ls4_h w) os) (looks_pair (congrFun (Ls5_h w) os) (looks_pair (congrFun (Ls6_h w) os) (looks_pair (congrFun (Ls7_h w) os) (looks_pair (congrFun (Ls8_h w) os) (congrFun (Ls9_h w) os)))))))))
      (Yk_k w os))
end Hd
open PySem PySem.W PyProof.Rows
set_option maxRecDepth 100000 in
set_option maxHeartbeats 0 in
theorem PySem.Challenge.cw_joinload_k54_whole_runs_by_a_plain_model_holds : PySem.Challenge.rw_joinload_k54_whole_runs_by_a_plain_model.Holds := by
  w_on; o_law
  refine holds_open (q := Hd.q) (loose := []) (Xt := Hd.Xt) (XP := XL Hd.q []) (Yf := Hook.obs Hd.H) (Ya := Hook.val Hd.H) (YP := InK Hd.K) Hd.left_h (Hook.of Hd.H) (Hook.keeps Hd.H) (fun s e => xl_of s (Bool.and_eq_true_iff.mp e).1) XL.keeps (by rfl) (by rfl) (by rfl) (fun s e => recFacts_of (Bool.and_eq_true_iff.mp e).2) (by rfl) (by first | assumption | decide +kernel) (by decide +kernel) ⟨rfl, rfl, rfl, rfl, rfl, by decide +kernel⟩ ?hw ?hc
  (case hw => w_witness2)
  k_fill
  refine My.walk (l := PySem.Challenge.rw_joinload_k54_whole_runs_by_a_plain_model) (K := Hd.K) rfl rfl (fun w h Y => Y) ?F
  case F =>
    intro w mg fa h KX G hmg
    refine' My.all_mk KX G hmg ?ac_JoinError ?ac_Lost ?ac_Machine ?a_wrapped ?l_wrapped ?e_wrapped ?k_wrapped ?a_field ?l_field ?e_field ?k_field ?a_signed ?l_signed ?e_signed ?k_signed ?a_turned ?l_turned ?e_turned ?k_turned ?a_ones ?l_ones ?e_ones ?k_ones ?a_moved ?l_moved ?e_moved ?k_moved ?a_deed_of ?l_deed_of ?e_deed_of ?k_deed_of ?a_op_of ?l_op_of ?e_op_of ?k_op_of ?a_a_of ?l_a_of ?e_a_of ?k_a_of ?a_b_of ?l_b_of ?e_b_of ?k_b_of ?a_c_of ?l_c_of ?e_c_of ?k_c_of ?a_n_of ?l_n_of ?e_n_of ?k_n_of ?a_s_of ?l_s_of ?e_s_of ?k_s_of ?a_near_of ?l_near_of ?e_near_of ?k_near_of ?a_split_of ?l_split_of ?e_split_of ?k_split_of ?a_of_two_words ?l_of_two_words ?e_of_two_words ?k_of_two_words ?a_Lost___init__ ?i_Lost___init__ ?l_Lost___init__ ?e_Lost___init__ ?k_Lost___init__ ?a_Machine___init__ ?i_Machine___init__ ?l_Machine___init__ ?e_Machine___init__ ?k_Machine___init__ ?a_Machine_go_on ?i_Machine_go_on ?l_Machine_go_on ?e_Machine_go_on ?k_Machine_go_on ?a_Machine_state ?i_Machine_state ?l_Machine_state ?e_Machine_state ?k_Machine_state ?a_Machine_word_at ?i_Machine_word_at ?l_Machine_word_at ?e_Machine_word_at ?k_Machine_word_at ?a_Machine_found ?i_Machine_found ?l_Machine_found ?e_Machine_found ?k_Machine_found ?a_Machine_do ?i_Machine_do ?l_Machine_do ?e_Machine_do ?k_Machine_do ?a_Machine_sought ?i_Machine_sought ?l_Machine_sought ?e_Machine_sought ?k_Machine_sought ?a_Machine_store ?i_Machine_store ?l_Machine_store ?e_Machine_store ?k_Machine_store ?a_Machine_goes ?i_Machine_goes ?l_Machine_goes ?e_Machine_goes ?k_Machine_goes ?a_Machine_result ?i_Machine_result ?l_Machine_result ?e_Machine_result ?k_Machine_result ?a__law_whole ?l__law_whole ?e__law_whole ?k__law_whole ?a__law_cell_at ?l__law_cell_at ?e__law_cell_at ?k__law_cell_at ?a__law_word_by ?l__law_word_by ?e__law_word_by ?k__law_word_by ?a__law_split ?l__law_split ?e__law_split ?k__law_split ?a__law_near ?l__law_near ?e__law_near ?k__law_near ?a__law_small ?l__law_small ?e__law_small ?k__law_small ?a__law_lacks ?l__law_lacks ?e__law_lacks ?k__law_lacks ?a__law_made ?l__law_made ?e__law_made ?k__law_made ?a__law_onward ?l__law_onward ?e__law_onward ?k__law_onward ?a__law_done ?l__law_done ?e__law_done ?k__law_done ?a__law_state ?l__law_state ?e__law_state ?k__law_state ?a__law_lost_at ?l__law_lost_at ?e__law_lost_at ?k__law_lost_at ?a__law_stays ?l__law_stays ?e__law_stays ?k__law_stays ?a__law_runs ?l__law_runs ?e__law_runs ?k__law_runs ?a__law_held ?l__law_held ?e__law_held ?k__law_held ?a_law ?l_law ?e_law ?k_law ?pg_Machine ?hd_Machine ?po_Machine ?sa_Machine ?mm_Machine ?kc_Machine ?hd_L ?ml ?xg_Lost ?xn_Lost ?xl_Lost ?xo_Lost ?xb_Lost ?sp_cl ?tk_cl ?ei_Lost ?ee_Lost ?es_Lost ?br_JoinError ?bf_JoinError ?bg_JoinError ?ct_Lost ?cb_Lost ?no_Machine_memory ?no_Machine_place ?no_Machine_registers ?no_Machine_numbers ?no_Machine_ended ?no_Lost_place ?g_DEEDS ?l_DEEDS ?g_WORD_BITS ?g_WORD_COUNT ?n_bool ?n_dict ?n_int ?n_isinstance ?n_len ?n_list ?n_max ?n_range ?n_tuple
    (case ac_JoinError => k_is)
    (case ac_Lost => k_is)
    (case ac_Machine => k_is)
    (case a_wrapped => k_is)
    (case l_wrapped => k_is)
    (case e_wrapped => k_is)
    (case k_wrapped => k_is)
    (case a_field => k_is)
    (case l_field => k_is)
    (case e_field => k_is)
    (case k_field => k_is)
    (case a_signed => k_is)
    (case l_signed => k_is)
    (case e_signed => k_is)
    (case k_signed => k_is)
    (case a_turned => k_is)
    (case l_turned => k_is)
    (case e_turned => k_is)
    (case k_turned => k_is)
    (case a_ones => k_is)
    (case l_ones => k_is)
    (case e_ones => k_is)
    (case k_ones => k_is)
    (case a_moved => k_is)
    (case l_moved => k_is)
    (case e_moved => k_is)
    (case k_moved => k_is)
    (case a_deed_of => k_is)
    (case l_deed_of => k_is)
    (case e_deed_of => k_is)
    (case k_deed_of => k_is)
    (case a_op_of => k_is)
    (case l_op_of => k_is)
    (case e_op_of => k_is)
    (case k_op_of => k_is)
    (case a_a_of => k_is)
    (case l_a_of => k_is)
    (case e_a_of => k_is)
    (case k_a_of => k_is)
    (case a_b_of => k_is)
    (case l_b_of => k_is)
    (case e_b_of => k_is)
    (case k_b_of => k_is)
    (case a_c_of => k_is)
    (case l_c_of => k_is)
    (case e_c_of => k_is)
    (case k_c_of => k_is)
    (case a_n_of => k_is)
    (case l_n_of => k_is)
    (case e_n_of => k_is)
    (case k_n_of => k_is)
    (case a_s_of => k_is)
    (case l_s_of => k_is)
    (case e_s_of => k_is)
    (case k_s_of => k_is)
    (case a_near_of => k_is)
    (case l_near_of => k_is)
    (case e_near_of => k_is)
    (case k_near_of => k_is)
    (case a_split_of => k_is)
    (case l_split_of => k_is)
    (case e_split_of => k_is)
    (case k_split_of => k_is)
    (case a_of_two_words => k_is)
    (case l_of_two_words => k_is)
    (case e_of_two_words => k_is)
    (case k_of_two_words => k_is)
    (case a_Lost___init__ => k_is)
    (case i_Lost___init__ => k_is)
    (case l_Lost___init__ => k_is)
    (case e_Lost___init__ => k_is)
    (case k_Lost___init__ => k_is)
    (case a_Machine___init__ => k_is)
    (case i_Machine___init__ => k_is)
    (case l_Machine___init__ => k_is)
    (case e_Machine___init__ => k_is)
    (case k_Machine___init__ => k_is)
    (case a_Machine_go_on => k_is)
    (case i_Machine_go_on => k_is)
    (case l_Machine_go_on => k_is)
    (case e_Machine_go_on => k_is)
    (case k_Machine_go_on => k_is)
    (case a_Machine_state => k_is)
    (case i_Machine_state => k_is)
    (case l_Machine_state => k_is)
    (case e_Machine_state => k_is)
    (case k_Machine_state => k_is)
    (case a_Machine_word_at => k_is)
    (case i_Machine_word_at => k_is)
    (case l_Machine_word_at => k_is)
    (case e_Machine_word_at => k_is)
    (case k_Machine_word_at => k_is)
    (case a_Machine_found => k_is)
    (case i_Machine_found => k_is)
    (case l_Machine_found => k_is)
    (case e_Machine_found => k_is)
    (case k_Machine_found => k_is)
    (case a_Machine_do => k_is)
    (case i_Machine_do => k_is)
    (case l_Machine_do => k_is)
    (case e_Machine_do => k_is)
    (case k_Machine_do => k_is)
    (case a_Machine_sought => k_is)
    (case i_Machine_sought => k_is)
    (case l_Machine_sought => k_is)
    (case e_Machine_sought => k_is)
    (case k_Machine_sought => k_is)
    (case a_Machine_store => k_is)
    (case i_Machine_store => k_is)
    (case l_Machine_store => k_is)
    (case e_Machine_store => k_is)
    (case k_Machine_store => k_is)
    (case a_Machine_goes => k_is)
    (case i_Machine_goes => k_is)
    (case l_Machine_goes => k_is)
    (case e_Machine_goes => k_is)
    (case k_Machine_goes => k_is)
    (case a_Machine_result => k_is)
    (case i_Machine_result => k_is)
    (case l_Machine_result => k_is)
    (case e_Machine_result => k_is)
    (case k_Machine_result => k_is)
    (case a__law_whole => k_is)
    (case l__law_whole => k_is)
    (case e__law_whole => k_is)
    (case k__law_whole => k_is)
    (case a__law_cell_at => k_is)
    (case l__law_cell_at => k_is)
    (case e__law_cell_at => k_is)
    (case k__law_cell_at => k_is)
    (case a__law_word_by => k_is)
    (case l__law_word_by => k_is)
    (case e__law_word_by => k_is)
    (case k__law_word_by => k_is)
    (case a__law_split => k_is)
    (case l__law_split => k_is)
    (case e__law_split => k_is)
    (case k__law_split => k_is)
    (case a__law_near => k_is)
    (case l__law_near => k_is)
    (case e__law_near => k_is)
    (case k__law_near => k_is)
    (case a__law_small => k_is)
    (case l__law_small => k_is)
    (case e__law_small => k_is)
    (case k__law_small => k_is)
    (case a__law_lacks => k_is)
    (case l__law_lacks => k_is)
    (case e__law_lacks => k_is)
    (case k__law_lacks => k_is)
    (case a__law_made => k_is)
    (case l__law_made => k_is)
    (case e__law_made => k_is)
    (case k__law_made => k_is)
    (case a__law_onward => k_is)
    (case l__law_onward => k_is)
    (case e__law_onward => k_is)
    (case k__law_onward => k_is)
    (case a__law_done => k_is)
    (case l__law_done => k_is)
    (case e__law_done => k_is)
    (case k__law_done => k_is)
    (case a__law_state => k_is)
    (case l__law_state => k_is)
    (case e__law_state => k_is)
    (case k__law_state => k_is)
    (case a__law_lost_at => k_is)
    (case l__law_lost_at => k_is)
    (case e__law_lost_at => k_is)
    (case k__law_lost_at => k_is)
    (case a__law_stays => k_is)
    (case l__law_stays => k_is)
    (case e__law_stays => k_is)
    (case k__law_stays => k_is)
    (case a__law_runs => k_is)
    (case l__law_runs => k_is)
    (case e__law_runs => k_is)
    (case k__law_runs => k_is)
    (case a__law_held => k_is)
    (case l__law_held => k_is)
    (case e__law_held => k_is)
    (case k__law_held => k_is)
    (case a_law => k_is)
    (case l_law => k_is)
    (case e_law => k_is)
    (case k_law => k_is)
    (case pg_Machine => k_is)
    (case hd_Machine => k_is)
    (case po_Machine => k_is)
    (case sa_Machine => k_is)
    (case mm_Machine => k_is)
    (case kc_Machine => k_is)
    (case hd_L => k_is)
    (case ml => k_is)
    (case xg_Lost => k_is)
    (case xn_Lost => k_is)
    (case xl_Lost => k_is)
    (case xo_Lost => k_is)
    (case xb_Lost => k_is)
    (case sp_cl => k_is)
    (case tk_cl => k_is)
    (case ei_Lost => kernel_rfl)
    (case ee_Lost => kernel_rfl)
    (case es_Lost => k_is)
    (case br_JoinError => kernel_rfl)
    (case bf_JoinError => kernel_rfl)
    (case bg_JoinError => k_is)
    (case ct_Lost => k_is)
    (case cb_Lost => k_is)
    (case no_Machine_memory => k_is)
    (case no_Machine_place => k_is)
    (case no_Machine_registers => k_is)
    (case no_Machine_numbers => k_is)
    (case no_Machine_ended => k_is)
    (case no_Lost_place => k_is)
    (case g_DEEDS => k_is)
    (case l_DEEDS => k_is)
    (case g_WORD_BITS => k_is)
    (case g_WORD_COUNT => k_is)
    (case n_bool => k_is)
    (case n_dict => k_is)
    (case n_int => k_is)
    (case n_isinstance => k_is)
    (case n_len => k_is)
    (case n_list => k_is)
    (case n_max => k_is)
    (case n_range => k_is)
    (case n_tuple => k_is)
#print axioms PySem.Challenge.cw_joinload_k54_whole_runs_by_a_plain_model_holds
