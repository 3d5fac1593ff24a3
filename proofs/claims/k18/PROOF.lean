import PyProof.Rows.All
import Wide.All
import OpenK.AllK
import Wide.FinOn
import Lean
import PyProof.EqAt
import PyProof.EqKinds
import PyProof.TupleCall
import PyProof.StationsW
import PyProof.ExcAttrAll.ValueError
import KE.KIsAll
import PyProof.RulesAs
import PyProof.NsDelKeeps
import PyProof.FString
import PyProof.FString4
import PyProof.Rows.FStr
import PyProof.Rows.FStrParts
import PyProof.StrCalls2
import PyProof.StrLawsRepr
import PyProof.StrLawsJoin
import PyProof.StrLaws
import PyProof.Rows.ReprOcc
import PyProof.ExcInit
import PyProof.InstStoreFacts
import KE.KDictOf
import PySem.Challenge.RW_joinload_k18_what_a_fill_aims_at
set_option Elab.async false
set_option linter.all false
set_option maxRecDepth 100000
set_option genSizeOfSpec false
/-! THE HAND LAYER, for ints, bools, texts, own classes, LISTS and tuples (index, slices, in, append, pop ..), calls, loops. Paste it whole ahead of your own text; what your proof does not reach may be deleted. -/
namespace L2
open PySem PySem.Spec PyProof.Rows

noncomputable abbrev Key := Sum Int Str
noncomputable def keyIs : Key → Value → Bool
  | .inl k, v => Value.isInt k v
  | .inr x, v => Value.isStrOf x v
noncomputable def keyH (w : World) : Key → Int
  | .inl k => hashInt k
  | .inr x => hashStr w x
theorem keyIs_shape : ∀ {k : Key} {v : Value}, keyIs k v = true → (∃ i t, k = Sum.inl i ∧ v = Value.int i t) ∨ (∃ x t, k = Sum.inr x ∧ v = Value.str x t)
  | .inl i, v, h => by
    obtain ⟨t, e⟩ := Value.isInt_shape (k := i) (v := v) h
    exact .inl ⟨i, t, rfl, e⟩
  | .inr x, v, h => by
    obtain ⟨t, e⟩ := Value.isStrOf_shape (x := x) (v := v) h
    exact .inr ⟨x, t, rfl, e⟩
theorem keyIs_int (i : Int) (t : Tok) : keyIs (.inl i) (.int i t) = true := by simp [keyIs, Value.isInt]
theorem keyIs_str (x : Str) (t : Tok) : keyIs (.inr x) (.str x t) = true := by simp [keyIs, Value.isStrOf]
theorem key_ll (a b : Int) : decide ((Sum.inl a : Key) = Sum.inl b) = (a == b) := by
  by_cases e : a = b
  · subst e; simp
  · have h : ¬ (Sum.inl a : Key) = Sum.inl b := fun q => e (Sum.inl.inj q)
    rw [decide_eq_false h]
    exact (beq_eq_false_iff_ne.mpr e).symm
theorem key_rr (a b : Str) : decide ((Sum.inr a : Key) = Sum.inr b) = decide (a = b) := by
  by_cases e : a = b
  · subst e; simp
  · have h : ¬ (Sum.inr a : Key) = Sum.inr b := fun q => e (Sum.inr.inj q)
    rw [decide_eq_false h, decide_eq_false e]
theorem key_lr (a : Int) (b : Str) : decide ((Sum.inl a : Key) = Sum.inr b) = false := decide_eq_false (fun q => nomatch q)
theorem key_rl (a : Str) (b : Int) : decide ((Sum.inr a : Key) = Sum.inl b) = false := decide_eq_false (fun q => nomatch q)

noncomputable def mixKind (prog : Program) (w : World) : PySem.KeyKind prog w Key where
  is := keyIs
  hash := keyH w
  inj := fun v a b ha hb => by
    rcases keyIs_shape ha with ⟨i, t, rfl, rfl⟩ | ⟨x, t, rfl, rfl⟩
    · rcases keyIs_shape hb with ⟨j, u, rfl, e⟩ | ⟨y, u, rfl, e⟩
      · injection e with e1 _; rw [e1]
      · exact nomatch e
    · rcases keyIs_shape hb with ⟨j, u, rfl, e⟩ | ⟨y, u, rfl, e⟩
      · exact nomatch e
      · injection e with e1 _; rw [e1]
  byValue := fun k v h => by
    rcases keyIs_shape h with ⟨i, t, rfl, rfl⟩ | ⟨x, t, rfl, rfl⟩ <;> rfl
  pyHash := fun hv h => by
    rcases keyIs_shape hv with ⟨i, t, rfl, rfl⟩ | ⟨x, t, rfl, rfl⟩
    · exact wpAny_pyHash_int h
    · exact wpAny_pyHash_str h
  eqBool := fun hu hv h => by
    rcases keyIs_shape hu with ⟨i, t, rfl, rfl⟩ | ⟨x, t, rfl, rfl⟩
    · rcases keyIs_shape hv with ⟨j, u, rfl, rfl⟩ | ⟨y, u, rfl, rfl⟩
      · rw [key_ll] at h; exact wpAny_eqBool_int h
      · rw [key_lr] at h; exact SeqAt.EqAt.int_str i t y u _ _ _ _ h
    · rcases keyIs_shape hv with ⟨j, u, rfl, rfl⟩ | ⟨y, u, rfl, rfl⟩
      · rw [key_rl] at h; exact SeqAt.EqAt.str_int x t j u _ _ _ _ h
      · rw [key_rr] at h; exact wpAny_eqBool_str h
  «strs» := fun k x t v h => by
    rcases keyIs_shape h with ⟨i, u, rfl, e⟩ | ⟨y, u, rfl, e⟩
    · exact nomatch e
    · injection e with e1 _
      subst e1
      cases v <;> rfl

theorem mixKind_int (prog : Program) (w : World) (i : Int) (t : Tok) : (mixKind prog w).is (.inl i) (.int i t) = true := keyIs_int i t
theorem mixKind_str (prog : Program) (w : World) (x : Str) (t : Tok) : (mixKind prog w).is (.inr x) (.str x t) = true := keyIs_str x t
end L2

namespace L2
open PySem PySem.Spec PyProof.Rows

inductive V where
  | non | bl (b : Bool) | int (i : Int) | str (x : Str) | byt (b : Array UInt8) | flt (b : UInt64) | ref (a : Addr) | ty (n : String)
  deriving DecidableEq

noncomputable def RelV : V → Value → Prop
  | .non, u => u = Value.none
  | .bl b, u => u = Value.bool b
  | .int i, u => ∃ t, u = Value.int i t
  | .str x, u => ∃ t, u = Value.str x t
  | .byt b, u => ∃ t, u = Value.bytes b t
  | .flt b, u => ∃ t, u = Value.float b t
  | .ref a, u => u = Value.ref a
  | .ty n, u => u = Value.type n

noncomputable abbrev Vals : List V → List Value → Prop := Paired RelV
theorem Vals.length {xs : List V} {us : List Value} (r : Vals xs us) : xs.length = us.length := Paired.length r
theorem Vals.get : ∀ {xs : List V} {us : List Value} {i : Nat} {x : V}, Vals xs us → xs[i]? = some x → ∃ u, us[i]? = some u ∧ RelV x u
  | _, _, _, _, .nil, e => by simp at e
  | _, _, 0, _, .cons r _, e => by simp at e; subst e; exact ⟨_, rfl, r⟩
  | _, _, i + 1, x, .cons _ t, e => by
    obtain ⟨u, h1, h2⟩ := Vals.get (i := i) (x := x) t (by simpa using e)
    exact ⟨u, by simpa using h1, h2⟩
theorem Vals.append : ∀ {xs ys : List V} {us ws : List Value}, Vals xs us → Vals ys ws → Vals (xs ++ ys) (us ++ ws)
  | _, _, _, _, .nil, s => s
  | _, _, _, _, .cons r t, s => .cons r (Vals.append t s)
theorem Vals.take : ∀ {xs : List V} {us : List Value} (n : Nat), Vals xs us → Vals (xs.take n) (us.take n)
  | _, _, 0, _ => .nil
  | _, _, _ + 1, .nil => .nil
  | _, _, n + 1, .cons r t => .cons r (Vals.take n t)
theorem Vals.drop : ∀ {xs : List V} {us : List Value} (n : Nat), Vals xs us → Vals (xs.drop n) (us.drop n)
  | _, _, 0, r => r
  | _, _, _ + 1, .nil => .nil
  | _, _, n + 1, .cons _ t => Vals.drop n t

noncomputable def RelO : Option V → Option Value → Prop
  | some v, some u => RelV v u
  | none, none => True
  | _, _ => False
noncomputable def KV {κ : Type} : List (κ × V) → List (κ × Value) → Prop := Paired fun (p : κ × V) (q : κ × Value) => p.1 = q.1 ∧ RelV p.2 q.2

noncomputable def kV : Key → V
  | .inl i => .int i
  | .inr x => .str x

inductive HO where
    | lst (xs : List V)
    | tup (xs : List V)
    | dK (kvs : List (Key × V)) | dT (kvs : List (List Key × V))
    | set (S : Int → Bool) (n : Nat)
    | ins (C dx : Addr) (fs : List (Str × V))
    | own (x : Addr)
    | xd (fs : List (Str × V))
    | met (f x : Addr)
    | rng (lo hi : Int)
    | frz (o : Obj) (u : HO)
    | tbl (ps : Array Value)
    | ext (φ : Heap → Prop)

noncomputable abbrev Hp := Addr → Option HO
noncomputable def upd (H : Hp) (a : Addr) (o : HO) : Hp := fun b => if b = a then some o else H b
theorem upd_same {H : Hp} {a : Addr} {o : HO} : upd H a o a = some o := by unfold upd; rw [if_pos rfl]
theorem upd_ne {H : Hp} {a b : Addr} {o : HO} (h : b ≠ a) : upd H a o b = H b := by unfold upd; rw [if_neg h]
theorem upd_upd {H : Hp} {a : Addr} {o u : HO} : upd (upd H a o) a u = upd H a u := by
  funext b; unfold upd; split <;> rfl
theorem ne_of {H : Hp} {a b : Addr} {o u : HO} (h : H a = some o) (h' : H b = some u) (d : o ≠ u) : a ≠ b := by
  intro e; subst e; rw [h] at h'; exact d (Option.some.inj h')
theorem ne_of_none {H : Hp} {a b : Addr} {o : HO} (h : H a = some o) (h' : H b = none) : a ≠ b := by
  intro e; subst e; rw [h] at h'; cases h'

section
variable (P : Program) (w : World)
noncomputable def ObjOk (H : Hp) (h : Heap) (a : Addr) : HO → Prop
  | .lst xs => xs.length ≤ sizeLine ∧ ∃ (its : List Value) (n : Nat), Vals xs its ∧ h.get? a = some { cls := .type "list", data := .seq its.toArray n }
  | .tup xs => xs.length ≤ sizeLine ∧ ∃ its : List Value, Vals xs its ∧ IsTup h a its.toArray
  | .dK kvs => kvs.length ≤ sizeLine ∧ (a == sysModules) = false ∧ ∃ vs, KV kvs vs ∧ h.DictOf (mixKind P w) a vs
  | .dT kvs => kvs.length ≤ sizeLine ∧ (a == sysModules) = false ∧ ∃ xs : List (List Key × Addr × Value),
      Paired (fun (p : List Key × V) (q : List Key × Addr × Value) => p.1 = q.1 ∧ H q.2.1 = some (.tup (p.1.map kV)) ∧ RelV p.2 q.2.2) kvs xs ∧
      ∃ o es ep, h.get? a = some o ∧ o.ExactDict ∧ o.data = .dict es ep ∧ es.toList = xs.map (entryOfKey (tupleKind (mixKind P w))) ∧ (xs.map (·.1)).Nodup
  | .set S n => h.SetOf (intKind P w) a S n
  | .ins C dx fs => H dx = some (.own a) ∧ fs.length ≤ 1000 ∧ dx ≠ a ∧ h.get? a = some (PySem.W.instObj C dx) ∧
      ∃ mA, h.Ns1 dx mA ∧ (∀ f, RelO (fs.lookup f) (mA f)) ∧ PySem.Within mA (fs.map (·.1))
  | .own _ => ∃ o, h.get? a = some o
  | .xd fs => ∃ mA, h.Ns1 a mA ∧ ∀ f, RelO (fs.lookup f) (mA f)
  | .rng lo hi => ∃ t u v, h.get? a = some { cls := .type "range", data := .fields #[.int lo t, .int hi u, .int 1 v] }
  | .frz o u => h.get? a = some o ∧ ObjOk H h a u
  | .tbl ps => h.get? a = some { cls := .none, data := .fields ps }
  | .met f x => h.get? a = some (PySem.W.methodObj (.ref f) (.ref x))
  | .ext φ => φ h ∧ (∃ o, h.get? a = some o) ∧ ∀ h1 h2 : Heap, φ h1 → (∀ o, h1.get? a = some o → h2.get? a = some o) → φ h2
noncomputable def HOk (H : Hp) (h : Heap) : Prop := ∀ a o, H a = some o → ObjOk P w H h a o
end

section
variable {P : Program} {w : World} {H H' : Hp} {h h' : Heap} {a : Addr} {o : HO}
theorem ObjOk.lt (x : ObjOk P w H h a o) : a < h.objs.size := by
  cases o with
  | lst xs => obtain ⟨_, _, _, _, e⟩ := x; exact Heap.lt_size e
  | tup xs => obtain ⟨_, _, _, p⟩ := x; exact p.lt
  | dK kvs => obtain ⟨_, _, _, _, o, _, _, e, _⟩ := x; exact Heap.lt_size e
  | dT kvs => obtain ⟨_, _, _, _, o, _, _, e, _⟩ := x; exact Heap.lt_size e
  | set S n => obtain ⟨o, _, _, _, e, _⟩ := x; exact Heap.lt_size e
  | ins C dx fs => obtain ⟨_, _, _, e, _⟩ := x; exact Heap.lt_size e
  | own y => obtain ⟨_, e⟩ := x; exact Heap.lt_size e
  | xd fs => obtain ⟨_, ⟨_, _, _, e, _⟩, _⟩ := x; exact Heap.lt_size e
  | rng lo hi => obtain ⟨_, _, _, e⟩ := x; exact Heap.lt_size e
  | frz ob u => obtain ⟨e, _⟩ := x; exact Heap.lt_size e
  | tbl ps => exact Heap.lt_size (show h.get? a = some _ from x)
  | met f y => exact Heap.lt_size (show h.get? a = some _ from x)
  | ext φ => obtain ⟨_, ⟨_, e⟩, _⟩ := x; exact Heap.lt_size e
theorem Paired.mapP {α β : Type} {F G : α → β → Prop} : ∀ {l₁ : List α} {l₂ : List β}, Paired F l₁ l₂ → (∀ a b, F a b → G a b) → Paired G l₁ l₂
  | _, _, .nil, _ => .nil
  | _, _, .cons r t, f => .cons (f _ _ r) (Paired.mapP t f)
theorem ObjOk.stay (x : ObjOk P w H h a o) (k : ∀ b u, (b = a ∨ H b = some (.own a)) → h.get? b = some u → h'.get? b = some u)
    (ho : ∀ b, H b = some (.own a) → H' b = some (.own a)) (ht : ∀ b xs, H b = some (.tup xs) → H' b = some (.tup xs)) : ObjOk P w H' h' a o := by
  induction o with
  | lst xs => obtain ⟨z, its, n, r, e⟩ := x; exact ⟨z, its, n, r, k _ _ (.inl rfl) e⟩
  | tup xs => obtain ⟨z, its, r, ob, e, c⟩ := x; exact ⟨z, its, r, ob, k _ _ (.inl rfl) e, c⟩
  | dK kvs => obtain ⟨z, y, vs, r, ob, es, ep, e, c⟩ := x; exact ⟨z, y, vs, r, ob, es, ep, k _ _ (.inl rfl) e, c⟩
  | dT kvs =>
    obtain ⟨z, y, xs, r, ob, es, ep, e, c⟩ := x
    exact ⟨z, y, xs, Paired.mapP r fun p q z => ⟨z.1, ht _ _ z.2.1, z.2.2⟩, ob, es, ep, k _ _ (.inl rfl) e, c⟩
  | set S n => obtain ⟨ob, es, ep, t, e, c⟩ := x; exact ⟨ob, es, ep, t, k _ _ (.inl rfl) e, c⟩
  | ins C dx fs =>
    obtain ⟨d, z, ne, e, mA, ⟨od, es, ep, e2, c⟩, r⟩ := x
    exact ⟨ho _ d, z, ne, k _ _ (.inl rfl) e, mA, ⟨od, es, ep, k _ _ (.inr d) e2, c⟩, r⟩
  | own y => obtain ⟨ob, e⟩ := x; exact ⟨ob, k _ _ (.inl rfl) e⟩
  | xd fs => obtain ⟨mA, ⟨od, es, ep, e, c⟩, r⟩ := x; exact ⟨mA, ⟨od, es, ep, k _ _ (.inl rfl) e, c⟩, r⟩
  | rng lo hi => obtain ⟨t, u, v, e⟩ := x; exact ⟨t, u, v, k _ _ (.inl rfl) e⟩
  | frz ob u ih => obtain ⟨e, q⟩ := x; exact ⟨k _ _ (.inl rfl) e, ih q⟩
  | tbl ps =>
    have e : h.get? a = some { cls := .none, data := .fields ps } := x
    show h'.get? a = some { cls := .none, data := .fields ps }
    exact k a _ (.inl rfl) e
  | met f y =>
    have e : h.get? a = some (PySem.W.methodObj (.ref f) (.ref y)) := x
    show h'.get? a = some (PySem.W.methodObj (.ref f) (.ref y))
    exact k a _ (.inl rfl) e
  | ext φ => obtain ⟨p, ⟨o, e⟩, st⟩ := x; exact ⟨st _ _ p fun o q => k _ _ (.inl rfl) q, ⟨o, k _ _ (.inl rfl) e⟩, st⟩
theorem HOk.lt (x : HOk P w H h) (e : H a = some o) : a < h.objs.size := (x a o e).lt
theorem HOk.fresh (x : HOk P w H h) (e : h.objs.size ≤ a) : H a = none := by
  cases q : H a with
  | none => rfl
  | some u => exact absurd (Nat.lt_of_lt_of_le (x.lt q) e) (Nat.lt_irrefl _)
theorem HOk.kept (x : HOk P w H h) (k : ∀ b u, h.get? b = some u → h'.get? b = some u) : HOk P w H h' := fun a o e =>
  (x a o e).stay (fun b u _ q => k b u q) (fun _ q => q) fun _ _ q => q
theorem HOk.laid (x : HOk P w H h) (k : ∀ b u, h.get? b = some u → h'.get? b = some u) (hp : h.objs.size ≤ a) (new : ObjOk P w (upd H a o) h' a o) : HOk P w (upd H a o) h' := fun b u e => by
  have hn := x.fresh hp
  by_cases hb : b = a
  · subst hb; rw [upd_same] at e; cases e; exact new
  · rw [upd_ne hb] at e
    exact (x b u e).stay (fun c v _ q => k c v q) (fun c q => by rw [upd_ne (ne_of_none q hn)]; exact q) fun c xs q => by rw [upd_ne (ne_of_none q hn)]; exact q
end

noncomputable def Rd (H : Hp) (a : Addr) (u : HO) : Prop := H a = some u ∨ ∃ o, H a = some (.frz o u)
theorem Rd.ok {P : Program} {w : World} {H : Hp} {h : Heap} {a : Addr} {u : HO} (r : Rd H a u) (x : HOk P w H h) : ObjOk P w H h a u := by
  rcases r with r | ⟨o, r⟩
  · exact x a u r
  · obtain ⟨_, q⟩ := x a _ r
    exact q
noncomputable def Mut : Option HO → Prop
  | some (.lst _) => True
  | some (.dK _) => True
  | some (.dT _) => True
  | some (.set _ _) => True
  | some (.ins _ _ _) => True
  | some (.ext _) => True
  | _ => False
section
variable {P : Program} {w : World} {H : Hp} {h h' : Heap} {x e : Addr} {o' : HO}
theorem HOk.write (ok : HOk P w H h) (mu : Mut (H x)) (he : e = x ∨ H e = some (.own x)) (k : ∀ b u, b ≠ e → h.get? b = some u → h'.get? b = some u) (heo : ∃ u, h'.get? e = some u)
    (new : ObjOk P w (upd H x o') h' x o') : HOk P w (upd H x o') h' := fun b u q => by
  have nown : ∀ c y, H c = some (.own y) → c ≠ x := fun c y r z => by subst z; rw [r] at mu; exact mu
  have ntup : ∀ c xs, H c = some (.tup xs) → c ≠ x := fun c xs r z => by subst z; rw [r] at mu; exact mu
  by_cases hb : b = x
  · subst hb; rw [upd_same] at q; cases q; exact new
  · rw [upd_ne hb] at q
    by_cases hbe : b = e
    · have q' : H b = some (.own x) := by
        rcases he with z | z
        · exact absurd (hbe.trans z) hb
        · rw [hbe]; exact z
      rw [q] at q'; cases q'
      obtain ⟨v, hv⟩ := heo
      exact ⟨v, by rw [hbe]; exact hv⟩
    · refine (ok b u q).stay (fun c v hc r => k c v ?_ r) (fun c r => by rw [upd_ne (nown c b r)]; exact r) fun c xs r => by rw [upd_ne (ntup c xs r)]; exact r
      rcases hc with rfl | hc
      · exact hbe
      · rintro rfl
        rcases he with z | z
        · exact nown c b hc z
        · rw [hc] at z; cases z; exact hb rfl
end

/-! ### kept unless tracked; of the frames at fs (the callers') the slots may change (an exception that passes writes there); of the records at ex (iterators) nothing is said -/
set_option genInjectivity false in
structure Un (fs ex : List Addr) (H H' : Hp) (h h' : Heap) : Prop where
  keep : ∀ b o, h.get? b = some o → H b = none → b ∉ fs → b ∉ ex → h'.get? b = some o
  slot : ∀ b o, h.get? b = some o → H b = none → b ∈ fs → b ∉ ex → ∃ sl, h'.get? b = some { o with slots := sl }
  free : ∀ b o, h.get? b = some o → H b = none → b ∉ ex → H' b = none
  there : ∀ b o, h.get? b = some o → b ∉ ex → ∃ o', h'.get? b = some o'
  tups : ∀ b xs, H b = some (.tup xs) → H' b = some (.tup xs)
  frzs : ∀ b o u, H b = some (.frz o u) → H' b = some (.frz o u)
  tbls : ∀ b ps, H b = some (.tbl ps) → ∃ more, H' b = some (.tbl (ps ++ more))
section
variable {fs fs' ex ex' : List Addr} {H H1 H2 : Hp} {h h1 h2 h' : Heap} {a x e : Addr} {o : HO}
theorem Un.any (u : Un fs ex H H1 h h1) {b : Addr} {ob : Obj} (q : h.get? b = some ob) (n : H b = none) (hx : b ∉ ex) : ∃ sl, h1.get? b = some { ob with slots := sl } := by
  by_cases hb : b ∈ fs
  · exact u.slot b ob q n hb hx
  · exact ⟨ob.slots, u.keep b ob q n hb hx⟩
theorem Un.kept (k : ∀ b u, h.get? b = some u → h'.get? b = some u) : Un fs ex H H h h' :=
  ⟨fun b ob q _ _ _ => k b ob q, fun b ob q _ _ _ => ⟨ob.slots, k b ob q⟩, fun _ _ _ n _ => n, fun b ob q _ => ⟨ob, k b ob q⟩, fun _ _ q => q, fun _ _ _ q => q, fun _ ps q => ⟨#[], by rw [q]; simp⟩⟩
theorem Un.refl : Un fs ex H H h h := Un.kept fun _ _ q => q
theorem Un.laid (k : ∀ b u, h.get? b = some u → h'.get? b = some u) (hp : h.objs.size ≤ a) (hn : H a = none) : Un fs ex H (upd H a o) h h' where
  keep := fun b u q _ _ _ => k b u q
  slot := fun b u q _ _ _ => ⟨u.slots, k b u q⟩
  free := fun b u q n _ => by rw [upd_ne (Nat.ne_of_lt (Nat.lt_of_lt_of_le (Heap.lt_size q) hp))]; exact n
  there := fun b u q _ => ⟨u, k b u q⟩
  tups := fun b xs q => by rw [upd_ne (ne_of_none q hn)]; exact q
  frzs := fun b u xs q => by rw [upd_ne (ne_of_none q hn)]; exact q
  tbls := fun b ps q => ⟨#[], by rw [upd_ne (ne_of_none q hn), q]; simp⟩
theorem Un.write (mu : Mut (H x)) (he : e = x ∨ H e = some (.own x)) (k : ∀ b u, b ≠ e → h.get? b = some u → h'.get? b = some u) (heo : ∃ u, h'.get? e = some u) : Un fs ex H (upd H x o) h h' := by
  have hx : ∀ b, H b = none → b ≠ x := fun b n z => by subst z; rw [n] at mu; exact mu
  have hb : ∀ b, H b = none → b ≠ e := fun b n z => by
    subst z
    rcases he with r | r
    · exact hx b n r
    · rw [n] at r; cases r
  have hm : ∀ b u, H b = some u → ¬ Mut (some u) → b ≠ x := fun b u q nm z => by subst z; rw [q] at mu; exact nm mu
  refine ⟨fun b u q n _ _ => k b u (hb b n) q, fun b u q n _ _ => ⟨u.slots, k b u (hb b n) q⟩, fun b u q n _ => by rw [upd_ne (hx b n)]; exact n, fun b u q _ => ?_,
    fun b xs q => by rw [upd_ne (hm b _ q fun z => z)]; exact q, fun b u xs q => by rw [upd_ne (hm b _ q fun z => z)]; exact q, fun b ps q => ⟨#[], by rw [upd_ne (hm b _ q fun z => z), q]; simp⟩⟩
  by_cases hbe : b = e
  · subst hbe; exact heo
  · exact ⟨u, k b u hbe q⟩
end

/-! ### the heap without what is tracked -/
noncomputable def trk (h : Heap) (H : Hp) : List Addr := (List.range h.objs.size).filter fun a => (H a).isSome
noncomputable def hidT (h : Heap) (H : Hp) : Heap := PySem.W.hideAll h (trk h H)
theorem hidT_size (h : Heap) (H : Hp) : (hidT h H).objs.size = h.objs.size := PySem.W.hideAll_size _ _
theorem hidT_get {h : Heap} {H : Hp} {b : Addr} {o : Obj} (e : h.get? b = some o) (n : H b = none) : (hidT h H).get? b = some o :=
  PySem.W.hideAll_get _ e fun hm => by
    have q : (H b).isSome = true := (List.mem_filter.mp hm).2
    rw [n] at q; simp at q
theorem of_hidT {h : Heap} {H : Hp} {b : Addr} {o : Obj} (e : (hidT h H).get? b = some o) : h.get? b = some o ∧ H b = none := by
  have e' : h.get? b = some o := PySem.W.of_hideAll (trk h H) e
  refine ⟨e', ?_⟩
  cases q : H b with
  | none => rfl
  | some x =>
    have hm : b ∈ trk h H := List.mem_filter.mpr ⟨List.mem_range.mpr (Heap.lt_size e'), by simp [q]⟩
    have z : (hidT h H).get? b = none := PySem.W.hideAll_none (trk h H) hm
    rw [z] at e; cases e

/-! ### OpenK's ledger, filled with every new object but one -/
noncomputable def allNews (g h : Heap) (L : Addr) : List (Addr × Obj) := (List.range h.objs.size).filterMap fun a => if a = L ∨ (g.get? a).isSome = true then none else (h.get? a).map fun o => (a, o)
noncomputable def rest (g h : Heap) (L d : Addr) : List (Addr × Obj) := (allNews g h L).filter fun p => decide (p.1 ≠ d)
end L2

namespace L2
open PySem PySem.Spec PyProof.Rows

set_option genInjectivity false in
structure Mod (K : PySem.W.Frag) (mg : Str → Option Value) (base : Heap) : Prop where
  kin : K.In base
  glob : base.Ns mainGlobals mg
  blt : ∃ mb, base.Ns builtinsNs mb ∧ ∀ x : Str, x ≠ "__name__" → mb x = bootBuiltins x
  nolimit : base.NoLimit

set_option genInjectivity false in
structure Cx where
  prog : Program
  w : World
  K : PySem.W.Frag
  mg : Str → Option Value
  base : Heap
  A : Around
  N : List Str
  s₀ : Shared
  H₀ : Hp
  env : Env
  outer : List Env
  stack : List Env
  ex : List Addr
  fn : Str → Bool
  calm : Bool
  pn : List (Addr × Obj)
  xe : Value → Shared → Prop
noncomputable def frs (l : List Env) : List Addr := l.filterMap (·.frame)
noncomputable abbrev Cx.fs (X : Cx) : List Addr := frs X.outer

noncomputable def Vis (sc : Scope) (x : Str) : Prop := sc.names.lookup x = some .local ∨ sc.names.lookup x = some .cell ∨ sc.names.lookup x = some .free
noncomputable def Loc (sc : Scope) (x : Str) : Prop := sc.names.lookup x = some .local ∨ sc.names.lookup x = some .cell
noncomputable def Look (env : Env) (h : Heap) (m : Str → Option Value) (x : Str) (u : Value) : Prop :=
  (env.kindOf x = some .local ∧ m x = some u) ∨ ((env.kindOf x = some .cell ∨ env.kindOf x = some .free) ∧ ∃ c, env.cells.lookup x = some c ∧ h.IsCell c (some u))

set_option genInjectivity false in
structure Cx.Ok (X : Cx) : Prop where
  mod : Mod X.K X.mg X.base
  kind : X.env.scope.kind = .function
  glob : X.env.globals = mainGlobals
  blt : X.env.builtins = builtinsNs
  above : X.s₀.heap.objs.size ≤ X.env.locals
  inj : ∀ x y c, X.env.cells.lookup x = some c → X.env.cells.lookup y = some c → x = y
  has : ∀ x, (X.env.kindOf x = some .cell ∨ X.env.kindOf x = some .free) → ∃ c, X.env.cells.lookup x = some c
  cab : ∀ x c, X.fn x = true → X.env.cells.lookup x = some c → X.s₀.heap.objs.size ≤ c
  hd : X.calm = true → X.A.handled = none
  frames : X.A.frames = some X.stack
  stk : X.stack = X.outer ∨ (X.stack = X.env :: X.outer ∧ X.env.frame = some X.env.locals)
  exf : ∀ b ∈ X.ex, b ≠ X.env.locals ∧ ∀ x c, X.env.cells.lookup x = some c → c ≠ b
  bs : ∀ b o, X.base.get? b = some o → X.s₀.heap.get? b = some o ∧ X.H₀ b = none
  bsz : X.base.objs.size ≤ X.s₀.heap.objs.size
  noex : ∀ b o, X.base.get? b = some o → b ∉ X.ex
  exfs : ∀ b ∈ X.ex, b ∉ X.fs
  funs : X.s₀.heap.FunFrames X.base X.outer
  frf : ∀ b ∈ X.fs, X.H₀ b = none

set_option genInjectivity false in
structure Inv (X : Cx) (pins : List (Addr × Obj)) (σ : List (Option V)) (H : Hp) (s : Shared) : Prop where
  ok : X.Ok
  os : s.os = X.s₀.os
  bare : AllBare s.gens
  base : Un X.fs X.ex X.H₀ H X.s₀.heap s.heap
  loc : ∃ m, s.heap.Ns X.env.locals m ∧ ∀ (i : Nat) (x : Str) (v : V), X.N[i]? = some x → σ[i]? = some (some v) → Vis X.env.scope x → ∃ u, RelV v u ∧ Look X.env s.heap m x u
  cell : ∀ x c, X.env.cells.lookup x = some c → ∃ v, s.heap.IsCell c v
  free : H X.env.locals = none
  freeC : ∀ x c, X.env.cells.lookup x = some c → H c = none
  pin : ∀ p ∈ X.pn ++ pins, s.heap.get? p.1 = some p.2 ∧ H p.1 = none ∧ p.1 ≠ X.env.locals ∧ p.1 ∉ X.fs ∧ ∀ v, p.2.data ≠ .cell v
  hok : HOk X.prog X.w H s.heap
  len : σ.length = X.N.length

section
variable {X : Cx} {pins : List (Addr × Obj)} {σ : List (Option V)} {H H' : Hp} {s : Shared} {h' : Heap}

theorem Cx.Ok.nofr (ok : X.Ok) {b : Addr} {o : Obj} (e : X.base.get? b = some o) : b ∉ X.fs := fun hb => by
  have := (ok.funs.mem hb).1
  rw [e] at this; cases this
theorem Inv.bs (I : Inv X pins σ H s) : ∀ b o, X.base.get? b = some o → s.heap.get? b = some o ∧ H b = none := fun b o e =>
  ⟨I.base.keep b o (I.ok.bs b o e).1 (I.ok.bs b o e).2 (I.ok.nofr e) (I.ok.noex b o e), I.base.free b o (I.ok.bs b o e).1 (I.ok.bs b o e).2 (I.ok.noex b o e)⟩
theorem Inv.bk (I : Inv X pins σ H s) : ∀ b o, X.base.get? b = some o → s.heap.get? b = some o := fun b o e => (I.bs b o e).1
theorem Inv.mod (I : Inv X pins σ H s) : Mod X.K X.mg X.base := I.ok.mod
theorem Inv.kIn (I : Inv X pins σ H s) : X.K.In s.heap := I.ok.mod.kin.keeps I.bk
theorem Inv.fr (I : Inv X pins σ H s) : ∃ m, Fr X.base X.env.locals s.heap m :=
  let ⟨m, hn, _⟩ := I.loc
  ⟨m, hn, I.bk, Nat.le_trans I.ok.bsz I.ok.above⟩
theorem Inv.lt (I : Inv X pins σ H s) : X.env.locals < s.heap.objs.size := let ⟨_, hn, _⟩ := I.loc; hn.lt
theorem Inv.sz (I : Inv X pins σ H s) : X.s₀.heap.objs.size ≤ s.heap.objs.size := Nat.le_trans I.ok.above (Nat.le_of_lt I.lt)
theorem Inv.nofs (I : Inv X pins σ H s) {a : Addr} (h : s.heap.objs.size ≤ a) : a ∉ X.fs := fun hb => by
  obtain ⟨_, o, ho, _⟩ := I.ok.funs.mem hb
  exact absurd (Nat.lt_of_lt_of_le (Heap.lt_size ho) (Nat.le_trans I.sz h)) (Nat.lt_irrefl _)
theorem Inv.cne (I : Inv X pins σ H s) : ∀ x c, X.env.cells.lookup x = some c → c ≠ X.env.locals := fun x c e z => by
  obtain ⟨v, o, ho, hd⟩ := I.cell x c e
  obtain ⟨m, ⟨o', es, ep, ho', hd', _⟩, _⟩ := I.loc
  rw [z, ho'] at ho; cases ho; rw [hd'] at hd; cases hd
theorem Inv.funs (I : Inv X pins σ H s) : s.heap.FunFrames X.base X.outer := by
  have all : ∀ (l : List Env), (∀ b ∈ frs l, b ∈ X.fs) → X.s₀.heap.FunFrames X.base l → s.heap.FunFrames X.base l := by
    intro l
    induction l with
    | nil => intro _ _; trivial
    | cons env r ih =>
      intro hs hl
      obtain ⟨hk, ⟨L, o, hf, hn, ho, hd⟩, hr⟩ := hl
      have hL : L ∈ X.fs := hs L (by unfold frs; rw [List.filterMap_cons, hf]; exact List.mem_cons_self)
      obtain ⟨sl, e⟩ := I.base.slot L o ho (I.ok.frf L hL) hL fun z => I.ok.exfs L z hL
      exact ⟨hk, ⟨L, _, hf, hn, e, hd⟩, ih (fun b hb => hs b (by unfold frs; rw [List.filterMap_cons, hf]; exact List.mem_cons_of_mem _ hb)) hr⟩
  exact all X.outer (fun _ hb => hb) I.ok.funs

theorem Inv.stack (I : Inv X pins σ H s) : s.heap.FunFrames X.base X.stack := by
  rcases I.ok.stk with e | ⟨e, hf⟩
  · rw [e]; exact I.funs
  · rw [e]
    obtain ⟨m, hn, _⟩ := I.loc
    refine .cons (by rw [I.ok.kind]; decide) hf hn ?_ I.funs
    exact Heap.get?_none_of_le (Nat.le_trans I.ok.bsz I.ok.above)
theorem Inv.stkSub (I : Inv X pins σ H s) : ∀ b ∈ frs X.stack, b ∈ X.env.locals :: X.fs := fun b hb => by
  rcases I.ok.stk with e | ⟨e, hf⟩
  · rw [e] at hb; exact List.mem_cons_of_mem _ hb
  · rw [e] at hb
    unfold frs at hb
    rw [List.filterMap_cons, hf] at hb
    exact hb
theorem Inv.stkFree (I : Inv X pins σ H s) : ∀ b ∈ frs X.stack, H b = none := fun b hb => by
  rcases List.mem_cons.mp (I.stkSub b hb) with e | hb
  · rw [e]; exact I.free
  · obtain ⟨_, o, ho, _⟩ := I.ok.funs.mem hb
    exact I.base.free b o ho (I.ok.frf b hb) fun z => I.ok.exfs b z hb

theorem Inv.step {g' : Array GenState} {t' : Nat} {d' : Drawn} {ch : List Addr} (I : Inv X pins σ H s)
    (hch : ∀ b ∈ ch, (b ∈ X.ex ∨ X.s₀.heap.objs.size ≤ b) ∧ b ≠ X.env.locals ∧ (∀ x c, X.env.cells.lookup x = some c → c ≠ b) ∧ ∀ p ∈ X.pn ++ pins, p.1 ≠ b)
    (keep : ∀ b o, b ≠ X.env.locals → b ∉ X.fs → b ∉ ch → s.heap.get? b = some o → H b = none → h'.get? b = some o)
    (slot : ∀ b o, b ≠ X.env.locals → b ∈ X.fs → b ∉ ch → s.heap.get? b = some o → H b = none → ∃ sl, h'.get? b = some { o with slots := sl }) (free : ∀ b o, b ∉ ch → s.heap.get? b = some o → H b = none → H' b = none)
    (there : ∀ b o, b ∉ ch → s.heap.get? b = some o → ∃ o', h'.get? b = some o')
    (tups : ∀ b xs, H b = some (.tup xs) → H' b = some (.tup xs)) (frzs : ∀ b o u, H b = some (.frz o u) → H' b = some (.frz o u)) (tbls : ∀ b ps, H b = some (.tbl ps) → ∃ more, H' b = some (.tbl (ps ++ more)))
    (ns : ∀ m, s.heap.Ns X.env.locals m → h'.Ns X.env.locals m) (hok : HOk X.prog X.w H' h') (hg : AllBare g') :
    Inv X pins σ H' { s with heap := h', gens := g', drawn := d', toks := t' } := by
  have neL : ∀ b o, X.s₀.heap.get? b = some o → b ≠ X.env.locals := fun b o e => Nat.ne_of_lt (Nat.lt_of_lt_of_le (Heap.lt_size e) I.ok.above)
  have neC : ∀ b o, X.s₀.heap.get? b = some o → b ∉ X.ex → b ∉ ch := fun b o e hx hb => by
    rcases (hch b hb).1 with z | z
    · exact hx z
    · exact absurd (Nat.lt_of_lt_of_le (Heap.lt_size e) z) (Nat.lt_irrefl _)
  have cellK : ∀ x c, X.env.cells.lookup x = some c → ∀ v, s.heap.IsCell c v → h'.IsCell c v := fun x c e v ⟨o, ho, hd⟩ => by
    have nch : c ∉ ch := fun z => (hch c z).2.2.1 x c e rfl
    by_cases hc : c ∈ X.fs
    · obtain ⟨sl, q⟩ := slot c o (I.cne x c e) hc nch ho (I.freeC x c e)
      exact ⟨_, q, hd⟩
    · exact ⟨o, keep c o (I.cne x c e) hc nch ho (I.freeC x c e), hd⟩
  refine ⟨I.ok, I.os, hg, ⟨fun b o e n hb hx => ?_, fun b o e n hb hx => ?_, fun b o e n hx => ?_, fun b o e hx => ?_, fun b xs e => tups b xs (I.base.tups b xs e), fun b o xs e => frzs b o xs (I.base.frzs b o xs e), fun b ps e => ?_⟩, ?_, fun x c e => ?_, ?_, fun x c e => ?_, fun p hp => ?_, hok, I.len⟩
  · exact keep b o (neL b o e) hb (neC b o e hx) (I.base.keep b o e n hb hx) (I.base.free b o e n hx)
  · obtain ⟨sl, e1⟩ := I.base.slot b o e n hb hx
    obtain ⟨sl', e2⟩ := slot b _ (neL b o e) hb (neC b o e hx) e1 (I.base.free b o e n hx)
    exact ⟨sl', e2⟩
  · obtain ⟨o', e1⟩ := I.base.there b o e hx
    exact free b o' (neC b o e hx) e1 (I.base.free b o e n hx)
  · obtain ⟨o', e1⟩ := I.base.there b o e hx
    exact there b o' (neC b o e hx) e1
  · obtain ⟨m1, e1⟩ := I.base.tbls b ps e
    obtain ⟨m2, e2⟩ := tbls b _ e1
    exact ⟨m1 ++ m2, by rw [e2, Array.append_assoc]⟩
  · obtain ⟨m, hn, hl⟩ := I.loc
    refine ⟨m, ns m hn, fun i x v e1 e2 e3 => ?_⟩
    obtain ⟨u, r, l⟩ := hl i x v e1 e2 e3
    refine ⟨u, r, ?_⟩
    rcases l with l | ⟨k, c, e, z⟩
    · exact .inl l
    · exact .inr ⟨k, c, e, cellK x c e _ z⟩
  · obtain ⟨v, z⟩ := I.cell x c e
    exact ⟨v, cellK x c e v z⟩
  · obtain ⟨m, ⟨o, _, _, ho, _⟩, _⟩ := I.loc
    exact free _ o (fun z => (hch _ z).2.1 rfl) ho I.free
  · obtain ⟨v, o, ho, hd⟩ := I.cell x c e
    exact free c o (fun z => (hch c z).2.2.1 x c e rfl) ho (I.freeC x c e)
  · obtain ⟨e, n, ne, nf, d⟩ := I.pin p hp
    have nch : p.1 ∉ ch := fun z => (hch p.1 z).2.2.2 p hp rfl
    exact ⟨keep p.1 p.2 ne nf nch e n, free p.1 p.2 nch e n, ne, nf, d⟩
theorem Inv.un {t' : Nat} (I : Inv X pins σ H s) (u : Un X.fs [] H H' s.heap h') (hok : HOk X.prog X.w H' h') : Inv X pins σ H' { s with heap := h', toks := t' } := by
  obtain ⟨m, ⟨o, es, ep, ho, r⟩, _⟩ := id I.loc
  obtain ⟨sl, hL⟩ := u.any ho I.free (by simp)
  exact I.step (g' := s.gens) (d' := s.drawn) (ch := []) (fun _ z => nomatch z) (fun b o _ hb _ e n => u.keep b o e n hb (by simp)) (fun b o _ hb _ e n => u.slot b o e n hb (by simp)) (fun b o _ e n => u.free b o e n (by simp)) (fun b o _ e => u.there b o e (by simp)) u.tups u.frzs u.tbls (fun m' hm => by
    obtain ⟨o', es', ep', ho', r'⟩ := hm
    rw [ho] at ho'; cases ho'
    exact ⟨_, es', ep', hL, r'⟩) hok I.bare
theorem Inv.call {g' : Array GenState} {t' : Nat} {d' : Drawn} {ch : List Addr} (I : Inv X pins σ H s) (u : Un (frs X.stack) ch H H' s.heap h') (hok : HOk X.prog X.w H' h') (hg : AllBare g')
    (hch : ∀ b ∈ ch, (b ∈ X.ex ∨ X.s₀.heap.objs.size ≤ b) ∧ b ≠ X.env.locals ∧ (∀ x c, X.env.cells.lookup x = some c → c ≠ b) ∧ ∀ p ∈ X.pn ++ pins, p.1 ≠ b) :
    Inv X pins σ H' { s with heap := h', gens := g', drawn := d', toks := t' } := by
  obtain ⟨m, ⟨o, es, ep, ho, r⟩, _⟩ := id I.loc
  obtain ⟨sl, hL⟩ := u.any ho I.free fun z => (hch _ z).2.1 rfl
  exact I.step (ch := ch) hch (fun b o hL hb hc e n => u.keep b o e n (fun z => (List.mem_cons.mp (I.stkSub b z)).elim hL hb) hc) (fun b o _ _ hc e n => u.any e n hc) (fun b o hc e n => u.free b o e n hc) (fun b o hc e => u.there b o e hc) u.tups u.frzs u.tbls (fun m' hm => by
    obtain ⟨o', es', ep', ho', r'⟩ := hm
    rw [ho] at ho'; cases ho'
    exact ⟨_, es', ep', hL, r'⟩) hok hg
theorem Inv.turned {t' : Nat} {it : Addr} (I : Inv X pins σ H s) (k : ∀ b o, b ≠ it → s.heap.get? b = some o → h'.get? b = some o) (hn : H it = none) (hL : it ≠ X.env.locals)
    (h1 : it ∈ X.ex ∨ X.s₀.heap.objs.size ≤ it) (h2 : ∀ x c, X.env.cells.lookup x = some c → c ≠ it) (h3 : ∀ p ∈ X.pn ++ pins, p.1 ≠ it) : Inv X pins σ H { s with heap := h', toks := t' } := by
  have nit : ∀ b u, H b = some u → b ≠ it := fun b u e z => by rw [z, hn] at e; cases e
  refine I.step (g' := s.gens) (d' := s.drawn) (ch := [it]) (fun b hb => ?_) (fun b o _ _ hc e _ => k b o (fun z => hc (by simp [z])) e) (fun b o _ _ hc e _ => ⟨o.slots, k b o (fun z => hc (by simp [z])) e⟩) (fun _ _ _ _ n => n)
    (fun b o hc e => ⟨o, k b o (fun z => hc (by simp [z])) e⟩) (fun _ _ e => e) (fun _ _ _ e => e) (fun b ps e => ⟨#[], by rw [e]; simp⟩) (fun m hm => ?_) (fun b u e => ?_) I.bare
  · have e : b = it := by simpa using hb
    subst e
    exact ⟨h1, hL, h2, h3⟩
  · obtain ⟨o, es, ep, ho, r⟩ := hm
    exact ⟨o, es, ep, k _ o (Ne.symm hL) ho, r⟩
  · refine (I.hok b u e).stay (fun c v hc q => k c v ?_ q) (fun _ q => q) fun _ _ q => q
    rcases hc with z | z
    · rw [z]; exact nit b u e
    · exact nit c _ z
theorem Inv.tok (I : Inv X pins σ H s) (t : Nat) : Inv X pins σ H { s with toks := t } := I.un (h' := s.heap) (t' := t) Un.refl I.hok
theorem Inv.kept {t' : Nat} (I : Inv X pins σ H s) (k : ∀ b u, s.heap.get? b = some u → h'.get? b = some u) : Inv X pins σ H { s with heap := h', toks := t' } := I.un (Un.kept k) (I.hok.kept k)
theorem Inv.laid {a : Addr} {o : HO} {t' : Nat} (I : Inv X pins σ H s) (k : ∀ b u, s.heap.get? b = some u → h'.get? b = some u) (hp : s.heap.objs.size ≤ a) (new : ObjOk X.prog X.w (upd H a o) h' a o) :
    Inv X pins σ (upd H a o) { s with heap := h', toks := t' } := I.un (Un.laid k hp (I.hok.fresh hp)) (I.hok.laid k hp new)
theorem Inv.write {x e : Addr} {o : HO} {t' : Nat} (I : Inv X pins σ H s) (mu : Mut (H x)) (he : e = x ∨ H e = some (.own x)) (k : ∀ b u, b ≠ e → s.heap.get? b = some u → h'.get? b = some u) (heo : ∃ u, h'.get? e = some u)
    (new : ObjOk X.prog X.w (upd H x o) h' x o) : Inv X pins σ (upd H x o) { s with heap := h', toks := t' } := I.un (Un.write mu he k heo) (I.hok.write mu he k heo new)
theorem Inv.weak {σ' : List (Option V)} (I : Inv X pins σ H s) (hl : σ'.length = σ.length) (w : ∀ (i : Nat) v, σ'[i]? = some (some v) → σ[i]? = some (some v)) : Inv X pins σ' H s :=
  ⟨I.ok, I.os, I.bare, I.base, let ⟨m, hn, hl'⟩ := I.loc; ⟨m, hn, fun i x v e1 e2 e3 => hl' i x v e1 (w i v e2) e3⟩, I.cell, I.free, I.freeC, I.pin, I.hok, hl.trans I.len⟩
theorem Inv.pins_of {pins' : List (Addr × Obj)} (I : Inv X pins σ H s) (h : ∀ p ∈ pins', s.heap.get? p.1 = some p.2 ∧ H p.1 = none ∧ p.1 ≠ X.env.locals ∧ p.1 ∉ X.fs ∧ ∀ v, p.2.data ≠ .cell v) : Inv X pins' σ H s :=
  ⟨I.ok, I.os, I.bare, I.base, I.loc, I.cell, I.free, I.freeC, fun p hp => (List.mem_append.mp hp).elim (fun z => I.pin p (List.mem_append_left _ z)) (h p), I.hok, I.len⟩

theorem nodup_ix {N : List Str} (hN : N.Nodup) {i j : Nat} {x : Str} (a : N[i]? = some x) (b : N[j]? = some x) : i = j := by
  obtain ⟨h1, e1⟩ := List.getElem?_eq_some_iff.mp a
  obtain ⟨h2, e2⟩ := List.getElem?_eq_some_iff.mp b
  exact (List.getElem_inj hN).mp (e1.trans e2.symm)

theorem store_ok2 {M : Model} {A : Around} {E : Value → Shared → Prop} {i : Nat} {x : Str} {v : V} {u : Value} {Q : Unit → Shared → Prop} (I : Inv X pins σ H s) (hN : X.N.Nodup) (hi : X.N[i]? = some x) (hx : Loc X.env.scope x) (r : RelV v u)
    (h : ∀ s', Inv X pins (σ.set i (some v)) H s' → (∃ a, Heap.SameBut a s.heap s'.heap ∧ (a = X.env.locals ∨ X.env.cells.lookup x = some a)) → Q () s') (hf : X.fn x = true ∨ X.env.scope.names.lookup x = some .local := by first | exact .inl rfl | exact .inr rfl | assumption) : wpAny M A (storeName X.env x u) Q E s := by
  obtain ⟨m, hn, hl⟩ := id I.loc
  have hcls : (X.env.scope.kind == .class || (X.env.scope.kind == .module && X.env.locals != X.env.globals)) = false := by rw [I.ok.kind]; rfl
  have hiσ : i < σ.length := by rw [I.len]; exact (List.getElem?_eq_some_iff.mp hi).1
  have cne := I.cne
  have tracked : ∀ {a : Addr} {h' : Heap}, (∃ o, s.heap.get? a = some o ∧ H a = none) → Heap.SameBut a s.heap h' → HOk X.prog X.w H h' := fun {a h'} ha hs b ob e => by
    obtain ⟨_, _, hfree⟩ := ha
    refine (I.hok b ob e).stay (fun c w' hc q => (hs.2 c ?_).trans q) (fun _ q => q) fun _ _ q => q
    rintro rfl
    rcases hc with rfl | hc
    · rw [hfree] at e; cases e
    · rw [hfree] at hc; cases hc
  rcases hx with hk | hk
  · refine wpAny_storeName_local hk hn (fun h' hn' hs => ?_) hcls
    obtain ⟨oL, _, _, hoL, _⟩ := id hn
    refine h _ ⟨I.ok, I.os, I.bare, ⟨fun b o e n hb hx => ?_, fun b o e n hb hx => ?_, I.base.free, fun b o e hx => ?_, I.base.tups, I.base.frzs, I.base.tbls⟩, ⟨_, hn', fun j y v' e1 e2 e3 => ?_⟩, fun y c e => ?_, I.free, I.freeC, fun p hp => ?_, tracked ⟨oL, hoL, I.free⟩ hs, by simpa using I.len⟩ ⟨_, hs, .inl rfl⟩
    · exact (hs.2 b (Nat.ne_of_lt (Nat.lt_of_lt_of_le (Heap.lt_size e) I.ok.above))).trans (I.base.keep b o e n hb hx)
    · obtain ⟨sl, e1⟩ := I.base.slot b o e n hb hx
      exact ⟨sl, (hs.2 b (Nat.ne_of_lt (Nat.lt_of_lt_of_le (Heap.lt_size e) I.ok.above))).trans e1⟩
    · obtain ⟨o', e1⟩ := I.base.there b o e hx
      exact ⟨o', (hs.2 b (Nat.ne_of_lt (Nat.lt_of_lt_of_le (Heap.lt_size e) I.ok.above))).trans e1⟩
    · by_cases hj : j = i
      · subst hj
        rw [hi] at e1; cases e1
        rw [List.getElem?_set_self hiσ] at e2
        cases e2
        exact ⟨u, r, .inl ⟨hk, by simp⟩⟩
      · rw [List.getElem?_set_ne (Ne.symm hj)] at e2
        obtain ⟨u', r', q⟩ := hl j y v' e1 e2 e3
        refine ⟨u', r', ?_⟩
        rcases q with ⟨k, e⟩ | ⟨k, c, e, z⟩
        · refine .inl ⟨k, ?_⟩
          have : y ≠ x := fun e => hj (nodup_ix hN e1 (e ▸ hi))
          simp [this, e]
        · exact .inr ⟨k, c, e, z.sameBut hs (cne y c e)⟩
    · obtain ⟨w', z⟩ := I.cell y c e
      exact ⟨w', z.sameBut hs (cne y c e)⟩
    · obtain ⟨e, n, ne, nf, d⟩ := I.pin p hp
      exact ⟨(hs.2 p.1 ne).trans e, n, ne, nf, d⟩
  · have hfn : X.fn x = true := by
      rcases hf with z | z
      · exact z
      · rw [z] at hk; cases hk
    obtain ⟨c, hc⟩ := I.ok.has x (.inl hk)
    obtain ⟨w', z⟩ := I.cell x c hc
    refine wpAny_storeName_cell I.ok.kind hk hc z (fun h' hc' hs => ?_)
    obtain ⟨oc, hoc, hocd⟩ := id z
    refine h { s with heap := h' } ⟨I.ok, I.os, I.bare, ⟨fun b o e n hb hx => ?_, fun b o e n hb hx => ?_, I.base.free, fun b o e hx => ?_, I.base.tups, I.base.frzs, I.base.tbls⟩, ⟨m, hn.sameBut hs (Ne.symm (cne x c hc)), fun j y v' e1 e2 e3 => ?_⟩, fun y c' e => ?_, I.free, I.freeC, fun p hp => ?_, tracked ⟨oc, hoc, I.freeC x c hc⟩ hs, by simpa using I.len⟩ ⟨c, hs, .inr hc⟩
    · exact (hs.2 b (Nat.ne_of_lt (Nat.lt_of_lt_of_le (Heap.lt_size e) (I.ok.cab x c hfn hc)))).trans (I.base.keep b o e n hb hx)
    · obtain ⟨sl, e1⟩ := I.base.slot b o e n hb hx
      exact ⟨sl, (hs.2 b (Nat.ne_of_lt (Nat.lt_of_lt_of_le (Heap.lt_size e) (I.ok.cab x c hfn hc)))).trans e1⟩
    · obtain ⟨o', e1⟩ := I.base.there b o e hx
      exact ⟨o', (hs.2 b (Nat.ne_of_lt (Nat.lt_of_lt_of_le (Heap.lt_size e) (I.ok.cab x c hfn hc)))).trans e1⟩
    · by_cases hj : j = i
      · subst hj
        rw [hi] at e1; cases e1
        rw [List.getElem?_set_self hiσ] at e2
        cases e2
        exact ⟨u, r, .inr ⟨.inl hk, c, hc, hc'⟩⟩
      · rw [List.getElem?_set_ne (Ne.symm hj)] at e2
        obtain ⟨u', r', q⟩ := hl j y v' e1 e2 e3
        refine ⟨u', r', ?_⟩
        rcases q with q | ⟨k, c', e, z'⟩
        · exact .inl q
        · refine .inr ⟨k, c', e, z'.sameBut hs ?_⟩
          rintro rfl
          exact hj (nodup_ix hN e1 (I.ok.inj _ _ _ e hc ▸ hi))
    · by_cases hcc : c' = c
      · subst hcc; exact ⟨_, hc'⟩
      · obtain ⟨w2, z2⟩ := I.cell y c' e
        exact ⟨w2, z2.sameBut hs hcc⟩
    · obtain ⟨e, n, ne, nf, d⟩ := I.pin p hp
      refine ⟨(hs.2 p.1 ?_).trans e, n, ne, nf, d⟩
      intro q
      rw [q, hoc] at e
      have q' : oc = p.2 := Option.some.inj e
      exact d w' (by rw [← q']; exact hocd)
theorem store_ok {M : Model} {A : Around} {E : Value → Shared → Prop} {i : Nat} {x : Str} {v : V} {u : Value} {Q : Unit → Shared → Prop} (I : Inv X pins σ H s) (hN : X.N.Nodup) (hi : X.N[i]? = some x) (hx : Loc X.env.scope x) (r : RelV v u)
    (h : ∀ s', Inv X pins (σ.set i (some v)) H s' → Q () s') (hf : X.fn x = true ∨ X.env.scope.names.lookup x = some .local := by first | exact .inl rfl | exact .inr rfl | assumption) : wpAny M A (storeName X.env x u) Q E s :=
  store_ok2 I hN hi hx r (fun s' I' _ => h s' I') hf
theorem Inv.call' {s' : Shared} {ch : List Addr} (I : Inv X pins σ H s) (ho : s'.os = s.os) (u : Un (frs X.stack) ch H H' s.heap s'.heap) (hok : HOk X.prog X.w H' s'.heap) (hg : AllBare s'.gens)
    (hch : ∀ b ∈ ch, (b ∈ X.ex ∨ X.s₀.heap.objs.size ≤ b) ∧ b ≠ X.env.locals ∧ (∀ x c, X.env.cells.lookup x = some c → c ≠ b) ∧ ∀ p ∈ X.pn ++ pins, p.1 ≠ b) : Inv X pins σ H' s' := by
  obtain ⟨h', g', d', t', o'⟩ := s'
  have e : o' = s.os := ho
  subst e
  exact I.call (g' := g') (t' := t') (d' := d') u hok hg hch
end

/-! ### the judgements -/
noncomputable abbrev XK := Value → Option Addr → Hp → Prop
noncomputable abbrev St := List (Option V)
noncomputable abbrev VK := V → Hp → Prop
noncomputable abbrev TE := St → Hp → VK → Prop
noncomputable abbrev TT := St → Hp → (Bool → Hp → Prop) → Prop
noncomputable abbrev TA := St → Hp → (List V → Hp → Prop) → Prop
set_option genInjectivity false in
structure Ends where
  nx : St → Hp → Prop
  rt : VK
  bk : St → Hp → Prop := fun _ _ => False
  ct : St → Hp → Prop := fun _ _ => False
noncomputable abbrev TS := Ends → St → Hp → Prop

noncomputable def EP (X : Cx) (pins : List (Addr × Obj)) (σ : St) (Q : VK) (u : Value) (s' : Shared) : Prop := ∃ v H', Inv X pins σ H' s' ∧ RelV v u ∧ Q v H'
noncomputable def TP (X : Cx) (pins : List (Addr × Obj)) (σ : St) (Q : Bool → Hp → Prop) (b : Bool) (s' : Shared) : Prop := ∃ H', Inv X pins σ H' s' ∧ Q b H'
noncomputable def AP (X : Cx) (pins : List (Addr × Obj)) (σ : St) (Q : List V → Hp → Prop) (us : List Value) (s' : Shared) : Prop := ∃ vs H', Inv X pins σ H' s' ∧ Vals vs us ∧ Q vs H'
noncomputable def SP (X : Cx) (pins : List (Addr × Obj)) (D : Ends) (f : Flow) (s' : Shared) : Prop :=
  match f with
  | .next => ∃ σ' H', Inv X pins σ' H' s' ∧ D.nx σ' H'
  | .brk => ∃ σ' H', Inv X pins σ' H' s' ∧ D.bk σ' H'
  | .cont => ∃ σ' H', Inv X pins σ' H' s' ∧ D.ct σ' H'
  | .ret u => ∃ v σ' H', Inv X pins σ' H' s' ∧ RelV v u ∧ D.rt v H'

noncomputable def PE (X : Cx) (e : Expr) (t : TE) : Prop :=
  ∀ (pins : List (Addr × Obj)) (s : Shared) (σ : St) (H : Hp) (Q : VK), Inv X pins σ H s → t σ H Q → wpAny (model X.prog X.w) X.A (eval e X.env) (EP X pins σ Q) X.xe s
noncomputable def PT (X : Cx) (e : Expr) (t : TT) : Prop :=
  ∀ (pins : List (Addr × Obj)) (s : Shared) (σ : St) (H : Hp) (Q : Bool → Hp → Prop), Inv X pins σ H s → t σ H Q → wpAny (model X.prog X.w) X.A (isTrue e X.env (eval e X.env)) (TP X pins σ Q) X.xe s
noncomputable def PW (X : Cx) (e : Expr) (t : TT) : Prop :=
  ∀ (whole : Sem Value) (pins : List (Addr × Obj)) (s : Shared) (σ : St) (H : Hp) (Q : Bool → Hp → Prop), Inv X pins σ H s → t σ H Q → wpAny (model X.prog X.w) X.A (isTrue e X.env whole) (TP X pins σ Q) X.xe s
theorem PW.pt {X : Cx} {e : Expr} {t : TT} (h : PW X e t) : PT X e t := h _
noncomputable def PA (X : Cx) (es : List Expr) (t : TA) : Prop :=
  ∀ (pos : Pos) (pins : List (Addr × Obj)) (s : Shared) (σ : St) (H : Hp) (Q : List V → Hp → Prop), Inv X pins σ H s → t σ H Q → wpAny (model X.prog X.w) X.A (spliced (backTo pos (starEach es X.env))) (AP X pins σ Q) X.xe s
noncomputable def PS (X : Cx) (st : Stmt) (t : TS) : Prop :=
  ∀ (pins : List (Addr × Obj)) (s : Shared) (σ : St) (H : Hp) (D : Ends), Inv X pins σ H s → t D σ H → wpAny (model X.prog X.w) X.A (exec st X.env) (SP X pins D) X.xe s
noncomputable def PSs (X : Cx) (st : List Stmt) (t : TS) : Prop :=
  ∀ (pins : List (Addr × Obj)) (s : Shared) (σ : St) (H : Hp) (D : Ends), Inv X pins σ H s → t D σ H → wpAny (model X.prog X.w) X.A (execs st X.env) (SP X pins D) X.xe s
theorem thn {α : Type} {t : Sem α} {Q Q' : α → Shared → Prop} {M : Model} {A : Around} {E : Value → Shared → Prop} {s : Shared} (h : wpAny M A t Q E s) (hQ : ∀ a s, Q a s → Q' a s) : wpAny M A t Q' E s := wpAny_mono h hQ fun _ _ x => x
end L2

namespace L2
open PySem PySem.Spec PyProof.Rows
section
variable {X : Cx}

theorem bin {a b : Expr} {ta tb : TE} (ha : PE X a ta) (hb : PE X b tb) {pins : List (Addr × Obj)} {s : Shared} {σ : St} {H : Hp} {R : V → V → Hp → Prop} (I : Inv X pins σ H s) (h : ta σ H fun x H1 => tb σ H1 fun y H2 => R x y H2)
    {α : Type} {Q : α → Shared → Prop} {f : Value → Value → Sem α}
    (hf : ∀ v u s2 x y H2, Inv X pins σ H2 s2 → RelV x v → RelV y u → R x y H2 → wpAny (model X.prog X.w) X.A (f v u) Q X.xe s2) :
    wpAny (model X.prog X.w) X.A (eval a X.env) (fun v s₁ => wpAny (model X.prog X.w) X.A (eval b X.env) (fun u s₂ => wpAny (model X.prog X.w) X.A (f v u) Q X.xe s₂) X.xe s₁) X.xe s := by
  refine thn (ha pins s σ H _ I h) fun v s1 ⟨x, H1, I1, r1, q1⟩ => ?_
  refine thn (hb pins s1 σ H1 _ I1 q1) fun u s2 ⟨y, H2, I2, r2, q2⟩ => ?_
  exact hf v u s2 x y H2 I2 r1 r2 q2

/-! ### names and constants -/
noncomputable def tVar (i : Nat) : TE := fun σ H Q => ∃ v, σ[i]? = some (some v) ∧ Q v H
noncomputable def tC (v : V) : TE := fun _ H Q => Q v H
theorem pe_var {i : Nat} {x : Str} {pos : Pos} (hN : X.N[i]? = some x) (hv : Vis X.env.scope x) (hd : (x == ("__debug__" : Str)) = false := by decide) (hcd : (x == ("__classdict__" : Str)) = false := by decide) : PE X (.Name x pos) (tVar i) := by
  intro pins s σ H Q I h
  obtain ⟨v, e, h⟩ := h
  obtain ⟨m, hn, hl⟩ := I.loc
  obtain ⟨u, r, l⟩ := hl i x v hN e hv
  have fin : EP X pins σ Q u s := ⟨v, H, I, r, h⟩
  rcases l with ⟨hk, hm⟩ | ⟨hk, c, hc, hcell⟩
  · exact wpAny_Name (wpAny_loadName_local I.ok.kind hk hn hm fin) hd
  · rcases hk with hk | hk
    · exact wpAny_Name (wpAny_loadName_cell I.ok.kind hk hc hcell fin) hd
    · exact wpAny_Name (wpAny_loadName_free I.ok.kind hk hc hcell fin hcd) hd
theorem pe_int {i j pos} : PE X (.Constant (.int i) j pos) (tC (.int i)) := fun _ _ _ H _ I h => wpAny_Constant_int ⟨.int i, H, I.tok _, ⟨_, rfl⟩, h⟩
theorem pe_bl {b j pos} : PE X (.Constant (.bool b) j pos) (tC (.bl b)) := fun _ _ _ H _ I h => Constant_bool ⟨.bl b, H, I, rfl, h⟩
theorem pe_non {j pos} : PE X (.Constant .none j pos) (tC .non) := fun _ _ _ H _ I h => Constant_none ⟨.non, H, I, rfl, h⟩
theorem pe_str {x j pos} : PE X (.Constant (.str x) j pos) (tC (.str x)) := fun _ _ _ H _ I h => Calls.Constant_str ⟨.str x, H, I.tok _, ⟨_, rfl⟩, h⟩

noncomputable def Gl (X : Cx) (x : Str) : Prop := X.env.kindOf x = some .globalImplicit
theorem ld_glob {E : Value → Shared → Prop} {pins : List (Addr × Obj)} {s : Shared} {σ : St} {H : Hp} {x : Str} {u : Value} {pos : Pos} {Q : Value → Shared → Prop} (I : Inv X pins σ H s) (hg : Gl X x) (hm : X.mg x = some u) (h : Q u s)
    (hd : (x == ("__debug__" : Str)) = false := by decide) : wpAny (model X.prog X.w) X.A (eval (.Name x pos) X.env) Q E s :=
  Calls.Name_function_global I.ok.kind hg (Calls.loadGlobal_global (by rw [I.ok.glob]; exact I.mod.glob.keeps I.bk) hm h) hd
theorem ld_blt {E : Value → Shared → Prop} {pins : List (Addr × Obj)} {s : Shared} {σ : St} {H : Hp} {x : Str} {u : Value} {pos : Pos} {Q : Value → Shared → Prop} (I : Inv X pins σ H s) (hg : Gl X x) (hm : X.mg x = none) (hv : bootBuiltins x = some u) (h : Q u s)
    (hn : x ≠ "__name__" := by decide) (hd : (x == ("__debug__" : Str)) = false := by decide) : wpAny (model X.prog X.w) X.A (eval (.Name x pos) X.env) Q E s := by
  obtain ⟨mb, h1, h2⟩ := I.mod.blt
  exact Calls.Name_function_global I.ok.kind hg (Calls.loadGlobal_builtin (by rw [I.ok.glob]; exact I.mod.glob.keeps I.bk) hm (by rw [I.ok.blt]; exact h1.keeps I.bk) ((h2 x hn).trans hv) h) hd
theorem pe_glob {x : Str} {v : V} {u : Value} {pos : Pos} (hg : Gl X x) (hm : X.mg x = some u) (r : RelV v u) (hd : (x == ("__debug__" : Str)) = false := by decide) : PE X (.Name x pos) (tC v) :=
  fun _ _ _ H _ I h => ld_glob I hg hm ⟨v, H, I, r, h⟩ hd
theorem pe_bltn {x : Str} {v : V} {u : Value} {pos : Pos} (hg : Gl X x) (hm : X.mg x = none) (hv : bootBuiltins x = some u) (r : RelV v u) (hn : x ≠ "__name__" := by decide) (hd : (x == ("__debug__" : Str)) = false := by decide) : PE X (.Name x pos) (tC v) :=
  fun _ _ _ H _ I h => ld_blt I hg hm hv ⟨v, H, I, r, h⟩ hn hd

/-! ### arithmetic -/
variable {a b : Expr} {ta tb : TE} {pos : Pos}

/-! ### comparisons -/
noncomputable def PC (X : Cx) (op : CmpOp) (a b : Expr) (t : TE) : Prop :=
  ∀ (pins : List (Addr × Obj)) (s : Shared) (σ : St) (H : Hp) (Q : VK), Inv X pins σ H s → t σ H Q →
    wpAny (model X.prog X.w) X.A (eval a X.env) (fun v s₁ => wpAny (model X.prog X.w) X.A (eval b X.env) (fun u s₂ => wpAny (model X.prog X.w) X.A (compareOp op v u) (EP X pins σ Q) X.xe s₂) X.xe s₁) X.xe s
theorem nobehind (b : Expr) {op : CmpOp} (h : op ≠ .In) (h2 : op ≠ .NotIn) : behindInMarks op b = false := by
  have e1 : (op == CmpOp.In) = false := by cases op <;> first | rfl | exact absurd rfl h
  have e2 : (op == CmpOp.NotIn) = false := by cases op <;> first | rfl | exact absurd rfl h2
  cases b <;> simp [behindInMarks, e1, e2]
noncomputable def tB (t : TE) : TT := fun σ H Q => t σ H fun x H1 => ∃ c, x = .bl c ∧ Q c H1
theorem pt_cmp {op : CmpOp} {t : TE} (h : PC X op a b t) (h1 : behindInMarks op b = false := by first | exact nobehind _ (by decide) (by decide) | rfl) : PT X (.Compare a [op] [b] pos) (tB t) := by
  intro pins s σ H Q I hw
  refine wpAny_isTrue_Compare1 (thn (h pins s σ H _ I hw) fun v s1 h1 => thn h1 fun u s2 h2 => thn h2 fun c s3 ⟨x, H1, I1, r1, q1⟩ => ?_) h1
  obtain ⟨d, rfl, q⟩ := q1
  cases r1
  exact wpAny_truthy_bool ⟨H1, I1, q⟩
theorem pt_val {e : Expr} {t : TE} (h : PE X e t) (he : ∀ whole, isTrue e X.env whole = (do let v ← whole; standAt e.pos; holding [v] (truthy v)) := by intro _; rfl) : PT X e (tB t) := by
  intro pins s σ H Q I hw
  refine isTrue_plain (thn (h pins s σ H _ I hw) fun v s1 ⟨x, H1, I1, r1, q1⟩ => ?_) (he _)
  obtain ⟨d, rfl, q⟩ := q1
  cases r1
  exact wpAny_truthy_bool ⟨H1, I1, q⟩

/-! ### and, or, not -/
variable {tA tB' : TT} {rest : List Expr}
noncomputable def tAnd (t u : TT) : TT := fun σ H Q => t σ H fun c H1 => if c = true then u σ H1 Q else Q false H1
noncomputable def tOr (t u : TT) : TT := fun σ H Q => t σ H fun c H1 => if c = true then Q true H1 else u σ H1 Q
noncomputable def tNot (t : TT) : TT := fun σ H Q => t σ H fun c H1 => Q (!c) H1
theorem pw_and1 (ha : PT X a tA) : PW X (.BoolOp .And [a] pos) tA := by
  intro wh pins s σ H Q I h
  refine isTrue_and (thn (ha pins s σ H Q I h) fun c s1 e => ?_)
  cases c with
  | true => exact isTrue_and_nil e
  | false => exact e
theorem pw_or1 (ha : PT X a tA) : PW X (.BoolOp .Or [a] pos) tA := by
  intro wh pins s σ H Q I h
  refine isTrue_or (thn (ha pins s σ H Q I h) fun c s1 e => ?_)
  cases c with
  | false => exact isTrue_or_nil e
  | true => exact e
theorem pw_and (ha : PT X a tA) (hb : PW X (.BoolOp .And (b :: rest) pos) tB') : PW X (.BoolOp .And (a :: b :: rest) pos) (tAnd tA tB') := by
  intro wh pins s σ H Q I h
  refine isTrue_and (thn (ha pins s σ H _ I h) fun c s1 ⟨H1, I1, q1⟩ => ?_)
  cases c with
  | true => exact hb wh pins s1 σ H1 Q I1 q1
  | false => exact ⟨H1, I1, q1⟩
theorem pw_or (ha : PT X a tA) (hb : PW X (.BoolOp .Or (b :: rest) pos) tB') : PW X (.BoolOp .Or (a :: b :: rest) pos) (tOr tA tB') := by
  intro wh pins s σ H Q I h
  refine isTrue_or (thn (ha pins s σ H _ I h) fun c s1 ⟨H1, I1, q1⟩ => ?_)
  cases c with
  | true => exact ⟨H1, I1, q1⟩
  | false => exact hb wh pins s1 σ H1 Q I1 q1
theorem pt_not (ha : PT X a tA) : PT X (.UnaryOp .Not a pos) (tNot tA) := by
  intro pins s σ H Q I h
  exact isTrue_not (ha pins s σ H (fun c H1 => Q (!c) H1) I h)
noncomputable def tAndV (ta tb : TE) : TE := fun σ H Q => ta σ H fun x H1 => ∃ c, x = .bl c ∧ if c = true then tb σ H1 Q else Q (.bl false) H1
noncomputable def tOrV (ta tb : TE) : TE := fun σ H Q => ta σ H fun x H1 => ∃ c, x = .bl c ∧ if c = true then Q (.bl true) H1 else tb σ H1 Q
noncomputable def tNotV (ta : TE) : TE := fun σ H Q => ta σ H fun x H1 => ∃ c, x = .bl c ∧ Q (.bl (!c)) H1
theorem pe_one {op} {t : TE} (h : PE X a t) : PE X (.BoolOp op [a] pos) t := fun pins s σ H Q I hw => BoolOp_one (h pins s σ H Q I hw)
theorem pe_and (ha : PE X a ta) (hb : PE X (.BoolOp .And (b :: rest) pos) tb) : PE X (.BoolOp .And (a :: b :: rest) pos) (tAndV ta tb) := by
  intro pins s σ H Q I h
  refine BoolOp_and (thn (ha pins s σ H _ I h) fun v s1 ⟨x, H1, I1, r1, q1⟩ => ?_)
  obtain ⟨c, rfl, q1⟩ := q1
  cases r1
  refine wpAny_truthy_bool ?_
  cases c with
  | true => exact hb pins s1 σ H1 Q I1 q1
  | false => exact ⟨.bl false, H1, I1, rfl, q1⟩
theorem pe_not (ha : PE X a ta) : PE X (.UnaryOp .Not a pos) (tNotV ta) := by
  intro pins s σ H Q I h
  refine UnaryOp_ (thn (ha pins s σ H _ I h) fun v s1 ⟨x, H1, I1, r1, q1⟩ => ?_)
  obtain ⟨c, rfl, q1⟩ := q1
  cases r1
  exact not_of (wpAny_truthy_bool ⟨.bl (!c), H1, I1, rfl, q1⟩)
noncomputable def tIf (t : TT) (ta tb : TE) : TE := fun σ H Q => t σ H fun c H1 => if c = true then ta σ H1 Q else tb σ H1 Q
end
end L2

namespace L2
open PySem PySem.Spec PyProof.Rows

/-! ### a list, a tuple that is read: tracked, frozen, or an object of the module -/
noncomputable def SqL (K : PySem.W.Frag) (H : Hp) (a : Addr) (xs : List V) : Prop :=
  Rd H a (.lst xs) ∨
    ∃ (o : Obj) (its : Array Value) (n : Nat), K.lookup a = some o ∧ o.cls = .type "list" ∧ o.dict = none ∧ o.data = .seq its n ∧ its.size ≤ sizeLine ∧ Vals xs its.toList
noncomputable def SqT (K : PySem.W.Frag) (H : Hp) (a : Addr) (xs : List V) : Prop :=
  Rd H a (.tup xs) ∨
    ∃ (o : Obj) (its : Array Value) (n : Nat), K.lookup a = some o ∧ o.cls = .type "tuple" ∧ o.data = .seq its n ∧ its.size ≤ sizeLine ∧ Vals xs its.toList
noncomputable def absV : Value → Option V
  | .none => some .non
  | .bool b => some (.bl b)
  | .int i _ => some (.int i)
  | .str x _ => some (.str x)
  | .bytes b _ => some (.byt b)
  | .float b _ => some (.flt b)
  | .ref a => some (.ref a)
  | .type n => some (.ty n)
  | _ => none
theorem RelV.abs {x : V} {u : Value} (r : RelV x u) : absV u = some x := by
  cases x with
  | non => cases r; rfl
  | bl _ => cases r; rfl
  | int _ => obtain ⟨t, rfl⟩ := r; rfl
  | str _ => obtain ⟨t, rfl⟩ := r; rfl
  | byt _ => obtain ⟨t, rfl⟩ := r; rfl
  | flt _ => obtain ⟨t, rfl⟩ := r; rfl
  | ref _ => cases r; rfl
  | ty _ => cases r; rfl
theorem RelV.inj {x y : V} {u : Value} (r : RelV x u) (q : RelV y u) : x = y := Option.some.inj (r.abs.symm.trans q.abs)
theorem Vals.inj : ∀ {xs ys : List V} {us : List Value}, Vals xs us → Vals ys us → xs = ys
  | _, _, _, .nil, .nil => rfl
  | _, _, _, .cons r t, .cons r' t' => by rw [r.inj r', Vals.inj t t']
section
variable {X : Cx} {pins : List (Addr × Obj)} {σ : St} {H : Hp} {s : Shared} {a : Addr} {xs ys : List V}
theorem SqL.of {K : PySem.W.Frag} (h : H a = some (.lst xs)) : SqL K H a xs := .inl (.inl h)
theorem SqT.of {K : PySem.W.Frag} (h : H a = some (.tup xs)) : SqT K H a xs := .inl (.inl h)
theorem Inv.list (I : Inv X pins σ H s) (h : SqL X.K H a xs) : ∃ its : List Value, Vals xs its ∧ PlainL s.heap a its.toArray ∧ xs.length ≤ sizeLine := by
  rcases h with h | ⟨o, its, n, hk, hc, hd, hs, hz, r⟩
  · obtain ⟨z, its, n, r, e⟩ := h.ok I.hok
    exact ⟨its, r, ⟨_, n, e, rfl, rfl, rfl⟩, z⟩
  · refine ⟨its.toList, r, ⟨o, n, I.kIn a o hk, hc, hd, by simpa using hs⟩, ?_⟩
    have e := r.length
    simp only [Array.length_toList] at e
    omega
theorem Inv.tuple (I : Inv X pins σ H s) (h : SqT X.K H a xs) : ∃ its : List Value, Vals xs its ∧ IsTup s.heap a its.toArray ∧ xs.length ≤ sizeLine := by
  rcases h with h | ⟨o, its, n, hk, hc, hs, hz, r⟩
  · obtain ⟨z, its, r, p⟩ := h.ok I.hok
    exact ⟨its, r, p, z⟩
  · refine ⟨its.toList, r, ⟨o, I.kIn a o hk, hc, n, by simpa using hs⟩, ?_⟩
    have e := r.length
    simp only [Array.length_toList] at e
    omega
theorem Inv.list_inj (I : Inv X pins σ H s) (h : SqL X.K H a xs) (h' : SqL X.K H a ys) : xs = ys := by
  obtain ⟨its, r, ⟨o, n, e, _, _, d⟩, _⟩ := I.list h
  obtain ⟨its', r', ⟨o', n', e', _, _, d'⟩, _⟩ := I.list h'
  rw [e] at e'; cases e'
  rw [d] at d'
  injection d' with d1 _
  have : its = its' := by simpa using congrArg Array.toList d1
  subst this
  exact r.inj r'
theorem Inv.tuple_inj (I : Inv X pins σ H s) (h : SqT X.K H a xs) (h' : SqT X.K H a ys) : xs = ys := by
  obtain ⟨its, r, ⟨o, e, _, n, d⟩, _⟩ := I.tuple h
  obtain ⟨its', r', ⟨o', e', _, n', d'⟩, _⟩ := I.tuple h'
  rw [e] at e'; cases e'
  rw [d] at d'
  injection d' with d1 _
  have : its = its' := by simpa using congrArg Array.toList d1
  subst this
  exact r.inj r'
end

/-! ### another wish about exceptions -/
noncomputable abbrev Cx.wish (X : Cx) (E : Value → Shared → Prop) : Cx := { X with xe := E }
noncomputable abbrev Cx.nox (X : Cx) : Cx := X.wish fun _ _ => False
theorem Cx.Ok.wish {X : Cx} (ok : X.Ok) (E : Value → Shared → Prop) : (X.wish E).Ok :=
  ⟨ok.mod, ok.kind, ok.glob, ok.blt, ok.above, ok.inj, ok.has, ok.cab, ok.hd, ok.frames, ok.stk, ok.exf, ok.bs, ok.bsz, ok.noex, ok.exfs, ok.funs, ok.frf⟩
theorem Cx.Ok.unwish {X : Cx} {E : Value → Shared → Prop} (ok : (X.wish E).Ok) : X.Ok :=
  ⟨ok.mod, ok.kind, ok.glob, ok.blt, ok.above, ok.inj, ok.has, ok.cab, ok.hd, ok.frames, ok.stk, ok.exf, ok.bs, ok.bsz, ok.noex, ok.exfs, ok.funs, ok.frf⟩
section
variable {X : Cx} {pins : List (Addr × Obj)} {σ : St} {H : Hp} {s : Shared} {E : Value → Shared → Prop}
theorem Inv.wish (I : Inv X pins σ H s) (E : Value → Shared → Prop) : Inv (X.wish E) pins σ H s := ⟨I.ok.wish E, I.os, I.bare, I.base, I.loc, I.cell, I.free, I.freeC, I.pin, I.hok, I.len⟩
theorem Inv.unwish (I : Inv (X.wish E) pins σ H s) : Inv X pins σ H s := ⟨I.ok.unwish, I.os, I.bare, I.base, I.loc, I.cell, I.free, I.freeC, I.pin, I.hok, I.len⟩
theorem SP.unwish {D : Ends} {f : Flow} {s' : Shared} (h : SP (X.wish E) pins D f s') : SP X pins D f s' := by
  cases f with
  | next => obtain ⟨σ', H', I, q⟩ := h; exact ⟨σ', H', I.unwish, q⟩
  | brk => obtain ⟨σ', H', I, q⟩ := h; exact ⟨σ', H', I.unwish, q⟩
  | cont => obtain ⟨σ', H', I, q⟩ := h; exact ⟨σ', H', I.unwish, q⟩
  | ret u => obtain ⟨v, σ', H', I, r, q⟩ := h; exact ⟨v, σ', H', I.unwish, r, q⟩
theorem PSs.nox {st : List Stmt} {t : TS} (h : PSs X.nox st t) : PSs X st t := fun pins s σ H D I hw =>
  wpAny_mono (h pins s σ H D (I.wish _) hw) (fun _ _ q => q.unwish) fun _ _ z => False.elim z
end

/-! ### blocks and small statements -/
section
variable {X : Cx} {st : Stmt} {rest : List Stmt} {t u : TS} {e : Expr} {te : TE} {pos : Pos}
noncomputable def tNext : TS := fun D σ H => D.nx σ H
noncomputable def tSeq (t u : TS) : TS := fun D σ H => t { D with nx := u D } σ H
theorem pss_nil : PSs X [] tNext := fun _ _ σ H _ I h => wpAny_execs_nil ⟨σ, H, I, h⟩
theorem pss_cons (h1 : PS X st t) (h2 : PSs X rest u) : PSs X (st :: rest) (tSeq t u) := by
  intro pins s σ H D I h
  refine wpAny_execs_cons (thn (h1 pins s σ H { D with nx := u D } I h) fun f s1 q => ?_)
  cases f with
  | next =>
    obtain ⟨σ', H', I', q⟩ := q
    exact h2 pins s1 σ' H' D I' q
  | ret v => exact q
  | brk => exact q
  | cont => exact q
theorem pss_one (h1 : PS X st t) : PSs X [st] t := by
  intro pins s σ H D I h
  refine wpAny_execs_cons (thn (h1 pins s σ H D I h) fun f s1 q => ?_)
  cases f with
  | next => exact wpAny_execs_nil q
  | ret v => exact q
  | brk => exact q
  | cont => exact q
theorem Inv.quiet {pins : List (Addr × Obj)} {σ : St} {H : Hp} {s : Shared} (I : Inv X pins σ H s) : interactive X.env = false := by simp [interactive, I.ok.kind]
noncomputable def tDrop (te : TE) : TS := fun D σ H => te σ H fun _ H1 => D.nx σ H1
theorem ps_expr (he : PE X e te) (hs : swapsWith e none pos.line X.env = pure false := by rfl) : PS X (.Expr e pos) (tDrop te) := by
  intro pins s σ H D I h
  exact wpAny_Expr_any (thn (he pins s σ H _ I h) fun v s1 ⟨x, H1, I1, r1, q1⟩ => ⟨σ, H1, I1, q1⟩) I.quiet hs
noncomputable def tRet (te : TE) : TS := fun D σ H => te σ H D.rt
theorem ps_ret (he : PE X e te) : PS X (.Return (some e) pos) (tRet te) := by
  intro pins s σ H D I h
  exact wpAny_Return_some (thn (he pins s σ H _ I h) fun v s1 ⟨x, H1, I1, r1, q1⟩ => ⟨x, σ, H1, I1, r1, q1⟩)
noncomputable def tRetN : TS := fun D _ H => D.rt .non H
theorem ps_retN : PS X (.Return none pos) tRetN := fun _ _ σ H _ I h => wpAny_Return_none ⟨.non, σ, H, I, rfl, h⟩
noncomputable def tIfS (c : TT) (t u : TS) : TS := fun D σ H => c σ H fun b H1 => if b = true then t D σ H1 else u D σ H1
theorem ps_if {c : Expr} {a b : List Stmt} {tc : TT} (hc : PT X c tc) (ha : PSs X a t) (hb : PSs X b u) : PS X (.If c a b pos) (tIfS tc t u) := by
  intro pins s σ H D I h
  refine wpAny_If (thn (hc pins s σ H _ I h) fun d s1 ⟨H1, I1, q1⟩ => ?_)
  cases d with
  | true => exact ha pins s1 σ H1 D I1 q1
  | false => exact hb pins s1 σ H1 D I1 q1
end

/-! ### targets -/
noncomputable abbrev TG := V → St → Hp → (St → Hp → Prop) → Prop
noncomputable abbrev TGs := List V → St → Hp → (St → Hp → Prop) → Prop
noncomputable def PG (X : Cx) (target : Expr) (t : TG) : Prop :=
  ∀ (pins : List (Addr × Obj)) (s : Shared) (σ : St) (H : Hp) (v : V) (u : Value) (Q : St → Hp → Prop), Inv X pins σ H s → RelV v u → t v σ H Q →
    wpAny (model X.prog X.w) X.A (assign target X.env u) (fun _ s' => ∃ σ' H', Inv X pins σ' H' s' ∧ Q σ' H') X.xe s
noncomputable def PGs (X : Cx) (ts : List Expr) (t : TGs) : Prop :=
  ∀ (pins : List (Addr × Obj)) (s : Shared) (σ : St) (H : Hp) (vs : List V) (us : List Value) (Q : St → Hp → Prop), Inv X pins σ H s → Vals vs us → t vs σ H Q →
    wpAny (model X.prog X.w) X.A (assignInOrder ((assignEach ts X.env).map (·.2)) us) (fun _ s' => ∃ σ' H', Inv X pins σ' H' s' ∧ Q σ' H') X.xe s
noncomputable abbrev TIp := V → V → Hp → VK → Prop
noncomputable def PIp (X : Cx) (op : Operator) (t : TIp) : Prop :=
  ∀ (pins : List (Addr × Obj)) (s : Shared) (σ : St) (H : Hp) (x y : V) (v u : Value) (Q : VK), Inv X pins σ H s → RelV x v → RelV y u → t x y H Q →
    wpAny (model X.prog X.w) X.A (inplaceOp op v u) (EP X pins σ Q) X.xe s
section
variable {X : Cx} {pos : Pos}
noncomputable def gName (i : Nat) : TG := fun v σ H Q => Q (σ.set i (some v)) H
theorem pg_name {i : Nat} {x : Str} (hN : X.N.Nodup) (hi : X.N[i]? = some x) (hx : Loc X.env.scope x) (hf : X.fn x = true ∨ X.env.scope.names.lookup x = some .local := by first | exact .inl rfl | exact .inr rfl | assumption) : PG X (.Name x pos) (gName i) := by
  intro pins s σ H v u Q I r h
  exact wpAny_assign_Name (store_ok I hN hi hx r (fun s' I' => ⟨_, H, I', h⟩) hf)
noncomputable def gNil : TGs := fun vs σ H Q => vs = [] ∧ Q σ H
noncomputable def gCons (t : TG) (u : TGs) : TGs := fun vs σ H Q => ∃ v r, vs = v :: r ∧ t v σ H fun σ' H' => u r σ' H' Q
theorem pgs_nil : PGs X [] gNil := by
  intro pins s σ H vs us Q I r h
  obtain ⟨e, h⟩ := h
  subst e
  cases r
  exact assignInOrder_nil ⟨σ, H, I, h⟩
theorem pgs_cons {e : Expr} {es : List Expr} {t : TG} {u : TGs} (h1 : PG X e t) (h2 : PGs X es u)
    (hs : (assignEach (e :: es) X.env).map (·.2) = assign e X.env :: (assignEach es X.env).map (·.2) := by rfl) : PGs X (e :: es) (gCons t u) := by
  intro pins s σ H vs us Q I r h
  obtain ⟨v, vr, e1, h⟩ := h
  subst e1
  cases r with
  | cons r rr =>
    rw [hs]
    refine assignInOrder_cons (thn (h1 pins s σ H _ _ _ I r h) fun _ s1 ⟨σ1, H1, I1, q1⟩ => ?_)
    exact h2 pins s1 σ1 H1 _ _ Q I1 rr q1
noncomputable def gTup (K : PySem.W.Frag) (n : Nat) (t : TGs) : TG := fun v σ H Q => ∃ a xs, v = .ref a ∧ SqT K H a xs ∧ xs.length = n ∧ t xs σ H Q
theorem pg_tup {es : List Expr} {k : Nat} {t : TGs} {n : Nat} (hc : X.calm = true) (h : PGs X es t)
    (hn : (assignEach es X.env).length = n := by rfl) (hst : (assignEach es X.env).findIdx? (·.1) = none := by rfl) : PG X (.Tuple es k pos) (gTup X.K n t) := by
  intro pins s σ H v u Q I r hw
  obtain ⟨a, xs, e1, hq, hl, hw⟩ := hw
  subst e1
  cases r
  obtain ⟨its, rv, ht, hz⟩ := I.tuple hq
  refine assign_Tuple_tuple (I.ok.hd hc) ht (by simp [hn, ← hl, rv.length]) hst fun h' hx => ?_
  have I1 : Inv X pins σ H { s with heap := h' } := I.kept (t' := s.toks) fun b o e => hx b o (Nat.ne_of_lt (Heap.lt_size e)) e
  exact h pins _ σ H xs _ Q I1 (by simpa using rv) hw
noncomputable def tAsg (te : TE) (g : TG) : TS := fun D σ H => te σ H fun x H1 => g x σ H1 D.nx
theorem ps_asg {tg e : Expr} {te : TE} {g : TG} (he : PE X e te) (hg : PG X tg g) (hs : swapsWithSole [tg] e pos.line X.env = pure false := by rfl) (hw : swappedStores [tg] e X.env = pure none := by rfl)
    (h1 : (assignEach [tg] X.env).map (·.2) = [assign tg X.env] := by rfl) : PS X (.Assign [tg] e pos) (tAsg te g) := by
  intro pins s σ H D I h
  refine wpAny_Assign_stores (thn (he pins s σ H _ I h) fun v s1 ⟨x, H1, I1, r1, q1⟩ => ?_) hs hw
  rw [h1]
  exact thn (hg pins s1 σ H1 x v _ I1 r1 q1) fun _ s2 q => q
theorem ps_set {i : Nat} {x : Str} {e : Expr} {te : TE} {pos' : Pos} (hN : X.N.Nodup) (hi : X.N[i]? = some x) (hx : Loc X.env.scope x) (he : PE X e te) (hs : swapsWith e (some (.Name x pos')) pos.line X.env = pure false := by rfl) (hf : X.fn x = true ∨ X.env.scope.names.lookup x = some .local := by first | exact .inl rfl | exact .inr rfl | assumption) :
    PS X (.Assign [.Name x pos'] e pos) (tAsg te (gName i)) := by
  intro pins s σ H D I h
  refine wpAny_Assign_Name (thn (he pins s σ H _ I h) fun v s1 ⟨y, H1, I1, r1, q1⟩ => ?_) hs
  exact store_ok I1 hN hi hx r1 (fun s2 I2 => ⟨_, H1, I2, q1⟩) hf
noncomputable def tAug (i : Nat) (te : TE) (ti : TIp) : TS := fun D σ H => ∃ x, σ[i]? = some (some x) ∧ te σ H fun y H1 => ti x y H1 fun z H2 => D.nx (σ.set i (some z)) H2
end

/-! ### while -/
section
variable {X : Cx} {pos : Pos}
end

/-! ### what a loop or a comprehension walks -/
set_option genInjectivity false in
structure It where
  go : Nat → Hp → Prop
  yld : Nat → Hp → V → Hp → Prop
  stop : Nat → Hp → Prop
noncomputable def FpOk (X : Cx) (pins : List (Addr × Obj)) (H : Hp) (b : Addr) : Prop :=
  H b = none ∧ b ≠ X.env.locals ∧ b ∉ X.fs ∧ (b ∈ X.ex ∨ X.s₀.heap.objs.size ≤ b) ∧ (∀ x c, X.env.cells.lookup x = some c → c ≠ b) ∧ ∀ p ∈ X.pn ++ pins, p.1 ≠ b
theorem Inv.fpOk {X : Cx} {pins : List (Addr × Obj)} {σ : St} {H H' : Hp} {s : Shared} {b : Addr} (I : Inv X pins σ H s) (hb : s.heap.objs.size ≤ b) (hn : H' b = none) : FpOk X pins H' b := by
  refine ⟨hn, Nat.ne_of_gt (Nat.lt_of_lt_of_le I.lt hb), I.nofs hb, .inr (Nat.le_trans I.sz hb), fun x c e z => ?_, fun p hp z => ?_⟩
  · obtain ⟨v, q⟩ := I.cell x c e
    exact absurd (Nat.lt_of_lt_of_le q.lt (by rw [z]; exact hb)) (Nat.lt_irrefl _)
  · exact absurd (Nat.lt_of_lt_of_le (Heap.lt_size (I.pin p hp).1) (by rw [z]; exact hb)) (Nat.lt_irrefl _)
set_option genInjectivity false in
structure Turn (P : Program) (w : World) (K : PySem.W.Frag) (tg : Expr) (J : It) (fp : List Addr) (it : Addr) (tn : Nat → Heap → Prop) : Prop where
  mem : it ∈ fp
  obj : ∀ i h, tn i h → ∀ b ∈ fp, ∃ o, h.get? b = some o ∧ ∀ v, o.data ≠ .cell v
  keep : ∀ i h h', tn i h → (∀ b ∈ fp, ∀ o, h.get? b = some o → h'.get? b = some o) → tn i h'
  item : ∀ (X : Cx), X.prog = P → X.w = w → X.K = K → X.calm = true → ∀ (i : Nat) (pins : List (Addr × Obj)) (s : Shared) (σ : St) (H : Hp) (E : Value → Shared → Prop), Inv X pins σ H s → (∀ b ∈ fp, FpOk X pins H b) → tn i s.heap → J.go i H →
    wpAny (model P w) X.A (pyNext (.ref it)) (fun r s1 => ∃ u, r = some u ∧
      wpAny (model P w) X.A (letOwnedTupleGo tg (.ref it) u) (fun _ s2 => ∃ x H', Inv X pins σ H' s2 ∧ RelV x u ∧ J.yld i H x H' ∧ tn (i + 1) s2.heap ∧ ∀ b ∈ fp, H' b = none) E s1) E s
  done : ∀ (X : Cx), X.prog = P → X.w = w → X.K = K → X.calm = true → ∀ (i : Nat) (pins : List (Addr × Obj)) (s : Shared) (σ : St) (H : Hp) (E : Value → Shared → Prop), Inv X pins σ H s → (∀ b ∈ fp, FpOk X pins H b) → tn i s.heap → J.stop i H →
    wpAny (model P w) X.A (pyNext (.ref it)) (fun r s1 => r = none ∧ Inv X pins σ H s1) E s
  self : ∀ (A : Around) (i : Nat) (s : Shared) (Q : Value → Shared → Prop) (E : Value → Shared → Prop), tn i s.heap → Q (.ref it) s → wpAny (model P w) A (pyIter (.ref it)) Q E s
noncomputable abbrev TI := St → Hp → (It → Hp → Prop) → Prop
noncomputable def PIE (X : Cx) (pins : List (Addr × Obj)) (σ : St) (tg : Expr) (R : It → Hp → Prop) (itv : Value) (s2 : Shared) : Prop :=
  ∃ (it : Addr) (fp : List Addr) (tn : Nat → Heap → Prop) (J : It) (H' : Hp), itv = .ref it ∧ Inv X pins σ H' s2 ∧ Turn X.prog X.w X.K tg J fp it tn ∧ tn 0 s2.heap ∧ (∀ b ∈ fp, FpOk X pins H' b) ∧ R J H'
noncomputable def PI (X : Cx) (tg iter : Expr) (wi : TI) : Prop :=
  ∀ (pins : List (Addr × Obj)) (s : Shared) (σ : St) (H : Hp) (R : It → Hp → Prop), Inv X pins σ H s → wi σ H R →
    wpAny (model X.prog X.w) X.A (eval iter X.env) (fun v s1 => wpAny (model X.prog X.w) X.A (pyIter v) (PIE X pins σ tg R) X.xe s1) X.xe s

theorem go_of {M : Model} {A : Around} {E : Value → Shared → Prop} {s : Shared} {tg : Expr} {it : Addr} {u : Value} {o : Obj} {n : String} {vs : Array Value} {Q : Unit → Shared → Prop} (ho : s.heap.get? it = some o) (hc : o.cls = .type n) (hd : o.data = .fields vs)
    (hn : ["enumerate", "zip", "dict_itemiterator", "dict_reverseitemiterator", "odict_iterator", "itertools.zip_longest", "itertools.pairwise"].contains n = false) (hQ : Q () s) : wpAny M A (letOwnedTupleGo tg (.ref it) u) Q E s := by
  unfold letOwnedTupleGo
  cases tg <;> first
    | exact wpAny_pure hQ
    | (cases u <;> first
        | exact wpAny_pure hQ
        | (refine wpAny_bind (wpAny_load ho ?_)
           rw [hc, hd]
           show wpAny M A (if (["enumerate", "zip", "dict_itemiterator", "dict_reverseitemiterator", "odict_iterator", "itertools.zip_longest", "itertools.pairwise"].contains n && vs[0]? == some (rawInt _)) = true then _ else _) Q E s
           rw [if_neg (by intro h; rw [hn, Bool.false_and] at h; cases h)]
           exact wpAny_pure hQ))

noncomputable def Itl (K : PySem.W.Frag) (a : Addr) : It :=
  ⟨fun i H => ∃ xs x, SqL K H a xs ∧ xs[i]? = some x, fun i H x H' => H' = H ∧ ∀ xs, SqL K H a xs → xs[i]? = some x, fun i H => ∃ xs, SqL K H a xs ∧ xs.length ≤ i⟩
noncomputable def Itt (K : PySem.W.Frag) (a : Addr) : It :=
  ⟨fun i H => ∃ xs x, SqT K H a xs ∧ xs[i]? = some x, fun i H x H' => H' = H ∧ ∀ xs, SqT K H a xs → xs[i]? = some x, fun i H => ∃ xs, SqT K H a xs ∧ xs.length ≤ i⟩
noncomputable def Itr (lo : Int) (n : Nat) : It := ⟨fun i _ => i < n, fun i H x H' => H' = H ∧ x = .int (lo + i), fun i _ => n ≤ i⟩
theorem turn_list {P : Program} {w : World} {K : PySem.W.Frag} {tg : Expr} (a it : Addr) : Turn P w K tg (Itl K a) [it] it (fun i h => h.IsListIter it a i) where
  mem := by simp
  obj := fun i h st b hb => by
    have e : b = it := by simpa using hb
    subst e
    obtain ⟨o, e, c, d⟩ := st
    exact ⟨o, e, fun v z => by rw [d] at z; cases z⟩
  keep := fun i h h' st k => st.at fun o e => k it (by simp) o e
  item := by
    intro X hP hw hK hc i pins s σ H E I hf st hg
    subst hP hw hK
    obtain ⟨xs, x, hq, hx⟩ := hg
    obtain ⟨its, rv, p, hz⟩ := I.list hq
    obtain ⟨u, hu, ru⟩ := rv.get hx
    obtain ⟨f0, f1, f2, f3, f4, f5⟩ := hf it (by simp)
    refine wpAny_pyNext_list_item st p.isList (x := u) (by simpa using hu) fun h' st' sb => ?_
    have I1 : Inv X pins σ H { s with heap := h' } := I.turned (t' := s.toks) (fun b o hb e => (sb.2 b hb).trans e) f0 f1 f3 f4 f5
    obtain ⟨o, e, c, d⟩ := id st'
    exact ⟨u, rfl, go_of (s := { s with heap := h' }) e c d (by decide) ⟨x, H, I1, ru, ⟨rfl, fun ys hy => by rw [I.list_inj hy hq]; exact hx⟩, st', fun b hb => (hf b hb).1⟩⟩
  done := by
    intro X hP hw hK hc i pins s σ H E I hf st hg
    subst hP hw hK
    obtain ⟨xs, hq, hx⟩ := hg
    obtain ⟨its, rv, p, hz⟩ := I.list hq
    obtain ⟨f0, f1, f2, f3, f4, f5⟩ := hf it (by simp)
    have hl := rv.length
    exact wpAny_pyNext_list_end (I.ok.hd hc) st p.isList (by simp; omega) fun h' eb => ⟨rfl, I.turned (t' := s.toks) (fun b o hb e => eb b o hb e) f0 f1 f3 f4 f5⟩
  self := fun _ _ _ _ _ st h => wpAny_pyIter_listiter st h
theorem turn_range {P : Program} {w : World} {K : PySem.W.Frag} {tg : Expr} (it : Addr) (lo : Int) (n : Nat) : Turn P w K tg (Itr lo n) [it] it (fun i h => IsRangeIter h it (lo + (i : Nat) * 1) ((n : Int) - (i : Nat)) 1) where
  mem := by simp
  obj := fun i h st b hb => by
    have e : b = it := by simpa using hb
    subst e
    exact ⟨_, st, fun v z => by
      have z' : Data.fields _ = Data.cell v := z
      cases z'⟩
  keep := fun i h h' st k => k it (by simp) _ st
  item := by
    intro X hP hw hK hc i pins s σ H E I hf st hg
    subst hP hw hK
    obtain ⟨f0, f1, f2, f3, f4, f5⟩ := hf it (by simp)
    have W := Walks.range (prog := X.prog) (w := X.w) (I.ok.hd hc) it lo 1 n
    refine W.item i s _ _ hg st fun v h' tk hv st' kk => ?_
    obtain ⟨t, rfl⟩ := hv
    have I1 : Inv X pins σ H { s with heap := h', toks := tk } := I.turned (fun b o hb e => kk b o (by simpa using hb) e) f0 f1 f3 f4 f5
    refine ⟨_, rfl, go_of (s := { s with heap := h', toks := tk }) (n := "range_iterator") st' rfl rfl (by decide) ⟨.int (lo + i), H, I1, ⟨t, ?_⟩, ⟨rfl, rfl⟩, st', fun b hb => (hf b hb).1⟩⟩
    rw [Int.mul_one]
  done := by
    intro X hP hw hK hc i pins s σ H E I hf st hg
    subst hP hw hK
    obtain ⟨f0, f1, f2, f3, f4, f5⟩ := hf it (by simp)
    exact wpAny_pyNext_range_end (I.ok.hd hc) st (by have : n ≤ i := hg; omega) fun h' eb => ⟨rfl, I.turned (t' := s.toks) (fun b o hb e => eb b o hb e) f0 f1 f3 f4 f5⟩
  self := fun _ _ _ _ _ st h => wpAny_pyIter_rangeiter st h
end L2

namespace L2
open PySem PySem.Spec PyProof.Rows
section
variable {X : Cx} {tg : Expr}
noncomputable def iList (K : PySem.W.Frag) (tl : TE) : TI := fun σ H R => tl σ H fun x H1 => ∃ a, x = .ref a ∧ (∃ xs, SqL K H1 a xs) ∧ R (Itl K a) H1
noncomputable def iTup (K : PySem.W.Frag) (tl : TE) : TI := fun σ H R => tl σ H fun x H1 => ∃ a, x = .ref a ∧ (∃ xs, SqT K H1 a xs) ∧ R (Itt K a) H1
theorem pi_list {l : Expr} {tl : TE} (hl : PE X l tl) : PI X tg l (iList X.K tl) := by
  intro pins s σ H R I h
  refine thn (hl pins s σ H _ I h) fun v s1 ⟨x, H1, I1, r1, q1⟩ => ?_
  obtain ⟨a, e, ⟨xs, hq⟩, q⟩ := q1
  subst e
  cases r1
  obtain ⟨its, rv, p, hz⟩ := I1.list hq
  refine wpAny_pyIter_list p.isList ?_
  refine ⟨s1.heap.objs.size, [s1.heap.objs.size], _, _, H1, rfl, I1.kept (t' := s1.toks) fun b o e => Heap.get?_push_of_some _ e, turn_list a _, ⟨_, Heap.get?_push_size _ rfl, rfl, rfl⟩, fun b hb => ?_, q⟩
  have e : b = s1.heap.objs.size := by simpa using hb
  subst e
  exact I1.fpOk (Nat.le_refl _) (I1.hok.fresh (Nat.le_refl _))
theorem range_it {pins : List (Addr × Obj)} {σ : St} {H : Hp} {s : Shared} {R : It → Hp → Prop} {E : Value → Shared → Prop} {lo hi : Int} {t u v : Tok} {tk : Nat} (I : Inv X pins σ H s) (h1 : -(2 ^ 62) ≤ lo) (h2 : lo < 2 ^ 62) (h3 : -(2 ^ 62) ≤ hi) (h4 : hi < 2 ^ 62)
    (q : R (Itr lo (hi - lo).toNat) H) : wpAny (model X.prog X.w) X.A (pyIter (.ref s.heap.objs.size)) (PIE X pins σ tg R) E { s with heap := s.heap.push { cls := .type "range", data := .fields #[.int lo t, .int hi u, .int 1 v] }, toks := tk } := by
  refine wpAny_pyIter_range (IsRange.new ..) (small_one h1 h2 h3 h4) ?_
  have I1 : Inv X pins σ H { s with heap := s.heap.push { cls := .type "range", data := .fields #[.int lo t, .int hi u, .int 1 v] }, toks := tk } := I.kept fun b o e => Heap.get?_push_of_some _ e
  refine ⟨(s.heap.push { cls := .type "range", data := .fields #[.int lo t, .int hi u, .int 1 v] }).objs.size, [(s.heap.push { cls := .type "range", data := .fields #[.int lo t, .int hi u, .int 1 v] }).objs.size], _, _, H, rfl,
    I1.kept (t' := tk) fun b o e => Heap.get?_push_of_some _ e, turn_range _ lo (hi - lo).toNat, ?_, fun b hb => ?_, q⟩
  · have e1 : lo + ((0 : Nat) : Int) * 1 = lo := by simp
    have e2 : (((hi - lo).toNat : Nat) : Int) - ((0 : Nat) : Int) = Builtin.Range.rangeSize lo hi 1 := by rw [rangeSize_one]; split <;> omega
    show IsRangeIter _ _ (lo + ((0 : Nat) : Int) * 1) ((((hi - lo).toNat : Nat) : Int) - ((0 : Nat) : Int)) 1
    rw [e1, e2]
    exact Heap.get?_push_size _ rfl
  · have e : b = (s.heap.push { cls := .type "range", data := .fields #[.int lo t, .int hi u, .int 1 v] }).objs.size := by simpa using hb
    subst e
    exact I1.fpOk (Nat.le_refl _) (I1.hok.fresh (Nat.le_refl _))
noncomputable def iRng1 (ta : TA) : TI := fun σ H R => ta σ H fun vs H1 => ∃ j : Int, vs = [.int j] ∧ -(2 ^ 62) ≤ j ∧ j < 2 ^ 62 ∧ R (Itr 0 j.toNat) H1
noncomputable def iRng2 (ta : TA) : TI := fun σ H R => ta σ H fun vs H1 => ∃ i j : Int, vs = [.int i, .int j] ∧ (-(2 ^ 62) ≤ i ∧ i < 2 ^ 62 ∧ -(2 ^ 62) ≤ j ∧ j < 2 ^ 62) ∧ R (Itr i (j - i).toNat) H1
theorem pi_range1 {a : Expr} {ta : TA} {p pos : Pos} (hg : Gl X "range") (hm : X.mg "range" = none) (ha : PA X [a] ta) (hs : starEach [a] X.env = [(false, eval a X.env)] := by rfl) : PI X tg (.Call (.Name "range" p) [a] [] pos) (iRng1 ta) := by
  intro pins s σ H R I h
  refine Call_ (ld_blt I hg hm boot_range (PyProof.Rows.callWith_type1 (thn (ha pos pins s σ H _ I h) fun us s1 ⟨vs, H1, I1, r1, q1⟩ => ?_) hs rfl))
  obtain ⟨j, e, q1, q2, q⟩ := q1
  subst e
  cases r1 with
  | cons r rr =>
    cases rr
    obtain ⟨t, rfl⟩ := r
    exact call_range_1 (range_it I1 (by omega) (by omega) q1 q2 (by simpa using q))

/-! ### for -/
noncomputable def tFor (wi : TI) (g : TG) (tb : TS) : TS := fun D σ H => wi σ H fun J H1 => ∃ W : Nat → Nat → St → Hp → Prop, (∃ m, W 0 m σ H1) ∧ ∀ i m σ H, W i m σ H →
  (J.stop i H ∧ D.nx σ H) ∨ (J.go i H ∧ ∃ N : St → Hp → Prop, (∀ σ' H', N σ' H' → ∃ m', m' < m ∧ W (i + 1) m' σ' H') ∧ ∀ x H', J.yld i H x H' → g x σ H' fun σ2 H2 => tb { D with nx := N, ct := N, bk := D.nx } σ2 H2)
noncomputable def pinsAt (fp : List Addr) (h : Heap) : List (Addr × Obj) := fp.filterMap fun b => (h.get? b).map fun o => (b, o)
theorem mem_pinsAt {fp : List Addr} {h : Heap} {b : Addr} {o : Obj} (hb : b ∈ fp) (e : h.get? b = some o) : (b, o) ∈ pinsAt fp h := List.mem_filterMap.mpr ⟨b, hb, by rw [e]; rfl⟩
theorem of_pinsAt {fp : List Addr} {h : Heap} {p : Addr × Obj} (hp : p ∈ pinsAt fp h) : p.1 ∈ fp ∧ h.get? p.1 = some p.2 := by
  obtain ⟨b, hb, e⟩ := List.mem_filterMap.mp hp
  cases q : h.get? b with
  | none => rw [q] at e; cases e
  | some o =>
    rw [q] at e
    have e' : (b, o) = p := Option.some.inj e
    subst e'
    exact ⟨hb, q⟩
theorem Inv.pinned {pins : List (Addr × Obj)} {σ : St} {H : Hp} {s : Shared} {fp : List Addr} (I : Inv X pins σ H s) (hf : ∀ b ∈ fp, FpOk X pins H b) (ho : ∀ b ∈ fp, ∃ o, s.heap.get? b = some o ∧ ∀ v, o.data ≠ .cell v) : Inv X (pins ++ pinsAt fp s.heap) σ H s :=
  I.pins_of fun p hp => (List.mem_append.mp hp).elim (fun z => I.pin p (List.mem_append_right _ z)) fun z => by
    obtain ⟨hb, e⟩ := of_pinsAt z
    obtain ⟨f0, f1, f2, _⟩ := hf p.1 hb
    obtain ⟨o, e', d⟩ := ho p.1 hb
    rw [e] at e'; cases e'
    exact ⟨e, f0, f1, f2, d⟩
theorem Inv.unpinned {pins pl : List (Addr × Obj)} {σ : St} {H : Hp} {s : Shared} (I : Inv X (pins ++ pl) σ H s) : Inv X pins σ H s := I.pins_of fun p hp => I.pin p (List.mem_append_right _ (List.mem_append_left _ hp))
theorem ps_for {iter : Expr} {body : List Stmt} {wi : TI} {g : TG} {tb : TS} {pos : Pos} (hp : PassesOwn (model X.prog X.w) X.A X.env X.xe) (hc : X.calm = true) (hi : PI X tg iter wi) (hg : PG X tg g) (hb : PSs X body tb)
    (hs : ∀ x, foldedSetIterable iter X.env x = pure x := by intro _; rfl) : PS X (.For tg iter body [] pos) (tFor wi g tb) := by
  intro pins s σ H D I h
  refine wpAny_For (thn (hi pins s σ H _ I h) fun v s1 h1 => thn h1 fun itv s2 h2 => ?_) hs
  obtain ⟨it, fp, tn, J, H2, e, I2, T, st2, f2, W, ⟨m0, w0⟩, turn⟩ := h2
  subst e
  -- what stays true of the iterator's objects through the loop
  have stat : ∀ {H' : Hp}, (∀ b ∈ fp, H' b = none) → ∀ b ∈ fp, FpOk X pins H' b := fun hn b hb => ⟨hn b hb, (f2 b hb).2⟩
  refine codeAny_forLoop_any (fun n s' => ∃ i σ' H', Inv X pins σ' H' s' ∧ tn i s'.heap ∧ (∀ b ∈ fp, H' b = none) ∧ W i n σ' H') ?_ m0 ⟨0, σ, H2, I2, st2, fun b hb => (f2 b hb).1, w0⟩
  rintro n s3 ⟨i, σ3, H3, I3, st3, fr3, w3⟩
  rcases turn i n σ3 H3 w3 with ⟨stop, qn⟩ | ⟨go, N, hN, step⟩
  · refine wpAny_passesOwn hp (thn (T.done X rfl rfl rfl hc i pins s3 σ3 H3 X.xe I3 (stat fr3) st3 stop) fun r s4 ⟨hr, I4⟩ => ?_)
    subst hr
    exact wpAny_execs_nil ⟨σ3, H3, I4, qn⟩
  · refine wpAny_passesOwn hp (thn (T.item X rfl rfl rfl hc i pins s3 σ3 H3 X.xe I3 (stat fr3) st3 go) fun r s4 ⟨u, hr, h4⟩ => ?_)
    subst hr
    refine wpAny_passesOwn hp (thn h4 fun _ s5 ⟨x, H5, I5, r5, y5, st5, fr5⟩ => ?_)
    have I5' := I5.pinned (stat fr5) (T.obj _ _ st5)
    refine wpAny_passesOwn hp (thn (hg _ s5 σ3 H5 x u _ I5' r5 (step x H5 y5)) fun _ s6 ⟨σ6, H6, I6, q6⟩ => ?_)
    refine wpAny_passesOwn hp (thn (hb _ s6 σ6 H6 _ I6 q6) fun f s7 q7 => ?_)
    have again : ∀ {σ7 : St} {H7 : Hp}, Inv X (pins ++ pinsAt fp s5.heap) σ7 H7 s7 → N σ7 H7 → ∃ m, m < n ∧ ∃ i σ' H', Inv X pins σ' H' s7 ∧ tn i s7.heap ∧ (∀ b ∈ fp, H' b = none) ∧ W i m σ' H' := fun {σ7 H7} I7 n7 => by
      obtain ⟨m', hm, w7⟩ := hN σ7 H7 n7
      refine ⟨m', hm, i + 1, σ7, H7, I7.unpinned, T.keep _ _ _ st5 fun b hb o e => (I7.pin (b, o) (List.mem_append_right _ (List.mem_append_right _ (mem_pinsAt hb e)))).1, fun b hb => ?_, w7⟩
      obtain ⟨o, e, d⟩ := T.obj _ _ st5 b hb
      exact (I7.pin (b, o) (List.mem_append_right _ (List.mem_append_right _ (mem_pinsAt hb e)))).2.1
    cases f with
    | next => obtain ⟨σ7, H7, I7, n7⟩ := q7; exact again I7 n7
    | cont => obtain ⟨σ7, H7, I7, n7⟩ := q7; exact again I7 n7
    | brk => obtain ⟨σ7, H7, I7, q7⟩ := q7; exact ⟨σ7, H7, I7.unpinned, q7⟩
    | ret v => obtain ⟨x7, σ7, H7, I7, r7, q7⟩ := q7; exact ⟨x7, σ7, H7, I7.unpinned, r7, q7⟩
end

/-! ### the forms one uses -/
theorem for_list {K : PySem.W.Frag} {a : Addr} {xs : List V} {g : TG} {tb : TS} {D : Ends} {σ : St} {H : Hp} (Pv : Nat → St → Hp → Prop) (h0 : Pv 0 σ H) (hl : ∀ i σ H, i ≤ xs.length → Pv i σ H → SqL K H a xs)
    (hs : ∀ i x σ H, xs[i]? = some x → Pv i σ H → g x σ H fun σ2 H2 => tb { D with nx := Pv (i + 1), ct := Pv (i + 1), bk := D.nx } σ2 H2) (hd : ∀ σ H, Pv xs.length σ H → D.nx σ H) :
    ∃ W : Nat → Nat → St → Hp → Prop, (∃ m, W 0 m σ H) ∧ ∀ i m σ H, W i m σ H →
      ((Itl K a).stop i H ∧ D.nx σ H) ∨ ((Itl K a).go i H ∧ ∃ N : St → Hp → Prop, (∀ σ' H', N σ' H' → ∃ m', m' < m ∧ W (i + 1) m' σ' H') ∧ ∀ x H', (Itl K a).yld i H x H' → g x σ H' fun σ2 H2 => tb { D with nx := N, ct := N, bk := D.nx } σ2 H2) := by
  refine ⟨fun i m σ H => m = xs.length - i ∧ i ≤ xs.length ∧ Pv i σ H, ⟨xs.length, by simp, Nat.zero_le _, h0⟩, ?_⟩
  rintro i m σ H ⟨rfl, hi, p⟩
  have q := hl i σ H hi p
  by_cases hlt : i < xs.length
  · refine .inr ⟨⟨xs, xs[i], q, by simp [hlt]⟩, Pv (i + 1), fun σ' H' p' => ⟨xs.length - (i + 1), by omega, rfl, hlt, p'⟩, fun x H' y => ?_⟩
    obtain ⟨e, y⟩ := y
    subst e
    exact hs i x σ _ (y xs q) p
  · have e : i = xs.length := by omega
    subst e
    exact .inl ⟨⟨xs, q, Nat.le_refl _⟩, hd σ H p⟩
theorem for_range {lo : Int} {n : Nat} {g : TG} {tb : TS} {D : Ends} {σ : St} {H : Hp} (Pv : Nat → St → Hp → Prop) (h0 : Pv 0 σ H)
    (hs : ∀ i σ H, i < n → Pv i σ H → g (.int (lo + i)) σ H fun σ2 H2 => tb { D with nx := Pv (i + 1), ct := Pv (i + 1), bk := D.nx } σ2 H2) (hd : ∀ σ H, Pv n σ H → D.nx σ H) :
    ∃ W : Nat → Nat → St → Hp → Prop, (∃ m, W 0 m σ H) ∧ ∀ i m σ H, W i m σ H →
      ((Itr lo n).stop i H ∧ D.nx σ H) ∨ ((Itr lo n).go i H ∧ ∃ N : St → Hp → Prop, (∀ σ' H', N σ' H' → ∃ m', m' < m ∧ W (i + 1) m' σ' H') ∧ ∀ x H', (Itr lo n).yld i H x H' → g x σ H' fun σ2 H2 => tb { D with nx := N, ct := N, bk := D.nx } σ2 H2) := by
  refine ⟨fun i m σ H => m = n - i ∧ i ≤ n ∧ Pv i σ H, ⟨n, by simp, Nat.zero_le _, h0⟩, ?_⟩
  rintro i m σ H ⟨rfl, hi, p⟩
  by_cases hlt : i < n
  · refine .inr ⟨hlt, Pv (i + 1), fun σ' H' p' => ⟨n - (i + 1), by omega, rfl, hlt, p'⟩, fun x H' y => ?_⟩
    obtain ⟨e, y⟩ := y
    subst e y
    exact hs i σ _ hlt p
  · have e : i = n := by omega
    subst e
    exact .inl ⟨Nat.le_refl _, hd σ H p⟩
end L2

namespace L2
open PySem PySem.Spec PyProof.Rows

noncomputable abbrev R2 := V → V → Hp → VK → Prop
noncomputable def OpR (X : Cx) (f : Value → Value → Sem Value) (r : R2) : Prop :=
  ∀ (pins : List (Addr × Obj)) (s : Shared) (σ : St) (H : Hp) (x y : V) (v u : Value) (Q : VK), Inv X pins σ H s → RelV x v → RelV y u → r x y H Q →
    wpAny (model X.prog X.w) X.A (f v u) (EP X pins σ Q) X.xe s
noncomputable def UnR (X : Cx) (f : Value → Sem Value) (r : V → Hp → VK → Prop) : Prop :=
  ∀ (pins : List (Addr × Obj)) (s : Shared) (σ : St) (H : Hp) (x : V) (v : Value) (Q : VK), Inv X pins σ H s → RelV x v → r x H Q →
    wpAny (model X.prog X.w) X.A (f v) (EP X pins σ Q) X.xe s
noncomputable def CallR (X : Cx) (f : Value) (r : List V → Hp → VK → Prop) : Prop :=
  ∀ (pins : List (Addr × Obj)) (s : Shared) (σ : St) (H : Hp) (xs : List V) (us : List Value) (Q : VK), Inv X pins σ H s → Vals xs us → r xs H Q →
    wpAny (model X.prog X.w) X.A (call f us) (EP X pins σ Q) X.xe s
noncomputable def TruR (X : Cx) (r : V → Hp → (Bool → Hp → Prop) → Prop) : Prop :=
  ∀ (pins : List (Addr × Obj)) (s : Shared) (σ : St) (H : Hp) (x : V) (v : Value) (Q : Bool → Hp → Prop), Inv X pins σ H s → RelV x v → r x H Q →
    wpAny (model X.prog X.w) X.A (truthy v) (TP X pins σ Q) X.xe s

noncomputable def tOp (r : R2) (ta tb : TE) : TE := fun σ H Q => ta σ H fun x H1 => tb σ H1 fun y H2 => r x y H2 Q
noncomputable def tUn (r : V → Hp → VK → Prop) (ta : TE) : TE := fun σ H Q => ta σ H fun x H1 => r x H1 Q
noncomputable def rI (C : Int → Int → Prop) (g : Int → Int → V) : R2 := fun x y H Q => ∃ i j, x = .int i ∧ y = .int j ∧ C i j ∧ Q (g i j) H
noncomputable def rI0 (g : Int → Int → V) : R2 := fun x y H Q => ∃ i j, x = .int i ∧ y = .int j ∧ Q (g i j) H
noncomputable def rU (g : Int → V) : V → Hp → VK → Prop := fun x H Q => ∃ i, x = .int i ∧ Q (g i) H

section
variable {X : Cx} {a b c : Expr} {ta tb tc : TE} {pos : Pos}

theorem binT (ha : PE X a ta) (hb : PE X b tb) {pins : List (Addr × Obj)} {s : Shared} {σ : St} {H : Hp} {R : V → V → Hp → Prop} (I : Inv X pins σ H s)
    (h : ta σ H fun x H1 => tb σ H1 fun y H2 => R x y H2) {Q : Value → Shared → Prop} {f : Value → Value → Sem Value}
    (hf : ∀ v u s2 x y H2, Inv X pins σ H2 s2 → RelV x v → RelV y u → R x y H2 → wpAny (model X.prog X.w) X.A (f v u) Q X.xe s2) :
    wpAny (model X.prog X.w) X.A (eval a X.env) (fun v s₁ => wpAny (model X.prog X.w) X.A (eval b X.env) (fun u s₂ => wpAny (model X.prog X.w) X.A (f v u) Q X.xe s₂) X.xe s₁) X.xe s := by
  refine thn (ha pins s σ H _ I h) fun v s1 ⟨x, H1, I1, r1, q1⟩ => ?_
  refine thn (hb pins s1 σ H1 _ I1 q1) fun u s2 ⟨y, H2, I2, r2, q2⟩ => ?_
  exact hf v u s2 x y H2 I2 r1 r2 q2

theorem pe_op {op : Operator} {r : R2} (ho : OpR X (binaryOp op) r) (ha : PE X a ta) (hb : PE X b tb) : PE X (.BinOp a op b pos) (tOp r ta tb) := by
  intro pins s σ H Q I h
  exact wpAny_BinOp (binT ha hb I h fun v u s2 x y H2 I2 rx ry q => ho pins s2 σ H2 x y v u Q I2 rx ry q)
theorem pe_un {op : UnaryOp} {r : V → Hp → VK → Prop} (ho : UnR X (unaryOp op) r) (ha : PE X a ta) : PE X (.UnaryOp op a pos) (tUn r ta) := by
  intro pins s σ H Q I h
  exact UnaryOp_ (thn (ha pins s σ H _ I h) fun v s1 ⟨x, H1, I1, r1, q1⟩ => ho pins s1 σ H1 x v Q I1 r1 q1)

/-! ### ints -/
theorem opI {f : Value → Value → Sem Value} {C : Int → Int → Prop} {g : Int → Int → Int}
    (rule : ∀ (i j : Int) (t u : Tok) (s : Shared) (Q : Value → Shared → Prop) (E : Value → Shared → Prop), C i j → Q (.int (g i j) s.toks) { s with toks := s.toks + 1 } → wpAny (model X.prog X.w) X.A (f (.int i t) (.int j u)) Q E s) :
    OpR X f (rI C fun i j => .int (g i j)) := by
  intro pins s σ H x y v u Q I rx ry h
  obtain ⟨i, j, rfl, rfl, hc, q⟩ := h
  obtain ⟨t, rfl⟩ := rx
  obtain ⟨t', rfl⟩ := ry
  exact rule i j t t' s _ _ hc ⟨.int (g i j), H, I.tok _, ⟨_, rfl⟩, q⟩
theorem opI0 {f : Value → Value → Sem Value} {g : Int → Int → Int}
    (rule : ∀ (i j : Int) (t u : Tok) (s : Shared) (Q : Value → Shared → Prop) (E : Value → Shared → Prop), Q (.int (g i j) s.toks) { s with toks := s.toks + 1 } → wpAny (model X.prog X.w) X.A (f (.int i t) (.int j u)) Q E s) :
    OpR X f (rI0 fun i j => .int (g i j)) := by
  intro pins s σ H x y v u Q I rx ry h
  obtain ⟨i, j, rfl, rfl, q⟩ := h
  obtain ⟨t, rfl⟩ := rx
  obtain ⟨t', rfl⟩ := ry
  exact rule i j t t' s _ _ ⟨.int (g i j), H, I.tok _, ⟨_, rfl⟩, q⟩
theorem opB0 {f : Value → Value → Sem Value} {g : Int → Int → Bool}
    (rule : ∀ (i j : Int) (t u : Tok) (s : Shared) (Q : Value → Shared → Prop) (E : Value → Shared → Prop), Q (.bool (g i j)) s → wpAny (model X.prog X.w) X.A (f (.int i t) (.int j u)) Q E s) :
    OpR X f (rI0 fun i j => .bl (g i j)) := by
  intro pins s σ H x y v u Q I rx ry h
  obtain ⟨i, j, rfl, rfl, q⟩ := h
  obtain ⟨t, rfl⟩ := rx
  obtain ⟨t', rfl⟩ := ry
  exact rule i j t t' s _ _ ⟨.bl (g i j), H, I, rfl, q⟩

noncomputable def CDiv (i j : Int) : Prop := 0 < j ∧ j < 1073741824
noncomputable def CMul (i j : Int) : Prop := (-(2 ^ 64) < i ∧ i < 2 ^ 64) ∨ (-(2 ^ 64) < j ∧ j < 2 ^ 64)
theorem CMul.ok {i j : Int} (h : CMul i j) : IntMulOk i j := by
  rcases h with ⟨h1, h2⟩ | ⟨h1, h2⟩
  · exact .of_left (intBits_le_64 h1 h2)
  · exact .of_right (intBits_le_64 h1 h2)

theorem op_add : OpR X (binaryOp .Add) (rI0 fun i j => .int (i + j)) := opI0 fun _ _ _ _ _ _ _ q => add_int q
theorem op_sub : OpR X (binaryOp .Sub) (rI0 fun i j => .int (i - j)) := opI0 fun _ _ _ _ _ _ _ q => sub_int q
theorem op_mul : OpR X (binaryOp .Mult) (rI CMul fun i j => .int (i * j)) := opI fun _ _ _ _ _ _ _ hc q => mul_int q hc.ok
theorem op_fdiv : OpR X (binaryOp .FloorDiv) (rI CDiv fun i j => .int (i / j)) := opI fun i j _ _ _ _ _ hc q => by
  have h1 : (0 : Int) < j := hc.1
  have h2 : j < 1073741824 := hc.2
  exact floordiv_int (by omega) (by rw [Int.fdiv_eq_ediv_of_nonneg i (by omega)]; exact q) (.inl (PyProof.noPylong_small (by omega)))
theorem op_mod : OpR X (binaryOp .Mod) (rI (fun _ j => 0 < j) fun i j => .int (i % j)) := opI fun i j _ _ _ _ _ hc q => by
  have h1 : (0 : Int) < j := hc
  exact mod_int' (by omega) (by rw [Int.fmod_eq_emod_of_nonneg i (by omega)]; exact q)


theorem unI {f : Value → Sem Value} {g : Int → Int}
    (rule : ∀ (i : Int) (t : Tok) (s : Shared) (Q : Value → Shared → Prop) (E : Value → Shared → Prop), Q (.int (g i) s.toks) { s with toks := s.toks + 1 } → wpAny (model X.prog X.w) X.A (f (.int i t)) Q E s) :
    UnR X f (rU fun i => .int (g i)) := by
  intro pins s σ H x v Q I rx h
  obtain ⟨i, rfl, q⟩ := h
  obtain ⟨t, rfl⟩ := rx
  exact rule i t s _ _ ⟨.int (g i), H, I.tok _, ⟨_, rfl⟩, q⟩
theorem un_neg : UnR X (unaryOp .USub) (rU fun i => .int (-i)) := unI fun _ _ _ _ _ q => neg_int q

/-! ### bools among ints: n += (a < b) -/
end

/-! ### comparisons -/
noncomputable def scal : V → V → Bool
  | .non, .non => true | .non, .int _ => true | .int _, .non => true | .non, .bl _ => true | .bl _, .non => true | .non, .str _ => true | .str _, .non => true
  | .int _, .int _ => true | .bl _, .bl _ => true | .str _, .str _ => true | .byt _, .byt _ => true
  | .int _, .str _ => true | .str _, .int _ => true | .bl _, .str _ => true | .str _, .bl _ => true
  | _, _ => false
theorem sc0 : scal .non .non = true := rfl
theorem sc1 {i : Int} : scal .non (.int i) = true := rfl
theorem sc2 {i : Int} : scal (.int i) .non = true := rfl
theorem sc3 {i : Bool} : scal .non (.bl i) = true := rfl
theorem sc4 {i : Bool} : scal (.bl i) .non = true := rfl
theorem sc5 {i : Str} : scal .non (.str i) = true := rfl
theorem sc6 {i : Str} : scal (.str i) .non = true := rfl
theorem sc7 {i : Int} {j : Int} : scal (.int i) (.int j) = true := rfl
theorem sc8 {i : Bool} {j : Bool} : scal (.bl i) (.bl j) = true := rfl
theorem sc9 {i : Str} {j : Str} : scal (.str i) (.str j) = true := rfl
theorem sc10 {i : Int} {j : Str} : scal (.int i) (.str j) = true := rfl
theorem sc11 {i : Str} {j : Int} : scal (.str i) (.int j) = true := rfl
theorem sc12 {i : Bool} {j : Str} : scal (.bl i) (.str j) = true := rfl
theorem sc13 {i : Str} {j : Bool} : scal (.str i) (.bl j) = true := rfl
noncomputable def rEq : R2 := fun x y H Q => scal x y = true ∧ Q (.bl (decide (x = y))) H
noncomputable def rNe : R2 := fun x y H Q => scal x y = true ∧ Q (.bl (!decide (x = y))) H

theorem dec_int {i j : Int} : decide (V.int i = V.int j) = (i == j) := by
  rw [Bool.eq_iff_iff]
  simp
theorem dec_bl {i j : Bool} : decide (V.bl i = V.bl j) = (i == j) := by
  rw [Bool.eq_iff_iff]
  simp
theorem dec_str {i j : Str} : decide (V.str i = V.str j) = (i == j) := by
  rw [Bool.eq_iff_iff]
  simp
theorem dec_byt {i j : Array UInt8} : decide (V.byt i = V.byt j) = (i.toList == j.toList) := by
  rw [Bool.eq_iff_iff]
  cases i
  cases j
  simp

section
variable {X : Cx} {a b c : Expr} {ta tb tc : TE} {pos : Pos}
theorem fin_bl {pins : List (Addr × Obj)} {σ : St} {H : Hp} {s : Shared} {Q : VK} {k k' : Bool} (I : Inv X pins σ H s) (q : Q (.bl k) H) (e : k = k') : EP X pins σ Q (.bool k') s := by
  subst e
  exact ⟨.bl k, H, I, rfl, q⟩
theorem op_eq : OpR X (compareOp .Eq) rEq := by
  intro pins s σ H x y v u Q I rx ry h
  obtain ⟨hs, q⟩ := h
  cases x with
  | non =>
    cases rx
    cases y with
    | non => cases ry; exact PySem.EqNone.eq_none_none (fin_bl I q (by simp))
    | bl j => cases ry; exact PySem.EqNone.eq_none_bool (fin_bl I q (by simp))
    | int j => obtain ⟨t', rfl⟩ := ry; exact PySem.EqNone.eq_none_int (fin_bl I q (by simp))
    | str j => obtain ⟨t', rfl⟩ := ry; exact PySem.EqNone.eq_none_str (fin_bl I q (by simp))
    | _ => exact absurd (show false = true from hs) Bool.false_ne_true
  | bl i =>
    cases rx
    cases y with
    | non => cases ry; exact PySem.EqNone.eq_bool_none (fin_bl I q (by simp))
    | bl j => cases ry; exact eq_bool (fin_bl I q dec_bl)
    | str j => obtain ⟨t', rfl⟩ := ry; exact PySem.EqMixed.eq_bool_str (fin_bl I q (by simp))
    | _ => exact absurd (show false = true from hs) Bool.false_ne_true
  | int i =>
    obtain ⟨t, rfl⟩ := rx
    cases y with
    | non => cases ry; exact PySem.EqNone.eq_int_none (fin_bl I q (by simp))
    | int j => obtain ⟨t', rfl⟩ := ry; exact eq_int (fin_bl I q dec_int)
    | str j => obtain ⟨t', rfl⟩ := ry; exact PySem.EqMixed.eq_int_str (fin_bl I q (by simp))
    | _ => exact absurd (show false = true from hs) Bool.false_ne_true
  | str i =>
    obtain ⟨t, rfl⟩ := rx
    cases y with
    | non => cases ry; exact PySem.EqNone.eq_str_none (fin_bl I q (by simp))
    | bl j => cases ry; exact PySem.EqMixed.eq_str_bool (fin_bl I q (by simp))
    | int j => obtain ⟨t', rfl⟩ := ry; exact PySem.EqMixed.eq_str_int (fin_bl I q (by simp))
    | str j => obtain ⟨t', rfl⟩ := ry; exact eq_str (fin_bl I q dec_str)
    | _ => exact absurd (show false = true from hs) Bool.false_ne_true
  | byt i =>
    obtain ⟨t, rfl⟩ := rx
    cases y with
    | byt j => obtain ⟨t', rfl⟩ := ry; exact PySem.W.eq_bytes (fin_bl I q dec_byt)
    | _ => exact absurd (show false = true from hs) Bool.false_ne_true
  | _ => cases y <;> exact absurd (show false = true from hs) Bool.false_ne_true
theorem op_ne : OpR X (compareOp .NotEq) rNe := by
  intro pins s σ H x y v u Q I rx ry h
  obtain ⟨hs, q⟩ := h
  cases x with
  | non =>
    cases rx
    cases y with
    | non => cases ry; exact PySem.EqNone.ne_none_none (fin_bl I q (by simp))
    | bl j => cases ry; exact PySem.EqNone.ne_none_bool (fin_bl I q (by simp))
    | int j => obtain ⟨t', rfl⟩ := ry; exact PySem.EqNone.ne_none_int (fin_bl I q (by simp))
    | str j => obtain ⟨t', rfl⟩ := ry; exact PySem.EqNone.ne_none_str (fin_bl I q (by simp))
    | _ => exact absurd (show false = true from hs) Bool.false_ne_true
  | bl i =>
    cases rx
    cases y with
    | non => cases ry; exact PySem.EqNone.ne_bool_none (fin_bl I q (by simp))
    | bl j => cases ry; exact ne_bool (fin_bl I q (congrArg not dec_bl))
    | str j => obtain ⟨t', rfl⟩ := ry; exact PySem.EqMixed.ne_bool_str (fin_bl I q (by simp))
    | _ => exact absurd (show false = true from hs) Bool.false_ne_true
  | int i =>
    obtain ⟨t, rfl⟩ := rx
    cases y with
    | non => cases ry; exact PySem.EqNone.ne_int_none (fin_bl I q (by simp))
    | int j => obtain ⟨t', rfl⟩ := ry; exact ne_int (fin_bl I q (congrArg not dec_int))
    | str j => obtain ⟨t', rfl⟩ := ry; exact PySem.EqMixed.ne_int_str (fin_bl I q (by simp))
    | _ => exact absurd (show false = true from hs) Bool.false_ne_true
  | str i =>
    obtain ⟨t, rfl⟩ := rx
    cases y with
    | non => cases ry; exact PySem.EqNone.ne_str_none (fin_bl I q (by simp))
    | bl j => cases ry; exact PySem.EqMixed.ne_str_bool (fin_bl I q (by simp))
    | int j => obtain ⟨t', rfl⟩ := ry; exact PySem.EqMixed.ne_str_int (fin_bl I q (by simp))
    | str j => obtain ⟨t', rfl⟩ := ry; exact ne_str (fin_bl I q (congrArg not dec_str))
    | _ => exact absurd (show false = true from hs) Bool.false_ne_true
  | byt i =>
    obtain ⟨t, rfl⟩ := rx
    cases y with
    | byt j => obtain ⟨t', rfl⟩ := ry; exact PySem.W.ne_bytes (fin_bl I q (congrArg not dec_byt))
    | _ => exact absurd (show false = true from hs) Bool.false_ne_true
  | _ => cases y <;> exact absurd (show false = true from hs) Bool.false_ne_true

theorem op_lt : OpR X (compareOp .Lt) (rI0 fun i j => .bl (decide (i < j))) := opB0 fun _ _ _ _ _ _ _ q => lt_int q

theorem op_isN : OpR X (compareOp .Is) (fun x y H Q => y = .non ∧ Q (.bl (decide (x = .non))) H) := by
  intro pins s σ H x y v u Q I rx ry h
  obtain ⟨rfl, q⟩ := h
  cases ry
  refine is_none_gen (fin_bl I q ?_)
  cases x <;> first
    | (cases rx; rfl)
    | (obtain ⟨t, rfl⟩ := rx; rfl)
theorem op_notN : OpR X (compareOp .IsNot) (fun x y H Q => y = .non ∧ Q (.bl (!decide (x = .non))) H) := by
  intro pins s σ H x y v u Q I rx ry h
  obtain ⟨rfl, q⟩ := h
  cases ry
  refine isnot_none_gen (fin_bl I q ?_)
  cases x <;> first
    | (cases rx; rfl)
    | (obtain ⟨t, rfl⟩ := rx; rfl)



theorem nomark (b : Expr) {op : CmpOp} (h : op ≠ .In := by decide) (h2 : op ≠ .NotIn := by decide) : behindInMarks op b = false := by
  have e1 : (op == CmpOp.In) = false := by cases op <;> first | rfl | exact absurd rfl h
  have e2 : (op == CmpOp.NotIn) = false := by cases op <;> first | rfl | exact absurd rfl h2
  cases b <;> simp [behindInMarks, e1, e2]
theorem pe_cmpR {op : CmpOp} {r : R2} (ho : OpR X (compareOp op) r) (ha : PE X a ta) (hb : PE X b tb) (hm : behindInMarks op b = false) : PE X (.Compare a [op] [b] pos) (tOp r ta tb) := by
  intro pins s σ H Q I h
  exact wpAny_Compare1 (binT ha hb I h fun v u s2 x y H2 I2 rx ry q => ho pins s2 σ H2 x y v u Q I2 rx ry q) hm
noncomputable def tTest (t : TE) : TT := fun σ H Q => t σ H fun x H' => ∃ k, x = .bl k ∧ Q k H'
theorem pt_cmpR {op : CmpOp} {r : R2} (ho : OpR X (compareOp op) r) (ha : PE X a ta) (hb : PE X b tb) (hm : behindInMarks op b = false) : PT X (.Compare a [op] [b] pos) (tTest (tOp r ta tb)) := by
  intro pins s σ H Q I h
  refine wpAny_isTrue_Compare1 (thn (ha pins s σ H _ I h) fun v s1 ⟨x, H1, I1, r1, q1⟩ => thn (hb pins s1 σ H1 _ I1 q1) fun u s2 ⟨y, H2, I2, r2, q2⟩ =>
    thn (ho pins s2 σ H2 x y v u _ I2 r1 r2 q2) fun c s3 ⟨z, H3, I3, r3, k, e, q3⟩ => ?_) hm
  subst e
  cases r3
  exact wpAny_truthy_bool ⟨H3, I3, q3⟩
noncomputable def tChain (r r' : R2) (ta tb tc : TE) : TE := fun σ H Q => ta σ H fun x H1 => tb σ H1 fun y H2 => r x y H2 fun z H3 => ∃ k, z = .bl k ∧
  (if k = true then tc σ H3 fun w' H4 => r' y w' H4 Q else Q (.bl false) H3)

/-! ### truth -/
theorem line63 : (sizeLine : Nat) < 2 ^ 63 := by rw [sizeLine_eq]; decide
/-! ### strs and bytes -/
theorem op_add_str : OpR X (binaryOp .Add) (fun x y H Q => ∃ i j, x = .str i ∧ y = .str j ∧ i.length + j.length ≤ sizeLine ∧ Q (.str (i ++ j)) H) := by
  intro pins s σ H x y v u Q I rx ry h
  obtain ⟨i, j, rfl, rfl, hz, q⟩ := h
  obtain ⟨t, rfl⟩ := rx
  obtain ⟨t', rfl⟩ := ry
  exact add_str (fun t' tk => ⟨.str (i ++ j), H, I.tok _, ⟨_, rfl⟩, q⟩) hz


/-! ### scalar builtins, by CallR -/
theorem vals1 {x : V} {us : List Value} (r : Vals [x] us) : ∃ u, us = [u] ∧ RelV x u := by
  cases r with
  | cons r1 r2 => cases r2; exact ⟨_, rfl, r1⟩
theorem vals2 {x y : V} {us : List Value} (r : Vals [x, y] us) : ∃ u w', us = [u, w'] ∧ RelV x u ∧ RelV y w' := by
  cases r with
  | cons r1 r2 =>
    cases r2 with
    | cons r3 r4 => cases r4; exact ⟨_, _, rfl, r1, r3⟩
theorem call_int1 : CallR X (.type "int") (fun xs H Q => (∃ i, xs = [.int i] ∧ Q (.int i) H) ∨ ∃ k, xs = [.bl k] ∧ Q (.int (if k then 1 else 0)) H) := by
  intro pins s σ H xs us Q I r h
  rcases h with ⟨i, rfl, q⟩ | ⟨k, rfl, q⟩
  · obtain ⟨u, rfl, t, rfl⟩ := vals1 r
    exact call_int_int ⟨.int i, H, I, ⟨_, rfl⟩, q⟩
  · obtain ⟨u, rfl, r1⟩ := vals1 r
    cases r1
    exact call_int_bool ⟨.int (if k then 1 else 0), H, I.tok _, ⟨_, rfl⟩, q⟩
noncomputable def LenV (K : PySem.W.Frag) (x : V) (H : Hp) (n : Nat) : Prop :=
  match x with
  | .str y => y.length ≤ sizeLine ∧ n = y.length
  | .byt y => y.size ≤ sizeLine ∧ n = y.size
  | .ref p => (∃ xs, SqL K H p xs ∧ n = xs.length) ∨ ∃ xs, SqT K H p xs ∧ n = xs.length
  | _ => False
theorem call_len : CallR X (.builtin "len") (fun xs H Q => ∃ x n, xs = [x] ∧ LenV X.K x H n ∧ Q (.int n) H) := by
  intro pins s σ H xs us Q I r h
  obtain ⟨x, n, rfl, e, q⟩ := h
  obtain ⟨u, rfl, rx⟩ := vals1 r
  have hl := line63
  have hs : sizeLine = 16777216 := sizeLine_eq
  cases x with
  | str y =>
    obtain ⟨t, rfl⟩ := rx
    obtain ⟨hy, e'⟩ : y.length ≤ sizeLine ∧ n = y.length := e
    subst e'
    exact len_str (by omega) ⟨.int _, H, I.tok _, ⟨_, rfl⟩, q⟩
  | byt y =>
    obtain ⟨t, rfl⟩ := rx
    obtain ⟨hy, e'⟩ : y.size ≤ sizeLine ∧ n = y.size := e
    subst e'
    exact PySem.W.len_bytes (by omega) ⟨.int _, H, I.tok _, ⟨_, rfl⟩, q⟩
  | ref p =>
    cases rx
    have e' : (∃ xs, SqL X.K H p xs ∧ n = xs.length) ∨ ∃ xs, SqT X.K H p xs ∧ n = xs.length := e
    rcases e' with ⟨xs, hx, e'⟩ | ⟨xs, hx, e'⟩
    · subst e'
      obtain ⟨its, r', pl, hz⟩ := I.list hx
      have hlen := r'.length
      exact Calls.call_len_list pl.isList (by simp only [List.size_toArray]; omega) ⟨.int xs.length, H, I.tok _, ⟨_, by simp only [List.size_toArray]; rw [hlen]⟩, q⟩
    · subst e'
      obtain ⟨its, r', pl, hz⟩ := I.tuple hx
      have hlen := r'.length
      exact len_tuple pl (by simp only [List.size_toArray]; omega) ⟨.int xs.length, H, I.tok _, ⟨_, by simp only [List.size_toArray]; rw [hlen]⟩, q⟩
  | _ => exact (show False from e).elim
end
end L2

namespace L2
open PySem PySem.Spec PyProof.Rows

/-! ### an instance, its attributes a map -/
set_option genInjectivity false in
structure ObjM (h : Heap) (x dx C : Addr) (mA : Str → Option Value) : Prop where
  obj : h.get? x = some (PySem.W.instObj C dx)
  ns : h.Ns1 dx mA
  ne : dx ≠ x

theorem lookIn_ns {h : Heap} {dx : Addr} {mA : Str → Option Value} (n : h.Ns1 dx mA) : ∃ od, h.get? dx = some od ∧ ∀ name, PySem.W.lookIn name od = some (mA name) := by
  obtain ⟨o, es, ep, ho, hd, hk, _, hm⟩ := n
  refine ⟨o, ho, fun name => ?_⟩
  have e := hm name
  unfold nsFind findBy at e
  rw [← Array.find?_toList] at e
  unfold PySem.W.lookIn
  rw [hd]
  dsimp only
  split
  · rename_i y q
    rw [q] at e
    exact congrArg some e
  · rename_i q
    rw [q] at e
    have a : es.toList.any (·.refKey) = false := by
      rw [List.any_eq_false]
      intro y hy
      obtain ⟨z, t, hkey⟩ := hk y (Array.mem_toList_iff.mp hy)
      simp [DictEntry.refKey, hkey]
    have a' : ¬ es.toList.any (·.refKey) = true := by rw [a]; exact Bool.false_ne_true
    rw [if_neg a']
    exact congrArg some e

theorem ObjM.look {h : Heap} {x dx C : Addr} {mA : Str → Option Value} (I : ObjM h x dx C mA) : ∃ od, PySem.W.InstAt h x (PySem.W.instObj C dx) C (some od) ∧ ∀ name, PySem.W.lookIn name od = some (mA name) :=
  let ⟨od, ho, hl⟩ := lookIn_ns I.ns
  ⟨od, ⟨I.obj, rfl, rfl, ho⟩, hl⟩

section
variable {prog : Program} {w : World} {A : Around} {E : Value → Shared → Prop} {s : Shared} {K : PySem.W.Frag} {x dx C f : Addr} {mA : Str → Option Value} {name : Str} {v : Value}



end

/-! ### the attributes as a list of pairs -/
noncomputable def putF (f : Str) (v : V) : List (Str × V) → List (Str × V)
  | [] => [(f, v)]
  | (g, x) :: r => if g = f then (g, v) :: r else (g, x) :: putF f v r
theorem lookup_putF (f g : Str) (v : V) : ∀ fs : List (Str × V), (putF f v fs).lookup g = if g = f then some v else fs.lookup g
  | [] => by
    show List.lookup g [(f, v)] = _
    by_cases h : g = f
    · have hb : (g == f) = true := beq_iff_eq.mpr h
      simp only [List.lookup, hb, if_pos h]
    · have hb : (g == f) = false := beq_eq_false_iff_ne.mpr h
      simp only [List.lookup, hb, if_neg h]
  | (k, x) :: r => by
    have ih := lookup_putF f g v r
    rw [show putF f v ((k, x) :: r) = (if k = f then (k, v) :: r else (k, x) :: putF f v r) from rfl]
    by_cases hk : k = f
    · rw [if_pos hk]
      by_cases h : g = k
      · have hb : (g == k) = true := beq_iff_eq.mpr h
        simp only [List.lookup, hb, if_pos (h.trans hk)]
      · have hb : (g == k) = false := beq_eq_false_iff_ne.mpr h
        simp only [List.lookup, hb, if_neg (fun e : g = f => h (e.trans hk.symm))]
    · rw [if_neg hk]
      by_cases h : g = k
      · have hb : (g == k) = true := beq_iff_eq.mpr h
        simp only [List.lookup, hb, if_neg (fun e : g = f => hk (h.symm.trans e))]
      · have hb : (g == k) = false := beq_eq_false_iff_ne.mpr h
        simp only [List.lookup, hb]
        exact ih
theorem keys_putF (f : Str) (v : V) : ∀ fs : List (Str × V), f ∈ (putF f v fs).map (·.1) ∧ ∀ g, g ∈ fs.map (·.1) → g ∈ (putF f v fs).map (·.1)
  | [] => ⟨by simp [putF], fun g h => by simp at h⟩
  | (k, x) :: r => by
    obtain ⟨i1, i2⟩ := keys_putF f v r
    rw [show putF f v ((k, x) :: r) = (if k = f then (k, v) :: r else (k, x) :: putF f v r) from rfl]
    by_cases hk : k = f
    · rw [if_pos hk]
      subst hk
      exact ⟨by simp, fun g h => by simpa using h⟩
    · rw [if_neg hk]
      refine ⟨?_, fun g h => ?_⟩
      · rw [List.map_cons]
        exact List.mem_cons_of_mem _ i1
      · rw [List.map_cons] at h ⊢
        rcases List.mem_cons.mp h with e | e
        · exact List.mem_cons.mpr (.inl e)
        · exact List.mem_cons_of_mem _ (i2 g e)
theorem RelO.some_of {v : V} {o : Option Value} (r : RelO (some v) o) : ∃ u, o = some u ∧ RelV v u := by
  cases o with
  | none => exact (show False from r).elim
  | some u => exact ⟨u, rfl, r⟩
theorem RelO.none_of {o : Option Value} (r : RelO none o) : o = none := by
  cases o with
  | none => rfl
  | some u => exact (show False from r).elim
theorem handed_of {v : V} {u : Value} (r : RelV v u) : PySem.W.handedIn u = true := by
  cases v with
  | non => cases (show u = Value.none from r); rfl
  | bl b => cases (show u = Value.bool b from r); rfl
  | int i => obtain ⟨t, e⟩ := (show ∃ t, u = Value.int i t from r); cases e; rfl
  | str x => obtain ⟨t, e⟩ := (show ∃ t, u = Value.str x t from r); cases e; rfl
  | byt b => obtain ⟨t, e⟩ := (show ∃ t, u = Value.bytes b t from r); cases e; rfl
  | flt b => obtain ⟨t, e⟩ := (show ∃ t, u = Value.float b t from r); cases e; rfl
  | ref a => cases (show u = Value.ref a from r); rfl
  | ty n => cases (show u = Value.type n from r); rfl

section
variable {P : Program} {w : World} {H H' : Hp} {h h' : Heap} {a C dx : Addr} {fs fs' : List (Str × V)}
theorem ins_get (hok : HOk P w H h) (e : H a = some (.ins C dx fs)) : ∃ mA, ObjM h a dx C mA ∧ (∀ f, RelO (fs.lookup f) (mA f)) ∧ PySem.Within mA (fs.map (·.1)) ∧ fs.length ≤ 1000 ∧ H dx = some (.own a) := by
  obtain ⟨d, z, ne, ob, mA, n, r, q⟩ := (show ObjOk P w H h a (.ins C dx fs) from hok a _ e)
  exact ⟨mA, ⟨ob, n, ne⟩, r, q, z, d⟩
end

/-! ### what of the text a class must have -/
set_option genInjectivity false in
structure Cls (K : PySem.W.Frag) (C : Addr) : Prop where
  pg : PySem.W.plainGet K C Str.empty = true
  hd : PySem.W.hasDictIn K C = true
  po : PySem.W.plainOver K C = true
  sa : PySem.W.findIn K (.ref C) "__setattr__" = some (some (.builtin "object.__setattr__"))
theorem Cls.get {K : PySem.W.Frag} {C : Addr} (c : Cls K C) (f : Str) : PySem.W.plainGet K C f = true := c.pg
noncomputable def NoAttr (K : PySem.W.Frag) (C : Addr) (f : Str) : Prop := PySem.W.findIn K (.ref C) f = some none
theorem NoAttr.taker {K : PySem.W.Frag} {C : Addr} {f : Str} (n : NoAttr K C f) : PySem.W.takerIn K C f = some none := by
  unfold PySem.W.takerIn
  rw [show PySem.W.findIn K (.ref C) f = some none from n]
  rfl
set_option genInjectivity false in
structure Meth (K : PySem.W.Frag) (C : Addr) (m : Str) (f : Addr) : Prop where
  at_ : PySem.W.findIn K (.ref C) m = some (some (.ref f))
  fn : PySem.W.isFn K (.ref f) = true
  kp : PySem.W.keepIn K (.ref f) = true

section
variable {X : Cx} {pins : List (Addr × Obj)} {σ : St} {H : Hp} {s : Shared} {a C dx : Addr} {fs : List (Str × V)} {f : Str} {v : V} {A : Around} {E : Value → Shared → Prop}



theorem attr_of {prog : Program} {w : World} {env : Env} {e : Expr} {f : Str} {pos : Pos} {s : Shared} {Q : Value → Shared → Prop} (hb : attributeBase e f env (eval e env) = eval e env)
    (h : wpAny (model prog w) A (eval e env) (fun o s₁ => wpAny (model prog w) A (getAttr o f true) Q E s₁) E s) : wpAny (model prog w) A (eval (.Attribute e f pos) env) Q E s :=
  Attribute_any_ h (by rw [arm_eval_Attribute, hb])
end

/-! ### readings and rules -/
noncomputable def tFld (K : PySem.W.Frag) (ta : TE) (f : Str) : TE := fun σ H Q => ta σ H fun x H1 => ∃ a C dx fs v, x = .ref a ∧ H1 a = some (.ins C dx fs) ∧ Cls K C ∧ NoAttr K C f ∧ fs.lookup f = some v ∧ Q v H1
noncomputable def sFld (K : PySem.W.Frag) (ta tv : TE) (f : Str) : TS := fun D σ H => tv σ H fun y H1 => ta σ H1 fun x H2 => ∃ a C dx fs, x = .ref a ∧ H2 a = some (.ins C dx fs) ∧ Cls K C ∧ NoAttr K C f ∧ fs.length < 1000 ∧
  D.nx σ (upd H2 a (.ins C dx (putF f y fs)))

section
variable {X : Cx} {o e value : Expr} {f : Str} {pos pos' tpos : Pos} {ta tv : TE}

end

/-! ### isinstance -/
section
variable {X : Cx} {pins : List (Addr × Obj)} {σ : St} {H : Hp} {s : Shared} {A : Around} {E : Value → Shared → Prop} {Q : Value → Shared → Prop} {c : Value} {b : Bool}
inductive TyOf (K : PySem.W.Frag) (H : Hp) : V → Value → Prop where
  | non : TyOf K H .non (.type "NoneType")
  | bl (x : Bool) : TyOf K H (.bl x) (.type "bool")
  | int (i : Int) : TyOf K H (.int i) (.type "int")
  | str (x : Str) : TyOf K H (.str x) (.type "str")
  | flt (x : UInt64) : TyOf K H (.flt x) (.type "float")
  | lst {a : Addr} {xs : List V} (e : H a = some (.lst xs)) : TyOf K H (.ref a) (.type "list")
  | frz {a : Addr} {o : Obj} {xs : List V} (e : H a = some (.frz o (.lst xs))) : TyOf K H (.ref a) (.type "list")
  | tup {a : Addr} {xs : List V} (e : H a = some (.tup xs)) : TyOf K H (.ref a) (.type "tuple")
  | dK {a : Addr} {kvs : List (Key × V)} (e : H a = some (.dK kvs)) : TyOf K H (.ref a) (.type "dict")
  | dT {a : Addr} {kvs : List (List Key × V)} (e : H a = some (.dT kvs)) : TyOf K H (.ref a) (.type "dict")
  | ins {a C dx : Addr} {fs : List (Str × V)} (e : H a = some (.ins C dx fs)) (cl : Cls K C) (ha : PySem.W.findIn K (.ref C) "__class__" = some (some (.builtin "object.__class__")))
      (hn : PySem.W.specialIn K (.builtin "object.__class__") "__get__" = some (some (.builtin "getset_descriptor.__get__"))) (htk : PySem.W.takesIn K (.builtin "object.__class__") = some true)
      (hm : PySem.W.mroIn K C (.type "object") = some true) : TyOf K H (.ref a) (.ref C)
theorem isinst_ok {x : V} {u t : Value} (I : Inv X pins σ H s) (rx : RelV x u) (ty : TyOf X.K H x t) (e : PySem.W.kitOne X.K t c = some b) (h : ∀ tk, Q (.bool b) { s with toks := tk }) :
    wpAny (model X.prog X.w) A (call (.builtin "isinstance") [u, c]) Q E s := by
  cases ty with
  | non => cases (show u = Value.none from rx); exact PySem.W.kia_one PySem.W.kitx_none I.kIn True.intro e (fun z => nomatch z) h
  | bl y => cases (show u = Value.bool y from rx); exact PySem.W.kia_one PySem.W.kitx_bool I.kIn True.intro e (fun z => nomatch z) h
  | int i => obtain ⟨t, q⟩ := (show ∃ t, u = Value.int i t from rx); cases q; exact PySem.W.kia_one PySem.W.kitx_int I.kIn True.intro e (fun z => nomatch z) h
  | str y => obtain ⟨t, q⟩ := (show ∃ t, u = Value.str y t from rx); cases q; exact PySem.W.kia_one PySem.W.kitx_str I.kIn True.intro e (fun z => nomatch z) h
  | flt y => obtain ⟨t, q⟩ := (show ∃ t, u = Value.float y t from rx); cases q; exact PySem.W.kia_one PySem.W.kitx_float I.kIn True.intro e (fun z => nomatch z) h
  | @lst a xs ea =>
    cases (show u = Value.ref a from rx)
    obtain ⟨_, _, n, _, h1⟩ := (show ObjOk X.prog X.w H s.heap a (.lst xs) from I.hok a _ ea)
    exact PySem.W.kia_one PySem.W.kitx_list I.kIn ⟨_, h1, rfl⟩ e (fun z => nomatch z) h
  | @frz a ob xs ea =>
    cases (show u = Value.ref a from rx)
    obtain ⟨_, _, _, n, _, h1⟩ := (show ObjOk X.prog X.w H s.heap a (.frz ob (.lst xs)) from I.hok a _ ea)
    exact PySem.W.kia_one PySem.W.kitx_list I.kIn ⟨_, h1, rfl⟩ e (fun z => nomatch z) h
  | @tup a xs ea =>
    cases (show u = Value.ref a from rx)
    obtain ⟨_, _, _, p⟩ := (show ObjOk X.prog X.w H s.heap a (.tup xs) from I.hok a _ ea)
    obtain ⟨o, h1, h2, _⟩ := p
    exact PySem.W.kia_one PySem.W.kitx_tuple I.kIn ⟨o, h1, h2⟩ e (fun z => nomatch z) h
  | @dK a kvs ea =>
    cases (show u = Value.ref a from rx)
    obtain ⟨_, _, vs, _, p⟩ := (show ObjOk X.prog X.w H s.heap a (.dK kvs) from I.hok a _ ea)
    obtain ⟨o, es, ep, h1, h2, _⟩ := p
    exact PySem.W.kia_one PySem.W.kitx_dict I.kIn ⟨o, h1, h2.1⟩ e (fun z => nomatch z) h
  | @dT a kvs ea =>
    cases (show u = Value.ref a from rx)
    obtain ⟨_, _, xs, _, o, es, ep, h1, h2, _⟩ := (show ObjOk X.prog X.w H s.heap a (.dT kvs) from I.hok a _ ea)
    exact PySem.W.kia_one PySem.W.kitx_dict I.kIn ⟨o, h1, h2.1⟩ e (fun z => nomatch z) h
  | @ins a C dx fs ea cl ha hn htk hm =>
    cases (show u = Value.ref a from rx)
    obtain ⟨mA, O, _⟩ := ins_get I.hok ea
    obtain ⟨od, J, _⟩ := O.look
    exact PySem.W.kia_one (PySem.W.kitx_own (cl.get _) cl.hd ha hn htk hm) I.kIn J e (fun z => nomatch z) h
end
end L2

namespace L2
open PySem PySem.Spec PyProof.Rows

/-! ### room -/
set_option genInjectivity false in
structure Room (k : Nat) (A : Around) : Prop where
  hd : A.handled = none
  dp : A.depth + 3 * k + 5 < recursionLimit
  un : A.units + 16 * k + 200 < cLine
theorem Room.mono {j k : Nat} {A : Around} (r : Room k A) (h : j ≤ k) : Room j A := ⟨r.hd, by have := r.dp; omega, by have := r.un; omega⟩
theorem Room.deeper {k : Nat} {A : Around} (r : Room (k + 1) A) (env : Env) : Room k (A.deeper env) :=
  ⟨r.hd, by have := r.dp; show A.depth + 1 + 3 * k + 5 < _; omega, by have := r.un; show A.units + 3 + 16 * k + 200 < _; omega⟩
theorem make_depth {A : Around} {C : Addr} {us : List Value} {kw : List (Str × Value)} : (A.under (.builtin "type.__call__" ⟨.ref C :: us, kw⟩)).depth = A.depth + 1 := by
  first | rfl | simp [Around.under, Code.weight, Code.isCreation, Code.isGuard, Code.isCaller, Code.frames, Code.isFrame, guardIds]
theorem make_units {A : Around} {C : Addr} {us : List Value} {kw : List (Str × Value)} : (A.under (.builtin "type.__call__" ⟨.ref C :: us, kw⟩)).units = A.units + 1 := by
  first | rfl | simp [Around.under, Code.cUnits, Code.frames, Code.isFrame]
theorem Room.make {k : Nat} {A : Around} (r : Room (k + 1) A) (C : Addr) (us : List Value) (kw : List (Str × Value)) : Room k (A.under (.builtin "type.__call__" ⟨.ref C :: us, kw⟩)) :=
  ⟨r.hd, by have := r.dp; rw [make_depth]; omega, by have := r.un; rw [make_units]; omega⟩
theorem Room.depth {k : Nat} {A : Around} (r : Room k A) : A.depth < recursionLimit := by have := r.dp; omega
theorem Room.units {k : Nat} {A : Around} (r : Room k A) : A.units + 64 < cLine := by have := r.un; omega

/-! ### argument lists and displays -/
noncomputable def tNil : TA := fun _ H Q => Q [] H
noncomputable def tCons (ta : TE) (tr : TA) : TA := fun σ H Q => ta σ H fun x H1 => tr σ H1 fun xs H2 => Q (x :: xs) H2
section
variable {X : Cx} {e : Expr} {es : List Expr} {te : TE} {t : TA} {pos : Pos}
theorem pa_nil : PA X [] tNil := fun _ _ _ _ H Q I h => Calls.spliced_nil ⟨[], H, I, .nil, h⟩
theorem pa_cons (ha : PE X e te) (hr : PA X es t) (hs : starEach (e :: es) X.env = (false, eval e X.env) :: starEach es X.env := by rfl) : PA X (e :: es) (tCons te t) := by
  intro pos pins s σ H Q I h
  rw [hs]
  show wpAny _ _ (spliced ((false, eval e X.env) :: backTo pos (starEach es X.env))) _ _ s
  refine Calls.spliced_cons (thn (ha pins s σ H _ I h) fun u s1 ⟨x, H1, I1, r1, q1⟩ => ?_)
  exact thn (hr pos pins s1 σ H1 _ I1 q1) fun us s2 ⟨xs, H2, I2, r2, q2⟩ => ⟨x :: xs, H2, I2, .cons r1 r2, q2⟩

noncomputable def tTup (t : TA) : TE := fun σ H Q => t σ H fun xs H1 => xs.length ≤ sizeLine ∧ ∀ p, H1 p = none → Q (.ref p) (upd H1 p (.tup xs))
noncomputable def tLst (t : TA) : TE := fun σ H Q => t σ H fun xs H1 => xs.length ≤ sizeLine ∧ ∀ p, H1 p = none → Q (.ref p) (upd H1 p (.lst xs))
theorem pe_tup {x1} (h : PA X es t) : PE X (.Tuple es x1 pos) (tTup t) := by
  intro pins s σ H Q I hq
  refine wpAny_Tuple_spliced (thn (h pos pins s σ H _ I hq) fun us s1 ⟨xs, H1, I1, r, z, q⟩ => ⟨by rw [← r.length]; exact z, ?_⟩)
  have hf : H1 s1.heap.objs.size = none := I1.hok.fresh (Nat.le_refl _)
  refine ⟨.ref s1.heap.objs.size, upd H1 s1.heap.objs.size (.tup xs), I1.laid (t' := s1.toks) (fun b u e => Heap.get?_push_of_some _ e) (Nat.le_refl _) ?_, rfl, q _ hf⟩
  exact ⟨z, us, r, ⟨_, Heap.get?_push_size _ rfl, rfl, _, rfl⟩⟩
theorem pe_lst (h : PA X es t) : PE X (.List es pos) (tLst t) := by
  intro pins s σ H Q I hq
  refine wpAny_List_spliced (thn (h pos pins s σ H _ I hq) fun us s1 ⟨xs, H1, I1, r, z, q⟩ => ⟨by rw [← r.length]; exact z, ?_⟩)
  have hf : H1 s1.heap.objs.size = none := I1.hok.fresh (Nat.le_refl _)
  refine ⟨.ref s1.heap.objs.size, upd H1 s1.heap.objs.size (.lst xs), I1.laid (t' := s1.toks) (fun b u e => Heap.get?_push_of_some _ e) (Nat.le_refl _) ?_, rfl, q _ hf⟩
  exact ⟨z, us, 0, r, Heap.get?_push_size _ rfl⟩
end

/-! ### what a def promises -/
noncomputable abbrev Sp := List V → Hp → VK → XK → Prop
noncomputable abbrev CXT := List Env → Hp → Shared → XK → Value → Shared → Prop

set_option genInjectivity false in
structure Env0 (P : Program) (w : World) (K : PySem.W.Frag) (mg : Str → Option Value) (base : Heap) (A : Around) (outer : List Env) (s : Shared) (H : Hp) : Prop where
  frames : A.frames = some outer
  mod : Mod K mg base
  bs : ∀ b o, base.get? b = some o → s.heap.get? b = some o ∧ H b = none
  bsz : base.objs.size ≤ s.heap.objs.size
  funs : s.heap.FunFrames base outer
  frf : ∀ b ∈ frs outer, H b = none
  hok : HOk P w H s.heap
  bare : AllBare s.gens
noncomputable def CE (outer : List Env) (P : Program) (w : World) (H : Hp) (s : Shared) (Q : VK) (u : Value) (s' : Shared) : Prop :=
  ∃ v H', s'.os = s.os ∧ AllBare s'.gens ∧ Un (frs outer) [] H H' s.heap s'.heap ∧ HOk P w H' s'.heap ∧ RelV v u ∧ Q v H'
noncomputable def CR (CX : CXT) (outer : List Env) (P : Program) (w : World) (H : Hp) (s : Shared) (Q : VK) (E : XK) (r : Result) (s' : Shared) : Prop :=
  match r with
  | .ok (.ret u) => CE outer P w H s Q u s'
  | .ok _ => False
  | .error e => CX outer H s E e s'
set_option genInjectivity false in
structure FnOk (P : Program) (w : World) (K : PySem.W.Frag) (mg : Str → Option Value) (base : Heap) (CX : CXT) (k : Nat) (f : Addr) (fd : FuncData) (ps : List Str) (sp : Sp) : Prop where
  len : ∀ vs H Q E, sp vs H Q E → vs.length = ps.length
  run : ∀ (A : Around) (outer : List Env) (s : Shared) (H : Hp) (args : Args) (us : List Value) (vs : List V) (Q : VK) (E : XK), Room k A → Env0 P w K mg base A outer s H → BindsTo s fd args (ps.zip us) → Vals vs us → sp vs H Q E →
    codeAny (model P w) A (.call (.ref f) args) (CR CX outer P w H s Q E) s

theorem Env0.make {P : Program} {w : World} {K : PySem.W.Frag} {mg : Str → Option Value} {base : Heap} {A : Around} {outer : List Env} {s : Shared} {H : Hp} (e : Env0 P w K mg base A outer s H) (C : Addr) (us : List Value) (kw : List (Str × Value)) :
    Env0 P w K mg base (A.under (.builtin "type.__call__" ⟨.ref C :: us, kw⟩)) outer s H := ⟨by first | exact e.frames | (simpa [Around.under, Code.envs, Code.isFrame, pushEnvs] using e.frames), e.mod, e.bs, e.bsz, e.funs, e.frf, e.hok, e.bare⟩

section
variable {X : Cx} {pins : List (Addr × Obj)} {σ : St} {H : Hp} {s s' : Shared}
theorem Inv.env0 (I : Inv X pins σ H s) : Env0 X.prog X.w X.K X.mg X.base X.A X.stack s H :=
  ⟨I.ok.frames, I.ok.mod, I.bs, Nat.le_trans I.ok.bsz I.sz, I.stack, I.stkFree, I.hok, I.bare⟩
theorem Inv.after {Q : VK} {u : Value} (I : Inv X pins σ H s) (h : CE X.stack X.prog X.w H s Q u s') : EP X pins σ Q u s' := by
  obtain ⟨v, H', os, bare, un, hok, r, q⟩ := h
  obtain ⟨hh, g, d, t, os'⟩ := s'
  obtain rfl : os' = s.os := os
  exact ⟨v, H', I.call (h' := hh) (g' := g) (d' := d) (t' := t) (ch := []) un hok bare (fun b z => absurd z (by simp)), r, q⟩
end

/-! ### calls -/
noncomputable def tCall (sp : Sp) (dvs : List V) (E : XK) (t : TA) : TE := fun σ H Q => t σ H fun vs H1 => sp (vs ++ dvs) H1 Q E
noncomputable def tMeth (C : Addr) (m : Str) (sp : Sp) (dvs : List V) (E : XK) (ta : TE) (t : TA) : TE := fun σ H Q => ta σ H fun x H1 => ∃ a dx fs, x = .ref a ∧ H1 a = some (.ins C dx fs) ∧ fs.lookup m = none ∧
  t σ H1 fun vs H2 => sp (x :: (vs ++ dvs)) H2 Q E
noncomputable def tMake (C : Addr) (sp : Sp) (dvs : List V) (E : XK) (t : TA) : TE := fun σ H Q => t σ H fun vs H1 => ∀ x dx, H1 x = none → H1 dx = none → dx ≠ x →
  sp (.ref x :: (vs ++ dvs)) (upd (upd H1 dx (.own x)) x (.ins C dx [])) (fun v H2 => v = .non ∧ Q (.ref x) H2) E

noncomputable def Binds (K : PySem.W.Frag) (fd : FuncData) (ps : List Str) (ds : List Value) : Prop :=
  ∀ (s : Shared) (us : List Value), K.In s.heap → (us ++ ds).length = ps.length → BindsTo s fd ⟨us, []⟩ (ps.zip (us ++ ds))
theorem Binds.all {K : PySem.W.Frag} {fd : FuncData} {ps : List Str} (h : ∀ us : List Value, us.length = ps.length → bindArgs fd ⟨us, []⟩ = pure (ps.zip us)) : Binds K fd ps [] := fun s us _ hl => by
  rw [List.append_nil] at hl ⊢
  exact .of_eq (h us hl)

noncomputable def Passes (CX : CXT) (X : Cx) (E : XK) : Prop := ∀ (pins : List (Addr × Obj)) (σ : St) (H : Hp) (s : Shared) (e : Value) (s' : Shared), Inv X pins σ H s → CX X.stack H s E e s' → X.xe e s'

section
variable {X : Cx} {CX : CXT} {k : Nat} {f C : Addr} {fd : FuncData} {ps : List Str} {sp : Sp} {dvs : List V} {ds : List Value} {E : XK} {x m : Str} {p pos apos : Pos} {e o : Expr} {es : List Expr} {ta : TE} {t : TA}

theorem run_fn {pins : List (Addr × Obj)} {σ : St} {H : Hp} {s : Shared} {Q : VK} {us : List Value} {vs : List V} (F : FnOk X.prog X.w X.K X.mg X.base CX k f fd ps sp) (hr : Room k X.A) (hb : Binds X.K fd ps ds) (hd : Vals dvs ds) (hx : Passes CX X E)
    (I : Inv X pins σ H s) (r : Vals vs us) (h : sp (vs ++ dvs) H Q E) : wpAny (model X.prog X.w) X.A (call (.ref f) us) (EP X pins σ Q) X.xe s := by
  have r2 : Vals (vs ++ dvs) (us ++ ds) := r.append hd
  have hl : (us ++ ds).length = ps.length := by rw [← r2.length]; exact F.len _ _ _ _ h
  refine wpAny_call (codeAny_mono (F.run X.A X.stack s H ⟨us, []⟩ (us ++ ds) (vs ++ dvs) Q E hr I.env0 (hb s us I.kIn hl) r2 h) fun r s' hq => ?_)
  cases r with
  | error e => exact hx pins σ H s e s' I hq
  | ok fl =>
    cases fl with
    | ret u => exact I.after hq
    | next => exact False.elim hq
    | brk => exact False.elim hq
    | cont => exact False.elim hq

theorem pe_call (F : FnOk X.prog X.w X.K X.mg X.base CX k f fd ps sp) (hr : Room k X.A) (hg : Gl X x) (hm : X.mg x = some (.ref f)) (hk : PySem.W.keepIn X.K (.ref f) = true) (hb : Binds X.K fd ps ds) (hd : Vals dvs ds) (hx : Passes CX X E)
    (ha : PA X (e :: es) t) (hdb : (x == ("__debug__" : Str)) = false := by decide) (he : starEach (e :: es) X.env = (false, eval e X.env) :: starEach es X.env := by rfl) (hpl : (backTo pos (starEach es X.env)).any (·.1) = false := by rfl) :
    PE X (.Call (.Name x p) (e :: es) [] pos) (tCall sp dvs E t) := by
  intro pins s σ H Q I h
  refine wpAny_Call_Name_kw (ld_glob I hg hm ?_ hdb)
  refine PySem.W.callWith_K (h₀ := X.base) I.ok.mod.kin hk (thn (ha pos pins s σ H _ I h) fun us s1 ⟨vs, H1, I1, r, q⟩ => ⟨I1.kIn, ?_⟩) he hpl
  exact run_fn F hr hb hd hx I1 r q



end

/-! ### keywords -/
section
variable {X : Cx} {CX : CXT} {k : Nat} {f C : Addr} {fd : FuncData} {ps ks : List Str} {sp : Sp} {E : XK} {x m : Str} {p pos apos kpos : Pos} {e o : Expr} {es : List Expr} {kws : List Keyword} {te ta : TE} {t tk : TA} {nm : Option Str}

variable {g : List Value → List Value → List Value} {gV : List V → List V → List V}
end

/-! ### a def's body keeps its promise -/
set_option genInjectivity false in
structure FnScope (N P : List Str) (sc : Scope) : Prop where
  kind : sc.kind = .function
  co : sc.isCoroutine = false
  gen : sc.isGenerator = false
  nd : N.Nodup
  pre : N.take P.length = P
  par : ∀ x ∈ P, sc.names.lookup x = some .local ∨ sc.names.lookup x = some .cell
  nofree : ∀ y ∈ sc.names, y.2 ≠ .free

theorem bindL_out {kindOf : Str → Option NameKind} {x : Str} : ∀ {binds : List (Str × Value)} {m : Str → Option Value}, (∀ v, (x, v) ∉ binds) → bindL kindOf binds m x = m x
  | [], _, _ => rfl
  | (n, v) :: r, m, h => by
    unfold bindL
    rw [bindL_out fun w hw => h w (List.mem_cons_of_mem _ hw)]
    split
    · have : x ≠ n := by rintro rfl; exact h v List.mem_cons_self
      simp [this]
    · rfl
theorem bindC_out {kindOf : Str → Option NameKind} {x : Str} : ∀ {binds : List (Str × Value)} {m : Str → Option Value}, (∀ v, (x, v) ∉ binds) → bindC kindOf binds m x = m x
  | [], _, _ => rfl
  | (n, v) :: r, m, h => by
    unfold bindC
    rw [bindC_out fun w hw => h w (List.mem_cons_of_mem _ hw)]
    split
    · rfl
    · have : x ≠ n := by rintro rfl; exact h v List.mem_cons_self
      simp [this]
theorem bindL_get {kindOf : Str → Option NameKind} {x : Str} {v : Value} : ∀ {P : List Str} {vs : List Value} {i : Nat} {m : Str → Option Value}, P.Nodup → P[i]? = some x → vs[i]? = some v → kindOf x = some .local →
    bindL kindOf (P.zip vs) m x = some v
  | [], _, _, _, _, h, _, _ => by simp at h
  | _ :: _, [], _, _, _, _, h, _ => by simp at h
  | p :: P, w :: vs, 0, m, nd, h1, h2, hk => by
    simp at h1 h2; subst h1; subst h2
    show bindL kindOf ((p, w) :: P.zip vs) m p = _
    unfold bindL
    rw [bindL_out fun v hv => (List.nodup_cons.mp nd).1 (List.of_mem_zip hv).1, if_pos hk]
    simp
  | p :: P, w :: vs, i + 1, m, nd, h1, h2, hk => by
    show bindL kindOf ((p, w) :: P.zip vs) m x = _
    unfold bindL
    exact bindL_get (i := i) (List.nodup_cons.mp nd).2 (by simpa using h1) (by simpa using h2) hk
theorem bindC_get {kindOf : Str → Option NameKind} {x : Str} {v : Value} : ∀ {P : List Str} {vs : List Value} {i : Nat} {m : Str → Option Value}, P.Nodup → P[i]? = some x → vs[i]? = some v → kindOf x ≠ some .local →
    bindC kindOf (P.zip vs) m x = some v
  | [], _, _, _, _, h, _, _ => by simp at h
  | _ :: _, [], _, _, _, _, h, _ => by simp at h
  | p :: P, w :: vs, 0, m, nd, h1, h2, hk => by
    simp at h1 h2; subst h1; subst h2
    show bindC kindOf ((p, w) :: P.zip vs) m p = _
    unfold bindC
    rw [bindC_out fun v hv => (List.nodup_cons.mp nd).1 (List.of_mem_zip hv).1, if_neg hk]
    simp
  | p :: P, w :: vs, i + 1, m, nd, h1, h2, hk => by
    show bindC kindOf ((p, w) :: P.zip vs) m x = _
    unfold bindC
    exact bindC_get (i := i) (List.nodup_cons.mp nd).2 (by simpa using h1) (by simpa using h2) hk

noncomputable def start (N : List Str) (vs : List V) : St := vs.map some ++ List.replicate (N.length - vs.length) none

noncomputable def cxOf (CX : CXT) (P : Program) (w : World) (K : PySem.W.Frag) (mg : Str → Option Value) (base : Heap) (N : List Str) (qual : Str) (scope : Scope) (f : Addr) (cd : Value) (A : Around) (outer : List Env) (s : Shared) (H : Hp) (E : XK) : Cx where
  prog := P
  w := w
  K := K
  mg := mg
  base := base
  A := A.deeper (envOfC qual scope s.heap.objs.size f cd)
  N := N
  s₀ := s
  H₀ := H
  env := envOfC qual scope s.heap.objs.size f cd
  outer := outer
  stack := envOfC qual scope s.heap.objs.size f cd :: outer
  ex := []
  calm := true
  fn := fun _ => true
  pn := []
  xe := fun e s' => wpAny (model P w) (A.deeper (envOfC qual scope s.heap.objs.size f cd)) (leaving (envOfC qual scope s.heap.objs.size f cd) e) (fun _ s'' => CX outer H s E e s'') (fun e' s'' => CX outer H s E e' s'') s'

theorem cell_has {sc : Scope} {n : Nat} {x : Str} (h : sc.names.lookup x = some .cell) : ∃ c, (cellsFrom n sc.names []).lookup x = some c := by
  have q := PySem.W.cellsFrom_some sc.names n [] (.inl h)
  exact Option.isSome_iff_exists.mp q

theorem inv_start {CX : CXT} {P : Program} {w : World} {K : PySem.W.Frag} {mg : Str → Option Value} {base : Heap} {N ps : List Str} {qual : Str} {scope : Scope} {f : Addr} {cd : Value} {A : Around} {outer : List Env} {s s1 : Shared} {H : Hp} {E : XK} {us : List Value} {vs : List V}
    (S : FnScope N ps scope) (hd : A.handled = none) (e0 : Env0 P w K mg base A outer s H) (hl : vs.length = ps.length) (r : Vals vs us)
    (x : InCallC s s.heap.objs.size (bindL (envOfC qual scope s.heap.objs.size f cd).kindOf (ps.zip us) fun _ => none) (cellsFrom (s.heap.objs.size + 1) scope.names []) (bindC (envOfC qual scope s.heap.objs.size f cd).kindOf (ps.zip us) fun _ => none) s1) :
    Inv (cxOf CX P w K mg base N qual scope f cd A outer s H E) [] (start N vs) H s1 := by
  have hpl : ps.length ≤ N.length := by have := congrArg List.length S.pre; rw [List.length_take] at this; omega
  obtain ⟨h1, tk, rfl, hk⟩ := x.done
  have noA : ∀ b : Addr, b ∉ (cxOf CX P w K mg base N qual scope f cd A outer s H E).ex := fun b z => absurd (show b ∈ ([] : List Addr) from z) (by simp)
  refine ⟨⟨e0.mod, S.kind, rfl, rfl, Nat.le_refl _, fun y z c h1 h2 => ?_, fun y hy => ?_, fun y c _ h => ?_, fun _ => hd, Around.frames_deeper e0.frames, .inr ⟨rfl, rfl⟩, fun b z => absurd z (noA b), e0.bs, e0.bsz, fun b _ _ => noA b, fun b z => absurd z (noA b), e0.funs, e0.frf⟩,
    rfl, e0.bare, Un.kept hk, ⟨_, x.toInCall.ns, fun i y v h1 h2 h3 => ?_⟩, fun y c h => ⟨_, x.cell y c h⟩, e0.hok.fresh (Nat.le_refl _), fun y c h => ?_, fun p hp => absurd (show p ∈ ([] : List (Addr × Obj)) from hp) (by simp), e0.hok.kept hk, ?_⟩
  · exact name_of_addr x.apart (PySem.mem_of_lookup h1) (PySem.mem_of_lookup h2)
  · have hy : scope.names.lookup y = some .cell ∨ scope.names.lookup y = some .free := hy
    rcases hy with hy | hy
    · exact cell_has hy
    · exact absurd rfl (S.nofree _ (PySem.mem_of_lookup hy))
  · exact Nat.le_of_lt (x.above y c (PySem.mem_of_lookup h))
  · have hi : i < vs.length := by
      unfold start at h2
      by_cases hi : i < vs.length
      · exact hi
      · rw [List.getElem?_append_right (by simpa using hi)] at h2
        rw [List.getElem?_replicate] at h2
        split at h2 <;> cases h2
    have ha : vs[i]? = some v := by
      unfold start at h2
      rw [List.getElem?_append_left (by simpa using hi), List.getElem?_map] at h2
      cases e : vs[i]? with
      | none => rw [e] at h2; cases h2
      | some a => rw [e] at h2; cases h2; rfl
    obtain ⟨u, hu, rv⟩ := r.get ha
    have hp : ps[i]? = some y := by
      rw [← S.pre, List.getElem?_take_of_lt (by omega)]; exact h1
    have ndP : ps.Nodup := by rw [← S.pre]; exact S.nd.sublist (List.take_sublist _ _)
    refine ⟨u, rv, ?_⟩
    rcases S.par y (List.mem_of_getElem? hp) with k | k
    · exact .inl ⟨k, bindL_get ndP hp hu k⟩
    · obtain ⟨c, e⟩ := cell_has (n := s.heap.objs.size + 1) k
      refine .inr ⟨.inl k, c, e, ?_⟩
      have q := x.cell y c e
      rw [bindC_get ndP hp hu (by show scope.names.lookup y ≠ _; rw [k]; decide)] at q
      exact q
  · exact e0.hok.fresh (Nat.le_of_lt (x.above y c (PySem.mem_of_lookup h)))
  · unfold start
    show _ = N.length
    rw [List.length_append, List.length_map, List.length_replicate]
    omega

theorem fn_of {CX : CXT} {P : Program} {w : World} {K : PySem.W.Frag} {mg : Str → Option Value} {base : Heap} {k : Nat} {f : Addr} {name qual : Str} {params : Arguments} {body : List Stmt} {scope : Scope} {dV kV doc pm cdv ct oc : Value} {an od : Option Addr}
    {osl : Array (Option Value)} {N ps : List Str} {sp : Sp} (lk : K.lookup f = some ⟨oc, od, .func (PySem.W.fnOf name qual params body scope dV kV doc pm an cdv ct), osl⟩) (hcd : PySem.W.codeIn K cdv qual = true) (S : FnScope N ps scope)
    (len : ∀ vs H Q E, sp vs H Q E → vs.length = ps.length)
    (hbody : ∀ (A : Around) (outer : List Env) (s : Shared) (H : Hp) (vs : List V) (Q : VK) (E : XK), Room k (A.deeper (envOfC qual scope s.heap.objs.size f cdv)) → sp vs H Q E →
      ∃ t, PSs (cxOf CX P w K mg base N qual scope f cdv A outer s H E) body t ∧ t { nx := fun _ H' => Q .non H', rt := Q } (start N vs) H) :
    FnOk P w K mg base CX (k + 1) f (PySem.W.fnOf name qual params body scope dV kV doc pm an cdv ct) ps sp := by
  refine ⟨len, fun A outer s H args us vs Q E hr e0 hb r hsp => ?_⟩
  have hl := len _ _ _ _ hsp
  have KX : K.In s.heap := e0.mod.kin.keeps fun b o e => (e0.bs b o e).1
  have lim : s.heap.NoLimit := e0.mod.nolimit.keeps fun b o e => (e0.bs b o e).1
  have hkind : ∀ y ∈ ps.zip us, scope.names.lookup y.1 = some .local ∨ (scope.names.lookup y.1 = some .cell ∧ ((cellsFrom (s.heap.objs.size + 1) scope.names []).lookup y.1).isSome = true) := fun ⟨n, v⟩ hy => by
    rcases S.par n (List.of_mem_zip hy).1 with q | q
    · exact .inl q
    · exact .inr ⟨q, PySem.W.cellsFrom_some _ _ _ (.inl q)⟩
  refine codeAny_call_function hr.depth (KX _ _ lk) rfl S.co S.gen rfl (PySem.W.codeRec_of KX hcd) (hb _ _ _ _ ?_)
  refine wpAny_newFunctionEnv_cells S.kind hkind fun env he s1 x => ?_
  subst he
  refine ⟨lim.keeps x.toInCall.keep, codeAny_func ?_⟩
  obtain ⟨t, ht, hq⟩ := hbody A outer s H vs Q E (hr.deeper _) hsp
  have I : Inv (cxOf CX P w K mg base N qual scope f cdv A outer s H E) [] (start N vs) H s1 := inv_start S hr.hd e0 hl r x
  refine wpAny_mono (ht [] s1 (start N vs) H _ I hq) (fun fl s' hs => ?_) fun e s' hs => hs
  have fin : ∀ {σ' : St} {H' : Hp} {v : V} {u : Value}, Inv (cxOf CX P w K mg base N qual scope f cdv A outer s H E) [] σ' H' s' → RelV v u → Q v H' → CE outer P w H s Q u s' :=
    fun {σ' H' v u} J rv q => ⟨v, H', J.os, J.bare, J.base, J.hok, rv, q⟩
  cases fl with
  | ret u =>
    obtain ⟨v, σ', H', J, rv, q⟩ := hs
    exact fin J rv q
  | next =>
    obtain ⟨σ', H', J, q⟩ := hs
    exact fin (v := V.non) (u := Value.none) J rfl q
  | brk =>
    obtain ⟨_, _, _, q⟩ := hs
    exact False.elim q
  | cont =>
    obtain ⟨_, _, _, q⟩ := hs
    exact False.elim q
end L2

namespace L2
open PySem PySem.Spec PyProof.Rows
section
variable {X : Cx} {x : Str} {p pos : Pos} {e : Expr} {es : List Expr} {t : TA} {id T : String} {r : List V → Hp → VK → Prop}

noncomputable def tCB (r : List V → Hp → VK → Prop) (t : TA) : TE := fun σ H Q => t σ H fun vs H1 => r vs H1 Q
theorem pe_callB (hc : CallR X (.builtin id) r) (hg : Gl X x) (hm : X.mg x = none) (hv : bootBuiltins x = some (.builtin id)) (ha : PA X (e :: es) t) (hn : x ≠ "__name__" := by decide) (hdb : (x == ("__debug__" : Str)) = false := by decide)
    (he : starEach (e :: es) X.env = (false, eval e X.env) :: starEach es X.env := by rfl) (hpl : (backTo pos (starEach es X.env)).any (·.1) = false := by rfl) : PE X (.Call (.Name x p) (e :: es) [] pos) (tCB r t) := by
  intro pins s σ H Q I h
  refine wpAny_Call_Name_kw (ld_blt I hg hm hv ?_ hn hdb)
  exact PyProof.Rows.callWith_builtin1 (thn (ha pos pins s σ H _ I h) fun us s1 ⟨vs, H1, I1, r1, q1⟩ => hc pins s1 σ H1 vs us Q I1 r1 q1) he hpl
theorem pe_callTy (hc : CallR X (.type T) r) (hg : Gl X x) (hm : X.mg x = none) (hv : bootBuiltins x = some (.type T)) (ha : PA X (e :: es) t) (hn : x ≠ "__name__" := by decide) (hdb : (x == ("__debug__" : Str)) = false := by decide)
    (he : starEach (e :: es) X.env = (false, eval e X.env) :: starEach es X.env := by rfl) (hpl : (backTo pos (starEach es X.env)).any (·.1) = false := by rfl) : PE X (.Call (.Name x p) (e :: es) [] pos) (tCB r t) := by
  intro pins s σ H Q I h
  refine wpAny_Call_Name_kw (ld_blt I hg hm hv ?_ hn hdb)
  exact PyProof.Rows.callWith_type1 (thn (ha pos pins s σ H _ I h) fun us s1 ⟨vs, H1, I1, r1, q1⟩ => hc pins s1 σ H1 vs us Q I1 r1 q1) he hpl
end
end L2

namespace HT
open PySem PyProof.Rows



section
open PySem.SeqAt
open PySem.AutoSeq1 (wpAny_loadPart')
open PySem.MeetsSeq PySem.MeetsSeq2 PySem.MeetsSeq3

end

section
variable {prog : Program} {w : World} {A : Around} {E : Value → Shared → Prop} {s : Shared}


theorem cat_tup {t b : Addr} {vs ws : List Value} {Q : Value → Shared → Prop} (ht : IsTup s.heap t vs.toArray) (hb : IsTup s.heap b ws.toArray) (hv : vs ≠ [])
    (h1 : ws = [] → Q (.ref t) s) (h2 : ws ≠ [] → Q (.ref s.heap.objs.size) { s with heap := s.heap.push { cls := .type "tuple", data := .seq (vs ++ ws).toArray } })
    (hsz : vs.length + ws.length ≤ sizeLine) : wpAny (model prog w) A (binaryOp .Add (.ref t) (.ref b)) Q E s := by
  obtain ⟨⟨cls, dd, data, sl⟩, ho, hc, n, hd⟩ := id ht
  obtain ⟨⟨cls2, dd2, data2, sl2⟩, ho2, hc2, n2, hd2⟩ := id hb
  simp only at hc hd hc2 hd2
  subst hc hd hc2 hd2
  have e : vs.toArray ++ ws.toArray = (vs ++ ws).toArray := by simp
  by_cases hw : ws = []
  · exact concat_meets ⟨_, ho, rfl⟩ ⟨_, ho2, rfl⟩ noFill_tuple_add seq_tuple_add PySem.F.slot_tuple_add PySem.F.entry_tuple_add (PySem.F.args_tuple_add_2 _ _)
      (tuple_addW1 t b vs.toArray ws.toArray n n2 dd dd2 sl sl2 (by simpa using hv) (by simp [hw])) ⟨ho, ho2, h1 hw⟩
  · refine concat_meets ⟨_, ho, rfl⟩ ⟨_, ho2, rfl⟩ noFill_tuple_add seq_tuple_add PySem.F.slot_tuple_add PySem.F.entry_tuple_add (PySem.F.args_tuple_add_2 _ _)
      (tuple_addW2 t b vs.toArray ws.toArray n n2 dd dd2 sl sl2 (by simpa using hv) (by simpa using hw) (by rw [List.size_toArray, List.size_toArray]; exact hsz)) ⟨ho, ho2, ?_⟩
    rw [e]
    exact h2 hw

/-! ### t[a:b], not the whole -/
noncomputable def sIx (n d : Nat) : Option Int → Nat
  | none => d
  | some v => if v < 0 then (v + (n : Int)).toNat else min v.toNat n
theorem sIx_nat (n d k : Nat) : sIx n d (some (k : Int)) = min k n := by
  show (if (k : Int) < 0 then ((k : Int) + (n : Int)).toNat else min (k : Int).toNat n) = min k n
  rw [if_neg (by omega), Int.toNat_natCast]

end
end HT

namespace L2
open PySem PySem.Spec PyProof.Rows

/-! ### the parts of a slice -/
noncomputable abbrev TO := St → Hp → (Option Int → Hp → Prop) → Prop
noncomputable def PO (X : Cx) (e : Option Expr) (t : TO) : Prop :=
  ∀ (pins : List (Addr × Obj)) (s : Shared) (σ : St) (H : Hp) (Q : Option Int → Hp → Prop), Inv X pins σ H s → t σ H Q →
    wpAny (model X.prog X.w) X.A (evalPart e X.env) (fun u s' => ∃ o H', Inv X pins σ H' s' ∧ IsPart u o ∧ Q o H') X.xe s
noncomputable def tNoPart : TO := fun _ H Q => Q none H
noncomputable def tPart (t : TE) : TO := fun σ H Q => t σ H fun x H1 => ∃ i, x = .int i ∧ Q (some i) H1


section
variable {X : Cx} {e : Expr} {te : TE} {lo hi : Option Expr} {tl th : TO} {pos p2 : Pos}

theorem po_none : PO X none tNoPart := by
  intro pins s σ H Q I h
  rw [evalPart_none]
  exact wpAny_pure ⟨none, H, I, .none, h⟩
theorem po_some (h : PE X e te) : PO X (some e) (tPart te) := by
  intro pins s σ H Q I hw
  rw [evalPart_some]
  refine thn (h pins s σ H _ I hw) fun u s1 ⟨x, H1, I1, r1, q1⟩ => ?_
  obtain ⟨i, rfl, q⟩ := q1
  obtain ⟨t, rfl⟩ := r1
  exact ⟨some i, H1, I1, .int i t, q⟩

noncomputable def SlR (X : Cx) (r : V → Option Int → Option Int → Hp → VK → Prop) : Prop :=
  ∀ (pins : List (Addr × Obj)) (s : Shared) (σ : St) (H : Hp) (x : V) (v vl vu : Value) (lo hi : Option Int) (sl : Addr) (Q : VK), Inv X pins σ H s → RelV x v → s.heap.IsSliceOf sl vl vu .none → IsPart vl lo → IsPart vu hi → r x lo hi H Q →
    ∃ T id, typeLookup (.type T) "__getitem__" = pure (some (.builtin id)) ∧ s.TypeIs v T ∧ wpAny (model X.prog X.w) X.A (getItem v (.ref sl)) (EP X pins σ Q) X.xe s
noncomputable def tSl (r : V → Option Int → Option Int → Hp → VK → Prop) (te : TE) (tl th : TO) : TE := fun σ H Q => te σ H fun x H1 => tl σ H1 fun l H2 => th σ H2 fun u H3 => r x l u H3 Q
theorem pe_slice {r : V → Option Int → Option Int → Hp → VK → Prop} (hr : SlR X r) (he : PE X e te) (hl : PO X lo tl) (hu : PO X hi th) : PE X (.Subscript e (.Slice lo hi none p2) pos) (tSl r te tl th) := by
  intro pins s σ H Q I h
  refine Subscript_ (thn (he pins s σ H _ I h) fun v s1 ⟨x, H1, I1, r1, q1⟩ => ?_)
  refine wpAny_Slice (thn (hl pins s1 σ H1 _ I1 q1) fun vl s2 ⟨l, H2, I2, pl, q2⟩ => thn (hu pins s2 σ H2 _ I2 q2) fun vu s3 ⟨u, H3, I3, pu, q3⟩ => ?_)
  rw [evalPart_none]
  refine wpAny_pure ?_
  have I4 : Inv X pins σ H3 { s3 with heap := s3.heap.push { cls := .type "slice", data := .fields #[vl, vu, .none] } } := I3.kept (t' := s3.toks) fun b ob q => Heap.get?_push_of_some _ q
  obtain ⟨T, id, hT, ht, hg⟩ := hr pins { s3 with heap := s3.heap.push { cls := .type "slice", data := .fields #[vl, vu, .none] } } σ H3 x v vl vu l u s3.heap.objs.size Q I4 r1 (Heap.IsSliceOf.new ..) pl pu q3
  show wpAny (model X.prog X.w) X.A (subscriptTail e (.Slice lo hi none p2) v (.ref s3.heap.objs.size)) (EP X pins σ Q) X.xe { s3 with heap := s3.heap.push { cls := .type "slice", data := .fields #[vl, vu, .none] } }
  exact tail_any (ops := [.ref s3.heap.objs.size, v]) ht hT hg (by with_unfolding_all rfl)

noncomputable def cutV (xs : List V) (lo hi : Option Int) : List V := (xs.drop (HT.sIx xs.length 0 lo)).take (HT.sIx xs.length xs.length hi - HT.sIx xs.length 0 lo)
theorem cutV_length (xs : List V) (lo hi : Option Int) : (cutV xs lo hi).length ≤ xs.length := by
  unfold cutV
  rw [List.length_take, List.length_drop]
  omega

/-! ### t < u, t + u -/
noncomputable def rCatT (K : PySem.W.Frag) : R2 := fun x y H Q => ∃ a b xs ys, x = .ref a ∧ y = .ref b ∧ SqT K H a xs ∧ SqT K H b ys ∧ xs ≠ [] ∧ xs.length + ys.length ≤ sizeLine ∧
  (ys = [] → Q (.ref a) H) ∧ (ys ≠ [] → ∀ p, H p = none → Q (.ref p) (upd H p (.tup (xs ++ ys))))
theorem Vals.nil_iff {xs : List V} {us : List Value} (r : Vals xs us) : us = [] ↔ xs = [] := by
  cases r with
  | nil => simp
  | cons _ _ => simp
theorem op_catT : OpR X (binaryOp .Add) (rCatT X.K) := by
  intro pins s σ H x y v u Q I rx ry h
  obtain ⟨a, b, xs, ys, rfl, rfl, ha, hb, hx, hz, q1, q2⟩ := h
  cases rx
  cases ry
  obtain ⟨its, r1, p1, _⟩ := I.tuple ha
  obtain ⟨its2, r2, p2, _⟩ := I.tuple hb
  refine HT.cat_tup p1 p2 (fun z => hx (r1.nil_iff.mp z)) (fun z => ⟨.ref a, H, I, rfl, q1 (r2.nil_iff.mp z)⟩) (fun z => ?_) (by rw [← r1.length, ← r2.length]; exact hz)
  refine ⟨.ref s.heap.objs.size, _, I.laid (t' := s.toks) (o := .tup (xs ++ ys)) (fun b ob q => Heap.get?_push_of_some _ q) (Nat.le_refl _) ?_, rfl, q2 (fun w => z (r2.nil_iff.mpr w)) _ (I.hok.fresh (Nat.le_refl _))⟩
  exact ⟨by rw [List.length_append]; exact hz, _, r1.append r2, IsTup.new _ _⟩
end
end L2

namespace L2
open PySem PySem.Spec PyProof.Rows

/-! ### places -/
noncomputable def ixN (n : Nat) (i : Int) : Option Nat := if 0 ≤ i then (if i < n then some i.toNat else none) else if -(n : Int) ≤ i then some (i + n).toNat else none
noncomputable def atI {α : Type} (xs : List α) (i : Int) : Option α := (ixN xs.length i).bind fun j => xs[j]?
theorem ixN_seq {n : Nat} {i : Int} {j : Nat} (h : ixN n i = some j) : seqIndex? i n = some j ∧ j < n ∧ -(n : Int) ≤ i ∧ i < n := by
  unfold ixN at h
  by_cases h0 : 0 ≤ i
  · rw [if_pos h0] at h
    by_cases h1 : i < n
    · rw [if_pos h1] at h
      have e : i.toNat = j := Option.some.inj h
      exact ⟨by rw [seqIndex_of h0 h1, e], by omega, by omega, h1⟩
    · rw [if_neg h1] at h; cases h
  · rw [if_neg h0] at h
    by_cases h1 : -(n : Int) ≤ i
    · rw [if_pos h1] at h
      have e : (i + n).toNat = j := Option.some.inj h
      exact ⟨by rw [seqIndex_neg (by omega) h1, e], by omega, h1, by omega⟩
    · rw [if_neg h1] at h; cases h
theorem atI_get {α : Type} {xs : List α} {i : Int} {v : α} (h : atI xs i = some v) : ∃ j, seqIndex? i xs.length = some j ∧ xs[j]? = some v ∧ j < xs.length ∧ -(xs.length : Int) ≤ i ∧ i < xs.length := by
  unfold atI at h
  cases e : ixN xs.length i with
  | none => rw [e] at h; cases h
  | some j =>
    rw [e] at h
    obtain ⟨h1, h2, h3, h4⟩ := ixN_seq e
    exact ⟨j, h1, h, h2, h3, h4⟩
theorem atI_last {α : Type} (xs : List α) (v : α) : atI (xs ++ [v]) (-1) = some v := by
  have hl : (xs ++ [v]).length = xs.length + 1 := by simp
  have e : ixN (xs ++ [v]).length (-1) = some xs.length := by
    unfold ixN
    rw [hl, if_neg (by decide), if_pos (by omega)]
    congr 1
    omega
  unfold atI
  rw [e]
  show (xs ++ [v])[xs.length]? = some v
  simp

/-! ### what may be subscripted -/
noncomputable def PlainIx (b : Expr) : Prop := ∀ o i, subscripted b false o i = operate [o, i] (getItem o i)
noncomputable def IxR (X : Cx) (r : R2) : Prop :=
  ∀ (value slice : Expr) (pins : List (Addr × Obj)) (s : Shared) (σ : St) (H : Hp) (x y : V) (v u : Value) (Q : VK), Inv X pins σ H s → RelV x v → RelV y u → r x y H Q →
    subscripted slice false v u = operate [v, u] (getItem v u) → wpAny (model X.prog X.w) X.A (subscriptTail value slice v u) (EP X pins σ Q) X.xe s
noncomputable def MtR (X : Cx) (id : String) (r : V → List V → Hp → VK → Prop) : Prop :=
  ∀ (pins : List (Addr × Obj)) (s : Shared) (σ : St) (H : Hp) (x : V) (xs : List V) (v : Value) (us : List Value) (Q : VK), Inv X pins σ H s → RelV x v → Vals xs us → r x xs H Q →
    wpAny (model X.prog X.w) X.A (call (.builtin id) (v :: us)) (EP X pins σ Q) X.xe s
section
variable {X : Cx} {a b : Expr} {ta tb : TE} {pos : Pos}
theorem pe_ix {r : R2} (hr : IxR X r) (ha : PE X a ta) (hb : PE X b tb) (hs : PlainIx b) : PE X (.Subscript a b pos) (tOp r ta tb) := by
  intro pins s σ H Q I h
  exact Subscript_ (binT ha hb I h fun v u s2 x y H2 I2 rx ry q => hr a b pins s2 σ H2 x y v u Q I2 rx ry q (hs _ _))

noncomputable def rIxL (K : PySem.W.Frag) : R2 := fun x y H Q => ∃ p xs i v, x = .ref p ∧ y = .int i ∧ SqL K H p xs ∧ atI xs i = some v ∧ Q v H
noncomputable def rIxT (K : PySem.W.Frag) : R2 := fun x y H Q => ∃ p xs i v, x = .ref p ∧ y = .int i ∧ SqT K H p xs ∧ atI xs i = some v ∧ Q v H
noncomputable def rIxS : R2 := fun x y H Q => ∃ z i c, x = .str z ∧ y = .int i ∧ z.length ≤ sizeLine ∧ atI z.cps.toList i = some c ∧ Q (.str ⟨#[c]⟩) H
theorem ix_list : IxR X (rIxL X.K) := by
  intro value slice pins s σ H x y v u Q I rx ry h hs
  obtain ⟨p, xs, i, z, rfl, rfl, hq, he, q⟩ := h
  cases rx
  obtain ⟨t, rfl⟩ := ry
  obtain ⟨its, r, pl, hz⟩ := I.list hq
  obtain ⟨j, h1, h2, h3, h4, h5⟩ := atI_get he
  obtain ⟨w, ew, rw'⟩ := r.get h2
  have hl := r.length
  have hn := line63
  have fin : EP X pins σ Q w s := ⟨z, H, I, rw', q⟩
  by_cases h0 : 0 ≤ i
  · have hj : i.toNat = j := by
      rw [seqIndex_of h0 h5] at h1
      exact Option.some.inj h1
    exact item_listR pl.isList h0 (by omega) (by rw [hj]; simpa using ew) fin hs
  · have hj : (i + (its.toArray.size : Int)).toNat = j := by
      rw [seqIndex_neg (by omega) h4] at h1
      rw [List.size_toArray, ← hl]
      exact Option.some.inj h1
    exact subscriptTail_builtinR (x := w) pl.isList.typeIs slot_list_getitem.lookup
      (wpAny_getItem_list_neg (Q := fun r s' => r = w ∧ EP X pins σ Q r s') pl.isList (by omega) (by rw [List.size_toArray] <;> omega) (by omega) (by rw [hj]; simpa using ew) ⟨rfl, fin⟩) hs
theorem ix_tup : IxR X (rIxT X.K) := by
  intro value slice pins s σ H x y v u Q I rx ry h hs
  obtain ⟨p, xs, i, z, rfl, rfl, hq, he, q⟩ := h
  cases rx
  obtain ⟨t, rfl⟩ := ry
  obtain ⟨its, r, pl, hz⟩ := I.tuple hq
  obtain ⟨j, h1, h2, h3, h4, h5⟩ := atI_get he
  obtain ⟨w, ew, rw'⟩ := r.get h2
  have hl := r.length
  have hn := line63
  have fin : EP X pins σ Q w s := ⟨z, H, I, rw', q⟩
  exact subscriptTail_builtinR (x := w) pl.typeIs slot_tuple_getitem.lookup
    (getItem_tuple (j := j) (Q := fun r s' => r = w ∧ EP X pins σ Q r s') pl (by omega) (by omega) (by rw [List.size_toArray, ← hl]; exact h1) (by simpa using ew) ⟨rfl, fin⟩) hs
theorem ix_str : IxR X rIxS := by
  intro value slice pins s σ H x y v u Q I rx ry h hs
  obtain ⟨z, i, c, rfl, rfl, hz, he, q⟩ := h
  obtain ⟨t, rfl⟩ := rx
  obtain ⟨t', rfl⟩ := ry
  obtain ⟨j, h1, h2, h3, h4, h5⟩ := atI_get he
  have hl : z.cps.toList.length = z.length := by simp [Str.length]
  rw [hl] at h1 h4 h5
  have hn := line63
  exact tail_any (typeIs_str s z t) slot_str_getitem.lookup (getItem_str (c := c) (by
    have e1 : decide (i < -(2 ^ 63 : Int)) = false := decide_eq_false (by omega)
    have e2 : decide (i ≥ 2 ^ 63) = false := decide_eq_false (by omega)
    rw [e1, e2, Bool.or_false]) (by rw [h1]; simpa using h2) ⟨.str ⟨#[c]⟩, H, I.tok _, ⟨_, rfl⟩, q⟩) hs

/-! ### xs[i] = v, any sign -/

/-! ### slices -/
theorem slice_bounds (lo hi : Option Int) (n : Nat) : (sliceBounds lo hi none n).1 = ((HT.sIx n 0 lo : Nat) : Int) ∧ (sliceBounds lo hi none n).2.1 = ((HT.sIx n n hi : Nat) : Int) ∧ (sliceBounds lo hi none n).2.2 = 1 := by
  refine ⟨?_, ?_, rfl⟩
  · cases lo with
    | none => simp [sliceBounds, HT.sIx]
    | some i =>
      simp only [sliceBounds, HT.sIx, Option.getD_none, show (1 : Int) > 0 by decide, if_true]
      by_cases h : i < 0
      · simp only [h, if_true] <;> omega
      · simp only [h, if_false] <;> omega
  · cases hi with
    | none => simp [sliceBounds, HT.sIx]
    | some i =>
      simp only [sliceBounds, HT.sIx, Option.getD_none, show (1 : Int) > 0 by decide, if_true]
      by_cases h : i < 0
      · simp only [h, if_true] <;> omega
      · simp only [h, if_false] <;> omega
theorem slicePick_cut (its : List Value) (lo hi : Option Int) : slicePick its.toArray lo hi none = ((its.drop (HT.sIx its.length 0 lo)).take (HT.sIx its.length its.length hi - HT.sIx its.length 0 lo)).toArray := by
  obtain ⟨h1, h2, h3⟩ := slice_bounds lo hi its.toArray.size
  unfold slicePick
  rw [h1, h2, h3]
  simp only [sliceRange_one, pick_run, List.size_toArray] <;> rfl
noncomputable def rSlL (K : PySem.W.Frag) : V → Option Int → Option Int → Hp → VK → Prop := fun x lo hi H Q => ∃ a xs, x = .ref a ∧ SqL K H a xs ∧ ∀ p, H p = none → Q (.ref p) (upd H p (.lst (cutV xs lo hi)))
theorem sl_list : SlR X (rSlL X.K) := by
  intro pins s σ H x v vl vu lo hi sl Q I rx hs pl pu h
  obtain ⟨a, xs, rfl, hx, q⟩ := h
  cases rx
  obtain ⟨its, r, ht, hz⟩ := I.list hx
  have hlen := r.length
  refine ⟨"list", _, slot_list_getitem.lookup, ht.isList.typeIs, ?_⟩
  refine wpAny_getItem_list_slice ht.isList hs pl pu .none (by simp) ?_ (by rw [List.size_toArray] <;> omega)
  rw [slicePick_cut, ← hlen]
  refine ⟨.ref s.heap.objs.size, _, I.laid (t' := s.toks) (o := .lst (cutV xs lo hi)) (fun b ob q => Heap.get?_push_of_some _ q) (Nat.le_refl _) ?_, rfl, q _ (I.hok.fresh (Nat.le_refl _))⟩
  exact ⟨Nat.le_trans (cutV_length xs lo hi) hz, _, 0, (r.drop (HT.sIx xs.length 0 lo)).take (HT.sIx xs.length xs.length hi - HT.sIx xs.length 0 lo), Heap.get?_push_size _ rfl⟩

/-! ### in, not in: flat items -/
noncomputable def flatV : V → Bool
  | .non => true
  | .bl _ => true
  | .int _ => true
  | .str _ => true
  | _ => false
noncomputable def eqV : V → V → Bool
  | .non, .non => true
  | .bl a, .bl b => a == b
  | .bl a, .int b => (if a then 1 else 0) == b
  | .int a, .bl b => a == (if b then 1 else 0)
  | .int a, .int b => a == b
  | .str a, .str b => a == b
  | _, _ => false
theorem eqAt_V {A : Around} {s : Shared} {y x : V} {u v : Value} (ry : RelV y u) (rx : RelV x v) (fy : flatV y = true) (fx : flatV x = true) : SeqAt.EqAt A s u v (eqV y x) := by
  cases y with
  | non =>
    cases ry
    cases x with
    | non => cases rx; exact SeqAt.EqAt.same _
    | bl b => cases rx; exact SeqAt.EqAt.none_bool b
    | int b => obtain ⟨t, rfl⟩ := rx; exact SeqAt.EqAt.none_int b t
    | str b => obtain ⟨t, rfl⟩ := rx; exact SeqAt.EqAt.none_str b t
    | _ => exact absurd (show false = true from fx) Bool.false_ne_true
  | bl a =>
    cases ry
    cases x with
    | non => cases rx; exact SeqAt.EqAt.bool_none a
    | bl b => cases rx; exact SeqAt.EqAt.bool_bool a b
    | int b => obtain ⟨t, rfl⟩ := rx; exact SeqAt.EqAt.bool_int a b t
    | str b => obtain ⟨t, rfl⟩ := rx; exact SeqAt.EqAt.bool_str a b t
    | _ => exact absurd (show false = true from fx) Bool.false_ne_true
  | int a =>
    obtain ⟨t', rfl⟩ := ry
    cases x with
    | non => cases rx; exact SeqAt.EqAt.int_none a t'
    | bl b => cases rx; exact SeqAt.EqAt.int_bool a t' b
    | int b => obtain ⟨t, rfl⟩ := rx; exact SeqAt.EqAt.int_int a t' b t
    | str b => obtain ⟨t, rfl⟩ := rx; exact SeqAt.EqAt.int_str a t' b t
    | _ => exact absurd (show false = true from fx) Bool.false_ne_true
  | str a =>
    obtain ⟨t', rfl⟩ := ry
    cases x with
    | non => cases rx; exact SeqAt.EqAt.str_none a t'
    | bl b => cases rx; exact SeqAt.EqAt.str_bool a t' b
    | int b => obtain ⟨t, rfl⟩ := rx; exact SeqAt.EqAt.str_int a t' b t
    | str b => obtain ⟨t, rfl⟩ := rx; exact SeqAt.EqAt.str_str a t' b t
    | _ => exact absurd (show false = true from fx) Bool.false_ne_true
  | _ => exact absurd (show false = true from fy) Bool.false_ne_true
noncomputable def eqU (x : V) (u : Value) : Bool := match u with
  | .none => eqV .non x
  | .bool b => eqV (.bl b) x
  | .int i _ => eqV (.int i) x
  | .str z _ => eqV (.str z) x
  | _ => false
theorem eqU_of {x y : V} {u : Value} (r : RelV y u) (f : flatV y = true) : eqU x u = eqV y x := by
  cases y with
  | non => cases r; rfl
  | bl b => cases r; rfl
  | int i => obtain ⟨t, rfl⟩ := r; rfl
  | str z => obtain ⟨t, rfl⟩ := r; rfl
  | _ => exact absurd (show false = true from f) Bool.false_ne_true
theorem any_eqU {x : V} : ∀ {xs : List V} {us : List Value}, Vals xs us → xs.all flatV = true → us.any (eqU x) = xs.any fun y => eqV y x
  | _, _, .nil, _ => rfl
  | y :: xs, u :: us, .cons r t, f => by
    rw [List.all_cons, Bool.and_eq_true] at f
    rw [List.any_cons, List.any_cons, eqU_of r f.1, any_eqU t f.2]
theorem mem_eqAt {A : Around} {s : Shared} {x : V} {v : Value} (rx : RelV x v) (fx : flatV x = true) : ∀ {xs : List V} {us : List Value}, Vals xs us → xs.all flatV = true → ∀ u ∈ us, SeqAt.EqAt A s u v (eqU x u)
  | _, _, .nil, _ => fun u hu => by cases hu
  | y :: xs, u :: us, .cons r t, f => fun u' hu => by
    rw [List.all_cons, Bool.and_eq_true] at f
    rcases List.mem_cons.mp hu with rfl | hu
    · rw [eqU_of r f.1]; exact eqAt_V r rx f.1 fx
    · exact mem_eqAt rx fx t f.2 u' hu
noncomputable def inV (x : V) (xs : List V) : Bool := xs.any fun y => eqV y x
noncomputable def rIn (K : PySem.W.Frag) (neg : Bool) : R2 := fun x y H Q => ∃ p xs, y = .ref p ∧ (SqL K H p xs ∨ SqT K H p xs) ∧ flatV x = true ∧ xs.all flatV = true ∧ Q (.bl (if neg then !inV x xs else inV x xs)) H
theorem op_in_seq : OpR X (compareOp .In) (rIn X.K false) := by
  intro pins s σ H x y v u Q I rx ry h
  obtain ⟨p, xs, rfl, hq, fx, fs, q⟩ := h
  cases ry
  rcases hq with hq | hq
  · obtain ⟨its, r, pl, hz⟩ := I.list hq
    refine SeqAt.in_listAt (eqU x) pl.isList (fun w hw => mem_eqAt rx fx r fs w (by simpa using hw)) ⟨.bl _, H, I, rfl, ?_⟩
    rw [show its.toArray.any (eqU x) = its.any (eqU x) by simp, any_eqU r fs]
    exact q
  · obtain ⟨its, r, pl, hz⟩ := I.tuple hq
    refine SeqAt.in_tupleAt (eqU x) pl (fun w hw => mem_eqAt rx fx r fs w (by simpa using hw)) ⟨.bl _, H, I, rfl, ?_⟩
    rw [show its.toArray.any (eqU x) = its.any (eqU x) by simp, any_eqU r fs]
    exact q

/-! ### len, list(x), tuple(x) of any list or tuple that is read -/
theorem call_list_of : CallR X (.type "list") (fun xs H Q => ∃ p ys, xs = [.ref p] ∧ (SqL X.K H p ys ∨ SqT X.K H p ys) ∧ ∀ l, H l = none → Q (.ref l) (upd H l (.lst ys))) := by
  intro pins s σ H xs us Q I r h
  obtain ⟨p, ys, rfl, hq, q⟩ := h
  obtain ⟨u, rfl, rx⟩ := vals1 r
  cases rx
  have fin : ∀ (its : List Value), Vals ys its → ys.length ≤ sizeLine → ∀ (h' : Heap) (c' : Nat), (∀ b o', s.heap.get? b = some o' → h'.get? b = some o') →
      h'.get? s.heap.objs.size = some { cls := .type "list", dict := none, data := .seq its.toArray c', slots := #[] } → EP X pins σ Q (.ref s.heap.objs.size) { s with heap := h' } := fun its r' hz h' c' kp e =>
    ⟨.ref s.heap.objs.size, _, I.laid (t' := s.toks) kp (Nat.le_refl _) (show ObjOk X.prog X.w _ h' _ (.lst ys) from ⟨hz, its, c', r', e⟩), rfl, q _ (I.hok.fresh (Nat.le_refl _))⟩
  rcases hq with hq | hq
  · obtain ⟨its, r', pl, hz⟩ := I.list hq
    have hlen := r'.length
    obtain ⟨o, ho, hc, n, hd⟩ := pl.isList
    exact call_list_seq p (.inl rfl) ho hc hd (fun h' c' kp e => fin its r' hz h' c' kp e) (by simp only [List.size_toArray] <;> omega)
  · obtain ⟨its, r', pl, hz⟩ := I.tuple hq
    have hlen := r'.length
    obtain ⟨o, ho, hc, n, hd⟩ := pl
    exact call_list_seq p (.inr rfl) ho hc hd (fun h' c' kp e => fin its r' hz h' c' kp e) (by simp only [List.size_toArray] <;> omega)

/-! ### the call of a builtin's method: o.m(..) -/
noncomputable def tyV (K : PySem.W.Frag) (T : String) (x : V) (H : Hp) : Prop := match x with
  | .str _ => T = "str"
  | .int _ => T = "int"
  | .ref p => (T = "list" ∧ ∃ xs, SqL K H p xs) ∨ (T = "tuple" ∧ ∃ o, K.lookup p = some o ∧ o.cls = .type "tuple" ∧ o.dict = none) ∨
      (T = "dict" ∧ ((∃ kvs, H p = some (.dK kvs)) ∨ ∃ kvs, H p = some (.dT kvs))) ∨ (T = "set" ∧ ∃ S n, H p = some (.set S n))
  | _ => False
theorem tyV_is {pins : List (Addr × Obj)} {σ : St} {H : Hp} {s : Shared} {T : String} {x : V} {v : Value} (I : Inv X pins σ H s) (r : RelV x v) (ty : tyV X.K T x H) :
    s.TypeIs v T ∧ ∀ a, v = .ref a → ∃ ob, s.heap.get? a = some ob ∧ ob.dict = none := by
  cases x with
  | str z =>
    obtain ⟨t, rfl⟩ := r
    cases (show T = "str" from ty)
    exact ⟨typeIs_str s z t, fun _ e => nomatch e⟩
  | int i =>
    obtain ⟨t, rfl⟩ := r
    cases (show T = "int" from ty)
    exact ⟨typeIs_int s i t, fun _ e => nomatch e⟩
  | ref p =>
    cases r
    rcases ty with ⟨rfl, xs, hq⟩ | ⟨rfl, o, hk, hc, hd⟩ | ⟨rfl, hk⟩ | ⟨rfl, S, n, hk⟩
    · obtain ⟨its, _, pl, _⟩ := I.list hq
      refine ⟨pl.isList.typeIs, fun a e => ?_⟩
      cases e
      obtain ⟨o, n, e, c, hd, _⟩ := pl
      exact ⟨o, e, hd⟩
    · refine ⟨⟨o, I.kIn p o hk, hc⟩, fun a e => ?_⟩
      cases e
      exact ⟨o, I.kIn _ o hk, hd⟩
    · have z : ∃ o, s.heap.get? p = some o ∧ o.ExactDict := by
        rcases hk with ⟨kvs, hk⟩ | ⟨kvs, hk⟩
        · obtain ⟨_, _, _, _, o, _, _, e, ex, _⟩ := I.hok p _ hk
          exact ⟨o, e, ex⟩
        · obtain ⟨_, _, _, _, o, _, _, e, ex, _⟩ := I.hok p _ hk
          exact ⟨o, e, ex⟩
      obtain ⟨o, e, ex⟩ := z
      refine ⟨⟨o, e, ex.1⟩, fun a e2 => ?_⟩
      cases e2
      exact ⟨o, e, ex.2.1⟩
    · obtain ⟨o, _, _, _, e, ex, _⟩ := I.hok p _ hk
      refine ⟨⟨o, e, ex.1⟩, fun a e2 => ?_⟩
      cases e2
      exact ⟨o, e, ex.2.1⟩
  | _ => exact False.elim ty
noncomputable def tBM (K : PySem.W.Frag) (T : String) (r : V → List V → Hp → VK → Prop) (to : TE) (t : TA) : TE := fun σ H Q => to σ H fun x H1 => tyV K T x H1 ∧ t σ H1 fun xs H2 => r x xs H2 Q
variable {o e : Expr} {es : List Expr} {to : TE} {t : TA} {name : Str} {apos cpos : Pos} {T id : String} {r : V → List V → Hp → VK → Prop}
theorem pe_bm (pa : PlainAttrs T) (slot : Slot T name id) (hty : typeOf (.builtin id) = pure (.type "method_descriptor")) (hm : MtR X id r) (ho : PE X o to) (ha : PA X (e :: es) t)
    (hbase : attributeBase o name X.env (eval o X.env) = eval o X.env := by rfl)
    (hfew : ((backTo cpos (starEach (e :: es) X.env)).all (fun x => !x.1) && (backToKw cpos (keywordEach [] X.env)).all (fun x => x.1.isSome)
      && decide ((e :: es).length + ([] : List Keyword).length + (if ([] : List Keyword).isEmpty then 0 else 1) < 30)) = true := by rfl)
    (hline : (apos.endLine == cpos.line) = true := by rfl) (hs : starEach (e :: es) X.env = (false, eval e X.env) :: starEach es X.env := by rfl) (hplain : (backTo cpos (starEach es X.env)).any (·.1) = false := by rfl) :
    PE X (.Call (.Attribute o name apos) (e :: es) [] cpos) (tBM X.K T r to t) := by
  intro pins s σ H Q I h
  refine wpAny_Call_method_late hbase hfew hline rfl (thn (ho pins s σ H _ I h) fun v s1 ⟨x, H1, I1, r1, ty, q1⟩ => ?_)
  obtain ⟨h1, h2⟩ := tyV_is I1 r1 ty
  refine ⟨T, id, pa, slot, hty, h1, h2, ?_⟩
  have hA := ha cpos pins s1 σ H1 _ I1 q1
  rw [hs] at hA ⊢
  refine Calls.callWith_builtin (by show (false || (backTo cpos (starEach es X.env)).any (·.1)) = false; rw [hplain] <;> rfl) (Calls.evalArgs_plain ?_)
  exact thn hA fun us s2 ⟨vs, H2, I2, r2, q2⟩ => hm pins s2 σ H2 x vs v us Q I2 r1 r2 q2
/- xs.append(e), list.index on a module's tuple .. are MtR facts of 06m -/
end
end L2

namespace L2
open PySem PySem.Spec PyProof.Rows

noncomputable def MtM (X : Cx) (id : String) (r : V → List V → Hp → VK → Prop) : Prop :=
  ∀ (pins : List (Addr × Obj)) (s : Shared) (σ : St) (H : Hp) (x : V) (xs : List V) (v : Value) (us : List Value) (Q : VK), Inv X pins σ H s → RelV x v → Vals xs us → r x xs H Q →
    wpAny (model X.prog X.w) X.A (call (.builtin id) (v :: us)) (EP X pins σ Q) X.xe s

/-! ### lists of values -/
theorem Vals.one : ∀ {x : V} {us : List Value}, Vals [x] us → ∃ u, us = [u] ∧ RelV x u
  | _, _, .cons r .nil => ⟨_, rfl, r⟩

section
variable {X : Cx} {pins : List (Addr × Obj)} {σ : St} {H : Hp} {s : Shared} {l b : Addr} {xs ys zs : List V}

/-! ### the two steps: a tracked list is rewritten, a new list is laid -/
theorem Inv.lset {its its' : List Value} {n : Nat} {f : Array Value → Array Value} {t' : Nat} (I : Inv X pins σ H s) (hH : H l = some (.lst xs))
    (e : s.heap.get? l = some { cls := .type "list", data := .seq its.toArray n }) (hf : f its.toArray = its'.toArray) (hv : Vals ys its') (hz : ys.length ≤ sizeLine) :
    Inv X pins σ (upd H l (.lst ys)) { s with heap := s.heap.update l (Obj.mapSeq f), toks := t' } := by
  have q := PySem.IsL.update e f
  rw [hf] at q
  refine I.write (x := l) (e := l) (by rw [hH]; exact trivial) (.inl rfl) (fun b' u hb hu => (Heap.get?_update_other s.heap (Obj.mapSeq f) (Ne.symm hb)).trans hu) ⟨_, q⟩ ?_
  exact ⟨hz, its', _, hv, q⟩
theorem Inv.lnew {its : List Value} {t' : Nat} (I : Inv X pins σ H s) (hv : Vals ys its) (hz : ys.length ≤ sizeLine) :
    Inv X pins σ (upd H s.heap.objs.size (.lst ys)) { s with heap := s.heap.push { cls := .type "list", data := .seq its.toArray }, toks := t' } :=
  I.laid (fun _ _ q => Heap.get?_push_of_some _ q) (Nat.le_refl _) ⟨hz, its, 0, hv, Heap.get?_push_size _ rfl⟩
theorem Inv.fresh (I : Inv X pins σ H s) : H s.heap.objs.size = none := I.hok.fresh (Nat.le_refl _)
theorem Inv.lstM (I : Inv X pins σ H s) (hH : H l = some (.lst xs)) : xs.length ≤ sizeLine ∧ ∃ (its : List Value) (n : Nat), Vals xs its ∧ xs.length = its.length ∧ s.heap.get? l = some { cls := .type "list", data := .seq its.toArray n } := by
  obtain ⟨z, its, n, r, e⟩ := I.hok l _ hH
  exact ⟨z, its, n, r, r.length, e⟩

end

section
variable {X : Cx}

/-! ### methods -/
noncomputable def rAppend : V → List V → Hp → VK → Prop := fun x vs H Q => ∃ l xs y, x = .ref l ∧ vs = [y] ∧ H l = some (.lst xs) ∧ xs.length < sizeLine ∧ Q .non (upd H l (.lst (xs ++ [y])))
theorem mt_append : MtM X "list.append" rAppend := by
  intro pins s σ H x vs v us Q I rx rv h
  obtain ⟨l, xs, y, rfl, rfl, hH, hz, q⟩ := h
  cases rx
  obtain ⟨u, rfl, ru⟩ := rv.one
  obtain ⟨z, its, n, r, hl, e⟩ := I.lstM hH
  refine call_meets F.slot_list_append ⟨_, e, rfl⟩ F.entry_list_append (F.args_list_append_2 _ _) (PySem.list_append l its.toArray n u (by rw [List.size_toArray]; omega)) ⟨e, ?_⟩
  refine ⟨.non, _, I.lset (its' := its ++ [u]) hH e (by simp) (r.append (.cons ru .nil)) ?_, rfl, q⟩
  rw [List.length_append, List.length_singleton]
  omega






/-! ### list + list, list += list, list * int -/

/-! ### del xs[i] -/
end

/-! ### xs[a:b] = ys -/
section
variable {prog : Program} {w : World} {A : Around} {E : Value → Shared → Prop} {s : Shared}
set_option maxRecDepth 100000 in
end

section
variable {X : Cx}
end
end L2

namespace L2
open PySem PySem.Spec PyProof.Rows

/-! ### lists of pairs as tables -/
section
variable {κ : Type} [DecidableEq κ]
noncomputable def valV (kvs : List (κ × V)) (k : κ) : Option V := (kvs.find? fun kv => decide (kv.1 = k)).map (·.2)
noncomputable def putK (kvs : List (κ × V)) (k : κ) (v : V) : List (κ × V) :=
  if (kvs.any fun kv => decide (kv.1 = k)) = true then kvs.map (fun kv => if kv.1 = k then (kv.1, v) else kv) else kvs ++ [(k, v)]

theorem valV_pos {p : κ × V} {r : List (κ × V)} {k : κ} (e : p.1 = k) : valV (p :: r) k = some p.2 := by simp [valV, List.find?_cons, e]
theorem valV_neg {p : κ × V} {r : List (κ × V)} {k : κ} (e : ¬ p.1 = k) : valV (p :: r) k = valV r k := by simp [valV, List.find?_cons, e]
theorem valV_any (k : κ) : ∀ kvs : List (κ × V), (kvs.any fun kv => decide (kv.1 = k)) = (valV kvs k).isSome
  | [] => rfl
  | p :: r => by
    rw [List.any_cons]
    by_cases e : p.1 = k
    · simp only [valV_pos e, decide_eq_true e, Bool.true_or, Option.isSome_some]
    · rw [valV_neg e, decide_eq_false e, Bool.false_or]; exact valV_any k r
theorem length_putK (kvs : List (κ × V)) (k : κ) (v : V) : (putK kvs k v).length ≤ kvs.length + 1 := by
  unfold putK
  split
  · rw [List.length_map]; omega
  · rw [List.length_append, List.length_cons, List.length_nil]; omega

theorem RelO.isSome_eq {o : Option V} {u : Option Value} (r : RelO o u) : o.isSome = u.isSome := by
  cases o with
  | none => cases u with
    | none => rfl
    | some _ => exact (show False from r).elim
  | some _ => cases u with
    | none => exact (show False from r).elim
    | some _ => rfl
theorem RelO.getD {o : Option V} {u : Option Value} {d : V} {d' : Value} (r : RelO o u) (rd : RelV d d') : RelV (o.getD d) (u.getD d') := by
  cases o with
  | none => cases u with
    | none => exact rd
    | some _ => exact (show False from r).elim
  | some _ => cases u with
    | none => exact (show False from r).elim
    | some _ => exact r

theorem KV.val {kvs : List (κ × V)} {vs : List (κ × Value)} (r : KV kvs vs) (k : κ) : RelO (valV kvs k) (valueAt vs k) := by
  unfold KV at r
  induction r with
  | nil => exact True.intro
  | @cons p q ps qs h t ih =>
    obtain ⟨h1, h2⟩ := h
    by_cases e : p.1 = k
    · have e' : q.1 = k := h1.symm.trans e
      have b : valueAt (q :: qs) k = some q.2 := by simp [valueAt, List.find?_cons, e']
      rw [valV_pos e, b]; exact h2
    · have e' : ¬ q.1 = k := fun z => e (h1.trans z)
      have b : valueAt (q :: qs) k = valueAt qs k := by simp [valueAt, List.find?_cons, e']
      rw [valV_neg e, b]; exact ih
theorem KV.any {kvs : List (κ × V)} {vs : List (κ × Value)} (r : KV kvs vs) (k : κ) : (kvs.any fun kv => decide (kv.1 = k)) = vs.any fun kv => decide (kv.1 = k) := by
  unfold KV at r
  induction r with
  | nil => rfl
  | cons h t ih => rw [List.any_cons, List.any_cons, ih, h.1]
theorem KV.repl {kvs : List (κ × V)} {vs : List (κ × Value)} (r : KV kvs vs) (k : κ) {y : V} {u : Value} (ry : RelV y u) :
    KV (kvs.map fun kv => if kv.1 = k then (kv.1, y) else kv) (vs.map fun kv => if kv.1 = k then (kv.1, u) else kv) := by
  unfold KV at r ⊢
  induction r with
  | nil => exact .nil
  | @cons p q ps qs h t ih =>
    rw [List.map_cons, List.map_cons]
    refine .cons ?_ ih
    obtain ⟨h1, h2⟩ := h
    by_cases e : p.1 = k
    · rw [if_pos e, if_pos (h1.symm.trans e)]; exact ⟨h1, ry⟩
    · rw [if_neg e, if_neg (fun z => e (h1.trans z))]; exact ⟨h1, h2⟩
theorem KV.put {kvs : List (κ × V)} {vs : List (κ × Value)} (r : KV kvs vs) (k : κ) {y : V} {u : Value} (ry : RelV y u) : KV (putK kvs k y) (stored vs k u) := by
  unfold putK stored
  rw [r.any k]
  by_cases e : (vs.any fun kv => decide (kv.1 = k)) = true
  · rw [if_pos e, if_pos e]; exact r.repl k ry
  · rw [if_neg e, if_neg e]; exact Paired.snoc r ⟨rfl, ry⟩
theorem KV.length {kvs : List (κ × V)} {vs : List (κ × Value)} (r : KV kvs vs) : kvs.length = vs.length := Paired.length r
end


/-! ### a tracked dict, its keys ints and texts or tuples of these -/
theorem kV_is {P : Program} {w : World} {k : Key} {u : Value} (r : RelV (kV k) u) : (mixKind P w).is k u = true := by
  cases k with
  | inl i => obtain ⟨t, e⟩ := (show ∃ t, u = Value.int i t from r); subst e; exact mixKind_int P w i t
  | inr x => obtain ⟨t, e⟩ := (show ∃ t, u = Value.str x t from r); subst e; exact mixKind_str P w x t
theorem items_are {P : Program} {w : World} : ∀ {ks : List Key} {us : List Value}, Vals (ks.map kV) us → ItemsAre (mixKind P w) ks us
  | [], _, r => by rw [List.map_nil] at r; cases r; exact .nil
  | k :: ks, _, r => by
    rw [List.map_cons] at r
    cases r with
    | cons h t => exact .cons (kV_is h) (items_are t)

noncomputable abbrev KT (H : Hp) : List (List Key × V) → List (List Key × Addr × Value) → Prop := Paired fun p q => p.1 = q.1 ∧ H q.2.1 = some (.tup (p.1.map kV)) ∧ RelV p.2 q.2.2
theorem KT.val {H : Hp} {kvs : List (List Key × V)} {xs : List (List Key × Addr × Value)} (r : KT H kvs xs) (k : List Key) : RelO (valV kvs k) ((atKey xs k).map (·.2)) := by
  induction r with
  | nil => exact True.intro
  | @cons p q ps qs h t ih =>
    obtain ⟨h1, _, h2⟩ := h
    by_cases e : p.1 = k
    · have e' : q.1 = k := h1.symm.trans e
      have b : atKey (q :: qs) k = some q.2 := by simp [atKey, List.find?_cons, e']
      rw [valV_pos e, b]; exact h2
    · have e' : ¬ q.1 = k := fun z => e (h1.trans z)
      have b : atKey (q :: qs) k = atKey qs k := by simp [atKey, List.find?_cons, e']
      rw [valV_neg e, b]; exact ih
theorem KT.repl {H : Hp} {kvs : List (List Key × V)} {xs : List (List Key × Addr × Value)} (r : KT H kvs xs) (k : List Key) {y : V} {u : Value} (ry : RelV y u) :
    KT H (kvs.map fun kv => if kv.1 = k then (kv.1, y) else kv) (xs.map (putAt k u)) := by
  induction r with
  | nil => exact .nil
  | @cons p q ps qs h t ih =>
    rw [List.map_cons, List.map_cons]
    refine .cons ?_ ih
    obtain ⟨h1, h2, h3⟩ := h
    unfold putAt
    by_cases e : p.1 = k
    · rw [if_pos e, if_pos (h1.symm.trans e)]; exact ⟨h1, h2, ry⟩
    · rw [if_neg e, if_neg (fun z => e (h1.trans z))]; exact ⟨h1, h2, h3⟩
theorem KT.put {H : Hp} {kvs : List (List Key × V)} {xs : List (List Key × Addr × Value)} (r : KT H kvs xs) (k : List Key) {b : Addr} {y : V} {u : Value} (hb : H b = some (.tup (k.map kV))) (ry : RelV y u) :
    KT H (putK kvs k y) (storedH xs k b u) := by
  have e : (kvs.any fun kv => decide (kv.1 = k)) = (atKey xs k).isSome := by
    rw [valV_any, (r.val k).isSome_eq, Option.isSome_map]
  unfold putK storedH
  rw [e]
  by_cases q : (atKey xs k).isSome = true
  · rw [if_pos q, if_pos q]; exact r.repl k ry
  · rw [if_neg q, if_neg q]; exact Paired.snoc r ⟨rfl, hb, ry⟩
theorem KT.keeps {H H' : Hp} {kvs : List (List Key × V)} {xs : List (List Key × Addr × Value)} (r : KT H kvs xs) (ht : ∀ b ys, H b = some (.tup ys) → H' b = some (.tup ys)) : KT H' kvs xs :=
  Paired.mapP r fun _ _ z => ⟨z.1, ht _ _ z.2.1, z.2.2⟩

section
variable {P : Program} {w : World} {H : Hp} {h : Heap} {a : Addr}
theorem rd_of {u : HO} (ok : HOk P w H h) (e : Rd H a u) : ObjOk P w H h a u := e.ok ok
theorem dk_rd {kvs : List (Key × V)} (ok : HOk P w H h) (e : Rd H a (.dK kvs)) : kvs.length ≤ sizeLine ∧ (a == sysModules) = false ∧ ∃ vs, KV kvs vs ∧ h.DictOf (mixKind P w) a vs :=
  show ObjOk P w H h a (.dK kvs) from rd_of ok e
theorem dk_of {kvs : List (Key × V)} (ok : HOk P w H h) (e : H a = some (.dK kvs)) : kvs.length ≤ sizeLine ∧ (a == sysModules) = false ∧ ∃ vs, KV kvs vs ∧ h.DictOf (mixKind P w) a vs := dk_rd ok (.inl e)
theorem key_of {ks : List Key} (ok : HOk P w H h) (e : H a = some (.tup (ks.map kV))) : (tupleKind (mixKind P w)).is h ks a := by
  obtain ⟨_, its, r, o, h1, h2, n, h3⟩ := (show ObjOk P w H h a (.tup (ks.map kV)) from ok a _ e)
  exact ⟨o, its.toArray, n, h1, h2, h3, by simpa using items_are r⟩
theorem dt_rd {kvs : List (List Key × V)} (ok : HOk P w H h) (e : Rd H a (.dT kvs)) : kvs.length ≤ sizeLine ∧ (a == sysModules) = false ∧
    ∃ xs, KT H kvs xs ∧ h.DictOfH (tupleKind (mixKind P w)) a xs := by
  obtain ⟨z, y, xs, r, o, es, ep, h1, h2, h3, h4, h5⟩ := (show ObjOk P w H h a (.dT kvs) from rd_of ok e)
  refine ⟨z, y, xs, r, o, es, ep, h1, h2, h3, h4, fun x hx => ?_, h5⟩
  have all : ∀ {l : List (List Key × V)} {m : List (List Key × Addr × Value)}, KT H l m → ∀ x ∈ m, (tupleKind (mixKind P w)).is h x.1 x.2.1 := by
    intro l m q
    induction q with
    | nil => intro x hx; exact nomatch hx
    | @cons p q ps qs hq t ih =>
      intro x hx
      rcases List.mem_cons.mp hx with e | hx
      · subst e
        exact key_of ok (by rw [← hq.1]; exact hq.2.1)
      · exact ih x hx
  exact all r x hx
theorem dt_of {kvs : List (List Key × V)} (ok : HOk P w H h) (e : H a = some (.dT kvs)) : kvs.length ≤ sizeLine ∧ (a == sysModules) = false ∧
    ∃ xs, KT H kvs xs ∧ h.DictOfH (tupleKind (mixKind P w)) a xs := dt_rd ok (.inl e)
end

noncomputable def DGet (H : Hp) (a : Addr) (y : V) (r : Option V) : Prop :=
  (∃ kvs k, Rd H a (.dK kvs) ∧ y = kV k ∧ r = valV kvs k) ∨ ∃ kvs k b, Rd H a (.dT kvs) ∧ y = .ref b ∧ H b = some (.tup (k.map kV)) ∧ r = valV kvs k
noncomputable def DPut (H : Hp) (a : Addr) (y v : V) (H' : Hp) : Prop :=
  (∃ kvs k, H a = some (.dK kvs) ∧ y = kV k ∧ kvs.length < sizeLine ∧ H' = upd H a (.dK (putK kvs k v))) ∨
  ∃ kvs k b, H a = some (.dT kvs) ∧ y = .ref b ∧ H b = some (.tup (k.map kV)) ∧ kvs.length < sizeLine ∧ H' = upd H a (.dT (putK kvs k v))
theorem DGet.k {H : Hp} {a : Addr} {kvs : List (Key × V)} {k : Key} (e : H a = some (.dK kvs)) : DGet H a (kV k) (valV kvs k) := .inl ⟨kvs, k, .inl e, rfl, rfl⟩
theorem DPut.k {H : Hp} {a : Addr} {kvs : List (Key × V)} {k : Key} {v : V} (e : H a = some (.dK kvs)) (hl : kvs.length < sizeLine) : DPut H a (kV k) v (upd H a (.dK (putK kvs k v))) := .inl ⟨kvs, k, e, rfl, hl, rfl⟩


section
variable {X : Cx} {pins : List (Addr × Obj)} {σ : St} {H : Hp} {s : Shared} {a : Addr} {y v : V} {u r : Value} {o : Option V} {A : Around} {E : Value → Shared → Prop}

theorem Inv.big (I : Inv X pins σ H s) : sysModules < s.heap.objs.size := by
  have h : mainGlobals < s.heap.objs.size := (I.mod.glob.keeps I.bk).lt
  exact Nat.lt_trans (by decide) h

theorem d_getItem {Q : Value → Shared → Prop} (hu : A.units + 1 < cLine) (I : Inv X pins σ H s) (g : DGet H a y (some v)) (ry : RelV y u) (h : ∀ w' s', Inv X pins σ H s' → RelV v w' → Q w' s') :
    wpAny (model X.prog X.w) A (getItem (.ref a) u) Q E s := by
  rcases g with ⟨kvs, k, e, ey, l⟩ | ⟨kvs, k, b, e, ey, eb, l⟩
  · subst ey
    obtain ⟨z, hd, vs, rel, dd⟩ := dk_rd I.hok e
    obtain ⟨w', hw, rw'⟩ := RelO.some_of (v := v) (o := valueAt vs k) (by rw [l]; exact rel.val k)
    exact wpAny_getItem_of (kV_is ry) dd.mapOf hw (h w' _ (I.tok _) rw')
  · subst ey
    cases (show u = Value.ref b from ry)
    obtain ⟨z, hd, xs, rel, dd⟩ := dt_rd I.hok e
    obtain ⟨w', hw, rw'⟩ := RelO.some_of (v := v) (o := (atKey xs k).map (·.2)) (by rw [l]; exact rel.val k)
    obtain ⟨p, hp, hp2⟩ := Option.map_eq_some_iff.mp hw
    refine wpAny_getItem_heap (tupleKind_room_in1 hu) (key_of I.hok eb) dd hp ?_
    rw [hp2]
    exact h w' _ (I.tok _) rw'
theorem d_in {Q : Value → Shared → Prop} (hu : A.units + 1 < cLine) (I : Inv X pins σ H s) (g : DGet H a y o) (ry : RelV y u) (h : ∀ s', Inv X pins σ H s' → Q (.bool o.isSome) s') :
    wpAny (model X.prog X.w) A (compareOp .In u (.ref a)) Q E s := by
  rcases g with ⟨kvs, k, e, ey, l⟩ | ⟨kvs, k, b, e, ey, eb, l⟩
  · subst ey
    obtain ⟨z, hd, vs, rel, dd⟩ := dk_rd I.hok e
    refine wpAny_in_of (kV_is ry) hd dd.mapOf ?_
    rw [← (rel.val k).isSome_eq, ← l]
    exact h _ (I.tok _)
  · subst ey
    cases (show u = Value.ref b from ry)
    obtain ⟨z, hd, xs, rel, dd⟩ := dt_rd I.hok e
    refine wpAny_in_heap (tupleKind_room_in1 hu) (key_of I.hok eb) hd dd ?_
    have q := (rel.val k).isSome_eq
    rw [Option.isSome_map] at q
    rw [← q, ← l]
    exact h _ (I.tok _)
theorem d_write {h' : Heap} {t' : Nat} {ob : HO} (I : Inv X pins σ H s) (mu : Mut (H a)) (hs : Heap.SameBut a s.heap h') (he : ∃ q, h'.get? a = some q) (new : ObjOk X.prog X.w (upd H a ob) h' a ob) :
    Inv X pins σ (upd H a ob) { s with heap := h', toks := t' } :=
  I.write (x := a) (e := a) mu (.inl rfl) (fun b q hb z => (hs.2 b hb).trans z) he new
theorem dk_new {P : Program} {w : World} {H' : Hp} {h' : Heap} {kvs : List (Key × V)} {vs : List (Key × Value)} (z : kvs.length ≤ sizeLine) (hd : (a == sysModules) = false) (rel : KV kvs vs) (dd : h'.DictOf (mixKind P w) a vs) :
    ObjOk P w H' h' a (.dK kvs) := ⟨z, hd, vs, rel, dd⟩
theorem d_setItem {H' : Hp} {Q : Unit → Shared → Prop} (hu : A.units + 1 < cLine) (I : Inv X pins σ H s) (g : DPut H a y v H') (ry : RelV y u) (rv : RelV v r) (h : ∀ s', Inv X pins σ H' s' → Q () s') :
    wpAny (model X.prog X.w) A (setItem (.ref a) u r) Q E s := by
  rcases g with ⟨kvs, k, e, ey, l, eH⟩ | ⟨kvs, k, b, e, ey, eb, l, eH⟩
  · subst ey eH
    obtain ⟨z, hd, vs, rel, dd⟩ := dk_of I.hok e
    have hz : vs.length ≤ sizeLine := by rw [← rel.length]; exact z
    have hl : (putK kvs k v).length ≤ sizeLine := by have := length_putK kvs k v; omega
    refine wpAny_setItem_pairs (hsz := hz) (kV_is ry) dd fun h' dd' hs => h _ ?_
    have he : ∃ q, h'.get? a = some q := let ⟨q, _, _, hq, _⟩ := dd'; ⟨q, hq⟩
    exact d_write I (by rw [e]; exact True.intro) hs he (dk_new hl hd (rel.put k rv) dd')
  · subst ey eH
    cases (show u = Value.ref b from ry)
    obtain ⟨z, hd, xs, rel, dd⟩ := dt_of I.hok e
    have hz : xs.length ≤ sizeLine := by rw [← Paired.length rel]; exact z
    have hl : (putK kvs k v).length ≤ sizeLine := by have := length_putK kvs k v; omega
    refine wpAny_setItem_heap (hsz := hz) (tupleKind_room_in1 hu) (key_of I.hok eb) dd fun h' dd' hs => h _ ?_
    obtain ⟨q, es, ep, hq, h2, h3, h4, _, h5⟩ := dd'
    refine d_write I (by rw [e]; exact True.intro) hs ⟨q, hq⟩ ⟨hl, hd, _, (rel.put k eb rv).keeps fun c ys ec => ?_, q, es, ep, hq, h2, h3, h4, h5⟩
    rw [upd_ne (ne_of ec e (fun z => nomatch z))]
    exact ec
end

section
variable {X : Cx} {pins : List (Addr × Obj)} {σ : St} {H : Hp} {s : Shared} {a : Addr} {kvs : List (Key × V)} {k : Key} {u : Value} {A : Around} {E : Value → Shared → Prop}
end


/-! ### readings and rules -/
noncomputable def NoSl (i : Expr) : Prop := ∀ ov iv, subscripted i false ov iv = operate [ov, iv] (getItem ov iv)
theorem subD_of {prog : Program} {w : World} {A : Around} {E : Value → Shared → Prop} {s : Shared} {env : Env} {value slice : Expr} {pos : Pos} {T id : String} {Q : Value → Shared → Prop}
    (hl : typeLookup (.type T) "__getitem__" = pure (some (.builtin id))) (hs : NoSl slice)
    (h : wpAny (model prog w) A (eval value env) (fun o s₁ => wpAny (model prog w) A (eval slice env) (fun i s₂ => s₂.TypeIs o T ∧ wpAny (model prog w) A (getItem o i) Q E s₂) E s₁) E s) :
    wpAny (model prog w) A (eval (.Subscript value slice pos) env) Q E s := by
  refine Subscript_ (wpAny_mono h (fun o s₁ h₁ => wpAny_mono h₁ (fun i s₂ h₂ => ?_) fun _ _ x => x) fun _ _ x => x)
  obtain ⟨hT, h₂⟩ := h₂
  unfold subscriptTail
  refine wpAny_bind ?_
  rw [getitemInPython_of_ne hT.not_modules]
  refine wpAny_bind (wpAny_specialOf hT hl ?_)
  have fin : wpAny (model prog w) A (subscripted slice false o i) (fun r s₃ => wpAny (model prog w) A (letTemporaryGo value o r >>= fun _ => pure r) Q E s₃) E s₂ := by
    rw [hs o i]
    exact wpAny_operating (wpAny_mono h₂ (fun r s₃ h₃ => wpAny_bind (wpAny_letTemporaryGo (wpAny_pure h₃))) fun _ _ x => x)
  first
    | exact wpAny_pure (wpAny_bind fin)
    | exact wpAny_bind (wpAny_pure (wpAny_bind fin))
    | exact wpAny_bind fin

theorem dict_typeIs {X : Cx} {pins : List (Addr × Obj)} {σ : St} {H : Hp} {s : Shared} {a : Addr} {y : V} {o : Option V} (I : Inv X pins σ H s) (g : DGet H a y o) : s.TypeIs (.ref a) "dict" := by
  rcases g with ⟨kvs, k, e, _, _⟩ | ⟨kvs, k, b, e, _, _, _⟩
  · obtain ⟨_, _, vs, _, dd⟩ := dk_rd I.hok e
    exact dd.typeIs
  · obtain ⟨_, _, xs, _, dd⟩ := dt_rd I.hok e
    exact dd.typeIs

noncomputable def tDGet (td ty : TE) : TE := fun σ H Q => td σ H fun x H1 => ty σ H1 fun y H2 => ∃ a v, x = .ref a ∧ DGet H2 a y (some v) ∧ Q v H2
noncomputable def tDIn (ty td : TE) : TE := fun σ H Q => ty σ H fun y H1 => td σ H1 fun x H2 => ∃ a o, x = .ref a ∧ DGet H2 a y o ∧ Q (.bl o.isSome) H2
noncomputable def tDNotIn (ty td : TE) : TE := fun σ H Q => ty σ H fun y H1 => td σ H1 fun x H2 => ∃ a o, x = .ref a ∧ DGet H2 a y o ∧ Q (.bl (!o.isSome)) H2
noncomputable def sDPut (td ty tv : TE) : TS := fun D σ H => tv σ H fun v H1 => td σ H1 fun x H2 => ty σ H2 fun y H3 => ∃ a H4, x = .ref a ∧ DPut H3 a y v H4 ∧ D.nx σ H4

section
variable {X : Cx} {o i e value : Expr} {pos pos' tpos : Pos} {td ty tv : TE}
theorem pe_dget (hu : X.A.units + 1 < cLine) (ho : PE X o td) (hi : PE X i ty) (hs : NoSl i) : PE X (.Subscript o i pos) (tDGet td ty) := by
  intro pins s σ H Q I h
  refine subD_of PySem.F.slot_dict_getitem.lookup hs (thn (ho pins s σ H _ I h) fun u s1 ⟨x, H1, I1, rx, q1⟩ => thn (hi pins s1 σ H1 _ I1 q1) fun iv s2 ⟨y, H2, I2, ry, a, v, ex, g, q2⟩ => ?_)
  subst ex
  obtain rfl : u = Value.ref a := rx
  exact ⟨dict_typeIs I2 g, d_getItem hu I2 g ry fun w' s3 I3 rw' => ⟨v, H2, I3, rw', q2⟩⟩
theorem pc_din (hu : X.A.units + 1 < cLine) (hi : PE X i ty) (ho : PE X o td) : PC X .In i o (tDIn ty td) := by
  intro pins s σ H Q I h
  refine thn (hi pins s σ H _ I h) fun iv s1 ⟨y, H1, I1, ry, q1⟩ => thn (ho pins s1 σ H1 _ I1 q1) fun u s2 ⟨x, H2, I2, rx, a, ov, ex, g, q2⟩ => ?_
  subst ex
  obtain rfl : u = Value.ref a := rx
  exact d_in hu I2 g ry fun s3 I3 => ⟨.bl ov.isSome, H2, I3, rfl, q2⟩
theorem ps_dput (hu : X.A.units + 1 < cLine) (ho : PE X o td) (hi : PE X i ty) (hv : PE X value tv) (hs : swapsWith value (some (.Subscript o i pos')) pos.line X.env = pure false) :
    PS X (.Assign [.Subscript o i pos'] value pos) (sDPut td ty tv) := by
  intro pins s σ H D I h
  refine wpAny_Assign_Subscript (thn (hv pins s σ H _ I h) fun r s1 ⟨v, H1, I1, rv, q1⟩ => thn (ho pins s1 σ H1 _ I1 q1) fun u s2 ⟨x, H2, I2, rx, q2⟩ => thn (hi pins s2 σ H2 _ I2 q2) fun iv s3 ⟨y, H3, I3, ry, a, H4, ex, g, q3⟩ => ?_) hs
  subst ex
  obtain rfl : u = Value.ref a := rx
  exact d_setItem hu I3 g ry rv fun s4 I4 => ⟨σ, H4, I4, q3⟩
end


/-! ### displays -/
theorem dk_empty {P : Program} {w : World} {H : Hp} (h : Heap) (hb : sysModules < h.objs.size) : ObjOk P w H (h.push { cls := .type "dict", data := .dict #[] }) h.objs.size (.dK []) :=
  ⟨Nat.zero_le _, beq_eq_false_iff_ne.mpr (Ne.symm (Nat.ne_of_lt hb)), [], .nil, Heap.DictOf.new h⟩
noncomputable def tDNewK : TE := fun _ H Q => ∀ p, H p = none → Q (.ref p) (upd H p (.dK []))
section
variable {X : Cx} {pos : Pos}
theorem pe_dnewK : PE X (.Dict [] [] pos) tDNewK := fun pins s σ H Q I h =>
  wpAny_Dict_empty ⟨.ref s.heap.objs.size, _, I.laid (a := s.heap.objs.size) (o := .dK []) (t' := s.toks) (fun _ _ q => Heap.get?_push_of_some _ q) (Nat.le_refl _) (dk_empty s.heap I.big), rfl, h _ (I.hok.fresh (Nat.le_refl _))⟩
end




/-! ### methods -/
set_option genInjectivity false in
structure M1 (X : Cx) (o : Expr) (m : Str) (apos : Pos) (e : Expr) (cpos : Pos) : Prop where
  base : attributeBase o m X.env (eval o X.env) = eval o X.env
  few : ((backTo cpos (starEach [e] X.env)).all (fun x => !x.1) && (backToKw cpos (keywordEach [] X.env)).all (fun x => x.1.isSome)
    && decide (([e] : List Expr).length + ([] : List Keyword).length + (if ([] : List Keyword).isEmpty then 0 else 1) < 30)) = true
  line : (apos.endLine == cpos.line) = true
  trees : backTo cpos (starEach [e] X.env) = [(false, eval e X.env)]
set_option genInjectivity false in
structure M2 (X : Cx) (o : Expr) (m : Str) (apos : Pos) (e f : Expr) (cpos : Pos) : Prop where
  base : attributeBase o m X.env (eval o X.env) = eval o X.env
  few : ((backTo cpos (starEach [e, f] X.env)).all (fun x => !x.1) && (backToKw cpos (keywordEach [] X.env)).all (fun x => x.1.isSome)
    && decide (([e, f] : List Expr).length + ([] : List Keyword).length + (if ([] : List Keyword).isEmpty then 0 else 1) < 30)) = true
  line : (apos.endLine == cpos.line) = true
  trees : backTo cpos (starEach [e, f] X.env) = [(false, eval e X.env), (false, eval f X.env)]

noncomputable def IsD (H : Hp) (a : Addr) : Prop := (∃ kvs, Rd H a (.dK kvs)) ∨ ∃ kvs, Rd H a (.dT kvs)
theorem isD_at {X : Cx} {pins : List (Addr × Obj)} {σ : St} {H : Hp} {s : Shared} {a : Addr} (I : Inv X pins σ H s) (d : IsD H a) :
    s.TypeIs (.ref a) "dict" ∧ (∀ b, Value.ref a = .ref b → ∃ ob, s.heap.get? b = some ob ∧ ob.dict = none) ∧ (a == sysModules) = false := by
  rcases d with ⟨kvs, e⟩ | ⟨kvs, e⟩
  · obtain ⟨_, hd, vs, _, dd⟩ := dk_rd I.hok e
    refine ⟨dd.typeIs, fun b q => ?_, hd⟩
    cases q
    obtain ⟨ob, _, _, h1, h2, _⟩ := dd
    exact ⟨ob, h1, h2.2.1⟩
  · obtain ⟨_, hd, xs, _, dd⟩ := dt_rd I.hok e
    refine ⟨dd.typeIs, fun b q => ?_, hd⟩
    cases q
    obtain ⟨ob, _, _, h1, h2, _⟩ := dd
    exact ⟨ob, h1, h2.2.1⟩

section
variable {X : Cx} {pins : List (Addr × Obj)} {σ : St} {H : Hp} {s : Shared} {a : Addr} {y d : V} {u r : Value} {o : Option V} {A : Around} {E : Value → Shared → Prop}
theorem d_get1 {Q : Value → Shared → Prop} (hu : A.units + 1 < cLine) (I : Inv X pins σ H s) (g : DGet H a y o) (ry : RelV y u) (h : ∀ w' s', Inv X pins σ H s' → RelV (o.getD .non) w' → Q w' s') :
    wpAny (model X.prog X.w) A (call (.builtin "dict.get") [.ref a, u]) Q E s := by
  rcases g with ⟨kvs, k, e, ey, l⟩ | ⟨kvs, k, b, e, ey, eb, l⟩
  · subst ey
    obtain ⟨z, hd, vs, rel, dd⟩ := dk_rd I.hok e
    refine call_meetsIn PySem.F.slot_dict_get dd.typeIs PySem.F.entry_dict_get (PySem.F.args_dict_get_2 _ _) (meets_dict_get (mixKind X.prog X.w) a (kV_is ry) hd) ⟨_, dd.mapOf, h _ _ (I.tok _) ?_⟩
    rw [l]
    exact (rel.val k).getD rfl
  · subst ey
    cases (show u = Value.ref b from ry)
    obtain ⟨z, hd, xs, rel, dd⟩ := dt_rd I.hok e
    refine call_meetsIn PySem.F.slot_dict_get dd.typeIs PySem.F.entry_dict_get (PySem.F.args_dict_get_2 _ _) (meetsH_dict_get (tupleKind (mixKind X.prog X.w)) a b hd) ⟨tupleKind_room_in1 hu, k, xs, key_of I.hok eb, dd, h _ _ (I.tok _) ?_⟩
    rw [l]
    exact (rel.val k).getD rfl
theorem d_get2 {Q : Value → Shared → Prop} (hu : A.units + 1 < cLine) (I : Inv X pins σ H s) (g : DGet H a y o) (ry : RelV y u) (rd : RelV d r) (h : ∀ w' s', Inv X pins σ H s' → RelV (o.getD d) w' → Q w' s') :
    wpAny (model X.prog X.w) A (call (.builtin "dict.get") [.ref a, u, r]) Q E s := by
  rcases g with ⟨kvs, k, e, ey, l⟩ | ⟨kvs, k, b, e, ey, eb, l⟩
  · subst ey
    obtain ⟨z, hd, vs, rel, dd⟩ := dk_rd I.hok e
    refine call_meetsIn PySem.F.slot_dict_get dd.typeIs PySem.F.entry_dict_get (PySem.F.args_dict_get_3 _ _ _) (meets_dict_get_default (mixKind X.prog X.w) a (kV_is ry) hd r) ⟨_, dd.mapOf, h _ _ (I.tok _) ?_⟩
    rw [l]
    exact (rel.val k).getD rd
  · subst ey
    cases (show u = Value.ref b from ry)
    obtain ⟨z, hd, xs, rel, dd⟩ := dt_rd I.hok e
    refine call_meetsIn PySem.F.slot_dict_get dd.typeIs PySem.F.entry_dict_get (PySem.F.args_dict_get_3 _ _ _) (meetsH_dict_get_default (tupleKind (mixKind X.prog X.w)) a b hd r) ⟨tupleKind_room_in1 hu, k, xs, key_of I.hok eb, dd, h _ _ (I.tok _) ?_⟩
    rw [l]
    exact (rel.val k).getD rd
end

noncomputable def tDGet1 (td ty : TE) : TE := fun σ H Q => td σ H fun x H1 => ∃ a, x = .ref a ∧ IsD H1 a ∧ ty σ H1 fun y H2 => ∃ o, DGet H2 a y o ∧ Q (o.getD .non) H2
noncomputable def tDGet2 (td ty tx : TE) : TE := fun σ H Q => td σ H fun x H1 => ∃ a, x = .ref a ∧ IsD H1 a ∧ ty σ H1 fun y H2 => tx σ H2 fun z H3 => ∃ o, DGet H3 a y o ∧ Q (o.getD z) H3
section
variable {X : Cx} {o e f : Expr} {apos cpos : Pos} {td ty tx : TE}
theorem pe_dget1 (hu : X.A.units + 1 < cLine) (ho : PE X o td) (he : PE X e ty) (m : M1 X o "get" apos e cpos) : PE X (.Call (.Attribute o "get" apos) [e] [] cpos) (tDGet1 td ty) := by
  intro pins s σ H Q I h
  refine wpAny_Call_method m.base m.few m.line PySem.F.plainAttrs_dict PySem.F.slot_dict_get PySem.F.type_dict_get (thn (ho pins s σ H _ I h) fun u s1 ⟨x, H1, I1, rx, a, ex, d, q1⟩ => ?_)
  subst ex
  obtain rfl : u = Value.ref a := rx
  obtain ⟨t1, t2, _⟩ := isD_at I1 d
  refine ⟨t1, t2, ?_⟩
  rw [m.trees]
  refine Calls.callWith_builtin rfl (Calls.evalArgs_plain (Calls.spliced_cons (thn (he pins s1 σ H1 _ I1 q1) fun iv s2 ⟨y, H2, I2, ry, ov, g, q2⟩ => Calls.spliced_nil ?_)))
  exact d_get1 hu I2 g ry fun w' s3 I3 rw' => ⟨_, H2, I3, rw', q2⟩
theorem pe_dget2 (hu : X.A.units + 1 < cLine) (ho : PE X o td) (he : PE X e ty) (hf : PE X f tx) (m : M2 X o "get" apos e f cpos) : PE X (.Call (.Attribute o "get" apos) [e, f] [] cpos) (tDGet2 td ty tx) := by
  intro pins s σ H Q I h
  refine wpAny_Call_method m.base m.few m.line PySem.F.plainAttrs_dict PySem.F.slot_dict_get PySem.F.type_dict_get (thn (ho pins s σ H _ I h) fun u s1 ⟨x, H1, I1, rx, a, ex, d, q1⟩ => ?_)
  subst ex
  obtain rfl : u = Value.ref a := rx
  obtain ⟨t1, t2, _⟩ := isD_at I1 d
  refine ⟨t1, t2, ?_⟩
  rw [m.trees]
  refine Calls.callWith_builtin rfl (Calls.evalArgs_plain (Calls.spliced_cons (thn (he pins s1 σ H1 _ I1 q1) fun iv s2 ⟨y, H2, I2, ry, q2⟩ =>
    Calls.spliced_cons (thn (hf pins s2 σ H2 _ I2 q2) fun fv s3 ⟨z, H3, I3, rz, ov, g, q3⟩ => Calls.spliced_nil ?_))))
  exact d_get2 hu I3 g ry rz fun w' s4 I4 rw' => ⟨_, H3, I4, rw', q3⟩
end

/-! ### dict(d): a copy -/
section
variable {X : Cx} {pins : List (Addr × Obj)} {σ : St} {H : Hp} {s : Shared} {a : Addr} {kvs : List (Key × V)} {A : Around} {E : Value → Shared → Prop}
end


section
variable {X : Cx} {pins : List (Addr × Obj)} {σ : St} {H : Hp} {s : Shared} {a : Addr} {y : V} {u : Value} {A : Around} {E : Value → Shared → Prop}
end
end L2

namespace Att
open PySem PySem.W PySem.Calls PyProof.Rows

/-! ### the script -/
theorem ints_of_wellAll {P : Params} {h : Heap} : ∀ (ns : List Int) (vs : List Value), WellAll P h vs (ns.map WData.int) → IntsAre vs ns := by
  intro ns
  induction ns with
  | nil =>
    intro vs w
    rw [List.map_nil] at w
    cases w
    exact .nil
  | cons n ns ih =>
    intro vs w
    rw [List.map_cons] at w
    cases w with
    | cons a b =>
      cases a
      exact .cons _ _ (ih _ b)

theorem script_of {l : OpenLaw} {n : Nat} (hn : l.most = some n) {P : Params} {h : Heap} {args : List WData} {vals : List Value}
    (hpre : l.row.toRowW.claim.pre args = true) (hwl : WellAll P h vals args) :
    ∃ a vs ns, vals = [Value.ref a] ∧ args = [WData.list (ns.map WData.int)] ∧ h.get? a = some { cls := .type "list", data := .seq vs.toArray } ∧ IntsAre vs ns ∧ ns.length ≤ n := by
  have hsh : WShape.hasAll [] args [.list .int] = true := (pre_splitW hpre).1
  have hc : l.pre.holds [] { args := args } = true := (pre_splitW hpre).2
  obtain ⟨d, r, rfl, h1, h2⟩ := hasAllW_cons hsh
  obtain rfl := hasAllW_nil h2
  obtain ⟨xs, rfl, h3⟩ := hasW_list h1
  obtain ⟨ns, rfl⟩ := items_int h3
  have hlen : ns.length ≤ n := by
    unfold OpenLaw.pre at hc
    have h4 : (WTm.not (.lt (.lit (.int (n : Int))) (.len (.arg 0)))).holds [] { args := [.list (ns.map .int)] } = true := by
      have h4 := (holds_andW hc).1
      rw [hn] at h4
      exact h4
    have h5 := condW_of h4 (w_not (w_lt w_lit (w_len_list (w_arg rfl))))
    rw [List.length_map] at h5
    refine Nat.le_of_not_lt fun q => ?_
    have q' : (n : Int) < ((ns.length : Nat) : Int) := by omega
    first
      | (rw [decide_eq_true q'] at h5; exact absurd h5 (by decide))
      | (simp at h5; omega)
  cases hwl with
  | cons w1 w2 =>
    cases w2
    cases w1 with
    | list ho hall => exact ⟨_, _, ns, rfl, rfl, ho, ints_of_wellAll ns _ hall, hlen⟩

theorem post_true (l : OpenLaw) (args : List WData) : l.row.toRowW.claim.post args (.bool true) args = true :=
  postW_of (r := l.row.toRowW) (X := (true == true))
    (show WShape.has [] (.bool true) .bool = true by first | rfl | decide | simp [WShape.has, WShape.arms, WShape.armsAll])
    (show (WTm.eq .res (.lit (.bool true))).value [] { args := args, res := some (.bool true), after := args } = some (.bool (true == true)) from w_eq_bool (w_res rfl) w_lit) rfl

/-! ### the attachment: holds_open's last premise (the goal 'hc' behind k_head) from a wpAny of the law's body -/

theorem attach_call {l : OpenLaw} {n : Nat} {q : Program} {loose : List Str} {XP : (Str → Option Value) → Heap → Prop} {YP : World → Heap → Prop} {d : DefRec}
    (hn : l.most = some n) (hdf : d.params.defaults = [])
    (call : ∀ (w : World) (s₀ s₁ : Shared) (mg mb : Str → Option Value) (fa : Addr) (o : Obj) (pm cd doc : Value) (a : Addr) (vs : List Value) (ns : List Int),
      Ground q loose [] XP w s₀ mg mb s₁.heap → YP w s₁.heap →
      s₁.heap.get? fa = some o → o.data = .func (docDef d.name d.params d.body d.scope pm cd doc) → s₁.heap.CodeRec cd d.name → mg d.name = some (.ref fa) →
      s₁.heap.get? a = some { cls := .type "list", data := .seq vs.toArray } → IntsAre vs ns → ns.length ≤ n → s₁.gens = #[] →
      codeAny (model l.prog w) callerA (.call (.ref fa) ⟨[.ref a], []⟩) (fun r s' => r = .ok (.ret (.bool true)) ∧ OldK s₁.heap s'.heap ∧ s'.os = s₁.os ∧ AllBare s'.gens) s₁) :
    WalkO q loose XP YP l.row.toRowW d [] (fun f vs => PySem.call f vs) := by
  intro w s₀ s₁ mg mb G Y fa o pm cd doc dV kV ho hd hcd hD hmg hg args vals as hpre hlay hrd hwl hlo
  obtain rfl : dV = .none := Dflts.none hD hdf
  obtain rfl : kV = .none := Dflts.noKw hD
  obtain ⟨a, vs, ns, rfl, rfl, hobj, hints, hlen⟩ := script_of hn hpre hwl
  refine enter_call (codeAny_mono (call w s₀ s₁ mg mb fa o pm cd doc a vs ns G Y ho (fd_plain hd) hcd hmg hobj hints hlen hg) fun r s' hq => ?_)
  obtain ⟨rfl, h2, h3, h4⟩ := hq
  exact ⟨.inl ⟨.bool true, .bool true, [], rfl, fun _ => rfl, .bool true, post_true l _, fun _ => ⟨List.Pairwise.nil, fun _ hm => (nomatch hm)⟩⟩, h2, h3, h4⟩


/-! ### rules over ANY heap (no ledger) from facts about the written part K: the library's own take a ledger (News) for what they write -/
section
variable {prog : Program} {w : World} {A : Around} {E : Value → Shared → Prop} {s : Shared} {K : Frag}





/-! the whole heap as the ledger: makes every rule that writes through a ledger a rule over any heap -/
noncomputable def ledger (h : Heap) (L d : Addr) : List (Addr × Obj) := (List.range h.objs.size).filterMap fun a => if a = L ∨ a = d then none else (h.get? a).map fun o => (a, o)

end
end Att

namespace L2
open PySem PySem.Spec PyProof.Rows

theorem vals_ints : ∀ {vs : List Value} {ns : List Int}, IntsAre vs ns → Vals (ns.map V.int) vs
  | _, _, .nil => .nil
  | _, _, .cons n t h => .cons ⟨t, rfl⟩ (vals_ints h)

noncomputable def Only (H : Hp) : Prop := ∀ b, H b = none ∨ ∃ o xs, H b = some (.frz o (.lst xs))

theorem law_call {P : Program} {w : World} {K : PySem.W.Frag} {mg mb : Str → Option Value} {CX : CXT} {k : Nat} {fa a : Addr} {fd : FuncData} {x : Str} {sp : Sp} {s₁ : Shared} {vs : List Value} {ns : List Int}
    (KX : K.In s₁.heap) (hns : s₁.heap.Ns mainGlobals mg) (hb : s₁.heap.Ns builtinsNs mb) (hbb : ∀ x : Str, x ≠ "__name__" → mb x = bootBuiltins x) (hlim : s₁.heap.NoLimit) (hg : s₁.gens = #[])
    (ha : s₁.heap.get? a = some { cls := .type "list", data := .seq vs.toArray }) (hi : IntsAre vs ns) (hl : ns.length ≤ sizeLine) (hr : Room k callerA)
    (F : ∀ base : Heap, K.In base → base.Ns mainGlobals mg → FnOk P w K mg base CX k fa fd [x] sp) (hbind : ∀ (s : Shared) (u : Value), BindsTo s fd ⟨[u], []⟩ [(x, u)])
    (hsp : ∀ H : Hp, Only H → SqL K H a (ns.map V.int) → sp [.ref a] H (fun v _ => v = .bl true) fun _ _ _ => False)
    (hCX : ∀ H e s', CX [] H s₁ (fun _ _ _ => False) e s' → False) :
    codeAny (model P w) callerA (.call (.ref fa) ⟨[.ref a], []⟩) (fun r s' => r = .ok (.ret (.bool true)) ∧ OldK s₁.heap s'.heap ∧ s'.os = s₁.os ∧ AllBare s'.gens) s₁ := by
  have rv := vals_ints hi
  have lenV := hi.length
  -- from an abstract heap in which nothing but the script may be tracked
  have core : ∀ H : Hp, Only H → SqL K H a (ns.map V.int) → HOk P w H s₁.heap → (∀ b, H b ≠ none → b = a) → (H a ≠ none → K.lookup a = none) →
      codeAny (model P w) callerA (.call (.ref fa) ⟨[.ref a], []⟩) (fun r s' => r = .ok (.ret (.bool true)) ∧ OldK s₁.heap s'.heap ∧ s'.os = s₁.os ∧ AllBare s'.gens) s₁ := by
    intro H hO hS hok hA hK
    have base_of : ∀ {b : Addr} {o : Obj}, s₁.heap.get? b = some o → H b = none → (hidT s₁.heap H).get? b = some o := fun e n => hidT_get e n
    have noA : ∀ {b : Addr} {o : Obj} {es : Array DictEntry} {ep : Nat}, s₁.heap.get? b = some o → o.data = .dict es ep → H b = none := fun {b o es ep} e d => by
      cases q : H b with
      | none => rfl
      | some u =>
        have e' : b = a := hA b (by rw [q]; simp)
        subst e'
        rw [ha] at e; cases e
        have d' : Data.seq vs.toArray _ = Data.dict es ep := d
        cases d'
    have nsK : ∀ {b : Addr} {m : Str → Option Value}, s₁.heap.Ns b m → (hidT s₁.heap H).Ns b m := fun {b m} ⟨o, es, ep, e, d, r⟩ => ⟨o, es, ep, base_of e (noA e d), d, r⟩
    have hKb : K.In (hidT s₁.heap H) := fun b o e => base_of (KX b o e) (by
      cases q : H b with
      | none => rfl
      | some u =>
        have e' : b = a := hA b (by rw [q]; simp)
        subst e'
        rw [hK (by rw [q]; simp)] at e; cases e)
    have hM : Mod K mg (hidT s₁.heap H) := ⟨hKb, nsK hns, ⟨mb, nsK hb, hbb⟩, let ⟨mc, h1, h2⟩ := hlim; ⟨mc, nsK h1, h2⟩⟩
    have e0 : Env0 P w K mg (hidT s₁.heap H) callerA [] s₁ H := ⟨rfl, hM, fun b o e => of_hidT e, Nat.le_of_eq (hidT_size _ _), trivial, fun b hb => absurd (show b ∈ ([] : List Addr) from hb) (by simp), hok, .of_eq hg⟩
    refine codeAny_mono ((F _ hKb (nsK hns)).run callerA [] s₁ H ⟨[.ref a], []⟩ [.ref a] [.ref a] _ _ hr e0 (hbind s₁ (.ref a)) (.cons rfl .nil) (hsp H hO hS)) fun r s' h => ?_
    cases r with
    | error e => exact (hCX H e s' h).elim
    | ok fl =>
      cases fl with
      | next => exact False.elim h
      | brk => exact False.elim h
      | cont => exact False.elim h
      | ret u =>
        obtain ⟨v, H', os, bare, un, hok', r', q⟩ := h
        have q' : v = .bl true := q
        subst q'
        obtain rfl : u = Value.bool true := r'
        refine ⟨rfl, OldK.of_keep fun b o e => ?_, os, bare⟩
        cases q : H b with
        | none => exact un.keep b o e q (by intro z; exact absurd (show b ∈ ([] : List Addr) from z) (by simp)) (by simp)
        | some u =>
          rcases hO b with z | ⟨ob, xs, z⟩
          · rw [q] at z; cases z
          · have z2 := un.frzs b ob _ z
            obtain ⟨e1, _⟩ := hok b _ z
            obtain ⟨e2, _⟩ := hok' b _ z2
            rw [e] at e1; cases e1
            exact e2
  cases hk : K.lookup a with
  | some o =>
    -- the script is one of the module's own objects
    have e := KX a o hk
    rw [ha] at e
    cases e
    refine core (fun _ => none) (fun _ => .inl rfl) (.inr ⟨_, vs.toArray, _, hk, rfl, rfl, rfl, by rw [List.size_toArray, lenV]; exact hl, by simpa using rv⟩) (fun b u z => by have z' : (none : Option HO) = some u := z; cases z') (fun b z => absurd rfl z) fun z => absurd rfl z
  | none =>
    refine core (fun b => if b = a then some (.frz { cls := .type "list", data := .seq vs.toArray } (.lst (ns.map V.int))) else none) (fun b => ?_) (.inl (.inr ⟨{ cls := .type "list", data := .seq vs.toArray }, if_pos rfl⟩)) (fun b u z => ?_) (fun b z => ?_) fun _ => hk
    · by_cases hb : b = a
      · exact .inr ⟨_, _, if_pos hb⟩
      · exact .inl (if_neg hb)
    · by_cases hb : b = a
      · have z' := (if_pos hb).symm.trans z
        cases z'
        subst hb
        exact ⟨ha, by rw [List.length_map]; exact hl, vs, _, rv, ha⟩
      · have z' := (if_neg hb).symm.trans z
        cases z'
    · by_cases hb : b = a
      · exact hb
      · exact absurd (if_neg hb) z
end L2

namespace L2
open PySem PySem.Spec PyProof.Rows


theorem walk_of {l : PySem.W.OpenLaw} {n k : Nat} {q : Program} {loose : List Str} {XP : (Str → Option Value) → Heap → Prop} {YP : World → Heap → Prop} {d : DefRec} {K : Params → PySem.W.Frag} {CX : World → CXT} {sp : World → Sp} {x : Str}
    (hn : l.most = some n) (hn2 : n ≤ sizeLine) (hdf : d.params.defaults = []) (hr : Room k callerA)
    (hY : ∀ (w : World) (h : Heap), YP w h → (K w.params).In h)
    (F : ∀ (w : World) (mg : Str → Option Value) (fa : Addr) (h : Heap), (K w.params).In h → h.Ns mainGlobals mg → mg d.name = some (.ref fa) →
      ∃ fd : FuncData, (∀ (s : Shared) (u : Value), BindsTo s fd ⟨[u], []⟩ [(x, u)]) ∧
        ∀ base : Heap, (K w.params).In base → base.Ns mainGlobals mg → FnOk l.prog w (K w.params) mg base (CX w) k fa fd [x] (sp w))
    (hsp : ∀ (w : World) (H : Hp) (a : Addr) (ns : List Int), ns.length ≤ n → Only H → SqL (K w.params) H a (ns.map V.int) → sp w [.ref a] H (fun v _ => v = .bl true) fun _ _ _ => False)
    (hCX : ∀ (w : World) (H : Hp) (s : Shared) (e : Value) (s' : Shared), CX w [] H s (fun _ _ _ => False) e s' → False) :
    PySem.W.WalkO q loose XP YP l.row.toRowW d [] (fun f vs => PySem.call f vs) := by
  refine Att.attach_call hn hdf fun w s₀ s₁ mg mb fa o pm cd doc a vs ns G Y ho hd hcd hmg hobj hints hlen hg => ?_
  have KX := hY w _ Y
  obtain ⟨fd, hb, hF⟩ := F w mg fa _ KX G.T.g hmg
  exact law_call KX G.T.g G.T.b G.T.builtins G.T.nolimit hg hobj hints (Nat.le_trans hlen hn2) hr hF hb (fun H hO hS => hsp w H a ns hlen hO hS) fun H e s' => hCX w H s₁ e s'
end L2

/-! SHORT WORDS over the layer: a def of the text, its body, what a loop and a test want. -/
namespace L2
open PySem PySem.Spec PyProof.Rows

/-! ### the text by places -/
noncomputable def inClass (s : Stmt) (j : Nat) : Stmt := match s with
  | .ClassDef _ _ _ body _ _ _ _ _ _ _ => body.getD j (.Pass ⟨0, 0, 0, 0⟩)
  | _ => .Pass ⟨0, 0, 0, 0⟩
noncomputable def defArgs (s : Stmt) : Arguments := match s with
  | .FunctionDef _ a _ _ _ _ _ _ _ _ => a
  | _ => { posonlyargs := [], args := [], vararg := none, kwonlyargs := [], kw_defaults := [], kwarg := none, defaults := [] }
noncomputable def defBody (s : Stmt) : List Stmt := match s with
  | .FunctionDef _ _ b _ _ _ _ _ _ _ => b
  | _ => []
noncomputable def defScope (s : Stmt) : Scope := match s with
  | .FunctionDef _ _ _ _ _ _ sc _ _ _ => sc
  | _ => { kind := .function, names := [], isGenerator := false, isCoroutine := false }

/-! ### no exception leaves a def -/
noncomputable abbrev CX0 : CXT := fun _ _ _ _ _ _ => False
noncomputable abbrev E0 : XK := fun _ _ _ => False
theorem pass0 {X : Cx} : Passes CX0 X E0 := fun _ _ _ _ _ _ _ h => h.elim

/-! ### a def (or method) of the text as it stands behind the top -/
set_option genInjectivity false in
structure Fun (K : PySem.W.Frag) (x qual : Str) (st : Stmt) (f : Addr) (fd : FuncData) : Prop where
  ex : ∃ (oc : Value) (od : Option Addr) (kV doc pm : Value) (an : Option Addr) (cdv ct : Value) (osl : Array (Option Value)),
    fd = PySem.W.fnOf x qual (defArgs st) (defBody st) (defScope st) .none kV doc pm an cdv ct ∧ K.lookup f = some ⟨oc, od, .func fd, osl⟩ ∧ PySem.W.codeIn K cdv qual = true
  kp : PySem.W.keepIn K (.ref f) = true
section
variable {P : Program} {w : World} {K : PySem.W.Frag} {mg : Str → Option Value} {base : Heap}
theorem Fun.ok {x qual : Str} {st : Stmt} {f : Addr} {fd : FuncData} {N ps : List Str} {k : Nat} {sp : Sp} (F : Fun K x qual st f fd) (S : FnScope N ps (defScope st)) (len : ∀ vs H Q E, sp vs H Q E → vs.length = ps.length)
    (hbody : ∀ (cdv : Value) (A : Around) (outer : List Env) (s : Shared) (H : Hp) (vs : List V) (Q : VK) (E : XK), Room k (A.deeper (envOfC qual (defScope st) s.heap.objs.size f cdv)) → sp vs H Q E →
      ∃ t, PSs (cxOf CX0 P w K mg base N qual (defScope st) f cdv A outer s H E).nox (defBody st) t ∧ t { nx := fun _ H' => Q .non H', rt := Q } (start N vs) H) : FnOk P w K mg base CX0 (k + 1) f fd ps sp := by
  obtain ⟨oc, od, kV, doc, pm, an, cdv, ct, osl, rfl, lk, hcd⟩ := F.ex
  refine fn_of lk hcd S len fun A outer s H vs Q E hr hsp => ?_
  obtain ⟨t, h, q⟩ := hbody cdv A outer s H vs Q E hr hsp
  exact ⟨t, h.nox, q⟩
theorem Fun.binds {x qual : Str} {st : Stmt} {f : Addr} {fd : FuncData} {ps : List Str} (F : Fun K x qual st f fd)
    (h : ∀ (kV doc pm : Value) (an : Option Addr) (cdv ct : Value) (us : List Value), us.length = ps.length → bindArgs (PySem.W.fnOf x qual (defArgs st) (defBody st) (defScope st) .none kV doc pm an cdv ct) ⟨us, []⟩ = pure (ps.zip us)) : Binds K fd ps [] := by
  obtain ⟨oc, od, kV, doc, pm, an, cdv, ct, osl, rfl, lk, hcd⟩ := F.ex
  exact .all (h kV doc pm an cdv ct)
theorem fun_mk {x qual : Str} {st : Stmt} {f : Addr} {oc : Value} {od an : Option Addr} {osl : Array (Option Value)} {kV doc pm cdv ct : Value} (l : K.lookup f = some ⟨oc, od, .func (PySem.W.fnOf x qual (defArgs st) (defBody st) (defScope st) .none kV doc pm an cdv ct), osl⟩)
    (c : PySem.W.codeIn K cdv qual = true) (k : PySem.W.keepIn K (.ref f) = true) : Fun K x qual st f (PySem.W.fnOf x qual (defArgs st) (defBody st) (defScope st) .none kV doc pm an cdv ct) := ⟨⟨oc, od, kV, doc, pm, an, cdv, ct, osl, rfl, l, c⟩, k⟩
end
theorem hu_of {A : Around} {k : Nat} (hr : Room k A) : A.units + 1 < cLine := Nat.lt_of_le_of_lt (Nat.add_le_add_left (by decide : 1 ≤ 64) _) hr.units

/-! ### expressions in short: the name that stands in the i-th slot -/
section
variable {X : Cx}
theorem pv (i : Nat) {x : Str} {pos : Pos} (hN : X.N[i]? = some x := by rfl) (hv : Vis X.env.scope x := by first | exact Or.inl rfl | exact Or.inr (Or.inl rfl) | exact Or.inr (Or.inr rfl)) (hd : (x == ("__debug__" : Str)) = false := by decide)
    (hcd : (x == ("__classdict__" : Str)) = false := by decide) : PE X (.Name x pos) (tVar i) := pe_var hN hv hd hcd
end

/-! ### tests -/
theorem iteF {A B : Prop} (h : B) : if false = true then A else B := by
  rw [if_neg Bool.false_ne_true]
  exact h
theorem iteT {A B : Prop} (h : A) : if true = true then A else B := by
  rw [if_pos rfl]
  exact h
theorem ite2 {c A B : Prop} [Decidable c] (h1 : c → A) (h2 : ¬ c → B) : if c then A else B := by
  by_cases h : c
  · rw [if_pos h]
    exact h1 h
  · rw [if_neg h]
    exact h2 h

/-! ### heaps -/
noncomputable def Same (H H' : Hp) : Prop := ∀ b o, H b = some o → H' b = some o
theorem Same.refl (H : Hp) : Same H H := fun _ _ h => h
theorem Same.trans {H H1 H2 : Hp} (a : Same H H1) (b : Same H1 H2) : Same H H2 := fun c o h => b c o (a c o h)
theorem Same.free {H H' : Hp} (e : Same H H') {l : Addr} (h : H' l = Option.none) : H l = Option.none := by
  cases q : H l with
  | none => rfl
  | some o =>
    rw [e l o q] at h
    cases h
theorem Same.seq {K : PySem.W.Frag} {H H' : Hp} {a : Addr} {xs : List V} (e : Same H H') (h : SqL K H a xs) : SqL K H' a xs := by
  rcases h with (h | ⟨o, h⟩) | h
  · exact .inl (.inl (e _ _ h))
  · exact .inl (.inr ⟨o, e _ _ h⟩)
  · exact .inr h

end L2

namespace L2
open PySem PySem.Spec PyProof.Rows
section
variable {X : Cx}
end
/-! ### a dict's pairs: keys that differ -/
section
variable {κ : Type} [DecidableEq κ]
end
end L2

namespace L2
open PySem PySem.Spec PyProof.Rows

/-! ### a comprehension's cells: those of the names that it takes from around it -/
noncomputable def clOf (env : Env) : List (Str × NameKind) → List (Str × Addr) → List (Str × Addr)
  | [], acc => acc
  | (n, k) :: r, acc => clOf env r (if (k == NameKind.free) = true then (n, (env.cells.lookup n).getD 0) :: acc else acc)
theorem clOf_ok {env : Env} : ∀ (ns : List (Str × NameKind)) (acc : List (Str × Addr)), (∀ x ∈ ns, x.2 = .free → ∃ c, env.cells.lookup x.1 = some c) →
    (∀ x c, acc.lookup x = some c → env.cells.lookup x = some c) → ∀ x c, (clOf env ns acc).lookup x = some c → env.cells.lookup x = some c
  | [], acc, _, ha => ha
  | (n, k) :: r, acc, hn, ha => by
    refine clOf_ok r _ (fun x hx => hn x (List.mem_cons_of_mem _ hx)) ?_
    intro x c e
    by_cases hk : (k == NameKind.free) = true
    · rw [if_pos hk] at e
      have hk' : k = .free := by simpa using hk
      obtain ⟨c', ec⟩ := hn (n, k) List.mem_cons_self hk'
      rw [List.lookup_cons] at e
      cases hx : x == n with
      | true =>
        rw [hx] at e
        have : x = n := by simpa using hx
        subst this
        have ec' : List.lookup x env.cells = some c' := ec
        rw [ec'] at e
        simp at e
        rw [← e]; exact ec'
      | false => rw [hx] at e; exact ha x c e
    · rw [if_neg hk] at e; exact ha x c e
theorem clOf_keep {env : Env} : ∀ (ns : List (Str × NameKind)) (acc : List (Str × Addr)) (x : Str), (∃ c, acc.lookup x = some c) → ∃ c, (clOf env ns acc).lookup x = some c
  | [], acc, x, h => h
  | (n, k) :: r, acc, x, h => by
    refine clOf_keep r _ x ?_
    by_cases hk : (k == NameKind.free) = true
    · rw [if_pos hk, List.lookup_cons]
      cases hx : x == n with
      | true => exact ⟨_, rfl⟩
      | false => exact h
    · rw [if_neg hk]; exact h
theorem clOf_has {env : Env} : ∀ (ns : List (Str × NameKind)) (acc : List (Str × Addr)) (x : Str), (x, NameKind.free) ∈ ns → ∃ c, (clOf env ns acc).lookup x = some c
  | [], acc, x, h => absurd h (by simp)
  | (n, k) :: r, acc, x, h => by
    rcases List.mem_cons.mp h with e | e
    · injection e with e1 e2
      subst e1 e2
      refine clOf_keep r _ x ⟨(env.cells.lookup x).getD 0, ?_⟩
      rw [if_pos (by decide)]
      simp
    · exact clOf_has r _ x e
theorem closureFor_eq {scope : Scope} {env : Env} (h : ∀ x ∈ scope.names, x.2 = .free → ∃ c, env.cells.lookup x.1 = some c) : closureFor scope env = pure (clOf env scope.names []) := by
  have key : ∀ (ns : List (Str × NameKind)) (acc : List (Str × Addr)), (∀ x ∈ ns, x.2 = .free → ∃ c, env.cells.lookup x.1 = some c) →
      (do let r ← forIn (m := Sem) ns acc (fun x r => if (x.2 == NameKind.free) = true then do let c ← cellOf env x.1; pure (ForInStep.yield ((x.1, c) :: r)) else pure (ForInStep.yield r)); pure r : Sem (List (Str × Addr))) = pure (clOf env ns acc) := by
    intro ns
    induction ns with
    | nil => intro acc _; rfl
    | cons y r ih =>
      intro acc hy
      obtain ⟨n, k⟩ := y
      rw [List.forIn_cons]
      by_cases hk : (k == NameKind.free) = true
      · have hk' : k = .free := by simpa using hk
        obtain ⟨c, ec⟩ := hy (n, k) List.mem_cons_self hk'
        have ec' : List.lookup n env.cells = some c := ec
        have e1 : cellOf env n = pure c := by unfold cellOf; rw [ec']
        simp only [hk, if_true, e1]
        have := ih ((n, c) :: acc) fun x hx => hy x (List.mem_cons_of_mem _ hx)
        show _ = pure (clOf env r (if (k == NameKind.free) = true then (n, (List.lookup n env.cells).getD 0) :: acc else acc))
        rw [if_pos hk, ec']
        exact this
      · simp only [hk]
        have := ih acc fun x hx => hy x (List.mem_cons_of_mem _ hx)
        show _ = pure (clOf env r (if (k == NameKind.free) = true then (n, (List.lookup n env.cells).getD 0) :: acc else acc))
        rw [if_neg hk]
        exact this
  simp only [closureFor]
  rw [key scope.names [] h]
  rfl
/-! ### the turns of a comprehension -/
section
variable {prog : Program} {w : World} {A : Around} {R : Result → Shared → Prop} {s : Shared}
theorem compLoop_any {elt target iter : Expr} {ifs : List Expr} {scope : Scope} {pos : Pos} {it acc : Value} {env : Env} (I : Nat → Shared → Prop)
    (turn : ∀ n s, I n s → wpAny (model prog w) A (pyNext it) (fun r s₁ => match r with
      | none => R (.ok .next) s₁
      | some v => wpAny (model prog w) A (letOwnedTupleGo target it v) (fun _ s₁' => wpAny (model prog w) A (assign target env v) (fun _ s₂ =>
          wpAny (model prog w) A (forIn ifs true fun c r => if r = true then do let ok ← isTrue c env (eval c env); pure (ForInStep.yield ok) else pure (ForInStep.yield r)) (fun ok s₃ =>
            if ok = true then wpAny (model prog w) A (eval elt env) (fun x s₄ =>
              wpAny (model prog w) A (call (.builtin "list.append") [acc, x]) (fun _ s₅ => ∃ m, m < n ∧ I m s₅) (fun _ _ => False) s₄) (fun _ _ => False) s₃
            else ∃ m, m < n ∧ I m s₃) (fun _ _ => False) s₂) (fun _ _ => False) s₁') (fun _ _ => False) s₁) (fun _ _ => False) s)
    (n : Nat) (h : I n s) :
    codeAny (model prog w) A (.compLoop (.ListComp elt [⟨target, iter, ifs, 0⟩] scope pos) 0 it acc env) R s := by
  refine codeAny_loop rfl I (fun n s hI => ?_) n h
  show wpAny _ A ((compTurn (.ListComp elt [⟨target, iter, ifs, 0⟩] scope pos) 0 it acc env).onRaise (fun x => do noteFrame x env; theTreesLotGoes x)) _ _ s
  refine wpAny_noted ?_
  rw [compTurn_list]
  refine wpAny_bind (wpAny_standAt (wpAny_bind (wpAny_mono (turn n s hI) (fun r s₁ h₁ => ?_) fun _ _ h' => h'.elim)))
  cases r with
  | none => exact wpAny_pure h₁
  | some v =>
    refine wpAny_bind (wpAny_mono h₁ (fun _ s₁' h₁' => ?_) fun _ _ h' => h'.elim)
    refine wpAny_bind (wpAny_mono h₁' (fun _ s₂ h₂ => wpAny_bind (wpAny_mono h₂ (fun ok s₃ h₃ => ?_) fun _ _ h' => h'.elim)) fun _ _ h' => h'.elim)
    cases ok with
    | false => exact wpAny_pure ⟨rfl, h₃⟩
    | true =>
      exact wpAny_bind (wpAny_bind (wpAny_mono h₃ (fun x s₄ h₄ => wpAny_bind (wpAny_mono h₄ (fun _ s₅ h₅ => wpAny_pure (wpAny_pure ⟨rfl, h₅⟩)) fun _ _ h' => h'.elim)) fun _ _ h' => h'.elim))
end

/-! ### the block's context -/
noncomputable def blk (X : Cx) (N' : List Str) (scope : Scope) (fp : List Addr) (s : Shared) (H : Hp) : Cx :=
  { X with N := N', s₀ := s, H₀ := H, env := compEnvC scope (clOf X.env scope.names []) s.heap.objs.size X.env, outer := X.stack, stack := X.stack, ex := fp, fn := fun _ => false, xe := fun _ _ => False }
noncomputable def PTs (X : Cx) (ifs : List Expr) (t : TT) : Prop :=
  ∀ (pins : List (Addr × Obj)) (s : Shared) (σ : St) (H : Hp) (Q : Bool → Hp → Prop), Inv X pins σ H s → t σ H Q →
    wpAny (model X.prog X.w) X.A (forIn ifs true fun c r => if r = true then do let ok ← isTrue c X.env (eval c X.env); pure (ForInStep.yield ok) else pure (ForInStep.yield r)) (TP X pins σ Q) X.xe s
noncomputable def tYes : TT := fun _ H Q => Q true H
theorem pts_nil {X : Cx} : PTs X [] tYes := fun _ _ _ H _ I h => wpAny_tests_nil ⟨H, I, h⟩
inductive Ext : St → St → Prop
  | nil : Ext [] []
  | no {σ τ : St} {a : Option V} : Ext σ τ → Ext (none :: σ) (a :: τ)
  | yes {σ τ : St} {v : V} : Ext σ τ → Ext (some v :: σ) (some v :: τ)
theorem Ext.len : ∀ {σ τ : St}, Ext σ τ → σ.length = τ.length
  | _, _, .nil => rfl
  | _, _, .no h => by simp [h.len]
  | _, _, .yes h => by simp [h.len]
theorem Ext.get : ∀ {σ τ : St}, Ext σ τ → ∀ (i : Nat) (v : V), σ[i]? = some (some v) → τ[i]? = some (some v)
  | _, _, .nil, i, v, e => e
  | _, _, .no h, 0, v, e => by simp at e
  | _, _, .no h, i + 1, v, e => by simpa using h.get i v (by simpa using e)
  | _, _, .yes h, 0, v, e => by simpa using e
  | _, _, .yes h, i + 1, v, e => by simpa using h.get i v (by simpa using e)
noncomputable def blkSt (k : Nat) (fm : List Nat) (σ : St) : St := List.replicate k none ++ fm.map fun j => (σ[j]?).join
noncomputable def tComp (k : Nat) (fm : List Nat) (wi : TI) (g : TG) (tt : TT) (te : TE) : TE := fun σ H Q => wi σ H fun J H1 => ∀ D, H1 D = none → ∃ W : Nat → Nat → List V → Hp → Prop,
  (∃ m, W 0 m [] (upd H1 D (.lst []))) ∧ ∀ i m ys H2, W i m ys H2 → H2 D = some (.lst ys) ∧ ys.length < sizeLine ∧ ((J.stop i H2 ∧ Q (.ref D) H2) ∨ (J.go i H2 ∧ ∃ N : List V → Hp → Prop, (∀ ys' H', N ys' H' → ∃ m', m' < m ∧ W (i + 1) m' ys' H') ∧ ∀ x H3, J.yld i H2 x H3 →
    g x (blkSt k fm σ) H3 fun σ3 H4 => Ext (blkSt k fm σ) σ3 ∧ tt σ3 H4 fun b H5 => if b = true then te σ3 H5 fun y H6 => H6 D = some (.lst ys) ∧ N (ys ++ [y]) (upd H6 D (.lst (ys ++ [y]))) else N ys H5))
theorem Un.tail {fs ex : List Addr} {H H' : Hp} {h h1 h2 : Heap} {C : Addr} (u : Un fs ex H H' h h1) (k : ∀ b o, b ≠ C → h1.get? b = some o → h2.get? b = some o) (hC : h.get? C = none) : Un fs ex H H' h h2 := by
  have ne : ∀ b o, h.get? b = some o → b ≠ C := fun b o e z => by rw [z, hC] at e; cases e
  exact ⟨fun b o e n hf hx => k b o (ne b o e) (u.keep b o e n hf hx), fun b o e n hf hx => let ⟨sl, q⟩ := u.slot b o e n hf hx; ⟨sl, k b _ (ne b o e) q⟩, u.free,
    fun b o e hx => let ⟨o', q⟩ := u.there b o e hx; ⟨o', k b _ (ne b o e) q⟩, u.tups, u.frzs, u.tbls⟩
theorem HOk.tail {P : Program} {w : World} {H : Hp} {h1 h2 : Heap} {C : Addr} (ok : HOk P w H h1) (k : ∀ b o, b ≠ C → h1.get? b = some o → h2.get? b = some o) (hC : H C = none) : HOk P w H h2 := fun a o e => by
  have ne : ∀ b u, H b = some u → b ≠ C := fun b u q z => by rw [z, hC] at q; cases q
  refine (ok a o e).stay (fun b u hb q => k b u ?_ q) (fun _ q => q) fun _ _ q => q
  rcases hb with z | z
  · rw [z]; exact ne a o e
  · exact ne b _ z
theorem lookup_relabel {env : Env} : ∀ {names : List (Str × NameKind)} {x : Str} {k : NameKind},
    (names.map fun (n, k) => if (k == NameKind.free && env.scope.kind == .function && env.kindOf n == some .cell) then (n, NameKind.cell) else (n, k)).lookup x = some k → ∃ k', names.lookup x = some k' ∧ (k = k' ∨ (k' = .free ∧ k = .cell))
  | [], _, _, h => by simp at h
  | (n, k0) :: r, x, k, h => by
    have ih := @lookup_relabel env r x k
    have h : List.lookup x ((if (k0 == NameKind.free && env.scope.kind == .function && env.kindOf n == some .cell) = true then (n, NameKind.cell) else (n, k0)) :: (r.map fun (n, k) => if (k == NameKind.free && env.scope.kind == .function && env.kindOf n == some .cell) then (n, NameKind.cell) else (n, k))) = some k := h
    by_cases hc : (k0 == NameKind.free && env.scope.kind == .function && env.kindOf n == some .cell) = true
    · rw [if_pos hc, List.lookup_cons] at h
      have k0f : k0 = .free := by
        simp only [Bool.and_eq_true] at hc
        simpa using hc.1.1
      rw [List.lookup_cons]
      cases hx : x == n with
      | true => rw [hx] at h; injection h with h; exact ⟨k0, rfl, .inr ⟨k0f, h.symm⟩⟩
      | false => rw [hx] at h; exact ih h
    · rw [if_neg hc, List.lookup_cons] at h
      rw [List.lookup_cons]
      cases hx : x == n with
      | true => rw [hx] at h; injection h with h; exact ⟨k0, rfl, .inl h.symm⟩
      | false => rw [hx] at h; exact ih h
set_option genInjectivity false in
structure BlkScope (X : Cx) (N' : List Str) (k : Nat) (fm : List Nat) (scope : Scope) : Prop where
  kind : scope.kind = .function
  nocell : ∀ y ∈ scope.names, y.2 ≠ .cell
  names : ∀ y ∈ scope.names, y.2 = .local → scope.names.lookup y.1 = some .local
  free : ∀ y ∈ scope.names, y.2 = .free → X.env.kindOf y.1 = some .cell ∨ X.env.kindOf y.1 = some .free
  len : N'.length = k + fm.length
  slots : ∀ i x, k ≤ i → N'[i]? = some x → scope.names.lookup x = some .free ∧ ∃ j, fm[i - k]? = some j ∧ X.N[j]? = some x
section
variable {X : Cx} {pins : List (Addr × Obj)} {σ : St} {H : Hp} {s : Shared}
theorem Inv.block {N' : List Str} {k : Nat} {fm : List Nat} {scope : Scope} {fp : List Addr} {h' : Heap} {tk : Nat} (B : BlkScope X N' k fm scope) (I : Inv X pins σ H s) (hf : ∀ b ∈ fp, FpOk X pins H b) (ho : ∀ b ∈ fp, ∃ o, s.heap.get? b = some o)
    (ns : h'.Ns s.heap.objs.size (fun _ => none)) (kp : ∀ b o, s.heap.get? b = some o → h'.get? b = some o) : Inv (blk X N' scope fp s H) [] (blkSt k fm σ) H { s with heap := h', toks := tk } := by
  have hfree : ∀ x ∈ scope.names, x.2 = .free → ∃ c, X.env.cells.lookup x.1 = some c := fun x hx hk => I.ok.has x.1 (B.free x hx hk)
  have hcl : ∀ x c, (clOf X.env scope.names []).lookup x = some c → X.env.cells.lookup x = some c := clOf_ok scope.names [] hfree fun x c e => by simp at e
  have stk : ∀ b ∈ frs X.stack, b ∈ X.env.locals :: X.fs := I.stkSub
  have hC : H s.heap.objs.size = none := I.hok.fresh (Nat.le_refl _)
  have ok : (blk X N' scope fp s H).Ok := {
    mod := I.ok.mod
    kind := B.kind
    glob := I.ok.glob
    blt := I.ok.blt
    above := Nat.le_refl _
    inj := fun x y c h1 h2 => I.ok.inj x y c (hcl x c h1) (hcl y c h2)
    has := fun x hx => by
      have hx : (relabel scope X.env).names.lookup x = some .cell ∨ (relabel scope X.env).names.lookup x = some .free := hx
      have : scope.names.lookup x = some .free := by
        rcases hx with e | e
        · obtain ⟨k', e1, e2⟩ := lookup_relabel e
          rcases e2 with e2 | ⟨e2, _⟩
          · subst e2; exact absurd rfl (B.nocell _ (PySem.mem_of_lookup e1))
          · rw [e1, e2]
        · obtain ⟨k', e1, e2⟩ := lookup_relabel e
          rcases e2 with e2 | ⟨e2, e3⟩
          · rw [e1, e2]
          · rw [e1, e2]
      exact clOf_has scope.names [] x (PySem.mem_of_lookup this)
    cab := fun x c e => by cases e
    hd := I.ok.hd
    frames := I.ok.frames
    stk := .inl rfl
    exf := fun b hb => ⟨fun z => by
        obtain ⟨o, e⟩ := ho b hb
        have hlt := Heap.lt_size e
        rw [z] at hlt
        exact Nat.lt_irrefl _ hlt, fun x c e => (hf b hb).2.2.2.2.1 x c (hcl x c e)⟩
    bs := I.bs
    bsz := Nat.le_trans I.ok.bsz I.sz
    noex := fun b o e hb => by
      rcases (hf b hb).2.2.2.1 with z | z
      · exact I.ok.noex b o e z
      · exact absurd (Nat.lt_of_lt_of_le (Heap.lt_size e) (Nat.le_trans I.ok.bsz z)) (Nat.lt_irrefl _)
    exfs := fun b hb z => (List.mem_cons.mp (stk b z)).elim (hf b hb).2.1 (hf b hb).2.2.1
    funs := I.stack
    frf := I.stkFree }
  refine ⟨ok, rfl, I.bare, Un.kept kp, ⟨_, ns, fun i x v h1 h2 h3 => ?_⟩, fun x c e => ?_, hC, fun x c e => I.freeC x c (hcl x c e), fun p hp => ?_, I.hok.kept kp, ?_⟩
  · have hk : k ≤ i := by
      refine Nat.le_of_not_lt fun z => ?_
      unfold blkSt at h2
      rw [List.getElem?_append_left (by simpa using z), List.getElem?_replicate, if_pos z] at h2
      cases h2
    obtain ⟨e1, j, e2, e3⟩ := B.slots i x hk h1
    have e4 : σ[j]? = some (some v) := by
      unfold blkSt at h2
      rw [List.getElem?_append_right (by simpa using hk), List.length_replicate, List.getElem?_map, e2] at h2
      have h2 : some (σ[j]?).join = some (some v) := h2
      injection h2 with h2
      cases e : σ[j]? with
      | none => rw [e] at h2; cases h2
      | some o => rw [e] at h2; rw [show o = some v from h2]
    have kf := B.free (x, .free) (PySem.mem_of_lookup e1) rfl
    obtain ⟨m, hn, hl⟩ := I.loc
    obtain ⟨u, ru, lk⟩ := hl j x v e3 e4 (.inr kf)
    refine ⟨u, ru, .inr ⟨?_, ?_⟩⟩
    · have h3 : (relabel scope X.env).names.lookup x = some .local ∨ (relabel scope X.env).names.lookup x = some .cell ∨ (relabel scope X.env).names.lookup x = some .free := h3
      rcases h3 with z | z
      · obtain ⟨k', q1, q2⟩ := lookup_relabel z
        rw [e1] at q1
        injection q1 with q1
        subst q1
        rcases q2 with q2 | ⟨_, q2⟩ <;> cases q2
      · exact z
    · obtain ⟨c, hc⟩ := clOf_has (env := X.env) scope.names [] x (PySem.mem_of_lookup e1)
      refine ⟨c, hc, ?_⟩
      rcases lk with ⟨z, _⟩ | ⟨_, c', ec, ic⟩
      · rcases kf with y | y <;> (rw [z] at y; cases y)
      · rw [hcl x c hc] at ec
        injection ec with ec
        subst ec
        exact ic.keeps kp
  · obtain ⟨v, q⟩ := I.cell x c (hcl x c e)
    exact ⟨v, q.keeps kp⟩
  · obtain ⟨p1, p2, p3, p4, p5⟩ := I.pin p ((List.mem_append.mp hp).elim (fun z => List.mem_append_left _ z) fun z => absurd z (by simp))
    refine ⟨kp _ _ p1, p2, fun z => ?_, fun z => (List.mem_cons.mp (stk _ z)).elim p3 p4, p5⟩
    have hlt := Heap.lt_size p1
    rw [z] at hlt
    exact Nat.lt_irrefl _ hlt
  · show (blkSt k fm σ).length = N'.length
    unfold blkSt
    rw [List.length_append, List.length_replicate, List.length_map, B.len]
theorem blk_loop {X : Cx} {elt iter tg : Expr} {ifs : List Expr} {scope : Scope} {pos : Pos} {g : TG} {tt : TT} {te : TE} {J : It} {fp : List Addr} {it D : Addr} {tn : Nat → Heap → Prop} {σ0 : St} {H3 : Hp} {s4 : Shared} {Q : VK} {R : Result → Shared → Prop} {W : Nat → Nat → List V → Hp → Prop} {m0 : Nat}
    (hx : X.xe = fun _ _ => False) (hc : X.calm = true) (T : Turn X.prog X.w X.K tg J fp it tn) (stat : ∀ {H' : Hp}, (∀ b ∈ fp, H' b = none) → ∀ b ∈ fp, FpOk X [] H' b) (hg : PG X tg g) (ht : PTs X ifs tt) (he : PE X elt te)
    (turn : ∀ i m ys H2, W i m ys H2 → H2 D = some (.lst ys) ∧ ys.length < sizeLine ∧ ((J.stop i H2 ∧ Q (.ref D) H2) ∨ (J.go i H2 ∧ ∃ N : List V → Hp → Prop, (∀ ys' H', N ys' H' → ∃ m', m' < m ∧ W (i + 1) m' ys' H') ∧ ∀ x H3, J.yld i H2 x H3 →
      g x σ0 H3 fun σ3 H4 => Ext σ0 σ3 ∧ tt σ3 H4 fun b H5 => if b = true then te σ3 H5 fun y H6 => H6 D = some (.lst ys) ∧ N (ys ++ [y]) (upd H6 D (.lst (ys ++ [y]))) else N ys H5)))
    (I4 : Inv X [] σ0 H3 s4) (st4 : tn 0 s4.heap) (fr4 : ∀ b ∈ fp, H3 b = none) (w4 : W 0 m0 [] H3)
    (hR : ∀ H' s', Inv X [] σ0 H' s' → Q (.ref D) H' → R (.ok .next) s') :
    codeAny (model X.prog X.w) X.A (.compLoop (.ListComp elt [⟨tg, iter, ifs, 0⟩] scope pos) 0 (.ref it) (.ref D) X.env) R s4 := by
  refine compLoop_any (fun n s' => ∃ i ys H', Inv X [] σ0 H' s' ∧ tn i s'.heap ∧ (∀ b ∈ fp, H' b = none) ∧ W i n ys H') ?_ m0 ⟨0, [], H3, I4, st4, fr4, w4⟩
  rintro n s5 ⟨i, ys, H5, I5, st5, fr5, w5⟩
  obtain ⟨hD, hl, cs⟩ := turn i n ys H5 w5
  rcases cs with ⟨stop, q⟩ | ⟨go, N, hN, step⟩
  · refine thn (T.done X rfl rfl rfl hc i [] s5 σ0 H5 _ I5 (stat fr5) st5 stop) fun r s6 ⟨hr, I6⟩ => ?_
    subst hr
    exact hR H5 s6 I6 q
  · refine thn (T.item X rfl rfl rfl hc i [] s5 σ0 H5 _ I5 (stat fr5) st5 go) fun r s6 ⟨u, hr, h6⟩ => ?_
    subst hr
    refine thn h6 fun _ s7 ⟨x, H7, I7, r7, y7, st7, fr7⟩ => ?_
    have I7' := I7.pinned (stat fr7) (T.obj _ _ st7)
    have again : ∀ {σ' : St} {H' : Hp} {s' : Shared}, Ext σ0 σ' → Inv X ([] ++ pinsAt fp s7.heap) σ' H' s' → Inv X [] σ0 H' s' ∧ tn (i + 1) s'.heap ∧ ∀ b ∈ fp, H' b = none := fun {σ' H' s'} ex I' => by
      refine ⟨I'.unpinned.weak ex.len ex.get, T.keep _ _ _ st7 fun b hb o e => (I'.pin (b, o) (List.mem_append_right _ (List.mem_append_right _ (mem_pinsAt hb e)))).1, fun b hb => ?_⟩
      obtain ⟨o, e, d⟩ := T.obj _ _ st7 b hb
      exact (I'.pin (b, o) (List.mem_append_right _ (List.mem_append_right _ (mem_pinsAt hb e)))).2.1
    have w8 := hg _ s7 σ0 H7 x u _ I7' r7 (step x H7 y7)
    rw [hx] at w8
    refine thn w8 fun _ s8 ⟨σ8, H8, I8, ex8, q8⟩ => ?_
    have w9 := ht _ s8 σ8 H8 _ I8 q8
    rw [hx] at w9
    refine thn w9 fun ok s9 ⟨H9, I9, q9⟩ => ?_
    cases ok with
    | false =>
      obtain ⟨m', hm, w'⟩ := hN _ _ q9
      obtain ⟨a1, a2, a3⟩ := again ex8 I9
      exact ⟨m', hm, i + 1, ys, H9, a1, a2, a3, w'⟩
    | true =>
      have w10 := he _ s9 σ8 H9 _ I9 q9
      rw [hx] at w10
      refine thn w10 fun y s10 ⟨yv, H10, I10, r10, hD10, n10⟩ => ?_
      obtain ⟨m', hm, w'⟩ := hN _ _ n10
      have w11 := mt_append (X := X) _ s10 σ8 H10 (.ref D) [yv] (.ref D) [y] (fun v H' => v = .non ∧ H' = upd H10 D (.lst (ys ++ [yv]))) I10 rfl (.cons r10 .nil) ⟨D, ys, yv, rfl, rfl, hD10, hl, rfl, rfl⟩
      rw [hx] at w11
      refine thn w11 fun _ s11 ⟨_, H11, I11, _, _, e11⟩ => ?_
      subst e11
      obtain ⟨a1, a2, a3⟩ := again ex8 I11
      exact ⟨m', hm, i + 1, _, _, a1, a2, a3, w'⟩
theorem pe_comp {elt iter tg : Expr} {ifs : List Expr} {scope : Scope} {pos : Pos} {N' : List Str} {k : Nat} {fm : List Nat} {wi : TI} {g : TG} {tt : TT} {te : TE} (B : BlkScope X N' k fm scope) (hc : X.calm = true) (hi : PI X tg iter wi)
    (hb : ∀ fp s H, PG (blk X N' scope fp s H) tg g ∧ PTs (blk X N' scope fp s H) ifs tt ∧ PE (blk X N' scope fp s H) elt te)
    (hs : ∀ x, foldedSetIterable iter X.env x = pure x := by intro _; rfl) : PE X (.ListComp elt [⟨tg, iter, ifs, 0⟩] scope pos) (tComp k fm wi g tt te) := by
  intro pins s σ H Q I h
  have hfree : ∀ x ∈ scope.names, x.2 = .free → ∃ c, X.env.cells.lookup x.1 = some c := fun x hx hk => I.ok.has x.1 (B.free x hx hk)
  rw [eval_ListComp]
  refine wpAny_comprehension_free (use := none) rfl hs (closureFor_eq hfree) B.kind B.names (thn (hi pins s σ H _ I h) fun v s1 h1 => thn h1 fun itv s2 h2 => ?_)
  obtain ⟨it, fp, tn, J, H2, e, I2, T, st2, f2, h2⟩ := h2
  subst e
  obtain ⟨W, ⟨m0, w0⟩, turn⟩ := h2 s2.heap.objs.size I2.fresh
  refine wpAny_newObj_type (wpAny_newFunctionEnv B.nocell (by intro y hy; simp at hy) (fun h4 hns4 hsb4 => ?_) B.kind)
  have I3 := I2.lnew (its := []) (ys := []) (t' := s2.toks) .nil (Nat.zero_le _)
  have hf3 : ∀ b ∈ fp, FpOk X pins (upd H2 s2.heap.objs.size (.lst [])) b := fun b hb => by
    obtain ⟨o, e, _⟩ := T.obj _ _ st2 b hb
    refine ⟨?_, (f2 b hb).2⟩
    rw [upd_ne (fun z => Nat.lt_irrefl _ (z ▸ Heap.lt_size e))]
    exact (f2 b hb).1
  have ho3 : ∀ b ∈ fp, ∃ o, (s2.heap.push { cls := .type "list", data := .seq ([] : List Value).toArray }).get? b = some o := fun b hb => by
    obtain ⟨o, e, _⟩ := T.obj _ _ st2 b hb
    exact ⟨o, Heap.get?_push_of_some _ e⟩
  have kp4 : ∀ b o, (s2.heap.push { cls := .type "list", data := .seq ([] : List Value).toArray }).get? b = some o → h4.get? b = some o := fun b o e =>
    hsb4.extBut b o (fun z => Nat.lt_irrefl _ (z ▸ Heap.lt_size e)) (Heap.get?_push_of_some _ e)
  have I4 := I3.block (fp := fp) (h' := h4) (tk := s2.toks + ([] : List (Str × Value)).length) B hf3 ho3 hns4 kp4
  generalize hs3 : ({ s2 with heap := s2.heap.push { cls := .type "list", data := .seq ([] : List Value).toArray }, toks := s2.toks } : Shared) = s3 at *
  obtain ⟨hg, ht, he⟩ := hb fp s3 (upd H2 s2.heap.objs.size (.lst []))
  have st4 : tn 0 h4 := T.keep _ _ _ st2 fun b hb o e => kp4 b o (Heap.get?_push_of_some _ e)
  have stat : ∀ {H' : Hp}, (∀ b ∈ fp, H' b = none) → ∀ b ∈ fp, FpOk (blk X N' scope fp s3 (upd H2 s2.heap.objs.size (.lst []))) [] H' b := fun {H'} hn b hb => by
    obtain ⟨f0, f1, f3, f4, f5, f6⟩ := hf3 b hb
    obtain ⟨g1, g2⟩ := I4.ok.exf b hb
    exact ⟨hn b hb, g1, I4.ok.exfs b hb, .inl hb, g2, fun p hp => f6 p ((List.mem_append.mp hp).elim (fun z => List.mem_append_left _ z) fun z => absurd z (by simp))⟩
  have loop : codeAny (model X.prog X.w) X.A (.compLoop (.ListComp elt [⟨tg, iter, ifs, 0⟩] scope pos) 0 (.ref it) (.ref s2.heap.objs.size) (compEnvC scope (clOf X.env scope.names []) s3.heap.objs.size X.env))
      (compPost (model X.prog X.w) X.A X.xe none (EP X pins σ Q) (.ref s2.heap.objs.size) s3.heap.objs.size) { s3 with heap := h4, toks := s2.toks + ([] : List (Str × Value)).length } := by
    refine blk_loop (X := blk X N' scope fp s3 (upd H2 s2.heap.objs.size (.lst []))) (D := s2.heap.objs.size) (Q := Q) (W := W) (m0 := m0) rfl hc T stat hg ht he turn I4 st4 (fun b hb => (hf3 b hb).1) w0 ?_
    intro H' s' I' q
    obtain ⟨m, hn, _⟩ := I'.loc
    refine ⟨m, hn, fun h'' hs'' => ?_⟩
    have hC : s3.heap.get? s3.heap.objs.size = none := by
      cases e : s3.heap.get? s3.heap.objs.size with
      | none => rfl
      | some o => exact absurd (Heap.lt_size e) (Nat.lt_irrefl _)
    have u : Un (frs X.stack) fp (upd H2 s2.heap.objs.size (.lst [])) H' s3.heap h'' := Un.tail I'.base (fun b o hb e => hs''.extBut b o hb e) hC
    refine ⟨.ref s2.heap.objs.size, H', ?_, rfl, q⟩
    refine I3.call' (s' := { s' with heap := h'' }) (ch := fp) I'.os u (I'.hok.tail (fun b o hb e => hs''.extBut b o hb e) I'.free) I'.bare fun b hb => ?_
    obtain ⟨f0, f1, f3, f4, f5, f6⟩ := hf3 b hb
    exact ⟨f4, f1, f5, f6⟩
  subst hs3
  exact codeAny_compStart_list loop (T.self X.A 0 _ _ _ st4 loop)
end
end L2

namespace L2
open PySem PySem.Spec PyProof.Rows

/-! ### the signs of a text, walked -/
noncomputable def Its (z : Str) : It := ⟨fun i _ => i < z.cps.size, fun i H x H' => H' = H ∧ ∃ c, z.cps[i]? = some c ∧ x = .str ⟨#[c]⟩, fun i _ => z.cps.size ≤ i⟩
section
variable {X : Cx} {tg : Expr}
noncomputable def iStr (tl : TE) : TI := fun σ H R => tl σ H fun x H1 => ∃ z, x = .str z ∧ R (Its z) H1
end

/-! ### a part of a text -/
section
variable {X : Cx}
noncomputable def rSlS : V → Option Int → Option Int → Hp → VK → Prop := fun x lo hi H Q => ∃ z, x = .str z ∧ z.length ≤ sizeLine ∧ Q (.str (Txt.slice z lo hi)) H

/-! ### all of a list of truths -/
noncomputable def rAll (K : PySem.W.Frag) : List V → Hp → VK → Prop := fun xs H Q => ∃ (a : Addr) (bs : List Bool), xs = [.ref a] ∧ SqL K H a (bs.map V.bl) ∧ Q (.bl (bs.all id)) H

/-! ### isinstance -/
noncomputable def rIsi (K : PySem.W.Frag) : List V → Hp → VK → Prop := fun xs H Q => ∃ x n t b, xs = [x, .ty n] ∧ TyOf K H x t ∧ PySem.W.kitOne K t (.type n) = some b ∧ Q (.bl b) H
theorem call_isi : CallR X (.builtin "isinstance") (rIsi X.K) := by
  intro pins s σ H xs us Q I r h
  obtain ⟨x, n, t, b, rfl, ty, e, q⟩ := h
  obtain ⟨u, u2, rfl, ru, ru2⟩ := vals2 r
  cases ru2
  exact isinst_ok I ru ty e fun tk => ⟨.bl b, H, I.tok tk, rfl, q⟩

/-! ### list + list, lists that are read -/
noncomputable def rCatS (K : PySem.W.Frag) : R2 := fun x y H Q => ∃ l b xs zs, x = .ref l ∧ y = .ref b ∧ SqL K H l xs ∧ SqL K H b zs ∧ xs.length + zs.length ≤ sizeLine ∧ ∀ p, H p = none → Q (.ref p) (upd H p (.lst (xs ++ zs)))
theorem op_catS : OpR X (binaryOp .Add) (rCatS X.K) := by
  intro pins s σ H x y v u Q I rx ry h
  obtain ⟨l, b, xs, zs, rfl, rfl, hH, hB, hz, q⟩ := h
  cases rx
  cases ry
  obtain ⟨vs, r, p, z⟩ := I.list hH
  obtain ⟨ws, r2, p2, z2⟩ := I.list hB
  have l1 := r.length
  have l2 := r2.length
  obtain ⟨⟨cls, dd, data, sl⟩, n, ho, hc, hdd, hd⟩ := p
  obtain ⟨⟨cls2, dd2, data2, sl2⟩, n2, ho2, hc2, hdd2, hd2⟩ := p2
  simp only at hc hd hc2 hd2
  subst hc hd hc2 hd2
  have e : vs.toArray ++ ws.toArray = (vs ++ ws).toArray := by simp
  refine concat_meets ⟨_, ho, rfl⟩ ⟨_, ho2, rfl⟩ noFill_list_add seq_list_add PySem.F.slot_list_add PySem.F.entry_list_add (PySem.F.args_list_add_2 _ _) (list_addW l b vs.toArray ws.toArray n n2 dd dd2 sl sl2 (by simp; omega)) ⟨ho, ho2, ?_⟩
  rw [e]
  exact ⟨.ref _, _, I.lnew (t' := s.toks) (r.append r2) (by rw [List.length_append]; omega), rfl, q _ I.fresh⟩
end
end L2

namespace L2
open PySem PySem.Spec PyProof.Rows
/-! ### a comprehension's scope, by lists -/
inductive Slots (X : Cx) (scope : Scope) : List Str → List Nat → Prop
  | nil : Slots X scope [] []
  | cons {x : Str} {j : Nat} {xs : List Str} {js : List Nat} (h1 : scope.names.lookup x = some .free) (h2 : X.env.kindOf x = some .cell ∨ X.env.kindOf x = some .free) (h3 : X.N[j]? = some x) (r : Slots X scope xs js) : Slots X scope (x :: xs) (j :: js)
theorem Slots.len {X : Cx} {scope : Scope} : ∀ {xs : List Str} {js : List Nat}, Slots X scope xs js → xs.length = js.length
  | _, _, .nil => rfl
  | _, _, .cons _ _ _ r => by simp [r.len]
theorem Slots.kind {X : Cx} {scope : Scope} : ∀ {xs : List Str} {js : List Nat}, Slots X scope xs js → ∀ x ∈ xs, X.env.kindOf x = some .cell ∨ X.env.kindOf x = some .free
  | _, _, .nil, x, h => absurd h (by simp)
  | _, _, .cons _ h2 _ r, x, h => by
    rcases List.mem_cons.mp h with e | e
    · subst e; exact h2
    · exact r.kind x e
theorem Slots.get {X : Cx} {scope : Scope} : ∀ {xs : List Str} {js : List Nat}, Slots X scope xs js → ∀ (i : Nat) (x : Str), xs[i]? = some x → scope.names.lookup x = some .free ∧ ∃ j, js[i]? = some j ∧ X.N[j]? = some x
  | _, _, .nil, i, x, h => by simp at h
  | _, _, .cons h1 _ h3 r, 0, x, h => by
    simp only [List.getElem?_cons_zero, Option.some.injEq] at h
    subst h
    exact ⟨h1, _, by simp, h3⟩
  | _, _, .cons _ _ _ r, i + 1, x, h => by simpa using r.get i x (by simpa using h)
theorem blk_mk {X : Cx} {own fr : List Str} {fm : List Nat} {scope : Scope} (kind : scope.kind = .function) (h1 : ∀ y ∈ scope.names, y.2 ≠ .cell) (h2 : ∀ y ∈ scope.names, y.2 = .local → scope.names.lookup y.1 = some .local)
    (h3 : ∀ y ∈ scope.names, y.2 = .free → y.1 ∈ fr) (S : Slots X scope fr fm) : BlkScope X (own ++ fr) own.length fm scope :=
  ⟨kind, h1, h2, fun y hy hk => S.kind y.1 (h3 y hy hk), by rw [List.length_append, S.len], fun i x hi h => by
    rw [List.getElem?_append_right hi] at h
    exact S.get _ x h⟩
section
variable {X : Cx}
/-! ### rules that serve several kinds at once -/
end
/-! ### a comprehension, by what its turns keep -/
theorem comp_list {K : PySem.W.Frag} {a : Addr} {xs : List V} {g : TG} {tt : TT} {te : TE} {σ0 : St} {H : Hp} {D : Addr} {Q : VK} (hz : xs.length < sizeLine) (Pv : Nat → List V → Hp → Prop) (h0 : Pv 0 [] (upd H D (.lst [])))
    (hl : ∀ i ys H, i ≤ xs.length → Pv i ys H → SqL K H a xs ∧ H D = some (.lst ys) ∧ ys.length ≤ i)
    (hs : ∀ i x ys H, xs[i]? = some x → Pv i ys H → g x σ0 H fun σ3 H4 => Ext σ0 σ3 ∧ tt σ3 H4 fun b H5 => if b = true then te σ3 H5 fun y H6 => H6 D = some (.lst ys) ∧ Pv (i + 1) (ys ++ [y]) (upd H6 D (.lst (ys ++ [y]))) else Pv (i + 1) ys H5)
    (hd : ∀ ys H, Pv xs.length ys H → Q (.ref D) H) :
    ∃ W : Nat → Nat → List V → Hp → Prop, (∃ m, W 0 m [] (upd H D (.lst []))) ∧ ∀ i m ys H2, W i m ys H2 → H2 D = some (.lst ys) ∧ ys.length < sizeLine ∧ (((Itl K a).stop i H2 ∧ Q (.ref D) H2) ∨ ((Itl K a).go i H2 ∧ ∃ N : List V → Hp → Prop, (∀ ys' H', N ys' H' → ∃ m', m' < m ∧ W (i + 1) m' ys' H') ∧ ∀ x H3, (Itl K a).yld i H2 x H3 →
      g x σ0 H3 fun σ3 H4 => Ext σ0 σ3 ∧ tt σ3 H4 fun b H5 => if b = true then te σ3 H5 fun y H6 => H6 D = some (.lst ys) ∧ N (ys ++ [y]) (upd H6 D (.lst (ys ++ [y]))) else N ys H5)) := by
  refine ⟨fun i m ys H => m = xs.length - i ∧ i ≤ xs.length ∧ Pv i ys H, ⟨xs.length, by simp, Nat.zero_le _, h0⟩, ?_⟩
  rintro i m ys H2 ⟨rfl, hi, p⟩
  obtain ⟨l0, l1, l2⟩ := hl i ys H2 hi p
  refine ⟨l1, by omega, ?_⟩
  by_cases hlt : i < xs.length
  · refine .inr ⟨⟨xs, xs[i], l0, by simp [hlt]⟩, Pv (i + 1), fun ys' H' p' => ⟨_, (by omega : xs.length - (i + 1) < xs.length - i), rfl, hlt, p'⟩, fun x H3 y => ?_⟩
    obtain ⟨e, y⟩ := y
    subst e
    exact hs i x ys _ (y xs l0) p
  · have e : i = xs.length := by omega
    subst e
    exact .inl ⟨⟨xs, l0, Nat.le_refl _⟩, hd ys H2 p⟩
/-! ### the same, with what is walked reckoned first -/
noncomputable def ForW (g : TG) (tb : TS) (D : Ends) (σ : St) (J : It) (H1 : Hp) : Prop := ∃ W : Nat → Nat → St → Hp → Prop, (∃ m, W 0 m σ H1) ∧ ∀ i m σ H, W i m σ H →
  (J.stop i H ∧ D.nx σ H) ∨ (J.go i H ∧ ∃ N : St → Hp → Prop, (∀ σ' H', N σ' H' → ∃ m', m' < m ∧ W (i + 1) m' σ' H') ∧ ∀ x H', J.yld i H x H' → g x σ H' fun σ2 H2 => tb { D with nx := N, ct := N, bk := D.nx } σ2 H2)
noncomputable def ForL (K : PySem.W.Frag) (g : TG) (tb : TS) (D : Ends) (σ : St) : VK := fun x H1 => ∃ a, x = .ref a ∧ (∃ xs, SqL K H1 a xs) ∧ ForW g tb D σ (Itl K a) H1
noncomputable def ForT (K : PySem.W.Frag) (g : TG) (tb : TS) (D : Ends) (σ : St) : VK := fun x H1 => ∃ a, x = .ref a ∧ (∃ xs, SqT K H1 a xs) ∧ ForW g tb D σ (Itt K a) H1
noncomputable def ForS (g : TG) (tb : TS) (D : Ends) (σ : St) : VK := fun x H1 => ∃ z, x = .str z ∧ ForW g tb D σ (Its z) H1
noncomputable def ForR (g : TG) (tb : TS) (D : Ends) (σ : St) : List V → Hp → Prop := fun vs H1 => ∃ j : Int, vs = [.int j] ∧ -(2 ^ 62) ≤ j ∧ j < 2 ^ 62 ∧ ForW g tb D σ (Itr 0 j.toNat) H1
noncomputable def ForR2 (g : TG) (tb : TS) (D : Ends) (σ : St) : List V → Hp → Prop := fun vs H1 => ∃ i j : Int, vs = [.int i, .int j] ∧ (-(2 ^ 62) ≤ i ∧ i < 2 ^ 62 ∧ -(2 ^ 62) ≤ j ∧ j < 2 ^ 62) ∧ ForW g tb D σ (Itr i (j - i).toNat) H1
section
variable {K : PySem.W.Frag} {te : TE} {ta : TA} {g : TG} {tb : TS} {D : Ends} {σ : St} {H : Hp}
theorem tFor_list : tFor (iList K te) g tb D σ H = te σ H (ForL K g tb D σ) := rfl
theorem tFor_tup : tFor (iTup K te) g tb D σ H = te σ H (ForT K g tb D σ) := rfl
theorem tFor_str : tFor (iStr te) g tb D σ H = te σ H (ForS g tb D σ) := rfl
theorem tFor_rng1 : tFor (iRng1 ta) g tb D σ H = ta σ H (ForR g tb D σ) := rfl
theorem tFor_rng2 : tFor (iRng2 ta) g tb D σ H = ta σ H (ForR2 g tb D σ) := rfl
theorem ForL.of {a : Addr} {xs : List V} (Pv : Nat → St → Hp → Prop) (h0 : Pv 0 σ H) (hl : ∀ i σ H, i ≤ xs.length → Pv i σ H → SqL K H a xs)
    (hs : ∀ i x σ H, xs[i]? = some x → Pv i σ H → g x σ H fun σ2 H2 => tb { D with nx := Pv (i + 1), ct := Pv (i + 1), bk := D.nx } σ2 H2) (hd : ∀ σ H, Pv xs.length σ H → D.nx σ H) : ForL K g tb D σ (.ref a) H :=
  ⟨a, rfl, ⟨xs, hl 0 _ _ (Nat.zero_le _) h0⟩, for_list Pv h0 hl hs hd⟩
theorem ForR.of {n : Int} (h1 : n < 2 ^ 62) (h2 : -(2 ^ 62) ≤ n) (Pv : Nat → St → Hp → Prop) (h0 : Pv 0 σ H)
    (hs : ∀ i σ H, i < n.toNat → Pv i σ H → g (.int (i : Int)) σ H fun σ2 H2 => tb { D with nx := Pv (i + 1), ct := Pv (i + 1), bk := D.nx } σ2 H2) (hd : ∀ σ H, Pv n.toNat σ H → D.nx σ H) : ForR g tb D σ [.int n] H :=
  ⟨n, rfl, h2, h1, for_range (n := n.toNat) Pv h0 (fun i σ H hi p => by
    have e : (0 : Int) + (i : Int) = i := by omega
    rw [e]; exact hs i σ H hi p) hd⟩
end
noncomputable def CompW (g : TG) (tt : TT) (te : TE) (σ0 : St) (Q : VK) (J : It) (H1 : Hp) : Prop := ∀ DD, H1 DD = none → ∃ W : Nat → Nat → List V → Hp → Prop,
  (∃ m, W 0 m [] (upd H1 DD (.lst []))) ∧ ∀ i m ys H2, W i m ys H2 → H2 DD = some (.lst ys) ∧ ys.length < sizeLine ∧ ((J.stop i H2 ∧ Q (.ref DD) H2) ∨ (J.go i H2 ∧ ∃ N : List V → Hp → Prop, (∀ ys' H', N ys' H' → ∃ m', m' < m ∧ W (i + 1) m' ys' H') ∧ ∀ x H3, J.yld i H2 x H3 →
    g x σ0 H3 fun σ3 H4 => Ext σ0 σ3 ∧ tt σ3 H4 fun b H5 => if b = true then te σ3 H5 fun y H6 => H6 DD = some (.lst ys) ∧ N (ys ++ [y]) (upd H6 DD (.lst (ys ++ [y]))) else N ys H5))
noncomputable def CompL (K : PySem.W.Frag) (g : TG) (tt : TT) (te : TE) (σ0 : St) (Q : VK) : VK := fun x H1 => ∃ a, x = .ref a ∧ (∃ xs, SqL K H1 a xs) ∧ CompW g tt te σ0 Q (Itl K a) H1
noncomputable def CompT (K : PySem.W.Frag) (g : TG) (tt : TT) (te : TE) (σ0 : St) (Q : VK) : VK := fun x H1 => ∃ a, x = .ref a ∧ (∃ xs, SqT K H1 a xs) ∧ CompW g tt te σ0 Q (Itt K a) H1
noncomputable def CompS (g : TG) (tt : TT) (te : TE) (σ0 : St) (Q : VK) : VK := fun x H1 => ∃ z, x = .str z ∧ CompW g tt te σ0 Q (Its z) H1
noncomputable def CompR (g : TG) (tt : TT) (te : TE) (σ0 : St) (Q : VK) : List V → Hp → Prop := fun vs H1 => ∃ j : Int, vs = [.int j] ∧ -(2 ^ 62) ≤ j ∧ j < 2 ^ 62 ∧ CompW g tt te σ0 Q (Itr 0 j.toNat) H1
section
variable {K : PySem.W.Frag} {k : Nat} {fm : List Nat} {tl te : TE} {ta : TA} {g : TG} {tt : TT} {σ σ0 : St} {H H1 : Hp} {Q : VK}
theorem tComp_list : tComp k fm (iList K tl) g tt te σ H Q = tl σ H (CompL K g tt te (blkSt k fm σ) Q) := rfl
theorem tComp_tup : tComp k fm (iTup K tl) g tt te σ H Q = tl σ H (CompT K g tt te (blkSt k fm σ) Q) := rfl
theorem tComp_str : tComp k fm (iStr tl) g tt te σ H Q = tl σ H (CompS g tt te (blkSt k fm σ) Q) := rfl
theorem tComp_rng1 : tComp k fm (iRng1 ta) g tt te σ H Q = ta σ H (CompR g tt te (blkSt k fm σ) Q) := rfl
theorem CompL.of {a : Addr} {xs : List V} (hz : xs.length < sizeLine) (hx : SqL K H1 a xs) (Pv : Addr → Nat → List V → Hp → Prop) (h0 : ∀ D, H1 D = none → Pv D 0 [] (upd H1 D (.lst [])))
    (hl : ∀ D i ys H', H1 D = none → i ≤ xs.length → Pv D i ys H' → SqL K H' a xs ∧ H' D = some (.lst ys) ∧ ys.length ≤ i)
    (hs : ∀ D i x ys H', H1 D = none → xs[i]? = some x → Pv D i ys H' → g x σ0 H' fun σ3 H4 => Ext σ0 σ3 ∧ tt σ3 H4 fun b H5 => if b = true then te σ3 H5 fun y H6 => H6 D = some (.lst ys) ∧ Pv D (i + 1) (ys ++ [y]) (upd H6 D (.lst (ys ++ [y]))) else Pv D (i + 1) ys H5)
    (hd : ∀ D ys H', H1 D = none → Pv D xs.length ys H' → Q (.ref D) H') : CompL K g tt te σ0 Q (.ref a) H1 :=
  ⟨a, rfl, ⟨xs, hx⟩, fun D hD => comp_list hz (Pv D) (h0 D hD) (fun i ys H' => hl D i ys H' hD) (fun i x ys H' => hs D i x ys H' hD) fun ys H' => hd D ys H' hD⟩
end
end L2

namespace L2
open PySem PySem.Spec PyProof.Rows
/-! ### plain data, as trees -/
inductive D where
  | non | bl (b : Bool) | int (i : Int) | str (z : Str) | lst (xs : List D) | tup (xs : List D)
mutual
noncomputable def Rep (K : PySem.W.Frag) (H : Hp) : D → V → Prop
  | .non, v => v = .non
  | .bl b, v => v = .bl b
  | .int i, v => v = .int i
  | .str z, v => v = .str z
  | .lst ds, v => ∃ a xs, v = .ref a ∧ SqL K H a xs ∧ RepL K H ds xs
  | .tup ds, v => ∃ a xs, v = .ref a ∧ SqT K H a xs ∧ RepL K H ds xs
noncomputable def RepL (K : PySem.W.Frag) (H : Hp) : List D → List V → Prop
  | [], xs => xs = []
  | d :: ds, xs => ∃ y ys, xs = y :: ys ∧ Rep K H d y ∧ RepL K H ds ys
end
mutual
noncomputable def deq : D → D → Bool
  | .non, .non => true
  | .bl a, .bl b => a == b
  | .bl a, .int b => (if a then 1 else 0) == b
  | .int a, .bl b => a == (if b then 1 else 0)
  | .int a, .int b => a == b
  | .str a, .str b => a == b
  | .lst a, .lst b => deqL a b
  | .tup a, .tup b => deqL a b
  | _, _ => false
noncomputable def deqL : List D → List D → Bool
  | [], [] => true
  | a :: as, b :: bs => deq a b && deqL as bs
  | _, _ => false
end
mutual
noncomputable def dep : D → Nat
  | .lst ds => depL ds + 1
  | .tup ds => depL ds + 1
  | _ => 0
noncomputable def depL : List D → Nat
  | [] => 0
  | d :: ds => max (dep d) (depL ds)
end
mutual
theorem deq_refl : ∀ d : D, deq d d = true
  | .non => rfl
  | .bl a => by simp [deq]
  | .int a => by simp [deq]
  | .str a => by simp [deq]
  | .lst a => by simp only [deq]; exact deqL_refl a
  | .tup a => by simp only [deq]; exact deqL_refl a
theorem deqL_refl : ∀ ds : List D, deqL ds ds = true
  | [] => rfl
  | d :: ds => by simp only [deqL, deq_refl d, deqL_refl ds, Bool.and_self]
end
theorem RepL.len {K : PySem.W.Frag} {H : Hp} : ∀ {ds : List D} {xs : List V}, RepL K H ds xs → ds.length = xs.length
  | [], xs, h => by simp only [RepL] at h; subst h; rfl
  | d :: ds, xs, h => by
    simp only [RepL] at h
    obtain ⟨y, ys, rfl, _, r⟩ := h
    simp [r.len]
noncomputable def eAt (ds es : List D) (j : Nat) : Bool := match ds[j]?, es[j]? with
  | some d, some e => deq d e
  | _, _ => true
theorem eAt_all : ∀ (ds es : List D), ((List.range (min ds.length es.length)).all (eAt ds es) && ds.length == es.length) = deqL ds es
  | [], [] => by simp [deqL]
  | [], e :: es => by simp [deqL]
  | d :: ds, [] => by simp [deqL]
  | d :: ds, e :: es => by
    have ih := eAt_all ds es
    have h1 : min (d :: ds).length (e :: es).length = min ds.length es.length + 1 := by simp only [List.length_cons]; omega
    rw [h1, List.range_succ_eq_map, List.all_cons, List.all_map]
    have h2 : (eAt (d :: ds) (e :: es) ∘ Nat.succ) = eAt ds es := by funext j; simp [eAt]
    have h3 : eAt (d :: ds) (e :: es) 0 = deq d e := by simp [eAt]
    rw [h2, h3]
    simp only [deqL, ← ih, List.length_cons, Bool.and_assoc]
    congr 2
    simp
section
variable {X : Cx} {pins : List (Addr × Obj)} {σ : St} {H : Hp} {s : Shared}
mutual
theorem rep_inj (I : Inv X pins σ H s) : ∀ (d e : D) (x : V), Rep X.K H d x → Rep X.K H e x → d = e
  | d, e, x, hd, he => by
    cases d with
    | non =>
      simp only [Rep] at hd; subst hd
      cases e <;> simp only [Rep] at he <;> first | rfl | (obtain ⟨a, xs, z, _⟩ := he; cases z; done) | (cases he; done)
    | bl b =>
      simp only [Rep] at hd; subst hd
      cases e <;> simp only [Rep] at he <;> first | (obtain ⟨a, xs, z, _⟩ := he; cases z; done) | (cases he; rfl) | (cases he; done)
    | int b =>
      simp only [Rep] at hd; subst hd
      cases e <;> simp only [Rep] at he <;> first | (obtain ⟨a, xs, z, _⟩ := he; cases z; done) | (cases he; rfl) | (cases he; done)
    | str b =>
      simp only [Rep] at hd; subst hd
      cases e <;> simp only [Rep] at he <;> first | (obtain ⟨a, xs, z, _⟩ := he; cases z; done) | (cases he; rfl) | (cases he; done)
    | lst ds =>
      simp only [Rep] at hd
      obtain ⟨a, xs, rfl, hx, r⟩ := hd
      cases e with
      | lst es =>
        simp only [Rep] at he
        obtain ⟨a', xs', z, hx', r'⟩ := he
        cases z
        have := I.list_inj hx hx'
        subst this
        rw [repL_inj I ds es xs r r']
      | tup es =>
        simp only [Rep] at he
        obtain ⟨a', xs', z, hx', r'⟩ := he
        cases z
        exfalso
        obtain ⟨_, _, p, _⟩ := I.list hx
        obtain ⟨_, _, q, _⟩ := I.tuple hx'
        obtain ⟨o, n, e1, e2, _⟩ := p
        obtain ⟨o', e1', e2', _⟩ := q
        rw [e1] at e1'; cases e1'
        rw [e2] at e2'; exact absurd e2' (by decide)
      | _ => simp only [Rep] at he; cases he
    | tup ds =>
      simp only [Rep] at hd
      obtain ⟨a, xs, rfl, hx, r⟩ := hd
      cases e with
      | tup es =>
        simp only [Rep] at he
        obtain ⟨a', xs', z, hx', r'⟩ := he
        cases z
        have := I.tuple_inj hx hx'
        subst this
        rw [repL_inj I ds es xs r r']
      | lst es =>
        simp only [Rep] at he
        obtain ⟨a', xs', z, hx', r'⟩ := he
        cases z
        exfalso
        obtain ⟨_, _, p, _⟩ := I.list hx'
        obtain ⟨_, _, q, _⟩ := I.tuple hx
        obtain ⟨o, n, e1, e2, _⟩ := p
        obtain ⟨o', e1', e2', _⟩ := q
        rw [e1] at e1'; cases e1'
        rw [e2] at e2'; exact absurd e2' (by decide)
      | _ => simp only [Rep] at he; cases he
theorem repL_inj (I : Inv X pins σ H s) : ∀ (ds es : List D) (xs : List V), RepL X.K H ds xs → RepL X.K H es xs → ds = es
  | [], es, xs, hd, he => by
    simp only [RepL] at hd
    subst hd
    cases es with
    | nil => rfl
    | cons e es => simp only [RepL] at he; obtain ⟨y, ys, z, _⟩ := he; cases z
  | d :: ds, es, xs, hd, he => by
    simp only [RepL] at hd
    obtain ⟨y, ys, rfl, r, rs⟩ := hd
    cases es with
    | nil => simp only [RepL] at he; cases he
    | cons e es =>
      simp only [RepL] at he
      obtain ⟨y', ys', z, r', rs'⟩ := he
      cases z
      rw [rep_inj I d e y r r', repL_inj I ds es ys rs rs']
end
theorem isTuple_of {h : Heap} {a : Addr} {its : Array Value} (p : IsTup h a its) : h.IsTuple a its := by
  obtain ⟨o, e, c, n, d⟩ := p
  exact ⟨o, e, c, n, d⟩
mutual
theorem eq_deep (I : Inv X pins σ H s) : ∀ (d e : D) (x y : V) (u v : Value) (A : Around), A.units + dep d < cLine → Rep X.K H d x → Rep X.K H e y → RelV x u → RelV y v → SeqAt.EqAt A s u v (deq d e)
  | .non, e, x, y, u, v, A, hu, hd, he, rx, ry => by
    have hu : A.units < cLine := by omega
    simp only [Rep] at hd; subst hd; cases rx
    cases e <;> simp only [Rep] at he
    · subst he; cases ry; exact SeqAt.EqAt.same _
    · subst he; cases ry; exact SeqAt.EqAt.none_bool _
    · subst he; obtain ⟨t, rfl⟩ := ry; exact SeqAt.EqAt.none_int _ _
    · subst he; obtain ⟨t, rfl⟩ := ry; exact SeqAt.EqAt.none_str _ _
    · obtain ⟨a, xs, rfl, hx, _⟩ := he; cases ry; obtain ⟨_, _, p, _⟩ := I.list hx; exact SeqAt.EqAt.none_list p.isList hu
    · obtain ⟨a, xs, rfl, hx, _⟩ := he; cases ry; obtain ⟨_, _, p, _⟩ := I.tuple hx; exact SeqAt.EqAt.none_tuple (isTuple_of p) hu
  | .bl b, e, x, y, u, v, A, hu, hd, he, rx, ry => by
    have hu : A.units < cLine := by omega
    simp only [Rep] at hd; subst hd; cases rx
    cases e <;> simp only [Rep] at he
    · subst he; cases ry; exact SeqAt.EqAt.bool_none _
    · subst he; cases ry; exact SeqAt.EqAt.bool_bool _ _
    · subst he; obtain ⟨t, rfl⟩ := ry; exact SeqAt.EqAt.bool_int _ _ _
    · subst he; obtain ⟨t, rfl⟩ := ry; exact SeqAt.EqAt.bool_str _ _ _
    · obtain ⟨a, xs, rfl, hx, _⟩ := he; cases ry; obtain ⟨_, _, p, _⟩ := I.list hx; exact SeqAt.EqAt.bool_list _ p.isList hu
    · obtain ⟨a, xs, rfl, hx, _⟩ := he; cases ry; obtain ⟨_, _, p, _⟩ := I.tuple hx; exact SeqAt.EqAt.bool_tuple _ (isTuple_of p) hu
  | .int b, e, x, y, u, v, A, hu, hd, he, rx, ry => by
    have hu : A.units < cLine := by omega
    simp only [Rep] at hd; subst hd; obtain ⟨t0, rfl⟩ := rx
    cases e <;> simp only [Rep] at he
    · subst he; cases ry; exact SeqAt.EqAt.int_none _ _
    · subst he; cases ry; exact SeqAt.EqAt.int_bool _ _ _
    · subst he; obtain ⟨t, rfl⟩ := ry; exact SeqAt.EqAt.int_int _ _ _ _
    · subst he; obtain ⟨t, rfl⟩ := ry; exact SeqAt.EqAt.int_str _ _ _ _
    · obtain ⟨a, xs, rfl, hx, _⟩ := he; cases ry; obtain ⟨_, _, p, _⟩ := I.list hx; exact SeqAt.EqAt.int_list _ _ p.isList hu
    · obtain ⟨a, xs, rfl, hx, _⟩ := he; cases ry; obtain ⟨_, _, p, _⟩ := I.tuple hx; exact SeqAt.EqAt.int_tuple _ _ (isTuple_of p) hu
  | .str b, e, x, y, u, v, A, hu, hd, he, rx, ry => by
    have hu : A.units < cLine := by omega
    simp only [Rep] at hd; subst hd; obtain ⟨t0, rfl⟩ := rx
    cases e <;> simp only [Rep] at he
    · subst he; cases ry; exact SeqAt.EqAt.str_none _ _
    · subst he; cases ry; exact SeqAt.EqAt.str_bool _ _ _
    · subst he; obtain ⟨t, rfl⟩ := ry; exact SeqAt.EqAt.str_int _ _ _ _
    · subst he; obtain ⟨t, rfl⟩ := ry; exact SeqAt.EqAt.str_str _ _ _ _
    · obtain ⟨a, xs, rfl, hx, _⟩ := he; cases ry; obtain ⟨_, _, p, _⟩ := I.list hx; exact SeqAt.EqAt.str_list _ _ p.isList hu
    · obtain ⟨a, xs, rfl, hx, _⟩ := he; cases ry; obtain ⟨_, _, p, _⟩ := I.tuple hx; exact SeqAt.EqAt.str_tuple _ _ (isTuple_of p) hu
  | .lst ds, e, x, y, u, v, A, hu, hd, he, rx, ry => by
    have hu0 : A.units < cLine := by omega
    simp only [dep] at hu
    simp only [Rep] at hd; obtain ⟨a, xs, rfl, hx, r⟩ := hd; cases rx
    obtain ⟨its, rv, p, hz⟩ := I.list hx
    cases e <;> simp only [Rep] at he
    · subst he; cases ry; exact SeqAt.EqAt.list_none p.isList hu0
    · subst he; cases ry; exact SeqAt.EqAt.list_bool _ p.isList hu0
    · subst he; obtain ⟨t, rfl⟩ := ry; exact SeqAt.EqAt.list_int _ _ p.isList hu0
    · subst he; obtain ⟨t, rfl⟩ := ry; exact SeqAt.EqAt.list_str _ _ p.isList hu0
    · rename_i es
      obtain ⟨b, ys, rfl, hy, r'⟩ := he; cases ry
      obtain ⟨its', rv', p', hz'⟩ := I.list hy
      by_cases hab : a = b
      · subst hab
        have := I.list_inj hx hy
        subst this
        rw [repL_inj I ds es xs r r', deq_refl]
        exact SeqAt.EqAt.same _
      · have l1 := r.len
        have l2 := rv.length
        have l3 := r'.len
        have l4 := rv'.length
        have key := eAt_all ds es
        simp only [deq]
        rw [← key]
        by_cases hl : its.length = its'.length
        · have := SeqAt.EqAt.of_refs hab (SeqAt.RcAt.lists (e := eAt ds es) p.isList p'.isList (by simpa using hl) hu0 (fun j h1 h2 => by
            have q := eq_deepL I ds es xs ys its its' A.in1 (by show A.units + 1 + depL ds < cLine; omega) r r' rv rv' j (by simpa using h1) (by simpa using h2)
            simpa using q))
          have e1 : its.toArray.size = min ds.length es.length := by rw [List.size_toArray]; omega
          rw [e1] at this
          have e2 : (ds.length == es.length) = true := by simp; omega
          rw [e2, Bool.and_true]
          exact this
        · have e2 : (ds.length == es.length) = false := by simp; omega
          rw [e2, Bool.and_false]
          exact SeqAt.EqAt.of_refs hab (SeqAt.RcAt.lists_lengths p.isList p'.isList (by simpa using hl) hu0)
    · obtain ⟨b, ys, rfl, hy, r'⟩ := he; cases ry
      obtain ⟨_, _, q, _⟩ := I.tuple hy
      exact SeqAt.EqAt.list_tuple p.isList (isTuple_of q) hu0
  | .tup ds, e, x, y, u, v, A, hu, hd, he, rx, ry => by
    have hu0 : A.units < cLine := by omega
    simp only [dep] at hu
    simp only [Rep] at hd; obtain ⟨a, xs, rfl, hx, r⟩ := hd; cases rx
    obtain ⟨its, rv, p, hz⟩ := I.tuple hx
    cases e <;> simp only [Rep] at he
    · subst he; cases ry; exact SeqAt.EqAt.tuple_none (isTuple_of p) hu0
    · subst he; cases ry; exact SeqAt.EqAt.tuple_bool _ (isTuple_of p) hu0
    · subst he; obtain ⟨t, rfl⟩ := ry; exact SeqAt.EqAt.tuple_int _ _ (isTuple_of p) hu0
    · subst he; obtain ⟨t, rfl⟩ := ry; exact SeqAt.EqAt.tuple_str _ _ (isTuple_of p) hu0
    · obtain ⟨b, ys, rfl, hy, r'⟩ := he; cases ry
      obtain ⟨_, _, q, _⟩ := I.list hy
      exact SeqAt.EqAt.tuple_list (isTuple_of p) q.isList hu0
    · rename_i es
      obtain ⟨b, ys, rfl, hy, r'⟩ := he; cases ry
      obtain ⟨its', rv', p', hz'⟩ := I.tuple hy
      by_cases hab : a = b
      · subst hab
        have := I.tuple_inj hx hy
        subst this
        rw [repL_inj I ds es xs r r', deq_refl]
        exact SeqAt.EqAt.same _
      · have l1 := r.len
        have l2 := rv.length
        have l3 := r'.len
        have l4 := rv'.length
        have key := eAt_all ds es
        simp only [deq]
        rw [← key]
        have := SeqAt.EqAt.of_refs hab (SeqAt.RcAt.tuples (e := eAt ds es) (isTuple_of p) (isTuple_of p') hu0 (fun j h1 h2 => by
            have q := eq_deepL I ds es xs ys its its' A.in1 (by show A.units + 1 + depL ds < cLine; omega) r r' rv rv' j (by simpa using h1) (by simpa using h2)
            simpa using q))
        have e1 : its.toArray.size = ds.length := by rw [List.size_toArray]; omega
        have e2 : its'.toArray.size = es.length := by rw [List.size_toArray]; omega
        rw [e1, e2] at this
        exact this
theorem eq_deepL (I : Inv X pins σ H s) : ∀ (ds es : List D) (xs ys : List V) (us vs : List Value) (A : Around), A.units + depL ds < cLine → RepL X.K H ds xs → RepL X.K H es ys → Vals xs us → Vals ys vs →
    ∀ (j : Nat) (h1 : j < us.length) (h2 : j < vs.length), SeqAt.EqAt A s us[j] vs[j] (eAt ds es j)
  | [], es, xs, ys, us, vs, A, hu, hd, he, rx, ry, j, h1, h2 => by
    simp only [RepL] at hd
    subst hd
    cases rx
    exact absurd h1 (by simp)
  | d :: ds, es, xs, ys, us, vs, A, hu, hd, he, rx, ry, j, h1, h2 => by
    simp only [depL] at hu
    simp only [RepL] at hd
    obtain ⟨x, xs', rfl, rd, rds⟩ := hd
    cases rx with
    | cons r0 rr =>
      cases es with
      | nil =>
        simp only [RepL] at he
        subst he
        cases ry
        exact absurd h2 (by simp)
      | cons e es =>
        simp only [RepL] at he
        obtain ⟨y, ys', rfl, re, res⟩ := he
        cases ry with
        | cons q0 qr =>
          cases j with
          | zero =>
            have : eAt (d :: ds) (e :: es) 0 = deq d e := by simp [eAt]
            rw [this]
            exact eq_deep I d e x y _ _ A (by omega) rd re r0 q0
          | succ j =>
            have : eAt (d :: ds) (e :: es) (j + 1) = eAt ds es j := by simp [eAt]
            rw [this]
            exact eq_deepL I ds es xs' ys' _ _ A (by omega) rds res rr qr j (by simpa using h1) (by simpa using h2)
end
noncomputable def rEqD (K : PySem.W.Frag) : R2 := fun x y H Q => ∃ ds es, ((Rep K H (.lst ds) x ∧ Rep K H (.lst es) y) ∨ (Rep K H (.tup ds) x ∧ Rep K H (.tup es) y)) ∧ depL ds ≤ 20 ∧ Q (.bl (deqL ds es)) H
theorem op_eqD (hu : X.A.units + 64 < cLine) : OpR X (compareOp .Eq) (rEqD X.K) := by
  intro pins s σ H x y v u Q I rx ry h
  obtain ⟨ds, es, h, hdep, q⟩ := h
  have hu0 : X.A.units < cLine := by omega
  have hin : X.A.in1.units + depL ds < cLine := by show X.A.units + 1 + depL ds < cLine; omega
  have key := eAt_all ds es
  rcases h with ⟨h1, h2⟩ | ⟨h1, h2⟩
  · simp only [Rep] at h1 h2
    obtain ⟨a, xs, rfl, hx, r⟩ := h1
    obtain ⟨b, ys, rfl, hy, r'⟩ := h2
    cases rx
    cases ry
    obtain ⟨its, rv, p, hz⟩ := I.list hx
    obtain ⟨its', rv', p', hz'⟩ := I.list hy
    have l1 := r.len
    have l2 := rv.length
    have l3 := r'.len
    have l4 := rv'.length
    by_cases hl : its.length = its'.length
    · refine SeqAt.eq_listAt (e := eAt ds es) p.isList p'.isList (by simpa using hl) hu0 (fun j h1 h2 => ?_) ?_
      · have q := eq_deepL I ds es xs ys its its' X.A.in1 hin r r' rv rv' j (by simpa using h1) (by simpa using h2)
        simpa using q
      · have e1 : its.toArray.size = min ds.length es.length := by rw [List.size_toArray]; omega
        have e2 : (ds.length == es.length) = true := by simp; omega
        rw [e2, Bool.and_true] at key
        rw [e1, key]
        exact ⟨.bl (deqL ds es), H, I, rfl, q⟩
    · have e2 : (ds.length == es.length) = false := by simp; omega
      rw [e2, Bool.and_false] at key
      rw [← key] at q
      exact SeqAt.eq_list_lengthsAt p.isList p'.isList (by simpa using hl) hu0 ⟨.bl false, H, I, rfl, q⟩
  · simp only [Rep] at h1 h2
    obtain ⟨a, xs, rfl, hx, r⟩ := h1
    obtain ⟨b, ys, rfl, hy, r'⟩ := h2
    cases rx
    cases ry
    obtain ⟨its, rv, p, hz⟩ := I.tuple hx
    obtain ⟨its', rv', p', hz'⟩ := I.tuple hy
    have l1 := r.len
    have l2 := rv.length
    have l3 := r'.len
    have l4 := rv'.length
    refine SeqAt.eq_tupleAt (e := eAt ds es) (isTuple_of p) (isTuple_of p') hu0 (fun j h1 h2 => ?_) ?_
    · have q := eq_deepL I ds es xs ys its its' X.A.in1 hin r r' rv rv' j (by simpa using h1) (by simpa using h2)
      simpa using q
    · have e1 : its.toArray.size = ds.length := by rw [List.size_toArray]; omega
      have e2 : its'.toArray.size = es.length := by rw [List.size_toArray]; omega
      rw [e1, e2, key]
      exact ⟨.bl (deqL ds es), H, I, rfl, q⟩
noncomputable def rNeD (K : PySem.W.Frag) : R2 := fun x y H Q => ∃ ds es, ((Rep K H (.lst ds) x ∧ Rep K H (.lst es) y) ∨ (Rep K H (.tup ds) x ∧ Rep K H (.tup es) y)) ∧ depL ds ≤ 20 ∧ Q (.bl (!deqL ds es)) H
theorem op_neD (hu : X.A.units + 64 < cLine) : OpR X (compareOp .NotEq) (rNeD X.K) := by
  intro pins s σ H x y v u Q I rx ry h
  obtain ⟨ds, es, h, hdep, q⟩ := h
  have hu0 : X.A.units < cLine := by omega
  have hin : X.A.in1.units + depL ds < cLine := by show X.A.units + 1 + depL ds < cLine; omega
  have key := eAt_all ds es
  rcases h with ⟨h1, h2⟩ | ⟨h1, h2⟩
  · simp only [Rep] at h1 h2
    obtain ⟨a, xs, rfl, hx, r⟩ := h1
    obtain ⟨b, ys, rfl, hy, r'⟩ := h2
    cases rx
    cases ry
    obtain ⟨its, rv, p, hz⟩ := I.list hx
    obtain ⟨its', rv', p', hz'⟩ := I.list hy
    have l1 := r.len
    have l2 := rv.length
    have l3 := r'.len
    have l4 := rv'.length
    by_cases hl : its.length = its'.length
    · refine SeqAt.RcNeAt.lists (e := eAt ds es) p.isList p'.isList (by simpa using hl) hu0 (fun j h1 h2 => ?_) X.prog X.w X.xe _ ?_
      · have q := eq_deepL I ds es xs ys its its' X.A.in1 hin r r' rv rv' j (by simpa using h1) (by simpa using h2)
        simpa using q
      · have e1 : its.toArray.size = min ds.length es.length := by rw [List.size_toArray]; omega
        have e2 : (ds.length == es.length) = true := by simp; omega
        rw [e2, Bool.and_true] at key
        rw [e1, key]
        exact ⟨.bl (!deqL ds es), H, I, rfl, q⟩
    · have e2 : (ds.length == es.length) = false := by simp; omega
      rw [e2, Bool.and_false] at key
      rw [← key] at q
      exact SeqAt.RcNeAt.lists_lengths p.isList p'.isList (by simpa using hl) hu0 X.prog X.w X.xe _ ⟨.bl true, H, I, rfl, q⟩
  · simp only [Rep] at h1 h2
    obtain ⟨a, xs, rfl, hx, r⟩ := h1
    obtain ⟨b, ys, rfl, hy, r'⟩ := h2
    cases rx
    cases ry
    obtain ⟨its, rv, p, hz⟩ := I.tuple hx
    obtain ⟨its', rv', p', hz'⟩ := I.tuple hy
    have l1 := r.len
    have l2 := rv.length
    have l3 := r'.len
    have l4 := rv'.length
    refine SeqAt.RcNeAt.tuples (e := eAt ds es) (isTuple_of p) (isTuple_of p') hu0 (fun j h1 h2 => ?_) X.prog X.w X.xe _ ?_
    · have q := eq_deepL I ds es xs ys its its' X.A.in1 hin r r' rv rv' j (by simpa using h1) (by simpa using h2)
      simpa using q
    · have e1 : its.toArray.size = ds.length := by rw [List.size_toArray]; omega
      have e2 : its'.toArray.size = es.length := by rw [List.size_toArray]; omega
      rw [e1, e2, key]
      exact ⟨.bl (!deqL ds es), H, I, rfl, q⟩
theorem RepL.ints {K : PySem.W.Frag} {H : Hp} : ∀ ns : List Int, RepL K H (ns.map D.int) (ns.map V.int)
  | [] => by simp only [List.map_nil, RepL]
  | n :: ns => by simp only [List.map_cons, RepL]; exact ⟨_, _, rfl, by simp only [Rep], RepL.ints ns⟩
end
/-! ### the same rules with the written part named -/
section
variable {X : Cx} {K : PySem.W.Frag}
theorem ix_listK (e : X.K = K) : IxR X (rIxL K) := e ▸ ix_list
theorem ix_tupK (e : X.K = K) : IxR X (rIxT K) := e ▸ ix_tup
theorem sl_listK (e : X.K = K) : SlR X (rSlL K) := e ▸ sl_list
theorem op_catSK (e : X.K = K) : OpR X (binaryOp .Add) (rCatS K) := e ▸ op_catS
theorem op_catTK (e : X.K = K) : OpR X (binaryOp .Add) (rCatT K) := e ▸ op_catT
theorem op_inSK (e : X.K = K) : OpR X (compareOp .In) (rIn K false) := e ▸ op_in_seq
theorem op_eqDK (hu : X.A.units + 64 < cLine) (e : X.K = K) : OpR X (compareOp .Eq) (rEqD K) := e ▸ op_eqD hu
theorem op_neDK (hu : X.A.units + 64 < cLine) (e : X.K = K) : OpR X (compareOp .NotEq) (rNeD K) := e ▸ op_neD hu
theorem call_lenK (e : X.K = K) : CallR X (.builtin "len") (fun xs H Q => ∃ x n, xs = [x] ∧ LenV K x H n ∧ Q (.int n) H) := e ▸ call_len
theorem call_isiK (e : X.K = K) : CallR X (.builtin "isinstance") (rIsi K) := e ▸ call_isi
theorem call_list_ofK (e : X.K = K) : CallR X (.type "list") (fun xs H Q => ∃ p ys, xs = [.ref p] ∧ (SqL K H p ys ∨ SqT K H p ys) ∧ ∀ l, H l = none → Q (.ref l) (upd H l (.lst ys))) := e ▸ call_list_of
theorem pi_listK {tg l : Expr} {tl : TE} (e : X.K = K) (hl : PE X l tl) : PI X tg l (iList K tl) := e ▸ pi_list hl
theorem pg_tupK {es : List Expr} {k : Nat} {t : TGs} {n : Nat} {pos : Pos} (e : X.K = K) (hc : X.calm = true) (h : PGs X es t)
    (hn : (assignEach es X.env).length = n := by rfl) (hst : (assignEach es X.env).findIdx? (·.1) = none := by rfl) : PG X (.Tuple es k pos) (gTup K n t) := e ▸ pg_tup hc h hn hst
end
end L2

namespace L2
open PySem PySem.Spec PyProof.Rows
section
variable {X : Cx}
noncomputable def rStarts : V → List V → Hp → VK → Prop := fun x vs H Q => ∃ z y, x = .str z ∧ vs = [.str y] ∧ Q (.bl (Txt.startswith z y)) H
noncomputable def rIndex : V → List V → Hp → VK → Prop := fun x vs H Q => ∃ z y i, x = .str z ∧ vs = [.str y] ∧ (∃ rest, Builtin.Str.occurrences z y 0 z.length 1 = i :: rest) ∧ Q (.int (i : Nat)) H
end
end L2

namespace L2
open PySem PySem.Spec PyProof.Rows
/-! ### an exception on its way: its object at e, the head of its traces at T -/
noncomputable def ExcIs (h : Heap) (e : Addr) (cls : Value) (dx : Option Addr) (fl : Value) (T : Addr) : Prop :=
  ∃ oe vs oT ts, h.get? e = some oe ∧ oe.cls = cls ∧ oe.dict = dx ∧ oe.data = .fields vs ∧ vs[1]? = some (.ref T) ∧ T ≠ e ∧ h.get? T = some oT ∧ oT.data = .fields ts ∧ ts[3]? = some fl
set_option genInjectivity false in
structure LeftX (fs : List Addr) (e T0 : Addr) (cls : Value) (dx : Option Addr) (fl : Value) (h h' : Heap) : Prop where
  keep : ∀ b o, b ∉ fs → b ≠ e → b ≠ T0 → h.get? b = some o → h'.get? b = some o
  slot : ∀ b o, b ∈ fs → b ≠ e → b ≠ T0 → h.get? b = some o → ∃ sl, h'.get? b = some { o with slots := sl }
  there : ∀ b o, h.get? b = some o → ∃ o', h'.get? b = some o'
  exc : ∃ T, h.objs.size ≤ T ∧ ExcIs h' e cls dx fl T
section
variable {M : Model} {A : Around} {E : Value → Shared → Prop} {s : Shared}
theorem cls_dict_mapFields (f : Array Value → Array Value) (o : Obj) : (Obj.mapFields f o).dict = o.dict := by
  obtain ⟨c, d, da, sl⟩ := o
  cases da <;> rfl
theorem newEntryX {base : Heap} {env : Env} {outer : List Env} {L e T0 : Addr} {oe : Obj} {vs : Array Value} {head : Value} {hadNext : Bool} {Q : Unit → Shared → Prop}
    (hfr : A.frames = some (env :: outer)) (hl : s.heap.FunFrames base (env :: outer)) (hf : env.frame = some L)
    (he : s.heap.get? e = some oe) (hd : oe.data = .fields vs) (hsz : 1 < vs.size)
    (h : ∀ h', LeftX (frs (env :: outer)) e T0 oe.cls oe.dict (rawInt L) s.heap h' → Q () { s with heap := h' }) :
    wpAny M A (do let a ← frameOf env; let pl ← entryPlaceOf L hadNext; let b ← EntryCells.newEntry head a .none (rawInt L) .none pl; setField (.ref e) 1 b) Q E s := by
  have hene : e ∉ (env :: outer).filterMap (·.frame) := fun hm => by
    obtain ⟨_, o, ho, hnf⟩ := hl.mem hm
    rw [he] at ho; injection ho with ho; subst ho; exact hnf vs hd
  refine wpAny_bind (wpAny_frameOf_fun hfr hl hf fun h₁ hs₁ => ?_)
  refine wpAny_bind (wpAny_entryPlaceOf fun pl hpl => ?_)
  unfold EntryCells.newEntry newFields
  refine wpAny_bind (wpAny_newObj_type ?_ (hpl.sizeOk5 _ _ _ _ _))
  have he₁ : h₁.get? e = some oe := (hs₁.2.1 e hene).trans he
  have he₂ := Heap.get?_push_of_some (h := h₁) { cls := .type "traceback", dict := none, data := .fields ([head, .ref L, .none, rawInt L, .none] ++ (if pl.isEmpty then List.replicate 6 Value.none else pl)).toArray } he₁
  refine wpAny_setField he₂ hd hsz (h _ ?_)
  have hTe : h₁.objs.size ≠ e := Nat.ne_of_gt (Heap.lt_size he₁)
  have hd₃ := Obj.data_mapFields hd (·.setIfInBounds 1 (Value.ref h₁.objs.size))
  have he₃ := Heap.get?_update_self (Obj.mapFields (·.setIfInBounds 1 (Value.ref h₁.objs.size))) he₂ (Obj.isFreed_of_fields hd₃)
  have hT₃ := (Heap.get?_update_other (h₁.push { cls := .type "traceback", dict := none, data := .fields ([head, .ref L, .none, rawInt L, .none] ++ (if pl.isEmpty then List.replicate 6 Value.none else pl)).toArray })
    (Obj.mapFields (·.setIfInBounds 1 (Value.ref h₁.objs.size))) (Ne.symm hTe)).trans (Heap.get?_push_size h₁ rfl)
  have keep : ∀ b o, b ≠ e → h₁.get? b = some o →
      ((h₁.push { cls := .type "traceback", dict := none, data := .fields ([head, .ref L, .none, rawInt L, .none] ++ (if pl.isEmpty then List.replicate 6 Value.none else pl)).toArray }).update e (Obj.mapFields (·.setIfInBounds 1 (Value.ref h₁.objs.size)))).get? b = some o :=
    fun b o hbe hb => by
      rw [Heap.get?_update_other _ _ (Ne.symm hbe)]
      exact Heap.get?_push_of_some _ hb
  have new : s.heap.objs.size ≤ h₁.objs.size := Nat.le_of_eq hs₁.1.symm
  refine ⟨fun b o hb hbe _ hbo => keep b o hbe ((hs₁.2.1 b hb).trans hbo), fun b o _ hbe _ hbo => ?_, fun b o hbo => ?_, h₁.objs.size, new, _, _, _, _, he₃, Obj.cls_mapFields _ _, cls_dict_mapFields _ _, hd₃, by simp [hsz], hTe, hT₃, rfl, ?_⟩
  · obtain ⟨sl, hs⟩ := hs₁.2.2 b o hbo
    exact ⟨sl, keep b _ hbe hs⟩
  · by_cases hbe : b = e
    · subst hbe; exact ⟨_, he₃⟩
    · obtain ⟨sl, hs⟩ := hs₁.2.2 b o hbo
      exact ⟨_, keep b _ hbe hs⟩
  · first | (simp; done) | (rcases hpl with rfl | ⟨_, _, _, _, _, _, _, rfl⟩ <;> simp)
noncomputable def ExcNew (h : Heap) (e : Addr) (cls : Value) (dx : Option Addr) : Prop := ∃ oe vs, h.get? e = some oe ∧ oe.cls = cls ∧ oe.dict = dx ∧ oe.data = .fields vs ∧ vs[1]? = some .none
theorem note_new {base : Heap} {env : Env} {outer : List Env} {L e : Addr} {cls : Value} {dx : Option Addr} {Q : Unit → Shared → Prop}
    (hfr : A.frames = some (env :: outer)) (hl : s.heap.FunFrames base (env :: outer)) (hf : env.frame = some L) (hx : ExcNew s.heap e cls dx)
    (h : ∀ h', LeftX (frs (env :: outer)) e e cls dx (rawInt L) s.heap h' → Q () { s with heap := h' }) : wpAny M A (noteFrame (.ref e) env) Q E s := by
  obtain ⟨oe, vs, he, hc, hdx, hd, h1⟩ := hx
  subst hc hdx
  unfold noteFrame
  simp only [hf]
  refine wpAny_bind (wpAny_field he hd h1 ?_)
  rw [if_neg (by decide)]
  exact newEntryX hfr hl hf he hd (Array.getElem?_eq_some_iff.mp h1).1 h
theorem note_next {base : Heap} {env : Env} {outer : List Env} {L e T : Addr} {cls : Value} {dx : Option Addr} {Q : Unit → Shared → Prop}
    (hfr : A.frames = some (env :: outer)) (hl : s.heap.FunFrames base (env :: outer)) (hf : env.frame = some L) (hx : ExcIs s.heap e cls dx .none T)
    (h : ∀ h', LeftX (frs (env :: outer)) e T cls dx (rawInt L) s.heap h' → Q () { s with heap := h' }) : wpAny M A (noteFrame (.ref e) env) Q E s := by
  obtain ⟨oe, vs, oT, ts, he, hc, hdx, hd, h1, hTe, hT, hdT, h3⟩ := hx
  subst hc hdx
  unfold noteFrame
  simp only [hf]
  refine wpAny_bind (wpAny_field he hd h1 ?_)
  rw [if_pos (show (Value.ref T != Value.none) = true from by simp)]
  refine wpAny_bind (wpAny_field hT hdT h3 ?_)
  rw [if_neg (show ¬ ((Value.none == rawInt L) = true) from by simp [rawInt])]
  refine wpAny_bind (wpAny_setField hT hdT (Array.getElem?_eq_some_iff.mp h3).1 ?_)
  have other : ∀ b, b ≠ T → (s.heap.update T (Obj.mapFields (·.setIfInBounds 3 Value.none))).get? b = s.heap.get? b := fun b hb => Heap.get?_update_other _ _ (Ne.symm hb)
  have noRecord : ∀ b o, s.heap.get? b = some o → (∀ vs, o.data ≠ .fields vs) → b ≠ T := fun b o hb hnf q => by
    rw [q, hT] at hb; injection hb with hb; subst hb; exact hnf ts hdT
  have hT' := Heap.get?_update_self (Obj.mapFields (·.setIfInBounds 3 Value.none)) hT (Obj.isFreed_of_fields (Obj.data_mapFields hdT _))
  refine newEntryX (T0 := T) hfr (hl.of_keeps fun b o hb hnf => ⟨o, (other b (noRecord b o hb hnf)).trans hb, rfl⟩) hf ((other e (Ne.symm hTe)).trans he) hd (Array.getElem?_eq_some_iff.mp h1).1 fun h' x => h h' ?_
  refine ⟨fun b o hb hbe hbT hbo => x.keep b o hb hbe hbT ((other b hbT).trans hbo), fun b o hb hbe hbT hbo => x.slot b o hb hbe hbT ((other b hbT).trans hbo), fun b o hbo => ?_, ?_⟩
  · by_cases hb : b = T
    · subst hb; exact x.there b _ hT'
    · exact x.there b o ((other b hb).trans hbo)
  · obtain ⟨T', hn, y⟩ := x.exc
    exact ⟨T', by rw [Heap.size_update] at hn; exact hn, y⟩
theorem note_again {env : Env} {L e T : Addr} {cls : Value} {dx : Option Addr} {Q : Unit → Shared → Prop} (hf : env.frame = some L) (hx : ExcIs s.heap e cls dx (rawInt L) T) (h : Q () s) :
    wpAny M A (noteFrame (.ref e) env) Q E s := by
  obtain ⟨oe, vs, oT, ts, he, hc, hdx, hd, h1, hTe, hT, hdT, h3⟩ := hx
  unfold noteFrame
  simp only [hf]
  refine wpAny_bind (wpAny_field he hd h1 ?_)
  rw [if_pos (show (Value.ref T != Value.none) = true from by simp)]
  refine wpAny_bind (wpAny_field hT hdT h3 ?_)
  rw [if_pos (show (rawInt L == rawInt L) = true from by simp)]
  exact wpAny_pure h
theorem flight_off {e T : Addr} {cls : Value} {dx : Option Addr} {fl : Value} {Q : Unit → Shared → Prop} (hx : ExcIs s.heap e cls dx fl T)
    (h : ∀ h', (∀ b o, b ≠ T → s.heap.get? b = some o → h'.get? b = some o) → (∃ o, h'.get? T = some o) → ExcIs h' e cls dx .none T → Q () { s with heap := h' }) : wpAny M A (setFlight (.ref e) none) Q E s := by
  obtain ⟨oe, vs, oT, ts, he, hc, hdx, hd, h1, hTe, hT, hdT, h3⟩ := hx
  unfold setFlight
  refine wpAny_bind (wpAny_field he hd h1 ?_)
  rw [if_pos (show (Value.ref T != Value.none) = true from by simp)]
  have hs := (Array.getElem?_eq_some_iff.mp h3).1
  refine wpAny_setField hT hdT hs (h _ (fun b o hb hbo => ?_) ?_ ?_)
  · rw [Heap.get?_update_other _ _ (Ne.symm hb)]; exact hbo
  · exact ⟨_, Heap.get?_update_self _ hT (Obj.isFreed_of_fields (Obj.data_mapFields hdT _))⟩
  · refine ⟨oe, vs, _, _, ?_, hc, hdx, hd, h1, hTe, Heap.get?_update_self _ hT (Obj.isFreed_of_fields (Obj.data_mapFields hdT _)), Obj.data_mapFields hdT _, ?_⟩
    · rw [Heap.get?_update_other _ _ hTe]; exact he
    · simp [hs]
theorem LeftX.off {fs : List Addr} {e T0 T : Addr} {cls : Value} {dx : Option Addr} {fl : Value} {h h1 h2 : Heap} (x : LeftX fs e T0 cls dx fl h h1) (hT : h.objs.size ≤ T) (k : ∀ b o, b ≠ T → h1.get? b = some o → h2.get? b = some o)
    (hT2 : ∃ o, h2.get? T = some o) (y : ExcIs h2 e cls dx .none T) : LeftX fs e T0 cls dx .none h h2 := by
  have ne : ∀ b o, h.get? b = some o → b ≠ T := fun b o e z => by
    have := Heap.lt_size e
    rw [z] at this
    exact absurd (Nat.lt_of_lt_of_le this hT) (Nat.lt_irrefl _)
  refine ⟨fun b o hb hbe hb0 hbo => k b o (ne b o hbo) (x.keep b o hb hbe hb0 hbo), fun b o hb hbe hb0 hbo => ?_, fun b o hbo => ?_, T, hT, y⟩
  · obtain ⟨sl, q⟩ := x.slot b o hb hbe hb0 hbo
    exact ⟨sl, k b _ (ne b o hbo) q⟩
  · obtain ⟨o', q⟩ := x.there b o hbo
    exact ⟨o', k b _ (ne b o hbo) q⟩
theorem leave_new {base : Heap} {env : Env} {outer : List Env} {L e : Addr} {cls : Value} {dx : Option Addr} {Q : Unit → Shared → Prop}
    (hfr : A.frames = some (env :: outer)) (hl : s.heap.FunFrames base (env :: outer)) (hf : env.frame = some L) (hx : ExcNew s.heap e cls dx)
    (h : ∀ h', LeftX (frs (env :: outer)) e e cls dx .none s.heap h' → Q () { s with heap := h' }) : wpAny M A (leaving env (.ref e)) Q E s := by
  unfold leaving
  refine wpAny_bind (note_new hfr hl hf hx fun h1 x => ?_)
  obtain ⟨T, hT, y⟩ := x.exc
  exact flight_off (s := { s with heap := h1 }) y fun h2 k hT2 z => h h2 (x.off hT k hT2 z)
theorem leave_next {base : Heap} {env : Env} {outer : List Env} {L e T0 : Addr} {cls : Value} {dx : Option Addr} {Q : Unit → Shared → Prop}
    (hfr : A.frames = some (env :: outer)) (hl : s.heap.FunFrames base (env :: outer)) (hf : env.frame = some L) (hx : ExcIs s.heap e cls dx .none T0)
    (h : ∀ h', LeftX (frs (env :: outer)) e T0 cls dx .none s.heap h' → Q () { s with heap := h' }) : wpAny M A (leaving env (.ref e)) Q E s := by
  unfold leaving
  refine wpAny_bind (note_next hfr hl hf hx fun h1 x => ?_)
  obtain ⟨T, hT, y⟩ := x.exc
  exact flight_off (s := { s with heap := h1 }) y fun h2 k hT2 z => h h2 (x.off hT k hT2 z)
end
/-! ### how an exception lies behind a call -/
noncomputable def CXE (P : Program) (w : World) : CXT := fun outer H s E e s' => ∃ (a T : Addr) (cls : Value) (dx : Option Addr) (H' : Hp), e = .ref a ∧ s'.os = s.os ∧ AllBare s'.gens ∧ Un (frs outer) [] H H' s.heap s'.heap ∧ HOk P w H' s'.heap ∧
  s.heap.get? a = none ∧ s.heap.get? T = none ∧ H' a = none ∧ H' T = none ∧ ExcIs s'.heap a cls dx .none T ∧ E cls dx H'
noncomputable def ExcAt (X : Cx) (H : Hp) (h : Heap) (a : Addr) (cls : Value) (dx : Option Addr) : Prop :=
  X.s₀.heap.get? a = none ∧ H a = none ∧ (ExcNew h a cls dx ∨ ∃ T, X.s₀.heap.get? T = none ∧ H T = none ∧ ExcIs h a cls dx .none T)
noncomputable def Xe (X : Cx) (E : XK) : Prop := ∀ (pins : List (Addr × Obj)) (σ : St) (H : Hp) (s : Shared) (a : Addr) (cls : Value) (dx : Option Addr), Inv X pins σ H s → ExcAt X H s.heap a cls dx → E cls dx H → X.xe (.ref a) s
theorem HOk.tracked {P : Program} {w : World} {H : Hp} {h h' : Heap} (ok : HOk P w H h) (k : ∀ b o u, H b = some u → h.get? b = some o → h'.get? b = some o) : HOk P w H h' := fun a o e =>
  (ok a o e).stay (fun b u hb q => by
    rcases hb with z | z
    · subst z; exact k b u o e q
    · exact k b u _ z q) (fun _ q => q) fun _ _ q => q
theorem Un.left {X : Cx} {pins : List (Addr × Obj)} {σ : St} {H : Hp} {s : Shared} {a T0 : Addr} {cls : Value} {dx : Option Addr} {h' : Heap} (I : Inv X pins σ H s) (hex : X.ex = []) (hst : X.stack = X.env :: X.outer) (hfr : X.env.frame = some X.env.locals)
    (ha : X.s₀.heap.get? a = none) (hT : X.s₀.heap.get? T0 = none) (x : LeftX (frs (X.env :: X.outer)) a T0 cls dx .none s.heap h') : Un X.fs [] X.H₀ H X.s₀.heap h' := by
  have hfs : frs (X.env :: X.outer) = X.env.locals :: X.fs := by simp [frs, hfr]
  have nl : ∀ b o, X.s₀.heap.get? b = some o → b ≠ X.env.locals := fun b o e z => by
    have := Heap.lt_size e
    rw [z] at this
    exact absurd (Nat.lt_of_lt_of_le this I.ok.above) (Nat.lt_irrefl _)
  have na : ∀ b o, X.s₀.heap.get? b = some o → b ≠ a := fun b o e z => by rw [z, ha] at e; cases e
  have nT : ∀ b o, X.s₀.heap.get? b = some o → b ≠ T0 := fun b o e z => by rw [z, hT] at e; cases e
  have nx : ∀ b : Addr, b ∉ X.ex := fun b => by rw [hex]; simp
  have B := I.base
  have nfs : ∀ b o, X.s₀.heap.get? b = some o → b ∉ X.fs → b ∉ frs (X.env :: X.outer) := fun b o e hb z => by
    rw [hfs] at z
    rcases List.mem_cons.mp z with q | q
    · exact nl b o e q
    · exact hb q
  refine ⟨fun b o e n hb _ => x.keep b o (nfs b o e hb) (na b o e) (nT b o e) (B.keep b o e n hb (nx b)), fun b o e n hb _ => ?_, fun b o e n _ => B.free b o e n (nx b), fun b o e _ => ?_, B.tups, B.frzs, B.tbls⟩
  · obtain ⟨sl, q⟩ := B.slot b o e n hb (nx b)
    obtain ⟨sl2, q2⟩ := x.slot b _ (by rw [hfs]; exact List.mem_cons_of_mem _ hb) (na b o e) (nT b o e) q
    exact ⟨sl2, q2⟩
  · obtain ⟨o', q⟩ := B.there b o e (nx b)
    exact x.there b o' q
theorem xe_cx {P : Program} {w : World} {K : PySem.W.Frag} {mg : Str → Option Value} {base : Heap} {N : List Str} {qual : Str} {scope : Scope} {f : Addr} {cd : Value} {A : Around} {outer : List Env} {s₀ : Shared} {H₀ : Hp} {E₀ : XK} :
    Xe (cxOf (CXE P w) P w K mg base N qual scope f cd A outer s₀ H₀ E₀) E₀ := by
  intro pins σ H s a cls dx I hx hE
  obtain ⟨ha, hHa, hx⟩ := hx
  have hfr : (envOfC qual scope s₀.heap.objs.size f cd).frame = some s₀.heap.objs.size := rfl
  have fin : ∀ (T0 : Addr) (h' : Heap), s₀.heap.get? T0 = none → H T0 = none → LeftX (frs (envOfC qual scope s₀.heap.objs.size f cd :: outer)) a T0 cls dx .none s.heap h' → CXE P w outer H₀ s₀ E₀ (.ref a) { s with heap := h' } := by
    intro T0 h' hT0 hHT0 x
    obtain ⟨T, hT, y⟩ := x.exc
    have hTn : s₀.heap.get? T = none := by
      cases q : s₀.heap.get? T with
      | none => rfl
      | some o => exact absurd (Nat.lt_of_lt_of_le (Heap.lt_size q) (Nat.le_trans I.sz hT)) (Nat.lt_irrefl _)
    refine ⟨a, T, cls, dx, H, rfl, I.os, I.bare, Un.left I rfl rfl rfl ha hT0 x, ?_, ha, hTn, hHa, I.hok.fresh hT, y, hE⟩
    refine I.hok.tracked fun b o u hb q => x.keep b o (fun z => ?_) (fun z => by rw [z, hHa] at hb; cases hb) (fun z => by rw [z, hHT0] at hb; cases hb) q
    have := I.stkFree b z
    rw [this] at hb; cases hb
  rcases hx with hx | ⟨T0, hT0, hHT0, hx⟩
  · exact leave_new (base := base) I.ok.frames I.stack hfr hx fun h' x => fin a h' ha hHa x
  · exact leave_next (base := base) I.ok.frames I.stack hfr hx fun h' x => fin T0 h' hT0 hHT0 x
theorem passesE {X : Cx} {E : XK} (h : Xe X E) (hex : X.ex = [] := by rfl) : Passes (CXE X.prog X.w) X E := by
  intro pins σ H s e s' I hx
  obtain ⟨a, T, cls, dx, H', rfl, ho, hg, u, hok, ha, hT, hHa, hHT, y, hE⟩ := hx
  have I' : Inv X pins σ H' s' := I.call' (ch := []) ho u hok hg fun b hb => absurd hb (by simp)
  have old : ∀ b, s.heap.get? b = none → X.ex = [] → X.s₀.heap.get? b = none := fun b hb hx => by
    cases q : X.s₀.heap.get? b with
    | none => rfl
    | some o =>
      obtain ⟨o', q'⟩ := I.base.there b o q (by rw [hx]; simp)
      rw [hb] at q'; cases q'
  exact h pins σ H' s' a cls dx I' ⟨old a ha hex, hHa, .inr ⟨T, old T hT hex, hHT, y⟩⟩ hE
end L2

namespace L2
open PySem PySem.Spec PyProof.Rows
theorem ObjOk.there {P : Program} {w : World} {H : Hp} {h : Heap} {a : Addr} {o : HO} (x : ObjOk P w H h a o) : ∃ ob, h.get? a = some ob := by
  cases o with
  | lst xs => obtain ⟨_, _, _, _, e⟩ := x; exact ⟨_, e⟩
  | tup xs => obtain ⟨_, _, _, o, e, _⟩ := x; exact ⟨_, e⟩
  | dK kvs => obtain ⟨_, _, _, _, o, _, _, e, _⟩ := x; exact ⟨_, e⟩
  | dT kvs => obtain ⟨_, _, _, _, o, _, _, e, _⟩ := x; exact ⟨_, e⟩
  | set S n => obtain ⟨o, _, _, _, e, _⟩ := x; exact ⟨_, e⟩
  | ins C dx fs => obtain ⟨_, _, _, e, _⟩ := x; exact ⟨_, e⟩
  | own y => obtain ⟨_, e⟩ := x; exact ⟨_, e⟩
  | xd fs => obtain ⟨_, ⟨_, _, _, e, _⟩, _⟩ := x; exact ⟨_, e⟩
  | rng lo hi => obtain ⟨_, _, _, e⟩ := x; exact ⟨_, e⟩
  | frz ob u => obtain ⟨e, _⟩ := x; exact ⟨_, e⟩
  | tbl ps => exact ⟨_, (show h.get? a = some _ from x)⟩
  | met f y => exact ⟨_, (show h.get? a = some _ from x)⟩
  | ext φ => obtain ⟨_, ⟨_, e⟩, _⟩ := x; exact ⟨_, e⟩
section
variable {X : Cx}
noncomputable def tRaise (C : Addr) (E : XK) (t : TA) : TS := fun _ σ H => t σ H fun vs H1 => vs.length ≤ sizeLine ∧ E (.ref C) none H1
end
end L2

/-! an own error as a value: its class, its attributes, isinstance of it -/
namespace L2
open PySem PySem.Spec PyProof.Rows PySem.W
set_option genInjectivity false in
structure XCls (K : Frag) (C : Addr) : Prop where
  ga : findIn K (.ref C) "__getattribute__" = some (some (.builtin "BaseException.__getattribute__"))
  gn : findIn K (.ref C) "__getattr__" = some none
  cl : findIn K (.ref C) "__class__" = some (some (.builtin "object.__class__"))
  sg : specialIn K (.builtin "object.__class__") "__get__" = some (some (.builtin "getset_descriptor.__get__"))
  tk : takesIn K (.builtin "object.__class__") = some true
  mo : mroIn K C (.type "object") = some true
  mb : mroIn K C (.type "BaseException") = some true
section
variable {prog : Program} {w : World} {A : Around} {E : Value → Shared → Prop} {s : Shared} {K : Frag} {x C : Addr} {ox : Obj} {od : Option Obj} {name : Str}
theorem xc_some {K : Frag} {C : Addr} {b : Value} {r : Bool} (e : mroIn K C b = some r) : ∃ cd, clsIn K C = some cd := by
  obtain ⟨cd, a, _⟩ := Option.bind_eq_some_iff.mp e
  exact ⟨cd, a⟩
theorem x_check {M : Model} {nameV : Value} {Q : Unit → Shared → Prop} (X : K.In s.heap) (c : XCls K C) (I : InstAt s.heap x ox C od) (q : Q () s) : wpAny M A (checkBuiltinCall "BaseException.__getattribute__" ⟨[.ref x, nameV], []⟩) Q E s :=
  @check_slot M A E s "BaseException.__getattribute__" "BaseException" "__getattribute__" (.ref x) [nameV] [] Q (by decide +kernel) (by decide +kernel) ((I.type).andThen (looks_mroIn X c.mb)) (F.args_bexc_ga _ _) q
theorem x_entry_value {v : Value} {tk : Tok} {Q : Fin → Shared → Prop} (X : K.In s.heap) (I : InstAt s.heap x ox C od) (hf : findObj K C od name = some (.value v)) (h : Q (.done (.ret v)) s) :
    wpAny (model prog w) A (Builtin.«object.__getattribute__» ⟨[.ref x, .str name tk], []⟩) Q E s := by
  have L0 := I.type (M := model prog w)
  have L1 := looks_find (M := model prog w) X I hf
  unfold Builtin.«object.__getattribute__»
  refine wpAny_bind (wpAny_pure ?_)
  refine wpAny_bind (wpAny_pure ?_)
  refine wpAny_bind (L0.here (wpAny_bind (L1.here ?_)))
  exact wpAny_pure h
theorem x_entry_class {tk : Tok} {Q : Fin → Shared → Prop} (X : K.In s.heap) (c : XCls K C) (I : InstAt s.heap x ox C od) (h : Q (.done (.ret (.ref C))) s) :
    wpAny (model prog w) A (Builtin.«object.__getattribute__» ⟨[.ref x, .str "__class__" tk], []⟩) Q E s := by
  obtain ⟨cd, hc⟩ := xc_some c.mo
  have hf : findObj K C od "__class__" = some (.bind (.builtin "getset_descriptor.__get__") (.builtin "object.__class__")) := by
    unfold findObj
    rw [hc, c.cl]
    simp only [Option.bind_some]
    rw [c.sg]
    simp only [Option.bind_some]
    rw [c.tk]
    rfl
  have L0 := I.type (M := model prog w)
  have L1 := looks_find (M := model prog w) X I hf
  unfold Builtin.«object.__getattribute__»
  refine wpAny_bind (wpAny_pure ?_)
  refine wpAny_bind (wpAny_pure ?_)
  refine wpAny_bind (L0.here (wpAny_bind (L1.here ?_)))
  show wpAny _ _ (holding [_] (call _ [_, .ref x, .ref C]) >>= ret) _ _ _
  exact wpAny_bind (wpAny_holding (wpAny_call (class_get X I c.mo (wpAny_pure h))))
theorem bind_bexc (self : Value) : bindSpecial (.builtin "BaseException.__getattribute__") self = pure (.builtin "BaseException.__getattribute__", [self]) := F.attr_ValueError.ga.bind self
theorem plain_bexc : plainId "BaseException.__getattribute__" = true := F.attr_ValueError.ga.plain
theorem x_by {v nameV : Value} {fill expr : Bool} {Q : Value → Shared → Prop} (X : K.In s.heap) (c : XCls K C) (I : InstAt s.heap x ox C od)
    (he : ∀ (A : Around) (E : Value → Shared → Prop) (Q : Fin → Shared → Prop), Q (.done (.ret v)) s → wpAny (model prog w) A (Builtin.«object.__getattribute__» ⟨[.ref x, nameV], []⟩) Q E s)
    (hv : handedIn v = true) (h : Q v s) : wpAny (model prog w) A (getAttrBy (.ref x) nameV fill expr) Q E s := by
  have L0 := I.type (M := model prog w)
  have L1 := looks_findIn (M := model prog w) X c.ga
  have L2 := looks_findIn (M := model prog w) X c.gn
  unfold getAttrBy
  refine wpAny_holding (wpAny_bind (L0.here (wpAny_bind (L1.here ?_))))
  have hne : (onTheHeap (Value.ref C) && Value.builtin "BaseException.__getattribute__" == Value.builtin "object.__getattribute__") = false := by
    show (true && _) = false
    decide +kernel
  show wpAny _ _ (if (onTheHeap (Value.ref C) && Value.builtin "BaseException.__getattribute__" == Value.builtin "object.__getattribute__") = true then _ else getAttrByItsOwn _ _ _ _ _ _) _ _ _
  rw [hne, if_neg Bool.false_ne_true]
  unfold getAttrByItsOwn
  refine wpAny_bind ?_
  show wpAny _ _ (typeLookup (.ref C) "__getattr__") _ _ _
  refine L2.here ?_
  refine wpAny_bind (wpAny_attempt (wpAny_holding ?_))
  have hcg : callGetattribute (.ref x) nameV (.builtin "BaseException.__getattribute__") expr = boundAndCalled (.builtin "BaseException.__getattribute__") (.ref x) nameV := by
    unfold callGetattribute
    rw [if_neg (by cases expr <;> decide)]
  rw [hcg]
  unfold boundAndCalled
  rw [bind_bexc]
  refine wpAny_bind (wpAny_pure ?_)
  refine wpAny_call (codeAny_call_builtin plain_bexc F.entry_bexc_ga (x_check X c I (he _ _ _ ?_)))
  show wpAny _ _ (handedOut v) _ _ _
  rw [handedOut_of hv]
  exact wpAny_pure h
theorem x_class {Q : Option Value → Shared → Prop} (X : K.In s.heap) (c : XCls K C) (I : InstAt s.heap x ox C od) (h : Q (some (.ref C)) { s with toks := s.toks + 1 }) : wpAny (model prog w) A (getAttr? (.ref x) "__class__") Q E s := by
  unfold getAttr? getAttrBy?
  refine wpAny_bind (wpAny_mkText (wpAny_bind (wpAny_attempt ?_)))
  exact x_by (s := { s with toks := s.toks + 1 }) X c I (fun A E Q q => x_entry_class (s := { s with toks := s.toks + 1 }) X c I q) rfl (wpAny_pure h)
theorem x_attr {v : Value} {expr : Bool} {Q : Value → Shared → Prop} (X : K.In s.heap) (c : XCls K C) (I : InstAt s.heap x ox C od) (hf : findObj K C od name = some (.value v)) (hv : handedIn v = true)
    (h : Q v { s with toks := s.toks + 1 }) : wpAny (model prog w) A (getAttr (.ref x) name expr) Q E s := by
  unfold getAttr
  refine wpAny_bind (wpAny_mkText ?_)
  exact x_by (s := { s with toks := s.toks + 1 }) X c I (fun A E Q q => x_entry_value (s := { s with toks := s.toks + 1 }) X I hf q) hv h
theorem kitx_exc {ox : Obj} {od : Option Obj} (c : XCls K C) : KitX K (.ref x) (.ref C) (fun h => InstAt h x ox C od) where
  ty := fun _ _ _ I => I.type
  it := fun _ _ X _ => by
    obtain ⟨cdD, hcD⟩ := xc_some c.mo
    unfold clsIn at hcD
    split at hcD
    · rename_i c' d' cd' sl' ho
      intro A' Q' E' s' k q
      unfold isType loadHead
      exact wpAny_bind (wpAny_loadPart (k _ _ (X _ _ ho)) (wpAny_pure q))
    · cases hcD
  ne := fun h tp dd its n sl X htp => by
    obtain ⟨cdD, hcD⟩ := xc_some c.mo
    refine Bool.eq_false_iff.mpr fun q => ?_
    have e : C = tp := Value.ref.inj (beq_iff_eq.mp q)
    subst e
    unfold clsIn at hcD
    split at hcD
    · rename_i c' d' cd' sl' ho
      have z := (X _ _ ho).symm.trans htp
      cases z
    · cases hcD
  ca := fun X I k => x_class X c I k
end
end L2

/-! try: a call; except: a suite that raises nothing -/
namespace L2
open PySem PySem.Spec PyProof.Rows
set_option genInjectivity false in
structure Catch (K : PySem.W.Frag) (B C : Addr) : Prop where
  ty : PySem.W.instIn K (.ref B) (.type "tuple") = some false
  bb : PySem.W.mroIn K B (.type "BaseException") = some true
  sub : PySem.W.mroIn K C (.ref B) = some true
theorem isType_of {K : PySem.W.Frag} {M : Model} {h : Heap} {C : Addr} {cd : ClassData} (X : K.In h) (hc : PySem.W.clsIn K C = some cd) : PySem.W.Looks M h (isType (.ref C)) true := by
  unfold PySem.W.clsIn at hc
  split at hc
  · rename_i c' d' cd' sl' ho
    intro A' Q' E' s' k q
    unfold isType loadHead
    exact wpAny_bind (wpAny_loadPart (k _ _ (X _ _ ho)) (wpAny_pure q))
  · cases hc
theorem excMatches_in {K : PySem.W.Frag} {M : Model} {A : Around} {E : Value → Shared → Prop} {s : Shared} {a B C : Addr} {ox : Obj} {od : Option Obj} {Q : Bool → Shared → Prop} (X : K.In s.heap) (I : PySem.W.InstAt s.heap a ox C od) (c : Catch K B C) (h : Q true s) :
    wpAny M A (excMatches (.ref a) (.ref B)) Q E s := by
  obtain ⟨cd, hcd⟩ := xc_some c.bb
  have L0 := PySem.W.looks_instIn (M := M) X c.ty
  have L1 := isType_of (M := M) X hcd
  have L2 := PySem.W.looks_mroIn (M := M) X c.bb
  have L3 := I.type (M := M)
  have L4 := PySem.W.looks_mroIn (M := M) X c.sub
  unfold excMatches
  refine wpAny_bind (L0.here ?_)
  simp only [Bool.false_eq_true, if_false]
  refine wpAny_bind (wpAny_pure ?_)
  rw [List.forIn_cons]
  refine wpAny_bind (wpAny_bind (wpAny_bind ?_))
  unfold isExcClass
  refine wpAny_bind (L1.here ?_)
  simp only [if_true]
  refine L2.here ?_
  simp only [Bool.not_true, Bool.false_eq_true, if_false]
  refine wpAny_pure ?_
  simp only [List.forIn_nil]
  refine wpAny_pure ?_
  refine wpAny_bind (L3.here ?_)
  rw [List.forIn_cons]
  refine wpAny_bind (wpAny_bind (wpAny_bind (L4.here ?_)))
  simp only [if_true]
  exact wpAny_pure (wpAny_pure (wpAny_pure h))
/-! ### the context of an except suite -/
noncomputable abbrev Cx.hand (X : Cx) (a : Addr) : Cx := { X with A := X.A.mark (some (.ref a)), calm := false, xe := fun _ _ => False }
theorem Cx.Ok.hand {X : Cx} (ok : X.Ok) (a : Addr) : (X.hand a).Ok :=
  ⟨ok.mod, ok.kind, ok.glob, ok.blt, ok.above, ok.inj, ok.has, ok.cab, (fun z => by cases z), ok.frames, ok.stk, ok.exf, ok.bs, ok.bsz, ok.noex, ok.exfs, ok.funs, ok.frf⟩
section
variable {X : Cx} {pins : List (Addr × Obj)} {σ : St} {H : Hp} {s : Shared} {a : Addr}
theorem Inv.hand (I : Inv X pins σ H s) (a : Addr) : Inv (X.hand a) pins σ H s := ⟨I.ok.hand a, I.os, I.bare, I.base, I.loc, I.cell, I.free, I.freeC, I.pin, I.hok, I.len⟩
theorem Inv.unhand (ok : X.Ok) (I : Inv (X.hand a) pins σ H s) : Inv X pins σ H s := ⟨ok, I.os, I.bare, I.base, I.loc, I.cell, I.free, I.freeC, I.pin, I.hok, I.len⟩
end
/-! ### an error that was caught, as a tracked thing -/
noncomputable def XO (a C : Addr) (dx : Option Addr) : HO := .ext fun h => ∃ ob vs, h.get? a = some ob ∧ ob.cls = .ref C ∧ ob.dict = dx ∧ ob.data = .fields vs
theorem XO.ok {P : Program} {w : World} {H : Hp} {h : Heap} {a C : Addr} {dx : Option Addr} {fl : Value} {T : Addr} (x : ExcIs h a (.ref C) dx fl T) : ObjOk P w H h a (XO a C dx) := by
  obtain ⟨oe, vs, oT, ts, he, hc, hdx, hd, _⟩ := x
  exact ⟨⟨oe, vs, he, hc, hdx, hd⟩, ⟨oe, he⟩, fun h1 h2 ⟨ob, ws, q, r⟩ k => ⟨ob, ws, k _ q, r⟩⟩
noncomputable abbrev XS := St → XK
noncomputable def XP (X : Cx) (pins : List (Addr × Obj)) (E : XS) (e : Value) (s' : Shared) : Prop := ∃ σ H s, Inv X pins σ H s ∧ CXE X.prog X.w X.stack H s (E σ) e s'
noncomputable abbrev TEX := St → Hp → VK → XK → Prop
noncomputable abbrev TSX := Ends → XS → St → Hp → Prop
noncomputable def PEX (X : Cx) (e : Expr) (t : TEX) : Prop := ∀ (pins : List (Addr × Obj)) (s : Shared) (σ : St) (H : Hp) (Q : VK) (E : XS), Inv X pins σ H s → t σ H Q (E σ) →
  wpAny (model X.prog X.w) X.A (eval e X.env) (EP X pins σ Q) (XP X pins E) s
noncomputable def PSX (X : Cx) (st : Stmt) (t : TSX) : Prop := ∀ (pins : List (Addr × Obj)) (s : Shared) (σ : St) (H : Hp) (D : Ends) (E : XS), Inv X pins σ H s → t D E σ H →
  wpAny (model X.prog X.w) X.A (exec st X.env) (SP X pins D) (XP X pins E) s
noncomputable def PSsX (X : Cx) (st : List Stmt) (t : TSX) : Prop := ∀ (pins : List (Addr × Obj)) (s : Shared) (σ : St) (H : Hp) (D : Ends) (E : XS), Inv X pins σ H s → t D E σ H →
  wpAny (model X.prog X.w) X.A (execs st X.env) (SP X pins D) (XP X pins E) s
section
variable {X : Cx} {k : Nat} {f C : Addr} {fd : FuncData} {ps : List Str} {sp : Sp} {dvs : List V} {ds : List Value} {x m : Str} {p pos apos : Pos} {e o : Expr} {es : List Expr} {ta : TE} {t : TA}
theorem runX {pins : List (Addr × Obj)} {σ : St} {H : Hp} {s : Shared} {Q : VK} {E : XS} {us : List Value} {vs : List V} (F : FnOk X.prog X.w X.K X.mg X.base (CXE X.prog X.w) k f fd ps sp) (hr : Room k X.A) (hb : Binds X.K fd ps ds) (hd : Vals dvs ds)
    (I : Inv X pins σ H s) (r : Vals vs us) (h : sp (vs ++ dvs) H Q (E σ)) : wpAny (model X.prog X.w) X.A (call (.ref f) us) (EP X pins σ Q) (XP X pins E) s := by
  have r2 : Vals (vs ++ dvs) (us ++ ds) := r.append hd
  have hl : (us ++ ds).length = ps.length := by rw [← r2.length]; exact F.len _ _ _ _ h
  refine wpAny_call (codeAny_mono (F.run X.A X.stack s H ⟨us, []⟩ (us ++ ds) (vs ++ dvs) Q (E σ) hr I.env0 (hb s us I.kIn hl) r2 h) fun r s' hq => ?_)
  cases r with
  | error e => exact ⟨σ, H, s, I, hq⟩
  | ok fl =>
    cases fl with
    | ret u => exact I.after hq
    | next => exact False.elim hq
    | brk => exact False.elim hq
    | cont => exact False.elim hq
noncomputable def xCall (sp : Sp) (dvs : List V) (t : TA) : TEX := fun σ H Q E => t σ H fun vs H1 => sp (vs ++ dvs) H1 Q E
noncomputable def xMeth (C : Addr) (m : Str) (sp : Sp) (dvs : List V) (ta : TE) (t : TA) : TEX := fun σ H Q E => ta σ H fun x H1 => ∃ a dx fs, x = .ref a ∧ H1 a = some (.ins C dx fs) ∧ fs.lookup m = none ∧
  t σ H1 fun vs H2 => sp (x :: (vs ++ dvs)) H2 Q E
theorem noE {α : Type} {t : Sem α} {Q : α → Shared → Prop} {M : Model} {A : Around} {E : Value → Shared → Prop} {s : Shared} (h : wpAny M A t Q (fun _ _ => False) s) : wpAny M A t Q E s := wpAny_mono h (fun _ _ q => q) fun _ _ z => False.elim z
theorem pex_call (F : FnOk X.prog X.w X.K X.mg X.base (CXE X.prog X.w) k f fd ps sp) (hr : Room k X.A) (hg : Gl X x) (hm : X.mg x = some (.ref f)) (hk : PySem.W.keepIn X.K (.ref f) = true) (hb : Binds X.K fd ps ds) (hd : Vals dvs ds)
    (ha : PA X.nox (e :: es) t) (hdb : (x == ("__debug__" : Str)) = false := by decide) (he : starEach (e :: es) X.env = (false, eval e X.env) :: starEach es X.env := by rfl) (hpl : (backTo pos (starEach es X.env)).any (·.1) = false := by rfl) :
    PEX X (.Call (.Name x p) (e :: es) [] pos) (xCall sp dvs t) := by
  intro pins s σ H Q E I h
  refine wpAny_Call_Name_kw (ld_glob I hg hm ?_ hdb)
  refine PySem.W.callWith_K (h₀ := X.base) I.ok.mod.kin hk (noE (thn (ha pos pins s σ H _ (I.wish _) h) fun us s1 ⟨vs, H1, I1, r, q⟩ => ⟨I1.kIn, ?_⟩)) he hpl
  exact runX F hr hb hd I1.unwish r q
end
section
variable {X : Cx} {st : Stmt} {rest : List Stmt} {t : TS} {tx ux : TSX} {e : Expr} {te : TEX} {pos : Pos}
noncomputable def xDrop (te : TEX) : TSX := fun D E σ H => te σ H (fun _ H1 => D.nx σ H1) (E σ)
noncomputable def xSet (i : Nat) (te : TEX) : TSX := fun D E σ H => te σ H (fun v H1 => D.nx (σ.set i (some v)) H1) (E σ)
theorem psx_set {i : Nat} {x : Str} {pos' : Pos} (hN : X.N.Nodup) (hi : X.N[i]? = some x) (hx : Loc X.env.scope x) (he : PEX X e te) (hs : swapsWith e (some (.Name x pos')) pos.line X.env = pure false := by rfl) (hf : X.fn x = true ∨ X.env.scope.names.lookup x = some .local := by first | exact .inl rfl | exact .inr rfl | assumption) :
    PSX X (.Assign [.Name x pos'] e pos) (xSet i te) := by
  intro pins s σ H D E I h
  refine wpAny_Assign_Name (thn (he pins s σ H _ E I h) fun v s1 ⟨y, H1, I1, r1, q1⟩ => ?_) hs
  exact store_ok I1 hN hi hx r1 (fun s2 I2 => ⟨_, H1, I2, q1⟩) hf
noncomputable def xRet (te : TEX) : TSX := fun D E σ H => te σ H D.rt (E σ)
noncomputable def xOf (t : TS) : TSX := fun D _ σ H => t D σ H
noncomputable def xSeq (t u : TSX) : TSX := fun D E σ H => t { D with nx := u D E } E σ H
theorem pssx_one (h1 : PSX X st tx) : PSsX X [st] tx := by
  intro pins s σ H D E I h
  refine wpAny_execs_cons (thn (h1 pins s σ H D E I h) fun f s1 q => ?_)
  cases f with
  | next => exact wpAny_execs_nil q
  | ret v => exact q
  | brk => exact q
  | cont => exact q
end
/-! ### the exception lands -/
set_option genInjectivity false in
structure Land (X : Cx) (H : Hp) (s : Shared) (a T : Addr) (cls : Value) (dx : Option Addr) (H' : Hp) (s' : Shared) : Prop where
  os : s'.os = s.os
  bare : AllBare s'.gens
  un : Un (frs X.stack) [] H H' s.heap s'.heap
  hok : HOk X.prog X.w H' s'.heap
  fa : s.heap.get? a = none
  fT : s.heap.get? T = none
  na : H' a = none
  nT : H' T = none
  ex : ExcIs s'.heap a cls dx .none T
section
variable {X : Cx} {pins : List (Addr × Obj)} {σ : St} {H H' : Hp} {s s' : Shared} {a T : Addr} {cls : Value} {dx : Option Addr} {M : Model} {A : Around} {E : Value → Shared → Prop}
theorem Land.inv (L : Land X H s a T cls dx H' s') (I : Inv X pins σ H s) : Inv X pins σ H' s' := I.call' (ch := []) L.os L.un L.hok L.bare fun b hb => absurd hb (by simp)
theorem Land.left {h' : Heap} (L : Land X H s a T cls dx H' s') (I : Inv X pins σ H s) (x : LeftX (frs X.stack) a T cls dx .none s'.heap h') : ∃ T', Land X H s a T' cls dx H' { s' with heap := h' } := by
  have J := L.inv I
  have na : ∀ b o, s.heap.get? b = some o → b ≠ a := fun b o e z => by rw [z, L.fa] at e; cases e
  have nT : ∀ b o, s.heap.get? b = some o → b ≠ T := fun b o e z => by rw [z, L.fT] at e; cases e
  obtain ⟨T', hT, y⟩ := x.exc
  have hT' : s.heap.get? T' = none := by
    cases q : s.heap.get? T' with
    | none => rfl
    | some o =>
      obtain ⟨o', q'⟩ := L.un.there T' o q (by simp)
      exact absurd (Nat.lt_of_lt_of_le (Heap.lt_size q') hT) (Nat.lt_irrefl _)
  refine ⟨T', L.os, L.bare, ⟨fun b o e n hb hx => x.keep b o hb (na b o e) (nT b o e) (L.un.keep b o e n hb hx), fun b o e n hb hx => ?_, L.un.free, fun b o e hx => ?_, L.un.tups, L.un.frzs, L.un.tbls⟩, ?_, L.fa, hT', L.na, L.hok.fresh hT, y⟩
  · obtain ⟨sl, q⟩ := L.un.slot b o e n hb hx
    obtain ⟨sl2, q2⟩ := x.slot b _ hb (na b o e) (nT b o e) q
    exact ⟨sl2, q2⟩
  · obtain ⟨o', q⟩ := L.un.there b o e hx
    exact x.there b o' q
  · refine L.hok.tracked fun b o u hb q => x.keep b o (fun z => ?_) (fun z => by rw [z, L.na] at hb; cases hb) (fun z => by rw [z, L.nT] at hb; cases hb) q
    have := J.stkFree b z
    rw [this] at hb; cases hb
theorem Land.off {h' : Heap} (L : Land X H s a T cls dx H' s') (k : ∀ b o, b ≠ T → s'.heap.get? b = some o → h'.get? b = some o) (hT : ∃ o, h'.get? T = some o) (y : ExcIs h' a cls dx .none T) : Land X H s a T cls dx H' { s' with heap := h' } := by
  have nT : ∀ b o, s.heap.get? b = some o → b ≠ T := fun b o e z => by rw [z, L.fT] at e; cases e
  refine ⟨L.os, L.bare, ⟨fun b o e n hb hx => k b o (nT b o e) (L.un.keep b o e n hb hx), fun b o e n hb hx => ?_, L.un.free, fun b o e hx => ?_, L.un.tups, L.un.frzs, L.un.tbls⟩, ?_, L.fa, L.fT, L.na, L.nT, y⟩
  · obtain ⟨sl, q⟩ := L.un.slot b o e n hb hx
    exact ⟨sl, k b _ (nT b o e) q⟩
  · obtain ⟨o', q⟩ := L.un.there b o e hx
    exact ⟨o', k b o' (nT b o e) q⟩
  · exact L.hok.tracked fun b o u hb q => k b o (fun z => by rw [z, L.nT] at hb; cases hb) q
theorem Land.track {C : Addr} (L : Land X H s a T (.ref C) dx H' s') (I : Inv X pins σ H s) : Inv X pins σ (upd H' a (XO a C dx)) s' := by
  have na : ∀ b o, s.heap.get? b = some o → b ≠ a := fun b o e z => by rw [z, L.fa] at e; cases e
  have up : ∀ b u, H' b = some u → upd H' a (XO a C dx) b = some u := fun b u q => by rw [upd_ne (ne_of_none q L.na)]; exact q
  refine I.call' (ch := []) L.os ⟨L.un.keep, L.un.slot, fun b o e n hx => ?_, L.un.there, fun b xs q => up b _ (L.un.tups b xs q), fun b o u q => up b _ (L.un.frzs b o u q), fun b ps q => ?_⟩ (fun b u q => ?_) L.bare fun b hb => absurd hb (by simp)
  · rw [upd_ne (na b o e)]; exact L.un.free b o e n hx
  · obtain ⟨m, z⟩ := L.un.tbls b ps q
    exact ⟨m, up b _ z⟩
  · by_cases hb : b = a
    · subst hb; rw [upd_same] at q; cases q; exact XO.ok L.ex
    · rw [upd_ne hb] at q
      exact (L.hok b u q).stay (fun c v _ q => q) (fun c q => up c _ q) fun c xs q => up c _ q
noncomputable def DxOk (dx : Option Addr) (H : Hp) : Prop := dx = none ∨ ∃ d fs, dx = some d ∧ H d = some (.xd fs)
theorem Land.inst {C : Addr} (L : Land X H s a T (.ref C) dx H' s') (hd : DxOk dx H') : ∃ ox od, PySem.W.InstAt s'.heap a ox C od := by
  obtain ⟨oe, vs, oT, ts, he, hc, hdx, hdt, _⟩ := L.ex
  rcases hd with e | ⟨d, fs, e, hd⟩
  · refine ⟨oe, none, he, hc, ?_, ?_⟩
    · unfold PySem.W.notCls; rw [hdt]
    · rw [hdx, e]; trivial
  · obtain ⟨o, q⟩ := (L.hok d _ hd).there
    refine ⟨oe, some o, he, hc, ?_, ?_⟩
    · unfold PySem.W.notCls; rw [hdt]
    · rw [hdx, e]; exact q
theorem land_note {R : Shared → Prop} (hst : X.stack = X.env :: X.outer) (hfr : X.env.frame = some X.env.locals) (L : Land X H s a T cls dx H' s') (I : Inv X pins σ H s)
    (h : ∀ T' s3, Land X H s a T' cls dx H' s3 → R s3) : wpAny M X.A (noteFrame (.ref a) X.env) (fun _ s2 => wpAny M X.A (setFlight (.ref a) none) (fun _ s3 => R s3) E s2) E s' := by
  have J := L.inv I
  refine note_next (base := X.base) (by rw [J.ok.frames, hst]) (by rw [← hst]; exact J.stack) hfr L.ex fun h1 x => ?_
  obtain ⟨T1, hT, y⟩ := x.exc
  refine flight_off (s := { s' with heap := h1 }) y fun h2 k hT2 z => ?_
  obtain ⟨T2, L2⟩ := L.left (h' := h2) I (by rw [hst]; exact x.off hT k hT2 z)
  exact h T2 _ L2
theorem name_gone {i : Nat} {n : Str} {pos : Pos} {Q : Unit → Shared → Prop} (I : Inv X pins σ H s) (hN : X.N.Nodup) (hi : X.N[i]? = some n) (hk : X.env.scope.names.lookup n = some .local) (h : ∀ s', Inv X pins (σ.set i none) H s' → Q () s') :
    wpAny M A (do bindName X.env n .none; unbindBehindTheSuite X.env n pos) Q E s := by
  obtain ⟨m, hn, hl⟩ := id I.loc
  have hcls : (X.env.scope.kind == .class || (X.env.scope.kind == .module && X.env.locals != X.env.globals)) = false := by rw [I.ok.kind]; rfl
  have hiσ : i < σ.length := by rw [I.len]; exact (List.getElem?_eq_some_iff.mp hi).1
  have cne := I.cne
  refine wpAny_nameGoes_keeps hk hn hcls fun h' v hn' hs => ?_
  obtain ⟨oL, _, _, hoL, _⟩ := id hn
  refine h _ ⟨I.ok, I.os, I.bare, ⟨fun b o e n hb hx => ?_, fun b o e n hb hx => ?_, I.base.free, fun b o e hx => ?_, I.base.tups, I.base.frzs, I.base.tbls⟩, ⟨_, hn', fun j y v' e1 e2 e3 => ?_⟩, fun y c e => ?_, I.free, I.freeC, fun p hp => ?_, fun b ob e => ?_, by simpa using I.len⟩
  · exact (hs.2 b (Nat.ne_of_lt (Nat.lt_of_lt_of_le (Heap.lt_size e) I.ok.above))).trans (I.base.keep b o e n hb hx)
  · obtain ⟨sl, e1⟩ := I.base.slot b o e n hb hx
    exact ⟨sl, (hs.2 b (Nat.ne_of_lt (Nat.lt_of_lt_of_le (Heap.lt_size e) I.ok.above))).trans e1⟩
  · obtain ⟨o', e1⟩ := I.base.there b o e hx
    exact ⟨o', (hs.2 b (Nat.ne_of_lt (Nat.lt_of_lt_of_le (Heap.lt_size e) I.ok.above))).trans e1⟩
  · by_cases hj : j = i
    · subst hj
      rw [List.getElem?_set_self hiσ] at e2
      cases e2
    · rw [List.getElem?_set_ne (Ne.symm hj)] at e2
      obtain ⟨u', r', q⟩ := hl j y v' e1 e2 e3
      refine ⟨u', r', ?_⟩
      rcases q with ⟨k, e⟩ | ⟨k, c, e, z⟩
      · refine .inl ⟨k, ?_⟩
        have : y ≠ n := fun e => hj (nodup_ix hN e1 (e ▸ hi))
        simp [this, e]
      · exact .inr ⟨k, c, e, z.sameBut hs (cne y c e)⟩
  · obtain ⟨w', z⟩ := I.cell y c e
    exact ⟨w', z.sameBut hs (cne y c e)⟩
  · obtain ⟨e, n, ne, nf, d⟩ := I.pin p hp
    exact ⟨(hs.2 p.1 ne).trans e, n, ne, nf, d⟩
  · refine (I.hok b ob e).stay (fun c w' hc q => (hs.2 c ?_).trans q) (fun _ q => q) fun _ _ q => q
    rintro rfl
    have fr := I.free
    rcases hc with rfl | hc
    · rw [fr] at e; cases e
    · rw [fr] at hc; cases hc
end
/-! ### the rule -/
noncomputable def un1 (i : Nat) (D : Ends) : Ends := { nx := fun σ H => D.nx (σ.set i none) H, rt := D.rt, bk := fun σ H => D.bk (σ.set i none) H, ct := fun σ H => D.ct (σ.set i none) H }
noncomputable def tTryAs (K : PySem.W.Frag) (B : Addr) (i : Nat) (tb : TSX) (th : TS) : TS := fun D σ H =>
  tb D (fun σ' cls dx H' => ∃ C, cls = .ref C ∧ Catch K B C ∧ DxOk dx H' ∧ ∀ a, H' a = none → th (un1 i D) (σ'.set i (some (.ref a))) (upd H' a (XO a C dx))) σ H
noncomputable def tTry0 (K : PySem.W.Frag) (B : Addr) (tb : TSX) (th : TS) : TS := fun D σ H =>
  tb D (fun σ' cls dx H' => ∃ C, cls = .ref C ∧ Catch K B C ∧ DxOk dx H' ∧ th D σ' H') σ H
section
variable {X : Cx} {body suite : List Stmt} {b₀ : Stmt} {x n : Str} {B : Addr} {i : Nat} {np hpos pos : Pos} {tb : TSX} {th : TS}
theorem ps_tryAs (hst : X.stack = X.env :: X.outer) (hfr : X.env.frame = some X.env.locals) (hN : X.N.Nodup) (hi : X.N[i]? = some n) (hlo : X.env.scope.names.lookup n = some .local) (hg : Gl X x) (hm : X.mg x = some (.ref B)) (hb : PSsX X body tb)
    (hs : ∀ a, PSs (X.hand a) (b₀ :: suite) th) (hd : (x == ("__debug__" : Str)) = false := by decide) : PS X (.Try body [.ExceptHandler (some (.Name x np)) (some n) (b₀ :: suite) hpos] [] [] pos) (tTryAs X.K B i tb th) := by
  intro pins s σ H D I h
  refine wpAny_Try_except (wpAny_mono (hb pins s σ H D _ I h) (fun f s1 q => ?_) fun e s1 hx => ?_)
  · cases f with
    | next => exact wpAny_execs_nil q
    | ret v => exact q
    | brk => exact q
    | cont => exact q
  · obtain ⟨σ1, H1, s2, I1, a, T, cls, dx, H', rfl, ho, hg', u, hok, ha, hT, hHa, hHT, y, C, rfl, hcat, hdx, hth⟩ := hx
    have L : Land X H1 s2 a T (.ref C) dx H' s1 := ⟨ho, hg', u, hok, ha, hT, hHa, hHT, y⟩
    refine land_note hst hfr L I1 fun T3 s3 L3 => ?_
    have J := L3.inv I1
    obtain ⟨ox, od, ins⟩ := L3.inst hdx
    refine wpAny_handleBy_cons (codeAny_handlers_test (ld_glob (X := X.hand a) (J.hand a) hg hm ?_ hd)) (by intro q; cases q)
    refine excMatches_in J.kIn ins hcat ?_
    refine codeAny_handlers_suite_as ?_
    refine flight_off L3.ex fun h4 k4 hT4 y4 => ?_
    have J4 := (L3.off k4 hT4 y4).track I1
    refine store_ok (X := X.hand a) (J4.hand a) hN hi (.inl hlo) (v := .ref a) rfl (fun s5 I5 => ?_) (.inr hlo)
    refine noE (thn (hs a pins s5 _ _ (un1 i D) I5 (hth a hHa)) fun f s6 q => ?_)
    have ok := I.ok
    cases f with
    | next =>
      obtain ⟨σ', H2, I6, q⟩ := q
      exact name_gone (I6.unhand ok) hN hi hlo fun s7 I7 => ⟨_, H2, I7, q⟩
    | brk =>
      obtain ⟨σ', H2, I6, q⟩ := q
      exact name_gone (I6.unhand ok) hN hi hlo fun s7 I7 => ⟨_, H2, I7, q⟩
    | cont =>
      obtain ⟨σ', H2, I6, q⟩ := q
      exact name_gone (I6.unhand ok) hN hi hlo fun s7 I7 => ⟨_, H2, I7, q⟩
    | ret v =>
      obtain ⟨v', σ', H2, I6, r, q⟩ := q
      exact name_gone (I6.unhand ok) hN hi hlo fun s7 I7 => ⟨v', _, H2, I7, r, q⟩
theorem ps_tryAsK {K : PySem.W.Frag} (e : X.K = K) (hst : X.stack = X.env :: X.outer) (hfr : X.env.frame = some X.env.locals) (hN : X.N.Nodup) (hi : X.N[i]? = some n) (hlo : X.env.scope.names.lookup n = some .local) (hg : Gl X x) (hm : X.mg x = some (.ref B)) (hb : PSsX X body tb)
    (hs : ∀ a, PSs (X.hand a) (b₀ :: suite) th) (hd : (x == ("__debug__" : Str)) = false := by decide) : PS X (.Try body [.ExceptHandler (some (.Name x np)) (some n) (b₀ :: suite) hpos] [] [] pos) (tTryAs K B i tb th) := e ▸ ps_tryAs hst hfr hN hi hlo hg hm hb hs hd
end
end L2

/-! texts put together: f"..", join; isinstance of a caught error, of a tuple of classes -/
namespace L2
open PySem PySem.Spec PyProof.Rows
section
variable {X : Cx}
noncomputable def Sg (z : Str) : Prop := ∀ c ∈ z.cps.toList, c < 16 ^ 8
noncomputable def tRepr (t : TE) : TE := fun σ H Q => t σ H fun x H1 => ∃ z, x = .str z ∧ (reprText z).length ≤ sizeLine ∧ Q (.str (reprText z)) H1
theorem pe_repr {e : Expr} {t : TE} {pos : Pos} (he : PE X e t) : PE X (.FormattedValue e 114 none pos) (tRepr t) := by
  intro pins s σ H Q I h
  refine wpAny_FormattedValue_repr (thn (he pins s σ H _ I h) fun v s1 ⟨x, H1, I1, r1, z, ez, hz, q⟩ => ?_)
  subst ez
  obtain ⟨t', rfl⟩ := r1
  refine pyReprObj_str ?_ hz
  exact formatField_str (fun t'' tk => ⟨.str (reprText z), H1, I1.tok tk, ⟨t'', rfl⟩, q⟩) hz
noncomputable def tFmt (t : TE) : TE := fun σ H Q => t σ H fun x H1 => (∃ z, x = .str z ∧ z.length ≤ sizeLine ∧ Q (.str z) H1) ∨ ∃ i : Int, x = .int i ∧ i.natAbs.log2 < 1920 ∧ Q (.str (toString i)) H1
noncomputable abbrev TJ := Str → St → Hp → VK → Prop
noncomputable def PJ (X : Cx) (es : List Expr) (t : TJ) : Prop := ∀ (acc : Str) (pins : List (Addr × Obj)) (s : Shared) (σ : St) (H : Hp) (Q : VK), Inv X pins σ H s → t acc σ H Q →
  wpAny (model X.prog X.w) X.A (joinParts acc (evalEach es X.env)) (EP X pins σ Q) X.xe s
noncomputable def jNil : TJ := fun acc _ H Q => acc.length ≤ sizeLine ∧ Q (.str acc) H
noncomputable def jCons (t : TE) (u : TJ) : TJ := fun acc σ H Q => t σ H fun x H1 => ∃ y, x = .str y ∧ (acc ++ y).length ≤ sizeLine ∧ u (acc ++ y) σ H1 Q
theorem pj_nil : PJ X [] jNil := fun acc pins s σ H Q I h => joinParts_nilE (joinParts_nil ⟨.str acc, H, I.tok _, ⟨_, rfl⟩, h.2⟩ h.1)
theorem pj_cons {e : Expr} {es : List Expr} {t : TE} {u : TJ} (he : PE X e t) (hr : PJ X es u) : PJ X (e :: es) (jCons t u) := by
  intro acc pins s σ H Q I h
  refine joinParts_consE (joinParts_cons (thn (he pins s σ H _ I h) fun v s1 ⟨x, H1, I1, r1, y, ey, hy, q⟩ => ?_))
  subst ey
  obtain ⟨t', rfl⟩ := r1
  exact ⟨hy, hr (acc ++ y) pins s1 σ H1 Q I1 q⟩
noncomputable def tJoined (t : TJ) : TE := fun σ H Q => t Str.empty σ H Q
theorem pe_joined {v₁ v₂ : Expr} {rest : List Expr} {pos : Pos} {t : TJ} (h : PJ X (v₁ :: v₂ :: rest) t) : PE X (.JoinedStr (v₁ :: v₂ :: rest) pos) (tJoined t) :=
  fun pins s σ H Q I hw => JoinedStr_many (h Str.empty pins s σ H Q I hw)
/-! ### sep.join(list) -/
noncomputable def rJoin (K : PySem.W.Frag) : V → List V → Hp → VK → Prop := fun x vs H Q => ∃ z a zs, x = .str z ∧ vs = [.ref a] ∧ SqL K H a (zs.map V.str) ∧ JoinOk z zs = true ∧ Q (.str (Txt.join z zs)) H
/-! ### isinstance -/
noncomputable def TyX (K : PySem.W.Frag) (H : Hp) (x : V) (t : Value) : Prop := TyOf K H x t ∨ ∃ a C dx, x = .ref a ∧ t = .ref C ∧ H a = some (XO a C dx) ∧ DxOk dx H ∧ XCls K C
noncomputable def vOf : V → Value
  | .ref a => .ref a
  | .ty n => .type n
  | _ => .none
noncomputable def isCl : V → Bool
  | .ref _ => true
  | .ty _ => true
  | _ => false
theorem xo_inst {pins : List (Addr × Obj)} {σ : St} {H : Hp} {s : Shared} {a C : Addr} {dx : Option Addr} (I : Inv X pins σ H s) (e : H a = some (XO a C dx)) (hd : DxOk dx H) : ∃ ox od, PySem.W.InstAt s.heap a ox C od := by
  obtain ⟨⟨ob, vs, he, hc, hdx, hdt⟩, _⟩ := I.hok a _ e
  rcases hd with e | ⟨d, fs, e, hd⟩
  · refine ⟨ob, none, he, hc, ?_, ?_⟩
    · unfold PySem.W.notCls; rw [hdt]
    · rw [hdx, e]; trivial
  · obtain ⟨o, q⟩ := (I.hok d _ hd).there
    refine ⟨ob, some o, he, hc, ?_, ?_⟩
    · unfold PySem.W.notCls; rw [hdt]
    · rw [hdx, e]; exact q
noncomputable def rIsx (K : PySem.W.Frag) : List V → Hp → VK → Prop := fun xs H Q => ∃ x c t b, xs = [x, c] ∧ isCl c = true ∧ TyX K H x t ∧ PySem.W.kitOne K t (vOf c) = some b ∧ Q (.bl b) H
theorem vOf_rel {c : V} {u : Value} (h : isCl c = true) (r : RelV c u) : u = vOf c := by
  cases c <;> first | exact r | cases h
theorem call_isx : CallR X (.builtin "isinstance") (rIsx X.K) := by
  intro pins s σ H xs us Q I r h
  obtain ⟨x, c, t, b, rfl, hc, ty, e, q⟩ := h
  obtain ⟨u, u2, rfl, ru, ru2⟩ := vals2 r
  have e2 := vOf_rel hc ru2
  subst e2
  rcases ty with ty | ⟨a, C, dx, rfl, rfl, ha, hd, xc⟩
  · exact isinst_ok I ru ty e fun tk => ⟨.bl b, H, I.tok tk, rfl, q⟩
  · cases ru
    obtain ⟨ox, od, J⟩ := xo_inst I ha hd
    exact PySem.W.kia_one (kitx_exc xc) I.kIn J e (fun z => nomatch z) fun tk => ⟨.bl b, H, I.tok tk, rfl, q⟩
noncomputable def rIst (K : PySem.W.Frag) : List V → Hp → VK → Prop := fun xs H Q => ∃ x tp cs t b, xs = [x, .ref tp] ∧ H tp = some (.tup cs) ∧ cs.all isCl = true ∧ TyX K H x t ∧ PySem.W.kitAny K t (cs.map vOf) = some b ∧ Q (.bl b) H
theorem call_isxK {K : PySem.W.Frag} (e : X.K = K) : CallR X (.builtin "isinstance") (rIsx K) := e ▸ call_isx
end
section
variable {P : Program} {w : World} {K : PySem.W.Frag} {mg : Str → Option Value} {base : Heap}
theorem Fun.okE {x qual : Str} {st : Stmt} {f : Addr} {fd : FuncData} {N ps : List Str} {k : Nat} {sp : Sp} (F : Fun K x qual st f fd) (S : FnScope N ps (defScope st)) (len : ∀ vs H Q E, sp vs H Q E → vs.length = ps.length)
    (hbody : ∀ (cdv : Value) (A : Around) (outer : List Env) (s : Shared) (H : Hp) (vs : List V) (Q : VK) (E : XK), Room k (A.deeper (envOfC qual (defScope st) s.heap.objs.size f cdv)) → sp vs H Q E →
      ∃ t, PSs (cxOf (CXE P w) P w K mg base N qual (defScope st) f cdv A outer s H E) (defBody st) t ∧ t { nx := fun _ H' => Q .non H', rt := Q } (start N vs) H) : FnOk P w K mg base (CXE P w) (k + 1) f fd ps sp := by
  obtain ⟨oc, od, kV, doc, pm, an, cdv, ct, osl, rfl, lk, hcd⟩ := F.ex
  refine fn_of lk hcd S len fun A outer s H vs Q E hr hsp => ?_
  obtain ⟨t, h, q⟩ := hbody cdv A outer s H vs Q E hr hsp
  exact ⟨t, h, q⟩
end
end L2
namespace L2
end L2
namespace L2
open PySem PySem.Spec PyProof.Rows
theorem repr_le {z : Str} {n : Nat} (h : Sg z) (hz : z.length ≤ n) : (reprText z).length ≤ 10 * n + 2 := Nat.le_trans (StrLaws.reprText_len z h) (by omega)
end L2

/-! pieces that lie in the heap: (name, stretches, names); what is done to the last one -/
namespace L2
open PySem PySem.Spec PyProof.Rows
set_option genInjectivity false in
structure FillM where
  a : Addr
  at_ : Int
  rule : Str
  name : Str
  add : Int
  soft : Bool
set_option genInjectivity false in
structure StM where
  t : Addr
  lw : Addr
  lf : Addr
  kind : Str
  step : Int
  words : List Int
  fills : List FillM
set_option genInjectivity false in
structure ToldM where
  a : Addr
  name : Str
  sort : Str
  st : Int
  off : Int
set_option genInjectivity false in
structure PcM where
  t : Addr
  ls : Addr
  ln : Addr
  name : Str
  sts : List StM
  nms : List ToldM
noncomputable abbrev FillM.v (f : FillM) : V := .ref f.a
noncomputable abbrev StM.v (s : StM) : V := .ref s.t
noncomputable abbrev ToldM.v (n : ToldM) : V := .ref n.a
noncomputable abbrev PcM.v (p : PcM) : V := .ref p.t
noncomputable def FillM.At (H : Hp) (f : FillM) : Prop := H f.a = some (.tup [.int f.at_, .str f.rule, .str f.name, .int f.add, .bl f.soft])
noncomputable def ToldM.At (H : Hp) (n : ToldM) : Prop := H n.a = some (.tup [.str n.name, .str n.sort, .int n.st, .int n.off])
set_option genInjectivity false in
structure StM.At (H : Hp) (s : StM) : Prop where
  top : H s.t = some (.tup [.str s.kind, .int s.step, .ref s.lw, .ref s.lf])
  wd : H s.lw = some (.lst (s.words.map V.int))
  fl : H s.lf = some (.lst (s.fills.map FillM.v))
  fs : ∀ f ∈ s.fills, f.At H
set_option genInjectivity false in
structure PcM.At (H : Hp) (p : PcM) : Prop where
  top : H p.t = some (.tup [.str p.name, .ref p.ls, .ref p.ln])
  sl : H p.ls = some (.lst (p.sts.map StM.v))
  nl : H p.ln = some (.lst (p.nms.map ToldM.v))
  ss : ∀ s ∈ p.sts, s.At H
  ns : ∀ n ∈ p.nms, n.At H
noncomputable def StM.lists (s : StM) : List Addr := [s.lw, s.lf]
noncomputable def PcM.lists (p : PcM) : List Addr := p.ls :: p.ln :: p.sts.flatMap StM.lists
noncomputable def listsOf (ps : List PcM) : List Addr := ps.flatMap PcM.lists
set_option genInjectivity false in
structure Pcs (H : Hp) (L : Addr) (ps : List PcM) : Prop where
  top : H L = some (.lst (ps.map PcM.v))
  at_ : ∀ p ∈ ps, p.At H
  nd : (L :: listsOf ps).Nodup
/-! ### kept -/
theorem FillM.At.mono {H H' : Hp} {f : FillM} (h : f.At H) (e : Same H H') : f.At H' := e _ _ h
theorem ToldM.At.mono {H H' : Hp} {n : ToldM} (h : n.At H) (e : Same H H') : n.At H' := e _ _ h
theorem StM.At.mono {H H' : Hp} {s : StM} (h : s.At H) (e : Same H H') : s.At H' := ⟨e _ _ h.top, e _ _ h.wd, e _ _ h.fl, fun f hf => (h.fs f hf).mono e⟩
theorem PcM.At.mono {H H' : Hp} {p : PcM} (h : p.At H) (e : Same H H') : p.At H' := ⟨e _ _ h.top, e _ _ h.sl, e _ _ h.nl, fun s hs => (h.ss s hs).mono e, fun n hn => (h.ns n hn).mono e⟩
theorem Pcs.mono {H H' : Hp} {L : Addr} {ps : List PcM} (h : Pcs H L ps) (e : Same H H') : Pcs H' L ps := ⟨e _ _ h.top, fun p hp => (h.at_ p hp).mono e, h.nd⟩
noncomputable def But (H H' : Hp) (l : Addr) : Prop := (∃ xs, H l = some (.lst xs)) ∧ ∀ b o, H b = some o → b ≠ l → H' b = some o
theorem But.upd {H : Hp} {l : Addr} {xs : List V} {o : HO} (h : H l = some (.lst xs)) : But H (L2.upd H l o) l := ⟨⟨xs, h⟩, fun b u e n => by rw [upd_ne n]; exact e⟩
theorem But.tup {H H' : Hp} {l a : Addr} {xs : List V} (b : But H H' l) (h : H a = some (.tup xs)) : H' a = some (.tup xs) := by
  obtain ⟨ys, hl⟩ := b.1
  exact b.2 _ _ h fun e => by rw [e, hl] at h; cases h
theorem FillM.At.but {H H' : Hp} {l : Addr} {f : FillM} (h : f.At H) (b : But H H' l) : f.At H' := b.tup h
theorem ToldM.At.but {H H' : Hp} {l : Addr} {n : ToldM} (h : n.At H) (b : But H H' l) : n.At H' := b.tup h
theorem StM.At.but {H H' : Hp} {l : Addr} {s : StM} (h : s.At H) (b : But H H' l) (n : l ∉ s.lists) : s.At H' :=
  ⟨b.tup h.top, b.2 _ _ h.wd fun e => n (by simp [StM.lists, e]), b.2 _ _ h.fl fun e => n (by simp [StM.lists, e]), fun f hf => (h.fs f hf).but b⟩
theorem PcM.At.but {H H' : Hp} {l : Addr} {p : PcM} (h : p.At H) (b : But H H' l) (n : l ∉ p.lists) : p.At H' :=
  ⟨b.tup h.top, b.2 _ _ h.sl fun e => n (by simp [PcM.lists, e]), b.2 _ _ h.nl fun e => n (by simp [PcM.lists, e]),
    fun s hs => (h.ss s hs).but b fun z => n (by simp only [PcM.lists, List.mem_cons]; exact .inr (.inr (List.mem_flatMap.mpr ⟨s, hs, z⟩))), fun m hm => (h.ns m hm).but b⟩
/-! ### the lists are tracked -/
theorem StM.At.list {H : Hp} {s : StM} (h : s.At H) {b : Addr} (hb : b ∈ s.lists) : ∃ xs, H b = some (.lst xs) := by
  simp only [StM.lists, List.mem_cons, List.not_mem_nil, or_false] at hb
  rcases hb with e | e
  · rw [e]; exact ⟨_, h.wd⟩
  · rw [e]; exact ⟨_, h.fl⟩
theorem PcM.At.list {H : Hp} {p : PcM} (h : p.At H) {b : Addr} (hb : b ∈ p.lists) : ∃ xs, H b = some (.lst xs) := by
  simp only [PcM.lists, List.mem_cons] at hb
  rcases hb with e | e | e
  · rw [e]; exact ⟨_, h.sl⟩
  · rw [e]; exact ⟨_, h.nl⟩
  · obtain ⟨s, hs, z⟩ := List.mem_flatMap.mp e
    exact (h.ss s hs).list z
theorem Pcs.list {H : Hp} {L : Addr} {ps : List PcM} (h : Pcs H L ps) {b : Addr} (hb : b ∈ L :: listsOf ps) : ∃ xs, H b = some (.lst xs) := by
  rcases List.mem_cons.mp hb with e | e
  · rw [e]; exact ⟨_, h.top⟩
  · obtain ⟨p, hp, z⟩ := List.mem_flatMap.mp e
    exact (h.at_ p hp).list z
theorem Pcs.fresh {H : Hp} {L : Addr} {ps : List PcM} (h : Pcs H L ps) {b : Addr} (hb : H b = none) : b ∉ L :: listsOf ps := fun z => by
  obtain ⟨xs, e⟩ := h.list z
  rw [hb] at e; cases e
theorem listsOf_snoc (ps : List PcM) (p : PcM) : listsOf (ps ++ [p]) = listsOf ps ++ p.lists := by simp [listsOf, List.flatMap_append]
theorem Pcs.apart {H : Hp} {L : Addr} {ps : List PcM} {p : PcM} (h : Pcs H L (ps ++ [p])) : (∀ q ∈ ps, ∀ b ∈ p.lists, b ∉ q.lists) ∧ p.lists.Nodup ∧ L ∉ p.lists ∧ ∀ q ∈ ps, L ∉ q.lists := by
  have n := h.nd
  rw [listsOf_snoc] at n
  obtain ⟨n1, n2⟩ := List.nodup_cons.mp n
  obtain ⟨n3, n4, n5⟩ := List.nodup_append.mp n2
  refine ⟨fun q hq b hb z => n5 b (List.mem_flatMap.mpr ⟨q, hq, z⟩) b hb rfl, n4, fun z => n1 (List.mem_append_right _ z), fun q hq z => n1 (List.mem_append_left _ (List.mem_flatMap.mpr ⟨q, hq, z⟩))⟩
/-! ### what is done -/
theorem Pcs.nil {H : Hp} {L : Addr} (h : H L = some (.lst [])) : Pcs H L [] := ⟨h, fun p hp => absurd hp (by simp), by simp [listsOf]⟩
theorem Pcs.newPiece {H : Hp} {L t ls ln : Addr} {nm : Str} {ps : List PcM} (h : Pcs H L ps) (h1 : H t = some (.tup [.str nm, .ref ls, .ref ln])) (h2 : H ls = some (.lst [])) (h3 : H ln = some (.lst [])) (n1 : ls ≠ ln)
    (n2 : ls ∉ L :: listsOf ps) (n3 : ln ∉ L :: listsOf ps) : Pcs (upd H L (.lst (ps.map PcM.v ++ [.ref t]))) L (ps ++ [⟨t, ls, ln, nm, [], []⟩]) := by
  have b : But H (upd H L (.lst (ps.map PcM.v ++ [.ref t]))) L := But.upd h.top
  have nL := (List.nodup_cons.mp h.nd).1
  refine ⟨by rw [upd_same]; simp, fun p hp => ?_, ?_⟩
  · rcases List.mem_append.mp hp with z | z
    · exact (h.at_ p z).but b fun q => nL (List.mem_flatMap.mpr ⟨p, z, q⟩)
    · have e := List.mem_singleton.mp z
      subst e
      refine ⟨b.tup h1, b.2 _ _ h2 fun (e : ls = L) => n2 (e ▸ List.mem_cons_self), b.2 _ _ h3 fun (e : ln = L) => n3 (e ▸ List.mem_cons_self), fun s hs => absurd hs (by simp), fun n hn => absurd hn (by simp)⟩
  · rw [listsOf_snoc]
    show (L :: (listsOf ps ++ [ls, ln])).Nodup
    rw [← List.cons_append]
    refine List.nodup_append.mpr ⟨h.nd, by simp [n1], fun x hx y hy e => ?_⟩
    subst e
    simp only [List.mem_cons, List.not_mem_nil, or_false] at hy
    rcases hy with e | e
    · subst e; exact n2 hx
    · subst e; exact n3 hx
theorem Pcs.last {H : Hp} {L l : Addr} {ps : List PcM} {p p' : PcM} {o : HO} (h : Pcs H L (ps ++ [p])) (hl : l ∈ p.lists) (ht : p'.t = p.t) (hp : p'.At (upd H l o)) (hn : (L :: listsOf (ps ++ [p'])).Nodup) : Pcs (upd H l o) L (ps ++ [p']) := by
  obtain ⟨a1, a2, a3, a4⟩ := h.apart
  obtain ⟨xs, hx⟩ := (h.at_ p (by simp)).list hl
  have b : But H (upd H l o) l := But.upd hx
  refine ⟨?_, fun q hq => ?_, hn⟩
  · rw [b.2 _ _ h.top fun e => a3 (by rw [e]; exact hl)]
    simp [PcM.v, ht]
  · rcases List.mem_append.mp hq with z | z
    · exact (h.at_ q (List.mem_append_left _ z)).but b (a1 q z l hl)
    · rw [List.mem_singleton.mp z]; exact hp
theorem Pcs.newStretch {H : Hp} {L t lw lf : Addr} {kind : Str} {step : Int} {ps : List PcM} {p : PcM} (h : Pcs H L (ps ++ [p])) (h1 : H t = some (.tup [.str kind, .int step, .ref lw, .ref lf])) (h2 : H lw = some (.lst [])) (h3 : H lf = some (.lst []))
    (n1 : lw ≠ lf) (n2 : lw ∉ L :: listsOf (ps ++ [p])) (n3 : lf ∉ L :: listsOf (ps ++ [p])) :
    Pcs (upd H p.ls (.lst (p.sts.map StM.v ++ [.ref t]))) L (ps ++ [{ p with sts := p.sts ++ [⟨t, lw, lf, kind, step, [], []⟩] }]) := by
  have hp := h.at_ p (by simp)
  obtain ⟨a1, a2, a3, a4⟩ := h.apart
  have b : But H (upd H p.ls (.lst (p.sts.map StM.v ++ [.ref t]))) p.ls := But.upd hp.sl
  have in1 : ∀ x, x ∈ p.lists → x ∈ L :: listsOf (ps ++ [p]) := fun x hx => List.mem_cons_of_mem _ (by rw [listsOf_snoc]; exact List.mem_append_right _ hx)
  have hls : p.ls ∈ p.lists := by simp [PcM.lists]
  have nd : p.ls ≠ p.ln ∧ p.ls ∉ p.sts.flatMap StM.lists := by
    have := a2
    simp only [PcM.lists, List.nodup_cons, List.mem_cons, not_or] at this
    exact this.1
  refine h.last hls rfl ⟨b.tup hp.top, by rw [upd_same]; simp, b.2 _ _ hp.nl (Ne.symm nd.1), fun s hs => ?_, fun n hn => (hp.ns n hn).but b⟩ ?_
  · rcases List.mem_append.mp hs with z | z
    · exact (hp.ss s z).but b fun q => nd.2 (List.mem_flatMap.mpr ⟨s, z, q⟩)
    · have e := List.mem_singleton.mp z
      subst e
      exact ⟨b.tup h1, b.2 _ _ h2 fun (e : lw = p.ls) => n2 (in1 _ (e ▸ hls)), b.2 _ _ h3 fun (e : lf = p.ls) => n3 (in1 _ (e ▸ hls)), fun f hf => absurd hf (by simp)⟩
  · have e : L :: listsOf (ps ++ [{ p with sts := p.sts ++ [⟨t, lw, lf, kind, step, [], []⟩] }]) = (L :: listsOf (ps ++ [p])) ++ [lw, lf] := by
      rw [listsOf_snoc, listsOf_snoc]
      simp [PcM.lists, StM.lists, List.flatMap_append]
    rw [e]
    refine List.nodup_append.mpr ⟨h.nd, by simp [n1], fun x hx y hy e => ?_⟩
    subst e
    simp only [List.mem_cons, List.not_mem_nil, or_false] at hy
    rcases hy with e | e
    · subst e; exact n2 hx
    · subst e; exact n3 hx
theorem Pcs.newTold {H : Hp} {L : Addr} {ps : List PcM} {p : PcM} {n : ToldM} (h : Pcs H L (ps ++ [p])) (h1 : n.At H) : Pcs (upd H p.ln (.lst (p.nms.map ToldM.v ++ [n.v]))) L (ps ++ [{ p with nms := p.nms ++ [n] }]) := by
  have hp := h.at_ p (by simp)
  obtain ⟨a1, a2, a3, a4⟩ := h.apart
  have b : But H (upd H p.ln (.lst (p.nms.map ToldM.v ++ [n.v]))) p.ln := But.upd hp.nl
  have hln : p.ln ∈ p.lists := by simp [PcM.lists]
  have nd : p.ls ≠ p.ln ∧ p.ln ∉ p.sts.flatMap StM.lists := by
    have := a2
    simp only [PcM.lists, List.nodup_cons, List.mem_cons, not_or] at this
    exact ⟨this.1.1, this.2.1⟩
  refine h.last hln rfl ⟨b.tup hp.top, b.2 _ _ hp.sl nd.1, by rw [upd_same]; simp, fun s hs => (hp.ss s hs).but b fun q => nd.2 (List.mem_flatMap.mpr ⟨s, hs, q⟩), fun m hm => ?_⟩ ?_
  · rcases List.mem_append.mp hm with z | z
    · exact (hp.ns m z).but b
    · rw [List.mem_singleton.mp z]; exact h1.but b
  · have := h.nd
    rw [listsOf_snoc] at this ⊢
    exact this
theorem Pcs.lastSt {H : Hp} {L : Addr} {ps : List PcM} {p : PcM} {ss : List StM} {s : StM} (h : Pcs H L (ps ++ [p])) (e : p.sts = ss ++ [s]) : s.lw ∈ p.lists ∧ s.lf ∈ p.lists ∧ s.lw ≠ s.lf ∧ (∀ b ∈ s.lists, b ≠ p.ls ∧ b ≠ p.ln ∧ ∀ r ∈ ss, b ∉ r.lists) := by
  obtain ⟨a1, a2, a3, a4⟩ := h.apart
  have hs : s ∈ p.sts := by rw [e]; simp
  have m : ∀ b ∈ s.lists, b ∈ p.sts.flatMap StM.lists := fun b hb => List.mem_flatMap.mpr ⟨s, hs, hb⟩
  have m' : ∀ b ∈ s.lists, b ∈ p.lists := fun b hb => by simp only [PcM.lists, List.mem_cons]; exact .inr (.inr (m b hb))
  simp only [PcM.lists, List.nodup_cons, List.mem_cons, not_or] at a2
  obtain ⟨⟨_, b1⟩, b2, b3⟩ := a2
  rw [e, List.flatMap_append] at b3
  obtain ⟨_, c2, c3⟩ := List.nodup_append.mp b3
  have c2' : s.lists.Nodup := by simpa using c2
  refine ⟨m' _ (by simp [StM.lists]), m' _ (by simp [StM.lists]), ?_, fun b hb => ⟨fun z => b1 (z ▸ m b hb), fun z => b2 (z ▸ m b hb), fun r hr z => c3 b (List.mem_flatMap.mpr ⟨r, hr, z⟩) b (by simpa using hb) rfl⟩⟩
  simpa [StM.lists] using c2'
theorem Pcs.newFill {H : Hp} {L : Addr} {ps : List PcM} {p : PcM} {ss : List StM} {s : StM} {f : FillM} (h : Pcs H L (ps ++ [p])) (e : p.sts = ss ++ [s]) (h1 : f.At H) :
    Pcs (upd H s.lf (.lst (s.fills.map FillM.v ++ [f.v]))) L (ps ++ [{ p with sts := ss ++ [{ s with fills := s.fills ++ [f] }] }]) := by
  have hp := h.at_ p (by simp)
  obtain ⟨m1, m2, n1, n2⟩ := h.lastSt e
  have hs : s.At H := hp.ss s (by rw [e]; simp)
  have b : But H (upd H s.lf (.lst (s.fills.map FillM.v ++ [f.v]))) s.lf := But.upd hs.fl
  obtain ⟨q1, q2, q3⟩ := n2 s.lf (by simp [StM.lists])
  refine h.last m2 rfl ⟨b.tup hp.top, ?_, b.2 _ _ hp.nl (Ne.symm q2), fun r hr => ?_, fun n hn => (hp.ns n hn).but b⟩ ?_
  · rw [b.2 _ _ hp.sl (Ne.symm q1), e]; simp [StM.v]
  · rcases List.mem_append.mp hr with z | z
    · exact (hp.ss r (by rw [e]; exact List.mem_append_left _ z)).but b (q3 r z)
    · have er := List.mem_singleton.mp z
      subst er
      refine ⟨b.tup hs.top, b.2 _ _ hs.wd n1, by rw [upd_same]; simp, fun g hg => ?_⟩
      rcases List.mem_append.mp hg with y | y
      · exact (hs.fs g y).but b
      · rw [List.mem_singleton.mp y]; exact h1.but b
  · have := h.nd
    rw [listsOf_snoc] at this ⊢
    simp only [PcM.lists, e, List.flatMap_append] at this ⊢
    exact this
theorem Pcs.newWord {H : Hp} {L : Addr} {ps : List PcM} {p : PcM} {ss : List StM} {s : StM} {i : Int} (h : Pcs H L (ps ++ [p])) (e : p.sts = ss ++ [s]) :
    Pcs (upd H s.lw (.lst (s.words.map V.int ++ [.int i]))) L (ps ++ [{ p with sts := ss ++ [{ s with words := s.words ++ [i] }] }]) := by
  have hp := h.at_ p (by simp)
  obtain ⟨m1, m2, n1, n2⟩ := h.lastSt e
  have hs : s.At H := hp.ss s (by rw [e]; simp)
  have b : But H (upd H s.lw (.lst (s.words.map V.int ++ [.int i]))) s.lw := But.upd hs.wd
  obtain ⟨q1, q2, q3⟩ := n2 s.lw (by simp [StM.lists])
  refine h.last m1 rfl ⟨b.tup hp.top, ?_, b.2 _ _ hp.nl (Ne.symm q2), fun r hr => ?_, fun n hn => (hp.ns n hn).but b⟩ ?_
  · rw [b.2 _ _ hp.sl (Ne.symm q1), e]; simp [StM.v]
  · rcases List.mem_append.mp hr with z | z
    · exact (hp.ss r (by rw [e]; exact List.mem_append_left _ z)).but b (q3 r z)
    · have er := List.mem_singleton.mp z
      subst er
      exact ⟨b.tup hs.top, by rw [upd_same]; simp, b.2 _ _ hs.fl (Ne.symm n1), fun g hg => (hs.fs g hg).but b⟩
  · have := h.nd
    rw [listsOf_snoc] at this ⊢
    simp only [PcM.lists, e, List.flatMap_append] at this ⊢
    exact this
end L2
namespace L2
open PySem PySem.Spec PyProof.Rows
/-! ### as data -/
noncomputable def FillM.d (f : FillM) : D := .tup [.int f.at_, .str f.rule, .str f.name, .int f.add, .bl f.soft]
noncomputable def StM.d (s : StM) : D := .tup [.str s.kind, .int s.step, .lst (s.words.map D.int), .lst (s.fills.map FillM.d)]
noncomputable def ToldM.d (n : ToldM) : D := .tup [.str n.name, .str n.sort, .int n.st, .int n.off]
noncomputable def PcM.d (p : PcM) : D := .tup [.str p.name, .lst (p.sts.map StM.d), .lst (p.nms.map ToldM.d)]
theorem RepL.map {K : PySem.W.Frag} {H : Hp} {α : Type} {f : α → D} {g : α → V} : ∀ {xs : List α}, (∀ x ∈ xs, Rep K H (f x) (g x)) → RepL K H (xs.map f) (xs.map g)
  | [], _ => by simp [RepL]
  | x :: xs, h => by
    simp only [List.map_cons, RepL]
    exact ⟨_, _, rfl, h x (List.mem_cons_self ..), RepL.map fun y hy => h y (List.mem_cons_of_mem _ hy)⟩
theorem FillM.At.rep {K : PySem.W.Frag} {H : Hp} {f : FillM} (h : f.At H) : Rep K H f.d f.v := by
  simp only [FillM.d, Rep]
  exact ⟨_, _, rfl, SqT.of h, by simp [RepL, Rep]⟩
theorem ToldM.At.rep {K : PySem.W.Frag} {H : Hp} {n : ToldM} (h : n.At H) : Rep K H n.d n.v := by
  simp only [ToldM.d, Rep]
  exact ⟨_, _, rfl, SqT.of h, by simp [RepL, Rep]⟩
theorem StM.At.rep {K : PySem.W.Frag} {H : Hp} {s : StM} (h : s.At H) : Rep K H s.d s.v := by
  simp only [StM.d, Rep]
  refine ⟨_, _, rfl, SqT.of h.top, ?_⟩
  simp only [RepL, Rep]
  exact ⟨_, _, rfl, rfl, _, _, rfl, rfl, _, _, rfl, ⟨_, _, rfl, SqL.of h.wd, RepL.ints _⟩, _, _, rfl, ⟨_, _, rfl, SqL.of h.fl, RepL.map fun f hf => (h.fs f hf).rep⟩, rfl⟩
theorem PcM.At.rep {K : PySem.W.Frag} {H : Hp} {p : PcM} (h : p.At H) : Rep K H p.d p.v := by
  simp only [PcM.d, Rep]
  refine ⟨_, _, rfl, SqT.of h.top, ?_⟩
  simp only [RepL, Rep]
  exact ⟨_, _, rfl, rfl, _, _, rfl, ⟨_, _, rfl, SqL.of h.sl, RepL.map fun s hs => (h.ss s hs).rep⟩, _, _, rfl, ⟨_, _, rfl, SqL.of h.nl, RepL.map fun n hn => (h.ns n hn).rep⟩, rfl⟩
theorem depL_le {α : Type} {f : α → D} {n : Nat} : ∀ {xs : List α}, (∀ x ∈ xs, dep (f x) ≤ n) → depL (xs.map f) ≤ n
  | [], _ => by simp [depL]
  | x :: xs, h => by
    simp only [List.map_cons, depL]
    exact Nat.max_le.mpr ⟨h x (List.mem_cons_self ..), depL_le fun y hy => h y (List.mem_cons_of_mem _ hy)⟩
theorem dep_fill (f : FillM) : dep f.d ≤ 1 := by simp [FillM.d, dep, depL]
theorem dep_told (n : ToldM) : dep n.d ≤ 1 := by simp [ToldM.d, dep, depL]
theorem dep_st (s : StM) : dep s.d ≤ 3 := by
  have h1 : depL (s.words.map D.int) ≤ 0 := depL_le fun x _ => by simp [dep]
  have h2 : depL (s.fills.map FillM.d) ≤ 1 := depL_le fun x _ => dep_fill x
  simp only [StM.d, dep, depL]
  omega
theorem dep_pc (p : PcM) : dep p.d ≤ 5 := by
  have h1 : depL (p.sts.map StM.d) ≤ 3 := depL_le fun x _ => dep_st x
  have h2 : depL (p.nms.map ToldM.d) ≤ 1 := depL_le fun x _ => dep_told x
  simp only [PcM.d, dep, depL]
  omega
theorem deqL_nil (ds : List D) : deqL ds [] = decide (ds = []) := by cases ds <;> simp [deqL]
theorem Pcs.rep {K : PySem.W.Frag} {H : Hp} {L : Addr} {ps : List PcM} (h : Pcs H L ps) : Rep K H (.lst (ps.map PcM.d)) (.ref L) := by
  simp only [Rep]
  exact ⟨_, _, rfl, SqL.of h.top, RepL.map fun p hp => (h.at_ p hp).rep⟩
noncomputable def StM.core (s : StM) : Str × Int × List Int × List FillM := (s.kind, s.step, s.words, s.fills)
theorem StM.d_core {s r : StM} (h : s.core = r.core) : s.d = r.d := by
  simp only [StM.core, Prod.mk.injEq] at h
  simp [StM.d, h]
theorem map_d_core : ∀ {ss rs : List StM}, ss.map StM.core = rs.map StM.core → ss.map StM.d = rs.map StM.d
  | [], [], _ => rfl
  | [], _ :: _, h => by simp at h
  | _ :: _, [], h => by simp at h
  | s :: ss, r :: rs, h => by
    simp only [List.map_cons, List.cons.injEq] at h ⊢
    exact ⟨StM.d_core h.1, map_d_core h.2⟩
set_option genInjectivity false in
structure PcM.Copy (p q : PcM) : Prop where
  name : q.name = p.name
  nms : q.nms = p.nms
  sts : q.sts.map StM.core = p.sts.map StM.core
theorem PcM.Copy.d {p q : PcM} (h : p.Copy q) : q.d = p.d := by simp [PcM.d, h.name, h.nms, map_d_core h.sts]
theorem pt_never {X : Cx} {e : Expr} : PT X e (fun _ _ _ => False) := fun _ _ _ _ _ _ h => h.elim
end L2

/-! own errors with an __init__ of their own -/
namespace L2
open PySem PySem.Spec PyProof.Rows PySem.W
noncomputable abbrev VE : List Value := [.type "ValueError", .type "Exception", .type "BaseException", .type "object"]
noncomputable def ownInit (K : Frag) (C fI : Addr) : Bool :=
  match K.lookup C with
  | none => false
  | some ob =>
    match ob.cls, ob.data, ob.slots.toList with
    | .type "type", .cls cd, [_, _, _, _, some (.builtin n), _] =>
      (match cd.mro with
       | .ref C' :: bm => C' == C && (n == "ValueError.__new__" && (!cd.hasDel && (tailIn K VE bm && (nsOkIn K cd.ns && (cd.hasDict && nsIn K cd.ns "__init__" == some (some (.ref fI)))))))
       | _ => false)
    | _, _, _ => false
theorem ns_has {K : Frag} {h : Heap} {N : Addr} {m : Str → Option Value} {n : Str} {v : Value} (X : K.In h) (G : h.Ns N m) (e : nsIn K N n = some (some v)) : m n = some v := by
  obtain ⟨o, es, ep, ho, hd, _, hf⟩ := G
  unfold nsIn at e
  split at e
  · rename_i c d es' n' sl q
    have z := X _ _ q
    rw [ho] at z
    cases z
    cases hd
    split at e
    · rename_i en he
      cases e
      rw [← hf]
      unfold nsFind findBy
      rw [← Array.find?_toList, he]
      rfl
    · split at e <;> cases e
  · cases e
theorem init_obj {K : Frag} {h : Heap} {C fI : Addr} (X : K.In h) (q : ownInit K C fI = true) :
    ∃ bm N nm q bs sn sub ab col dd k0 k1 k2 k3 k5 mN, h.get? C = some (excClassObj nm q C N bs bm true sn sub ab col dd k0 k1 k2 k3 k5 "ValueError.__new__") ∧ h.Ns N mN ∧ mN "__init__" = some (.ref fI) ∧ OwnTail h VE bm := by
  unfold ownInit at q
  split at q
  · cases q
  · rename_i ob ho
    split at q
    · rename_i cd _ _ _ _ n _ hc hd hs
      split at q
      · rename_i C' bm hm
        simp only [Bool.and_eq_true, beq_iff_eq, Bool.not_eq_true'] at q
        obtain ⟨rfl, rfl, hdel, ht, hok, hdi, hni⟩ := q
        obtain ⟨oc, odi, oda, osl⟩ := ob
        dsimp only at hc hd hs
        subst hc hd
        obtain ⟨nm, bs, mro, ns, qn, hdd, sn, sub, ab, col, del⟩ := cd
        dsimp only at hm hdel hok hni hdi
        subst hm hdel hdi
        obtain ⟨l⟩ := osl
        simp only at hs
        subst hs
        refine ⟨bm, ns, nm, qn, bs, sn, sub, ab, col, odi, _, _, _, _, _, _, X _ _ ho, .of_isNs (PySem.W.isNs_of_in X hok), ?_, PySem.W.tail_of_in X ht⟩
        exact ns_has X (.of_isNs (PySem.W.isNs_of_in X hok)) hni
      · cases q
    · cases q
section
variable {prog : Program} {w : World} {A : Around} {E : Value → Shared → Prop} {h : Heap} {g : Array GenState} {d : Drawn} {t : Nat} {os : OsState}
variable {nm q : Str} {C N : Addr} {bs bm bmB : List Value} {hdct : Bool} {sn : List Str} {sub : List Value} {ab : Bool} {col : Option Bool} {dd : Option Addr} {k0 k1 k2 k3 k5 : Option Value} {B newId initId : String}
theorem type_call_init (F : ExcBaseFacts B newId initId bmB) (T : OwnTail h bmB bm) {mN : Str → Option Value} {rest : List Value} {fI : Addr} {oI : Obj} {Q : Fin → Shared → Prop}
    (hC : h.get? C = some (excClassObj nm q C N bs bm hdct sn sub ab col dd k0 k1 k2 k3 k5 newId)) (hn : h.Ns N mN) (hi : mN "__init__" = some (.ref fI))
    (hfI : h.get? fI = some oI) (hfc : oI.cls = .type "function")
    (hq : ∀ h' e, h.objs.size ≤ e → Heap.MadeExcOf h h' e (.ref C) rest →
      wpAny (model prog w) A (call (.ref fI) (.ref e :: rest)) (fun r s' => r = .none ∧ Q (.done (.ret (.ref e))) s') E ⟨h', g, d, t, os⟩) (hrest : rest.length ≤ sizeLine) :
    wpAny (model prog w) A (Builtin.«type.__call__» ⟨.ref C :: rest, []⟩) Q E ⟨h, g, d, t, os⟩ := by
  repeat (first | with_reducible refine wpAny_loadPart_at hC ?_ | with_reducible refine wpAny_madeBy_exc hC ?_ | wp_step)
  refine codeAny_call_builtin_code (Code.quiet_builtin _ F.quiet) (wpAny_check_new_subT F T hC ?_)
  refine codeAny_exc_new_subT F T hC ?_ hrest
  show wpAny _ _ _ _ _ _
  have up : ∀ b o, h.get? b = some o → ((h.push { cls := .type "tuple", data := .seq rest.toArray }).push { cls := .ref C, data := .fields #[.ref h.objs.size, .none, .none, .none, .bool false, .none] }).get? b = some o :=
    fun b o e => Heap.get?_push_of_some _ (Heap.get?_push_of_some _ e)
  have hC₁ := up _ _ hC
  have hfI₁ := up _ _ hfI
  have hn₁ := hn.keeps up
  have hget : ((h.push { cls := .type "tuple", data := .seq rest.toArray }).push
      { cls := .ref C, data := .fields #[.ref h.objs.size, .none, .none, .none, .bool false, .none] }).get? (h.objs.size + 1) = some
      { cls := .ref C, data := .fields #[.ref h.objs.size, .none, .none, .none, .bool false, .none] } := by heap_get
  have hcC : (Value.ref C :: bm).contains (.ref C) = true := by simp
  unfold isInstance
  repeat (first | with_reducible refine wpAny_loadPart_at hget ?_ | (with_reducible refine wpAny_isSubtype_exc hC₁ ?_; rw [hcC]) | wp_step)
  show wpAny _ _ (typeLookup (.ref C) _) _ _ _
  refine wpAny_typeLookup_tail hC₁ hn₁ (T.keeps up) F.mroIs F.init.lookup ?_
  rw [hi]
  refine wpAny_holding (wpAny_bind ?_)
  unfold bindSpecial
  refine wpAny_bind (wpAny_typeOf (T := "function") ⟨_, hfI₁, hfc⟩ ?_)
  rw [if_pos (by decide)]
  refine wpAny_pure (wpAny_bind (wpAny_mono (hq _ (h.objs.size + 1) (Nat.le_succ _) ⟨up, Heap.get?_none_of_le (Nat.le_succ _), h.objs.size, hget, Heap.get?_none_of_le (Nat.le_refl _), ?_⟩) (fun r s' hr => ?_) fun _ _ x => x))
  · exact Heap.get?_push_of_some _ (Heap.get?_push_at rfl rfl)
  · obtain ⟨rfl, hQ⟩ := hr
    wp_walk
    exact hQ
theorem call_init (F : ExcBaseFacts B newId initId bmB) (T : OwnTail h bmB bm) {mN : Str → Option Value} {rest : List Value} {fI : Addr} {oI : Obj} {Q : Value → Shared → Prop}
    (hC : h.get? C = some (excClassObj nm q C N bs bm hdct sn sub ab col dd k0 k1 k2 k3 k5 newId)) (hn : h.Ns N mN) (hi : mN "__init__" = some (.ref fI))
    (hfI : h.get? fI = some oI) (hfc : oI.cls = .type "function")
    (hq : ∀ h' e, h.objs.size ≤ e → Heap.MadeExcOf h h' e (.ref C) rest →
      wpAny (model prog w) (A.under (.builtin "type.__call__" ⟨.ref C :: rest, []⟩)) (call (.ref fI) (.ref e :: rest)) (fun r s' => r = .none ∧ Q (.ref e) s') E ⟨h', g, d, t, os⟩) (hrest : rest.length ≤ sizeLine) :
    wpAny (model prog w) A (call (.ref C) rest) Q E ⟨h, g, d, t, os⟩ := by
  have f1 := tc_lookup
  have f2 := tc_bind (.ref C)
  have hT : (⟨h, g, d, t, os⟩ : Shared).TypeIs (.ref C) "type" := ⟨_, hC, rfl⟩
  refine wpAny_call (codeAny_of_tree ?_)
  show wpAny _ _ (callAny (.ref C) _) _ _ _
  repeat (any_goals (first | assumption | with_reducible refine wpAny_loadPart_at hC ?_ | wp_step))
  refine ⟨rfl, ?_⟩
  refine codeAny_call_builtin_at (Code.quiet_builtin _ (by decide +kernel)) entry_typeCall (wpAny_check_type_call_sub hC (type_call_init (hrest := hrest) F T hC hn hi hfI hfc fun h' e hz hm => ?_))
  exact hq h' e hz hm
theorem base_init (F : ExcBaseFacts B newId initId bmB) (T : OwnTail h bmB bm) {e : Addr} {oe : Obj} {vs : Array Value} {v0 : Value} {rest : List Value} {Q : Value → Shared → Prop}
    (hC : h.get? C = some (excClassObj nm q C N bs bm hdct sn sub ab col dd k0 k1 k2 k3 k5 newId)) (he : h.get? e = some oe) (hcls : oe.cls = .ref C) (hd : oe.data = .fields vs) (h0 : vs[0]? = some v0)
    (hq : ∀ h' T, (∀ b o, b ≠ e → h.get? b = some o → h'.get? b = some o) → h'.get? e = some { oe with data := .fields (vs.setIfInBounds 0 T) } → Q .none ⟨h', g, d, t, os⟩) (hrest : rest.length ≤ sizeLine) :
    wpAny (model prog w) A (call (.builtin initId) (.ref e :: rest)) Q E ⟨h, g, d, t, os⟩ := by
  refine wpAny_call (codeAny_call_builtin F.init.plain F.initEntry (wpAny_check_init_subT F T hC he hcls ?_))
  have he1 := Heap.get?_push_of_some { cls := .type "tuple", data := .seq rest.toArray } he
  have hsz := (Array.getElem?_eq_some_iff.mp h0).1
  unfold Builtin.«BaseException.__init__»
  repeat (first | with_reducible refine wpAny_field he1 hd h0 ?_ | with_reducible refine wpAny_setField he1 hd hsz ?_ | wp_step)
  have hd3 : (Obj.mapFields (·.setIfInBounds 0 (Value.ref h.objs.size)) oe).data = .fields (vs.setIfInBounds 0 (Value.ref h.objs.size)) := Obj.data_mapFields hd _
  have e3 := Heap.get?_update_self (Obj.mapFields (·.setIfInBounds 0 (Value.ref h.objs.size))) he1 (Obj.isFreed_of_fields hd3)
  have e4 : Obj.mapFields (·.setIfInBounds 0 (Value.ref h.objs.size)) oe = { oe with data := .fields (vs.setIfInBounds 0 (Value.ref h.objs.size)) } := by
    obtain ⟨oc, od, oda, osl⟩ := oe
    dsimp only at hd
    subst hd
    rfl
  rw [e4] at e3
  have fin := hq _ (.ref h.objs.size) (fun b o hb ho => by rw [Heap.get?_update_other _ _ (Ne.symm hb)]; exact Heap.get?_push_of_some _ ho) e3
  cases v0 <;> repeat (first | exact fin | (unfold letGo; done) | with_reducible exact wpAny_holding (wpAny_point (wpAny_pure ?_)) | wp_step)
end
/-! ### self.f = v of an error that is being made -/
noncomputable def onlyErr : List Value → Bool
  | .ref _ :: r => onlyErr r
  | l => l == VE
noncomputable def errIn (K : Frag) (C : Addr) : Bool := (clsIn K C).any fun cd => cd.hasDict && onlyErr cd.mro
theorem refuse_err (self : Value) : ∀ {l : List Value}, onlyErr l = true → refuseLoop self "__setattr__" l = pure ()
  | .ref c :: r, e => by rw [refuseLoop_ref]; exact refuse_err self (l := r) e
  | [], e => by cases (show ([] : List Value) = VE from beq_iff_eq.mp e)
  | .type n :: r, e => by rw [show (Value.type n :: r) = VE from beq_iff_eq.mp e]; exact PySem.F.store_ValueError.passes self
  | .none :: r, e => nomatch (show (Value.none :: r) = VE from beq_iff_eq.mp e)
  | .bool b :: r, e => nomatch (show (Value.bool b :: r) = VE from beq_iff_eq.mp e)
  | .int b t :: r, e => nomatch (show (Value.int b t :: r) = VE from beq_iff_eq.mp e)
  | .str b t :: r, e => nomatch (show (Value.str b t :: r) = VE from beq_iff_eq.mp e)
  | .bytes b t :: r, e => nomatch (show (Value.bytes b t :: r) = VE from beq_iff_eq.mp e)
  | .float b t :: r, e => nomatch (show (Value.float b t :: r) = VE from beq_iff_eq.mp e)
  | .builtin b :: r, e => nomatch (show (Value.builtin b :: r) = VE from beq_iff_eq.mp e)
theorem err_has : ∀ {l : List Value}, onlyErr l = true → l.contains (.type "object") = true
  | .ref c :: r, e => by rw [List.contains_cons, err_has (l := r) e, Bool.or_true]
  | [], e => by cases (show ([] : List Value) = VE from beq_iff_eq.mp e)
  | .type n :: r, e => by rw [show (Value.type n :: r) = VE from beq_iff_eq.mp e]; decide
  | .none :: r, e => nomatch (show (Value.none :: r) = VE from beq_iff_eq.mp e)
section
variable {prog : Program} {w : World} {A : Around} {E : Value → Shared → Prop} {s : Shared} {K : Frag} {x C : Addr} {R : Result → Shared → Prop}
theorem osa_err {ox : Obj} {od : Option Obj} {name : Str} {tk : Tok} {v : Value} (X : K.In s.heap) (I : InstAt s.heap x ox C od) (hp : errIn K C = true) (hf : findIn K (.ref C) name = some none)
    (h : wpAny (model prog w) A.in1 (Builtin.ObjectAttr.storeInOwnDict (.ref x) (.ref C) (.str name tk) name v false)
      (fun fin s' => match fin with | .done f => R (.ok f) s' | .again c' => c'.quiet = true ∧ codeAny (model prog w) A c' R s') (fun e s' => R (.error e) s') s) :
    codeAny (model prog w) A (.call (.builtin "object.__setattr__") ⟨[.ref x, .str name tk, v], []⟩) R s := by
  have SF := PySem.F.store_object
  obtain ⟨cd, hc, ho⟩ := any_some hp
  rw [Bool.and_eq_true] at ho
  obtain ⟨_, ho⟩ := ho
  have ne : cd.mro.isEmpty = false := by cases q : cd.mro with | nil => rw [q] at ho; cases ho | cons _ _ => rfl
  have sub : Looks (model prog w) s.heap (isInstance (.ref x) (.type "object")) true := I.type.andThen (looks_mroIn X (by unfold mroIn; rw [hc, Option.bind_some, if_neg (by rw [ne]; decide), err_has ho]))
  refine codeAny_call_builtin SF.slot.plain SF.entry (@check_slot (model prog w) _ _ s "object.__setattr__" "object" "__setattr__" (.ref x) [.str name tk, v] [] _ SF.kind SF.split sub (SF.args (.ref x) (.str name tk) v) ?_)
  have hm : Looks (model prog w) s.heap (mroOf (.ref C)) cd.mro := (looks_clsIn X hc).andThen .now
  rw [osa_eq, refuse_eq]
  refine wpAny_bind (wpAny_bind (I.type.here (wpAny_bind (hm.here ?_))))
  rw [refuse_err _ ho]
  refine wpAny_pure (wpAny_bind (I.type.here (wpAny_bind ((looks_findIn X hf).here (wpAny_bind (wpAny_pure ?_))))))
  exact h
theorem set_err0 {ox : Obj} {vs : Array Value} {name : Str} {v : Value} {Q : Unit → Shared → Prop} (X : K.In s.heap) (hx : s.heap.get? x = some ox) (hcl : ox.cls = .ref C) (hdn : ox.dict = none) (hda : ox.data = .fields vs) (hp : errIn K C = true)
    (hs : findIn K (.ref C) "__setattr__" = some (some (.builtin "object.__setattr__"))) (hf : findIn K (.ref C) name = some none)
    (h : ∀ h' tk, h'.get? x = some { ox with dict := some s.heap.objs.size } → h'.Ns1 s.heap.objs.size (fun y => if y = name then some v else none) → (∀ b o, b ≠ x → s.heap.get? b = some o → h'.get? b = some o) → Q () { s with heap := h', toks := tk }) :
    wpAny (model prog w) A (setAttr (.ref x) name v) Q E s := by
  obtain ⟨hh, g, d, t, os⟩ := s
  have J : InstAt hh x ox C none := ⟨hx, hcl, by unfold notCls; rw [hda], by rw [hdn]; trivial⟩
  refine set_plain X J hs (osa_err (s := ⟨hh, g, d, t + 1, os⟩) X J hp hf ?_)
  obtain ⟨cd, hc, ho⟩ := any_some hp
  rw [Bool.and_eq_true] at ho
  refine wpAny_bind (wpAny_pure (wpAny_bind (wpAny_bind (wpAny_loadPart hx ?_))))
  rw [hcl]
  refine wpAny_bind (Looks.here (s := ⟨hh, g, d, t + 1, os⟩) (looks_clsIn X hc) ?_)
  rw [ho.1, hdn, hda]
  rw [if_neg (by decide)]
  dsimp only
  rw [if_neg (by simp [typeHasDict])]
  have hx₁ : (hh.push { cls := .type "dict", data := .dict #[] }).get? x = some ox := Heap.get?_push_of_some _ hx
  have hxs : x ≠ hh.objs.size := Nat.ne_of_lt (Heap.lt_size hx)
  refine wpAny_bind (wpAny_alloc' ?_)
  refine wpAny_bind (wpAny_update' hx₁ ?_)
  refine wpAny_pure ?_
  have hgd : ((hh.push { cls := .type "dict", data := .dict #[] }).update x fun o => { cls := o.cls, dict := some hh.objs.size, data := o.data, slots := o.slots }).get? hh.objs.size
      = some { cls := .type "dict", data := .dict #[] } := (Heap.get?_update_ne _ _ _ _ hxs.symm).trans (Heap.get?_push_at rfl rfl)
  have hnd : ((hh.push { cls := .type "dict", data := .dict #[] }).update x fun o => { cls := o.cls, dict := some hh.objs.size, data := o.data, slots := o.slots }).Ns hh.objs.size (fun _ => none) :=
    ⟨_, #[], _, hgd, rfl, fun e he => absurd he (by simp), fun _ => rfl⟩
  show wpAny _ _ (Builtin.ObjectAttr.storeInDict hh.objs.size (.str name t) name v) _ _ _
  unfold Builtin.ObjectAttr.storeInDict Builtin.ObjectAttr.newKeyGuard
  refine wpAny_bind (wpAny_pure (wpAny_bind (wpAny_nsSet1 (Heap.Ns1.of_empty hnd) fun h' hn' hs => ?_)))
  obtain ⟨oD, esD, epD, hoD, hdD, hcD⟩ := hn'.count (Within.cons name v Within.nil)
  refine wpAny_bind (wpAny_lookBehind hoD (by rw [hdD]; exact pastItsLine_dict (Nat.le_trans hcD (by rw [List.length_cons, List.length_nil, sizeLine_eq]; omega))) ?_)
  refine wpAny_pure (h h' _ ?_ hn' fun b o hb hbo => ?_)
  · refine (hs.2 x hxs).trans (Heap.get?_update_self _ hx₁ ?_)
    obtain ⟨oc, od, odt, osl⟩ := ox
    dsimp only at hda
    subst hda
    rfl
  · exact (hs.2 b (Nat.ne_of_lt (Heap.lt_size hbo))).trans ((Heap.get?_update_ne _ _ _ _ hb).trans (Heap.get?_push_of_some _ hbo))
theorem set_err1 {ox : Obj} {dx : Addr} {mA : Str → Option Value} {vs : Array Value} {name : Str} {v : Value} {ns : List Str} {Q : Unit → Shared → Prop} (X : K.In s.heap) (hx : s.heap.get? x = some ox) (hcl : ox.cls = .ref C) (hdn : ox.dict = some dx) (hda : ox.data = .fields vs)
    (hns : s.heap.Ns1 dx mA) (hp : errIn K C = true) (hs : findIn K (.ref C) "__setattr__" = some (some (.builtin "object.__setattr__"))) (hf : findIn K (.ref C) name = some none) (hw : Within mA ns) (hsz : ns.length ≤ sizeLine)
    (h : ∀ h' tk, h'.Ns1 dx (fun y => if y = name then some v else mA y) → Heap.SameBut dx s.heap h' → Q () { s with heap := h', toks := tk }) :
    wpAny (model prog w) A (setAttr (.ref x) name v) Q E s := by
  obtain ⟨hh, g, d, t, os⟩ := s
  obtain ⟨oD, _, _, hoD, _⟩ := id hns
  have J : InstAt hh x ox C (some oD) := ⟨hx, hcl, by unfold notCls; rw [hda], by rw [hdn]; exact hoD⟩
  refine set_plain X J hs (osa_err (s := ⟨hh, g, d, t + 1, os⟩) X J hp hf ?_)
  obtain ⟨cd, hc, ho⟩ := any_some hp
  rw [Bool.and_eq_true] at ho
  refine wpAny_bind (wpAny_pure (wpAny_bind (wpAny_bind (wpAny_loadPart hx ?_))))
  rw [hcl]
  refine wpAny_bind (Looks.here (s := ⟨hh, g, d, t + 1, os⟩) (looks_clsIn X hc) ?_)
  rw [ho.1, hdn]
  rw [if_neg (by decide)]
  refine wpAny_pure ?_
  show wpAny _ _ (Builtin.ObjectAttr.storeInDict dx (.str name t) name v) _ _ _
  unfold Builtin.ObjectAttr.storeInDict Builtin.ObjectAttr.newKeyGuard
  refine wpAny_bind (wpAny_pure (wpAny_bind (wpAny_nsSet1 hns fun h' hn' hs => ?_)))
  obtain ⟨oD, esD, epD, hoD, hdD, hcD⟩ := hn'.count (Within.cons name v hw)
  refine wpAny_bind (wpAny_lookBehind hoD (by rw [hdD]; exact pastItsLine_dict (Nat.le_trans hcD (by rw [List.length_cons]; omega))) ?_)
  exact wpAny_pure (h h' _ hn' hs)
end
end L2

namespace L2
open PySem PySem.Spec PyProof.Rows PySem.W
section
variable {M : Model} {A : Around} {E : Value → Shared → Prop} {env : Env}
variable {nm q : Str} {C N : Addr} {bs bm : List Value} {hdct : Bool} {sn : List Str} {sub : List Value} {ab : Bool} {col : Option Bool} {dd : Option Addr} {k0 k1 k2 k3 k5 : Option Value} {newId : String}
theorem raise_made {s : Shared} {x : Sem Value} {Q : Flow → Shared → Prop} (hbase : bm.contains (.type "BaseException") = true) (hh : A.handled = none)
    (h : wpAny M A x (fun v s₁ => ∃ e oe vs, v = .ref e ∧ s₁.heap.get? C = some (excClassObj nm q C N bs bm hdct sn sub ab col dd k0 k1 k2 k3 k5 newId) ∧
      s₁.heap.get? e = some oe ∧ oe.cls = .ref C ∧ oe.data = .fields vs ∧ vs[1]? = some .none ∧ E (.ref e) s₁) E s) :
    wpAny M A (raiseStmt env (some x) none) Q E s := by
  have hcB : (Value.ref C :: bm).contains (.type "BaseException") = true := by rw [List.contains_cons, hbase, Bool.or_true]
  unfold raiseStmt
  refine wpAny_bind (wpAny_mono h (fun v s₁ h₁ => ?_) fun _ _ x => x)
  obtain ⟨e, oe, vs, rfl, hC, he, hcls, hd, h1, hE⟩ := h₁
  obtain ⟨hp, g, d, tk, os⟩ := s₁
  obtain ⟨oc, odi, oda, osl⟩ := oe
  dsimp only at hcls hd
  subst hcls hd
  repeat (first | with_reducible refine wpAny_loadPart_at he ?_ | with_reducible refine wpAny_loadPart_at hC ?_ | (with_reducible refine wpAny_isSubtype_exc hC ?_; rw [hcB]) | with_reducible refine wpAny_field he rfl h1 ?_ | wp_step)
  exact wpAny_raiseNew_none hh hE
end
section
variable {prog : Program} {w : World} {A : Around} {E : Value → Shared → Prop} {s : Shared} {env : Env}
variable {nm q : Str} {C N : Addr} {bs bm bmB : List Value} {hdct : Bool} {sn : List Str} {sub : List Value} {ab : Bool} {col : Option Bool} {dd : Option Addr} {k0 k1 k2 k3 k5 : Option Value} {B newId initId : String}
theorem raise_init (F : ExcBaseFacts B newId initId bmB) {mN : Str → Option Value} {x : Str} {np cpos pos : Pos} {args : List Expr} {fI : Addr} {oI : Obj} {Q : Flow → Shared → Prop}
    (hbase : bm.contains (.type "BaseException") = true) (hh : A.handled = none) (hplain : (backTo cpos (starEach args env)).any (·.1) = false) (hi : mN "__init__" = some (.ref fI)) (hfc : oI.cls = .type "function")
    (h : wpAny (model prog w) A (eval (.Name x np) env) (fun f s₁ => f = .ref C ∧ wpAny (model prog w) A (evalArgs (.ref C) true (backTo cpos (starEach args env)) [])
      (fun a s₂ => a.kw = [] ∧ a.pos.length ≤ sizeLine ∧ s₂.heap.get? C = some (excClassObj nm q C N bs bm hdct sn sub ab col dd k0 k1 k2 k3 k5 newId) ∧ s₂.heap.Ns N mN ∧ OwnTail s₂.heap bmB bm ∧ s₂.heap.get? fI = some oI ∧
        ∀ h' e, s₂.heap.objs.size ≤ e → Heap.MadeExcOf s₂.heap h' e (.ref C) a.pos →
          wpAny (model prog w) (A.under (.builtin "type.__call__" ⟨.ref C :: a.pos, []⟩)) (call (.ref fI) (.ref e :: a.pos)) (fun r s' => r = .none ∧ ∃ oe vs, s'.heap.get? C = some (excClassObj nm q C N bs bm hdct sn sub ab col dd k0 k1 k2 k3 k5 newId) ∧
            s'.heap.get? e = some oe ∧ oe.cls = .ref C ∧ oe.data = .fields vs ∧ vs[1]? = some .none ∧ E (.ref e) s') E { s₂ with heap := h' }) E s₁) E s) :
    wpAny (model prog w) A (exec (.Raise (some (.Call (.Name x np) args [] cpos)) none pos) env) Q E s := by
  rw [arm_exec_Raise]
  refine wpAny_bind (wpAny_standAt (raise_made (C := C) (nm := nm) (q := q) (N := N) (bs := bs) (bm := bm) (hdct := hdct) (sn := sn) (sub := sub) (ab := ab) (col := col) (dd := dd) (k0 := k0) (k1 := k1) (k2 := k2) (k3 := k3) (k5 := k5) (newId := newId) hbase hh
    (wpAny_bind (wpAny_mono (wpAny_Call_ofName (wpAny_mono h (fun f s₁ h₁ => ?_) fun _ _ x => x)) (fun v s₃ h₃ => wpAny_bind (wpAny_standAt (wpAny_pure h₃))) fun _ _ x => x))))
  obtain ⟨rfl, h₁⟩ := h₁
  unfold callWith
  refine wpAny_bind (wpAny_holding (wpAny_mono h₁ (fun a s₂ h₂ => wpAny_bind (wpAny_standAt ?_)) fun _ _ x => x))
  obtain ⟨apos, akw⟩ := a
  obtain ⟨hkw, hlen, hC, hn, T, hfI, h₂⟩ := h₂
  obtain rfl : akw = [] := hkw
  obtain ⟨hp, g, d, tk, os⟩ := s₂
  simp only [hplain]
  refine wpAny_bind (wpAny_keeperOf_exc hC ?_)
  refine wpAny_bind (call_init (hrest := hlen) F T hC hn hi hfI hfc fun h' e hz hm => wpAny_mono (h₂ h' e hz hm) (fun r s' hr => ⟨hr.1, wpAny_bind (wpAny_holding (wpAny_point (wpAny_pure ?_)))⟩) fun _ _ x => x)
  obtain ⟨_, oe, vs, k1, k2, k3, k4, k5, k6⟩ := hr
  exact ⟨e, oe, vs, rfl, k1, k2, k3, k4, k5, k6⟩
end
/-! ### an error that is being made -/
noncomputable def XN (a C : Addr) (dx : Option Addr) : HO := .ext fun h => ∃ ob vs v0, h.get? a = some ob ∧ ob.cls = .ref C ∧ ob.dict = dx ∧ ob.data = .fields vs ∧ vs[0]? = some v0 ∧ vs[1]? = some .none
noncomputable def XD (d : Addr) (fs : List (Str × V)) : HO := .ext fun h => ∃ mA, h.Ns1 d mA ∧ (∀ f, RelO (fs.lookup f) (mA f)) ∧ PySem.Within mA (fs.map (·.1))
noncomputable def del (H : Hp) (a : Addr) : Hp := fun b => if b = a then none else H b
theorem del_ne {H : Hp} {a b : Addr} (h : b ≠ a) : del H a b = H b := by unfold del; rw [if_neg h]
theorem del_same {H : Hp} {a : Addr} : del H a a = none := by unfold del; rw [if_pos rfl]
theorem XN.get {P : Program} {w : World} {H : Hp} {h : Heap} {a C : Addr} {dx : Option Addr} (ok : HOk P w H h) (e : H a = some (XN a C dx)) : ∃ ob vs v0, h.get? a = some ob ∧ ob.cls = .ref C ∧ ob.dict = dx ∧ ob.data = .fields vs ∧ vs[0]? = some v0 ∧ vs[1]? = some .none := (ok a _ e).1
theorem XD.get {P : Program} {w : World} {H : Hp} {h : Heap} {d : Addr} {fs : List (Str × V)} (ok : HOk P w H h) (e : H d = some (XD d fs)) : ∃ mA, h.Ns1 d mA ∧ (∀ f, RelO (fs.lookup f) (mA f)) ∧ PySem.Within mA (fs.map (·.1)) := (ok d _ e).1
theorem XN.ok {P : Program} {w : World} {H : Hp} {h : Heap} {a C : Addr} {dx : Option Addr} (x : ∃ ob vs v0, h.get? a = some ob ∧ ob.cls = .ref C ∧ ob.dict = dx ∧ ob.data = .fields vs ∧ vs[0]? = some v0 ∧ vs[1]? = some .none) : ObjOk P w H h a (XN a C dx) := by
  obtain ⟨ob, vs, v0, he, r⟩ := x
  exact ⟨⟨ob, vs, v0, he, r⟩, ⟨ob, he⟩, fun h1 h2 ⟨ob, ws, v0, q, r⟩ k => ⟨ob, ws, v0, k _ q, r⟩⟩
theorem XD.ok {P : Program} {w : World} {H : Hp} {h : Heap} {d : Addr} {fs : List (Str × V)} (x : ∃ mA, h.Ns1 d mA ∧ (∀ f, RelO (fs.lookup f) (mA f)) ∧ PySem.Within mA (fs.map (·.1))) : ObjOk P w H h d (XD d fs) := by
  obtain ⟨mA, n, r⟩ := x
  obtain ⟨o, _, _, e, _⟩ := id n
  exact ⟨⟨mA, n, r⟩, ⟨o, e⟩, fun h1 h2 ⟨mA, n, r⟩ k => ⟨mA, n.at k, r⟩⟩
section
variable {X : Cx} {pins : List (Addr × Obj)} {σ : St} {H : Hp} {s : Shared} {a C : Addr} {φ : Heap → Prop}
theorem Inv.untrack (I : Inv X pins σ H s) (e : H a = some (.ext φ)) : Inv X pins σ (del H a) s := by
  have ne : ∀ b u, H b = some u → (∀ ψ, u ≠ .ext ψ) → b ≠ a := fun b u q n z => by rw [z, e] at q; exact n φ (Option.some.inj q).symm
  refine I.un (h' := s.heap) (t' := s.toks) ⟨fun b o q _ _ _ => q, fun b o q _ _ _ => ⟨o.slots, q⟩, fun b o q n _ => ?_, fun b o q _ => ⟨o, q⟩, fun b xs q => ?_, fun b o u q => ?_, fun b ps q => ⟨#[], ?_⟩⟩ fun b u q => ?_
  · by_cases hb : b = a
    · rw [hb]; exact del_same
    · rw [del_ne hb]; exact n
  · rw [del_ne (ne b _ q (by intro ψ z; cases z))]; exact q
  · rw [del_ne (ne b _ q (by intro ψ z; cases z))]; exact q
  · rw [del_ne (ne b _ q (by intro ψ z; cases z)), q]; simp
  · by_cases hb : b = a
    · rw [hb, del_same] at q; cases q
    · rw [del_ne hb] at q
      exact (I.hok b u q).stay (fun _ _ _ z => z) (fun c z => by rw [del_ne (ne c _ z (by intro ψ z; cases z))]; exact z) fun c xs z => by rw [del_ne (ne c _ z (by intro ψ z; cases z))]; exact z
theorem Inv.dictDone {d : Addr} {fs : List (Str × V)} (I : Inv X pins σ H s) (e : H d = some (XD d fs)) : Inv X pins σ (upd H d (.xd fs)) s := by
  obtain ⟨mA, n, r, _⟩ := XD.get I.hok e
  obtain ⟨o, _, _, q, _⟩ := id n
  exact I.write (h' := s.heap) (t' := s.toks) (x := d) (e := d) (by rw [e]; exact True.intro) (.inl rfl) (fun _ _ _ z => z) ⟨o, q⟩ ⟨mA, n, r⟩
end
end L2

namespace L2
open PySem PySem.Spec PyProof.Rows PySem.W
set_option genInjectivity false in
structure ErrC (K : Frag) (C f : Addr) : Prop where
  ini : ownInit K C f = true
  ei : errIn K C = true
  sa : findIn K (.ref C) "__setattr__" = some (some (.builtin "object.__setattr__"))
  fn : isFn K (.ref f) = true
set_option genInjectivity false in
structure BaseI (K : Frag) (B : Addr) : Prop where
  rd : readsIn K B (.type "type") = true
  fc : findCls K (.ref B) (.type "type") "__init__" = some (.val (.builtin "ValueError.__init__"))
  ga : specialIn K (.ref B) "__getattribute__" = some (some (.builtin "type.__getattribute__"))
theorem upd_id {H : Hp} {a : Addr} {o : HO} (e : H a = some o) : upd H a o = H := by
  funext b
  by_cases hb : b = a
  · subst hb; rw [upd_same, e]
  · rw [upd_ne hb]
noncomputable def tRaiseI (C : Addr) (sp : Sp) (E : XK) (t : TA) : TS := fun _ σ H => t σ H fun vs H1 => vs.length ≤ sizeLine ∧ ∀ x, H1 x = none → sp (.ref x :: vs) (upd H1 x (XN x C none)) (fun v H2 => v = .non ∧
  ((H2 x = some (XN x C none) ∧ E (.ref C) none (del H2 x)) ∨ ∃ d fs, d ≠ x ∧ H2 x = some (XN x C (some d)) ∧ H2 d = some (XD d fs) ∧ E (.ref C) (some d) (del (upd H2 d (.xd fs)) x))) E0
noncomputable def tXInit (K : Frag) (t : TA) : TE := fun σ H Q => t σ H fun vs H1 => ∃ a C dx rest f, vs = .ref a :: rest ∧ H1 a = some (XN a C dx) ∧ ErrC K C f ∧ rest.length ≤ sizeLine ∧ Q .non H1
noncomputable def sXFld (K : Frag) (ta tv : TE) (f : Str) : TS := fun D σ H => tv σ H fun y H1 => ta σ H1 fun x H2 => ∃ a C fI dx, x = .ref a ∧ H2 a = some (XN a C dx) ∧ ErrC K C fI ∧ NoAttr K C f ∧
  ((dx = none ∧ ∀ d, H2 d = none → D.nx σ (upd (upd H2 d (XD d [(f, y)])) a (XN a C (some d)))) ∨ ∃ d fs, dx = some d ∧ H2 d = some (XD d fs) ∧ fs.length < 1000 ∧ D.nx σ (upd H2 d (XD d (putF f y fs))))
noncomputable def tXFld (K : Frag) (ta : TE) (f : Str) : TE := fun σ H Q => ta σ H fun x H1 => ∃ a C d fs v, x = .ref a ∧ H1 a = some (XO a C (some d)) ∧ H1 d = some (.xd fs) ∧ XCls K C ∧ hasDictIn K C = true ∧ NoAttr K C f ∧ fs.lookup f = some v ∧ Q v H1
section
variable {X : Cx} {x f : Str} {B C fI : Addr} {k : Nat} {fd : FuncData} {ps : List Str} {sp : Sp} {E : XK} {e o value : Expr} {es : List Expr} {p np apos cpos pos pos' : Pos} {t : TA} {ta tv : TE}
theorem ps_raiseI (F : FnOk X.prog X.w X.K X.mg X.base CX0 k fI fd ps sp) (hr : Room (k + 1) X.A) (hb : Binds X.K fd ps []) (M : ErrC X.K C fI) (hg : Gl X x) (hm : X.mg x = some (.ref C)) (hc : X.calm = true) (hX : Xe X E) (ha : PA X (e :: es) t) (hex : X.ex = [] := by rfl)
    (he : starEach (e :: es) X.env = (false, eval e X.env) :: starEach es X.env := by rfl) (hplain : (backTo cpos (starEach es X.env)).any (·.1) = false := by rfl) (hdb : (x == ("__debug__" : Str)) = false := by decide) :
    PS X (.Raise (some (.Call (.Name x np) (e :: es) [] cpos)) none pos) (tRaiseI C sp E t) := by
  intro pins s σ H D I h
  obtain ⟨tl, N, nm, qn, bs, sn, sub, ab, col, dd, k0, k1, k2, k3, k5, mN, hC, hN, hni, T⟩ := init_obj I.ok.mod.kin M.ini
  obtain ⟨oI, hoI, hfc⟩ : ∃ oI, X.K.lookup fI = some oI ∧ oI.cls = .type "function" := Option.map_eq_some_iff.mp (beq_iff_eq.mp M.fn)
  have hfI := I.ok.mod.kin _ _ hoI
  refine raise_init (C := C) (nm := nm) (q := qn) (N := N) (bs := bs) (bm := tl) (hdct := true) (sn := sn) (sub := sub) (ab := ab) (col := col) (dd := dd) (k0 := k0) (k1 := k1) (k2 := k2) (k3 := k3) (k5 := k5) (fI := fI) (oI := oI)
    PySem.F.excBase_ValueError (mN := mN) (T.hasType PySem.F.excBase_ValueError.hasBase) (I.ok.hd hc) (by rw [he]; show (false || (backTo cpos (starEach es X.env)).any (·.1)) = false; rw [hplain]; rfl) hni hfc (ld_glob I hg hm ⟨rfl, ?_⟩ hdb)
  have h1 := ha cpos pins s σ H _ I h
  rw [he] at h1 ⊢
  refine Calls.evalArgs_plain (wpAny_mono h1 (fun us s2 h2 => ?_) fun _ _ y => y)
  obtain ⟨vs, H2, I2, rv, hz, hE⟩ := h2
  refine ⟨rfl, by rw [← rv.length]; exact hz, I2.bk _ _ hC, hN.keeps I2.bk, T.keeps I2.bk, I2.bk _ _ hfI, fun h' e hsz me => ?_⟩
  obtain ⟨t', hx, _, _⟩ := me.there
  have I3 : Inv X pins σ (upd H2 e (XN e C none)) { s2 with heap := h' } := I2.laid (t' := s2.toks) me.keeps hsz (XN.ok ⟨_, _, _, hx, rfl, rfl, rfl, rfl, rfl⟩)
  have hq := hE e (I2.hok.fresh hsz)
  have r2 : Vals (V.ref e :: vs) (Value.ref e :: us) := .cons rfl rv
  have hl : (Value.ref e :: us ++ []).length = ps.length := by
    have z := r2.length
    rw [F.len _ _ _ _ hq] at z
    rw [List.append_nil]; exact z.symm
  have hbb := hb { s2 with heap := h' } (Value.ref e :: us) I3.kIn hl
  rw [List.append_nil] at hbb
  have hs0 : X.s₀.heap.get? e = none := by
    cases qq : X.s₀.heap.get? e with
    | none => rfl
    | some o =>
      obtain ⟨o', q'⟩ := I2.base.there e o qq (by rw [hex]; simp)
      rw [me.new] at q'; cases q'
  refine wpAny_call (codeAny_mono (F.run _ X.stack _ _ ⟨Value.ref e :: us, []⟩ (Value.ref e :: us) _ _ E0 (hr.make C us []) (I3.env0.make C us []) hbb r2 hq) fun r s' hq' => ?_)
  cases r with
  | error e => exact False.elim hq'
  | ok fl =>
    cases fl with
    | ret u =>
      obtain ⟨v, H', I4, rv', ev, alt⟩ := I3.after hq'
      subst ev
      rcases alt with ⟨e1, hE⟩ | ⟨d, fs, dne, e1, e2, hE⟩
      · obtain ⟨ob, ws, v0, g1, g2, g3, g4, g5, g6⟩ := XN.get I4.hok e1
        exact ⟨rv', ob, ws, I4.bk _ _ hC, g1, g2, g4, g6, hX pins σ _ _ e (.ref C) none (I4.untrack e1) ⟨hs0, del_same, .inl ⟨ob, ws, g1, g2, g3, g4, g6⟩⟩ hE⟩
      · obtain ⟨ob, ws, v0, g1, g2, g3, g4, g5, g6⟩ := XN.get I4.hok e1
        have I5 := I4.dictDone e2
        have e3 : upd H' d (.xd fs) e = some (XN e C (some d)) := by rw [upd_ne (Ne.symm dne)]; exact e1
        exact ⟨rv', ob, ws, I4.bk _ _ hC, g1, g2, g4, g6, hX pins σ _ _ e (.ref C) (some d) (I5.untrack e3) ⟨hs0, del_same, .inl ⟨ob, ws, g1, g2, g3, g4, g6⟩⟩ hE⟩
    | next => exact False.elim hq'
    | brk => exact False.elim hq'
    | cont => exact False.elim hq'
theorem pe_xinit {pl : Sem Bool} (hg : Gl X x) (hm : X.mg x = some (.ref B)) (b : BaseI X.K B) (ha : PA X (e :: es) t) (hdb : (x == ("__debug__" : Str)) = false := by decide)
    (hst : starEach (e :: es) X.env = (false, eval e X.env) :: starEach es X.env := by rfl) (hpl : (backTo pos (starEach es X.env)).any (·.1) = false := by rfl)
    (ht : eval (.Call (.Attribute (.Name x p) "__init__" apos) (e :: es) [] pos) X.env = (do
      let ov ← eval (.Name x p) X.env
      standAt apos.atName
      let (f, first) ← holding [ov] (getMethod ov "__init__" pl)
      callWith pos f first (backTo pos (starEach (e :: es) X.env)) (backToKw pos (keywordEach [] X.env))) := by rfl) :
    PE X (.Call (.Attribute (.Name x p) "__init__" apos) (e :: es) [] pos) (tXInit X.K t) := by
  intro pins s σ H Q I h
  refine methodCall_KW (pl := pl) (ld_glob I hg hm ?_ hdb) ht
  refine method_cls I.kIn b.ga (cls_value I.kIn b.rd b.fc (by rfl) ?_)
  refine callWith_builtin1 (thn (ha pos pins _ σ H _ (I.tok (s.toks + 1)) h) fun us s1 ⟨vs, H1, I2, r, q⟩ => ?_) hst hpl
  obtain ⟨a, C, dx, rest, f, rfl, e1, M, hz, q⟩ := q
  cases r with
  | cons ra rr =>
    rename_i u us _
    obtain rfl : u = Value.ref a := ra
    obtain ⟨tl, N, nm, qn, bs, sn, sub, ab, col, dd, k0, k1, k2, k3, k5, mN, hC, hN, hni, T⟩ := init_obj I2.kIn M.ini
    obtain ⟨ob, ws, v0, g1, g2, g3, g4, g5, g6⟩ := XN.get I2.hok e1
    obtain ⟨hh, g, d, tk, os⟩ := s1
    have h0 := (Array.getElem?_eq_some_iff.mp g5).1
    refine base_init PySem.F.excBase_ValueError T hC g1 g2 g4 g5 (fun h' T' kk e' => ?_) (by rw [← rr.length]; exact hz)
    have I3 := I2.write (h' := h') (t' := tk) (x := a) (e := a) (o := XN a C dx) (by rw [e1]; exact True.intro) (.inl rfl) kk ⟨_, e'⟩
      (XN.ok ⟨_, ws.setIfInBounds 0 T', T', e', g2, g3, rfl, by simp [h0], by rw [Array.getElem?_setIfInBounds_ne (by decide)]; exact g6⟩)
    rw [upd_id e1] at I3
    exact ⟨.non, H1, I3, rfl, q⟩
theorem ps_xfld (ha : PE X o ta) (hv : PE X value tv) (hs : swapsWith value (some (.Attribute o f pos')) pos.line X.env = pure false) : PS X (.Assign [.Attribute o f pos'] value pos) (sXFld X.K ta tv f) := by
  intro pins s σ H D I h
  refine plainObj_wpAny_Assign_Attribute (thn (hv pins s σ H _ I h) fun u s1 hz => ?_) hs
  obtain ⟨y, H1, I1, ry, q⟩ := hz
  refine thn (ha pins s1 σ H1 _ I1 q) fun ov s2 hz => ?_
  obtain ⟨x, H2, I2, rx, a, C, fI, dx, ex, ea, M, n, q2⟩ := hz
  subst ex
  obtain rfl : ov = Value.ref a := rx
  obtain ⟨ob, ws, v0, g1, g2, g3, g4, g5, g6⟩ := XN.get I2.hok ea
  rcases q2 with ⟨rfl, q2⟩ | ⟨d, fs, rfl, ed, hl, q2⟩
  · refine set_err0 I2.kIn g1 g2 g3 g4 M.ei M.sa n fun h' tk k1 k2 k3 => ?_
    have hne : s2.heap.objs.size ≠ a := Ne.symm (Nat.ne_of_lt (Heap.lt_size g1))
    have hn := I2.hok.fresh (Nat.le_refl s2.heap.objs.size)
    refine ⟨σ, _, ?_, q2 s2.heap.objs.size hn⟩
    have na : ∀ b u, H2 b = some u → (∀ ψ, u ≠ .ext ψ) → b ≠ a := fun b u q nx z => by rw [z, ea] at q; exact nx _ (Option.some.inj q).symm
    have nd : ∀ b u, H2 b = some u → b ≠ s2.heap.objs.size := fun b u q => ne_of_none q hn
    have n0 : ∀ b, H2 b = none → b ≠ a := fun b q z => by rw [z, ea] at q; cases q
    have up : ∀ b, b ≠ a → b ≠ s2.heap.objs.size → upd (upd H2 s2.heap.objs.size (XD s2.heap.objs.size [(f, y)])) a (XN a C (some s2.heap.objs.size)) b = H2 b := fun b z1 z2 => by rw [upd_ne z1, upd_ne z2]
    refine I2.un (h' := h') (t' := tk) ⟨fun b o q m _ _ => k3 b o (n0 b m) q, fun b o q m _ _ => ⟨o.slots, k3 b o (n0 b m) q⟩, fun b o q m _ => ?_, fun b o q _ => ?_, fun b xs q => ?_, fun b o u q => ?_, fun b ps q => ⟨#[], ?_⟩⟩ fun b u q => ?_
    · rw [up b (n0 b m) (Nat.ne_of_lt (Heap.lt_size q))]; exact m
    · by_cases hb : b = a
      · rw [hb]; exact ⟨_, k1⟩
      · exact ⟨o, k3 b o hb q⟩
    · rw [up b (na b _ q (by intro ψ z; cases z)) (nd b _ q)]; exact q
    · rw [up b (na b _ q (by intro ψ z; cases z)) (nd b _ q)]; exact q
    · rw [up b (na b _ q (by intro ψ z; cases z)) (nd b _ q), q]; simp
    · by_cases hb : b = a
      · subst hb
        rw [upd_same] at q; cases q
        exact XN.ok ⟨_, ws, v0, k1, g2, rfl, g4, g5, g6⟩
      · by_cases hd : b = s2.heap.objs.size
        · subst hd
          rw [upd_ne hb, upd_same] at q; cases q
          refine XD.ok ⟨_, k2, fun g => ?_, fun g hg => ?_⟩
          · by_cases z : g = f
            · rw [if_pos z, z]; simp [List.lookup]; exact ry
            · have zb : (g == f) = false := beq_eq_false_iff_ne.mpr z
              rw [if_neg z]; simp only [List.lookup, zb]; trivial
          · by_cases z : g = f
            · rw [z]; simp
            · exact absurd (if_neg z) hg
        · rw [up b hb hd] at q
          refine (I2.hok b u q).stay (fun c v hc z => k3 c v ?_ z) (fun c z => by rw [up c (na c _ z (by intro ψ z; cases z)) (nd c _ z)]; exact z) fun c xs z => by rw [up c (na c _ z (by intro ψ z; cases z)) (nd c _ z)]; exact z
          rcases hc with z | z
          · rw [z]; exact hb
          · exact na c _ z (by intro ψ z; cases z)
  · obtain ⟨mA, n1, r, wi⟩ := XD.get I2.hok ed
    have hz : (fs.map (·.1)).length ≤ sizeLine := by rw [List.length_map, sizeLine_eq]; omega
    refine set_err1 I2.kIn g1 g2 g3 g4 n1 M.ei M.sa n wi hz fun h' tk k1 sb => ?_
    refine ⟨σ, _, ?_, q2⟩
    obtain ⟨od, _, _, hod, _⟩ := id k1
    refine I2.write (x := d) (e := d) (by rw [ed]; exact True.intro) (.inl rfl) (fun b q hb z => (sb.2 b hb).trans z) ⟨od, hod⟩ (XD.ok ⟨_, k1, fun g => ?_, fun g hg => ?_⟩)
    · show RelO ((putF f y fs).lookup g) (if g = f then some u else mA g)
      rw [lookup_putF]
      by_cases q : g = f
      · rw [if_pos q, if_pos q]; exact ry
      · rw [if_neg q, if_neg q]; exact r g
    · by_cases q : g = f
      · rw [q]; exact (keys_putF f y fs).1
      · refine (keys_putF f y fs).2 g (wi g fun z => hg ?_)
        show (if g = f then some u else mA g) = none
        rw [if_neg q]; exact z
theorem pe_xfld (he : PE X o ta) (hb : attributeBase o f X.env (eval o X.env) = eval o X.env) : PE X (.Attribute o f pos) (tXFld X.K ta f) := by
  intro pins s σ H Q I h
  refine attr_of hb (thn (he pins s σ H _ I h) fun u s1 hz => ?_)
  obtain ⟨x, H1, I1, rx, a, C, d, fs, v, ex, ea, ed, c, hd, n, l, q⟩ := hz
  subst ex
  obtain rfl : u = Value.ref a := rx
  obtain ⟨⟨ob, ws, g1, g2, g3, g4⟩, _⟩ := (I1.hok a _ ea)
  obtain ⟨mA, n1, r⟩ := (show ∃ mA, s1.heap.Ns1 d mA ∧ ∀ f, RelO (fs.lookup f) (mA f) from I1.hok d _ ed)
  obtain ⟨od, ho, hl⟩ := lookIn_ns n1
  obtain ⟨u, hu, ru⟩ := RelO.some_of (v := v) (o := mA f) (by rw [← l]; exact r f)
  have J : InstAt s1.heap a ob C (some od) := ⟨g1, g2, by unfold notCls; rw [g4], by rw [g3]; exact ho⟩
  exact x_attr I1.kIn c J (findObj_own hd n rfl (by rw [hl, hu])) (handed_of ru) ⟨v, H1, I1.tok _, ru, q⟩
end
end L2

namespace L2
open PySem PySem.Spec PyProof.Rows
section
variable {X : Cx}
theorem pss_weak {b : List Stmt} {t u : TS} (h : PSs X b t) (w : ∀ D σ H, u D σ H → t D σ H) : PSs X b u := fun pins s σ H D I q => h pins s σ H D I (w D σ H q)
theorem ps_weak {b : Stmt} {t u : TS} (h : PS X b t) (w : ∀ D σ H, u D σ H → t D σ H) : PS X b u := fun pins s σ H D I q => h pins s σ H D I (w D σ H q)
theorem pt_weak {e : Expr} {t u : TT} (h : PT X e t) (w : ∀ σ H R, u σ H R → t σ H R) : PT X e u := fun pins s σ H R I q => h pins s σ H R I (w σ H R q)
end
end L2

/-! x = [.. for ..]: the store is done while the comprehension's frame stands yet -/
namespace L2
open PySem PySem.Spec PyProof.Rows
section
variable {X : Cx}
theorem ps_setC {elt iter tg : Expr} {ifs : List Expr} {scope : Scope} {pos spos py : Pos} {y : Str} {i : Nat} {N' : List Str} {k : Nat} {fm : List Nat} {wi : TI} {g : TG} {tt : TT} {te : TE} (hN : X.N.Nodup) (hi' : X.N[i]? = some y) (hy : Loc X.env.scope y) (B : BlkScope X N' k fm scope) (hc : X.calm = true) (hi : PI X tg iter wi)
    (hb : ∀ fp s H, PG (blk X N' scope fp s H) tg g ∧ PTs (blk X N' scope fp s H) ifs tt ∧ PE (blk X N' scope fp s H) elt te)
    (hsw : swapsWith (.ListComp elt [⟨tg, iter, ifs, 0⟩] scope pos) (some (.Name y py)) spos.line X.env = pure true := by rfl)
    (hs : ∀ x, foldedSetIterable iter X.env x = pure x := by intro _; rfl) (hfn : X.fn y = true ∨ X.env.scope.names.lookup y = some .local := by first | exact .inl rfl | exact .inr rfl | assumption) :
    PS X (.Assign [.Name y py] (.ListComp elt [⟨tg, iter, ifs, 0⟩] scope pos) spos) (tAsg (tComp k fm wi g tt te) (gName i)) := by
  intro pins s σ H DD I h
  have hfree : ∀ x ∈ scope.names, x.2 = .free → ∃ c, X.env.cells.lookup x.1 = some c := fun x hx hk => I.ok.has x.1 (B.free x hx hk)
  rw [exec_Assign_Name_used _ _ _ _ hsw]
  refine wpAny_bind (wpAny_standAt (wpAny_bind ?_))
  show wpAny _ X.A (do let _ ← comprehension (.ListComp elt [⟨tg, iter, ifs, 0⟩] scope pos) scope X.env _ (newList []) false (eval iter X.env) (some (assign (.Name y py) X.env))) _ _ s
  refine wpAny_bind (wpAny_mono (wpAny_comprehension_free (use := some (assign (.Name y py) X.env)) (Q := fun _ s' => SP X pins DD .next s') rfl hs (closureFor_eq hfree) B.kind B.names (thn (hi pins s σ H _ I h) fun v s1 h1 => thn h1 fun itv s2 h2 => ?_)) (fun _ s' hq => wpAny_pure (wpAny_pure hq)) fun _ _ e => e)
  obtain ⟨it, fp, tn, J, H2, e, I2, T, st2, f2, h2⟩ := h2
  subst e
  obtain ⟨W, ⟨m0, w0⟩, turn⟩ := h2 s2.heap.objs.size I2.fresh
  refine wpAny_newObj_type (wpAny_newFunctionEnv B.nocell (by intro y hy; simp at hy) (fun h4 hns4 hsb4 => ?_) B.kind)
  have I3 := I2.lnew (its := []) (ys := []) (t' := s2.toks) .nil (Nat.zero_le _)
  have hf3 : ∀ b ∈ fp, FpOk X pins (upd H2 s2.heap.objs.size (.lst [])) b := fun b hb => by
    obtain ⟨o, e, _⟩ := T.obj _ _ st2 b hb
    refine ⟨?_, (f2 b hb).2⟩
    rw [upd_ne (fun z => Nat.lt_irrefl _ (z ▸ Heap.lt_size e))]
    exact (f2 b hb).1
  have ho3 : ∀ b ∈ fp, ∃ o, (s2.heap.push { cls := .type "list", data := .seq ([] : List Value).toArray }).get? b = some o := fun b hb => by
    obtain ⟨o, e, _⟩ := T.obj _ _ st2 b hb
    exact ⟨o, Heap.get?_push_of_some _ e⟩
  have kp4 : ∀ b o, (s2.heap.push { cls := .type "list", data := .seq ([] : List Value).toArray }).get? b = some o → h4.get? b = some o := fun b o e =>
    hsb4.extBut b o (fun z => Nat.lt_irrefl _ (z ▸ Heap.lt_size e)) (Heap.get?_push_of_some _ e)
  have I4 := I3.block (fp := fp) (h' := h4) (tk := s2.toks + ([] : List (Str × Value)).length) B hf3 ho3 hns4 kp4
  generalize hs3 : ({ s2 with heap := s2.heap.push { cls := .type "list", data := .seq ([] : List Value).toArray }, toks := s2.toks } : Shared) = s3 at *
  obtain ⟨hg, ht, he⟩ := hb fp s3 (upd H2 s2.heap.objs.size (.lst []))
  have st4 : tn 0 h4 := T.keep _ _ _ st2 fun b hb o e => kp4 b o (Heap.get?_push_of_some _ e)
  have stat : ∀ {H' : Hp}, (∀ b ∈ fp, H' b = none) → ∀ b ∈ fp, FpOk (blk X N' scope fp s3 (upd H2 s2.heap.objs.size (.lst []))) [] H' b := fun {H'} hn b hb => by
    obtain ⟨f0, f1, f3, f4, f5, f6⟩ := hf3 b hb
    obtain ⟨g1, g2⟩ := I4.ok.exf b hb
    exact ⟨hn b hb, g1, I4.ok.exfs b hb, .inl hb, g2, fun p hp => f6 p ((List.mem_append.mp hp).elim (fun z => List.mem_append_left _ z) fun z => absurd z (by simp))⟩
  have loop : codeAny (model X.prog X.w) X.A (.compLoop (.ListComp elt [⟨tg, iter, ifs, 0⟩] scope pos) 0 (.ref it) (.ref s2.heap.objs.size) (compEnvC scope (clOf X.env scope.names []) s3.heap.objs.size X.env))
      (compPost (model X.prog X.w) X.A X.xe (some (assign (.Name y py) X.env)) (fun _ s' => SP X pins DD .next s') (.ref s2.heap.objs.size) s3.heap.objs.size) { s3 with heap := h4, toks := s2.toks + ([] : List (Str × Value)).length } := by
    refine blk_loop (X := blk X N' scope fp s3 (upd H2 s2.heap.objs.size (.lst []))) (D := s2.heap.objs.size) (Q := fun v H' => DD.nx (σ.set i (some v)) H') (W := W) (m0 := m0) rfl hc T stat hg ht he turn I4 st4 (fun b hb => (hf3 b hb).1) w0 ?_
    intro H' s' I' q
    obtain ⟨m, hn, _⟩ := I'.loc
    have hCn : s3.heap.get? s3.heap.objs.size = none := by
      cases e : s3.heap.get? s3.heap.objs.size with
      | none => rfl
      | some o => exact absurd (Heap.lt_size e) (Nat.lt_irrefl _)
    have J : ∀ h'' : Heap, (∀ b o, b ≠ s3.heap.objs.size → s'.heap.get? b = some o → h''.get? b = some o) → Inv X pins σ H' { s' with heap := h'' } := fun h'' hk => by
      have u : Un (frs X.stack) fp (upd H2 s2.heap.objs.size (.lst [])) H' s3.heap h'' := Un.tail I'.base hk hCn
      refine I3.call' (s' := { s' with heap := h'' }) (ch := fp) I'.os u (I'.hok.tail hk I'.free) I'.bare fun b hb => ?_
      obtain ⟨f0, f1, f3, f4, f5, f6⟩ := hf3 b hb
      exact ⟨f4, f1, f5, f6⟩
    have J1 : Inv X pins σ H' s' := J s'.heap fun _ _ _ e => e
    obtain ⟨oC, es, ep, hoC, hdC, rC⟩ := hn
    have hCf : H' s3.heap.objs.size = none := I'.free
    have hCL : s3.heap.objs.size ≠ X.env.locals := Ne.symm (Nat.ne_of_lt I3.lt)
    have hCfs := I3.nofs (Nat.le_refl _)
    have J2 : Inv X (pins ++ [(s3.heap.objs.size, oC)]) σ H' s' := J1.pins_of fun p hp => by
      rcases List.mem_append.mp hp with z | z
      · exact J1.pin p (List.mem_append_right _ z)
      · rw [List.mem_singleton.mp z]
        exact ⟨hoC, hCf, hCL, hCfs, fun v e => by rw [hdC] at e; cases e⟩
    show wpAny _ X.A (assign (.Name y py) X.env (.ref s2.heap.objs.size)) _ _ _
    refine wpAny_assign_Name (store_ok J2 hN hi' hy (v := .ref s2.heap.objs.size) rfl (fun s5 I5 => ?_) hfn)
    have hC5 := (I5.pin (s3.heap.objs.size, oC) (List.mem_append_right _ (List.mem_append_right _ (List.mem_singleton.mpr rfl)))).1
    refine ⟨m, ⟨oC, es, ep, hC5, hdC, rC⟩, fun h'' hs'' => ?_⟩
    have I6 : Inv X pins (σ.set i (some (.ref s2.heap.objs.size))) H' s5 := I5.pins_of fun p hp => I5.pin p (List.mem_append_right _ (List.mem_append_left _ hp))
    refine ⟨_, H', I6.turned (t' := s5.toks) (it := s3.heap.objs.size) (fun b o hb e => hs''.extBut b o hb e) hCf hCL (.inr I3.sz) (fun x c e z => ?_) (fun p hp z => ?_), q⟩
    · obtain ⟨v, o, ho, _⟩ := I3.cell x c e
      rw [z] at ho
      exact absurd (Heap.lt_size ho) (Nat.lt_irrefl _)
    · have z' := (I3.pin p hp).1
      rw [z] at z'
      exact absurd (Heap.lt_size z') (Nat.lt_irrefl _)
  subst hs3
  exact codeAny_compStart_list loop (T.self X.A 0 _ _ _ st4 loop)
end
end L2

/-! dict(d), d == e, xs.count(x) -/
namespace L2
open PySem PySem.Spec PyProof.Rows
section
variable {prog : Program} {w : World} {K : Type} [DecidableEq K] {knd : KeyKind prog w K} {A : Around} {E : Value → Shared → Prop} {s : Shared}
theorem find_at {es : Array DictEntry} {ys : List (K × Value)} {i : Nat} {k : K} {v : Value} (hp : Pairs knd es.toList ys) (hn : (ys.map (·.1)).Nodup) (hi : ys[i]? = some (k, v)) : es.findIdx? (fun e => knd.is k e.key) = some i := by
  have hlen := hp.length
  have hlt : i < ys.length := (List.getElem?_eq_some_iff.mp hi).1
  have hes : i < es.size := by rw [← Array.length_toList, hlen]; exact hlt
  rw [Array.findIdx?_eq_some_iff_getElem]
  refine ⟨hes, ?_, fun j hj => ?_⟩
  · exact (hp.get? (e := es[i]) (by simp [hes]) hi).1
  · have hjs : j < es.size := Nat.lt_trans hj hes
    have hjy : j < ys.length := by rw [← hlen, Array.length_toList]; exact hjs
    obtain ⟨kv, hkv⟩ : ∃ kv, ys[j]? = some kv := ⟨_, List.getElem?_eq_getElem hjy⟩
    obtain ⟨k', v'⟩ := kv
    have h1 := (hp.get? (e := es[j]) (by simp [hjs]) hkv).1
    intro z
    have e : k' = k := knd.inj _ _ _ h1 z
    subst e
    have a1 : (ys.map (·.1))[i]? = some k' := by rw [List.getElem?_map, hi]; rfl
    have a2 : (ys.map (·.1))[j]? = some k' := by rw [List.getElem?_map, hkv]; rfl
    have : i = j := (List.getElem?_inj (by rw [List.length_map]; exact hlt) hn).mp (a1.trans a2.symm)
    omega
theorem same_pairs {id : String} {a b : Addr} {xs ys : List (K × Value)} {Q : Bool → Shared → Prop} (ha : (a == sysModules) = false) (hb : (b == sysModules) = false) (da : s.heap.DictOf knd a xs) (db : s.heap.DictOf knd b ys)
    (hk : xs.map (·.1) = ys.map (·.1)) (he : ∀ (i : Nat) (k : K) (u v : Value), xs[i]? = some (k, u) → ys[i]? = some (k, v) → SeqAt.EqAt A s u v true) (q : Q true s) : wpAny (model prog w) A (Builtin.Dict.samePairs id a b) Q E s := by
  obtain ⟨oa, ea, pa, goa, xa, dda, ka, psa, na⟩ := da
  obtain ⟨ob, eb, pb, gob, xb, ddb, kb, psb, nb⟩ := db
  have la := psa.length
  have lb := psb.length
  have lxy : xs.length = ys.length := by have := congrArg List.length hk; simpa using this
  have hsz : ea.size = eb.size := by rw [← Array.length_toList, ← Array.length_toList, la, lb, lxy]
  unfold Builtin.Dict.samePairs Builtin.Dict.showsAll
  rw [ha, hb]
  refine wpAny_bind (wpAny_pure (wpAny_bind (wpAny_pure (wpAny_bind (wpAny_dictEntries goa dda (wpAny_bind (wpAny_dictEntries gob ddb ?_)))))))
  rw [if_neg (by simp [hsz])]
  refine wpAny_bind (wpAny_dictEpoch goa dda ?_)
  refine wpAny_bind ?_
  rw [Std.Legacy.Range.forIn_eq_forIn_range']
  simp only [Std.Legacy.Range.size, Nat.sub_zero, Nat.add_sub_cancel, Nat.div_one]
  refine wpAny_forIn_list _ (fun rest st s' => s' = s ∧ st = ⟨none, PUnit.unit⟩ ∧ ∃ i, rest = List.range' i (ea.size - i) ∧ i ≤ ea.size) _ ?_ ?_ _ _ ⟨rfl, rfl, 0, by simp, Nat.zero_le _⟩
  · rintro x rest st s' ⟨rfl, rfl, i, hr, hi⟩
    have hlt : i < ea.size := by
      rcases Nat.lt_or_ge i ea.size with h | h
      · exact h
      · rw [Nat.sub_eq_zero_of_le h] at hr; simp at hr
    obtain ⟨rfl, hrest⟩ : x = i ∧ rest = List.range' (i + 1) (ea.size - (i + 1)) := by
      have e : ea.size - i = (ea.size - (i + 1)) + 1 := by omega
      rw [e, List.range'_succ] at hr
      injection hr with h1 h2
      exact ⟨h1, h2⟩
    refine wpAny_bind (wpAny_dictEntries goa dda ?_)
    rw [Array.getElem?_eq_getElem hlt]
    have hx : x < xs.length := by rw [← la, Array.length_toList]; exact hlt
    have hy : x < ys.length := by rw [← lxy]; exact hx
    obtain ⟨⟨k, u⟩, hkv⟩ : ∃ kv, xs[x]? = some kv := ⟨_, List.getElem?_eq_getElem hx⟩
    obtain ⟨⟨k2, v⟩, hkv2⟩ : ∃ kv, ys[x]? = some kv := ⟨_, List.getElem?_eq_getElem hy⟩
    have ek : k2 = k := by
      have a1 : (xs.map (·.1))[x]? = some k := by rw [List.getElem?_map, hkv]; rfl
      have a2 : (ys.map (·.1))[x]? = some k2 := by rw [List.getElem?_map, hkv2]; rfl
      rw [hk, a2] at a1
      exact Option.some.inj a1
    subst ek
    obtain ⟨hkey, hval⟩ := psa.get? (e := ea[x]) (by simp [hlt]) hkv
    obtain ⟨k', hkey', hhash⟩ := ka ea[x] (Array.getElem_mem hlt)
    obtain rfl : k' = k2 := knd.inj _ _ _ hkey' hkey
    have hxb : x < eb.size := by rw [← hsz]; exact hlt
    obtain ⟨_, hval2⟩ := psb.get? (e := eb[x]) (by simp [hxb]) hkv2
    show wpAny _ _ (holding [ea[x].key, ea[x].val] _ >>= _) _ _ _
    refine wpAny_bind (wpAny_holding ?_)
    rw [hhash]
    refine wpAny_bind (wpAny_dictFind_of hkey gob ddb kb ?_)
    rw [find_at psb nb hkv2]
    refine wpAny_bind (wpAny_dictEntries gob ddb ?_)
    rw [Array.getElem?_eq_getElem hxb]
    show wpAny _ _ (holding [eb[x].val] (eqBool ea[x].val eb[x].val)) _ _ _
    rw [hval, hval2]
    refine wpAny_holding (he x k' u v hkv hkv2 prog w _ _ ?_)
    rw [if_neg (by decide)]
    refine wpAny_bind (wpAny_dictEpoch goa dda ?_)
    rw [if_neg (by simp)]
    exact wpAny_pure ⟨rfl, rfl, x + 1, hrest, hlt⟩
  · rintro st s' ⟨rfl, rfl, i, hr, hi⟩
    exact wpAny_pure q
theorem dict_eqAt {a b : Addr} {xs ys : List (K × Value)} (ha : (a == sysModules) = false) (hb : (b == sysModules) = false) (hk : xs.map (·.1) = ys.map (·.1)) :
    MeetsIn prog w (Builtin.«dict.__eq__» ⟨[.ref a, .ref b], []⟩) (fun A R s => s.heap.DictOf knd a xs ∧ s.heap.DictOf knd b ys ∧ (∀ (i : Nat) (k : K) (u v : Value), xs[i]? = some (k, u) → ys[i]? = some (k, v) → SeqAt.EqAt A.in1 s u v true) ∧ R (.ok (.ret (.bool true))) s) := by
  intro A R s ⟨da, db, he, q⟩
  obtain ⟨hp, g, d, tk, os⟩ := s
  have ta := da.typeIs
  have tb := db.typeIs
  show wpAny _ _ (Builtin.Dict.dictSlotArgs "__eq__" ⟨[.ref a, .ref b], []⟩ >>= fun so => isInstance so.2 (.type "dict") >>= fun i => if (!i) = true then (rule s!"dict.{"__eq__"}.not-a-dict" >>= fun _ => ret .notImplemented) else (Builtin.Dict.addrOf so.1 >>= fun x => Builtin.Dict.addrOf so.2 >>= fun y => Builtin.Dict.samePairs s!"dict.{"__eq__"}" x y >>= fun r => ret (.bool (r == true)))) _ _ _
  unfold Builtin.Dict.dictSlotArgs
  refine wpAny_bind (wpAny_bind (wpAny_notOrdered_dict ta ?_))
  refine wpAny_bind (wpAny_pure (wpAny_pure (wpAny_bind (wpAny_isInstance tb isSubtype_dict_dict ?_))))
  rw [if_neg (by decide)]
  exact wpAny_bind (wpAny_pure (wpAny_bind (wpAny_pure (wpAny_bind (same_pairs ha hb da db hk he (wpAny_pure q))))))
end
section
variable {X : Cx}
noncomputable def rEqDict (K : PySem.W.Frag) : R2 := fun x y H Q => ∃ p q kvs, x = .ref p ∧ y = .ref q ∧ H p = some (.dK kvs) ∧ H q = some (.dK kvs) ∧ (∀ kv ∈ kvs, ∃ d, Rep K H d kv.2 ∧ dep d ≤ 20) ∧ Q (.bl true) H
theorem op_eqDict (hu : X.A.units + 64 < cLine) : OpR X (compareOp .Eq) (rEqDict X.K) := by
  intro pins s σ H x y v u Q I rx ry h
  obtain ⟨p, q, kvs, rfl, rfl, hp, hq, hd, k⟩ := h
  cases rx
  cases ry
  obtain ⟨_, hS, vs, rel, dd⟩ := dk_of I.hok hp
  obtain ⟨_, hS', vs', rel', dd'⟩ := dk_of I.hok hq
  have keys : ∀ {l : List (Key × V)} {m : List (Key × Value)}, KV l m → m.map (·.1) = l.map (·.1) := fun {l m} r => by
    induction r with
    | nil => rfl
    | cons h _ ih => rw [List.map_cons, List.map_cons, ih, h.1]
  have at_ : ∀ {l : List (Key × V)} {m : List (Key × Value)} (r : KV l m) (i : Nat) (k : Key) (w : Value), m[i]? = some (k, w) → ∃ z, l[i]? = some (k, z) ∧ RelV z w := fun {l m} r => by
    induction r with
    | nil => intro i k w e; simp at e
    | @cons a b l m h _ ih =>
      intro i k w e
      cases i with
      | zero =>
        rw [List.getElem?_cons_zero] at e
        cases e
        obtain ⟨a1, a2⟩ := a
        exact ⟨a2, by rw [List.getElem?_cons_zero]; congr 1; exact Prod.ext h.1 rfl, h.2⟩
      | succ i => exact ih i k w (by simpa using e)
  show wpAny _ _ (richCompare .Eq (.ref p) (.ref q)) _ _ _
  refine wpAny_richCompare_same_room (op := .Eq) dd.typeIs dd'.typeIs PySem.F.slot_dict_eq (call_meetsIn PySem.F.slot_dict_eq dd.typeIs PySem.F.entry_dict_eq (PySem.F.args_dict_eq_2 _ _) (dict_eqAt hS hS' ((keys rel).trans (keys rel').symm)) ⟨dd, dd', fun i kk w1 w2 e1 e2 => ?_, ?_⟩) (by omega)
  · obtain ⟨z1, f1, r1⟩ := at_ rel i kk w1 e1
    obtain ⟨z2, f2, r2⟩ := at_ rel' i kk w2 e2
    rw [f1] at f2
    cases f2
    obtain ⟨d, rd, hdep⟩ := hd (kk, z1) (List.mem_of_getElem? f1)
    have z := eq_deep I d d z1 z1 w1 w2 X.A.in1 (by show X.A.units + 1 + dep d < cLine; omega) rd rd r1 r2
    rw [deq_refl] at z
    exact z
  · show Value.bool true ≠ Value.notImplemented ∧ EP X pins σ Q (.bool true) s
    exact ⟨fun z => (nomatch z), V.bl true, H, I, rfl, k⟩
theorem op_eqDictK {K : PySem.W.Frag} (hu : X.A.units + 64 < cLine) (e : X.K = K) : OpR X (compareOp .Eq) (rEqDict K) := e ▸ op_eqDict hu
noncomputable def rDictOf : List V → Hp → VK → Prop := fun xs H Q => ∃ p kvs, xs = [.ref p] ∧ H p = some (.dK kvs) ∧ ∀ q, H q = none → Q (.ref q) (upd H q (.dK kvs))
theorem call_dictOf : CallR X (.type "dict") rDictOf := by
  intro pins s σ H xs us Q I r h
  obtain ⟨p, kvs, rfl, e, k⟩ := h
  obtain ⟨u, rfl, rx⟩ := vals1 r
  cases rx
  obtain ⟨z, hS, vs, rel, dd⟩ := dk_of I.hok e
  refine kt_call_dict hS dd (by rw [← Paired.length rel]; exact z) fun h' hd sb => ?_
  have kp : ∀ b o, s.heap.get? b = some o → h'.get? b = some o := fun b o q => (sb.2 b (Nat.ne_of_lt (Heap.lt_size q))).trans (Heap.get?_push_of_some _ q)
  exact ⟨.ref s.heap.objs.size, _, I.laid (a := s.heap.objs.size) (o := .dK kvs) (t' := s.toks) kp (Nat.le_refl _) (dk_new z (beq_eq_false_iff_ne.mpr (Ne.symm (Nat.ne_of_lt I.big))) rel hd), rfl, k _ (I.hok.fresh (Nat.le_refl _))⟩
noncomputable def cntV (x : V) (xs : List V) : Nat := xs.countP fun y => eqV y x
noncomputable def rCount (K : PySem.W.Frag) : V → List V → Hp → VK → Prop := fun x vs H Q => ∃ p xs y, x = .ref p ∧ vs = [y] ∧ SqL K H p xs ∧ flatV y = true ∧ xs.all flatV = true ∧ Q (.int (cntV y xs : Nat)) H
theorem count_eqU {x : V} : ∀ {xs : List V} {us : List Value}, Vals xs us → xs.all flatV = true → us.countP (eqU x) = xs.countP fun y => eqV y x
  | _, _, .nil, _ => rfl
  | y :: xs, u :: us, .cons r t, f => by
    rw [List.all_cons, Bool.and_eq_true] at f
    rw [List.countP_cons, List.countP_cons, eqU_of r f.1, count_eqU t f.2]
theorem mt_count : MtM X "list.count" (rCount X.K) := by
  intro pins s σ H x vs v us Q I rx rv h
  obtain ⟨p, xs, y, rfl, rfl, hq, fy, fs, q⟩ := h
  cases rx
  obtain ⟨u, rfl, ru⟩ := rv.one
  obtain ⟨its, r, pl, hz⟩ := I.list hq
  obtain ⟨⟨cls, dd, data, sl⟩, ho, hc, n, hd⟩ := id pl.isList
  simp only at hc hd
  subst hc hd
  refine call_meets PySem.F.slot_list_count ⟨_, ho, rfl⟩ PySem.F.entry_list_count (PySem.F.args_list_count_2 _ _) (SeqAt.list_countAt p its.toArray n dd sl u (eqU y)) ⟨ho, fun w hw => mem_eqAt ru fy r fs w (by simpa using hw), ?_⟩
  show EP X pins σ Q (Value.int ((its.toArray.toList.countP (eqU y) : Nat) : Int) s.toks) _
  rw [show its.toArray.toList = its by simp, count_eqU r fs]
  exact ⟨V.int (cntV y xs : Nat), H, I.tok _, ⟨s.toks, rfl⟩, q⟩
theorem mt_countK {K : PySem.W.Frag} (e : X.K = K) : MtM X "list.count" (rCount K) := e ▸ mt_count
end
end L2

/-! a comprehension whose element may raise -/
namespace L2
open PySem PySem.Spec PyProof.Rows
theorem note_congr {e : Value} {env env' : Env} (h : env.frame = env'.frame) : noteFrame e env = noteFrame e env' := by unfold noteFrame PySem.frameOf; rw [h]
section
variable {M : Model} {A : Around} {E : Value → Shared → Prop} {s : Shared}
theorem flight_set {e T : Addr} {cls : Value} {dx : Option Addr} {fl : Value} {fr : Option Addr} {Q : Unit → Shared → Prop} (hx : ExcIs s.heap e cls dx fl T)
    (h : ∀ h' fl', (∀ b o, b ≠ T → s.heap.get? b = some o → h'.get? b = some o) → (∃ o, h'.get? T = some o) → ExcIs h' e cls dx fl' T → Q () { s with heap := h' }) : wpAny M A (setFlight (.ref e) fr) Q E s := by
  obtain ⟨oe, vs, oT, ts, he, hc, hdx, hd, h1, hTe, hT, hdT, h3⟩ := hx
  unfold setFlight
  refine wpAny_bind (wpAny_field he hd h1 ?_)
  rw [if_pos (show (Value.ref T != Value.none) = true from by simp)]
  have hs := (Array.getElem?_eq_some_iff.mp h3).1
  refine wpAny_setField hT hdT hs (h _ (fr.elim .none fun f => rawInt f) (fun b o hb hbo => ?_) ?_ ?_)
  · rw [Heap.get?_update_other _ _ (Ne.symm hb)]; exact hbo
  · exact ⟨_, Heap.get?_update_self _ hT (Obj.isFreed_of_fields (Obj.data_mapFields hdT _))⟩
  · refine ⟨oe, vs, _, _, ?_, hc, hdx, hd, h1, hTe, Heap.get?_update_self _ hT (Obj.isFreed_of_fields (Obj.data_mapFields hdT _)), Obj.data_mapFields hdT _, ?_⟩
    · rw [Heap.get?_update_other _ _ hTe]; exact he
    · simp [hs]
theorem ExcIs.kept {h h' : Heap} {e T : Addr} {cls : Value} {dx : Option Addr} {fl : Value} (x : ExcIs h e cls dx fl T) (k1 : ∀ o, h.get? e = some o → h'.get? e = some o) (k2 : ∀ o, h.get? T = some o → h'.get? T = some o) : ExcIs h' e cls dx fl T := by
  obtain ⟨oe, vs, oT, ts, he, hc, hdx, hd, h1, hTe, hT, hdT, h3⟩ := x
  exact ⟨oe, vs, oT, ts, k1 _ he, hc, hdx, hd, h1, hTe, k2 _ hT, hdT, h3⟩
end
noncomputable def XeF (X : Cx) (E : XK) : Prop := ∀ (pins : List (Addr × Obj)) (σ : St) (H : Hp) (s : Shared) (a T : Addr) (cls : Value) (dx : Option Addr) (fl : Value), Inv X pins σ H s → X.s₀.heap.get? a = none → H a = none → X.s₀.heap.get? T = none → H T = none →
  ExcIs s.heap a cls dx fl T → E cls dx H → X.xe (.ref a) s
section
variable {prog : Program} {w : World} {A : Around} {R : Result → Shared → Prop} {s : Shared}
theorem compLoop_x {EX : Value → Shared → Prop} {elt target iter : Expr} {ifs : List Expr} {scope : Scope} {pos : Pos} {it acc : Value} {env : Env} (hE : ∀ x s', EX x s' → wpAny (model prog w) A (noteFrame x env) (fun _ s'' => R (.error x) s'') (fun x s'' => R (.error x) s'') s') (I : Nat → Shared → Prop)
    (turn : ∀ n s, I n s → wpAny (model prog w) A (pyNext it) (fun r s₁ => match r with
      | none => R (.ok .next) s₁
      | some v => wpAny (model prog w) A (letOwnedTupleGo target it v) (fun _ s₁' => wpAny (model prog w) A (assign target env v) (fun _ s₂ =>
          wpAny (model prog w) A (forIn ifs true fun c r => if r = true then do let ok ← isTrue c env (eval c env); pure (ForInStep.yield ok) else pure (ForInStep.yield r)) (fun ok s₃ =>
            if ok = true then wpAny (model prog w) A (eval elt env) (fun x s₄ =>
              wpAny (model prog w) A (call (.builtin "list.append") [acc, x]) (fun _ s₅ => ∃ m, m < n ∧ I m s₅) (fun _ _ => False) s₄) EX s₃
            else ∃ m, m < n ∧ I m s₃) (fun _ _ => False) s₂) (fun _ _ => False) s₁') (fun _ _ => False) s₁) (fun _ _ => False) s)
    (n : Nat) (h : I n s) :
    codeAny (model prog w) A (.compLoop (.ListComp elt [⟨target, iter, ifs, 0⟩] scope pos) 0 it acc env) R s := by
  refine codeAny_loop rfl I (fun n s hI => ?_) n h
  show wpAny _ A ((compTurn (.ListComp elt [⟨target, iter, ifs, 0⟩] scope pos) 0 it acc env).onRaise (fun x => do noteFrame x env; theTreesLotGoes x)) _ _ s
  refine wpAny_noted ?_
  rw [compTurn_list]
  refine wpAny_bind (wpAny_standAt (wpAny_bind (wpAny_mono (turn n s hI) (fun r s₁ h₁ => ?_) fun _ _ h' => h'.elim)))
  cases r with
  | none => exact wpAny_pure h₁
  | some v =>
    refine wpAny_bind (wpAny_mono h₁ (fun _ s₁' h₁' => ?_) fun _ _ h' => h'.elim)
    refine wpAny_bind (wpAny_mono h₁' (fun _ s₂ h₂ => wpAny_bind (wpAny_mono h₂ (fun ok s₃ h₃ => ?_) fun _ _ h' => h'.elim)) fun _ _ h' => h'.elim)
    cases ok with
    | false => exact wpAny_pure ⟨rfl, h₃⟩
    | true =>
      exact wpAny_bind (wpAny_bind (wpAny_mono h₃ (fun x s₄ h₄ => wpAny_bind (wpAny_mono h₄ (fun _ s₅ h₅ => wpAny_pure (wpAny_pure ⟨rfl, h₅⟩)) fun _ _ h' => h'.elim)) fun x s' h' => hE x s' h'))
end
section
variable {X : Cx}
theorem blk_loopX {X : Cx} {elt iter tg : Expr} {ifs : List Expr} {scope : Scope} {pos : Pos} {g : TG} {tt : TT} {te : TEX} {E : XK} {J : It} {fp : List Addr} {it D : Addr} {tn : Nat → Heap → Prop} {σ0 : St} {H3 : Hp} {s4 : Shared} {Q : VK} {R : Result → Shared → Prop} {W : Nat → Nat → List V → Hp → Prop} {m0 : Nat}
    (hx : X.xe = fun _ _ => False) (hc : X.calm = true) (T : Turn X.prog X.w X.K tg J fp it tn) (stat : ∀ {H' : Hp}, (∀ b ∈ fp, H' b = none) → ∀ b ∈ fp, FpOk X [] H' b) (hg : PG X tg g) (ht : PTs X ifs tt) (he : PEX X elt te)
    (turn : ∀ i m ys H2, W i m ys H2 → H2 D = some (.lst ys) ∧ ys.length < sizeLine ∧ ((J.stop i H2 ∧ Q (.ref D) H2) ∨ (J.go i H2 ∧ ∃ N : List V → Hp → Prop, (∀ ys' H', N ys' H' → ∃ m', m' < m ∧ W (i + 1) m' ys' H') ∧ ∀ x H3, J.yld i H2 x H3 →
      g x σ0 H3 fun σ3 H4 => Ext σ0 σ3 ∧ tt σ3 H4 fun b H5 => if b = true then te σ3 H5 (fun y H6 => H6 D = some (.lst ys) ∧ N (ys ++ [y]) (upd H6 D (.lst (ys ++ [y])))) E else N ys H5)))
    (I4 : Inv X [] σ0 H3 s4) (st4 : tn 0 s4.heap) (fr4 : ∀ b ∈ fp, H3 b = none) (w4 : W 0 m0 [] H3)
    (hR : ∀ H' s', Inv X [] σ0 H' s' → Q (.ref D) H' → R (.ok .next) s')
    (hXR : ∀ x s' pins, XP X pins (fun _ => E) x s' → wpAny (model X.prog X.w) X.A (noteFrame x X.env) (fun _ s'' => R (.error x) s'') (fun x s'' => R (.error x) s'') s') :
    codeAny (model X.prog X.w) X.A (.compLoop (.ListComp elt [⟨tg, iter, ifs, 0⟩] scope pos) 0 (.ref it) (.ref D) X.env) R s4 := by
  refine compLoop_x (EX := fun x s' => ∃ pins, XP X pins (fun _ => E) x s') (fun x s' ⟨pins, z⟩ => hXR x s' pins z) (fun n s' => ∃ i ys H', Inv X [] σ0 H' s' ∧ tn i s'.heap ∧ (∀ b ∈ fp, H' b = none) ∧ W i n ys H') ?_ m0 ⟨0, [], H3, I4, st4, fr4, w4⟩
  rintro n s5 ⟨i, ys, H5, I5, st5, fr5, w5⟩
  obtain ⟨hD, hl, cs⟩ := turn i n ys H5 w5
  rcases cs with ⟨stop, q⟩ | ⟨go, N, hN, step⟩
  · refine thn (T.done X rfl rfl rfl hc i [] s5 σ0 H5 _ I5 (stat fr5) st5 stop) fun r s6 ⟨hr, I6⟩ => ?_
    subst hr
    exact hR H5 s6 I6 q
  · refine thn (T.item X rfl rfl rfl hc i [] s5 σ0 H5 _ I5 (stat fr5) st5 go) fun r s6 ⟨u, hr, h6⟩ => ?_
    subst hr
    refine thn h6 fun _ s7 ⟨x, H7, I7, r7, y7, st7, fr7⟩ => ?_
    have I7' := I7.pinned (stat fr7) (T.obj _ _ st7)
    have again : ∀ {σ' : St} {H' : Hp} {s' : Shared}, Ext σ0 σ' → Inv X ([] ++ pinsAt fp s7.heap) σ' H' s' → Inv X [] σ0 H' s' ∧ tn (i + 1) s'.heap ∧ ∀ b ∈ fp, H' b = none := fun {σ' H' s'} ex I' => by
      refine ⟨I'.unpinned.weak ex.len ex.get, T.keep _ _ _ st7 fun b hb o e => (I'.pin (b, o) (List.mem_append_right _ (List.mem_append_right _ (mem_pinsAt hb e)))).1, fun b hb => ?_⟩
      obtain ⟨o, e, d⟩ := T.obj _ _ st7 b hb
      exact (I'.pin (b, o) (List.mem_append_right _ (List.mem_append_right _ (mem_pinsAt hb e)))).2.1
    have w8 := hg _ s7 σ0 H7 x u _ I7' r7 (step x H7 y7)
    rw [hx] at w8
    refine thn w8 fun _ s8 ⟨σ8, H8, I8, ex8, q8⟩ => ?_
    have w9 := ht _ s8 σ8 H8 _ I8 q8
    rw [hx] at w9
    refine thn w9 fun ok s9 ⟨H9, I9, q9⟩ => ?_
    cases ok with
    | false =>
      obtain ⟨m', hm, w'⟩ := hN _ _ q9
      obtain ⟨a1, a2, a3⟩ := again ex8 I9
      exact ⟨m', hm, i + 1, ys, H9, a1, a2, a3, w'⟩
    | true =>
      have w10 := he _ s9 σ8 H9 _ (fun _ => E) I9 q9
      refine wpAny_mono w10 (fun y s10 ⟨yv, H10, I10, r10, hD10, n10⟩ => ?_) fun x s' z => ⟨_, z⟩
      obtain ⟨m', hm, w'⟩ := hN _ _ n10
      have w11 := mt_append (X := X) _ s10 σ8 H10 (.ref D) [yv] (.ref D) [y] (fun v H' => v = .non ∧ H' = upd H10 D (.lst (ys ++ [yv]))) I10 rfl (.cons r10 .nil) ⟨D, ys, yv, rfl, rfl, hD10, hl, rfl, rfl⟩
      rw [hx] at w11
      refine thn w11 fun _ s11 ⟨_, H11, I11, _, _, e11⟩ => ?_
      subst e11
      obtain ⟨a1, a2, a3⟩ := again ex8 I11
      exact ⟨m', hm, i + 1, _, _, a1, a2, a3, w'⟩
noncomputable def tCompX (E : XK) (k : Nat) (fm : List Nat) (wi : TI) (g : TG) (tt : TT) (te : TEX) : TE := fun σ H Q => wi σ H fun J H1 => ∀ D, H1 D = none → ∃ W : Nat → Nat → List V → Hp → Prop,
  (∃ m, W 0 m [] (upd H1 D (.lst []))) ∧ ∀ i m ys H2, W i m ys H2 → H2 D = some (.lst ys) ∧ ys.length < sizeLine ∧ ((J.stop i H2 ∧ Q (.ref D) H2) ∨ (J.go i H2 ∧ ∃ N : List V → Hp → Prop, (∀ ys' H', N ys' H' → ∃ m', m' < m ∧ W (i + 1) m' ys' H') ∧ ∀ x H3, J.yld i H2 x H3 →
    g x (blkSt k fm σ) H3 fun σ3 H4 => Ext (blkSt k fm σ) σ3 ∧ tt σ3 H4 fun b H5 => if b = true then te σ3 H5 (fun y H6 => H6 D = some (.lst ys) ∧ N (ys ++ [y]) (upd H6 D (.lst (ys ++ [y])))) E else N ys H5))
theorem pe_compX {elt iter tg : Expr} {ifs : List Expr} {scope : Scope} {pos : Pos} {N' : List Str} {k : Nat} {fm : List Nat} {wi : TI} {g : TG} {tt : TT} {te : TEX} {E : XK} (B : BlkScope X N' k fm scope) (hc : X.calm = true) (hi : PI X tg iter wi)
    (hb : ∀ fp s H, PG (blk X N' scope fp s H) tg g ∧ PTs (blk X N' scope fp s H) ifs tt ∧ PEX (blk X N' scope fp s H) elt te) (hX : XeF X E) (hst : X.stack = X.env :: X.outer) (hfr : X.env.frame = some X.env.locals) (hex : X.ex = [] := by rfl)
    (hs : ∀ x, foldedSetIterable iter X.env x = pure x := by intro _; rfl) : PE X (.ListComp elt [⟨tg, iter, ifs, 0⟩] scope pos) (tCompX E k fm wi g tt te) := by
  intro pins s σ H Q I h
  have hfree : ∀ x ∈ scope.names, x.2 = .free → ∃ c, X.env.cells.lookup x.1 = some c := fun x hx hk => I.ok.has x.1 (B.free x hx hk)
  rw [eval_ListComp]
  refine wpAny_comprehension_free (use := none) rfl hs (closureFor_eq hfree) B.kind B.names (thn (hi pins s σ H _ I h) fun v s1 h1 => thn h1 fun itv s2 h2 => ?_)
  obtain ⟨it, fp, tn, J, H2, e, I2, T, st2, f2, h2⟩ := h2
  subst e
  obtain ⟨W, ⟨m0, w0⟩, turn⟩ := h2 s2.heap.objs.size I2.fresh
  refine wpAny_newObj_type (wpAny_newFunctionEnv B.nocell (by intro y hy; simp at hy) (fun h4 hns4 hsb4 => ?_) B.kind)
  have I3 := I2.lnew (its := []) (ys := []) (t' := s2.toks) .nil (Nat.zero_le _)
  have hf3 : ∀ b ∈ fp, FpOk X pins (upd H2 s2.heap.objs.size (.lst [])) b := fun b hb => by
    obtain ⟨o, e, _⟩ := T.obj _ _ st2 b hb
    refine ⟨?_, (f2 b hb).2⟩
    rw [upd_ne (fun z => Nat.lt_irrefl _ (z ▸ Heap.lt_size e))]
    exact (f2 b hb).1
  have ho3 : ∀ b ∈ fp, ∃ o, (s2.heap.push { cls := .type "list", data := .seq ([] : List Value).toArray }).get? b = some o := fun b hb => by
    obtain ⟨o, e, _⟩ := T.obj _ _ st2 b hb
    exact ⟨o, Heap.get?_push_of_some _ e⟩
  have kp4 : ∀ b o, (s2.heap.push { cls := .type "list", data := .seq ([] : List Value).toArray }).get? b = some o → h4.get? b = some o := fun b o e =>
    hsb4.extBut b o (fun z => Nat.lt_irrefl _ (z ▸ Heap.lt_size e)) (Heap.get?_push_of_some _ e)
  have I4 := I3.block (fp := fp) (h' := h4) (tk := s2.toks + ([] : List (Str × Value)).length) B hf3 ho3 hns4 kp4
  generalize hs3 : ({ s2 with heap := s2.heap.push { cls := .type "list", data := .seq ([] : List Value).toArray }, toks := s2.toks } : Shared) = s3 at *
  obtain ⟨hg, ht, he⟩ := hb fp s3 (upd H2 s2.heap.objs.size (.lst []))
  have st4 : tn 0 h4 := T.keep _ _ _ st2 fun b hb o e => kp4 b o (Heap.get?_push_of_some _ e)
  have stat : ∀ {H' : Hp}, (∀ b ∈ fp, H' b = none) → ∀ b ∈ fp, FpOk (blk X N' scope fp s3 (upd H2 s2.heap.objs.size (.lst []))) [] H' b := fun {H'} hn b hb => by
    obtain ⟨f0, f1, f3, f4, f5, f6⟩ := hf3 b hb
    obtain ⟨g1, g2⟩ := I4.ok.exf b hb
    exact ⟨hn b hb, g1, I4.ok.exfs b hb, .inl hb, g2, fun p hp => f6 p ((List.mem_append.mp hp).elim (fun z => List.mem_append_left _ z) fun z => absurd z (by simp))⟩
  have errX : ∀ x s' pins', XP (blk X N' scope fp s3 (upd H2 s2.heap.objs.size (.lst []))) pins' (fun _ => E) x s' → wpAny (model X.prog X.w) X.A (noteFrame x (compEnvC scope (clOf X.env scope.names []) s3.heap.objs.size X.env))
      (fun _ s'' => compPost (model X.prog X.w) X.A X.xe none (EP X pins σ Q) (.ref s2.heap.objs.size) s3.heap.objs.size (.error x) s'') (fun x s'' => compPost (model X.prog X.w) X.A X.xe none (EP X pins σ Q) (.ref s2.heap.objs.size) s3.heap.objs.size (.error x) s'') s' := by
    rintro x s' pins' ⟨σ', H', s5, I5, a, T5, cls, dx, H6, rfl, ho, hg6, u6, hok6, ha, hT5, hHa, hHT5, y6, hE⟩
    have I6 : Inv (blk X N' scope fp s3 (upd H2 s2.heap.objs.size (.lst []))) pins' σ' H6 s' := I5.call' (ch := []) ho u6 hok6 hg6 fun b hb => absurd hb (by simp)
    have hCs : ∀ b o, s3.heap.get? b = some o → b ≠ s3.heap.objs.size := fun b o e => Nat.ne_of_lt (Heap.lt_size e)
    have in5 : ∀ b o, s3.heap.get? b = some o → b ∉ fp → b ≠ a ∧ b ≠ T5 := fun b o e hb => by
      obtain ⟨o', q⟩ := I5.base.there b o e hb
      exact ⟨fun z => (by rw [z, ha] at q; cases q), fun z => (by rw [z, hT5] at q; cases q)⟩
    rw [note_congr (env := compEnvC scope (clOf X.env scope.names []) s3.heap.objs.size X.env) (env' := X.env) rfl]
    refine note_next (base := X.base) (by rw [← hst]; exact I3.ok.frames) (by rw [← hst]; exact I6.stack) hfr y6 fun h1 xl => ?_
    obtain ⟨m, ⟨oC, es, ep, hoC, hdC, rC⟩, _⟩ := I6.loc
    have hoC : s'.heap.get? s3.heap.objs.size = some oC := hoC
    have hC5 : ∃ o, s5.heap.get? s3.heap.objs.size = some o := by
      obtain ⟨m', ⟨o', _, _, ho', _⟩, _⟩ := I5.loc
      exact ⟨o', ho'⟩
    obtain ⟨oC5, hC5⟩ := hC5
    have hCa : s3.heap.objs.size ≠ a := fun z => by rw [z, ha] at hC5; cases hC5
    have hCT : s3.heap.objs.size ≠ T5 := fun z => by rw [z, hT5] at hC5; cases hC5
    have hCf : s3.heap.objs.size ∉ frs X.stack := fun z => by
      obtain ⟨_, o, ho, _⟩ := I3.stack.mem z
      exact Nat.lt_irrefl _ (Heap.lt_size ho)
    obtain ⟨T1, hT1, y1⟩ := xl.exc
    have hC1 : T1 ≠ s3.heap.objs.size := fun z => by
      have q1 := Heap.lt_size hoC
      rw [← z] at q1
      exact Nat.lt_irrefl _ (Nat.lt_of_lt_of_le q1 hT1)
    have hCa' : a ≠ s3.heap.objs.size := Ne.symm hCa
    refine ⟨m, ⟨oC, es, ep, xl.keep _ _ (by rw [← hst]; exact hCf) hCa hCT hoC, hdC, rC⟩, fun h2 hs2 cenv hcv => ?_⟩
    have y2 := y1.kept (h' := h2) (fun o e => (hs2.2 a hCa').trans e) (fun o e => (hs2.2 T1 hC1).trans e)
    unfold PySem.passOn
    obtain ⟨oe, vs, oT, ts, he', hc', hdx', hd', hv1, hTe, hT', hdT, hts⟩ := id y2
    refine wpAny_bind (wpAny_field (s := { s' with heap := h2 }) he' hd' hv1 ?_)
    rw [if_neg (by simp)]
    refine wpAny_bind (flight_set (s := { s' with heap := h2 }) y2 fun h3 fl' k3 hT3 y3 => ?_)
    have lt1 : ∀ b o, s3.heap.get? b = some o → b ≠ T1 := fun b o e z => by
      have a1 := Heap.lt_size e
      have a2 := I6.sz
      have a2 : s3.heap.objs.size ≤ s'.heap.objs.size := a2
      rw [z] at a1
      exact Nat.lt_irrefl _ (Nat.lt_of_lt_of_le a1 (Nat.le_trans a2 hT1))
    have un : Un (frs X.stack) fp (upd H2 s2.heap.objs.size (.lst [])) H6 s3.heap h3 := by
      have B := I6.base
      refine ⟨fun b o e n hf hx => ?_, fun b o e n hf hx => ?_, B.free, fun b o e hx => ?_, B.tups, B.frzs, B.tbls⟩
      · exact k3 b o (lt1 b o e) ((hs2.2 b (hCs b o e)).trans (xl.keep b o (by rw [← hst]; exact hf) (in5 b o e hx).1 (in5 b o e hx).2 (B.keep b o e n hf hx)))
      · obtain ⟨sl, q⟩ := B.slot b o e n hf hx
        obtain ⟨sl2, q2⟩ := xl.slot b _ (by rw [← hst]; exact hf) (in5 b o e hx).1 (in5 b o e hx).2 q
        exact ⟨sl2, k3 b _ (lt1 b o e) ((hs2.2 b (hCs b o e)).trans q2)⟩
      · obtain ⟨o', q⟩ := B.there b o e hx
        obtain ⟨o2, q2⟩ := xl.there b o' q
        exact ⟨o2, k3 b _ (lt1 b o e) ((hs2.2 b (hCs b o e)).trans q2)⟩
    have hHT1 : H6 T1 = none := hok6.fresh hT1
    have ok3 : HOk X.prog X.w H6 h3 := hok6.tracked fun b o u hb q => by
      have n1 : b ≠ a := fun z => by rw [z, hHa] at hb; cases hb
      have n2 : b ≠ T5 := fun z => by rw [z, hHT5] at hb; cases hb
      have n3 : b ≠ T1 := fun z => by rw [z, hHT1] at hb; cases hb
      have n4 : b ≠ s3.heap.objs.size := fun z => by rw [z, show H6 s3.heap.objs.size = none from I6.free] at hb; cases hb
      have n5 : b ∉ frs X.stack := fun z => by rw [I6.stkFree b z] at hb; cases hb
      exact k3 b o n3 ((hs2.2 b n4).trans (xl.keep b o (by rw [← hst]; exact n5) n1 n2 q))
    have J : Inv X pins σ H6 { s' with heap := h3 } := I3.call' (s' := { s' with heap := h3 }) (ch := fp) I6.os un ok3 I6.bare fun b hb => by
      obtain ⟨f0, f1, f3, f4, f5, f6⟩ := hf3 b hb
      exact ⟨f4, f1, f5, f6⟩
    have z0 : ∀ b, (∀ o, s3.heap.get? b = some o → b ∉ fp → False) → X.s₀.heap.get? b = none := fun b hb => by
      cases q : X.s₀.heap.get? b with
      | none => rfl
      | some o =>
        obtain ⟨o', q'⟩ := I3.base.there b o q (by rw [hex]; simp)
        refine (hb o' q' fun hbf => ?_).elim
        rcases (hf3 b hbf).2.2.2.1 with z | z
        · rw [hex] at z; simp at z
        · exact absurd (Nat.lt_of_lt_of_le (Heap.lt_size q) z) (Nat.lt_irrefl _)
    exact wpAny_throw (hX pins σ H6 _ a T1 cls dx fl' J (z0 a fun o e hb => (in5 a o e hb).1 rfl) hHa (z0 T1 fun o e _ => lt1 T1 o e rfl) hHT1 y3 hE)
  have loop : codeAny (model X.prog X.w) X.A (.compLoop (.ListComp elt [⟨tg, iter, ifs, 0⟩] scope pos) 0 (.ref it) (.ref s2.heap.objs.size) (compEnvC scope (clOf X.env scope.names []) s3.heap.objs.size X.env))
      (compPost (model X.prog X.w) X.A X.xe none (EP X pins σ Q) (.ref s2.heap.objs.size) s3.heap.objs.size) { s3 with heap := h4, toks := s2.toks + ([] : List (Str × Value)).length } := by
    refine blk_loopX (X := blk X N' scope fp s3 (upd H2 s2.heap.objs.size (.lst []))) (D := s2.heap.objs.size) (Q := Q) (W := W) (m0 := m0) rfl hc T stat hg ht he turn I4 st4 (fun b hb => (hf3 b hb).1) w0 ?_ ?_
    rotate_left
    · exact errX
    intro H' s' I' q
    obtain ⟨m, hn, _⟩ := I'.loc
    refine ⟨m, hn, fun h'' hs'' => ?_⟩
    have hC : s3.heap.get? s3.heap.objs.size = none := by
      cases e : s3.heap.get? s3.heap.objs.size with
      | none => rfl
      | some o => exact absurd (Heap.lt_size e) (Nat.lt_irrefl _)
    have u : Un (frs X.stack) fp (upd H2 s2.heap.objs.size (.lst [])) H' s3.heap h'' := Un.tail I'.base (fun b o hb e => hs''.extBut b o hb e) hC
    refine ⟨.ref s2.heap.objs.size, H', ?_, rfl, q⟩
    refine I3.call' (s' := { s' with heap := h'' }) (ch := fp) I'.os u (I'.hok.tail (fun b o hb e => hs''.extBut b o hb e) I'.free) I'.bare fun b hb => ?_
    obtain ⟨f0, f1, f3, f4, f5, f6⟩ := hf3 b hb
    exact ⟨f4, f1, f5, f6⟩
  subst hs3
  exact codeAny_compStart_list loop (T.self X.A 0 _ _ _ st4 loop)
end
/-! ### the readings -/
noncomputable def CompWX (E : XK) (g : TG) (tt : TT) (te : TEX) (σ0 : St) (Q : VK) (J : It) (H1 : Hp) : Prop := ∀ DD, H1 DD = none → ∃ W : Nat → Nat → List V → Hp → Prop,
  (∃ m, W 0 m [] (upd H1 DD (.lst []))) ∧ ∀ i m ys H2, W i m ys H2 → H2 DD = some (.lst ys) ∧ ys.length < sizeLine ∧ ((J.stop i H2 ∧ Q (.ref DD) H2) ∨ (J.go i H2 ∧ ∃ N : List V → Hp → Prop, (∀ ys' H', N ys' H' → ∃ m', m' < m ∧ W (i + 1) m' ys' H') ∧ ∀ x H3, J.yld i H2 x H3 →
    g x σ0 H3 fun σ3 H4 => Ext σ0 σ3 ∧ tt σ3 H4 fun b H5 => if b = true then te σ3 H5 (fun y H6 => H6 DD = some (.lst ys) ∧ N (ys ++ [y]) (upd H6 DD (.lst (ys ++ [y])))) E else N ys H5))
noncomputable def CompLX (K : PySem.W.Frag) (E : XK) (g : TG) (tt : TT) (te : TEX) (σ0 : St) (Q : VK) : VK := fun x H1 => ∃ a, x = .ref a ∧ (∃ xs, SqL K H1 a xs) ∧ CompWX E g tt te σ0 Q (Itl K a) H1
section
variable {K : PySem.W.Frag} {k : Nat} {fm : List Nat} {tl : TE} {te : TEX} {g : TG} {tt : TT} {σ σ0 : St} {H H1 : Hp} {Q : VK} {E : XK}
theorem tCompX_list : tCompX E k fm (iList K tl) g tt te σ H Q = tl σ H (CompLX K E g tt te (blkSt k fm σ) Q) := rfl
theorem CompLX.of {a : Addr} {xs : List V} (hz : xs.length < sizeLine) (hx : SqL K H1 a xs) (Pv : Addr → Nat → List V → Hp → Prop) (h0 : ∀ D, H1 D = none → Pv D 0 [] (upd H1 D (.lst [])))
    (hl : ∀ D i ys H', H1 D = none → i ≤ xs.length → Pv D i ys H' → SqL K H' a xs ∧ H' D = some (.lst ys) ∧ ys.length ≤ i)
    (hs : ∀ D i x ys H', H1 D = none → xs[i]? = some x → Pv D i ys H' → g x σ0 H' fun σ3 H4 => Ext σ0 σ3 ∧ tt σ3 H4 fun b H5 => if b = true then te σ3 H5 (fun y H6 => H6 D = some (.lst ys) ∧ Pv D (i + 1) (ys ++ [y]) (upd H6 D (.lst (ys ++ [y])))) E else Pv D (i + 1) ys H5)
    (hd : ∀ D ys H', H1 D = none → Pv D xs.length ys H' → Q (.ref D) H') : CompLX K E g tt te σ0 Q (.ref a) H1 :=
  ⟨a, rfl, ⟨xs, hx⟩, fun D hD => comp_list (te := fun σ H Q => te σ H Q E) hz (Pv D) (h0 D hD) (fun i ys H' => hl D i ys H' hD) (fun i x ys H' => hs D i x ys H' hD) fun ys H' => hd D ys H' hD⟩
end
section
variable {M : Model} {A : Around} {E : Value → Shared → Prop} {s : Shared}
theorem note_else {base : Heap} {env : Env} {outer : List Env} {L e T : Addr} {cls : Value} {dx : Option Addr} {fl0 : Value} {Q : Unit → Shared → Prop}
    (hfr : A.frames = some (env :: outer)) (hl : s.heap.FunFrames base (env :: outer)) (hf : env.frame = some L) (hx : ExcIs s.heap e cls dx fl0 T) (hne : fl0 ≠ rawInt L)
    (h : ∀ h', LeftX (frs (env :: outer)) e T cls dx (rawInt L) s.heap h' → Q () { s with heap := h' }) : wpAny M A (noteFrame (.ref e) env) Q E s := by
  obtain ⟨oe, vs, oT, ts, he, hc, hdx, hd, h1, hTe, hT, hdT, h3⟩ := hx
  subst hc hdx
  unfold noteFrame
  simp only [hf]
  refine wpAny_bind (wpAny_field he hd h1 ?_)
  rw [if_pos (show (Value.ref T != Value.none) = true from by simp)]
  refine wpAny_bind (wpAny_field hT hdT h3 ?_)
  rw [if_neg (show ¬ ((fl0 == rawInt L) = true) from fun z => hne (beq_iff_eq.mp z))]
  refine wpAny_bind (wpAny_setField hT hdT (Array.getElem?_eq_some_iff.mp h3).1 ?_)
  have other : ∀ b, b ≠ T → (s.heap.update T (Obj.mapFields (·.setIfInBounds 3 Value.none))).get? b = s.heap.get? b := fun b hb => Heap.get?_update_other _ _ (Ne.symm hb)
  have noRecord : ∀ b o, s.heap.get? b = some o → (∀ vs, o.data ≠ .fields vs) → b ≠ T := fun b o hb hnf q => by
    rw [q, hT] at hb; injection hb with hb; subst hb; exact hnf ts hdT
  have hT' := Heap.get?_update_self (Obj.mapFields (·.setIfInBounds 3 Value.none)) hT (Obj.isFreed_of_fields (Obj.data_mapFields hdT _))
  refine newEntryX (T0 := T) hfr (hl.of_keeps fun b o hb hnf => ⟨o, (other b (noRecord b o hb hnf)).trans hb, rfl⟩) hf ((other e (Ne.symm hTe)).trans he) hd (Array.getElem?_eq_some_iff.mp h1).1 fun h' x => h h' ?_
  refine ⟨fun b o hb hbe hbT hbo => x.keep b o hb hbe hbT ((other b hbT).trans hbo), fun b o hb hbe hbT hbo => x.slot b o hb hbe hbT ((other b hbT).trans hbo), fun b o hbo => ?_, ?_⟩
  · by_cases hb : b = T
    · subst hb; exact x.there b _ hT'
    · exact x.there b o ((other b hb).trans hbo)
  · obtain ⟨T', hn, y⟩ := x.exc
    exact ⟨T', by rw [Heap.size_update] at hn; exact hn, y⟩
theorem leave_else {base : Heap} {env : Env} {outer : List Env} {L e T0 : Addr} {cls : Value} {dx : Option Addr} {fl0 : Value} {Q : Unit → Shared → Prop}
    (hfr : A.frames = some (env :: outer)) (hl : s.heap.FunFrames base (env :: outer)) (hf : env.frame = some L) (hx : ExcIs s.heap e cls dx fl0 T0) (hne : fl0 ≠ rawInt L)
    (h : ∀ h', LeftX (frs (env :: outer)) e T0 cls dx .none s.heap h' → Q () { s with heap := h' }) : wpAny M A (leaving env (.ref e)) Q E s := by
  unfold leaving
  refine wpAny_bind (note_else hfr hl hf hx hne fun h1 x => ?_)
  obtain ⟨T, hT, y⟩ := x.exc
  exact flight_off (s := { s with heap := h1 }) y fun h2 k hT2 z => h h2 (x.off hT k hT2 z)
end
theorem xeF_cx {P : Program} {w : World} {K : PySem.W.Frag} {mg : Str → Option Value} {base : Heap} {N : List Str} {qual : Str} {scope : Scope} {f : Addr} {cd : Value} {A : Around} {outer : List Env} {s₀ : Shared} {H₀ : Hp} {E₀ : XK} :
    XeF (cxOf (CXE P w) P w K mg base N qual scope f cd A outer s₀ H₀ E₀) E₀ := by
  intro pins σ H s a T cls dx fl I ha hHa hT hHT hx hE
  have hfr : (envOfC qual scope s₀.heap.objs.size f cd).frame = some s₀.heap.objs.size := rfl
  have ha : s₀.heap.get? a = none := ha
  have hT : s₀.heap.get? T = none := hT
  by_cases hm : fl = rawInt s₀.heap.objs.size
  · subst hm
    have nT : ∀ b o, s₀.heap.get? b = some o → b ≠ T := fun b o e z => by rw [z, hT] at e; cases e
    show wpAny _ _ (leaving (envOfC qual scope s₀.heap.objs.size f cd) (.ref a)) _ _ _
    unfold leaving
    refine wpAny_bind (note_again hfr hx (flight_off hx fun h' k hT2 y => ?_))
    have B := I.base
    refine ⟨a, T, cls, dx, H, rfl, I.os, I.bare, ⟨fun b o e n hf hx => k b o (nT b o e) (B.keep b o e n hf (fun z => nomatch z)), fun b o e n hf hx => ?_, fun b o e n _ => B.free b o e n (fun z => nomatch z), fun b o e _ => ?_, B.tups, B.frzs, B.tbls⟩, I.hok.tracked fun b o u hb q => k b o (fun z => by rw [z, hHT] at hb; cases hb) q, ha, hT, hHa, hHT, y, hE⟩
    · obtain ⟨sl, q⟩ := B.slot b o e n hf (fun z => nomatch z)
      exact ⟨sl, k b _ (nT b o e) q⟩
    · obtain ⟨o', q⟩ := B.there b o e (fun z => nomatch z)
      exact ⟨o', k b _ (nT b o e) q⟩
  · have fin : ∀ (T0 : Addr) (h' : Heap), s₀.heap.get? T0 = none → H T0 = none → LeftX (frs (envOfC qual scope s₀.heap.objs.size f cd :: outer)) a T0 cls dx .none s.heap h' → CXE P w outer H₀ s₀ E₀ (.ref a) { s with heap := h' } := by
      intro T0 h' hT0 hHT0 x
      obtain ⟨T, hT, y⟩ := x.exc
      have hTn : s₀.heap.get? T = none := by
        cases q : s₀.heap.get? T with
        | none => rfl
        | some o => exact absurd (Nat.lt_of_lt_of_le (Heap.lt_size q) (Nat.le_trans I.sz hT)) (Nat.lt_irrefl _)
      refine ⟨a, T, cls, dx, H, rfl, I.os, I.bare, Un.left I rfl rfl rfl ha hT0 x, ?_, ha, hTn, hHa, I.hok.fresh hT, y, hE⟩
      refine I.hok.tracked fun b o u hb q => x.keep b o (fun z => ?_) (fun z => by rw [z, hHa] at hb; cases hb) (fun z => by rw [z, hHT0] at hb; cases hb) q
      have := I.stkFree b z
      rw [this] at hb; cases hb
    exact leave_else (base := base) I.ok.frames I.stack hfr hx hm fun h' x => fin T h' hT hHT x
end L2

set_option maxHeartbeats 0
set_option pp.deepTerms true
set_option pp.maxSteps 100000
namespace My
open PySem PySem.Spec PyProof.Rows L2
noncomputable def top (i : Nat) : Stmt := PySem.Challenge.pw_joinload_k18_what_a_fill_aims_at.main.body.getD i (.Pass ⟨0, 0, 0, 0⟩)
noncomputable abbrev s_wrapped : Stmt := top 2
noncomputable abbrev s_Unmet___init__ : Stmt := inClass (top 9) 0
noncomputable abbrev s_aim : Stmt := top 16
noncomputable abbrev s_aims : Stmt := top 17
noncomputable abbrev s_aim_by : Stmt := top 18
noncomputable abbrev s_places_told : Stmt := top 19
noncomputable abbrev s__law_cell_at : Stmt := top 21
noncomputable abbrev s__law_name_by : Stmt := top 22
noncomputable abbrev s__law_word_row : Stmt := top 23
noncomputable abbrev s__law_told_by : Stmt := top 24
noncomputable abbrev s__law_drawn : Stmt := top 25
noncomputable abbrev s__law_copy : Stmt := top 26
noncomputable abbrev s__law_whole : Stmt := top 27
noncomputable abbrev s__law_last : Stmt := top 28
noncomputable abbrev s__law_due : Stmt := top 29
noncomputable abbrev s__law_alone : Stmt := top 30
noncomputable abbrev s__law_refused : Stmt := top 31
noncomputable abbrev s__law_holds : Stmt := top 32
noncomputable abbrev s_law : Stmt := top 33
theorem bt_ValueError : bootBuiltins "ValueError" = some (.type "ValueError") := by decide +kernel
theorem bt_bool : bootBuiltins "bool" = some (.type "bool") := by decide +kernel
theorem bt_dict : bootBuiltins "dict" = some (.type "dict") := by decide +kernel
theorem bt_int : bootBuiltins "int" = some (.type "int") := by decide +kernel
theorem bt_isinstance : bootBuiltins "isinstance" = some (.builtin "isinstance") := by decide +kernel
theorem bt_len : bootBuiltins "len" = some (.builtin "len") := by decide +kernel
theorem bt_list : bootBuiltins "list" = some (.type "list") := by decide +kernel
theorem bt_str : bootBuiltins "str" = some (.type "str") := by decide +kernel
theorem bt_tuple : bootBuiltins "tuple" = some (.type "tuple") := by decide +kernel
theorem relI {i : Int} {t : Tok} : RelV (.int i) (.int i t) := ⟨t, rfl⟩
theorem relT {n : String} : RelV (.ty n) (.type n) := rfl
set_option genInjectivity false in
structure Ad where
  wrapped : Addr
  fd_wrapped : FuncData
  Unmet___init__ : Addr
  fd_Unmet___init__ : FuncData
  aim : Addr
  fd_aim : FuncData
  aims : Addr
  fd_aims : FuncData
  aim_by : Addr
  fd_aim_by : FuncData
  places_told : Addr
  fd_places_told : FuncData
  _law_cell_at : Addr
  fd__law_cell_at : FuncData
  _law_name_by : Addr
  fd__law_name_by : FuncData
  _law_word_row : Addr
  fd__law_word_row : FuncData
  _law_told_by : Addr
  fd__law_told_by : FuncData
  _law_drawn : Addr
  fd__law_drawn : FuncData
  _law_copy : Addr
  fd__law_copy : FuncData
  _law_whole : Addr
  fd__law_whole : FuncData
  _law_last : Addr
  fd__law_last : FuncData
  _law_due : Addr
  fd__law_due : FuncData
  _law_alone : Addr
  fd__law_alone : FuncData
  _law_refused : Addr
  fd__law_refused : FuncData
  _law_holds : Addr
  fd__law_holds : FuncData
  law : Addr
  fd_law : FuncData
  t_WORD_COUNT : Tok
  c_JoinError : Addr
  c_Lost : Addr
  c_NoBase : Addr
  c_NoPiece : Addr
  c_NoRule : Addr
  c_NoSense : Addr
  c_NoWhole : Addr
  c_SameName : Addr
  c_TooFar : Addr
  c_Twice : Addr
  c_Unmet : Addr
set_option genInjectivity false in
structure Txt (K : PySem.W.Frag) (mg : Str → Option Value) (A : Ad) : Prop where
  m_wrapped : mg "wrapped" = some (.ref A.wrapped)
  k_wrapped : PySem.W.keepIn K (.ref A.wrapped) = true
  b_wrapped : Binds K A.fd_wrapped ["number"] []
  F_wrapped : Fun K "wrapped" "wrapped" s_wrapped A.wrapped A.fd_wrapped
  k_Unmet___init__ : PySem.W.keepIn K (.ref A.Unmet___init__) = true
  b_Unmet___init__ : Binds K A.fd_Unmet___init__ ["self", "name", "piece"] []
  F_Unmet___init__ : Fun K "__init__" "Unmet.__init__" s_Unmet___init__ A.Unmet___init__ A.fd_Unmet___init__
  m_aim : mg "aim" = some (.ref A.aim)
  k_aim : PySem.W.keepIn K (.ref A.aim) = true
  b_aim : Binds K A.fd_aim ["piece", "names", "fill"] []
  F_aim : Fun K "aim" "aim" s_aim A.aim A.fd_aim
  m_aims : mg "aims" = some (.ref A.aims)
  k_aims : PySem.W.keepIn K (.ref A.aims) = true
  b_aims : Binds K A.fd_aims ["piece", "names", "fills"] []
  F_aims : Fun K "aims" "aims" s_aims A.aims A.fd_aims
  m_aim_by : mg "aim_by" = some (.ref A.aim_by)
  k_aim_by : PySem.W.keepIn K (.ref A.aim_by) = true
  b_aim_by : Binds K A.fd_aim_by ["piece_name", "own", "names", "fill"] []
  F_aim_by : Fun K "aim_by" "aim_by" s_aim_by A.aim_by A.fd_aim_by
  m_places_told : mg "places_told" = some (.ref A.places_told)
  k_places_told : PySem.W.keepIn K (.ref A.places_told) = true
  b_places_told : Binds K A.fd_places_told ["piece", "told_by"] []
  F_places_told : Fun K "places_told" "places_told" s_places_told A.places_told A.fd_places_told
  m__law_cell_at : mg "_law_cell_at" = some (.ref A._law_cell_at)
  k__law_cell_at : PySem.W.keepIn K (.ref A._law_cell_at) = true
  b__law_cell_at : Binds K A.fd__law_cell_at ["_law_script", "_law_k"] []
  F__law_cell_at : Fun K "_law_cell_at" "_law_cell_at" s__law_cell_at A._law_cell_at A.fd__law_cell_at
  m__law_name_by : mg "_law_name_by" = some (.ref A._law_name_by)
  k__law_name_by : PySem.W.keepIn K (.ref A._law_name_by) = true
  b__law_name_by : Binds K A.fd__law_name_by ["_law_cell", "_law_k"] []
  F__law_name_by : Fun K "_law_name_by" "_law_name_by" s__law_name_by A._law_name_by A.fd__law_name_by
  m__law_word_row : mg "_law_word_row" = some (.ref A._law_word_row)
  k__law_word_row : PySem.W.keepIn K (.ref A._law_word_row) = true
  b__law_word_row : Binds K A.fd__law_word_row ["_law_cell", "_law_names_by"] []
  F__law_word_row : Fun K "_law_word_row" "_law_word_row" s__law_word_row A._law_word_row A.fd__law_word_row
  m__law_told_by : mg "_law_told_by" = some (.ref A._law_told_by)
  k__law_told_by : PySem.W.keepIn K (.ref A._law_told_by) = true
  b__law_told_by : Binds K A.fd__law_told_by ["_law_pieces", "_law_cell", "_law_names_by", "_law_strict"] []
  F__law_told_by : Fun K "_law_told_by" "_law_told_by" s__law_told_by A._law_told_by A.fd__law_told_by
  m__law_drawn : mg "_law_drawn" = some (.ref A._law_drawn)
  k__law_drawn : PySem.W.keepIn K (.ref A._law_drawn) = true
  b__law_drawn : Binds K A.fd__law_drawn ["_law_cells", "_law_names_by", "_law_titles_by", "_law_strict"] []
  F__law_drawn : Fun K "_law_drawn" "_law_drawn" s__law_drawn A._law_drawn A.fd__law_drawn
  m__law_copy : mg "_law_copy" = some (.ref A._law_copy)
  k__law_copy : PySem.W.keepIn K (.ref A._law_copy) = true
  b__law_copy : Binds K A.fd__law_copy ["_law_piece"] []
  F__law_copy : Fun K "_law_copy" "_law_copy" s__law_copy A._law_copy A.fd__law_copy
  m__law_whole : mg "_law_whole" = some (.ref A._law_whole)
  k__law_whole : PySem.W.keepIn K (.ref A._law_whole) = true
  b__law_whole : Binds K A.fd__law_whole ["_law_found"] []
  F__law_whole : Fun K "_law_whole" "_law_whole" s__law_whole A._law_whole A.fd__law_whole
  m__law_last : mg "_law_last" = some (.ref A._law_last)
  k__law_last : PySem.W.keepIn K (.ref A._law_last) = true
  b__law_last : Binds K A.fd__law_last ["_law_pieces"] []
  F__law_last : Fun K "_law_last" "_law_last" s__law_last A._law_last A.fd__law_last
  m__law_due : mg "_law_due" = some (.ref A._law_due)
  k__law_due : PySem.W.keepIn K (.ref A._law_due) = true
  b__law_due : Binds K A.fd__law_due ["_law_piece", "_law_some", "_law_fill"] []
  F__law_due : Fun K "_law_due" "_law_due" s__law_due A._law_due A.fd__law_due
  m__law_alone : mg "_law_alone" = some (.ref A._law_alone)
  k__law_alone : PySem.W.keepIn K (.ref A._law_alone) = true
  b__law_alone : Binds K A.fd__law_alone ["_law_kept"] []
  F__law_alone : Fun K "_law_alone" "_law_alone" s__law_alone A._law_alone A.fd__law_alone
  m__law_refused : mg "_law_refused" = some (.ref A._law_refused)
  k__law_refused : PySem.W.keepIn K (.ref A._law_refused) = true
  b__law_refused : Binds K A.fd__law_refused ["_law_kept", "_law_title", "_law_name"] []
  F__law_refused : Fun K "_law_refused" "_law_refused" s__law_refused A._law_refused A.fd__law_refused
  m__law_holds : mg "_law_holds" = some (.ref A._law_holds)
  k__law_holds : PySem.W.keepIn K (.ref A._law_holds) = true
  b__law_holds : Binds K A.fd__law_holds ["_law_piece", "_law_some", "_law_fill"] []
  F__law_holds : Fun K "_law_holds" "_law_holds" s__law_holds A._law_holds A.fd__law_holds
  m_law : mg "law" = some (.ref A.law)
  k_law : PySem.W.keepIn K (.ref A.law) = true
  b_law : Binds K A.fd_law ["_law_script"] []
  F_law : Fun K "law" "law" s_law A.law A.fd_law
  g_WORD_COUNT : mg "WORD_COUNT" = some (.int 4294967296 A.t_WORD_COUNT)
  n_ValueError : mg "ValueError" = none
  n_bool : mg "bool" = none
  n_dict : mg "dict" = none
  n_int : mg "int" = none
  n_isinstance : mg "isinstance" = none
  n_len : mg "len" = none
  n_list : mg "list" = none
  n_range : mg "range" = none
  n_str : mg "str" = none
  n_tuple : mg "tuple" = none
  mc_JoinError : mg "JoinError" = some (.ref A.c_JoinError)
  mc_Lost : mg "Lost" = some (.ref A.c_Lost)
  mc_NoBase : mg "NoBase" = some (.ref A.c_NoBase)
  mc_NoPiece : mg "NoPiece" = some (.ref A.c_NoPiece)
  mc_NoRule : mg "NoRule" = some (.ref A.c_NoRule)
  mc_NoSense : mg "NoSense" = some (.ref A.c_NoSense)
  mc_NoWhole : mg "NoWhole" = some (.ref A.c_NoWhole)
  mc_SameName : mg "SameName" = some (.ref A.c_SameName)
  mc_TooFar : mg "TooFar" = some (.ref A.c_TooFar)
  mc_Twice : mg "Twice" = some (.ref A.c_Twice)
  mc_Unmet : mg "Unmet" = some (.ref A.c_Unmet)
  hd_U : PySem.W.hasDictIn K A.c_Unmet = true
  ki_NoRule : PySem.W.kitOne K (.ref A.c_Unmet) (.ref A.c_NoRule) = some false
  ki_NoPiece : PySem.W.kitOne K (.ref A.c_Unmet) (.ref A.c_NoPiece) = some false
  ki_Twice : PySem.W.kitOne K (.ref A.c_Unmet) (.ref A.c_Twice) = some false
  ki_SameName : PySem.W.kitOne K (.ref A.c_Unmet) (.ref A.c_SameName) = some false
  ki_Unmet : PySem.W.kitOne K (.ref A.c_Unmet) (.ref A.c_Unmet) = some true
  ki_TooFar : PySem.W.kitOne K (.ref A.c_Unmet) (.ref A.c_TooFar) = some false
  ki_NoWhole : PySem.W.kitOne K (.ref A.c_Unmet) (.ref A.c_NoWhole) = some false
  ki_NoBase : PySem.W.kitOne K (.ref A.c_Unmet) (.ref A.c_NoBase) = some false
  ki_Lost : PySem.W.kitOne K (.ref A.c_Unmet) (.ref A.c_Lost) = some false
  ki_NoSense : PySem.W.kitOne K (.ref A.c_Unmet) (.ref A.c_NoSense) = some false
  ki_JoinError : PySem.W.kitOne K (.ref A.c_Unmet) (.ref A.c_JoinError) = some true
  ki_V : PySem.W.kitOne K (.ref A.c_Unmet) (.type "ValueError") = some true
  mj : PySem.W.mroIn K A.c_Unmet (.ref A.c_JoinError) = some true
  xg_Unmet : PySem.W.findIn K (.ref A.c_Unmet) "__getattribute__" = some (some (.builtin "BaseException.__getattribute__"))
  xn_Unmet : PySem.W.findIn K (.ref A.c_Unmet) "__getattr__" = some none
  xl_Unmet : PySem.W.findIn K (.ref A.c_Unmet) "__class__" = some (some (.builtin "object.__class__"))
  xo_Unmet : PySem.W.mroIn K A.c_Unmet (.type "object") = some true
  xb_Unmet : PySem.W.mroIn K A.c_Unmet (.type "BaseException") = some true
  sp_cl : PySem.W.specialIn K (.builtin "object.__class__") "__get__" = some (some (.builtin "getset_descriptor.__get__"))
  tk_cl : PySem.W.takesIn K (.builtin "object.__class__") = some true
  ei_Unmet : ownInit K A.c_Unmet A.Unmet___init__ = true
  ee_Unmet : errIn K A.c_Unmet = true
  es_Unmet : PySem.W.findIn K (.ref A.c_Unmet) "__setattr__" = some (some (.builtin "object.__setattr__"))
  br_JoinError : PySem.W.readsIn K A.c_JoinError (.type "type") = true
  bf_JoinError : PySem.W.findCls K (.ref A.c_JoinError) (.type "type") "__init__" = some (.val (.builtin "ValueError.__init__"))
  bg_JoinError : PySem.W.specialIn K (.ref A.c_JoinError) "__getattribute__" = some (some (.builtin "type.__getattribute__"))
  ct_JoinError : PySem.W.instIn K (.ref A.c_JoinError) (.type "tuple") = some false
  cb_JoinError : PySem.W.mroIn K A.c_JoinError (.type "BaseException") = some true
  er_Unmet : ErrC K A.c_Unmet A.Unmet___init__
  bi_JoinError : BaseI K A.c_JoinError
  no_Unmet_name : NoAttr K A.c_Unmet "name"
  no_Unmet_piece : NoAttr K A.c_Unmet "piece"
theorem sc_wrapped : FnScope ["number"] ["number"] (defScope s_wrapped) := ⟨rfl, rfl, rfl, by decide +kernel, rfl, by decide +kernel, by decide +kernel⟩
theorem sc_Unmet___init__ : FnScope ["self", "name", "piece"] ["self", "name", "piece"] (defScope s_Unmet___init__) := ⟨rfl, rfl, rfl, by decide +kernel, rfl, by decide +kernel, by decide +kernel⟩
theorem sc_aim : FnScope ["piece", "names", "fill"] ["piece", "names", "fill"] (defScope s_aim) := ⟨rfl, rfl, rfl, by decide +kernel, rfl, by decide +kernel, by decide +kernel⟩
theorem sc_aims : FnScope ["piece", "names", "fills", "own"] ["piece", "names", "fills"] (defScope s_aims) := ⟨rfl, rfl, rfl, by decide +kernel, rfl, by decide +kernel, by decide +kernel⟩
theorem sc_aim_by : FnScope ["piece_name", "own", "names", "fill", "name", "add", "soft", "place"] ["piece_name", "own", "names", "fill"] (defScope s_aim_by) := ⟨rfl, rfl, rfl, by decide +kernel, rfl, by decide +kernel, by decide +kernel⟩
theorem sc_places_told : FnScope ["piece", "told_by", "places", "name", "sort", "stretch", "offset"] ["piece", "told_by"] (defScope s_places_told) := ⟨rfl, rfl, rfl, by decide +kernel, rfl, by decide +kernel, by decide +kernel⟩
theorem sc__law_cell_at : FnScope ["_law_script", "_law_k"] ["_law_script", "_law_k"] (defScope s__law_cell_at) := ⟨rfl, rfl, rfl, by decide +kernel, rfl, by decide +kernel, by decide +kernel⟩
theorem sc__law_name_by : FnScope ["_law_cell", "_law_k", "_law_signs", "_law_size", "_law_at", "_law_name", "_law_j", "_law_many", "_law_place"] ["_law_cell", "_law_k"] (defScope s__law_name_by) := ⟨rfl, rfl, rfl, by decide +kernel, rfl, by decide +kernel, by decide +kernel⟩
theorem sc__law_word_row : FnScope ["_law_cell", "_law_names_by", "_law_what", "_law_rest", "_law_soft", "_law_add", "_law_rule"] ["_law_cell", "_law_names_by"] (defScope s__law_word_row) := ⟨rfl, rfl, rfl, by decide +kernel, rfl, by decide +kernel, by decide +kernel⟩
theorem sc__law_told_by : FnScope ["_law_pieces", "_law_cell", "_law_names_by", "_law_strict", "_law_piece", "_law_name", "_law_sort", "_law_other"] ["_law_pieces", "_law_cell", "_law_names_by", "_law_strict"] (defScope s__law_told_by) := ⟨rfl, rfl, rfl, by decide +kernel, rfl, by decide +kernel, by decide +kernel⟩
theorem sc__law_drawn : FnScope ["_law_cells", "_law_names_by", "_law_titles_by", "_law_strict", "_law_pieces", "_law_cell", "_law_what", "_law_step", "_law_stretch", "_law_more"] ["_law_cells", "_law_names_by", "_law_titles_by", "_law_strict"] (defScope s__law_drawn) := ⟨rfl, rfl, rfl, by decide +kernel, rfl, by decide +kernel, by decide +kernel⟩
theorem sc__law_copy : FnScope ["_law_piece", "_law_stretches"] ["_law_piece"] (defScope s__law_copy) := ⟨rfl, rfl, rfl, by decide +kernel, rfl, by decide +kernel, by decide +kernel⟩
theorem sc__law_whole : FnScope ["_law_found"] ["_law_found"] (defScope s__law_whole) := ⟨rfl, rfl, rfl, by decide +kernel, rfl, by decide +kernel, by decide +kernel⟩
theorem sc__law_last : FnScope ["_law_pieces", "_law_some", "_law_title", "_law_stretches", "_law_told", "_law_name", "_law_sort", "_law_stretch", "_law_offset"] ["_law_pieces"] (defScope s__law_last) := ⟨rfl, rfl, rfl, by decide +kernel, rfl, by decide +kernel, by decide +kernel⟩
theorem sc__law_due : FnScope ["_law_piece", "_law_some", "_law_fill", "_law_name", "_law_sort", "_law_stretch", "_law_offset", "_law_title"] ["_law_piece", "_law_some", "_law_fill"] (defScope s__law_due) := ⟨rfl, rfl, rfl, by decide +kernel, rfl, by decide +kernel, by decide +kernel⟩
theorem sc__law_alone : FnScope ["_law_kept", "_law_some"] ["_law_kept"] (defScope s__law_alone) := ⟨rfl, rfl, rfl, by decide +kernel, rfl, by decide +kernel, by decide +kernel⟩
theorem sc__law_refused : FnScope ["_law_kept", "_law_title", "_law_name"] ["_law_kept", "_law_title", "_law_name"] (defScope s__law_refused) := ⟨rfl, rfl, rfl, by decide +kernel, rfl, by decide +kernel, by decide +kernel⟩
theorem sc__law_holds : FnScope ["_law_piece", "_law_some", "_law_fill", "_law_due_here", "_law_kept", "_law_found", "refusal"] ["_law_piece", "_law_some", "_law_fill"] (defScope s__law_holds) := ⟨rfl, rfl, rfl, by decide +kernel, rfl, by decide +kernel, by decide +kernel⟩
theorem sc_law : FnScope ["_law_script", "_law_pieces", "_law_some", "_law_held", "_law_piece", "_law_handed", "_law_stretch", "_law_fill"] ["_law_script"] (defScope s_law) := ⟨rfl, rfl, rfl, by decide +kernel, rfl, by decide +kernel, by decide +kernel⟩
theorem cK {CX P w K mg base N qual scope f cd Ar outer s H E} : (cxOf CX P w K mg base N qual scope f cd Ar outer s H E).K = K := rfl
theorem bK {X : Cx} {N' : List Str} {scope : Scope} {fp : List Addr} {s : Shared} {H : Hp} : (blk X N' scope fp s H).K = X.K := rfl
theorem slen (a b : Str) : (a ++ b).length = a.length + b.length := Array.size_append
theorem atI_ex {α : Type} {xs : List α} {i : Int} (h1 : -(xs.length : Int) ≤ i) (h2 : i < xs.length) : ∃ v, atI xs i = some v ∧ v ∈ xs := by
  unfold atI ixN
  by_cases h0 : 0 ≤ i
  · have hl : i.toNat < xs.length := by omega
    refine ⟨xs[i.toNat], ?_, List.getElem_mem hl⟩
    rw [if_pos h0, if_pos h2]
    show xs[i.toNat]? = _
    rw [List.getElem?_eq_getElem hl]
  · have hl : (i + xs.length).toNat < xs.length := by omega
    refine ⟨xs[(i + xs.length).toNat], ?_, List.getElem_mem hl⟩
    rw [if_neg h0, if_pos h1]
    show xs[(i + xs.length).toNat]? = _
    rw [List.getElem?_eq_getElem hl]
/-! ### what is drawn: names, rows, pieces -/
noncomputable def isT (z : Str) : Prop := z = Str.ofString "whole" ∨ z = Str.ofString "high" ∨ z = Str.ofString "low" ∨ z = Str.ofString "near" ∨ z = Str.ofString "split"
noncomputable def isSort (z : Str) : Prop := z = Str.ofString "tell" ∨ z = Str.ofString "weak" ∨ z = Str.ofString "own"
noncomputable def isKind (z : Str) : Prop := z = Str.ofString "code" ∨ z = Str.ofString "data"
noncomputable def signs : Str := Str.ofString "abcdefghijklmnopqrstuvwxyz0123456789_"
noncomputable def sgn (i : Int) : Nat := (atI signs.cps.toList i).getD 0
noncomputable def nmSize (c k : Int) : Int := if c / 256 % 3 = 0 then 1 + k % 16 else 1 + c % 16
noncomputable def nmAt (c : Int) : Int := if c / 256 % 3 = 0 then 16 else c / 16 % (1 + c % 16)
noncomputable def nmIx (c k : Int) (j : Int) : Int := (c / (j + 3) + j * j + k * (if decide (j = nmAt c) = true then 1 else 0)) % (37 - 11 * (if decide (j = 0) = true then 1 else 0))
noncomputable def nmTo (c k : Int) (n : Nat) : Str := ⟨((List.range n).map fun j : Nat => sgn (nmIx c k j)).toArray⟩
noncomputable def nameOf (c k : Int) : Str := nmTo c k (nmSize c k).toNat
noncomputable def NmIn (c : Int) (z : Str) : Prop := ∃ k : Int, 0 ≤ k ∧ k < 12 ∧ z = nameOf c k
set_option genInjectivity false in
structure FillOk (c : Int) (n : Nat) (f : FillM) : Prop where
  rule : isT f.rule
  name : NmIn c f.name
  lo : 0 ≤ f.at_
  hi : f.at_ < n
  addlo : -2147483648 ≤ f.add
  addhi : f.add < 2147483648
  soft : f.soft = true → f.rule = Str.ofString "whole" ∨ f.rule = Str.ofString "high" ∨ f.rule = Str.ofString "low"
set_option genInjectivity false in
structure StOk (c : Int) (s : StM) : Prop where
  kind : isKind s.kind
  step : s.step = 1 ∨ s.step = 2 ∨ s.step = 4 ∨ s.step = 16 ∨ s.step = 65536
  words : ∀ i ∈ s.words, 0 ≤ i ∧ i < 4294967296
  fills : ∀ f ∈ s.fills, FillOk c s.words.length f
  asc : s.fills.Pairwise fun f g => f.at_ < g.at_
  few : s.fills.length ≤ s.words.length
set_option genInjectivity false in
structure ToldOk (c : Int) (ss : List StM) (n : ToldM) : Prop where
  name : NmIn c n.name
  sort : isSort n.sort
  at_ : ∃ (k : Nat) (s : StM), ss[k]? = some s ∧ n.st = k ∧ 0 ≤ n.off ∧ n.off ≤ s.words.length
set_option genInjectivity false in
structure PcOk (c : Int) (p : PcM) : Prop where
  sts : ∀ s ∈ p.sts, StOk c s
  nms : ∀ n ∈ p.nms, ToldOk c p.sts n
  nd : (p.nms.map ToldM.name).Nodup
noncomputable def _root_.L2.PcM.size (p : PcM) : Nat := 1 + p.sts.length + (p.sts.map fun s => s.words.length).sum + p.nms.length
set_option genInjectivity false in
structure Drawn (c t : Int) (n : Nat) (ps : List PcM) : Prop where
  ok : ∀ p ∈ ps, PcOk c p
  few : ps.length ≤ 12
  names : ps.map PcM.name = (List.range ps.length).map fun i : Nat => nameOf t i
  size : (ps.map PcM.size).sum ≤ n
set_option genInjectivity false in
structure DC (H0 : Hp) (a L : Addr) (c t v : Int) (i : Nat) (ps : List PcM) (σ : L2.St) (H : Hp) : Prop where
  st : ∃ b7 b8 b9, σ = [some (V.ref a), some (V.int c), some (V.int t), some (V.bl true), some (V.ref L), some (V.int v), some (V.int (v % 9)), b7, b8, b9]
  same : Same H0 H
  pcs : Pcs H L ps
  new : ∀ b ∈ L :: listsOf ps, H0 b = none
  dr : Drawn c t i ps
  lt : i < 61
theorem DC.mono {H0 : Hp} {a L : Addr} {c t v : Int} {i : Nat} {ps : List PcM} {σ : L2.St} {H H' : Hp} (d : DC H0 a L c t v i ps σ H) (e : Same H H') : DC H0 a L c t v i ps σ H' := ⟨d.st, d.same.trans e, d.pcs.mono e, d.new, d.dr, d.lt⟩
noncomputable def DN (H0 : Hp) (a L : Addr) (c t : Int) (i : Nat) (D : Ends) : Prop := ∀ ps σ H, (∃ b5 b6 b7 b8 b9, σ = [some (V.ref a), some (V.int c), some (V.int t), some (V.bl true), some (V.ref L), b5, b6, b7, b8, b9]) → Same H0 H → Pcs H L ps → (∀ b ∈ L :: listsOf ps, H0 b = none) → Drawn c t (i + 1) ps → D.nx σ H
noncomputable def dB1 : TS := fun D σ H => ∃ H0 a L c t v i ps, DC H0 a L c t v i ps σ H ∧ ps.length < 12 ∧ DN H0 a L c t i D
noncomputable def dB2 : TS := fun D σ H => ∃ H0 a L c t v i ps p, DC H0 a L c t v i (ps ++ [p]) σ H ∧ DN H0 a L c t i D
noncomputable def dB3 : TS := fun D σ H => ∃ H0 a L c t v i ps p ss s, DC H0 a L c t v i (ps ++ [p]) σ H ∧ p.sts = ss ++ [s] ∧ DN H0 a L c t i D
noncomputable def dB4 : TS := fun D σ H => ∃ H0 a L c t v i ps p ss s, DC H0 a L c t v i (ps ++ [p]) σ H ∧ p.sts = ss ++ [s] ∧ DN H0 a L c t i D
noncomputable def dT1 : TT := fun σ H R => ∃ H0 a L c t v i ps, DC H0 a L c t v i ps σ H ∧ ∀ (b : Bool) H', Same H H' → (b = true → ps.length < 12) → (b = false → ps ≠ []) → R b H'
noncomputable def dT2 : TT := fun σ H R => ∃ H0 a L c t v i ps p, DC H0 a L c t v i (ps ++ [p]) σ H ∧ ∀ (b : Bool) H', Same H H' → (b = false → p.sts ≠ []) → R b H'
noncomputable def sp_cellat (K : PySem.W.Frag) : Sp := fun vs H Q _ => ∃ (a : Addr) (ns : List Int) (k : Int), vs = [.ref a, .int k] ∧ SqL K H a (ns.map V.int) ∧ ns.length ≤ 63 ∧ 0 ≤ k ∧ ∀ i : Int, Q (.int i) H
noncomputable def sp_nameby : Sp := fun vs H Q _ => ∃ c k : Int, vs = [.int c, .int k] ∧ Q (.str (nameOf c k)) H
noncomputable def sp_wordrow : Sp := fun vs H Q _ => ∃ c n : Int, vs = [.int c, .int n] ∧ ∀ H', Same H H' → Q .non H' ∧ ∀ f : FillM, FillOk n 1 { f with at_ := 0 } → H' f.a = some (.tup [.str f.rule, .str f.name, .int f.add, .bl f.soft]) → H f.a = none → Q (.ref f.a) H'
noncomputable def sp_toldby (K : PySem.W.Frag) : Sp := fun vs H Q _ => ∃ (L : Addr) (c n : Int) (ps : List PcM) (p : PcM) (ss : List StM) (s : StM), vs = [.ref L, .int c, .int n, .bl true] ∧ Pcs H L (ps ++ [p]) ∧ p.sts = ss ++ [s] ∧ ps.length ≤ 12 ∧ p.nms.length ≤ 61 ∧ p.sts.length ≤ 61 ∧ s.words.length ≤ 61 ∧
  (∀ H', Same H H' → Q .non H') ∧ ∀ (m : ToldM) (H' : Hp), Same H H' → m.At H' → NmIn n m.name → m.name ∉ p.nms.map ToldM.name → isSort m.sort → m.st = ss.length → m.off = s.words.length → Q .non (upd H' p.ln (.lst (p.nms.map ToldM.v ++ [m.v])))
noncomputable def sp_drawn (K : PySem.W.Frag) : Sp := fun vs H Q _ => ∃ (a : Addr) (ns : List Int) (c t : Int), vs = [.ref a, .int c, .int t, .bl true] ∧ SqL K H a (ns.map V.int) ∧ ns.length ≤ 61 ∧ ∀ (L : Addr) (ps : List PcM) (H' : Hp), Same H H' → Pcs H' L ps → (∀ b ∈ L :: listsOf ps, H b = none) → Drawn c t ns.length ps → Q (.ref L) H'
noncomputable def sp_copy (K : PySem.W.Frag) : Sp := fun vs H Q _ => ∃ p : PcM, vs = [p.v] ∧ p.At H ∧ p.sts.length ≤ 61 ∧ p.nms.length ≤ 62 ∧ (∀ s ∈ p.sts, s.words.length ≤ 61 ∧ s.fills.length ≤ 61) ∧ ∀ (q : PcM) (H' : Hp), Same H H' → q.At H' → p.Copy q → (∀ b ∈ q.lists, H b = none) → q.lists.Nodup → Q q.v H'

/-! ### tables: dicts from names to (piece name, stretch, offset) -/
set_option genInjectivity false in
structure TabM where
  name : Str
  t : Addr
  a : Str
  b : Int
  c : Int
noncomputable def TabM.kv (m : TabM) : Key × V := (.inr m.name, .ref m.t)
noncomputable def TabM.At (H : Hp) (m : TabM) : Prop := H m.t = some (.tup [.str m.a, .int m.b, .int m.c])
set_option genInjectivity false in
structure Tab (H : Hp) (d : Addr) (ms : List TabM) : Prop where
  top : H d = some (.dK (ms.map TabM.kv))
  at_ : ∀ m ∈ ms, TabM.At H m
noncomputable def lookT (ms : List TabM) (z : Str) : Option TabM := ms.find? fun m => decide (m.name = z)
noncomputable def putT (ms : List TabM) (m : TabM) : List TabM := if (ms.any fun n => decide (n.name = m.name)) = true then ms.map (fun n => if n.name = m.name then m else n) else ms ++ [m]
theorem valT (ms : List TabM) (z : Str) : valV (ms.map TabM.kv) (.inr z) = (lookT ms z).map fun m => V.ref m.t := by
  unfold valV lookT
  rw [List.find?_map, Option.map_map]
  congr 1
  congr 1
  funext m
  simp [TabM.kv]
theorem any_kv (ms : List TabM) (z : Str) : ((ms.map TabM.kv).any fun kv => decide (kv.1 = (.inr z : Key))) = ms.any fun n => decide (n.name = z) := by
  rw [List.any_map]
  congr 1
  funext m
  simp [TabM.kv]
theorem putK_T (ms : List TabM) (m : TabM) : putK (ms.map TabM.kv) (.inr m.name) (.ref m.t) = (putT ms m).map TabM.kv := by
  unfold putK putT
  rw [any_kv]
  by_cases h : (ms.any fun n => decide (n.name = m.name)) = true
  · rw [if_pos h, if_pos h, List.map_map, List.map_map]
    congr 1
    funext n
    by_cases e : n.name = m.name
    · simp [TabM.kv, e]
    · simp [TabM.kv, e]
  · rw [if_neg h, if_neg h, List.map_append]; rfl
theorem putT_mem {ms : List TabM} {m n : TabM} (h : n ∈ putT ms m) : n ∈ ms ∨ n = m := by
  unfold putT at h
  split at h
  · obtain ⟨x, hx, e⟩ := List.mem_map.mp h
    split at e
    · exact .inr e.symm
    · exact .inl (e ▸ hx)
  · rcases List.mem_append.mp h with z | z
    · exact .inl z
    · exact .inr (List.mem_singleton.mp z)
theorem putT_len {ms : List TabM} {m : TabM} : (putT ms m).length ≤ ms.length + 1 := by
  unfold putT
  split
  · rw [List.length_map]; omega
  · rw [List.length_append]; simp
theorem putT_new {ms : List TabM} {m : TabM} (h : m.name ∉ ms.map TabM.name) : putT ms m = ms ++ [m] := by
  unfold putT
  rw [if_neg]
  intro z
  obtain ⟨n, hn, e⟩ := List.any_eq_true.mp z
  exact h (List.mem_map.mpr ⟨n, hn, of_decide_eq_true e⟩)
theorem Tab.mono {H H' : Hp} {d : Addr} {ms : List TabM} (h : Tab H d ms) (e : Same H H') : Tab H' d ms := ⟨e _ _ h.top, fun m hm => e _ _ (h.at_ m hm)⟩
theorem Tab.put {H : Hp} {d : Addr} {ms : List TabM} {m : TabM} (h : Tab H d ms) (hm : TabM.At H m) : Tab (upd H d (.dK (putK (ms.map TabM.kv) (.inr m.name) (.ref m.t)))) d (putT ms m) := by
  refine ⟨by rw [upd_same, putK_T], fun n hn => ?_⟩
  have tup : ∀ n : TabM, TabM.At H n → TabM.At (upd H d (.dK (putK (ms.map TabM.kv) (.inr m.name) (.ref m.t)))) n := fun n hn => by
    unfold TabM.At
    rw [upd_ne (ne_of hn h.top (by intro z; cases z))]
    exact hn
  rcases putT_mem hn with z | z
  · exact tup n (h.at_ n z)
  · rw [z]; exact tup m hm
noncomputable def sOwn : Str := Str.ofString "own"
noncomputable def resOf (p : PcM) (ms : List TabM) (f : FillM) : Option (Str × Int × Int) :=
  match p.nms.find? fun n => decide (n.name = f.name) && decide (n.sort = sOwn) with
  | some n => some (p.name, n.st, n.off)
  | none => (lookT ms f.name).map fun m => (m.a, m.b, m.c)
set_option genInjectivity false in
structure FillIn (H : Hp) (p : PcM) (f : FillM) : Prop where
  at_ : p.At H
  few : p.nms.length ≤ 61
  nd : (p.nms.map ToldM.name).Nodup
  pn : p.name.length ≤ 16 ∧ Sg p.name
  fa : f.At H
  fn : f.name.length ≤ 16 ∧ Sg f.name
noncomputable def upd3 (a : Str) (b c : Int) : HO := .tup [.str a, .int b, .int c]
noncomputable def sp_wrapped : Sp := fun vs H Q _ => ∃ i : Int, vs = [.int i] ∧ Q (.int (i % 4294967296)) H
noncomputable def xdOf (nm pn : Str) : HO := .xd [("name", .str nm), ("piece", .str pn)]
noncomputable def sp_uinit (A : Ad) : Sp := fun vs H Q _ => ∃ (a : Addr) (n p : Str), vs = [.ref a, .str n, .str p] ∧ H a = some (XN a A.c_Unmet none) ∧ (n.length ≤ 16 ∧ Sg n) ∧ (p.length ≤ 16 ∧ Sg p) ∧
  ∀ d H', H d = none → d ≠ a → (∀ b o, b ≠ a → H b = some o → H' b = some o) → H' a = some (XN a A.c_Unmet (some d)) → H' d = some (XD d [("name", .str n), ("piece", .str p)]) → Q .non H'
noncomputable def sp_places : Sp := fun vs H Q _ => ∃ (p : PcM) (z : Str), vs = [p.v, .str z] ∧ p.At H ∧ p.nms.length ≤ 61 ∧ (p.nms.map ToldM.name).Nodup ∧
  ∀ d ms H', Same H H' → Tab H' d ms → ms.map (fun m => (m.name, m.a, m.b, m.c)) = (p.nms.filter fun n => decide (n.sort = z)).map (fun n => (n.name, p.name, n.st, n.off)) → H d = none → Q (.ref d) H'
noncomputable def sp_aimby (A : Ad) : Sp := fun vs H Q E => ∃ (pn : Str) (dO dN : Addr) (f : FillM) (mo mn : List TabM), vs = [.str pn, .ref dO, .ref dN, f.v] ∧ f.At H ∧ Tab H dO mo ∧ Tab H dN mn ∧ (pn.length ≤ 16 ∧ Sg pn) ∧ (f.name.length ≤ 16 ∧ Sg f.name) ∧
  (∀ m, ((lookT mo f.name).or (lookT mn f.name)) = some m → ∀ q, H q = none → Q (.ref q) (upd H q (upd3 m.a m.b (m.c + f.add)))) ∧ ((lookT mo f.name).or (lookT mn f.name) = none → f.soft = true → Q (.int (f.add % 4294967296)) H) ∧
  ((lookT mo f.name).or (lookT mn f.name) = none → f.soft = false → ∀ d H', Same H H' → H' d = some (xdOf f.name pn) → E (.ref A.c_Unmet) (some d) H')
noncomputable def AimTo (A : Ad) (p : PcM) (mn : List TabM) (f : FillM) (H : Hp) (Q1 Q2 : V → Hp → Prop) (E : XK) : Prop :=
  (∀ a b c, resOf p mn f = some (a, b, c) → ∀ q H', Same H H' → H' q = some (upd3 a b (c + f.add)) → Q1 (.ref q) H') ∧ (resOf p mn f = none → f.soft = true → ∀ H', Same H H' → Q1 (.int (f.add % 4294967296)) H') ∧
  (resOf p mn f = none → f.soft = false → ∀ d H', Same H H' → H' d = some (xdOf f.name p.name) → E (.ref A.c_Unmet) (some d) H')
noncomputable def sp_aims (K : PySem.W.Frag) (A : Ad) : Sp := fun vs H Q E => ∃ (p : PcM) (dN l : Addr) (f : FillM) (mn : List TabM), vs = [p.v, .ref dN, .ref l] ∧ FillIn H p f ∧ Tab H dN mn ∧ SqL K H l [f.v] ∧
  AimTo A p mn f H (fun v H' => ∀ l' H2, Same H' H2 → H2 l' = some (.lst [v]) → Q (.ref l') H2) (fun _ _ => True) E
noncomputable def sp_aim (A : Ad) : Sp := fun vs H Q E => ∃ (p : PcM) (dN : Addr) (f : FillM) (mn : List TabM), vs = [p.v, .ref dN, f.v] ∧ FillIn H p f ∧ Tab H dN mn ∧ AimTo A p mn f H Q (fun _ _ => True) E
noncomputable def sp_whole (K : PySem.W.Frag) : Sp := fun vs H Q _ => ∃ i : Int, vs = [.int i] ∧ Q (.bl true) H
noncomputable def sp_last : Sp := fun vs H Q _ => ∃ (L : Addr) (ps : List PcM), vs = [.ref L] ∧ Pcs H L ps ∧ ps.length ≤ 12 ∧ (∀ p ∈ ps, p.nms.length ≤ 61) ∧ ∀ d ms H', Same H H' → Tab H' d ms → H d = none → Q (.ref d) H'
noncomputable def sp_due : Sp := fun vs H Q _ => ∃ (p : PcM) (dN : Addr) (f : FillM) (mn : List TabM), vs = [p.v, .ref dN, f.v] ∧ p.At H ∧ p.nms.length ≤ 61 ∧ f.At H ∧ Tab H dN mn ∧
  (∀ a b c, resOf p mn f = some (a, b, c) → ∀ q H', Same H H' → H' q = some (upd3 a b (c + f.add)) → Q (.ref q) H') ∧ (resOf p mn f = none → f.soft = true → Q (.int (f.add % 4294967296)) H) ∧ (resOf p mn f = none → f.soft = false → Q .non H)
noncomputable def sp_alone (A : Ad) : Sp := fun vs H Q _ => ∃ (a : Addr) (dx : Option Addr), vs = [.ref a] ∧ H a = some (XO a A.c_Unmet dx) ∧ DxOk dx H ∧ ∀ H', Same H H' → Q (.bl true) H'
noncomputable def sp_refused (A : Ad) : Sp := fun vs H Q _ => ∃ (a d : Addr) (t n : Str), vs = [.ref a, .str t, .str n] ∧ H a = some (XO a A.c_Unmet (some d)) ∧ H d = some (xdOf n t) ∧ ∀ H', Same H H' → Q (.bl true) H'
noncomputable def sp_holds : Sp := fun vs H Q _ => ∃ (p : PcM) (dN : Addr) (f : FillM) (mn : List TabM), vs = [p.v, .ref dN, f.v] ∧ FillIn H p f ∧ Tab H dN mn ∧ ∀ H', Same H H' → Q (.bl true) H'
noncomputable def sp_law (K : PySem.W.Frag) : Sp := fun vs H Q _ => ∃ (a : Addr) (ns : List Int), vs = [.ref a] ∧ SqL K H a (ns.map V.int) ∧ ns.length ≤ 63 ∧ ∀ H', Q (.bl true) H'


section
variable {P : Program} {w : World} {K : PySem.W.Frag} {mg : Str → Option Value} {base : Heap} {A : Ad}
theorem nmTo_succ (c k : Int) (n : Nat) : nmTo c k (n + 1) = nmTo c k n ++ (⟨#[sgn (nmIx c k n)]⟩ : Str) := by
  show (⟨_⟩ : Str) = ⟨_⟩
  congr 1
  rw [List.range_succ, List.map_append]
  apply Array.ext'
  unfold nmTo
  simp
theorem nmTo_len (c k : Int) (n : Nat) : (nmTo c k n).length = n := by
  show ((List.range n).map _).toArray.size = n
  simp
theorem sgn_at {i : Int} (h0 : 0 ≤ i) (h1 : i < 37) : atI signs.cps.toList i = some (sgn i) := by
  have hl : signs.cps.toList.length = 37 := by decide +kernel
  obtain ⟨v, hv, _⟩ := atI_ex (xs := signs.cps.toList) (i := i) (by omega) (by omega)
  unfold sgn
  rw [hv]; rfl
theorem nmIx_lo (c k : Int) (j : Nat) : 0 ≤ nmIx c k j ∧ nmIx c k j < 37 := by
  unfold nmIx
  generalize c / ((j : Int) + 3) + (j : Int) * (j : Int) + k * (if decide ((j : Int) = nmAt c) = true then 1 else 0) = x
  split <;> omega
theorem sgn_sg {i : Int} (h0 : 0 ≤ i) (h1 : i < 37) : sgn i < 16 ^ 8 := by
  have hl : signs.cps.toList.length = 37 := by decide +kernel
  obtain ⟨v, hv, hm⟩ := atI_ex (xs := signs.cps.toList) (i := i) (by omega) (by omega)
  unfold sgn
  rw [hv]
  have all : signs.cps.toList.all (fun c => decide (c < 16 ^ 8)) = true := by decide +kernel
  exact of_decide_eq_true (List.all_eq_true.mp all v hm)
theorem nameOf_ok (c k : Int) (hk : 0 ≤ k) : (nameOf c k).length ≤ 16 ∧ Sg (nameOf c k) := by
  unfold nameOf
  refine ⟨?_, fun x hx => ?_⟩
  · rw [nmTo_len]; unfold nmSize; split <;> omega
  · unfold nmTo at hx
    simp only [List.mem_toArray, List.mem_map, List.mem_range] at hx
    obtain ⟨j, _, rfl⟩ := hx
    exact sgn_sg (nmIx_lo c k j).1 (nmIx_lo c k j).2
theorem G__law_cell_at (T : Txt K mg A) : FnOk P w K mg base CX0 1 A._law_cell_at A.fd__law_cell_at ["_law_script", "_law_k"] (sp_cellat K) := by
  refine T.F__law_cell_at.ok sc__law_cell_at (fun vs H Q E h => ?_) (fun cdv Ar outer s H vs Q E hr h => ?_)
  · obtain ⟨a, ns, k, rfl, _⟩ := h
    rfl
  · obtain ⟨a, ns, i, rfl, hS, hl, h0, k⟩ := h
    refine ⟨_, (pss_cons (ps_if (pt_cmpR op_lt (pv 1) (pe_callB (call_lenK (K := K) rfl) (by rfl) T.n_len bt_len (pa_cons (pv 0) pa_nil)) (nomark _)) (pss_one (ps_ret (pe_ix (ix_listK (K := K) rfl) (pv 0) (pv 1) (fun _ _ => rfl)))) pss_nil) (pss_one (ps_ret pe_int))), ?_⟩
    ((try dsimp only [tSeq, tAsg, gName, tC, tOp, tUn, tVar, tRet, tIfS, tOr, tAnd, tNot, tTest, tB, tChain, tCB, tCons, tNil, tCall, tSl, tNoPart, tPart, tNext, tDrop, tLst, tTup, tYes, tNotV, tAndV, tOrV, L2.start, List.set, List.map, List.length, List.replicate, List.cons_append, List.nil_append, List.append_nil, cK, bK, rI0, rI, rU, rIxS, rIxL, rIxT, tRetN, rSlL, rIn, rCatT, gTup, gCons, gNil, tRaiseI, tXInit, tDGet, tDGet1, tDGet2, tDIn, tDNotIn, sDPut, tDNewK, rDictOf, rEqDict, rCount, tCompX_list, xCall, sXFld, tXFld, rSlS, rEq, rNe, sc0, sc1, sc2, sc3, sc4, sc5, sc6, sc7, sc8, sc9, sc10, sc11, sc12, sc13, rCatS, rIsi, LenV, rAll, tFor_list, tFor_tup, tFor_str, tFor_rng1, tFor_rng2, tComp_list, tComp_tup, tComp_str, tComp_rng1, blkSt, tBM, rAppend, rStarts, rIndex, tIf, tMake, tMeth, sFld, tFld, tRepr, tFmt, jNil, jCons, tJoined, rJoin, rIsx, rIst, tRaise, tTryAs, tTry0, un1, xMeth, xDrop, xSet, xRet, xOf, xSeq, List.getElem?_cons_zero, List.getElem?_cons_succ, Option.some.injEq, V.int.injEq, V.str.injEq, V.bl.injEq, V.ref.injEq, V.ty.injEq, List.cons.injEq, exists_eq_left', exists_eq_left, exists_eq', and_assoc, if_true, if_false, Bool.not_false, Bool.not_true, Bool.not_not, Bool.false_eq_true, exists_and_left, and_true, true_and, List.set_cons_zero, List.set_cons_succ, Option.join_some, false_and, or_false, false_or, exists_false, sp_cellat, sp_nameby, sp_wordrow, sp_toldby, sp_drawn, sp_copy, sp_wrapped, sp_uinit, sp_places, sp_aimby, sp_aims, sp_aim, sp_whole, sp_last, sp_due, sp_alone, sp_refused, sp_holds, Ends.nx, Nat.reduceSub, Nat.reduceAdd]); (try simp only [tSeq, tAsg, gName, tC, tOp, tUn, tVar, tRet, tIfS, tOr, tAnd, tNot, tTest, tB, tChain, tCB, tCons, tNil, tCall, tSl, tNoPart, tPart, tNext, tDrop, tLst, tTup, tYes, tNotV, tAndV, tOrV, L2.start, List.set, List.map, List.length, List.replicate, List.cons_append, List.nil_append, List.append_nil, cK, bK, rI0, rI, rU, rIxS, rIxL, rIxT, tRetN, rSlL, rIn, rCatT, gTup, gCons, gNil, tRaiseI, tXInit, tDGet, tDGet1, tDGet2, tDIn, tDNotIn, sDPut, tDNewK, rDictOf, rEqDict, rCount, tCompX_list, xCall, sXFld, tXFld, rSlS, rEq, rNe, sc0, sc1, sc2, sc3, sc4, sc5, sc6, sc7, sc8, sc9, sc10, sc11, sc12, sc13, rCatS, rIsi, LenV, rAll, tFor_list, tFor_tup, tFor_str, tFor_rng1, tFor_rng2, tComp_list, tComp_tup, tComp_str, tComp_rng1, blkSt, tBM, rAppend, rStarts, rIndex, tIf, tMake, tMeth, sFld, tFld, tRepr, tFmt, jNil, jCons, tJoined, rJoin, rIsx, rIst, tRaise, tTryAs, tTry0, un1, xMeth, xDrop, xSet, xRet, xOf, xSeq, List.getElem?_cons_zero, List.getElem?_cons_succ, Option.some.injEq, V.int.injEq, V.str.injEq, V.bl.injEq, V.ref.injEq, V.ty.injEq, List.cons.injEq, exists_eq_left', exists_eq_left, exists_eq', and_assoc, if_true, if_false, Bool.not_false, Bool.not_true, Bool.not_not, Bool.false_eq_true, exists_and_left, and_true, true_and, List.set_cons_zero, List.set_cons_succ, Option.join_some, false_and, or_false, false_or, exists_false, sp_cellat, sp_nameby, sp_wordrow, sp_toldby, sp_drawn, sp_copy, sp_wrapped, sp_uinit, sp_places, sp_aimby, sp_aims, sp_aim, sp_whole, sp_last, sp_due, sp_alone, sp_refused, sp_holds, Ends.nx, Nat.reduceSub, Nat.reduceAdd, reduceCtorEq]))
    refine ⟨ns.length, .inl ⟨_, hS, by simp⟩, ite2 (fun hi => ?_) (fun _ => k 0)⟩
    have hi := of_decide_eq_true hi
    obtain ⟨v, hv, hm⟩ := atI_ex (xs := ns.map V.int) (i := i) (by simp; omega) (by simpa using hi)
    obtain ⟨j, _, rfl⟩ := List.mem_map.mp hm
    exact ⟨_, hS, _, hv, k j⟩
theorem G__law_name_by (T : Txt K mg A) : FnOk P w K mg base CX0 1 A._law_name_by A.fd__law_name_by ["_law_cell", "_law_k"] sp_nameby := by
  refine T.F__law_name_by.ok sc__law_name_by (fun vs H Q E h => ?_) (fun cdv Ar outer s H vs Q E hr h => ?_)
  · obtain ⟨c, k, rfl, _⟩ := h
    rfl
  · obtain ⟨c, i, rfl, k⟩ := h
    refine ⟨_, (pss_cons (ps_set (i := 2) sc__law_name_by.nd rfl (by first | exact Or.inl rfl | exact Or.inr rfl) pe_str) (pss_cons (ps_set (i := 3) sc__law_name_by.nd rfl (by first | exact Or.inl rfl | exact Or.inr rfl) (pe_op op_add pe_int (pe_op op_mod (pv 0) pe_int))) (pss_cons (ps_set (i := 4) sc__law_name_by.nd rfl (by first | exact Or.inl rfl | exact Or.inr rfl) (pe_op op_mod (pe_op op_fdiv (pv 0) pe_int) (pv 3))) (pss_cons (ps_if (pt_cmpR op_eq (pe_op op_mod (pe_op op_fdiv (pv 0) pe_int) pe_int) pe_int (nomark _)) (pss_cons (ps_set (i := 3) sc__law_name_by.nd rfl (by first | exact Or.inl rfl | exact Or.inr rfl) (pe_op op_add pe_int (pe_op op_mod (pv 1) pe_int))) (pss_one (ps_set (i := 4) sc__law_name_by.nd rfl (by first | exact Or.inl rfl | exact Or.inr rfl) pe_int))) pss_nil) (pss_cons (ps_set (i := 5) sc__law_name_by.nd rfl (by first | exact Or.inl rfl | exact Or.inr rfl) pe_str) (pss_cons (ps_for PassesOwn.never rfl (pi_range1 rfl T.n_range (pa_cons (pv 3) pa_nil)) (pg_name (i := 6) sc__law_name_by.nd rfl (by first | exact Or.inl rfl | exact Or.inr rfl)) (pss_cons (ps_set (i := 7) sc__law_name_by.nd rfl (by first | exact Or.inl rfl | exact Or.inr rfl) (pe_op op_sub pe_int (pe_op op_mul pe_int (pe_callTy call_int1 (by rfl) T.n_int bt_int (pa_cons (pe_cmpR op_eq (pv 6) pe_int (nomark _)) pa_nil))))) (pss_cons (ps_set (i := 8) sc__law_name_by.nd rfl (by first | exact Or.inl rfl | exact Or.inr rfl) (pe_op op_add (pe_op op_add (pe_op op_fdiv (pv 0) (pe_op op_add (pv 6) pe_int)) (pe_op op_mul (pv 6) (pv 6))) (pe_op op_mul (pv 1) (pe_callTy call_int1 (by rfl) T.n_int bt_int (pa_cons (pe_cmpR op_eq (pv 6) (pv 4) (nomark _)) pa_nil))))) (pss_one (ps_set (i := 5) sc__law_name_by.nd rfl (by first | exact Or.inl rfl | exact Or.inr rfl) (pe_op op_add_str (pv 5) (pe_ix ix_str (pv 2) (pe_op op_mod (pv 8) (pv 7)) (fun _ _ => rfl)))))))) (pss_one (ps_ret (pv 5))))))))), ?_⟩
    ((try dsimp only [tSeq, tAsg, gName, tC, tOp, tUn, tVar, tRet, tIfS, tOr, tAnd, tNot, tTest, tB, tChain, tCB, tCons, tNil, tCall, tSl, tNoPart, tPart, tNext, tDrop, tLst, tTup, tYes, tNotV, tAndV, tOrV, L2.start, List.set, List.map, List.length, List.replicate, List.cons_append, List.nil_append, List.append_nil, cK, bK, rI0, rI, rU, rIxS, rIxL, rIxT, tRetN, rSlL, rIn, rCatT, gTup, gCons, gNil, tRaiseI, tXInit, tDGet, tDGet1, tDGet2, tDIn, tDNotIn, sDPut, tDNewK, rDictOf, rEqDict, rCount, tCompX_list, xCall, sXFld, tXFld, rSlS, rEq, rNe, sc0, sc1, sc2, sc3, sc4, sc5, sc6, sc7, sc8, sc9, sc10, sc11, sc12, sc13, rCatS, rIsi, LenV, rAll, tFor_list, tFor_tup, tFor_str, tFor_rng1, tFor_rng2, tComp_list, tComp_tup, tComp_str, tComp_rng1, blkSt, tBM, rAppend, rStarts, rIndex, tIf, tMake, tMeth, sFld, tFld, tRepr, tFmt, jNil, jCons, tJoined, rJoin, rIsx, rIst, tRaise, tTryAs, tTry0, un1, xMeth, xDrop, xSet, xRet, xOf, xSeq, List.getElem?_cons_zero, List.getElem?_cons_succ, Option.some.injEq, V.int.injEq, V.str.injEq, V.bl.injEq, V.ref.injEq, V.ty.injEq, List.cons.injEq, exists_eq_left', exists_eq_left, exists_eq', and_assoc, if_true, if_false, Bool.not_false, Bool.not_true, Bool.not_not, Bool.false_eq_true, exists_and_left, and_true, true_and, List.set_cons_zero, List.set_cons_succ, Option.join_some, false_and, or_false, false_or, exists_false, sp_cellat, sp_nameby, sp_wordrow, sp_toldby, sp_drawn, sp_copy, sp_wrapped, sp_uinit, sp_places, sp_aimby, sp_aims, sp_aim, sp_whole, sp_last, sp_due, sp_alone, sp_refused, sp_holds, Ends.nx, Nat.reduceSub, Nat.reduceAdd]); (try simp only [tSeq, tAsg, gName, tC, tOp, tUn, tVar, tRet, tIfS, tOr, tAnd, tNot, tTest, tB, tChain, tCB, tCons, tNil, tCall, tSl, tNoPart, tPart, tNext, tDrop, tLst, tTup, tYes, tNotV, tAndV, tOrV, L2.start, List.set, List.map, List.length, List.replicate, List.cons_append, List.nil_append, List.append_nil, cK, bK, rI0, rI, rU, rIxS, rIxL, rIxT, tRetN, rSlL, rIn, rCatT, gTup, gCons, gNil, tRaiseI, tXInit, tDGet, tDGet1, tDGet2, tDIn, tDNotIn, sDPut, tDNewK, rDictOf, rEqDict, rCount, tCompX_list, xCall, sXFld, tXFld, rSlS, rEq, rNe, sc0, sc1, sc2, sc3, sc4, sc5, sc6, sc7, sc8, sc9, sc10, sc11, sc12, sc13, rCatS, rIsi, LenV, rAll, tFor_list, tFor_tup, tFor_str, tFor_rng1, tFor_rng2, tComp_list, tComp_tup, tComp_str, tComp_rng1, blkSt, tBM, rAppend, rStarts, rIndex, tIf, tMake, tMeth, sFld, tFld, tRepr, tFmt, jNil, jCons, tJoined, rJoin, rIsx, rIst, tRaise, tTryAs, tTry0, un1, xMeth, xDrop, xSet, xRet, xOf, xSeq, List.getElem?_cons_zero, List.getElem?_cons_succ, Option.some.injEq, V.int.injEq, V.str.injEq, V.bl.injEq, V.ref.injEq, V.ty.injEq, List.cons.injEq, exists_eq_left', exists_eq_left, exists_eq', and_assoc, if_true, if_false, Bool.not_false, Bool.not_true, Bool.not_not, Bool.false_eq_true, exists_and_left, and_true, true_and, List.set_cons_zero, List.set_cons_succ, Option.join_some, false_and, or_false, false_or, exists_false, sp_cellat, sp_nameby, sp_wordrow, sp_toldby, sp_drawn, sp_copy, sp_wrapped, sp_uinit, sp_places, sp_aimby, sp_aims, sp_aim, sp_whole, sp_last, sp_due, sp_alone, sp_refused, sp_holds, Ends.nx, Nat.reduceSub, Nat.reduceAdd, reduceCtorEq]))
    refine ⟨by decide, ⟨by decide, by decide⟩, by omega, ⟨by decide, by decide⟩, by decide, ite2 (fun hc => ⟨by decide, ?_⟩) (fun hc => ?_)⟩
    · have hc := of_decide_eq_true hc
      have e1 : nmSize c i = 1 + i % 16 := by unfold nmSize; rw [if_pos hc]
      have e2 : nmAt c = 16 := by unfold nmAt; rw [if_pos hc]
      refine ForR.of (by omega) (by omega) (fun n σ H' => H' = H ∧ ∃ b6 b7 b8, σ = [some (.int c), some (.int i), some (.str signs), some (.int (1 + i % 16)), some (.int 16), some (.str (nmTo c i n)), b6, b7, b8]) ⟨rfl, _, _, _, rfl⟩ ?_ ?_
      · rintro n σ H' hn ⟨rfl, b6, b7, b8, rfl⟩
        ((try dsimp only [tSeq, tAsg, gName, tC, tOp, tUn, tVar, tRet, tIfS, tOr, tAnd, tNot, tTest, tB, tChain, tCB, tCons, tNil, tCall, tSl, tNoPart, tPart, tNext, tDrop, tLst, tTup, tYes, tNotV, tAndV, tOrV, L2.start, List.set, List.map, List.length, List.replicate, List.cons_append, List.nil_append, List.append_nil, cK, bK, rI0, rI, rU, rIxS, rIxL, rIxT, tRetN, rSlL, rIn, rCatT, gTup, gCons, gNil, tRaiseI, tXInit, tDGet, tDGet1, tDGet2, tDIn, tDNotIn, sDPut, tDNewK, rDictOf, rEqDict, rCount, tCompX_list, xCall, sXFld, tXFld, rSlS, rEq, rNe, sc0, sc1, sc2, sc3, sc4, sc5, sc6, sc7, sc8, sc9, sc10, sc11, sc12, sc13, rCatS, rIsi, LenV, rAll, tFor_list, tFor_tup, tFor_str, tFor_rng1, tFor_rng2, tComp_list, tComp_tup, tComp_str, tComp_rng1, blkSt, tBM, rAppend, rStarts, rIndex, tIf, tMake, tMeth, sFld, tFld, tRepr, tFmt, jNil, jCons, tJoined, rJoin, rIsx, rIst, tRaise, tTryAs, tTry0, un1, xMeth, xDrop, xSet, xRet, xOf, xSeq, List.getElem?_cons_zero, List.getElem?_cons_succ, Option.some.injEq, V.int.injEq, V.str.injEq, V.bl.injEq, V.ref.injEq, V.ty.injEq, List.cons.injEq, exists_eq_left', exists_eq_left, exists_eq', and_assoc, if_true, if_false, Bool.not_false, Bool.not_true, Bool.not_not, Bool.false_eq_true, exists_and_left, and_true, true_and, List.set_cons_zero, List.set_cons_succ, Option.join_some, false_and, or_false, false_or, exists_false, sp_cellat, sp_nameby, sp_wordrow, sp_toldby, sp_drawn, sp_copy, sp_wrapped, sp_uinit, sp_places, sp_aimby, sp_aims, sp_aim, sp_whole, sp_last, sp_due, sp_alone, sp_refused, sp_holds, Ends.nx, Nat.reduceSub, Nat.reduceAdd]); (try simp only [tSeq, tAsg, gName, tC, tOp, tUn, tVar, tRet, tIfS, tOr, tAnd, tNot, tTest, tB, tChain, tCB, tCons, tNil, tCall, tSl, tNoPart, tPart, tNext, tDrop, tLst, tTup, tYes, tNotV, tAndV, tOrV, L2.start, List.set, List.map, List.length, List.replicate, List.cons_append, List.nil_append, List.append_nil, cK, bK, rI0, rI, rU, rIxS, rIxL, rIxT, tRetN, rSlL, rIn, rCatT, gTup, gCons, gNil, tRaiseI, tXInit, tDGet, tDGet1, tDGet2, tDIn, tDNotIn, sDPut, tDNewK, rDictOf, rEqDict, rCount, tCompX_list, xCall, sXFld, tXFld, rSlS, rEq, rNe, sc0, sc1, sc2, sc3, sc4, sc5, sc6, sc7, sc8, sc9, sc10, sc11, sc12, sc13, rCatS, rIsi, LenV, rAll, tFor_list, tFor_tup, tFor_str, tFor_rng1, tFor_rng2, tComp_list, tComp_tup, tComp_str, tComp_rng1, blkSt, tBM, rAppend, rStarts, rIndex, tIf, tMake, tMeth, sFld, tFld, tRepr, tFmt, jNil, jCons, tJoined, rJoin, rIsx, rIst, tRaise, tTryAs, tTry0, un1, xMeth, xDrop, xSet, xRet, xOf, xSeq, List.getElem?_cons_zero, List.getElem?_cons_succ, Option.some.injEq, V.int.injEq, V.str.injEq, V.bl.injEq, V.ref.injEq, V.ty.injEq, List.cons.injEq, exists_eq_left', exists_eq_left, exists_eq', and_assoc, if_true, if_false, Bool.not_false, Bool.not_true, Bool.not_not, Bool.false_eq_true, exists_and_left, and_true, true_and, List.set_cons_zero, List.set_cons_succ, Option.join_some, false_and, or_false, false_or, exists_false, sp_cellat, sp_nameby, sp_wordrow, sp_toldby, sp_drawn, sp_copy, sp_wrapped, sp_uinit, sp_places, sp_aimby, sp_aims, sp_aim, sp_whole, sp_last, sp_due, sp_alone, sp_refused, sp_holds, Ends.nx, Nat.reduceSub, Nat.reduceAdd, reduceCtorEq]))
        have lo := nmIx_lo c i n
        have at_ := sgn_at lo.1 lo.2
        unfold nmIx at at_ lo
        rw [e2] at at_ lo
        exact ⟨.inl ⟨by decide, by decide⟩, ⟨by omega, by omega⟩, .inl ⟨by omega, by omega⟩, .inr (by split <;> exact ⟨by decide, by decide⟩), by split <;> decide, by rw [sizeLine_eq]; decide +kernel, _, at_, by rw [nmTo_len, sizeLine_eq]; show n + 1 ≤ _; omega, by rw [nmTo_succ]; unfold nmIx; rw [e2]⟩
      · rintro σ H' ⟨rfl, b6, b7, b8, rfl⟩
        ((try dsimp only [tSeq, tAsg, gName, tC, tOp, tUn, tVar, tRet, tIfS, tOr, tAnd, tNot, tTest, tB, tChain, tCB, tCons, tNil, tCall, tSl, tNoPart, tPart, tNext, tDrop, tLst, tTup, tYes, tNotV, tAndV, tOrV, L2.start, List.set, List.map, List.length, List.replicate, List.cons_append, List.nil_append, List.append_nil, cK, bK, rI0, rI, rU, rIxS, rIxL, rIxT, tRetN, rSlL, rIn, rCatT, gTup, gCons, gNil, tRaiseI, tXInit, tDGet, tDGet1, tDGet2, tDIn, tDNotIn, sDPut, tDNewK, rDictOf, rEqDict, rCount, tCompX_list, xCall, sXFld, tXFld, rSlS, rEq, rNe, sc0, sc1, sc2, sc3, sc4, sc5, sc6, sc7, sc8, sc9, sc10, sc11, sc12, sc13, rCatS, rIsi, LenV, rAll, tFor_list, tFor_tup, tFor_str, tFor_rng1, tFor_rng2, tComp_list, tComp_tup, tComp_str, tComp_rng1, blkSt, tBM, rAppend, rStarts, rIndex, tIf, tMake, tMeth, sFld, tFld, tRepr, tFmt, jNil, jCons, tJoined, rJoin, rIsx, rIst, tRaise, tTryAs, tTry0, un1, xMeth, xDrop, xSet, xRet, xOf, xSeq, List.getElem?_cons_zero, List.getElem?_cons_succ, Option.some.injEq, V.int.injEq, V.str.injEq, V.bl.injEq, V.ref.injEq, V.ty.injEq, List.cons.injEq, exists_eq_left', exists_eq_left, exists_eq', and_assoc, if_true, if_false, Bool.not_false, Bool.not_true, Bool.not_not, Bool.false_eq_true, exists_and_left, and_true, true_and, List.set_cons_zero, List.set_cons_succ, Option.join_some, false_and, or_false, false_or, exists_false, sp_cellat, sp_nameby, sp_wordrow, sp_toldby, sp_drawn, sp_copy, sp_wrapped, sp_uinit, sp_places, sp_aimby, sp_aims, sp_aim, sp_whole, sp_last, sp_due, sp_alone, sp_refused, sp_holds, Ends.nx, Nat.reduceSub, Nat.reduceAdd]); (try simp only [tSeq, tAsg, gName, tC, tOp, tUn, tVar, tRet, tIfS, tOr, tAnd, tNot, tTest, tB, tChain, tCB, tCons, tNil, tCall, tSl, tNoPart, tPart, tNext, tDrop, tLst, tTup, tYes, tNotV, tAndV, tOrV, L2.start, List.set, List.map, List.length, List.replicate, List.cons_append, List.nil_append, List.append_nil, cK, bK, rI0, rI, rU, rIxS, rIxL, rIxT, tRetN, rSlL, rIn, rCatT, gTup, gCons, gNil, tRaiseI, tXInit, tDGet, tDGet1, tDGet2, tDIn, tDNotIn, sDPut, tDNewK, rDictOf, rEqDict, rCount, tCompX_list, xCall, sXFld, tXFld, rSlS, rEq, rNe, sc0, sc1, sc2, sc3, sc4, sc5, sc6, sc7, sc8, sc9, sc10, sc11, sc12, sc13, rCatS, rIsi, LenV, rAll, tFor_list, tFor_tup, tFor_str, tFor_rng1, tFor_rng2, tComp_list, tComp_tup, tComp_str, tComp_rng1, blkSt, tBM, rAppend, rStarts, rIndex, tIf, tMake, tMeth, sFld, tFld, tRepr, tFmt, jNil, jCons, tJoined, rJoin, rIsx, rIst, tRaise, tTryAs, tTry0, un1, xMeth, xDrop, xSet, xRet, xOf, xSeq, List.getElem?_cons_zero, List.getElem?_cons_succ, Option.some.injEq, V.int.injEq, V.str.injEq, V.bl.injEq, V.ref.injEq, V.ty.injEq, List.cons.injEq, exists_eq_left', exists_eq_left, exists_eq', and_assoc, if_true, if_false, Bool.not_false, Bool.not_true, Bool.not_not, Bool.false_eq_true, exists_and_left, and_true, true_and, List.set_cons_zero, List.set_cons_succ, Option.join_some, false_and, or_false, false_or, exists_false, sp_cellat, sp_nameby, sp_wordrow, sp_toldby, sp_drawn, sp_copy, sp_wrapped, sp_uinit, sp_places, sp_aimby, sp_aims, sp_aim, sp_whole, sp_last, sp_due, sp_alone, sp_refused, sp_holds, Ends.nx, Nat.reduceSub, Nat.reduceAdd, reduceCtorEq]))
        rw [← e1]; exact k
    · have hc : ¬ c / 256 % 3 = 0 := by simpa using hc
      have e1 : nmSize c i = 1 + c % 16 := by unfold nmSize; rw [if_neg hc]
      have e2 : nmAt c = c / 16 % (1 + c % 16) := by unfold nmAt; rw [if_neg hc]
      refine ForR.of (by omega) (by omega) (fun n σ H' => H' = H ∧ ∃ b6 b7 b8, σ = [some (.int c), some (.int i), some (.str signs), some (.int (1 + c % 16)), some (.int (c / 16 % (1 + c % 16))), some (.str (nmTo c i n)), b6, b7, b8]) ⟨rfl, _, _, _, rfl⟩ ?_ ?_
      · rintro n σ H' hn ⟨rfl, b6, b7, b8, rfl⟩
        ((try dsimp only [tSeq, tAsg, gName, tC, tOp, tUn, tVar, tRet, tIfS, tOr, tAnd, tNot, tTest, tB, tChain, tCB, tCons, tNil, tCall, tSl, tNoPart, tPart, tNext, tDrop, tLst, tTup, tYes, tNotV, tAndV, tOrV, L2.start, List.set, List.map, List.length, List.replicate, List.cons_append, List.nil_append, List.append_nil, cK, bK, rI0, rI, rU, rIxS, rIxL, rIxT, tRetN, rSlL, rIn, rCatT, gTup, gCons, gNil, tRaiseI, tXInit, tDGet, tDGet1, tDGet2, tDIn, tDNotIn, sDPut, tDNewK, rDictOf, rEqDict, rCount, tCompX_list, xCall, sXFld, tXFld, rSlS, rEq, rNe, sc0, sc1, sc2, sc3, sc4, sc5, sc6, sc7, sc8, sc9, sc10, sc11, sc12, sc13, rCatS, rIsi, LenV, rAll, tFor_list, tFor_tup, tFor_str, tFor_rng1, tFor_rng2, tComp_list, tComp_tup, tComp_str, tComp_rng1, blkSt, tBM, rAppend, rStarts, rIndex, tIf, tMake, tMeth, sFld, tFld, tRepr, tFmt, jNil, jCons, tJoined, rJoin, rIsx, rIst, tRaise, tTryAs, tTry0, un1, xMeth, xDrop, xSet, xRet, xOf, xSeq, List.getElem?_cons_zero, List.getElem?_cons_succ, Option.some.injEq, V.int.injEq, V.str.injEq, V.bl.injEq, V.ref.injEq, V.ty.injEq, List.cons.injEq, exists_eq_left', exists_eq_left, exists_eq', and_assoc, if_true, if_false, Bool.not_false, Bool.not_true, Bool.not_not, Bool.false_eq_true, exists_and_left, and_true, true_and, List.set_cons_zero, List.set_cons_succ, Option.join_some, false_and, or_false, false_or, exists_false, sp_cellat, sp_nameby, sp_wordrow, sp_toldby, sp_drawn, sp_copy, sp_wrapped, sp_uinit, sp_places, sp_aimby, sp_aims, sp_aim, sp_whole, sp_last, sp_due, sp_alone, sp_refused, sp_holds, Ends.nx, Nat.reduceSub, Nat.reduceAdd]); (try simp only [tSeq, tAsg, gName, tC, tOp, tUn, tVar, tRet, tIfS, tOr, tAnd, tNot, tTest, tB, tChain, tCB, tCons, tNil, tCall, tSl, tNoPart, tPart, tNext, tDrop, tLst, tTup, tYes, tNotV, tAndV, tOrV, L2.start, List.set, List.map, List.length, List.replicate, List.cons_append, List.nil_append, List.append_nil, cK, bK, rI0, rI, rU, rIxS, rIxL, rIxT, tRetN, rSlL, rIn, rCatT, gTup, gCons, gNil, tRaiseI, tXInit, tDGet, tDGet1, tDGet2, tDIn, tDNotIn, sDPut, tDNewK, rDictOf, rEqDict, rCount, tCompX_list, xCall, sXFld, tXFld, rSlS, rEq, rNe, sc0, sc1, sc2, sc3, sc4, sc5, sc6, sc7, sc8, sc9, sc10, sc11, sc12, sc13, rCatS, rIsi, LenV, rAll, tFor_list, tFor_tup, tFor_str, tFor_rng1, tFor_rng2, tComp_list, tComp_tup, tComp_str, tComp_rng1, blkSt, tBM, rAppend, rStarts, rIndex, tIf, tMake, tMeth, sFld, tFld, tRepr, tFmt, jNil, jCons, tJoined, rJoin, rIsx, rIst, tRaise, tTryAs, tTry0, un1, xMeth, xDrop, xSet, xRet, xOf, xSeq, List.getElem?_cons_zero, List.getElem?_cons_succ, Option.some.injEq, V.int.injEq, V.str.injEq, V.bl.injEq, V.ref.injEq, V.ty.injEq, List.cons.injEq, exists_eq_left', exists_eq_left, exists_eq', and_assoc, if_true, if_false, Bool.not_false, Bool.not_true, Bool.not_not, Bool.false_eq_true, exists_and_left, and_true, true_and, List.set_cons_zero, List.set_cons_succ, Option.join_some, false_and, or_false, false_or, exists_false, sp_cellat, sp_nameby, sp_wordrow, sp_toldby, sp_drawn, sp_copy, sp_wrapped, sp_uinit, sp_places, sp_aimby, sp_aims, sp_aim, sp_whole, sp_last, sp_due, sp_alone, sp_refused, sp_holds, Ends.nx, Nat.reduceSub, Nat.reduceAdd, reduceCtorEq]))
        have lo := nmIx_lo c i n
        have at_ := sgn_at lo.1 lo.2
        unfold nmIx at at_ lo
        rw [e2] at at_ lo
        exact ⟨.inl ⟨by decide, by decide⟩, ⟨by omega, by omega⟩, .inl ⟨by omega, by omega⟩, .inr (by split <;> exact ⟨by decide, by decide⟩), by split <;> decide, by rw [sizeLine_eq]; decide +kernel, _, at_, by rw [nmTo_len, sizeLine_eq]; show n + 1 ≤ _; omega, by rw [nmTo_succ]; unfold nmIx; rw [e2]⟩
      · rintro σ H' ⟨rfl, b6, b7, b8, rfl⟩
        ((try dsimp only [tSeq, tAsg, gName, tC, tOp, tUn, tVar, tRet, tIfS, tOr, tAnd, tNot, tTest, tB, tChain, tCB, tCons, tNil, tCall, tSl, tNoPart, tPart, tNext, tDrop, tLst, tTup, tYes, tNotV, tAndV, tOrV, L2.start, List.set, List.map, List.length, List.replicate, List.cons_append, List.nil_append, List.append_nil, cK, bK, rI0, rI, rU, rIxS, rIxL, rIxT, tRetN, rSlL, rIn, rCatT, gTup, gCons, gNil, tRaiseI, tXInit, tDGet, tDGet1, tDGet2, tDIn, tDNotIn, sDPut, tDNewK, rDictOf, rEqDict, rCount, tCompX_list, xCall, sXFld, tXFld, rSlS, rEq, rNe, sc0, sc1, sc2, sc3, sc4, sc5, sc6, sc7, sc8, sc9, sc10, sc11, sc12, sc13, rCatS, rIsi, LenV, rAll, tFor_list, tFor_tup, tFor_str, tFor_rng1, tFor_rng2, tComp_list, tComp_tup, tComp_str, tComp_rng1, blkSt, tBM, rAppend, rStarts, rIndex, tIf, tMake, tMeth, sFld, tFld, tRepr, tFmt, jNil, jCons, tJoined, rJoin, rIsx, rIst, tRaise, tTryAs, tTry0, un1, xMeth, xDrop, xSet, xRet, xOf, xSeq, List.getElem?_cons_zero, List.getElem?_cons_succ, Option.some.injEq, V.int.injEq, V.str.injEq, V.bl.injEq, V.ref.injEq, V.ty.injEq, List.cons.injEq, exists_eq_left', exists_eq_left, exists_eq', and_assoc, if_true, if_false, Bool.not_false, Bool.not_true, Bool.not_not, Bool.false_eq_true, exists_and_left, and_true, true_and, List.set_cons_zero, List.set_cons_succ, Option.join_some, false_and, or_false, false_or, exists_false, sp_cellat, sp_nameby, sp_wordrow, sp_toldby, sp_drawn, sp_copy, sp_wrapped, sp_uinit, sp_places, sp_aimby, sp_aims, sp_aim, sp_whole, sp_last, sp_due, sp_alone, sp_refused, sp_holds, Ends.nx, Nat.reduceSub, Nat.reduceAdd]); (try simp only [tSeq, tAsg, gName, tC, tOp, tUn, tVar, tRet, tIfS, tOr, tAnd, tNot, tTest, tB, tChain, tCB, tCons, tNil, tCall, tSl, tNoPart, tPart, tNext, tDrop, tLst, tTup, tYes, tNotV, tAndV, tOrV, L2.start, List.set, List.map, List.length, List.replicate, List.cons_append, List.nil_append, List.append_nil, cK, bK, rI0, rI, rU, rIxS, rIxL, rIxT, tRetN, rSlL, rIn, rCatT, gTup, gCons, gNil, tRaiseI, tXInit, tDGet, tDGet1, tDGet2, tDIn, tDNotIn, sDPut, tDNewK, rDictOf, rEqDict, rCount, tCompX_list, xCall, sXFld, tXFld, rSlS, rEq, rNe, sc0, sc1, sc2, sc3, sc4, sc5, sc6, sc7, sc8, sc9, sc10, sc11, sc12, sc13, rCatS, rIsi, LenV, rAll, tFor_list, tFor_tup, tFor_str, tFor_rng1, tFor_rng2, tComp_list, tComp_tup, tComp_str, tComp_rng1, blkSt, tBM, rAppend, rStarts, rIndex, tIf, tMake, tMeth, sFld, tFld, tRepr, tFmt, jNil, jCons, tJoined, rJoin, rIsx, rIst, tRaise, tTryAs, tTry0, un1, xMeth, xDrop, xSet, xRet, xOf, xSeq, List.getElem?_cons_zero, List.getElem?_cons_succ, Option.some.injEq, V.int.injEq, V.str.injEq, V.bl.injEq, V.ref.injEq, V.ty.injEq, List.cons.injEq, exists_eq_left', exists_eq_left, exists_eq', and_assoc, if_true, if_false, Bool.not_false, Bool.not_true, Bool.not_not, Bool.false_eq_true, exists_and_left, and_true, true_and, List.set_cons_zero, List.set_cons_succ, Option.join_some, false_and, or_false, false_or, exists_false, sp_cellat, sp_nameby, sp_wordrow, sp_toldby, sp_drawn, sp_copy, sp_wrapped, sp_uinit, sp_places, sp_aimby, sp_aims, sp_aim, sp_whole, sp_last, sp_due, sp_alone, sp_refused, sp_holds, Ends.nx, Nat.reduceSub, Nat.reduceAdd, reduceCtorEq]))
        rw [← e1]; exact k
theorem G__law_word_row (T : Txt K mg A) : FnOk P w K mg base CX0 2 A._law_word_row A.fd__law_word_row ["_law_cell", "_law_names_by"] sp_wordrow := by
  refine T.F__law_word_row.ok sc__law_word_row (fun vs H Q E h => ?_) (fun cdv Ar outer s H vs Q E hr h => ?_)
  · obtain ⟨c, n, rfl, _⟩ := h
    rfl
  · obtain ⟨c, n, rfl, k⟩ := h
    refine ⟨_, (pss_cons (ps_set (i := 2) sc__law_word_row.nd rfl (by first | exact Or.inl rfl | exact Or.inr rfl) (pe_op op_mod (pv 0) pe_int)) (pss_cons (ps_set (i := 3) sc__law_word_row.nd rfl (by first | exact Or.inl rfl | exact Or.inr rfl) (pe_op op_fdiv (pv 0) pe_int)) (pss_cons (ps_set (i := 4) sc__law_word_row.nd rfl (by first | exact Or.inl rfl | exact Or.inr rfl) (pe_and (pe_cmpR op_eq (pe_op op_mod (pe_op op_fdiv (pv 3) pe_int) pe_int) pe_int (nomark _)) (pe_one (pe_cmpR op_lt (pe_op op_mod (pv 3) pe_int) pe_int (nomark _))))) (pss_cons (ps_set (i := 5) sc__law_word_row.nd rfl (by first | exact Or.inl rfl | exact Or.inr rfl) (pe_op op_sub (pe_op op_mod (pe_op op_fdiv (pv 3) pe_int) pe_int) pe_int)) (pss_cons (ps_if (pt_cmpR op_eq (pe_op op_mod (pe_op op_fdiv (pv 3) pe_int) pe_int) pe_int (nomark _)) (pss_one (ps_set (i := 5) sc__law_word_row.nd rfl (by first | exact Or.inl rfl | exact Or.inr rfl) (pe_op op_sub (pe_op op_mod (pe_op op_mul (pe_op op_fdiv (pv 3) pe_int) pe_int) pe_int) pe_int))) pss_nil) (pss_cons (ps_set (i := 6) sc__law_word_row.nd rfl (by first | exact Or.inl rfl | exact Or.inr rfl) (pe_ix (ix_listK (K := K) rfl) (pe_lst (pa_cons pe_str (pa_cons pe_str (pa_cons pe_str (pa_cons pe_str (pa_cons pe_str pa_nil)))))) (pe_op op_mod (pv 3) pe_int) (fun _ _ => rfl))) (pss_cons (ps_if (pt_cmpR op_eq (pv 2) pe_int (nomark _)) (pss_one (ps_ret pe_non)) pss_nil) (pss_one (ps_ret (pe_tup (pa_cons (pv 6) (pa_cons (pe_call (G__law_name_by T) (hr.mono (by decide)) rfl T.m__law_name_by T.k__law_name_by T.b__law_name_by .nil pass0 (pa_cons (pv 1) (pa_cons (pe_op op_mod (pe_op op_fdiv (pv 3) pe_int) pe_int) pa_nil))) (pa_cons (pv 5) (pa_cons (pv 4) pa_nil)))))))))))))), ?_⟩
    ((try dsimp only [tSeq, tAsg, gName, tC, tOp, tUn, tVar, tRet, tIfS, tOr, tAnd, tNot, tTest, tB, tChain, tCB, tCons, tNil, tCall, tSl, tNoPart, tPart, tNext, tDrop, tLst, tTup, tYes, tNotV, tAndV, tOrV, L2.start, List.set, List.map, List.length, List.replicate, List.cons_append, List.nil_append, List.append_nil, cK, bK, rI0, rI, rU, rIxS, rIxL, rIxT, tRetN, rSlL, rIn, rCatT, gTup, gCons, gNil, tRaiseI, tXInit, tDGet, tDGet1, tDGet2, tDIn, tDNotIn, sDPut, tDNewK, rDictOf, rEqDict, rCount, tCompX_list, xCall, sXFld, tXFld, rSlS, rEq, rNe, sc0, sc1, sc2, sc3, sc4, sc5, sc6, sc7, sc8, sc9, sc10, sc11, sc12, sc13, rCatS, rIsi, LenV, rAll, tFor_list, tFor_tup, tFor_str, tFor_rng1, tFor_rng2, tComp_list, tComp_tup, tComp_str, tComp_rng1, blkSt, tBM, rAppend, rStarts, rIndex, tIf, tMake, tMeth, sFld, tFld, tRepr, tFmt, jNil, jCons, tJoined, rJoin, rIsx, rIst, tRaise, tTryAs, tTry0, un1, xMeth, xDrop, xSet, xRet, xOf, xSeq, List.getElem?_cons_zero, List.getElem?_cons_succ, Option.some.injEq, V.int.injEq, V.str.injEq, V.bl.injEq, V.ref.injEq, V.ty.injEq, List.cons.injEq, exists_eq_left', exists_eq_left, exists_eq', and_assoc, if_true, if_false, Bool.not_false, Bool.not_true, Bool.not_not, Bool.false_eq_true, exists_and_left, and_true, true_and, List.set_cons_zero, List.set_cons_succ, Option.join_some, false_and, or_false, false_or, exists_false, sp_cellat, sp_nameby, sp_wordrow, sp_toldby, sp_drawn, sp_copy, sp_wrapped, sp_uinit, sp_places, sp_aimby, sp_aims, sp_aim, sp_whole, sp_last, sp_due, sp_alone, sp_refused, sp_holds, Ends.nx, Nat.reduceSub, Nat.reduceAdd]); (try simp only [tSeq, tAsg, gName, tC, tOp, tUn, tVar, tRet, tIfS, tOr, tAnd, tNot, tTest, tB, tChain, tCB, tCons, tNil, tCall, tSl, tNoPart, tPart, tNext, tDrop, tLst, tTup, tYes, tNotV, tAndV, tOrV, L2.start, List.set, List.map, List.length, List.replicate, List.cons_append, List.nil_append, List.append_nil, cK, bK, rI0, rI, rU, rIxS, rIxL, rIxT, tRetN, rSlL, rIn, rCatT, gTup, gCons, gNil, tRaiseI, tXInit, tDGet, tDGet1, tDGet2, tDIn, tDNotIn, sDPut, tDNewK, rDictOf, rEqDict, rCount, tCompX_list, xCall, sXFld, tXFld, rSlS, rEq, rNe, sc0, sc1, sc2, sc3, sc4, sc5, sc6, sc7, sc8, sc9, sc10, sc11, sc12, sc13, rCatS, rIsi, LenV, rAll, tFor_list, tFor_tup, tFor_str, tFor_rng1, tFor_rng2, tComp_list, tComp_tup, tComp_str, tComp_rng1, blkSt, tBM, rAppend, rStarts, rIndex, tIf, tMake, tMeth, sFld, tFld, tRepr, tFmt, jNil, jCons, tJoined, rJoin, rIsx, rIst, tRaise, tTryAs, tTry0, un1, xMeth, xDrop, xSet, xRet, xOf, xSeq, List.getElem?_cons_zero, List.getElem?_cons_succ, Option.some.injEq, V.int.injEq, V.str.injEq, V.bl.injEq, V.ref.injEq, V.ty.injEq, List.cons.injEq, exists_eq_left', exists_eq_left, exists_eq', and_assoc, if_true, if_false, Bool.not_false, Bool.not_true, Bool.not_not, Bool.false_eq_true, exists_and_left, and_true, true_and, List.set_cons_zero, List.set_cons_succ, Option.join_some, false_and, or_false, false_or, exists_false, sp_cellat, sp_nameby, sp_wordrow, sp_toldby, sp_drawn, sp_copy, sp_wrapped, sp_uinit, sp_places, sp_aimby, sp_aims, sp_aim, sp_whole, sp_last, sp_due, sp_alone, sp_refused, sp_holds, Ends.nx, Nat.reduceSub, Nat.reduceAdd, reduceCtorEq]))
    have five : ∀ (p : Addr) (sf : Bool) (add : Int), H p = none → (sf = true → c / 9 % 5 < 3) → -2147483648 ≤ add → add < 2147483648 → 
        (0 : Int) < 5 ∧ ∃ x, SqL K (upd H p (HO.lst [V.str (Str.ofString "whole"), V.str (Str.ofString "high"), V.str (Str.ofString "low"), V.str (Str.ofString "near"), V.str (Str.ofString "split")])) p x ∧
          ∃ x_1, atI x (c / 9 % 5) = some x_1 ∧
            if decide (c % 9 = 2) = true then Q V.non (upd H p (HO.lst [V.str (Str.ofString "whole"), V.str (Str.ofString "high"), V.str (Str.ofString "low"), V.str (Str.ofString "near"), V.str (Str.ofString "split")]))
            else CDiv (c / 9) 5 ∧ (0 : Int) < 12 ∧ 4 ≤ sizeLine ∧ ∀ (p_1 : Addr),
              upd H p (HO.lst [V.str (Str.ofString "whole"), V.str (Str.ofString "high"), V.str (Str.ofString "low"), V.str (Str.ofString "near"), V.str (Str.ofString "split")]) p_1 = none →
              Q (V.ref p_1) (upd (upd H p (HO.lst [V.str (Str.ofString "whole"), V.str (Str.ofString "high"), V.str (Str.ofString "low"), V.str (Str.ofString "near"), V.str (Str.ofString "split")])) p_1 (HO.tup [x_1, V.str (nameOf n (c / 9 / 5 % 12)), V.int add, V.bl sf])) := by
      intro p sf add hp hsf h1 h2
      refine ⟨by decide, _, SqL.of upd_same, ?_⟩
      obtain ⟨z, hz, hT, hS⟩ : ∃ z : Str, atI [V.str (Str.ofString "whole"), V.str (Str.ofString "high"), V.str (Str.ofString "low"), V.str (Str.ofString "near"), V.str (Str.ofString "split")] (c / 9 % 5) = some (V.str z) ∧ isT z ∧ (c / 9 % 5 < 3 → z = Str.ofString "whole" ∨ z = Str.ofString "high" ∨ z = Str.ofString "low") := by
        have hd : c / 9 % 5 = 0 ∨ c / 9 % 5 = 1 ∨ c / 9 % 5 = 2 ∨ c / 9 % 5 = 3 ∨ c / 9 % 5 = 4 := by omega
        rcases hd with e | e | e | e | e <;> rw [e]
        · exact ⟨_, rfl, .inl rfl, fun _ => .inl rfl⟩
        · exact ⟨_, rfl, .inr (.inl rfl), fun _ => .inr (.inl rfl)⟩
        · exact ⟨_, rfl, .inr (.inr (.inl rfl)), fun _ => .inr (.inr rfl)⟩
        · exact ⟨_, rfl, .inr (.inr (.inr (.inl rfl))), fun h => absurd h (by decide)⟩
        · exact ⟨_, rfl, .inr (.inr (.inr (.inr rfl))), fun h => absurd h (by decide)⟩
      refine ⟨_, hz, ite2 (fun _ => (k _ fun b o e => ?_).1) (fun _ => ⟨⟨by decide, by decide⟩, by decide, by rw [sizeLine_eq]; decide, fun q hq => ?_⟩)⟩
      · rw [upd_ne (ne_of_none e hp)]; exact e
      · have hqp : q ≠ p := fun e => by rw [e, upd_same] at hq; cases hq
        have hq' : H q = none := by rw [upd_ne hqp] at hq; exact hq
        refine (k _ fun b o e => ?_).2 ⟨q, 0, z, nameOf n (c / 9 / 5 % 12), add, sf⟩ ⟨hT, ⟨_, by omega, by omega, rfl⟩, by show (0 : Int) ≤ 0; decide, by show (0 : Int) < (1 : Nat); decide, h1, h2, fun h => hS (hsf h)⟩ upd_same hq'
        rw [upd_ne (ne_of_none e hq'), upd_ne (ne_of_none e hp)]; exact e
    refine ⟨by decide, ⟨by decide, by decide⟩, ⟨by decide, by decide⟩, by decide, ite2 (fun _ => ⟨by decide, ⟨by decide, by decide⟩, by decide, ⟨by decide, by decide⟩, by decide, ite2 (fun _ => ⟨⟨by decide, by decide⟩, .inr ⟨by decide, by decide⟩, by decide, by rw [sizeLine_eq]; decide, fun p hp => ?_⟩) (fun _ => ⟨by rw [sizeLine_eq]; decide, fun p hp => ?_⟩)⟩)
      (fun hs => ⟨⟨by decide, by decide⟩, by decide, ⟨by decide, by decide⟩, by decide, ite2 (fun _ => ⟨⟨by decide, by decide⟩, .inr ⟨by decide, by decide⟩, by decide, by rw [sizeLine_eq]; decide, fun p hp => ?_⟩) (fun _ => ⟨by rw [sizeLine_eq]; decide, fun p hp => ?_⟩)⟩)⟩
    · refine five p _ _ hp (fun h => of_decide_eq_true h) ?_ ?_ <;> omega
    · refine five p _ _ hp (fun h => of_decide_eq_true h) ?_ ?_ <;> omega
    · refine five p _ _ hp (fun h => absurd h (by decide)) ?_ ?_ <;> omega
    · refine five p _ _ hp (fun h => absurd h (by decide)) ?_ ?_ <;> omega
theorem same_new {H : Hp} {p : Addr} {o : HO} (h : H p = none) : Same H (upd H p o) := fun b u e => by rw [upd_ne (ne_of_none e h)]; exact e
theorem free_of {H : Hp} {p q : Addr} {o : HO} (h : upd H p o q = none) : q ≠ p ∧ H q = none := by
  have n : q ≠ p := fun e => by rw [e, upd_same] at h; cases h
  exact ⟨n, by rw [upd_ne n] at h; exact h⟩
theorem atI_last {α : Type} {xs : List α} {x : α} : atI (xs ++ [x]) (-1) = some x := by
  unfold atI ixN
  rw [if_neg (by decide), if_pos (by simp; omega)]
  show (xs ++ [x])[(-1 + ((xs ++ [x]).length : Int)).toNat]? = some x
  have e : (-1 + ((xs ++ [x]).length : Int)).toNat = xs.length := by simp; omega
  rw [e]; simp
theorem inV_str {z : Str} {xs : List Str} : inV (.str z) (xs.map V.str) = true ↔ z ∈ xs := by
  unfold inV
  rw [List.any_map, List.any_eq_true]
  constructor
  · rintro ⟨y, hy, e⟩
    have : y = z := by simpa [Function.comp, eqV] using e
    exact this ▸ hy
  · intro h
    exact ⟨z, h, by simp [Function.comp, eqV]⟩
theorem sort_at {c : Int} : ∃ z : Str, atI [V.str (Str.ofString "tell"), V.str (Str.ofString "weak"), V.str (Str.ofString "own")] (c % 3) = some (V.str z) ∧ isSort z := by
  have hd : c % 3 = 0 ∨ c % 3 = 1 ∨ c % 3 = 2 := by omega
  rcases hd with e | e | e <;> rw [e]
  · exact ⟨_, rfl, .inl rfl⟩
  · exact ⟨_, rfl, .inr (.inl rfl)⟩
  · exact ⟨_, rfl, .inr (.inr rfl)⟩
theorem G__law_told_by (T : Txt K mg A) : FnOk P w K mg base CX0 2 A._law_told_by A.fd__law_told_by ["_law_pieces", "_law_cell", "_law_names_by", "_law_strict"] (sp_toldby K) := by
  refine T.F__law_told_by.ok sc__law_told_by (fun vs H Q E h => ?_) (fun cdv Ar outer s H vs Q E hr h => ?_)
  · obtain ⟨L, c, n, ps, p, ss, st, rfl, _⟩ := h
    rfl
  · obtain ⟨L, c, n, ps, p, ss, st, rfl, hP, hst, b1, b2, b3, b4, k0, k1⟩ := h
    refine ⟨_, (pss_cons (ps_set (i := 4) sc__law_told_by.nd rfl (by first | exact Or.inl rfl | exact Or.inr rfl) (pe_ix (ix_listK (K := K) rfl) (pv 0) (pe_un un_neg pe_int) (fun _ _ => rfl))) (pss_cons (ps_set (i := 5) sc__law_told_by.nd rfl (by first | exact Or.inl rfl | exact Or.inr rfl) (pe_call (G__law_name_by T) (hr.mono (by decide)) rfl T.m__law_name_by T.k__law_name_by T.b__law_name_by .nil pass0 (pa_cons (pv 2) (pa_cons (pe_op op_mod (pe_op op_fdiv (pv 1) pe_int) pe_int) pa_nil)))) (pss_cons (ps_if (pt_cmpR (op_inSK (K := K) rfl) (pv 5) (pe_comp (blk_mk (own := ["_law_row"]) (fr := []) (fm := []) rfl (by decide +kernel) (by decide +kernel) (by decide +kernel) .nil) rfl (pi_listK (K := K) rfl (pe_ix (ix_tupK (K := K) rfl) (pv 4) pe_int (fun _ _ => rfl))) (fun _ _ _ => ⟨(pg_name (i := 0) (by show List.Nodup (["_law_row"] : List Str); decide +kernel) rfl (by first | exact Or.inl rfl | exact Or.inr rfl)), pts_nil, (pe_ix (ix_tupK (K := K) rfl) (pv 0) pe_int (fun _ _ => rfl))⟩)) (by with_unfolding_all rfl)) (pss_one ps_retN) pss_nil) (pss_cons (ps_set (i := 6) sc__law_told_by.nd rfl (by first | exact Or.inl rfl | exact Or.inr rfl) (pe_ix (ix_listK (K := K) rfl) (pe_lst (pa_cons pe_str (pa_cons pe_str (pa_cons pe_str pa_nil)))) (pe_op op_mod (pv 1) pe_int) (fun _ _ => rfl))) (pss_cons (ps_for PassesOwn.never rfl (pi_listK (K := K) rfl (pe_slice (sl_listK (K := K) rfl) (pv 0) po_none (po_some (pe_un un_neg pe_int)))) (pg_name (i := 7) sc__law_told_by.nd rfl (by first | exact Or.inl rfl | exact Or.inr rfl)) (pss_one (ps_if (PW.pt (pw_and (pt_cmpR op_eq (pv 6) pe_str (nomark _)) (pw_and (pt_not (pt_val (pv 3))) (pw_and1 pt_never)))) (pss_one (ps_set (i := 6) sc__law_told_by.nd rfl (by first | exact Or.inl rfl | exact Or.inr rfl) pe_str)) pss_nil))) (pss_one (ps_expr (pe_bm PySem.F.plainAttrs_list PySem.F.slot_list_append PySem.F.type_list_append mt_append (pe_ix (ix_tupK (K := K) rfl) (pv 4) pe_int (fun _ _ => rfl)) (pa_cons (pe_tup (pa_cons (pv 5) (pa_cons (pv 6) (pa_cons (pe_op op_sub (pe_callB (call_lenK (K := K) rfl) (by rfl) T.n_len bt_len (pa_cons (pe_ix (ix_tupK (K := K) rfl) (pv 4) pe_int (fun _ _ => rfl)) pa_nil)) pe_int) (pa_cons (pe_callB (call_lenK (K := K) rfl) (by rfl) T.n_len bt_len (pa_cons (pe_ix (ix_tupK (K := K) rfl) (pe_ix (ix_listK (K := K) rfl) (pe_ix (ix_tupK (K := K) rfl) (pv 4) pe_int (fun _ _ => rfl)) (pe_un un_neg pe_int) (fun _ _ => rfl)) pe_int (fun _ _ => rfl)) pa_nil)) pa_nil))))) pa_nil))))))))), ?_⟩
    ((try dsimp only [tSeq, tAsg, gName, tC, tOp, tUn, tVar, tRet, tIfS, tOr, tAnd, tNot, tTest, tB, tChain, tCB, tCons, tNil, tCall, tSl, tNoPart, tPart, tNext, tDrop, tLst, tTup, tYes, tNotV, tAndV, tOrV, L2.start, List.set, List.map, List.length, List.replicate, List.cons_append, List.nil_append, List.append_nil, cK, bK, rI0, rI, rU, rIxS, rIxL, rIxT, tRetN, rSlL, rIn, rCatT, gTup, gCons, gNil, tRaiseI, tXInit, tDGet, tDGet1, tDGet2, tDIn, tDNotIn, sDPut, tDNewK, rDictOf, rEqDict, rCount, tCompX_list, xCall, sXFld, tXFld, rSlS, rEq, rNe, sc0, sc1, sc2, sc3, sc4, sc5, sc6, sc7, sc8, sc9, sc10, sc11, sc12, sc13, rCatS, rIsi, LenV, rAll, tFor_list, tFor_tup, tFor_str, tFor_rng1, tFor_rng2, tComp_list, tComp_tup, tComp_str, tComp_rng1, blkSt, tBM, rAppend, rStarts, rIndex, tIf, tMake, tMeth, sFld, tFld, tRepr, tFmt, jNil, jCons, tJoined, rJoin, rIsx, rIst, tRaise, tTryAs, tTry0, un1, xMeth, xDrop, xSet, xRet, xOf, xSeq, List.getElem?_cons_zero, List.getElem?_cons_succ, Option.some.injEq, V.int.injEq, V.str.injEq, V.bl.injEq, V.ref.injEq, V.ty.injEq, List.cons.injEq, exists_eq_left', exists_eq_left, exists_eq', and_assoc, if_true, if_false, Bool.not_false, Bool.not_true, Bool.not_not, Bool.false_eq_true, exists_and_left, and_true, true_and, List.set_cons_zero, List.set_cons_succ, Option.join_some, false_and, or_false, false_or, exists_false, sp_cellat, sp_nameby, sp_wordrow, sp_toldby, sp_drawn, sp_copy, sp_wrapped, sp_uinit, sp_places, sp_aimby, sp_aims, sp_aim, sp_whole, sp_last, sp_due, sp_alone, sp_refused, sp_holds, Ends.nx, Nat.reduceSub, Nat.reduceAdd]); (try simp only [tSeq, tAsg, gName, tC, tOp, tUn, tVar, tRet, tIfS, tOr, tAnd, tNot, tTest, tB, tChain, tCB, tCons, tNil, tCall, tSl, tNoPart, tPart, tNext, tDrop, tLst, tTup, tYes, tNotV, tAndV, tOrV, L2.start, List.set, List.map, List.length, List.replicate, List.cons_append, List.nil_append, List.append_nil, cK, bK, rI0, rI, rU, rIxS, rIxL, rIxT, tRetN, rSlL, rIn, rCatT, gTup, gCons, gNil, tRaiseI, tXInit, tDGet, tDGet1, tDGet2, tDIn, tDNotIn, sDPut, tDNewK, rDictOf, rEqDict, rCount, tCompX_list, xCall, sXFld, tXFld, rSlS, rEq, rNe, sc0, sc1, sc2, sc3, sc4, sc5, sc6, sc7, sc8, sc9, sc10, sc11, sc12, sc13, rCatS, rIsi, LenV, rAll, tFor_list, tFor_tup, tFor_str, tFor_rng1, tFor_rng2, tComp_list, tComp_tup, tComp_str, tComp_rng1, blkSt, tBM, rAppend, rStarts, rIndex, tIf, tMake, tMeth, sFld, tFld, tRepr, tFmt, jNil, jCons, tJoined, rJoin, rIsx, rIst, tRaise, tTryAs, tTry0, un1, xMeth, xDrop, xSet, xRet, xOf, xSeq, List.getElem?_cons_zero, List.getElem?_cons_succ, Option.some.injEq, V.int.injEq, V.str.injEq, V.bl.injEq, V.ref.injEq, V.ty.injEq, List.cons.injEq, exists_eq_left', exists_eq_left, exists_eq', and_assoc, if_true, if_false, Bool.not_false, Bool.not_true, Bool.not_not, Bool.false_eq_true, exists_and_left, and_true, true_and, List.set_cons_zero, List.set_cons_succ, Option.join_some, false_and, or_false, false_or, exists_false, sp_cellat, sp_nameby, sp_wordrow, sp_toldby, sp_drawn, sp_copy, sp_wrapped, sp_uinit, sp_places, sp_aimby, sp_aims, sp_aim, sp_whole, sp_last, sp_due, sp_alone, sp_refused, sp_holds, Ends.nx, Nat.reduceSub, Nat.reduceAdd, reduceCtorEq]))
    have hp := hP.at_ p (by simp)
    refine ⟨_, SqL.of hP.top, V.ref p.t, by rw [List.map_append]; exact atI_last, ⟨by decide, by decide⟩, by decide, p.t, rfl, _, SqT.of hp.top, _, rfl, ?_⟩
    refine CompL.of (by rw [List.length_map, sizeLine_eq]; omega) (SqL.of hp.nl) (fun D i ys H' => ys = (p.nms.take i).map (fun m => V.str m.name) ∧ H' = upd H D (.lst ys)) (fun D hD => ⟨rfl, rfl⟩) (fun D i ys H' hD hi ⟨e1, e2⟩ => ?_) (fun D i x ys H' hD hx ⟨e1, e2⟩ => ?_) (fun D ys H' hD ⟨e1, e2⟩ => ?_)
    · subst e2
      refine ⟨SqL.of (by rw [upd_ne (ne_of_none hp.nl hD)]; exact hp.nl), upd_same, ?_⟩
      rw [e1, List.length_map]; exact List.length_take_le ..
    · subst e2
      rw [List.getElem?_map] at hx
      obtain ⟨m, hm, rfl⟩ := Option.map_eq_some_iff.mp hx
      have ma := hp.ns m (List.mem_of_getElem? hm)
      ((try dsimp only [tSeq, tAsg, gName, tC, tOp, tUn, tVar, tRet, tIfS, tOr, tAnd, tNot, tTest, tB, tChain, tCB, tCons, tNil, tCall, tSl, tNoPart, tPart, tNext, tDrop, tLst, tTup, tYes, tNotV, tAndV, tOrV, L2.start, List.set, List.map, List.length, List.replicate, List.cons_append, List.nil_append, List.append_nil, cK, bK, rI0, rI, rU, rIxS, rIxL, rIxT, tRetN, rSlL, rIn, rCatT, gTup, gCons, gNil, tRaiseI, tXInit, tDGet, tDGet1, tDGet2, tDIn, tDNotIn, sDPut, tDNewK, rDictOf, rEqDict, rCount, tCompX_list, xCall, sXFld, tXFld, rSlS, rEq, rNe, sc0, sc1, sc2, sc3, sc4, sc5, sc6, sc7, sc8, sc9, sc10, sc11, sc12, sc13, rCatS, rIsi, LenV, rAll, tFor_list, tFor_tup, tFor_str, tFor_rng1, tFor_rng2, tComp_list, tComp_tup, tComp_str, tComp_rng1, blkSt, tBM, rAppend, rStarts, rIndex, tIf, tMake, tMeth, sFld, tFld, tRepr, tFmt, jNil, jCons, tJoined, rJoin, rIsx, rIst, tRaise, tTryAs, tTry0, un1, xMeth, xDrop, xSet, xRet, xOf, xSeq, List.getElem?_cons_zero, List.getElem?_cons_succ, Option.some.injEq, V.int.injEq, V.str.injEq, V.bl.injEq, V.ref.injEq, V.ty.injEq, List.cons.injEq, exists_eq_left', exists_eq_left, exists_eq', and_assoc, if_true, if_false, Bool.not_false, Bool.not_true, Bool.not_not, Bool.false_eq_true, exists_and_left, and_true, true_and, List.set_cons_zero, List.set_cons_succ, Option.join_some, false_and, or_false, false_or, exists_false, sp_cellat, sp_nameby, sp_wordrow, sp_toldby, sp_drawn, sp_copy, sp_wrapped, sp_uinit, sp_places, sp_aimby, sp_aims, sp_aim, sp_whole, sp_last, sp_due, sp_alone, sp_refused, sp_holds, Ends.nx, Nat.reduceSub, Nat.reduceAdd]); (try simp only [tSeq, tAsg, gName, tC, tOp, tUn, tVar, tRet, tIfS, tOr, tAnd, tNot, tTest, tB, tChain, tCB, tCons, tNil, tCall, tSl, tNoPart, tPart, tNext, tDrop, tLst, tTup, tYes, tNotV, tAndV, tOrV, L2.start, List.set, List.map, List.length, List.replicate, List.cons_append, List.nil_append, List.append_nil, cK, bK, rI0, rI, rU, rIxS, rIxL, rIxT, tRetN, rSlL, rIn, rCatT, gTup, gCons, gNil, tRaiseI, tXInit, tDGet, tDGet1, tDGet2, tDIn, tDNotIn, sDPut, tDNewK, rDictOf, rEqDict, rCount, tCompX_list, xCall, sXFld, tXFld, rSlS, rEq, rNe, sc0, sc1, sc2, sc3, sc4, sc5, sc6, sc7, sc8, sc9, sc10, sc11, sc12, sc13, rCatS, rIsi, LenV, rAll, tFor_list, tFor_tup, tFor_str, tFor_rng1, tFor_rng2, tComp_list, tComp_tup, tComp_str, tComp_rng1, blkSt, tBM, rAppend, rStarts, rIndex, tIf, tMake, tMeth, sFld, tFld, tRepr, tFmt, jNil, jCons, tJoined, rJoin, rIsx, rIst, tRaise, tTryAs, tTry0, un1, xMeth, xDrop, xSet, xRet, xOf, xSeq, List.getElem?_cons_zero, List.getElem?_cons_succ, Option.some.injEq, V.int.injEq, V.str.injEq, V.bl.injEq, V.ref.injEq, V.ty.injEq, List.cons.injEq, exists_eq_left', exists_eq_left, exists_eq', and_assoc, if_true, if_false, Bool.not_false, Bool.not_true, Bool.not_not, Bool.false_eq_true, exists_and_left, and_true, true_and, List.set_cons_zero, List.set_cons_succ, Option.join_some, false_and, or_false, false_or, exists_false, sp_cellat, sp_nameby, sp_wordrow, sp_toldby, sp_drawn, sp_copy, sp_wrapped, sp_uinit, sp_places, sp_aimby, sp_aims, sp_aim, sp_whole, sp_last, sp_due, sp_alone, sp_refused, sp_holds, Ends.nx, Nat.reduceSub, Nat.reduceAdd, reduceCtorEq]))
      refine ⟨.no .nil, _, SqT.of (by rw [upd_ne (ne_of_none ma hD)]; exact ma), _, rfl, upd_same, ?_, upd_upd⟩
      rw [e1, List.take_succ, hm, List.map_append]; rfl
    · subst e2
      have e3 : ys = (p.nms.map ToldM.name).map V.str := by rw [e1, List.length_map, List.take_length, List.map_map]; rfl
      refine ⟨D, rfl, ys, .inl (SqL.of upd_same), rfl, ?_, ite2 (fun _ => k0 _ (same_new hD)) (fun hin => ⟨by rw [sizeLine_eq]; decide, fun p1 h1 => ?_⟩)⟩
      · rw [e3, List.all_map]; exact List.all_eq_true.mpr fun _ _ => rfl
      · obtain ⟨z, hz, hs⟩ := sort_at (c := c)
        have sm : Same H (upd (upd H D (.lst ys)) p1 (.lst [V.str (Str.ofString "tell"), V.str (Str.ofString "weak"), V.str (Str.ofString "own")])) := (same_new hD).trans (same_new h1)
        refine ⟨by decide, _, SqL.of upd_same, _, hz, _, SqL.of (sm _ _ hP.top), fun p2 h2 => ?_⟩
        have sm2 := sm.trans (same_new (o := HO.lst (cutV ((ps ++ [p]).map PcM.v) none (some (-1)))) h2)
        generalize hH4 : upd (upd (upd H D (.lst ys)) p1 (.lst [V.str (Str.ofString "tell"), V.str (Str.ofString "weak"), V.str (Str.ofString "own")])) p2 (HO.lst (cutV ((ps ++ [p]).map PcM.v) none (some (-1)))) = H4 at *
        have hl4 : H4 p2 = some (HO.lst (cutV ((ps ++ [p]).map PcM.v) none (some (-1)))) := by rw [← hH4]; exact upd_same
        refine ForL.of (fun i σ H' => H' = H4 ∧ ∃ b7, σ = [some (V.ref L), some (V.int c), some (V.int n), some (V.bl true), some (V.ref p.t), some (V.str (nameOf n (c / 9 % 12))), some (V.str z), b7]) ⟨rfl, _, rfl⟩ (fun i σ H' _ ⟨e, _⟩ => by rw [e]; exact SqL.of hl4) ?_ ?_
        · rintro i x σ H' hx ⟨rfl, b7, rfl⟩
          ((try dsimp only [tSeq, tAsg, gName, tC, tOp, tUn, tVar, tRet, tIfS, tOr, tAnd, tNot, tTest, tB, tChain, tCB, tCons, tNil, tCall, tSl, tNoPart, tPart, tNext, tDrop, tLst, tTup, tYes, tNotV, tAndV, tOrV, L2.start, List.set, List.map, List.length, List.replicate, List.cons_append, List.nil_append, List.append_nil, cK, bK, rI0, rI, rU, rIxS, rIxL, rIxT, tRetN, rSlL, rIn, rCatT, gTup, gCons, gNil, tRaiseI, tXInit, tDGet, tDGet1, tDGet2, tDIn, tDNotIn, sDPut, tDNewK, rDictOf, rEqDict, rCount, tCompX_list, xCall, sXFld, tXFld, rSlS, rEq, rNe, sc0, sc1, sc2, sc3, sc4, sc5, sc6, sc7, sc8, sc9, sc10, sc11, sc12, sc13, rCatS, rIsi, LenV, rAll, tFor_list, tFor_tup, tFor_str, tFor_rng1, tFor_rng2, tComp_list, tComp_tup, tComp_str, tComp_rng1, blkSt, tBM, rAppend, rStarts, rIndex, tIf, tMake, tMeth, sFld, tFld, tRepr, tFmt, jNil, jCons, tJoined, rJoin, rIsx, rIst, tRaise, tTryAs, tTry0, un1, xMeth, xDrop, xSet, xRet, xOf, xSeq, List.getElem?_cons_zero, List.getElem?_cons_succ, Option.some.injEq, V.int.injEq, V.str.injEq, V.bl.injEq, V.ref.injEq, V.ty.injEq, List.cons.injEq, exists_eq_left', exists_eq_left, exists_eq', and_assoc, if_true, if_false, Bool.not_false, Bool.not_true, Bool.not_not, Bool.false_eq_true, exists_and_left, and_true, true_and, List.set_cons_zero, List.set_cons_succ, Option.join_some, false_and, or_false, false_or, exists_false, sp_cellat, sp_nameby, sp_wordrow, sp_toldby, sp_drawn, sp_copy, sp_wrapped, sp_uinit, sp_places, sp_aimby, sp_aims, sp_aim, sp_whole, sp_last, sp_due, sp_alone, sp_refused, sp_holds, Ends.nx, Nat.reduceSub, Nat.reduceAdd]); (try simp only [tSeq, tAsg, gName, tC, tOp, tUn, tVar, tRet, tIfS, tOr, tAnd, tNot, tTest, tB, tChain, tCB, tCons, tNil, tCall, tSl, tNoPart, tPart, tNext, tDrop, tLst, tTup, tYes, tNotV, tAndV, tOrV, L2.start, List.set, List.map, List.length, List.replicate, List.cons_append, List.nil_append, List.append_nil, cK, bK, rI0, rI, rU, rIxS, rIxL, rIxT, tRetN, rSlL, rIn, rCatT, gTup, gCons, gNil, tRaiseI, tXInit, tDGet, tDGet1, tDGet2, tDIn, tDNotIn, sDPut, tDNewK, rDictOf, rEqDict, rCount, tCompX_list, xCall, sXFld, tXFld, rSlS, rEq, rNe, sc0, sc1, sc2, sc3, sc4, sc5, sc6, sc7, sc8, sc9, sc10, sc11, sc12, sc13, rCatS, rIsi, LenV, rAll, tFor_list, tFor_tup, tFor_str, tFor_rng1, tFor_rng2, tComp_list, tComp_tup, tComp_str, tComp_rng1, blkSt, tBM, rAppend, rStarts, rIndex, tIf, tMake, tMeth, sFld, tFld, tRepr, tFmt, jNil, jCons, tJoined, rJoin, rIsx, rIst, tRaise, tTryAs, tTry0, un1, xMeth, xDrop, xSet, xRet, xOf, xSeq, List.getElem?_cons_zero, List.getElem?_cons_succ, Option.some.injEq, V.int.injEq, V.str.injEq, V.bl.injEq, V.ref.injEq, V.ty.injEq, List.cons.injEq, exists_eq_left', exists_eq_left, exists_eq', and_assoc, if_true, if_false, Bool.not_false, Bool.not_true, Bool.not_not, Bool.false_eq_true, exists_and_left, and_true, true_and, List.set_cons_zero, List.set_cons_succ, Option.join_some, false_and, or_false, false_or, exists_false, sp_cellat, sp_nameby, sp_wordrow, sp_toldby, sp_drawn, sp_copy, sp_wrapped, sp_uinit, sp_places, sp_aimby, sp_aims, sp_aim, sp_whole, sp_last, sp_due, sp_alone, sp_refused, sp_holds, Ends.nx, Nat.reduceSub, Nat.reduceAdd, reduceCtorEq]))
          split <;> trivial
        · rintro σ H' ⟨rfl, b7, rfl⟩
          ((try dsimp only [tSeq, tAsg, gName, tC, tOp, tUn, tVar, tRet, tIfS, tOr, tAnd, tNot, tTest, tB, tChain, tCB, tCons, tNil, tCall, tSl, tNoPart, tPart, tNext, tDrop, tLst, tTup, tYes, tNotV, tAndV, tOrV, L2.start, List.set, List.map, List.length, List.replicate, List.cons_append, List.nil_append, List.append_nil, cK, bK, rI0, rI, rU, rIxS, rIxL, rIxT, tRetN, rSlL, rIn, rCatT, gTup, gCons, gNil, tRaiseI, tXInit, tDGet, tDGet1, tDGet2, tDIn, tDNotIn, sDPut, tDNewK, rDictOf, rEqDict, rCount, tCompX_list, xCall, sXFld, tXFld, rSlS, rEq, rNe, sc0, sc1, sc2, sc3, sc4, sc5, sc6, sc7, sc8, sc9, sc10, sc11, sc12, sc13, rCatS, rIsi, LenV, rAll, tFor_list, tFor_tup, tFor_str, tFor_rng1, tFor_rng2, tComp_list, tComp_tup, tComp_str, tComp_rng1, blkSt, tBM, rAppend, rStarts, rIndex, tIf, tMake, tMeth, sFld, tFld, tRepr, tFmt, jNil, jCons, tJoined, rJoin, rIsx, rIst, tRaise, tTryAs, tTry0, un1, xMeth, xDrop, xSet, xRet, xOf, xSeq, List.getElem?_cons_zero, List.getElem?_cons_succ, Option.some.injEq, V.int.injEq, V.str.injEq, V.bl.injEq, V.ref.injEq, V.ty.injEq, List.cons.injEq, exists_eq_left', exists_eq_left, exists_eq', and_assoc, if_true, if_false, Bool.not_false, Bool.not_true, Bool.not_not, Bool.false_eq_true, exists_and_left, and_true, true_and, List.set_cons_zero, List.set_cons_succ, Option.join_some, false_and, or_false, false_or, exists_false, sp_cellat, sp_nameby, sp_wordrow, sp_toldby, sp_drawn, sp_copy, sp_wrapped, sp_uinit, sp_places, sp_aimby, sp_aims, sp_aim, sp_whole, sp_last, sp_due, sp_alone, sp_refused, sp_holds, Ends.nx, Nat.reduceSub, Nat.reduceAdd]); (try simp only [tSeq, tAsg, gName, tC, tOp, tUn, tVar, tRet, tIfS, tOr, tAnd, tNot, tTest, tB, tChain, tCB, tCons, tNil, tCall, tSl, tNoPart, tPart, tNext, tDrop, tLst, tTup, tYes, tNotV, tAndV, tOrV, L2.start, List.set, List.map, List.length, List.replicate, List.cons_append, List.nil_append, List.append_nil, cK, bK, rI0, rI, rU, rIxS, rIxL, rIxT, tRetN, rSlL, rIn, rCatT, gTup, gCons, gNil, tRaiseI, tXInit, tDGet, tDGet1, tDGet2, tDIn, tDNotIn, sDPut, tDNewK, rDictOf, rEqDict, rCount, tCompX_list, xCall, sXFld, tXFld, rSlS, rEq, rNe, sc0, sc1, sc2, sc3, sc4, sc5, sc6, sc7, sc8, sc9, sc10, sc11, sc12, sc13, rCatS, rIsi, LenV, rAll, tFor_list, tFor_tup, tFor_str, tFor_rng1, tFor_rng2, tComp_list, tComp_tup, tComp_str, tComp_rng1, blkSt, tBM, rAppend, rStarts, rIndex, tIf, tMake, tMeth, sFld, tFld, tRepr, tFmt, jNil, jCons, tJoined, rJoin, rIsx, rIst, tRaise, tTryAs, tTry0, un1, xMeth, xDrop, xSet, xRet, xOf, xSeq, List.getElem?_cons_zero, List.getElem?_cons_succ, Option.some.injEq, V.int.injEq, V.str.injEq, V.bl.injEq, V.ref.injEq, V.ty.injEq, List.cons.injEq, exists_eq_left', exists_eq_left, exists_eq', and_assoc, if_true, if_false, Bool.not_false, Bool.not_true, Bool.not_not, Bool.false_eq_true, exists_and_left, and_true, true_and, List.set_cons_zero, List.set_cons_succ, Option.join_some, false_and, or_false, false_or, exists_false, sp_cellat, sp_nameby, sp_wordrow, sp_toldby, sp_drawn, sp_copy, sp_wrapped, sp_uinit, sp_places, sp_aimby, sp_aims, sp_aim, sp_whole, sp_last, sp_due, sp_alone, sp_refused, sp_holds, Ends.nx, Nat.reduceSub, Nat.reduceAdd, reduceCtorEq]))
          have hs' := hp.ss st (by rw [hst]; simp)
          refine ⟨_, SqT.of (sm2 _ _ hp.top), _, rfl, .inl ⟨rfl, _, SqL.of (sm2 _ _ hp.nl)⟩, _, SqT.of (sm2 _ _ hp.top), _, rfl, p.sts.length, .inl ⟨_, SqL.of (sm2 _ _ hp.sl), by simp⟩, _, SqT.of (sm2 _ _ hp.top), _, rfl, p.ls, rfl, _, SqL.of (sm2 _ _ hp.sl), st.v, (by rw [hst, List.map_append]; exact atI_last), st.t, rfl, _, SqT.of (sm2 _ _ hs'.top), _, rfl, st.words.length, .inl ⟨_, SqL.of (sm2 _ _ hs'.wd), by simp⟩, by rw [sizeLine_eq]; decide, fun m hm => ⟨p.ln, rfl, p.nms.map ToldM.v, ?_, ?_, ?_⟩⟩
          · rw [upd_ne (ne_of_none (sm2 _ _ hp.nl) hm)]; exact sm2 _ _ hp.nl
          · rw [List.length_map, sizeLine_eq]; omega
          · refine k1 ⟨m, nameOf n (c / 9 % 12), z, (p.sts.length : Int) - 1, st.words.length⟩ _ (sm2.trans (same_new hm)) upd_same ⟨_, by omega, by omega, rfl⟩ (fun hn => hin ?_) hs ?_ rfl
            · rw [e3]; exact inV_str.mpr hn
            · show (p.sts.length : Int) - 1 = ss.length
              rw [hst, List.length_append]; simp
theorem same_upd {H0 H : Hp} {L : Addr} {o : HO} (h : H0 L = none) (e : Same H0 H) : Same H0 (upd H L o) := fun b u q => by rw [upd_ne (ne_of_none q h)]; exact e b u q
theorem PcOk.empty {c : Int} {t ls ln : Addr} {nm : Str} : PcOk c ⟨t, ls, ln, nm, [], []⟩ := ⟨fun s hs => absurd hs (by simp), fun n hn => absurd hn (by simp), by simp⟩
theorem Drawn.push {c t : Int} {i : Nat} {ps : List PcM} {a ls ln : Addr} (d : Drawn c t i ps) (h : ps.length < 12) : Drawn c t (i + 1) (ps ++ [⟨a, ls, ln, nameOf t ps.length, [], []⟩]) := by
  refine ⟨fun p hp => ?_, by rw [List.length_append]; simp; omega, ?_, ?_⟩
  · rcases List.mem_append.mp hp with z | z
    · exact d.ok p z
    · rw [List.mem_singleton.mp z]; exact PcOk.empty
  · rw [List.map_append, d.names, List.length_append, List.length_singleton, List.range_succ, List.map_append]; rfl
  · have := d.size
    rw [List.map_append, List.sum_append]
    simp [PcM.size]
    exact this
theorem Drawn.last {c t : Int} {i : Nat} {ps : List PcM} {p p' : PcM} (d : Drawn c t i (ps ++ [p])) (h : PcOk c p') (hn : p'.name = p.name) (hs : p'.size ≤ p.size + 1) : Drawn c t (i + 1) (ps ++ [p']) := by
  refine ⟨fun q hq => ?_, by have := d.few; simpa using this, ?_, ?_⟩
  · rcases List.mem_append.mp hq with z | z
    · exact d.ok q (List.mem_append_left _ z)
    · rw [List.mem_singleton.mp z]; exact h
  · have := d.names
    simpa [hn] using this
  · have := d.size
    rw [List.map_append, List.sum_append] at this ⊢
    simp at this ⊢
    omega
theorem Drawn.lastSize {c t : Int} {i : Nat} {ps : List PcM} {p : PcM} (d : Drawn c t i (ps ++ [p])) : p.size ≤ i := by
  have := d.size
  rw [List.map_append, List.sum_append] at this
  simp at this
  omega
theorem Drawn.keep {c t : Int} {i : Nat} {ps : List PcM} (d : Drawn c t i ps) : Drawn c t (i + 1) ps := ⟨d.ok, d.few, d.names, Nat.le_succ_of_le d.size⟩
theorem PcOk.stretch {c : Int} {p : PcM} {s : StM} (h : PcOk c p) (hs : StOk c s) : PcOk c { p with sts := p.sts ++ [s] } := by
  refine ⟨fun r hr => ?_, fun n hn => ?_, h.nd⟩
  · rcases List.mem_append.mp hr with z | z
    · exact h.sts r z
    · rw [List.mem_singleton.mp z]; exact hs
  · obtain ⟨a, b, k, r, e, q⟩ := h.nms n hn
    exact ⟨a, b, k, r, by rw [List.getElem?_append_left (List.getElem?_eq_some_iff.mp e).1]; exact e, q⟩
theorem PcOk.lastSt {c : Int} {p : PcM} {ss : List StM} {s s' : StM} (h : PcOk c p) (e : p.sts = ss ++ [s]) (hs : StOk c s') (hw : s.words.length ≤ s'.words.length) : PcOk c { p with sts := ss ++ [s'] } := by
  refine ⟨fun r hr => ?_, fun n hn => ?_, h.nd⟩
  · rcases List.mem_append.mp hr with z | z
    · exact h.sts r (by rw [e]; exact List.mem_append_left _ z)
    · rw [List.mem_singleton.mp z]; exact hs
  · obtain ⟨a, b, k, r, g, q1, q2, q3⟩ := h.nms n hn
    rw [e] at g
    by_cases hk : k < ss.length
    · rw [List.getElem?_append_left hk] at g
      exact ⟨a, b, k, r, by show (ss ++ [s'])[k]? = some r; rw [List.getElem?_append_left hk]; exact g, q1, q2, q3⟩
    · rw [List.getElem?_append_right (by omega)] at g
      have hk0 : k - ss.length = 0 := by
        have := (List.getElem?_eq_some_iff.mp g).1
        simp at this; omega
      rw [hk0] at g
      simp at g
      subst g
      exact ⟨a, b, k, s', by show (ss ++ [s'])[k]? = some s'; rw [List.getElem?_append_right (by omega), hk0]; rfl, q1, q2, Int.le_trans q3 (by omega)⟩
theorem PcOk.told {c : Int} {p : PcM} {m : ToldM} (h : PcOk c p) (hm : ToldOk c p.sts m) (hn : m.name ∉ p.nms.map ToldM.name) : PcOk c { p with nms := p.nms ++ [m] } := by
  refine ⟨h.sts, fun n hn => ?_, ?_⟩
  · rcases List.mem_append.mp hn with z | z
    · exact h.nms n z
    · rw [List.mem_singleton.mp z]; exact hm
  · show ((p.nms ++ [m]).map ToldM.name).Nodup
    rw [List.map_append]
    refine List.nodup_append.mpr ⟨h.nd, by simp, fun x hx y hy e => ?_⟩
    have : y = m.name := by simpa using hy
    subst this
    exact hn (e ▸ hx)
theorem step_at {v : Int} : ∃ z : Int, atI [V.int 1, V.int 1, V.int 2, V.int 4, V.int 16, V.int 65536] (v % 6) = some (V.int z) ∧ (z = 1 ∨ z = 2 ∨ z = 4 ∨ z = 16 ∨ z = 65536) := by
  have hd : v % 6 = 0 ∨ v % 6 = 1 ∨ v % 6 = 2 ∨ v % 6 = 3 ∨ v % 6 = 4 ∨ v % 6 = 5 := by omega
  rcases hd with e | e | e | e | e | e <;> rw [e] <;> exact ⟨_, rfl, by decide⟩
theorem kind_at {v : Int} : ∃ z : Str, atI [V.str (Str.ofString "code"), V.str (Str.ofString "data")] (v % 2) = some (V.str z) ∧ isKind z := by
  have hd : v % 2 = 0 ∨ v % 2 = 1 := by omega
  rcases hd with e | e <;> rw [e]
  · exact ⟨_, rfl, .inl rfl⟩
  · exact ⟨_, rfl, .inr rfl⟩
theorem size_last {p : PcM} {ss : List StM} {s : StM} (e : p.sts = ss ++ [s]) : s.words.length + p.sts.length + p.nms.length < p.size := by
  unfold PcM.size
  rw [e, List.map_append, List.sum_append]
  simp
  omega
theorem size_st {p : PcM} {ss : List StM} {s s' : StM} (e : p.sts = ss ++ [s]) (h : s'.words.length = s.words.length + 1) : ({ p with sts := ss ++ [s'] } : PcM).size ≤ p.size + 1 := by
  unfold PcM.size
  rw [e, List.map_append, List.sum_append, List.map_append, List.sum_append]
  simp [h]
  omega
theorem StOk.word {c : Int} {s : StM} {wd : Int} (h : StOk c s) (h1 : 0 ≤ wd) (h2 : wd < 4294967296) : StOk c { s with words := s.words ++ [wd] } := by
  refine ⟨h.kind, h.step, fun i hi => ?_, fun f hf => ?_, h.asc, ?_⟩
  · rcases List.mem_append.mp hi with z | z
    · exact h.words i z
    · rw [List.mem_singleton.mp z]; exact ⟨h1, h2⟩
  · have g := h.fills f hf
    exact ⟨g.rule, g.name, g.lo, by have := g.hi; show f.at_ < ((s.words ++ [wd]).length : Int); rw [List.length_append]; simp; omega, g.addlo, g.addhi, g.soft⟩
  · have := h.few
    show s.fills.length ≤ (s.words ++ [wd]).length
    rw [List.length_append]; simp; omega
theorem StOk.fill {c : Int} {s : StM} {f : FillM} {wd : Int} (h : StOk c s) (hf : FillOk c 1 { f with at_ := 0 }) (ha : f.at_ = s.words.length) (h1 : 0 ≤ wd) (h2 : wd < 4294967296) : StOk c { s with fills := s.fills ++ [f], words := s.words ++ [wd] } := by
  have w := h.word h1 h2
  refine ⟨h.kind, h.step, w.words, fun g hg => ?_, ?_, ?_⟩
  · rcases List.mem_append.mp hg with z | z
    · exact w.fills g z
    · rw [List.mem_singleton.mp z]
      exact ⟨hf.rule, hf.name, by omega, by show f.at_ < ((s.words ++ [wd]).length : Int); rw [List.length_append]; simp; omega, hf.addlo, hf.addhi, hf.soft⟩
  · show (s.fills ++ [f]).Pairwise _
    refine List.pairwise_append.mpr ⟨h.asc, by simp, fun g hg y hy => ?_⟩
    rw [List.mem_singleton.mp hy, ha]
    exact (h.fills g hg).hi
  · have := h.few
    show (s.fills ++ [f]).length ≤ (s.words ++ [wd]).length
    rw [List.length_append, List.length_append]; simp; omega
theorem G__law_drawn (T : Txt K mg A) : FnOk P w K mg base CX0 3 A._law_drawn A.fd__law_drawn ["_law_cells", "_law_names_by", "_law_titles_by", "_law_strict"] (sp_drawn K) := by
  refine T.F__law_drawn.ok sc__law_drawn (fun vs H Q E h => ?_) (fun cdv Ar outer s H vs Q E hr h => ?_)
  · obtain ⟨a, ns, c, t, rfl, _⟩ := h
    rfl
  · obtain ⟨a, ns, c, t, rfl, hS, hl, k⟩ := h
    refine ⟨_, (pss_cons (ps_set (i := 4) sc__law_drawn.nd rfl (by first | exact Or.inl rfl | exact Or.inr rfl) (pe_lst pa_nil)) (pss_cons (ps_for PassesOwn.never rfl (pi_listK (K := K) rfl (pv 0)) (pg_name (i := 5) sc__law_drawn.nd rfl (by first | exact Or.inl rfl | exact Or.inr rfl)) (pss_cons (ps_set (i := 6) sc__law_drawn.nd rfl (by first | exact Or.inl rfl | exact Or.inr rfl) (pe_op op_mod (pv 5) pe_int)) (pss_one (ps_if (pt_weak (u := dT1) (PW.pt (pw_or (PW.pt (pw_and (pt_cmpR op_eq (pv 6) pe_int (nomark _)) (pw_and1 (pt_cmpR op_lt (pe_callB (call_lenK (K := K) rfl) (by rfl) T.n_len bt_len (pa_cons (pv 4) pa_nil)) pe_int (nomark _))))) (pw_or1 (pt_cmpR (op_eqDK hr.units (K := K) rfl) (pv 4) (pe_lst pa_nil) (nomark _))))) ?wt1) (pss_weak (u := dB1) (pss_one (ps_expr (pe_bm PySem.F.plainAttrs_list PySem.F.slot_list_append PySem.F.type_list_append mt_append (pv 4) (pa_cons (pe_tup (pa_cons (pe_call (G__law_name_by T) (hr.mono (by decide)) rfl T.m__law_name_by T.k__law_name_by T.b__law_name_by .nil pass0 (pa_cons (pv 2) (pa_cons (pe_callB (call_lenK (K := K) rfl) (by rfl) T.n_len bt_len (pa_cons (pv 4) pa_nil)) pa_nil))) (pa_cons (pe_lst pa_nil) (pa_cons (pe_lst pa_nil) pa_nil)))) pa_nil)))) ?wb1) (pss_one (ps_if (pt_weak (u := dT2) (PW.pt (pw_or (pt_cmpR op_lt (pv 6) pe_int (nomark _)) (pw_or1 (pt_cmpR (op_eqDK hr.units (K := K) rfl) (pe_ix (ix_tupK (K := K) rfl) (pe_ix (ix_listK (K := K) rfl) (pv 4) (pe_un un_neg pe_int) (fun _ _ => rfl)) pe_int (fun _ _ => rfl)) (pe_lst pa_nil) (nomark _))))) ?wt2) (pss_weak (u := dB2) (pss_cons (ps_set (i := 7) sc__law_drawn.nd rfl (by first | exact Or.inl rfl | exact Or.inr rfl) (pe_ix (ix_listK (K := K) rfl) (pe_lst (pa_cons pe_int (pa_cons pe_int (pa_cons pe_int (pa_cons pe_int (pa_cons pe_int (pa_cons pe_int pa_nil))))))) (pe_op op_mod (pe_op op_fdiv (pv 5) pe_int) pe_int) (fun _ _ => rfl))) (pss_one (ps_expr (pe_bm PySem.F.plainAttrs_list PySem.F.slot_list_append PySem.F.type_list_append mt_append (pe_ix (ix_tupK (K := K) rfl) (pe_ix (ix_listK (K := K) rfl) (pv 4) (pe_un un_neg pe_int) (fun _ _ => rfl)) pe_int (fun _ _ => rfl)) (pa_cons (pe_tup (pa_cons (pe_ix (ix_listK (K := K) rfl) (pe_lst (pa_cons pe_str (pa_cons pe_str pa_nil))) (pe_op op_mod (pe_op op_fdiv (pv 5) pe_int) pe_int) (fun _ _ => rfl)) (pa_cons (pv 7) (pa_cons (pe_lst pa_nil) (pa_cons (pe_lst pa_nil) pa_nil))))) pa_nil))))) ?wb2) (pss_one (ps_if (pt_cmpR op_lt (pv 6) pe_int (nomark _)) (pss_weak (u := dB3) (pss_cons (ps_set (i := 8) sc__law_drawn.nd rfl (by first | exact Or.inl rfl | exact Or.inr rfl) (pe_ix (ix_listK (K := K) rfl) (pe_ix (ix_tupK (K := K) rfl) (pe_ix (ix_listK (K := K) rfl) (pv 4) (pe_un un_neg pe_int) (fun _ _ => rfl)) pe_int (fun _ _ => rfl)) (pe_un un_neg pe_int) (fun _ _ => rfl))) (pss_cons (ps_set (i := 9) sc__law_drawn.nd rfl (by first | exact Or.inl rfl | exact Or.inr rfl) (pe_call (G__law_word_row T) (hr.mono (by decide)) rfl T.m__law_word_row T.k__law_word_row T.b__law_word_row .nil pass0 (pa_cons (pv 5) (pa_cons (pv 1) pa_nil)))) (pss_cons (ps_if (pt_cmpR op_notN (pv 9) pe_non (nomark _)) (pss_one (ps_expr (pe_bm PySem.F.plainAttrs_list PySem.F.slot_list_append PySem.F.type_list_append mt_append (pe_ix (ix_tupK (K := K) rfl) (pv 8) pe_int (fun _ _ => rfl)) (pa_cons (pe_op (op_catTK (K := K) rfl) (pe_tup (pa_cons (pe_callB (call_lenK (K := K) rfl) (by rfl) T.n_len bt_len (pa_cons (pe_ix (ix_tupK (K := K) rfl) (pv 8) pe_int (fun _ _ => rfl)) pa_nil)) pa_nil)) (pv 9)) pa_nil)))) pss_nil) (pss_one (ps_expr (pe_bm PySem.F.plainAttrs_list PySem.F.slot_list_append PySem.F.type_list_append mt_append (pe_ix (ix_tupK (K := K) rfl) (pv 8) pe_int (fun _ _ => rfl)) (pa_cons (pe_op op_mod (pe_op op_mul (pv 5) pe_int) pe_int) pa_nil))))))) ?wb3) (pss_weak (u := dB4) (pss_one (ps_expr (pe_call (G__law_told_by T) (hr.mono (by decide)) rfl T.m__law_told_by T.k__law_told_by T.b__law_told_by .nil pass0 (pa_cons (pv 4) (pa_cons (pv 5) (pa_cons (pv 1) (pa_cons (pv 3) pa_nil))))))) ?wb4))))))))) (pss_one (ps_ret (pv 4))))), ?main⟩
    case wt1 =>
      rintro σ H R ⟨H0, a, L, c, t, v, i, ps, ⟨⟨b7, b8, b9, rfl⟩, sm, hP, hf, hd, hi⟩, k⟩
      ((try dsimp only [tSeq, tAsg, gName, tC, tOp, tUn, tVar, tRet, tIfS, tOr, tAnd, tNot, tTest, tB, tChain, tCB, tCons, tNil, tCall, tSl, tNoPart, tPart, tNext, tDrop, tLst, tTup, tYes, tNotV, tAndV, tOrV, L2.start, List.set, List.map, List.length, List.replicate, List.cons_append, List.nil_append, List.append_nil, cK, bK, rI0, rI, rU, rIxS, rIxL, rIxT, tRetN, rSlL, rIn, rCatT, gTup, gCons, gNil, tRaiseI, tXInit, tDGet, tDGet1, tDGet2, tDIn, tDNotIn, sDPut, tDNewK, rDictOf, rEqDict, rCount, tCompX_list, xCall, sXFld, tXFld, rSlS, rEq, rNe, sc0, sc1, sc2, sc3, sc4, sc5, sc6, sc7, sc8, sc9, sc10, sc11, sc12, sc13, rCatS, rIsi, LenV, rAll, tFor_list, tFor_tup, tFor_str, tFor_rng1, tFor_rng2, tComp_list, tComp_tup, tComp_str, tComp_rng1, blkSt, tBM, rAppend, rStarts, rIndex, tIf, tMake, tMeth, sFld, tFld, tRepr, tFmt, jNil, jCons, tJoined, rJoin, rIsx, rIst, tRaise, tTryAs, tTry0, un1, xMeth, xDrop, xSet, xRet, xOf, xSeq, List.getElem?_cons_zero, List.getElem?_cons_succ, Option.some.injEq, V.int.injEq, V.str.injEq, V.bl.injEq, V.ref.injEq, V.ty.injEq, List.cons.injEq, exists_eq_left', exists_eq_left, exists_eq', and_assoc, if_true, if_false, Bool.not_false, Bool.not_true, Bool.not_not, Bool.false_eq_true, exists_and_left, and_true, true_and, List.set_cons_zero, List.set_cons_succ, Option.join_some, false_and, or_false, false_or, exists_false, sp_cellat, sp_nameby, sp_wordrow, sp_toldby, sp_drawn, sp_copy, sp_wrapped, sp_uinit, sp_places, sp_aimby, sp_aims, sp_aim, sp_whole, sp_last, sp_due, sp_alone, sp_refused, sp_holds, Ends.nx, Nat.reduceSub, Nat.reduceAdd]); (try simp only [tSeq, tAsg, gName, tC, tOp, tUn, tVar, tRet, tIfS, tOr, tAnd, tNot, tTest, tB, tChain, tCB, tCons, tNil, tCall, tSl, tNoPart, tPart, tNext, tDrop, tLst, tTup, tYes, tNotV, tAndV, tOrV, L2.start, List.set, List.map, List.length, List.replicate, List.cons_append, List.nil_append, List.append_nil, cK, bK, rI0, rI, rU, rIxS, rIxL, rIxT, tRetN, rSlL, rIn, rCatT, gTup, gCons, gNil, tRaiseI, tXInit, tDGet, tDGet1, tDGet2, tDIn, tDNotIn, sDPut, tDNewK, rDictOf, rEqDict, rCount, tCompX_list, xCall, sXFld, tXFld, rSlS, rEq, rNe, sc0, sc1, sc2, sc3, sc4, sc5, sc6, sc7, sc8, sc9, sc10, sc11, sc12, sc13, rCatS, rIsi, LenV, rAll, tFor_list, tFor_tup, tFor_str, tFor_rng1, tFor_rng2, tComp_list, tComp_tup, tComp_str, tComp_rng1, blkSt, tBM, rAppend, rStarts, rIndex, tIf, tMake, tMeth, sFld, tFld, tRepr, tFmt, jNil, jCons, tJoined, rJoin, rIsx, rIst, tRaise, tTryAs, tTry0, un1, xMeth, xDrop, xSet, xRet, xOf, xSeq, List.getElem?_cons_zero, List.getElem?_cons_succ, Option.some.injEq, V.int.injEq, V.str.injEq, V.bl.injEq, V.ref.injEq, V.ty.injEq, List.cons.injEq, exists_eq_left', exists_eq_left, exists_eq', and_assoc, if_true, if_false, Bool.not_false, Bool.not_true, Bool.not_not, Bool.false_eq_true, exists_and_left, and_true, true_and, List.set_cons_zero, List.set_cons_succ, Option.join_some, false_and, or_false, false_or, exists_false, sp_cellat, sp_nameby, sp_wordrow, sp_toldby, sp_drawn, sp_copy, sp_wrapped, sp_uinit, sp_places, sp_aimby, sp_aims, sp_aim, sp_whole, sp_last, sp_due, sp_alone, sp_refused, sp_holds, Ends.nx, Nat.reduceSub, Nat.reduceAdd, reduceCtorEq]))
      have z : (0 : Nat) ≤ sizeLine := Nat.zero_le _
      have eqd : ∀ q, H q = none → rEqD K (V.ref L) (V.ref q) (upd H q (HO.lst [])) fun x H' => ∃ k, x = V.bl k ∧ R k H' := fun q hq => by
        refine ⟨ps.map PcM.d, [], .inl ⟨(hP.mono (same_new hq)).rep, ⟨q, [], rfl, SqL.of upd_same, by simp [RepL]⟩⟩, Nat.le_trans (depL_le fun p _ => dep_pc p) (by decide), _, rfl, k _ _ (same_new hq) (fun h => ?_) fun h e => ?_⟩
        · rw [deqL_nil] at h
          have e := of_decide_eq_true h
          rw [List.map_eq_nil_iff.mp e]; decide
        · rw [deqL_nil, e] at h
          simp at h
      exact ite2 (fun _ => ⟨ps.length, .inl ⟨_, SqL.of hP.top, by simp⟩, ite2 (fun h => k true H (Same.refl _) (fun _ => by have := of_decide_eq_true h; omega) (fun h => by cases h)) (fun _ => ⟨z, eqd⟩)⟩) (fun _ => ⟨z, eqd⟩)
    case wt2 =>
      rintro σ H R ⟨H0, a, L, c, t, v, i, ps, p, ⟨⟨b7, b8, b9, rfl⟩, sm, hP, hf, hd, hi⟩, k⟩
      ((try dsimp only [tSeq, tAsg, gName, tC, tOp, tUn, tVar, tRet, tIfS, tOr, tAnd, tNot, tTest, tB, tChain, tCB, tCons, tNil, tCall, tSl, tNoPart, tPart, tNext, tDrop, tLst, tTup, tYes, tNotV, tAndV, tOrV, L2.start, List.set, List.map, List.length, List.replicate, List.cons_append, List.nil_append, List.append_nil, cK, bK, rI0, rI, rU, rIxS, rIxL, rIxT, tRetN, rSlL, rIn, rCatT, gTup, gCons, gNil, tRaiseI, tXInit, tDGet, tDGet1, tDGet2, tDIn, tDNotIn, sDPut, tDNewK, rDictOf, rEqDict, rCount, tCompX_list, xCall, sXFld, tXFld, rSlS, rEq, rNe, sc0, sc1, sc2, sc3, sc4, sc5, sc6, sc7, sc8, sc9, sc10, sc11, sc12, sc13, rCatS, rIsi, LenV, rAll, tFor_list, tFor_tup, tFor_str, tFor_rng1, tFor_rng2, tComp_list, tComp_tup, tComp_str, tComp_rng1, blkSt, tBM, rAppend, rStarts, rIndex, tIf, tMake, tMeth, sFld, tFld, tRepr, tFmt, jNil, jCons, tJoined, rJoin, rIsx, rIst, tRaise, tTryAs, tTry0, un1, xMeth, xDrop, xSet, xRet, xOf, xSeq, List.getElem?_cons_zero, List.getElem?_cons_succ, Option.some.injEq, V.int.injEq, V.str.injEq, V.bl.injEq, V.ref.injEq, V.ty.injEq, List.cons.injEq, exists_eq_left', exists_eq_left, exists_eq', and_assoc, if_true, if_false, Bool.not_false, Bool.not_true, Bool.not_not, Bool.false_eq_true, exists_and_left, and_true, true_and, List.set_cons_zero, List.set_cons_succ, Option.join_some, false_and, or_false, false_or, exists_false, sp_cellat, sp_nameby, sp_wordrow, sp_toldby, sp_drawn, sp_copy, sp_wrapped, sp_uinit, sp_places, sp_aimby, sp_aims, sp_aim, sp_whole, sp_last, sp_due, sp_alone, sp_refused, sp_holds, Ends.nx, Nat.reduceSub, Nat.reduceAdd]); (try simp only [tSeq, tAsg, gName, tC, tOp, tUn, tVar, tRet, tIfS, tOr, tAnd, tNot, tTest, tB, tChain, tCB, tCons, tNil, tCall, tSl, tNoPart, tPart, tNext, tDrop, tLst, tTup, tYes, tNotV, tAndV, tOrV, L2.start, List.set, List.map, List.length, List.replicate, List.cons_append, List.nil_append, List.append_nil, cK, bK, rI0, rI, rU, rIxS, rIxL, rIxT, tRetN, rSlL, rIn, rCatT, gTup, gCons, gNil, tRaiseI, tXInit, tDGet, tDGet1, tDGet2, tDIn, tDNotIn, sDPut, tDNewK, rDictOf, rEqDict, rCount, tCompX_list, xCall, sXFld, tXFld, rSlS, rEq, rNe, sc0, sc1, sc2, sc3, sc4, sc5, sc6, sc7, sc8, sc9, sc10, sc11, sc12, sc13, rCatS, rIsi, LenV, rAll, tFor_list, tFor_tup, tFor_str, tFor_rng1, tFor_rng2, tComp_list, tComp_tup, tComp_str, tComp_rng1, blkSt, tBM, rAppend, rStarts, rIndex, tIf, tMake, tMeth, sFld, tFld, tRepr, tFmt, jNil, jCons, tJoined, rJoin, rIsx, rIst, tRaise, tTryAs, tTry0, un1, xMeth, xDrop, xSet, xRet, xOf, xSeq, List.getElem?_cons_zero, List.getElem?_cons_succ, Option.some.injEq, V.int.injEq, V.str.injEq, V.bl.injEq, V.ref.injEq, V.ty.injEq, List.cons.injEq, exists_eq_left', exists_eq_left, exists_eq', and_assoc, if_true, if_false, Bool.not_false, Bool.not_true, Bool.not_not, Bool.false_eq_true, exists_and_left, and_true, true_and, List.set_cons_zero, List.set_cons_succ, Option.join_some, false_and, or_false, false_or, exists_false, sp_cellat, sp_nameby, sp_wordrow, sp_toldby, sp_drawn, sp_copy, sp_wrapped, sp_uinit, sp_places, sp_aimby, sp_aims, sp_aim, sp_whole, sp_last, sp_due, sp_alone, sp_refused, sp_holds, Ends.nx, Nat.reduceSub, Nat.reduceAdd, reduceCtorEq]))
      have hp := hP.at_ p (by simp)
      refine ite2 (fun _ => k true H (Same.refl _) (fun h => by cases h)) (fun _ => ⟨_, SqL.of hP.top, V.ref p.t, by rw [List.map_append]; exact atI_last, p.t, rfl, _, SqT.of hp.top, _, rfl, Nat.zero_le _, fun q hq => ?_⟩)
      refine ⟨p.sts.map StM.d, [], .inl ⟨⟨p.ls, _, rfl, SqL.of (same_new hq _ _ hp.sl), RepL.map fun s hs => ((hp.ss s hs).mono (same_new hq)).rep⟩, ⟨q, [], rfl, SqL.of upd_same, by simp [RepL]⟩⟩, Nat.le_trans (depL_le fun p _ => dep_st p) (by decide), _, rfl, k _ _ (same_new hq) fun h e => ?_⟩
      rw [deqL_nil, e] at h
      simp at h
    case wb1 =>
      rintro D σ H ⟨H0, a, L, c, t, v, i, ps, ⟨⟨b7, b8, b9, rfl⟩, sm, hP, hf, hd, hi⟩, hz, k⟩
      ((try dsimp only [tSeq, tAsg, gName, tC, tOp, tUn, tVar, tRet, tIfS, tOr, tAnd, tNot, tTest, tB, tChain, tCB, tCons, tNil, tCall, tSl, tNoPart, tPart, tNext, tDrop, tLst, tTup, tYes, tNotV, tAndV, tOrV, L2.start, List.set, List.map, List.length, List.replicate, List.cons_append, List.nil_append, List.append_nil, cK, bK, rI0, rI, rU, rIxS, rIxL, rIxT, tRetN, rSlL, rIn, rCatT, gTup, gCons, gNil, tRaiseI, tXInit, tDGet, tDGet1, tDGet2, tDIn, tDNotIn, sDPut, tDNewK, rDictOf, rEqDict, rCount, tCompX_list, xCall, sXFld, tXFld, rSlS, rEq, rNe, sc0, sc1, sc2, sc3, sc4, sc5, sc6, sc7, sc8, sc9, sc10, sc11, sc12, sc13, rCatS, rIsi, LenV, rAll, tFor_list, tFor_tup, tFor_str, tFor_rng1, tFor_rng2, tComp_list, tComp_tup, tComp_str, tComp_rng1, blkSt, tBM, rAppend, rStarts, rIndex, tIf, tMake, tMeth, sFld, tFld, tRepr, tFmt, jNil, jCons, tJoined, rJoin, rIsx, rIst, tRaise, tTryAs, tTry0, un1, xMeth, xDrop, xSet, xRet, xOf, xSeq, List.getElem?_cons_zero, List.getElem?_cons_succ, Option.some.injEq, V.int.injEq, V.str.injEq, V.bl.injEq, V.ref.injEq, V.ty.injEq, List.cons.injEq, exists_eq_left', exists_eq_left, exists_eq', and_assoc, if_true, if_false, Bool.not_false, Bool.not_true, Bool.not_not, Bool.false_eq_true, exists_and_left, and_true, true_and, List.set_cons_zero, List.set_cons_succ, Option.join_some, false_and, or_false, false_or, exists_false, sp_cellat, sp_nameby, sp_wordrow, sp_toldby, sp_drawn, sp_copy, sp_wrapped, sp_uinit, sp_places, sp_aimby, sp_aims, sp_aim, sp_whole, sp_last, sp_due, sp_alone, sp_refused, sp_holds, Ends.nx, Nat.reduceSub, Nat.reduceAdd]); (try simp only [tSeq, tAsg, gName, tC, tOp, tUn, tVar, tRet, tIfS, tOr, tAnd, tNot, tTest, tB, tChain, tCB, tCons, tNil, tCall, tSl, tNoPart, tPart, tNext, tDrop, tLst, tTup, tYes, tNotV, tAndV, tOrV, L2.start, List.set, List.map, List.length, List.replicate, List.cons_append, List.nil_append, List.append_nil, cK, bK, rI0, rI, rU, rIxS, rIxL, rIxT, tRetN, rSlL, rIn, rCatT, gTup, gCons, gNil, tRaiseI, tXInit, tDGet, tDGet1, tDGet2, tDIn, tDNotIn, sDPut, tDNewK, rDictOf, rEqDict, rCount, tCompX_list, xCall, sXFld, tXFld, rSlS, rEq, rNe, sc0, sc1, sc2, sc3, sc4, sc5, sc6, sc7, sc8, sc9, sc10, sc11, sc12, sc13, rCatS, rIsi, LenV, rAll, tFor_list, tFor_tup, tFor_str, tFor_rng1, tFor_rng2, tComp_list, tComp_tup, tComp_str, tComp_rng1, blkSt, tBM, rAppend, rStarts, rIndex, tIf, tMake, tMeth, sFld, tFld, tRepr, tFmt, jNil, jCons, tJoined, rJoin, rIsx, rIst, tRaise, tTryAs, tTry0, un1, xMeth, xDrop, xSet, xRet, xOf, xSeq, List.getElem?_cons_zero, List.getElem?_cons_succ, Option.some.injEq, V.int.injEq, V.str.injEq, V.bl.injEq, V.ref.injEq, V.ty.injEq, List.cons.injEq, exists_eq_left', exists_eq_left, exists_eq', and_assoc, if_true, if_false, Bool.not_false, Bool.not_true, Bool.not_not, Bool.false_eq_true, exists_and_left, and_true, true_and, List.set_cons_zero, List.set_cons_succ, Option.join_some, false_and, or_false, false_or, exists_false, sp_cellat, sp_nameby, sp_wordrow, sp_toldby, sp_drawn, sp_copy, sp_wrapped, sp_uinit, sp_places, sp_aimby, sp_aims, sp_aim, sp_whole, sp_last, sp_due, sp_alone, sp_refused, sp_holds, Ends.nx, Nat.reduceSub, Nat.reduceAdd, reduceCtorEq]))
      refine ⟨.inl ⟨rfl, _, SqL.of hP.top⟩, ps.length, .inl ⟨_, SqL.of hP.top, by simp⟩, Nat.zero_le _, fun ls h1 => ⟨Nat.zero_le _, fun ln h2 => ⟨by rw [sizeLine_eq]; decide, fun tt h3 => ?_⟩⟩⟩
      obtain ⟨n2, h2'⟩ := free_of h2
      obtain ⟨n3, h3a⟩ := free_of h3
      obtain ⟨n4, h3'⟩ := free_of h3a
      have s3 := ((same_new (o := HO.lst []) h1).trans (same_new (o := HO.lst []) h2)).trans (same_new (o := HO.tup [V.str (nameOf t (ps.length : Int)), V.ref ls, V.ref ln]) h3)
      refine ⟨_, s3 _ _ hP.top, by rw [List.length_map, sizeLine_eq]; omega, ?_⟩
      have hL0 := hf L List.mem_cons_self
      refine k _ _ _ ⟨_, _, _, _, _, rfl⟩ (same_upd hL0 (sm.trans s3)) ((hP.mono s3).newPiece upd_same (by rw [upd_ne (Ne.symm n4), upd_ne (Ne.symm n2), upd_same]) (by rw [upd_ne (Ne.symm n3), upd_same]) (Ne.symm n2) (hP.fresh h1) (hP.fresh h2')) (fun b hb => ?_) (hd.push hz)
      rw [listsOf_snoc, ← List.cons_append] at hb
      rcases List.mem_append.mp hb with e | e
      · exact hf b e
      · simp [PcM.lists] at e
        rcases e with e | e
        · rw [e]; exact sm.free h1
        · rw [e]; exact sm.free h2'
    case wb2 =>
      rintro D σ H ⟨H0, a, L, c, t, v, i, ps, p, ⟨⟨b7, b8, b9, rfl⟩, sm, hP, hf, hd, hi⟩, k⟩
      ((try dsimp only [tSeq, tAsg, gName, tC, tOp, tUn, tVar, tRet, tIfS, tOr, tAnd, tNot, tTest, tB, tChain, tCB, tCons, tNil, tCall, tSl, tNoPart, tPart, tNext, tDrop, tLst, tTup, tYes, tNotV, tAndV, tOrV, L2.start, List.set, List.map, List.length, List.replicate, List.cons_append, List.nil_append, List.append_nil, cK, bK, rI0, rI, rU, rIxS, rIxL, rIxT, tRetN, rSlL, rIn, rCatT, gTup, gCons, gNil, tRaiseI, tXInit, tDGet, tDGet1, tDGet2, tDIn, tDNotIn, sDPut, tDNewK, rDictOf, rEqDict, rCount, tCompX_list, xCall, sXFld, tXFld, rSlS, rEq, rNe, sc0, sc1, sc2, sc3, sc4, sc5, sc6, sc7, sc8, sc9, sc10, sc11, sc12, sc13, rCatS, rIsi, LenV, rAll, tFor_list, tFor_tup, tFor_str, tFor_rng1, tFor_rng2, tComp_list, tComp_tup, tComp_str, tComp_rng1, blkSt, tBM, rAppend, rStarts, rIndex, tIf, tMake, tMeth, sFld, tFld, tRepr, tFmt, jNil, jCons, tJoined, rJoin, rIsx, rIst, tRaise, tTryAs, tTry0, un1, xMeth, xDrop, xSet, xRet, xOf, xSeq, List.getElem?_cons_zero, List.getElem?_cons_succ, Option.some.injEq, V.int.injEq, V.str.injEq, V.bl.injEq, V.ref.injEq, V.ty.injEq, List.cons.injEq, exists_eq_left', exists_eq_left, exists_eq', and_assoc, if_true, if_false, Bool.not_false, Bool.not_true, Bool.not_not, Bool.false_eq_true, exists_and_left, and_true, true_and, List.set_cons_zero, List.set_cons_succ, Option.join_some, false_and, or_false, false_or, exists_false, sp_cellat, sp_nameby, sp_wordrow, sp_toldby, sp_drawn, sp_copy, sp_wrapped, sp_uinit, sp_places, sp_aimby, sp_aims, sp_aim, sp_whole, sp_last, sp_due, sp_alone, sp_refused, sp_holds, Ends.nx, Nat.reduceSub, Nat.reduceAdd]); (try simp only [tSeq, tAsg, gName, tC, tOp, tUn, tVar, tRet, tIfS, tOr, tAnd, tNot, tTest, tB, tChain, tCB, tCons, tNil, tCall, tSl, tNoPart, tPart, tNext, tDrop, tLst, tTup, tYes, tNotV, tAndV, tOrV, L2.start, List.set, List.map, List.length, List.replicate, List.cons_append, List.nil_append, List.append_nil, cK, bK, rI0, rI, rU, rIxS, rIxL, rIxT, tRetN, rSlL, rIn, rCatT, gTup, gCons, gNil, tRaiseI, tXInit, tDGet, tDGet1, tDGet2, tDIn, tDNotIn, sDPut, tDNewK, rDictOf, rEqDict, rCount, tCompX_list, xCall, sXFld, tXFld, rSlS, rEq, rNe, sc0, sc1, sc2, sc3, sc4, sc5, sc6, sc7, sc8, sc9, sc10, sc11, sc12, sc13, rCatS, rIsi, LenV, rAll, tFor_list, tFor_tup, tFor_str, tFor_rng1, tFor_rng2, tComp_list, tComp_tup, tComp_str, tComp_rng1, blkSt, tBM, rAppend, rStarts, rIndex, tIf, tMake, tMeth, sFld, tFld, tRepr, tFmt, jNil, jCons, tJoined, rJoin, rIsx, rIst, tRaise, tTryAs, tTry0, un1, xMeth, xDrop, xSet, xRet, xOf, xSeq, List.getElem?_cons_zero, List.getElem?_cons_succ, Option.some.injEq, V.int.injEq, V.str.injEq, V.bl.injEq, V.ref.injEq, V.ty.injEq, List.cons.injEq, exists_eq_left', exists_eq_left, exists_eq', and_assoc, if_true, if_false, Bool.not_false, Bool.not_true, Bool.not_not, Bool.false_eq_true, exists_and_left, and_true, true_and, List.set_cons_zero, List.set_cons_succ, Option.join_some, false_and, or_false, false_or, exists_false, sp_cellat, sp_nameby, sp_wordrow, sp_toldby, sp_drawn, sp_copy, sp_wrapped, sp_uinit, sp_places, sp_aimby, sp_aims, sp_aim, sp_whole, sp_last, sp_due, sp_alone, sp_refused, sp_holds, Ends.nx, Nat.reduceSub, Nat.reduceAdd, reduceCtorEq]))
      have hp := hP.at_ p (by simp)
      have hsz := hd.lastSize
      obtain ⟨z, hz, hz'⟩ := step_at (v := v / 9)
      obtain ⟨kd, hk, hk'⟩ := kind_at (v := v / 54)
      refine ⟨by rw [sizeLine_eq]; decide, fun q1 h1 => ⟨⟨by decide, by decide⟩, by decide, _, SqL.of upd_same, _, hz, _, SqL.of (same_new h1 _ _ hP.top), V.ref p.t, by rw [List.map_append]; exact atI_last, p.t, rfl, _, SqT.of (same_new h1 _ _ hp.top), _, rfl, .inl ⟨rfl, _, SqL.of (same_new h1 _ _ hp.sl)⟩, by rw [sizeLine_eq]; decide, fun q2 h2 => ⟨⟨by decide, by decide⟩, by decide, _, SqL.of upd_same, _, hk, Nat.zero_le _, fun lw h3 => ⟨Nat.zero_le _, fun lf h4 => ⟨by rw [sizeLine_eq]; decide, fun tt h5 => ⟨p.ls, rfl, ?_⟩⟩⟩⟩⟩⟩
      have s2 := (same_new (o := HO.lst [V.int 1, V.int 1, V.int 2, V.int 4, V.int 16, V.int 65536]) h1).trans (same_new (o := HO.lst [V.str (Str.ofString "code"), V.str (Str.ofString "data")]) h2)
      generalize upd (upd H q1 (HO.lst [V.int 1, V.int 1, V.int 2, V.int 4, V.int 16, V.int 65536])) q2 (HO.lst [V.str (Str.ofString "code"), V.str (Str.ofString "data")]) = H2 at *
      obtain ⟨n4, h4'⟩ := free_of h4
      obtain ⟨n5, h5a⟩ := free_of h5
      obtain ⟨n6, h5'⟩ := free_of h5a
      have sA := s2.trans (((same_new (o := HO.lst []) h3).trans (same_new (o := HO.lst []) h4)).trans (same_new (o := HO.tup [V.str kd, V.int z, V.ref lw, V.ref lf]) h5))
      refine ⟨_, sA _ _ hp.sl, by rw [List.length_map, sizeLine_eq]; unfold PcM.size at hsz; omega, ?_⟩
      have mem : ∀ b ∈ p.lists, b ∈ L :: listsOf (ps ++ [p]) := fun b hb => List.mem_cons_of_mem _ (by rw [listsOf_snoc]; exact List.mem_append_right _ hb)
      refine k _ _ _ ⟨_, _, _, _, _, rfl⟩ (same_upd (hf p.ls (mem _ (by simp [PcM.lists]))) (sm.trans sA)) ((hP.mono sA).newStretch upd_same (by rw [upd_ne (Ne.symm n6), upd_ne (Ne.symm n4), upd_same]) (by rw [upd_ne (Ne.symm n5), upd_same]) (Ne.symm n4) ((hP.mono s2).fresh h3) ((hP.mono s2).fresh h4')) (fun b hb => ?_) (hd.last ((hd.ok p (by simp)).stretch ⟨hk', hz', by simp, by simp, by simp, by simp⟩) rfl ?_)
      · have hb' : b ∈ L :: listsOf (ps ++ [p]) ∨ b = lw ∨ b = lf := by
          rw [listsOf_snoc] at hb ⊢
          simp only [PcM.lists, List.flatMap_append, List.mem_cons, List.mem_append, List.flatMap_cons, List.flatMap_nil, StM.lists, List.append_nil, List.not_mem_nil, or_false] at hb ⊢
          grind
        rcases hb' with e | e | e
        · exact hf b e
        · rw [e]; exact (sm.trans s2).free h3
        · rw [e]; exact (sm.trans s2).free h4'
      · unfold PcM.size
        simp
        omega
    case wb3 =>
      rintro D σ H ⟨H0, a, L, c, t, v, i, ps, p, ss, s, ⟨⟨b7, b8, b9, rfl⟩, sm, hP, hf, hd, hi⟩, hs, k⟩
      ((try dsimp only [tSeq, tAsg, gName, tC, tOp, tUn, tVar, tRet, tIfS, tOr, tAnd, tNot, tTest, tB, tChain, tCB, tCons, tNil, tCall, tSl, tNoPart, tPart, tNext, tDrop, tLst, tTup, tYes, tNotV, tAndV, tOrV, L2.start, List.set, List.map, List.length, List.replicate, List.cons_append, List.nil_append, List.append_nil, cK, bK, rI0, rI, rU, rIxS, rIxL, rIxT, tRetN, rSlL, rIn, rCatT, gTup, gCons, gNil, tRaiseI, tXInit, tDGet, tDGet1, tDGet2, tDIn, tDNotIn, sDPut, tDNewK, rDictOf, rEqDict, rCount, tCompX_list, xCall, sXFld, tXFld, rSlS, rEq, rNe, sc0, sc1, sc2, sc3, sc4, sc5, sc6, sc7, sc8, sc9, sc10, sc11, sc12, sc13, rCatS, rIsi, LenV, rAll, tFor_list, tFor_tup, tFor_str, tFor_rng1, tFor_rng2, tComp_list, tComp_tup, tComp_str, tComp_rng1, blkSt, tBM, rAppend, rStarts, rIndex, tIf, tMake, tMeth, sFld, tFld, tRepr, tFmt, jNil, jCons, tJoined, rJoin, rIsx, rIst, tRaise, tTryAs, tTry0, un1, xMeth, xDrop, xSet, xRet, xOf, xSeq, List.getElem?_cons_zero, List.getElem?_cons_succ, Option.some.injEq, V.int.injEq, V.str.injEq, V.bl.injEq, V.ref.injEq, V.ty.injEq, List.cons.injEq, exists_eq_left', exists_eq_left, exists_eq', and_assoc, if_true, if_false, Bool.not_false, Bool.not_true, Bool.not_not, Bool.false_eq_true, exists_and_left, and_true, true_and, List.set_cons_zero, List.set_cons_succ, Option.join_some, false_and, or_false, false_or, exists_false, sp_cellat, sp_nameby, sp_wordrow, sp_toldby, sp_drawn, sp_copy, sp_wrapped, sp_uinit, sp_places, sp_aimby, sp_aims, sp_aim, sp_whole, sp_last, sp_due, sp_alone, sp_refused, sp_holds, Ends.nx, Nat.reduceSub, Nat.reduceAdd]); (try simp only [tSeq, tAsg, gName, tC, tOp, tUn, tVar, tRet, tIfS, tOr, tAnd, tNot, tTest, tB, tChain, tCB, tCons, tNil, tCall, tSl, tNoPart, tPart, tNext, tDrop, tLst, tTup, tYes, tNotV, tAndV, tOrV, L2.start, List.set, List.map, List.length, List.replicate, List.cons_append, List.nil_append, List.append_nil, cK, bK, rI0, rI, rU, rIxS, rIxL, rIxT, tRetN, rSlL, rIn, rCatT, gTup, gCons, gNil, tRaiseI, tXInit, tDGet, tDGet1, tDGet2, tDIn, tDNotIn, sDPut, tDNewK, rDictOf, rEqDict, rCount, tCompX_list, xCall, sXFld, tXFld, rSlS, rEq, rNe, sc0, sc1, sc2, sc3, sc4, sc5, sc6, sc7, sc8, sc9, sc10, sc11, sc12, sc13, rCatS, rIsi, LenV, rAll, tFor_list, tFor_tup, tFor_str, tFor_rng1, tFor_rng2, tComp_list, tComp_tup, tComp_str, tComp_rng1, blkSt, tBM, rAppend, rStarts, rIndex, tIf, tMake, tMeth, sFld, tFld, tRepr, tFmt, jNil, jCons, tJoined, rJoin, rIsx, rIst, tRaise, tTryAs, tTry0, un1, xMeth, xDrop, xSet, xRet, xOf, xSeq, List.getElem?_cons_zero, List.getElem?_cons_succ, Option.some.injEq, V.int.injEq, V.str.injEq, V.bl.injEq, V.ref.injEq, V.ty.injEq, List.cons.injEq, exists_eq_left', exists_eq_left, exists_eq', and_assoc, if_true, if_false, Bool.not_false, Bool.not_true, Bool.not_not, Bool.false_eq_true, exists_and_left, and_true, true_and, List.set_cons_zero, List.set_cons_succ, Option.join_some, false_and, or_false, false_or, exists_false, sp_cellat, sp_nameby, sp_wordrow, sp_toldby, sp_drawn, sp_copy, sp_wrapped, sp_uinit, sp_places, sp_aimby, sp_aims, sp_aim, sp_whole, sp_last, sp_due, sp_alone, sp_refused, sp_holds, Ends.nx, Nat.reduceSub, Nat.reduceAdd, reduceCtorEq]))
      have hp := hP.at_ p (by simp)
      have hsz := hd.lastSize
      have hs' := hp.ss s (by rw [hs]; simp)
      have hw := size_last hs
      have mem : ∀ b ∈ p.lists, b ∈ L :: listsOf (ps ++ [p]) := fun b hb => List.mem_cons_of_mem _ (by rw [listsOf_snoc]; exact List.mem_append_right _ hb)
      refine ⟨_, SqL.of hP.top, V.ref p.t, by rw [List.map_append]; exact atI_last, p.t, rfl, _, SqT.of hp.top, _, rfl, p.ls, rfl, _, SqL.of hp.sl, s.v, by rw [hs, List.map_append]; exact atI_last, fun H' s1 => ⟨?_, fun f hf1 hf2 hf3 => ?_⟩⟩
      · rw [if_neg (by simp)]
        refine ⟨s.t, rfl, _, SqT.of (s1 _ _ hs'.top), _, rfl, .inl ⟨rfl, _, SqL.of (s1 _ _ hs'.wd)⟩, .inr ⟨by decide, by decide⟩, by decide, s.lw, rfl, _, s1 _ _ hs'.wd, by rw [List.length_map, sizeLine_eq]; omega, ?_⟩
        refine k _ _ _ ⟨_, _, _, _, _, rfl⟩ (same_upd (hf _ (mem _ (by simp [PcM.lists, hs, StM.lists]))) (sm.trans s1)) ((hP.mono s1).newWord hs) (fun b hb => hf b ?_) (hd.last (PcOk.lastSt (hd.ok p (by simp)) hs (((hd.ok p (by simp)).sts s (by rw [hs]; simp)).word (by omega) (by omega)) (by simp)) rfl (size_st hs (by simp)))
        rw [listsOf_snoc] at hb ⊢
        simpa [PcM.lists, hs, StM.lists] using hb
      · rw [if_pos (by simp)]
        refine ⟨s.t, rfl, _, SqT.of (s1 _ _ hs'.top), _, rfl, .inl ⟨rfl, _, SqL.of (s1 _ _ hs'.fl)⟩, s.t, rfl, _, SqT.of (s1 _ _ hs'.top), _, rfl, s.words.length, .inl ⟨_, SqL.of (s1 _ _ hs'.wd), by simp⟩, by rw [sizeLine_eq]; decide, fun q1 h1 => ⟨_, SqT.of upd_same, _, SqT.of (same_new h1 _ _ hf2), by simp, by rw [sizeLine_eq]; simp, fun e => (by cases e), fun _ q2 h2 => ⟨s.lf, rfl, ?_⟩⟩⟩
        have s3 := s1.trans ((same_new (o := HO.tup [V.int (s.words.length : Int)]) h1).trans (same_new (o := HO.tup ([V.int (s.words.length : Int)] ++ [V.str f.rule, V.str f.name, V.int f.add, V.bl f.soft])) h2))
        have hat : FillM.At (upd (upd H' q1 (HO.tup [V.int (s.words.length : Int)])) q2 (HO.tup ([V.int (s.words.length : Int)] ++ [V.str f.rule, V.str f.name, V.int f.add, V.bl f.soft]))) ⟨q2, s.words.length, f.rule, f.name, f.add, f.soft⟩ := upd_same
        generalize upd (upd H' q1 (HO.tup [V.int (s.words.length : Int)])) q2 (HO.tup ([V.int (s.words.length : Int)] ++ [V.str f.rule, V.str f.name, V.int f.add, V.bl f.soft])) = H3 at *
        have P1 := (hP.mono s3).newFill hs hat
        have ok := PcOk.lastSt (p := p) (s' := { s with fills := s.fills ++ [⟨q2, s.words.length, f.rule, f.name, f.add, f.soft⟩], words := s.words ++ [v * 48271 % 4294967296] }) (hd.ok p (by simp)) hs (StOk.fill ((hd.ok p (by simp)).sts s (by rw [hs]; simp)) (f := ⟨q2, s.words.length, f.rule, f.name, f.add, f.soft⟩) ⟨hf1.rule, hf1.name, hf1.lo, hf1.hi, hf1.addlo, hf1.addhi, hf1.soft⟩ rfl (by omega) (by omega)) (by simp)
        have sz := size_st (p := p) (s' := { s with fills := s.fills ++ [⟨q2, s.words.length, f.rule, f.name, f.add, f.soft⟩], words := s.words ++ [v * 48271 % 4294967296] }) hs (by simp)
        have a1 := (P1.at_ _ (List.mem_append_right _ (List.mem_singleton.mpr rfl))).ss _ (List.mem_append_right _ (List.mem_singleton.mpr rfl))
        refine ⟨_, s3 _ _ hs'.fl, by rw [List.length_map, sizeLine_eq]; have := ((hd.ok p (by simp)).sts s (by rw [hs]; simp)).few; omega, s.t, rfl, _, SqT.of a1.top, _, rfl, .inl ⟨rfl, _, SqL.of a1.wd⟩, .inr ⟨by decide, by decide⟩, by decide, s.lw, rfl, _, a1.wd, by rw [List.length_map, sizeLine_eq]; show s.words.length < _; omega, ?_⟩
        have P2 := P1.newWord (i := v * 48271 % 4294967296) rfl
        refine k (ps ++ [({ p with sts := ss ++ [{ s with fills := s.fills ++ [⟨q2, s.words.length, f.rule, f.name, f.add, f.soft⟩], words := s.words ++ [v * 48271 % 4294967296] }] } : PcM)]) _ _ ⟨_, _, _, _, _, rfl⟩ (same_upd (hf _ (mem _ (by simp [PcM.lists, hs, StM.lists]))) (same_upd (hf _ (mem _ (by simp [PcM.lists, hs, StM.lists]))) (sm.trans s3))) (by exact P2) (fun b hb => hf b ?_) (hd.last ok rfl sz)
        rw [listsOf_snoc] at hb ⊢
        simpa [PcM.lists, hs, StM.lists] using hb
    case wb4 =>
      rintro D σ H ⟨H0, a, L, c, t, v, i, ps, p, ss, s, ⟨⟨b7, b8, b9, rfl⟩, sm, hP, hf, hd, hi⟩, hs, k⟩
      ((try dsimp only [tSeq, tAsg, gName, tC, tOp, tUn, tVar, tRet, tIfS, tOr, tAnd, tNot, tTest, tB, tChain, tCB, tCons, tNil, tCall, tSl, tNoPart, tPart, tNext, tDrop, tLst, tTup, tYes, tNotV, tAndV, tOrV, L2.start, List.set, List.map, List.length, List.replicate, List.cons_append, List.nil_append, List.append_nil, cK, bK, rI0, rI, rU, rIxS, rIxL, rIxT, tRetN, rSlL, rIn, rCatT, gTup, gCons, gNil, tRaiseI, tXInit, tDGet, tDGet1, tDGet2, tDIn, tDNotIn, sDPut, tDNewK, rDictOf, rEqDict, rCount, tCompX_list, xCall, sXFld, tXFld, rSlS, rEq, rNe, sc0, sc1, sc2, sc3, sc4, sc5, sc6, sc7, sc8, sc9, sc10, sc11, sc12, sc13, rCatS, rIsi, LenV, rAll, tFor_list, tFor_tup, tFor_str, tFor_rng1, tFor_rng2, tComp_list, tComp_tup, tComp_str, tComp_rng1, blkSt, tBM, rAppend, rStarts, rIndex, tIf, tMake, tMeth, sFld, tFld, tRepr, tFmt, jNil, jCons, tJoined, rJoin, rIsx, rIst, tRaise, tTryAs, tTry0, un1, xMeth, xDrop, xSet, xRet, xOf, xSeq, List.getElem?_cons_zero, List.getElem?_cons_succ, Option.some.injEq, V.int.injEq, V.str.injEq, V.bl.injEq, V.ref.injEq, V.ty.injEq, List.cons.injEq, exists_eq_left', exists_eq_left, exists_eq', and_assoc, if_true, if_false, Bool.not_false, Bool.not_true, Bool.not_not, Bool.false_eq_true, exists_and_left, and_true, true_and, List.set_cons_zero, List.set_cons_succ, Option.join_some, false_and, or_false, false_or, exists_false, sp_cellat, sp_nameby, sp_wordrow, sp_toldby, sp_drawn, sp_copy, sp_wrapped, sp_uinit, sp_places, sp_aimby, sp_aims, sp_aim, sp_whole, sp_last, sp_due, sp_alone, sp_refused, sp_holds, Ends.nx, Nat.reduceSub, Nat.reduceAdd]); (try simp only [tSeq, tAsg, gName, tC, tOp, tUn, tVar, tRet, tIfS, tOr, tAnd, tNot, tTest, tB, tChain, tCB, tCons, tNil, tCall, tSl, tNoPart, tPart, tNext, tDrop, tLst, tTup, tYes, tNotV, tAndV, tOrV, L2.start, List.set, List.map, List.length, List.replicate, List.cons_append, List.nil_append, List.append_nil, cK, bK, rI0, rI, rU, rIxS, rIxL, rIxT, tRetN, rSlL, rIn, rCatT, gTup, gCons, gNil, tRaiseI, tXInit, tDGet, tDGet1, tDGet2, tDIn, tDNotIn, sDPut, tDNewK, rDictOf, rEqDict, rCount, tCompX_list, xCall, sXFld, tXFld, rSlS, rEq, rNe, sc0, sc1, sc2, sc3, sc4, sc5, sc6, sc7, sc8, sc9, sc10, sc11, sc12, sc13, rCatS, rIsi, LenV, rAll, tFor_list, tFor_tup, tFor_str, tFor_rng1, tFor_rng2, tComp_list, tComp_tup, tComp_str, tComp_rng1, blkSt, tBM, rAppend, rStarts, rIndex, tIf, tMake, tMeth, sFld, tFld, tRepr, tFmt, jNil, jCons, tJoined, rJoin, rIsx, rIst, tRaise, tTryAs, tTry0, un1, xMeth, xDrop, xSet, xRet, xOf, xSeq, List.getElem?_cons_zero, List.getElem?_cons_succ, Option.some.injEq, V.int.injEq, V.str.injEq, V.bl.injEq, V.ref.injEq, V.ty.injEq, List.cons.injEq, exists_eq_left', exists_eq_left, exists_eq', and_assoc, if_true, if_false, Bool.not_false, Bool.not_true, Bool.not_not, Bool.false_eq_true, exists_and_left, and_true, true_and, List.set_cons_zero, List.set_cons_succ, Option.join_some, false_and, or_false, false_or, exists_false, sp_cellat, sp_nameby, sp_wordrow, sp_toldby, sp_drawn, sp_copy, sp_wrapped, sp_uinit, sp_places, sp_aimby, sp_aims, sp_aim, sp_whole, sp_last, sp_due, sp_alone, sp_refused, sp_holds, Ends.nx, Nat.reduceSub, Nat.reduceAdd, reduceCtorEq]))
      have hsz := hd.lastSize
      have hw := size_last hs
      have hfew := hd.few
      have mem : ∀ b ∈ p.lists, b ∈ L :: listsOf (ps ++ [p]) := fun b hb => List.mem_cons_of_mem _ (by rw [listsOf_snoc]; exact List.mem_append_right _ hb)
      refine ⟨ps, p, hP, ss, s, hs, by simp at hfew; omega, by omega, by omega, by omega, fun H' s1 => k _ _ _ ⟨_, _, _, _, _, rfl⟩ (sm.trans s1) (hP.mono s1) hf hd.keep, fun m H' s1 hm hn hne hso hst hoff => ?_⟩
      refine k _ _ _ ⟨_, _, _, _, _, rfl⟩ (same_upd (hf _ (mem _ (by simp [PcM.lists]))) (sm.trans s1)) ((hP.mono s1).newTold hm) (fun b hb => hf b ?_) (hd.last ((hd.ok p (by simp)).told ⟨hn, hso, ss.length, s, by rw [hs]; simp, hst, by omega, by omega⟩ hne) rfl ?_)
      · rw [listsOf_snoc] at hb ⊢
        exact hb
      · unfold PcM.size
        simp
        omega
    case main =>
    ((try dsimp only [tSeq, tAsg, gName, tC, tOp, tUn, tVar, tRet, tIfS, tOr, tAnd, tNot, tTest, tB, tChain, tCB, tCons, tNil, tCall, tSl, tNoPart, tPart, tNext, tDrop, tLst, tTup, tYes, tNotV, tAndV, tOrV, L2.start, List.set, List.map, List.length, List.replicate, List.cons_append, List.nil_append, List.append_nil, cK, bK, rI0, rI, rU, rIxS, rIxL, rIxT, tRetN, rSlL, rIn, rCatT, gTup, gCons, gNil, tRaiseI, tXInit, tDGet, tDGet1, tDGet2, tDIn, tDNotIn, sDPut, tDNewK, rDictOf, rEqDict, rCount, tCompX_list, xCall, sXFld, tXFld, rSlS, rEq, rNe, sc0, sc1, sc2, sc3, sc4, sc5, sc6, sc7, sc8, sc9, sc10, sc11, sc12, sc13, rCatS, rIsi, LenV, rAll, tFor_list, tFor_tup, tFor_str, tFor_rng1, tFor_rng2, tComp_list, tComp_tup, tComp_str, tComp_rng1, blkSt, tBM, rAppend, rStarts, rIndex, tIf, tMake, tMeth, sFld, tFld, tRepr, tFmt, jNil, jCons, tJoined, rJoin, rIsx, rIst, tRaise, tTryAs, tTry0, un1, xMeth, xDrop, xSet, xRet, xOf, xSeq, List.getElem?_cons_zero, List.getElem?_cons_succ, Option.some.injEq, V.int.injEq, V.str.injEq, V.bl.injEq, V.ref.injEq, V.ty.injEq, List.cons.injEq, exists_eq_left', exists_eq_left, exists_eq', and_assoc, if_true, if_false, Bool.not_false, Bool.not_true, Bool.not_not, Bool.false_eq_true, exists_and_left, and_true, true_and, List.set_cons_zero, List.set_cons_succ, Option.join_some, false_and, or_false, false_or, exists_false, sp_cellat, sp_nameby, sp_wordrow, sp_toldby, sp_drawn, sp_copy, sp_wrapped, sp_uinit, sp_places, sp_aimby, sp_aims, sp_aim, sp_whole, sp_last, sp_due, sp_alone, sp_refused, sp_holds, Ends.nx, Nat.reduceSub, Nat.reduceAdd]); (try simp only [tSeq, tAsg, gName, tC, tOp, tUn, tVar, tRet, tIfS, tOr, tAnd, tNot, tTest, tB, tChain, tCB, tCons, tNil, tCall, tSl, tNoPart, tPart, tNext, tDrop, tLst, tTup, tYes, tNotV, tAndV, tOrV, L2.start, List.set, List.map, List.length, List.replicate, List.cons_append, List.nil_append, List.append_nil, cK, bK, rI0, rI, rU, rIxS, rIxL, rIxT, tRetN, rSlL, rIn, rCatT, gTup, gCons, gNil, tRaiseI, tXInit, tDGet, tDGet1, tDGet2, tDIn, tDNotIn, sDPut, tDNewK, rDictOf, rEqDict, rCount, tCompX_list, xCall, sXFld, tXFld, rSlS, rEq, rNe, sc0, sc1, sc2, sc3, sc4, sc5, sc6, sc7, sc8, sc9, sc10, sc11, sc12, sc13, rCatS, rIsi, LenV, rAll, tFor_list, tFor_tup, tFor_str, tFor_rng1, tFor_rng2, tComp_list, tComp_tup, tComp_str, tComp_rng1, blkSt, tBM, rAppend, rStarts, rIndex, tIf, tMake, tMeth, sFld, tFld, tRepr, tFmt, jNil, jCons, tJoined, rJoin, rIsx, rIst, tRaise, tTryAs, tTry0, un1, xMeth, xDrop, xSet, xRet, xOf, xSeq, List.getElem?_cons_zero, List.getElem?_cons_succ, Option.some.injEq, V.int.injEq, V.str.injEq, V.bl.injEq, V.ref.injEq, V.ty.injEq, List.cons.injEq, exists_eq_left', exists_eq_left, exists_eq', and_assoc, if_true, if_false, Bool.not_false, Bool.not_true, Bool.not_not, Bool.false_eq_true, exists_and_left, and_true, true_and, List.set_cons_zero, List.set_cons_succ, Option.join_some, false_and, or_false, false_or, exists_false, sp_cellat, sp_nameby, sp_wordrow, sp_toldby, sp_drawn, sp_copy, sp_wrapped, sp_uinit, sp_places, sp_aimby, sp_aims, sp_aim, sp_whole, sp_last, sp_due, sp_alone, sp_refused, sp_holds, Ends.nx, Nat.reduceSub, Nat.reduceAdd, reduceCtorEq]))
    refine ⟨by rw [sizeLine_eq]; decide, fun L hL => ?_⟩
    refine ForL.of (xs := ns.map V.int) (fun i σ H' => ∃ ps b5 b6 b7 b8 b9, σ = [some (V.ref a), some (V.int c), some (V.int t), some (V.bl true), some (V.ref L), b5, b6, b7, b8, b9] ∧ Same H H' ∧ Pcs H' L ps ∧ (∀ b ∈ L :: listsOf ps, H b = none) ∧ Drawn c t i ps)
      ⟨[], _, _, _, _, _, rfl, same_new hL, Pcs.nil upd_same, by simpa [listsOf] using hL, ⟨by simp, by simp, rfl, by simp⟩⟩ (fun i σ H' _ ⟨_, _, _, _, _, _, _, sm, _⟩ => sm.seq hS) ?_ ?_
    · rintro i x σ H' hx ⟨ps, b5, b6, b7, b8, b9, rfl, sm, hP, hf, hd⟩
      rw [List.getElem?_map] at hx
      obtain ⟨v, hv, rfl⟩ := Option.map_eq_some_iff.mp hx
      have hi : i < 61 := Nat.lt_of_lt_of_le (List.getElem?_eq_some_iff.mp hv).1 hl
      ((try dsimp only [tSeq, tAsg, gName, tC, tOp, tUn, tVar, tRet, tIfS, tOr, tAnd, tNot, tTest, tB, tChain, tCB, tCons, tNil, tCall, tSl, tNoPart, tPart, tNext, tDrop, tLst, tTup, tYes, tNotV, tAndV, tOrV, L2.start, List.set, List.map, List.length, List.replicate, List.cons_append, List.nil_append, List.append_nil, cK, bK, rI0, rI, rU, rIxS, rIxL, rIxT, tRetN, rSlL, rIn, rCatT, gTup, gCons, gNil, tRaiseI, tXInit, tDGet, tDGet1, tDGet2, tDIn, tDNotIn, sDPut, tDNewK, rDictOf, rEqDict, rCount, tCompX_list, xCall, sXFld, tXFld, rSlS, rEq, rNe, sc0, sc1, sc2, sc3, sc4, sc5, sc6, sc7, sc8, sc9, sc10, sc11, sc12, sc13, rCatS, rIsi, LenV, rAll, tFor_list, tFor_tup, tFor_str, tFor_rng1, tFor_rng2, tComp_list, tComp_tup, tComp_str, tComp_rng1, blkSt, tBM, rAppend, rStarts, rIndex, tIf, tMake, tMeth, sFld, tFld, tRepr, tFmt, jNil, jCons, tJoined, rJoin, rIsx, rIst, tRaise, tTryAs, tTry0, un1, xMeth, xDrop, xSet, xRet, xOf, xSeq, List.getElem?_cons_zero, List.getElem?_cons_succ, Option.some.injEq, V.int.injEq, V.str.injEq, V.bl.injEq, V.ref.injEq, V.ty.injEq, List.cons.injEq, exists_eq_left', exists_eq_left, exists_eq', and_assoc, if_true, if_false, Bool.not_false, Bool.not_true, Bool.not_not, Bool.false_eq_true, exists_and_left, and_true, true_and, List.set_cons_zero, List.set_cons_succ, Option.join_some, false_and, or_false, false_or, exists_false, sp_cellat, sp_nameby, sp_wordrow, sp_toldby, sp_drawn, sp_copy, sp_wrapped, sp_uinit, sp_places, sp_aimby, sp_aims, sp_aim, sp_whole, sp_last, sp_due, sp_alone, sp_refused, sp_holds, Ends.nx, Nat.reduceSub, Nat.reduceAdd]); (try simp only [tSeq, tAsg, gName, tC, tOp, tUn, tVar, tRet, tIfS, tOr, tAnd, tNot, tTest, tB, tChain, tCB, tCons, tNil, tCall, tSl, tNoPart, tPart, tNext, tDrop, tLst, tTup, tYes, tNotV, tAndV, tOrV, L2.start, List.set, List.map, List.length, List.replicate, List.cons_append, List.nil_append, List.append_nil, cK, bK, rI0, rI, rU, rIxS, rIxL, rIxT, tRetN, rSlL, rIn, rCatT, gTup, gCons, gNil, tRaiseI, tXInit, tDGet, tDGet1, tDGet2, tDIn, tDNotIn, sDPut, tDNewK, rDictOf, rEqDict, rCount, tCompX_list, xCall, sXFld, tXFld, rSlS, rEq, rNe, sc0, sc1, sc2, sc3, sc4, sc5, sc6, sc7, sc8, sc9, sc10, sc11, sc12, sc13, rCatS, rIsi, LenV, rAll, tFor_list, tFor_tup, tFor_str, tFor_rng1, tFor_rng2, tComp_list, tComp_tup, tComp_str, tComp_rng1, blkSt, tBM, rAppend, rStarts, rIndex, tIf, tMake, tMeth, sFld, tFld, tRepr, tFmt, jNil, jCons, tJoined, rJoin, rIsx, rIst, tRaise, tTryAs, tTry0, un1, xMeth, xDrop, xSet, xRet, xOf, xSeq, List.getElem?_cons_zero, List.getElem?_cons_succ, Option.some.injEq, V.int.injEq, V.str.injEq, V.bl.injEq, V.ref.injEq, V.ty.injEq, List.cons.injEq, exists_eq_left', exists_eq_left, exists_eq', and_assoc, if_true, if_false, Bool.not_false, Bool.not_true, Bool.not_not, Bool.false_eq_true, exists_and_left, and_true, true_and, List.set_cons_zero, List.set_cons_succ, Option.join_some, false_and, or_false, false_or, exists_false, sp_cellat, sp_nameby, sp_wordrow, sp_toldby, sp_drawn, sp_copy, sp_wrapped, sp_uinit, sp_places, sp_aimby, sp_aims, sp_aim, sp_whole, sp_last, sp_due, sp_alone, sp_refused, sp_holds, Ends.nx, Nat.reduceSub, Nat.reduceAdd, reduceCtorEq]))
      have dc : DC H a L c t v i ps [some (V.ref a), some (V.int c), some (V.int t), some (V.bl true), some (V.ref L), some (V.int v), some (V.int (v % 9)), b7, b8, b9] H' := ⟨⟨_, _, _, rfl⟩, sm, hP, hf, hd, hi⟩
      refine ⟨by decide, H, a, L, c, t, v, i, ps, dc, fun b H1 s1 ht hn => ?_⟩
      cases b with
      | true => exact ⟨H, a, L, c, t, v, i, ps, dc.mono s1, ht rfl, fun ps' σ' H'' ⟨b5, b6, b7, b8, b9, e⟩ s1 s2 s3 s4 => ⟨ps', b5, b6, b7, b8, b9, e, s1, s2, s3, s4⟩⟩
      | false =>
        obtain ⟨ps0, p, e⟩ : ∃ ps0 p, ps = ps0 ++ [p] := by
          rcases List.eq_nil_or_concat ps with e | ⟨l, x, e⟩
          · exact absurd e (hn rfl)
          · exact ⟨l, x, by rw [e, List.concat_eq_append]⟩
        subst e
        refine ⟨H, a, L, c, t, v, i, ps0, p, dc.mono s1, fun b H2 s2 hn2 => ?_⟩
        cases b with
        | true => exact ⟨H, a, L, c, t, v, i, ps0, p, (dc.mono s1).mono s2, fun ps' σ' H'' ⟨b5, b6, b7, b8, b9, e⟩ s1 s2 s3 s4 => ⟨ps', b5, b6, b7, b8, b9, e, s1, s2, s3, s4⟩⟩
        | false =>
          obtain ⟨ss, r, e⟩ : ∃ ss r, p.sts = ss ++ [r] := by
            rcases List.eq_nil_or_concat p.sts with e | ⟨l, x, e⟩
            · exact absurd e (hn2 rfl)
            · exact ⟨l, x, by rw [e, List.concat_eq_append]⟩
          by_cases h6 : v % 9 < 6
          · rw [if_neg (by decide), if_pos (decide_eq_true h6)]
            exact ⟨H, a, L, c, t, v, i, ps0, p, ss, r, (dc.mono s1).mono s2, e, fun ps' σ' H'' ⟨b5, b6, b7, b8, b9, e⟩ s1 s2 s3 s4 => ⟨ps', b5, b6, b7, b8, b9, e, s1, s2, s3, s4⟩⟩
          · rw [if_neg (by decide), if_neg (by simpa using h6)]
            exact ⟨H, a, L, c, t, v, i, ps0, p, ss, r, (dc.mono s1).mono s2, e, fun ps' σ' H'' ⟨b5, b6, b7, b8, b9, e⟩ s1 s2 s3 s4 => ⟨ps', b5, b6, b7, b8, b9, e, s1, s2, s3, s4⟩⟩
    · rintro σ H' ⟨ps, b5, b6, b7, b8, b9, rfl, sm, hP, hf, hd⟩
      rw [List.length_map] at hd
      ((try dsimp only [tSeq, tAsg, gName, tC, tOp, tUn, tVar, tRet, tIfS, tOr, tAnd, tNot, tTest, tB, tChain, tCB, tCons, tNil, tCall, tSl, tNoPart, tPart, tNext, tDrop, tLst, tTup, tYes, tNotV, tAndV, tOrV, L2.start, List.set, List.map, List.length, List.replicate, List.cons_append, List.nil_append, List.append_nil, cK, bK, rI0, rI, rU, rIxS, rIxL, rIxT, tRetN, rSlL, rIn, rCatT, gTup, gCons, gNil, tRaiseI, tXInit, tDGet, tDGet1, tDGet2, tDIn, tDNotIn, sDPut, tDNewK, rDictOf, rEqDict, rCount, tCompX_list, xCall, sXFld, tXFld, rSlS, rEq, rNe, sc0, sc1, sc2, sc3, sc4, sc5, sc6, sc7, sc8, sc9, sc10, sc11, sc12, sc13, rCatS, rIsi, LenV, rAll, tFor_list, tFor_tup, tFor_str, tFor_rng1, tFor_rng2, tComp_list, tComp_tup, tComp_str, tComp_rng1, blkSt, tBM, rAppend, rStarts, rIndex, tIf, tMake, tMeth, sFld, tFld, tRepr, tFmt, jNil, jCons, tJoined, rJoin, rIsx, rIst, tRaise, tTryAs, tTry0, un1, xMeth, xDrop, xSet, xRet, xOf, xSeq, List.getElem?_cons_zero, List.getElem?_cons_succ, Option.some.injEq, V.int.injEq, V.str.injEq, V.bl.injEq, V.ref.injEq, V.ty.injEq, List.cons.injEq, exists_eq_left', exists_eq_left, exists_eq', and_assoc, if_true, if_false, Bool.not_false, Bool.not_true, Bool.not_not, Bool.false_eq_true, exists_and_left, and_true, true_and, List.set_cons_zero, List.set_cons_succ, Option.join_some, false_and, or_false, false_or, exists_false, sp_cellat, sp_nameby, sp_wordrow, sp_toldby, sp_drawn, sp_copy, sp_wrapped, sp_uinit, sp_places, sp_aimby, sp_aims, sp_aim, sp_whole, sp_last, sp_due, sp_alone, sp_refused, sp_holds, Ends.nx, Nat.reduceSub, Nat.reduceAdd]); (try simp only [tSeq, tAsg, gName, tC, tOp, tUn, tVar, tRet, tIfS, tOr, tAnd, tNot, tTest, tB, tChain, tCB, tCons, tNil, tCall, tSl, tNoPart, tPart, tNext, tDrop, tLst, tTup, tYes, tNotV, tAndV, tOrV, L2.start, List.set, List.map, List.length, List.replicate, List.cons_append, List.nil_append, List.append_nil, cK, bK, rI0, rI, rU, rIxS, rIxL, rIxT, tRetN, rSlL, rIn, rCatT, gTup, gCons, gNil, tRaiseI, tXInit, tDGet, tDGet1, tDGet2, tDIn, tDNotIn, sDPut, tDNewK, rDictOf, rEqDict, rCount, tCompX_list, xCall, sXFld, tXFld, rSlS, rEq, rNe, sc0, sc1, sc2, sc3, sc4, sc5, sc6, sc7, sc8, sc9, sc10, sc11, sc12, sc13, rCatS, rIsi, LenV, rAll, tFor_list, tFor_tup, tFor_str, tFor_rng1, tFor_rng2, tComp_list, tComp_tup, tComp_str, tComp_rng1, blkSt, tBM, rAppend, rStarts, rIndex, tIf, tMake, tMeth, sFld, tFld, tRepr, tFmt, jNil, jCons, tJoined, rJoin, rIsx, rIst, tRaise, tTryAs, tTry0, un1, xMeth, xDrop, xSet, xRet, xOf, xSeq, List.getElem?_cons_zero, List.getElem?_cons_succ, Option.some.injEq, V.int.injEq, V.str.injEq, V.bl.injEq, V.ref.injEq, V.ty.injEq, List.cons.injEq, exists_eq_left', exists_eq_left, exists_eq', and_assoc, if_true, if_false, Bool.not_false, Bool.not_true, Bool.not_not, Bool.false_eq_true, exists_and_left, and_true, true_and, List.set_cons_zero, List.set_cons_succ, Option.join_some, false_and, or_false, false_or, exists_false, sp_cellat, sp_nameby, sp_wordrow, sp_toldby, sp_drawn, sp_copy, sp_wrapped, sp_uinit, sp_places, sp_aimby, sp_aims, sp_aim, sp_whole, sp_last, sp_due, sp_alone, sp_refused, sp_holds, Ends.nx, Nat.reduceSub, Nat.reduceAdd, reduceCtorEq]))
      exact k L ps H' sm hP hf hd
theorem G__law_copy (T : Txt K mg A) : FnOk P w K mg base CX0 1 A._law_copy A.fd__law_copy ["_law_piece"] (sp_copy K) := by
  refine T.F__law_copy.ok sc__law_copy (fun vs H Q E h => ?_) (fun cdv Ar outer s H vs Q E hr h => ?_)
  · obtain ⟨p, rfl, _⟩ := h
    rfl
  · obtain ⟨p, rfl, hp, b1, b2, b3, k⟩ := h
    refine ⟨_, (pss_cons (ps_setC (i := 1) sc__law_copy.nd rfl (by first | exact Or.inl rfl | exact Or.inr rfl) (blk_mk (own := ["_law_row"]) (fr := []) (fm := []) rfl (by decide +kernel) (by decide +kernel) (by decide +kernel) .nil) rfl (pi_listK (K := K) rfl (pe_ix (ix_tupK (K := K) rfl) (pv 0) pe_int (fun _ _ => rfl))) (fun _ _ _ => ⟨(pg_name (i := 0) (by show List.Nodup (["_law_row"] : List Str); decide +kernel) rfl (by first | exact Or.inl rfl | exact Or.inr rfl)), pts_nil, (pe_tup (pa_cons (pe_ix (ix_tupK (K := K) rfl) (pv 0) pe_int (fun _ _ => rfl)) (pa_cons (pe_ix (ix_tupK (K := K) rfl) (pv 0) pe_int (fun _ _ => rfl)) (pa_cons (pe_callTy (call_list_ofK (K := K) rfl) (by rfl) T.n_list bt_list (pa_cons (pe_ix (ix_tupK (K := K) rfl) (pv 0) pe_int (fun _ _ => rfl)) pa_nil)) (pa_cons (pe_callTy (call_list_ofK (K := K) rfl) (by rfl) T.n_list bt_list (pa_cons (pe_ix (ix_tupK (K := K) rfl) (pv 0) pe_int (fun _ _ => rfl)) pa_nil)) pa_nil)))))⟩)) (pss_one (ps_ret (pe_tup (pa_cons (pe_ix (ix_tupK (K := K) rfl) (pv 0) pe_int (fun _ _ => rfl)) (pa_cons (pv 1) (pa_cons (pe_callTy (call_list_ofK (K := K) rfl) (by rfl) T.n_list bt_list (pa_cons (pe_ix (ix_tupK (K := K) rfl) (pv 0) pe_int (fun _ _ => rfl)) pa_nil)) pa_nil))))))), ?_⟩
    ((try dsimp only [tSeq, tAsg, gName, tC, tOp, tUn, tVar, tRet, tIfS, tOr, tAnd, tNot, tTest, tB, tChain, tCB, tCons, tNil, tCall, tSl, tNoPart, tPart, tNext, tDrop, tLst, tTup, tYes, tNotV, tAndV, tOrV, L2.start, List.set, List.map, List.length, List.replicate, List.cons_append, List.nil_append, List.append_nil, cK, bK, rI0, rI, rU, rIxS, rIxL, rIxT, tRetN, rSlL, rIn, rCatT, gTup, gCons, gNil, tRaiseI, tXInit, tDGet, tDGet1, tDGet2, tDIn, tDNotIn, sDPut, tDNewK, rDictOf, rEqDict, rCount, tCompX_list, xCall, sXFld, tXFld, rSlS, rEq, rNe, sc0, sc1, sc2, sc3, sc4, sc5, sc6, sc7, sc8, sc9, sc10, sc11, sc12, sc13, rCatS, rIsi, LenV, rAll, tFor_list, tFor_tup, tFor_str, tFor_rng1, tFor_rng2, tComp_list, tComp_tup, tComp_str, tComp_rng1, blkSt, tBM, rAppend, rStarts, rIndex, tIf, tMake, tMeth, sFld, tFld, tRepr, tFmt, jNil, jCons, tJoined, rJoin, rIsx, rIst, tRaise, tTryAs, tTry0, un1, xMeth, xDrop, xSet, xRet, xOf, xSeq, List.getElem?_cons_zero, List.getElem?_cons_succ, Option.some.injEq, V.int.injEq, V.str.injEq, V.bl.injEq, V.ref.injEq, V.ty.injEq, List.cons.injEq, exists_eq_left', exists_eq_left, exists_eq', and_assoc, if_true, if_false, Bool.not_false, Bool.not_true, Bool.not_not, Bool.false_eq_true, exists_and_left, and_true, true_and, List.set_cons_zero, List.set_cons_succ, Option.join_some, false_and, or_false, false_or, exists_false, sp_cellat, sp_nameby, sp_wordrow, sp_toldby, sp_drawn, sp_copy, sp_wrapped, sp_uinit, sp_places, sp_aimby, sp_aims, sp_aim, sp_whole, sp_last, sp_due, sp_alone, sp_refused, sp_holds, Ends.nx, Nat.reduceSub, Nat.reduceAdd]); (try simp only [tSeq, tAsg, gName, tC, tOp, tUn, tVar, tRet, tIfS, tOr, tAnd, tNot, tTest, tB, tChain, tCB, tCons, tNil, tCall, tSl, tNoPart, tPart, tNext, tDrop, tLst, tTup, tYes, tNotV, tAndV, tOrV, L2.start, List.set, List.map, List.length, List.replicate, List.cons_append, List.nil_append, List.append_nil, cK, bK, rI0, rI, rU, rIxS, rIxL, rIxT, tRetN, rSlL, rIn, rCatT, gTup, gCons, gNil, tRaiseI, tXInit, tDGet, tDGet1, tDGet2, tDIn, tDNotIn, sDPut, tDNewK, rDictOf, rEqDict, rCount, tCompX_list, xCall, sXFld, tXFld, rSlS, rEq, rNe, sc0, sc1, sc2, sc3, sc4, sc5, sc6, sc7, sc8, sc9, sc10, sc11, sc12, sc13, rCatS, rIsi, LenV, rAll, tFor_list, tFor_tup, tFor_str, tFor_rng1, tFor_rng2, tComp_list, tComp_tup, tComp_str, tComp_rng1, blkSt, tBM, rAppend, rStarts, rIndex, tIf, tMake, tMeth, sFld, tFld, tRepr, tFmt, jNil, jCons, tJoined, rJoin, rIsx, rIst, tRaise, tTryAs, tTry0, un1, xMeth, xDrop, xSet, xRet, xOf, xSeq, List.getElem?_cons_zero, List.getElem?_cons_succ, Option.some.injEq, V.int.injEq, V.str.injEq, V.bl.injEq, V.ref.injEq, V.ty.injEq, List.cons.injEq, exists_eq_left', exists_eq_left, exists_eq', and_assoc, if_true, if_false, Bool.not_false, Bool.not_true, Bool.not_not, Bool.false_eq_true, exists_and_left, and_true, true_and, List.set_cons_zero, List.set_cons_succ, Option.join_some, false_and, or_false, false_or, exists_false, sp_cellat, sp_nameby, sp_wordrow, sp_toldby, sp_drawn, sp_copy, sp_wrapped, sp_uinit, sp_places, sp_aimby, sp_aims, sp_aim, sp_whole, sp_last, sp_due, sp_alone, sp_refused, sp_holds, Ends.nx, Nat.reduceSub, Nat.reduceAdd, reduceCtorEq]))
    refine ⟨_, SqT.of hp.top, _, rfl, ?_⟩
    refine CompL.of (by rw [List.length_map, sizeLine_eq]; omega) (SqL.of hp.sl) (fun D i ys H' => ∃ qs : List StM, ys = qs.map StM.v ∧ qs.map StM.core = (p.sts.take i).map StM.core ∧ Same H H' ∧ H' D = some (.lst ys) ∧ (∀ q ∈ qs, q.At H') ∧ (∀ b ∈ qs.flatMap StM.lists, H b = none ∧ b ≠ D) ∧ (qs.flatMap StM.lists).Nodup)
      (fun D hD => ⟨[], rfl, rfl, same_new hD, upd_same, by simp, by simp, by simp⟩) ?_ ?_ ?_
    · rintro D i ys H' hD hi ⟨qs, rfl, hc, sm, hDD, _⟩
      refine ⟨SqL.of (sm _ _ hp.sl), hDD, ?_⟩
      have e := congrArg List.length hc
      rw [List.length_map, List.length_map] at e
      rw [List.length_map, e]
      exact List.length_take_le ..
    · rintro D i x ys H' hD hx ⟨qs, rfl, hc, sm, hDD, hat, hnew, hnd⟩
      rw [List.getElem?_map] at hx
      obtain ⟨s, hs, rfl⟩ := Option.map_eq_some_iff.mp hx
      have hs' := hp.ss s (List.mem_of_getElem? hs)
      ((try dsimp only [tSeq, tAsg, gName, tC, tOp, tUn, tVar, tRet, tIfS, tOr, tAnd, tNot, tTest, tB, tChain, tCB, tCons, tNil, tCall, tSl, tNoPart, tPart, tNext, tDrop, tLst, tTup, tYes, tNotV, tAndV, tOrV, L2.start, List.set, List.map, List.length, List.replicate, List.cons_append, List.nil_append, List.append_nil, cK, bK, rI0, rI, rU, rIxS, rIxL, rIxT, tRetN, rSlL, rIn, rCatT, gTup, gCons, gNil, tRaiseI, tXInit, tDGet, tDGet1, tDGet2, tDIn, tDNotIn, sDPut, tDNewK, rDictOf, rEqDict, rCount, tCompX_list, xCall, sXFld, tXFld, rSlS, rEq, rNe, sc0, sc1, sc2, sc3, sc4, sc5, sc6, sc7, sc8, sc9, sc10, sc11, sc12, sc13, rCatS, rIsi, LenV, rAll, tFor_list, tFor_tup, tFor_str, tFor_rng1, tFor_rng2, tComp_list, tComp_tup, tComp_str, tComp_rng1, blkSt, tBM, rAppend, rStarts, rIndex, tIf, tMake, tMeth, sFld, tFld, tRepr, tFmt, jNil, jCons, tJoined, rJoin, rIsx, rIst, tRaise, tTryAs, tTry0, un1, xMeth, xDrop, xSet, xRet, xOf, xSeq, List.getElem?_cons_zero, List.getElem?_cons_succ, Option.some.injEq, V.int.injEq, V.str.injEq, V.bl.injEq, V.ref.injEq, V.ty.injEq, List.cons.injEq, exists_eq_left', exists_eq_left, exists_eq', and_assoc, if_true, if_false, Bool.not_false, Bool.not_true, Bool.not_not, Bool.false_eq_true, exists_and_left, and_true, true_and, List.set_cons_zero, List.set_cons_succ, Option.join_some, false_and, or_false, false_or, exists_false, sp_cellat, sp_nameby, sp_wordrow, sp_toldby, sp_drawn, sp_copy, sp_wrapped, sp_uinit, sp_places, sp_aimby, sp_aims, sp_aim, sp_whole, sp_last, sp_due, sp_alone, sp_refused, sp_holds, Ends.nx, Nat.reduceSub, Nat.reduceAdd]); (try simp only [tSeq, tAsg, gName, tC, tOp, tUn, tVar, tRet, tIfS, tOr, tAnd, tNot, tTest, tB, tChain, tCB, tCons, tNil, tCall, tSl, tNoPart, tPart, tNext, tDrop, tLst, tTup, tYes, tNotV, tAndV, tOrV, L2.start, List.set, List.map, List.length, List.replicate, List.cons_append, List.nil_append, List.append_nil, cK, bK, rI0, rI, rU, rIxS, rIxL, rIxT, tRetN, rSlL, rIn, rCatT, gTup, gCons, gNil, tRaiseI, tXInit, tDGet, tDGet1, tDGet2, tDIn, tDNotIn, sDPut, tDNewK, rDictOf, rEqDict, rCount, tCompX_list, xCall, sXFld, tXFld, rSlS, rEq, rNe, sc0, sc1, sc2, sc3, sc4, sc5, sc6, sc7, sc8, sc9, sc10, sc11, sc12, sc13, rCatS, rIsi, LenV, rAll, tFor_list, tFor_tup, tFor_str, tFor_rng1, tFor_rng2, tComp_list, tComp_tup, tComp_str, tComp_rng1, blkSt, tBM, rAppend, rStarts, rIndex, tIf, tMake, tMeth, sFld, tFld, tRepr, tFmt, jNil, jCons, tJoined, rJoin, rIsx, rIst, tRaise, tTryAs, tTry0, un1, xMeth, xDrop, xSet, xRet, xOf, xSeq, List.getElem?_cons_zero, List.getElem?_cons_succ, Option.some.injEq, V.int.injEq, V.str.injEq, V.bl.injEq, V.ref.injEq, V.ty.injEq, List.cons.injEq, exists_eq_left', exists_eq_left, exists_eq', and_assoc, if_true, if_false, Bool.not_false, Bool.not_true, Bool.not_not, Bool.false_eq_true, exists_and_left, and_true, true_and, List.set_cons_zero, List.set_cons_succ, Option.join_some, false_and, or_false, false_or, exists_false, sp_cellat, sp_nameby, sp_wordrow, sp_toldby, sp_drawn, sp_copy, sp_wrapped, sp_uinit, sp_places, sp_aimby, sp_aims, sp_aim, sp_whole, sp_last, sp_due, sp_alone, sp_refused, sp_holds, Ends.nx, Nat.reduceSub, Nat.reduceAdd, reduceCtorEq]))
      refine ⟨.no .nil, _, SqT.of (sm _ _ hs'.top), _, rfl, _, SqT.of (sm _ _ hs'.top), _, rfl, _, SqT.of (sm _ _ hs'.top), _, rfl, s.lw, rfl, _, .inl (SqL.of (sm _ _ hs'.wd)), fun lw h1 => ⟨_, SqT.of (same_new h1 _ _ (sm _ _ hs'.top)), _, rfl, s.lf, rfl, _, .inl (SqL.of (same_new h1 _ _ (sm _ _ hs'.fl))), fun lf h2 => ⟨by rw [sizeLine_eq]; decide, fun t h3 => ?_⟩⟩⟩
      obtain ⟨n2, h2'⟩ := free_of h2
      obtain ⟨n3, h3a⟩ := free_of h3
      obtain ⟨n4, h3'⟩ := free_of h3a
      have s3 := ((same_new (o := HO.lst (s.words.map V.int)) h1).trans (same_new (o := HO.lst (s.fills.map FillM.v)) h2)).trans (same_new (o := HO.tup [V.str s.kind, V.int s.step, V.ref lw, V.ref lf]) h3)
      have e1 : upd (upd (upd H' lw (HO.lst (s.words.map V.int))) lf (HO.lst (s.fills.map FillM.v))) t (HO.tup [V.str s.kind, V.int s.step, V.ref lw, V.ref lf]) lw = some (HO.lst (s.words.map V.int)) := by rw [upd_ne (Ne.symm n4), upd_ne (Ne.symm n2), upd_same]
      have e2 : upd (upd (upd H' lw (HO.lst (s.words.map V.int))) lf (HO.lst (s.fills.map FillM.v))) t (HO.tup [V.str s.kind, V.int s.step, V.ref lw, V.ref lf]) lf = some (HO.lst (s.fills.map FillM.v)) := by rw [upd_ne (Ne.symm n3), upd_same]
      have e3 : upd (upd (upd H' lw (HO.lst (s.words.map V.int))) lf (HO.lst (s.fills.map FillM.v))) t (HO.tup [V.str s.kind, V.int s.step, V.ref lw, V.ref lf]) t = some (HO.tup [V.str s.kind, V.int s.step, V.ref lw, V.ref lf]) := upd_same
      generalize upd (upd (upd H' lw (HO.lst (s.words.map V.int))) lf (HO.lst (s.fills.map FillM.v))) t (HO.tup [V.str s.kind, V.int s.step, V.ref lw, V.ref lf]) = H3 at *
      have bt : But H3 (upd H3 D (HO.lst (qs.map StM.v ++ [V.ref t]))) D := But.upd (s3 _ _ hDD)
      have d1 : lw ≠ D := Ne.symm (ne_of_none hDD h1)
      have d2 : lf ≠ D := Ne.symm (ne_of_none hDD h2')
      refine ⟨s3 _ _ hDD, qs ++ [⟨t, lw, lf, s.kind, s.step, s.words, s.fills⟩], by simp, ?_, same_upd hD (sm.trans s3), upd_same, fun q hq => ?_, fun b hb => ?_, ?_⟩
      · rw [List.map_append, hc, List.take_succ, hs, List.map_append]; rfl
      · rcases List.mem_append.mp hq with z | z
        · exact ((hat q z).mono s3).but bt fun y => (hnew D (List.mem_flatMap.mpr ⟨q, z, y⟩)).2 rfl
        · rw [List.mem_singleton.mp z]
          exact ⟨bt.tup e3, bt.2 _ _ e1 d1, bt.2 _ _ e2 d2, fun f hf => (((hs'.fs f hf).mono sm).mono s3).but bt⟩
      · rw [List.flatMap_append] at hb
        rcases List.mem_append.mp hb with z | z
        · exact hnew b z
        · simp [StM.lists] at z
          rcases z with e | e
          · rw [e]; exact ⟨sm.free h1, d1⟩
          · rw [e]; exact ⟨sm.free h2', d2⟩
      · rw [List.flatMap_append]
        refine List.nodup_append.mpr ⟨hnd, by simp [StM.lists, Ne.symm n2], fun x hx y hy e => ?_⟩
        obtain ⟨q, hq, hb'⟩ := List.mem_flatMap.mp hx
        obtain ⟨xs, he⟩ := (hat q hq).list hb'
        simp [StM.lists] at hy
        rcases hy with z | z
        · rw [e, z, h1] at he; cases he
        · rw [e, z, h2'] at he; cases he
    · rintro D ys H' hD ⟨qs, rfl, hc, sm, hDD, hat, hnew, hnd⟩
      rw [List.length_map, List.take_length] at hc
      refine ⟨_, SqT.of (sm _ _ hp.top), _, rfl, _, SqT.of (sm _ _ hp.top), _, rfl, p.ln, rfl, _, .inl (SqL.of (sm _ _ hp.nl)), fun l hl => ⟨by rw [sizeLine_eq]; decide, fun t ht => ?_⟩⟩
      obtain ⟨n1, ht'⟩ := free_of ht
      have s2 := (same_new (o := HO.lst (p.nms.map ToldM.v)) hl).trans (same_new (o := HO.tup [V.str p.name, V.ref D, V.ref l]) ht)
      have nl : ∀ b ∈ qs.flatMap StM.lists, b ≠ l ∧ b ≠ t := fun b hb => by
        obtain ⟨q, hq, hb'⟩ := List.mem_flatMap.mp hb
        obtain ⟨xs, e⟩ := (hat q hq).list hb'
        exact ⟨ne_of_none e hl, ne_of_none e ht'⟩
      refine k ⟨t, D, l, p.name, qs, p.nms⟩ _ (sm.trans s2) ⟨upd_same, s2 _ _ hDD, by rw [upd_ne (Ne.symm n1), upd_same], fun q hq => (hat q hq).mono s2, fun n hn => ((hp.ns n hn).mono sm).mono s2⟩ ⟨rfl, rfl, hc⟩ (fun b hb => ?_) ?_
      · simp only [PcM.lists, List.mem_cons] at hb
        rcases hb with e | e | e
        · rw [e]; exact hD
        · rw [e]; exact sm.free hl
        · exact (hnew b e).1
      · show (D :: l :: qs.flatMap StM.lists).Nodup
        refine List.nodup_cons.mpr ⟨fun z => ?_, List.nodup_cons.mpr ⟨fun z => (nl l z).1 rfl, hnd⟩⟩
        rcases List.mem_cons.mp z with e | e
        · exact ne_of_none hDD hl e
        · exact (hnew D e).2 rfl

noncomputable def hT (A : Ad) : TS := fun D σ H => ∃ (p : PcM) (dN : Addr) (f : FillM) (due kept found : V) (b6 : Option V), σ = [some p.v, some (.ref dN), some f.v, some due, some kept, some found, b6] ∧ p.At H ∧ f.At H ∧ (∀ H', Same H H' → D.rt (.bl true) H') ∧
  ((∃ a b c q q', due = .ref q ∧ kept = .non ∧ found = .ref q' ∧ H q = some (.tup [.str a, .int b, .int c]) ∧ H q' = some (.tup [.str a, .int b, .int c])) ∨ (∃ i, due = .int i ∧ kept = .non ∧ found = .int i) ∨ (∃ a d, due = .non ∧ kept = .ref a ∧ H a = some (XO a A.c_Unmet (some d)) ∧ H d = some (xdOf f.name p.name)))
noncomputable def aF4 : List V := [.bl false, .bl false, .bl false, .bl false]
noncomputable def aF7 : List V := aF4 ++ [.bl true, .bl false, .bl false]
noncomputable def aF10 : List V := aF7 ++ [.bl false, .bl false, .bl false]
noncomputable def aS1 (K : PySem.W.Frag) (A : Ad) : TS := fun D σ H => ∃ (a : Addr) (b1 : Option V), σ = [some (.ref a), b1] ∧ TyX K H (.ref a) (.ref A.c_Unmet) ∧ ∀ q H', Same H H' → H' q = some (.lst aF4) → D.nx [some (.ref a), some (.ref q)] H'
noncomputable def aS2 (K : PySem.W.Frag) (A : Ad) : TS := fun D σ H => ∃ (a l : Addr), σ = [some (.ref a), some (.ref l)] ∧ H l = some (.lst aF4) ∧ (∀ {H'}, Same H H' → TyX K H' (.ref a) (.ref A.c_Unmet)) ∧ ∀ q H', Same H H' → H' q = some (.lst aF7) → D.nx [some (.ref a), some (.ref q)] H'
noncomputable def aS3 (K : PySem.W.Frag) (A : Ad) : TS := fun D σ H => ∃ (a l : Addr), σ = [some (.ref a), some (.ref l)] ∧ H l = some (.lst aF7) ∧ (∀ {H'}, Same H H' → TyX K H' (.ref a) (.ref A.c_Unmet)) ∧ ∀ q H', Same H H' → H' q = some (.lst aF10) → D.nx [some (.ref a), some (.ref q)] H'
theorem G_wrapped (T : Txt K mg A) : FnOk P w K mg base CX0 1 A.wrapped A.fd_wrapped ["number"] sp_wrapped := by
  refine T.F_wrapped.ok sc_wrapped (fun vs H Q E h => ?_) (fun cdv Ar outer s H vs Q E hr h => ?_)
  · obtain ⟨i, rfl, _⟩ := h
    rfl
  · obtain ⟨i, rfl, k⟩ := h
    refine ⟨_, (pss_one (ps_ret (pe_op op_mod (pv 0) (pe_glob rfl T.g_WORD_COUNT relI)))), ?_⟩
    ((try dsimp only [tSeq, tAsg, gName, tC, tOp, tUn, tVar, tRet, tIfS, tOr, tAnd, tNot, tTest, tB, tChain, tCB, tCons, tNil, tCall, tSl, tNoPart, tPart, tNext, tDrop, tLst, tTup, tYes, tNotV, tAndV, tOrV, L2.start, List.set, List.map, List.length, List.replicate, List.cons_append, List.nil_append, List.append_nil, cK, bK, rI0, rI, rU, rIxS, rIxL, rIxT, tRetN, rSlL, rIn, rCatT, gTup, gCons, gNil, tRaiseI, tXInit, tDGet, tDGet1, tDGet2, tDIn, tDNotIn, sDPut, tDNewK, rDictOf, rEqDict, rCount, tCompX_list, xCall, sXFld, tXFld, rSlS, rEq, rNe, sc0, sc1, sc2, sc3, sc4, sc5, sc6, sc7, sc8, sc9, sc10, sc11, sc12, sc13, rCatS, rIsi, LenV, rAll, tFor_list, tFor_tup, tFor_str, tFor_rng1, tFor_rng2, tComp_list, tComp_tup, tComp_str, tComp_rng1, blkSt, tBM, rAppend, rStarts, rIndex, tIf, tMake, tMeth, sFld, tFld, tRepr, tFmt, jNil, jCons, tJoined, rJoin, rIsx, rIst, tRaise, tTryAs, tTry0, un1, xMeth, xDrop, xSet, xRet, xOf, xSeq, List.getElem?_cons_zero, List.getElem?_cons_succ, Option.some.injEq, V.int.injEq, V.str.injEq, V.bl.injEq, V.ref.injEq, V.ty.injEq, List.cons.injEq, exists_eq_left', exists_eq_left, exists_eq', and_assoc, if_true, if_false, Bool.not_false, Bool.not_true, Bool.not_not, Bool.false_eq_true, exists_and_left, and_true, true_and, List.set_cons_zero, List.set_cons_succ, Option.join_some, false_and, or_false, false_or, exists_false, sp_cellat, sp_nameby, sp_wordrow, sp_toldby, sp_drawn, sp_copy, sp_wrapped, sp_uinit, sp_places, sp_aimby, sp_aims, sp_aim, sp_whole, sp_last, sp_due, sp_alone, sp_refused, sp_holds, Ends.nx, Nat.reduceSub, Nat.reduceAdd]); (try simp only [tSeq, tAsg, gName, tC, tOp, tUn, tVar, tRet, tIfS, tOr, tAnd, tNot, tTest, tB, tChain, tCB, tCons, tNil, tCall, tSl, tNoPart, tPart, tNext, tDrop, tLst, tTup, tYes, tNotV, tAndV, tOrV, L2.start, List.set, List.map, List.length, List.replicate, List.cons_append, List.nil_append, List.append_nil, cK, bK, rI0, rI, rU, rIxS, rIxL, rIxT, tRetN, rSlL, rIn, rCatT, gTup, gCons, gNil, tRaiseI, tXInit, tDGet, tDGet1, tDGet2, tDIn, tDNotIn, sDPut, tDNewK, rDictOf, rEqDict, rCount, tCompX_list, xCall, sXFld, tXFld, rSlS, rEq, rNe, sc0, sc1, sc2, sc3, sc4, sc5, sc6, sc7, sc8, sc9, sc10, sc11, sc12, sc13, rCatS, rIsi, LenV, rAll, tFor_list, tFor_tup, tFor_str, tFor_rng1, tFor_rng2, tComp_list, tComp_tup, tComp_str, tComp_rng1, blkSt, tBM, rAppend, rStarts, rIndex, tIf, tMake, tMeth, sFld, tFld, tRepr, tFmt, jNil, jCons, tJoined, rJoin, rIsx, rIst, tRaise, tTryAs, tTry0, un1, xMeth, xDrop, xSet, xRet, xOf, xSeq, List.getElem?_cons_zero, List.getElem?_cons_succ, Option.some.injEq, V.int.injEq, V.str.injEq, V.bl.injEq, V.ref.injEq, V.ty.injEq, List.cons.injEq, exists_eq_left', exists_eq_left, exists_eq', and_assoc, if_true, if_false, Bool.not_false, Bool.not_true, Bool.not_not, Bool.false_eq_true, exists_and_left, and_true, true_and, List.set_cons_zero, List.set_cons_succ, Option.join_some, false_and, or_false, false_or, exists_false, sp_cellat, sp_nameby, sp_wordrow, sp_toldby, sp_drawn, sp_copy, sp_wrapped, sp_uinit, sp_places, sp_aimby, sp_aims, sp_aim, sp_whole, sp_last, sp_due, sp_alone, sp_refused, sp_holds, Ends.nx, Nat.reduceSub, Nat.reduceAdd, reduceCtorEq]))
    exact ⟨by decide, k⟩
theorem G_Unmet___init__ (T : Txt K mg A) : FnOk P w K mg base CX0 1 A.Unmet___init__ A.fd_Unmet___init__ ["self", "name", "piece"] (sp_uinit A) := by
  refine T.F_Unmet___init__.ok sc_Unmet___init__ (fun vs H Q E h => ?_) (fun cdv Ar outer s H vs Q E hr h => ?_)
  · obtain ⟨a, n, p, rfl, _⟩ := h
    rfl
  · obtain ⟨a, n, p, rfl, ha, hn, hp, k⟩ := h
    refine ⟨_, (pss_cons (ps_expr (pe_xinit rfl T.mc_JoinError T.bi_JoinError (pa_cons (pv 0) (pa_cons (pe_joined (pj_cons (pe_repr (pv 1)) (pj_cons pe_str (pj_cons (pe_repr (pv 2)) pj_nil)))) pa_nil)))) (pss_cons (ps_xfld (pv 0) (pv 1) rfl) (pss_one (ps_xfld (pv 0) (pv 2) rfl)))), ?_⟩
    ((try dsimp only [tSeq, tAsg, gName, tC, tOp, tUn, tVar, tRet, tIfS, tOr, tAnd, tNot, tTest, tB, tChain, tCB, tCons, tNil, tCall, tSl, tNoPart, tPart, tNext, tDrop, tLst, tTup, tYes, tNotV, tAndV, tOrV, L2.start, List.set, List.map, List.length, List.replicate, List.cons_append, List.nil_append, List.append_nil, cK, bK, rI0, rI, rU, rIxS, rIxL, rIxT, tRetN, rSlL, rIn, rCatT, gTup, gCons, gNil, tRaiseI, tXInit, tDGet, tDGet1, tDGet2, tDIn, tDNotIn, sDPut, tDNewK, rDictOf, rEqDict, rCount, tCompX_list, xCall, sXFld, tXFld, rSlS, rEq, rNe, sc0, sc1, sc2, sc3, sc4, sc5, sc6, sc7, sc8, sc9, sc10, sc11, sc12, sc13, rCatS, rIsi, LenV, rAll, tFor_list, tFor_tup, tFor_str, tFor_rng1, tFor_rng2, tComp_list, tComp_tup, tComp_str, tComp_rng1, blkSt, tBM, rAppend, rStarts, rIndex, tIf, tMake, tMeth, sFld, tFld, tRepr, tFmt, jNil, jCons, tJoined, rJoin, rIsx, rIst, tRaise, tTryAs, tTry0, un1, xMeth, xDrop, xSet, xRet, xOf, xSeq, List.getElem?_cons_zero, List.getElem?_cons_succ, Option.some.injEq, V.int.injEq, V.str.injEq, V.bl.injEq, V.ref.injEq, V.ty.injEq, List.cons.injEq, exists_eq_left', exists_eq_left, exists_eq', and_assoc, if_true, if_false, Bool.not_false, Bool.not_true, Bool.not_not, Bool.false_eq_true, exists_and_left, and_true, true_and, List.set_cons_zero, List.set_cons_succ, Option.join_some, false_and, or_false, false_or, exists_false, sp_cellat, sp_nameby, sp_wordrow, sp_toldby, sp_drawn, sp_copy, sp_wrapped, sp_uinit, sp_places, sp_aimby, sp_aims, sp_aim, sp_whole, sp_last, sp_due, sp_alone, sp_refused, sp_holds, Ends.nx, Nat.reduceSub, Nat.reduceAdd]); (try simp only [tSeq, tAsg, gName, tC, tOp, tUn, tVar, tRet, tIfS, tOr, tAnd, tNot, tTest, tB, tChain, tCB, tCons, tNil, tCall, tSl, tNoPart, tPart, tNext, tDrop, tLst, tTup, tYes, tNotV, tAndV, tOrV, L2.start, List.set, List.map, List.length, List.replicate, List.cons_append, List.nil_append, List.append_nil, cK, bK, rI0, rI, rU, rIxS, rIxL, rIxT, tRetN, rSlL, rIn, rCatT, gTup, gCons, gNil, tRaiseI, tXInit, tDGet, tDGet1, tDGet2, tDIn, tDNotIn, sDPut, tDNewK, rDictOf, rEqDict, rCount, tCompX_list, xCall, sXFld, tXFld, rSlS, rEq, rNe, sc0, sc1, sc2, sc3, sc4, sc5, sc6, sc7, sc8, sc9, sc10, sc11, sc12, sc13, rCatS, rIsi, LenV, rAll, tFor_list, tFor_tup, tFor_str, tFor_rng1, tFor_rng2, tComp_list, tComp_tup, tComp_str, tComp_rng1, blkSt, tBM, rAppend, rStarts, rIndex, tIf, tMake, tMeth, sFld, tFld, tRepr, tFmt, jNil, jCons, tJoined, rJoin, rIsx, rIst, tRaise, tTryAs, tTry0, un1, xMeth, xDrop, xSet, xRet, xOf, xSeq, List.getElem?_cons_zero, List.getElem?_cons_succ, Option.some.injEq, V.int.injEq, V.str.injEq, V.bl.injEq, V.ref.injEq, V.ty.injEq, List.cons.injEq, exists_eq_left', exists_eq_left, exists_eq', and_assoc, if_true, if_false, Bool.not_false, Bool.not_true, Bool.not_not, Bool.false_eq_true, exists_and_left, and_true, true_and, List.set_cons_zero, List.set_cons_succ, Option.join_some, false_and, or_false, false_or, exists_false, sp_cellat, sp_nameby, sp_wordrow, sp_toldby, sp_drawn, sp_copy, sp_wrapped, sp_uinit, sp_places, sp_aimby, sp_aims, sp_aim, sp_whole, sp_last, sp_due, sp_alone, sp_refused, sp_holds, Ends.nx, Nat.reduceSub, Nat.reduceAdd, reduceCtorEq]))
    have l1 := repr_le hn.2 hn.1
    have l2 := repr_le hp.2 hp.1
    have l0 : Str.empty.length = 0 := rfl
    have l3 : (Str.ofString " is told by no piece, wanted by ").length = 32 := by decide +kernel
    have sz : ∀ m : Nat, m ≤ 400 → m ≤ sizeLine := fun m h => by rw [sizeLine_eq]; omega
    have e : putF (Str.ofString "piece") (V.str p) [(Str.ofString "name", V.str n)] = [(Str.ofString "name", V.str n), (Str.ofString "piece", V.str p)] := by
      show (if Str.ofString "name" = Str.ofString "piece" then _ else _) = _
      rw [if_neg (by decide)]
      rfl
    refine ⟨sz _ (by omega), sz _ (by rw [slen]; omega), sz _ (by rw [slen, slen]; omega), sz _ (by omega), sz _ (by rw [slen, slen, slen]; omega), sz _ (by rw [slen, slen, slen]; omega), A.c_Unmet, none, ha, A.Unmet___init__, T.er_Unmet, sz _ (by decide), A.c_Unmet, A.Unmet___init__, none, ha, T.er_Unmet, T.no_Unmet_name, .inl ⟨rfl, fun d hd => ?_⟩⟩
    have hne : d ≠ a := Ne.symm (ne_of_none ha hd)
    have hD : upd (upd H d (XD d [(Str.ofString "name", V.str n)])) a (XN a A.c_Unmet (some d)) d = some (XD d [(Str.ofString "name", V.str n)]) := by rw [upd_ne hne, upd_same]
    refine ⟨A.c_Unmet, A.Unmet___init__, some d, upd_same, T.er_Unmet, T.no_Unmet_piece, .inr ⟨d, rfl, _, hD, by simp, ?_⟩⟩
    rw [e]
    refine k d _ hd hne (fun b o hb q => ?_) ?_ upd_same
    · have hbd := ne_of_none q hd
      rw [upd_ne hbd, upd_ne hb, upd_ne hbd]; exact q
    · rw [upd_ne (Ne.symm hne), upd_same]
theorem G_places_told (T : Txt K mg A) : FnOk P w K mg base CX0 1 A.places_told A.fd_places_told ["piece", "told_by"] sp_places := by
  refine T.F_places_told.ok sc_places_told (fun vs H Q E h => ?_) (fun cdv Ar outer s H vs Q E hr h => ?_)
  · obtain ⟨p, z, rfl, _⟩ := h
    rfl
  · obtain ⟨p, z, rfl, hp, hf, hd, k⟩ := h
    refine ⟨_, (pss_cons (ps_set (i := 2) sc_places_told.nd rfl (by first | exact Or.inl rfl | exact Or.inr rfl) pe_dnewK) (pss_cons (ps_for PassesOwn.never rfl (pi_listK (K := K) rfl (pe_ix (ix_tupK (K := K) rfl) (pv 0) pe_int (fun _ _ => rfl))) (pg_tupK (K := K) (n := 4) rfl rfl (pgs_cons (pg_name (i := 3) sc_places_told.nd rfl (by first | exact Or.inl rfl | exact Or.inr rfl)) (pgs_cons (pg_name (i := 4) sc_places_told.nd rfl (by first | exact Or.inl rfl | exact Or.inr rfl)) (pgs_cons (pg_name (i := 5) sc_places_told.nd rfl (by first | exact Or.inl rfl | exact Or.inr rfl)) (pgs_cons (pg_name (i := 6) sc_places_told.nd rfl (by first | exact Or.inl rfl | exact Or.inr rfl)) pgs_nil))))) (pss_one (ps_if (pt_cmpR op_eq (pv 4) (pv 1) (nomark _)) (pss_one (ps_dput (hu_of hr) (pv 2) (pv 3) (pe_tup (pa_cons (pe_ix (ix_tupK (K := K) rfl) (pv 0) pe_int (fun _ _ => rfl)) (pa_cons (pv 5) (pa_cons (pv 6) pa_nil)))) rfl)) pss_nil))) (pss_one (ps_ret (pv 2))))), ?_⟩
    ((try dsimp only [tSeq, tAsg, gName, tC, tOp, tUn, tVar, tRet, tIfS, tOr, tAnd, tNot, tTest, tB, tChain, tCB, tCons, tNil, tCall, tSl, tNoPart, tPart, tNext, tDrop, tLst, tTup, tYes, tNotV, tAndV, tOrV, L2.start, List.set, List.map, List.length, List.replicate, List.cons_append, List.nil_append, List.append_nil, cK, bK, rI0, rI, rU, rIxS, rIxL, rIxT, tRetN, rSlL, rIn, rCatT, gTup, gCons, gNil, tRaiseI, tXInit, tDGet, tDGet1, tDGet2, tDIn, tDNotIn, sDPut, tDNewK, rDictOf, rEqDict, rCount, tCompX_list, xCall, sXFld, tXFld, rSlS, rEq, rNe, sc0, sc1, sc2, sc3, sc4, sc5, sc6, sc7, sc8, sc9, sc10, sc11, sc12, sc13, rCatS, rIsi, LenV, rAll, tFor_list, tFor_tup, tFor_str, tFor_rng1, tFor_rng2, tComp_list, tComp_tup, tComp_str, tComp_rng1, blkSt, tBM, rAppend, rStarts, rIndex, tIf, tMake, tMeth, sFld, tFld, tRepr, tFmt, jNil, jCons, tJoined, rJoin, rIsx, rIst, tRaise, tTryAs, tTry0, un1, xMeth, xDrop, xSet, xRet, xOf, xSeq, List.getElem?_cons_zero, List.getElem?_cons_succ, Option.some.injEq, V.int.injEq, V.str.injEq, V.bl.injEq, V.ref.injEq, V.ty.injEq, List.cons.injEq, exists_eq_left', exists_eq_left, exists_eq', and_assoc, if_true, if_false, Bool.not_false, Bool.not_true, Bool.not_not, Bool.false_eq_true, exists_and_left, and_true, true_and, List.set_cons_zero, List.set_cons_succ, Option.join_some, false_and, or_false, false_or, exists_false, sp_cellat, sp_nameby, sp_wordrow, sp_toldby, sp_drawn, sp_copy, sp_wrapped, sp_uinit, sp_places, sp_aimby, sp_aims, sp_aim, sp_whole, sp_last, sp_due, sp_alone, sp_refused, sp_holds, Ends.nx, Nat.reduceSub, Nat.reduceAdd]); (try simp only [tSeq, tAsg, gName, tC, tOp, tUn, tVar, tRet, tIfS, tOr, tAnd, tNot, tTest, tB, tChain, tCB, tCons, tNil, tCall, tSl, tNoPart, tPart, tNext, tDrop, tLst, tTup, tYes, tNotV, tAndV, tOrV, L2.start, List.set, List.map, List.length, List.replicate, List.cons_append, List.nil_append, List.append_nil, cK, bK, rI0, rI, rU, rIxS, rIxL, rIxT, tRetN, rSlL, rIn, rCatT, gTup, gCons, gNil, tRaiseI, tXInit, tDGet, tDGet1, tDGet2, tDIn, tDNotIn, sDPut, tDNewK, rDictOf, rEqDict, rCount, tCompX_list, xCall, sXFld, tXFld, rSlS, rEq, rNe, sc0, sc1, sc2, sc3, sc4, sc5, sc6, sc7, sc8, sc9, sc10, sc11, sc12, sc13, rCatS, rIsi, LenV, rAll, tFor_list, tFor_tup, tFor_str, tFor_rng1, tFor_rng2, tComp_list, tComp_tup, tComp_str, tComp_rng1, blkSt, tBM, rAppend, rStarts, rIndex, tIf, tMake, tMeth, sFld, tFld, tRepr, tFmt, jNil, jCons, tJoined, rJoin, rIsx, rIst, tRaise, tTryAs, tTry0, un1, xMeth, xDrop, xSet, xRet, xOf, xSeq, List.getElem?_cons_zero, List.getElem?_cons_succ, Option.some.injEq, V.int.injEq, V.str.injEq, V.bl.injEq, V.ref.injEq, V.ty.injEq, List.cons.injEq, exists_eq_left', exists_eq_left, exists_eq', and_assoc, if_true, if_false, Bool.not_false, Bool.not_true, Bool.not_not, Bool.false_eq_true, exists_and_left, and_true, true_and, List.set_cons_zero, List.set_cons_succ, Option.join_some, false_and, or_false, false_or, exists_false, sp_cellat, sp_nameby, sp_wordrow, sp_toldby, sp_drawn, sp_copy, sp_wrapped, sp_uinit, sp_places, sp_aimby, sp_aims, sp_aim, sp_whole, sp_last, sp_due, sp_alone, sp_refused, sp_holds, Ends.nx, Nat.reduceSub, Nat.reduceAdd, reduceCtorEq]))
    intro d hdn
    refine ⟨_, SqT.of (same_new hdn _ _ hp.top), _, rfl, ?_⟩
    refine ForL.of (xs := p.nms.map ToldM.v) (fun i σ H' => ∃ ms b3 b4 b5 b6, σ = [some p.v, some (V.str z), some (V.ref d), b3, b4, b5, b6] ∧ Same H H' ∧ Tab H' d ms ∧ ms.map (fun m => (m.name, m.a, m.b, m.c)) = ((p.nms.take i).filter fun n => decide (n.sort = z)).map (fun n => (n.name, p.name, n.st, n.off)))
      ⟨[], _, _, _, _, rfl, same_new hdn, ⟨upd_same, by simp⟩, rfl⟩ (fun i σ H' _ ⟨_, _, _, _, _, _, sm, _⟩ => SqL.of (sm _ _ hp.nl)) ?_ ?_
    · rintro i x σ H' hx ⟨ms, b3, b4, b5, b6, rfl, sm, tab, e⟩
      rw [List.getElem?_map] at hx
      obtain ⟨n, hn, rfl⟩ := Option.map_eq_some_iff.mp hx
      have na := sm _ _ (hp.ns n (List.mem_of_getElem? hn))
      have tk : (p.nms.take (i + 1)) = p.nms.take i ++ [n] := by rw [List.take_succ, hn]; rfl
      have hnew : n.name ∉ ms.map TabM.name := by
        have e1 : ms.map TabM.name = ((p.nms.take i).filter fun n => decide (n.sort = z)).map ToldM.name := by
          have := congrArg (List.map (·.1)) e
          rw [List.map_map, List.map_map] at this
          exact this
        rw [e1]
        intro h
        obtain ⟨n', h1, h2⟩ := List.mem_map.mp h
        have h3 := (List.mem_filter.mp h1).1
        have nd : ((p.nms.take (i + 1)).map ToldM.name).Nodup := List.Nodup.sublist (List.Sublist.map _ (List.take_sublist _ _)) hd
        rw [tk, List.map_append] at nd
        exact (List.nodup_append.mp nd).2.2 n'.name (List.mem_map.mpr ⟨n', h3, rfl⟩) n.name (by simp) h2
      have hlen : ms.length ≤ 61 := by
        have := congrArg List.length e
        rw [List.length_map, List.length_map] at this
        have h1 := List.length_filter_le (fun n : ToldM => decide (n.sort = z)) (p.nms.take i)
        have h2 := List.length_take_le i p.nms
        have h3 : (p.nms.take i).length ≤ p.nms.length := by rw [List.length_take]; omega
        omega
      ((try dsimp only [tSeq, tAsg, gName, tC, tOp, tUn, tVar, tRet, tIfS, tOr, tAnd, tNot, tTest, tB, tChain, tCB, tCons, tNil, tCall, tSl, tNoPart, tPart, tNext, tDrop, tLst, tTup, tYes, tNotV, tAndV, tOrV, L2.start, List.set, List.map, List.length, List.replicate, List.cons_append, List.nil_append, List.append_nil, cK, bK, rI0, rI, rU, rIxS, rIxL, rIxT, tRetN, rSlL, rIn, rCatT, gTup, gCons, gNil, tRaiseI, tXInit, tDGet, tDGet1, tDGet2, tDIn, tDNotIn, sDPut, tDNewK, rDictOf, rEqDict, rCount, tCompX_list, xCall, sXFld, tXFld, rSlS, rEq, rNe, sc0, sc1, sc2, sc3, sc4, sc5, sc6, sc7, sc8, sc9, sc10, sc11, sc12, sc13, rCatS, rIsi, LenV, rAll, tFor_list, tFor_tup, tFor_str, tFor_rng1, tFor_rng2, tComp_list, tComp_tup, tComp_str, tComp_rng1, blkSt, tBM, rAppend, rStarts, rIndex, tIf, tMake, tMeth, sFld, tFld, tRepr, tFmt, jNil, jCons, tJoined, rJoin, rIsx, rIst, tRaise, tTryAs, tTry0, un1, xMeth, xDrop, xSet, xRet, xOf, xSeq, List.getElem?_cons_zero, List.getElem?_cons_succ, Option.some.injEq, V.int.injEq, V.str.injEq, V.bl.injEq, V.ref.injEq, V.ty.injEq, List.cons.injEq, exists_eq_left', exists_eq_left, exists_eq', and_assoc, if_true, if_false, Bool.not_false, Bool.not_true, Bool.not_not, Bool.false_eq_true, exists_and_left, and_true, true_and, List.set_cons_zero, List.set_cons_succ, Option.join_some, false_and, or_false, false_or, exists_false, sp_cellat, sp_nameby, sp_wordrow, sp_toldby, sp_drawn, sp_copy, sp_wrapped, sp_uinit, sp_places, sp_aimby, sp_aims, sp_aim, sp_whole, sp_last, sp_due, sp_alone, sp_refused, sp_holds, Ends.nx, Nat.reduceSub, Nat.reduceAdd]); (try simp only [tSeq, tAsg, gName, tC, tOp, tUn, tVar, tRet, tIfS, tOr, tAnd, tNot, tTest, tB, tChain, tCB, tCons, tNil, tCall, tSl, tNoPart, tPart, tNext, tDrop, tLst, tTup, tYes, tNotV, tAndV, tOrV, L2.start, List.set, List.map, List.length, List.replicate, List.cons_append, List.nil_append, List.append_nil, cK, bK, rI0, rI, rU, rIxS, rIxL, rIxT, tRetN, rSlL, rIn, rCatT, gTup, gCons, gNil, tRaiseI, tXInit, tDGet, tDGet1, tDGet2, tDIn, tDNotIn, sDPut, tDNewK, rDictOf, rEqDict, rCount, tCompX_list, xCall, sXFld, tXFld, rSlS, rEq, rNe, sc0, sc1, sc2, sc3, sc4, sc5, sc6, sc7, sc8, sc9, sc10, sc11, sc12, sc13, rCatS, rIsi, LenV, rAll, tFor_list, tFor_tup, tFor_str, tFor_rng1, tFor_rng2, tComp_list, tComp_tup, tComp_str, tComp_rng1, blkSt, tBM, rAppend, rStarts, rIndex, tIf, tMake, tMeth, sFld, tFld, tRepr, tFmt, jNil, jCons, tJoined, rJoin, rIsx, rIst, tRaise, tTryAs, tTry0, un1, xMeth, xDrop, xSet, xRet, xOf, xSeq, List.getElem?_cons_zero, List.getElem?_cons_succ, Option.some.injEq, V.int.injEq, V.str.injEq, V.bl.injEq, V.ref.injEq, V.ty.injEq, List.cons.injEq, exists_eq_left', exists_eq_left, exists_eq', and_assoc, if_true, if_false, Bool.not_false, Bool.not_true, Bool.not_not, Bool.false_eq_true, exists_and_left, and_true, true_and, List.set_cons_zero, List.set_cons_succ, Option.join_some, false_and, or_false, false_or, exists_false, sp_cellat, sp_nameby, sp_wordrow, sp_toldby, sp_drawn, sp_copy, sp_wrapped, sp_uinit, sp_places, sp_aimby, sp_aims, sp_aim, sp_whole, sp_last, sp_due, sp_alone, sp_refused, sp_holds, Ends.nx, Nat.reduceSub, Nat.reduceAdd, reduceCtorEq]))
      refine ⟨_, SqT.of na, rfl, _, _, rfl, _, _, rfl, _, _, rfl, _, _, rfl, rfl, rfl, ite2 (fun hz => ?_) (fun hz => ?_)⟩
      · have hz' : n.sort = z := by
          have := of_decide_eq_true hz
          injection this
        refine ⟨_, SqT.of (sm _ _ hp.top), _, rfl, by rw [sizeLine_eq]; decide, fun q hq => ⟨_, DPut.k (k := Sum.inr n.name) (same_new hq _ _ tab.top) (by rw [List.length_map, sizeLine_eq]; omega), same_upd hdn (sm.trans (same_new hq)), _, (tab.mono (same_new hq)).put (m := ⟨n.name, q, p.name, n.st, n.off⟩) upd_same, ?_⟩⟩
        rw [putT_new hnew, List.map_append, e, tk, List.filter_append, List.map_append]
        simp [hz']
      · have hz' : n.sort ≠ z := fun y => hz (decide_eq_true (by rw [y]))
        refine ⟨sm, ms, tab, ?_⟩
        rw [tk, List.filter_append, e]
        simp [hz']
    · rintro σ H' ⟨ms, b3, b4, b5, b6, rfl, sm, tab, e⟩
      rw [List.length_map, List.take_length] at e
      ((try dsimp only [tSeq, tAsg, gName, tC, tOp, tUn, tVar, tRet, tIfS, tOr, tAnd, tNot, tTest, tB, tChain, tCB, tCons, tNil, tCall, tSl, tNoPart, tPart, tNext, tDrop, tLst, tTup, tYes, tNotV, tAndV, tOrV, L2.start, List.set, List.map, List.length, List.replicate, List.cons_append, List.nil_append, List.append_nil, cK, bK, rI0, rI, rU, rIxS, rIxL, rIxT, tRetN, rSlL, rIn, rCatT, gTup, gCons, gNil, tRaiseI, tXInit, tDGet, tDGet1, tDGet2, tDIn, tDNotIn, sDPut, tDNewK, rDictOf, rEqDict, rCount, tCompX_list, xCall, sXFld, tXFld, rSlS, rEq, rNe, sc0, sc1, sc2, sc3, sc4, sc5, sc6, sc7, sc8, sc9, sc10, sc11, sc12, sc13, rCatS, rIsi, LenV, rAll, tFor_list, tFor_tup, tFor_str, tFor_rng1, tFor_rng2, tComp_list, tComp_tup, tComp_str, tComp_rng1, blkSt, tBM, rAppend, rStarts, rIndex, tIf, tMake, tMeth, sFld, tFld, tRepr, tFmt, jNil, jCons, tJoined, rJoin, rIsx, rIst, tRaise, tTryAs, tTry0, un1, xMeth, xDrop, xSet, xRet, xOf, xSeq, List.getElem?_cons_zero, List.getElem?_cons_succ, Option.some.injEq, V.int.injEq, V.str.injEq, V.bl.injEq, V.ref.injEq, V.ty.injEq, List.cons.injEq, exists_eq_left', exists_eq_left, exists_eq', and_assoc, if_true, if_false, Bool.not_false, Bool.not_true, Bool.not_not, Bool.false_eq_true, exists_and_left, and_true, true_and, List.set_cons_zero, List.set_cons_succ, Option.join_some, false_and, or_false, false_or, exists_false, sp_cellat, sp_nameby, sp_wordrow, sp_toldby, sp_drawn, sp_copy, sp_wrapped, sp_uinit, sp_places, sp_aimby, sp_aims, sp_aim, sp_whole, sp_last, sp_due, sp_alone, sp_refused, sp_holds, Ends.nx, Nat.reduceSub, Nat.reduceAdd]); (try simp only [tSeq, tAsg, gName, tC, tOp, tUn, tVar, tRet, tIfS, tOr, tAnd, tNot, tTest, tB, tChain, tCB, tCons, tNil, tCall, tSl, tNoPart, tPart, tNext, tDrop, tLst, tTup, tYes, tNotV, tAndV, tOrV, L2.start, List.set, List.map, List.length, List.replicate, List.cons_append, List.nil_append, List.append_nil, cK, bK, rI0, rI, rU, rIxS, rIxL, rIxT, tRetN, rSlL, rIn, rCatT, gTup, gCons, gNil, tRaiseI, tXInit, tDGet, tDGet1, tDGet2, tDIn, tDNotIn, sDPut, tDNewK, rDictOf, rEqDict, rCount, tCompX_list, xCall, sXFld, tXFld, rSlS, rEq, rNe, sc0, sc1, sc2, sc3, sc4, sc5, sc6, sc7, sc8, sc9, sc10, sc11, sc12, sc13, rCatS, rIsi, LenV, rAll, tFor_list, tFor_tup, tFor_str, tFor_rng1, tFor_rng2, tComp_list, tComp_tup, tComp_str, tComp_rng1, blkSt, tBM, rAppend, rStarts, rIndex, tIf, tMake, tMeth, sFld, tFld, tRepr, tFmt, jNil, jCons, tJoined, rJoin, rIsx, rIst, tRaise, tTryAs, tTry0, un1, xMeth, xDrop, xSet, xRet, xOf, xSeq, List.getElem?_cons_zero, List.getElem?_cons_succ, Option.some.injEq, V.int.injEq, V.str.injEq, V.bl.injEq, V.ref.injEq, V.ty.injEq, List.cons.injEq, exists_eq_left', exists_eq_left, exists_eq', and_assoc, if_true, if_false, Bool.not_false, Bool.not_true, Bool.not_not, Bool.false_eq_true, exists_and_left, and_true, true_and, List.set_cons_zero, List.set_cons_succ, Option.join_some, false_and, or_false, false_or, exists_false, sp_cellat, sp_nameby, sp_wordrow, sp_toldby, sp_drawn, sp_copy, sp_wrapped, sp_uinit, sp_places, sp_aimby, sp_aims, sp_aim, sp_whole, sp_last, sp_due, sp_alone, sp_refused, sp_holds, Ends.nx, Nat.reduceSub, Nat.reduceAdd, reduceCtorEq]))
      exact k d ms H' sm tab e hdn
theorem FillIn.mono {H H' : Hp} {p : PcM} {f : FillM} (h : FillIn H p f) (e : Same H H') : FillIn H' p f := ⟨h.at_.mono e, h.few, h.nd, h.pn, h.fa.mono e, h.fn⟩
theorem find_quad {ms : List TabM} {ns : List ToldM} {pn z : Str} (e : ms.map (fun m => (m.name, m.a, m.b, m.c)) = ns.map (fun n => (n.name, pn, n.st, n.off))) : (lookT ms z).map (fun m => (m.a, m.b, m.c)) = (ns.find? fun n => decide (n.name = z)).map fun n => (pn, n.st, n.off) := by
  have h1 : (lookT ms z).map (fun m => (m.a, m.b, m.c)) = ((ms.map (fun m => (m.name, m.a, m.b, m.c))).find? fun t => decide (t.1 = z)).map (·.2) := by
    unfold lookT
    rw [List.find?_map, Option.map_map]
    rfl
  have h2 : ((ns.find? fun n => decide (n.name = z)).map fun n => (pn, n.st, n.off)) = ((ns.map (fun n => (n.name, pn, n.st, n.off))).find? fun t => decide (t.1 = z)).map (·.2) := by
    rw [List.find?_map, Option.map_map]
    rfl
  rw [h1, h2, e]
theorem res_of {p : PcM} {mo mn : List TabM} {f : FillM} (e : mo.map (fun m => (m.name, m.a, m.b, m.c)) = (p.nms.filter fun n => decide (n.sort = Str.ofString "own")).map (fun n => (n.name, p.name, n.st, n.off))) :
    resOf p mn f = ((lookT mo f.name).or (lookT mn f.name)).map fun m => (m.a, m.b, m.c) := by
  have h := find_quad (z := f.name) e
  rw [List.find?_filter] at h
  have h' : (p.nms.find? fun a => decide (decide (a.sort = Str.ofString "own") = true ∧ decide (a.name = f.name) = true)) = p.nms.find? fun n => decide (n.name = f.name) && decide (n.sort = sOwn) := by
    congr 1
    funext n
    unfold sOwn
    by_cases a : n.sort = Str.ofString "own" <;> by_cases b : n.name = f.name <;> simp [a, b]
  unfold resOf
  rw [h'] at h
  cases q : p.nms.find? fun n => decide (n.name = f.name) && decide (n.sort = sOwn) with
  | none =>
    rw [q] at h
    have : lookT mo f.name = none := by simpa using h
    rw [this]
    rfl
  | some n =>
    rw [q] at h
    cases q2 : lookT mo f.name with
    | none => rw [q2] at h; cases h
    | some m => rw [q2] at h; simpa using h.symm
theorem G_aim_by (T : Txt K mg A) : FnOk P w K mg base (CXE P w) 3 A.aim_by A.fd_aim_by ["piece_name", "own", "names", "fill"] (sp_aimby A) := by
  refine T.F_aim_by.okE sc_aim_by (fun vs H Q E h => ?_) (fun cdv Ar outer s H vs Q E hr h => ?_)
  · obtain ⟨pn, dO, dN, f, mo, mn, rfl, _⟩ := h
    rfl
  · obtain ⟨pn, dO, dN, f, mo, mn, rfl, hf, hO, hN, hp, hn, k1, k2, k3⟩ := h
    refine ⟨_, (pss_cons (ps_set (i := 4) sc_aim_by.nd rfl (by first | exact Or.inl rfl | exact Or.inr rfl) (pe_ix (ix_tupK (K := K) rfl) (pv 3) pe_int (fun _ _ => rfl))) (pss_cons (ps_set (i := 5) sc_aim_by.nd rfl (by first | exact Or.inl rfl | exact Or.inr rfl) (pe_ix (ix_tupK (K := K) rfl) (pv 3) pe_int (fun _ _ => rfl))) (pss_cons (ps_set (i := 6) sc_aim_by.nd rfl (by first | exact Or.inl rfl | exact Or.inr rfl) (pe_ix (ix_tupK (K := K) rfl) (pv 3) pe_int (fun _ _ => rfl))) (pss_cons (ps_set (i := 7) sc_aim_by.nd rfl (by first | exact Or.inl rfl | exact Or.inr rfl) (pe_dget2 (hu_of hr) (pv 1) (pv 4) (pe_dget1 (hu_of hr) (pv 2) (pv 4) ⟨rfl, rfl, rfl, rfl⟩) ⟨rfl, rfl, rfl, rfl⟩)) (pss_cons (ps_if (pt_cmpR op_notN (pv 7) pe_non (nomark _)) (pss_one (ps_ret (pe_tup (pa_cons (pe_ix (ix_tupK (K := K) rfl) (pv 7) pe_int (fun _ _ => rfl)) (pa_cons (pe_ix (ix_tupK (K := K) rfl) (pv 7) pe_int (fun _ _ => rfl)) (pa_cons (pe_op op_add (pe_ix (ix_tupK (K := K) rfl) (pv 7) pe_int (fun _ _ => rfl)) (pv 5)) pa_nil)))))) pss_nil) (pss_cons (ps_if (pt_val (pv 6)) (pss_one (ps_ret (pe_call (G_wrapped T) (hr.mono (by decide)) rfl T.m_wrapped T.k_wrapped T.b_wrapped .nil pass0 (pa_cons (pv 5) pa_nil)))) pss_nil) (pss_one (ps_raiseI (G_Unmet___init__ T) (hr.mono (by decide)) T.b_Unmet___init__ T.er_Unmet rfl T.mc_Unmet rfl xe_cx (pa_cons (pv 4) (pa_cons (pv 0) pa_nil)))))))))), ?_⟩
    ((try dsimp only [tSeq, tAsg, gName, tC, tOp, tUn, tVar, tRet, tIfS, tOr, tAnd, tNot, tTest, tB, tChain, tCB, tCons, tNil, tCall, tSl, tNoPart, tPart, tNext, tDrop, tLst, tTup, tYes, tNotV, tAndV, tOrV, L2.start, List.set, List.map, List.length, List.replicate, List.cons_append, List.nil_append, List.append_nil, cK, bK, rI0, rI, rU, rIxS, rIxL, rIxT, tRetN, rSlL, rIn, rCatT, gTup, gCons, gNil, tRaiseI, tXInit, tDGet, tDGet1, tDGet2, tDIn, tDNotIn, sDPut, tDNewK, rDictOf, rEqDict, rCount, tCompX_list, xCall, sXFld, tXFld, rSlS, rEq, rNe, sc0, sc1, sc2, sc3, sc4, sc5, sc6, sc7, sc8, sc9, sc10, sc11, sc12, sc13, rCatS, rIsi, LenV, rAll, tFor_list, tFor_tup, tFor_str, tFor_rng1, tFor_rng2, tComp_list, tComp_tup, tComp_str, tComp_rng1, blkSt, tBM, rAppend, rStarts, rIndex, tIf, tMake, tMeth, sFld, tFld, tRepr, tFmt, jNil, jCons, tJoined, rJoin, rIsx, rIst, tRaise, tTryAs, tTry0, un1, xMeth, xDrop, xSet, xRet, xOf, xSeq, List.getElem?_cons_zero, List.getElem?_cons_succ, Option.some.injEq, V.int.injEq, V.str.injEq, V.bl.injEq, V.ref.injEq, V.ty.injEq, List.cons.injEq, exists_eq_left', exists_eq_left, exists_eq', and_assoc, if_true, if_false, Bool.not_false, Bool.not_true, Bool.not_not, Bool.false_eq_true, exists_and_left, and_true, true_and, List.set_cons_zero, List.set_cons_succ, Option.join_some, false_and, or_false, false_or, exists_false, sp_cellat, sp_nameby, sp_wordrow, sp_toldby, sp_drawn, sp_copy, sp_wrapped, sp_uinit, sp_places, sp_aimby, sp_aims, sp_aim, sp_whole, sp_last, sp_due, sp_alone, sp_refused, sp_holds, Ends.nx, Nat.reduceSub, Nat.reduceAdd]); (try simp only [tSeq, tAsg, gName, tC, tOp, tUn, tVar, tRet, tIfS, tOr, tAnd, tNot, tTest, tB, tChain, tCB, tCons, tNil, tCall, tSl, tNoPart, tPart, tNext, tDrop, tLst, tTup, tYes, tNotV, tAndV, tOrV, L2.start, List.set, List.map, List.length, List.replicate, List.cons_append, List.nil_append, List.append_nil, cK, bK, rI0, rI, rU, rIxS, rIxL, rIxT, tRetN, rSlL, rIn, rCatT, gTup, gCons, gNil, tRaiseI, tXInit, tDGet, tDGet1, tDGet2, tDIn, tDNotIn, sDPut, tDNewK, rDictOf, rEqDict, rCount, tCompX_list, xCall, sXFld, tXFld, rSlS, rEq, rNe, sc0, sc1, sc2, sc3, sc4, sc5, sc6, sc7, sc8, sc9, sc10, sc11, sc12, sc13, rCatS, rIsi, LenV, rAll, tFor_list, tFor_tup, tFor_str, tFor_rng1, tFor_rng2, tComp_list, tComp_tup, tComp_str, tComp_rng1, blkSt, tBM, rAppend, rStarts, rIndex, tIf, tMake, tMeth, sFld, tFld, tRepr, tFmt, jNil, jCons, tJoined, rJoin, rIsx, rIst, tRaise, tTryAs, tTry0, un1, xMeth, xDrop, xSet, xRet, xOf, xSeq, List.getElem?_cons_zero, List.getElem?_cons_succ, Option.some.injEq, V.int.injEq, V.str.injEq, V.bl.injEq, V.ref.injEq, V.ty.injEq, List.cons.injEq, exists_eq_left', exists_eq_left, exists_eq', and_assoc, if_true, if_false, Bool.not_false, Bool.not_true, Bool.not_not, Bool.false_eq_true, exists_and_left, and_true, true_and, List.set_cons_zero, List.set_cons_succ, Option.join_some, false_and, or_false, false_or, exists_false, sp_cellat, sp_nameby, sp_wordrow, sp_toldby, sp_drawn, sp_copy, sp_wrapped, sp_uinit, sp_places, sp_aimby, sp_aims, sp_aim, sp_whole, sp_last, sp_due, sp_alone, sp_refused, sp_holds, Ends.nx, Nat.reduceSub, Nat.reduceAdd, reduceCtorEq]))
    have gO : DGet H dO (V.str f.name) ((lookT mo f.name).map fun m => V.ref m.t) := by rw [← valT]; exact DGet.k (k := Sum.inr f.name) hO.top
    have gN : DGet H dN (V.str f.name) ((lookT mn f.name).map fun m => V.ref m.t) := by rw [← valT]; exact DGet.k (k := Sum.inr f.name) hN.top
    refine ⟨_, SqT.of hf, _, rfl, _, SqT.of hf, _, rfl, _, SqT.of hf, _, rfl, .inl ⟨_, .inl hO.top⟩, .inl ⟨_, .inl hN.top⟩, _, gN, _, gO, ?_⟩
    cases q1 : lookT mo f.name with
    | some m =>
      rw [q1] at k1 k2 k3
      have hm := hO.at_ m (List.mem_of_find?_eq_some q1)
      simp only [Option.map_some, Option.getD_some]
      rw [if_pos (by simp)]
      exact ⟨m.t, rfl, _, SqT.of hm, _, rfl, m.t, rfl, _, SqT.of hm, _, rfl, m.t, rfl, _, SqT.of hm, _, rfl, m.c, rfl, f.add, rfl, by rw [sizeLine_eq]; decide, fun q hq => k1 m rfl q hq⟩
    | none =>
      rw [q1] at k1 k2 k3
      cases q2 : lookT mn f.name with
      | some m =>
        rw [q2] at k1 k2 k3
        have hm := hN.at_ m (List.mem_of_find?_eq_some q2)
        simp only [Option.map_some, Option.getD_some, Option.map_none, Option.getD_none]
        rw [if_pos (by simp)]
        exact ⟨m.t, rfl, _, SqT.of hm, _, rfl, m.t, rfl, _, SqT.of hm, _, rfl, m.t, rfl, _, SqT.of hm, _, rfl, m.c, rfl, f.add, rfl, by rw [sizeLine_eq]; decide, fun q hq => k1 m rfl q hq⟩
      | none =>
        rw [q2] at k1 k2 k3
        simp only [Option.map_none, Option.getD_none]
        rw [if_neg (by simp)]
        refine ⟨f.soft, rfl, ite2 (fun hs => ⟨f.add, rfl, k2 rfl hs⟩) (fun hs => ⟨by rw [sizeLine_eq]; decide, fun x hx => ⟨f.name, rfl, upd_same, hn.1, hn.2, hp.1, hp.2, fun d H' hd hne hk hx' hd' => .inr ⟨d, hne, hx', _, hd', k3 rfl (by simpa using hs) d _ (fun b o q => ?_) ?_⟩⟩⟩)⟩
        · have hb := ne_of_none q hx
          have hdn := (free_of hd).2
          rw [del_ne hb, upd_ne (ne_of_none q hdn)]
          exact hk b o hb (by rw [upd_ne hb]; exact q)
        · rw [del_ne hne, upd_same]; rfl
theorem G_aims (T : Txt K mg A) : FnOk P w K mg base (CXE P w) 4 A.aims A.fd_aims ["piece", "names", "fills"] (sp_aims K A) := by
  refine T.F_aims.okE sc_aims (fun vs H Q E h => ?_) (fun cdv Ar outer s H vs Q E hr h => ?_)
  · obtain ⟨p, dN, l, f, mn, rfl, _⟩ := h
    rfl
  · obtain ⟨p, dN, l, f, mn, rfl, hi, hN, hl, k⟩ := h
    refine ⟨_, (pss_cons (ps_set (i := 3) sc_aims.nd rfl (by first | exact Or.inl rfl | exact Or.inr rfl) (pe_call (G_places_told T) (hr.mono (by decide)) rfl T.m_places_told T.k_places_told T.b_places_told .nil pass0 (pa_cons (pv 0) (pa_cons pe_str pa_nil)))) (pss_one (ps_ret (pe_compX (blk_mk (own := ["fill"]) (fr := ["own", "names", "piece"]) (fm := [3, 1, 0]) rfl (by decide +kernel) (by decide +kernel) (by decide +kernel) (.cons rfl (by first | exact Or.inl rfl | exact Or.inr rfl) rfl (.cons rfl (by first | exact Or.inl rfl | exact Or.inr rfl) rfl (.cons rfl (by first | exact Or.inl rfl | exact Or.inr rfl) rfl .nil)))) rfl (pi_listK (K := K) rfl (pv 2)) (fun _ _ _ => ⟨(pg_name (i := 0) (by show List.Nodup (["fill", "own", "names", "piece"] : List Str); decide +kernel) rfl (by first | exact Or.inl rfl | exact Or.inr rfl)), pts_nil, (pex_call (G_aim_by T) (hr.mono (by decide)) rfl T.m_aim_by T.k_aim_by T.b_aim_by .nil (pa_cons (pe_ix (ix_tupK (K := K) rfl) (pv 3) pe_int (fun _ _ => rfl)) (pa_cons (pv 1) (pa_cons (pv 2) (pa_cons (pv 0) pa_nil)))))⟩) xeF_cx rfl rfl)))), ?_⟩
    ((try dsimp only [tSeq, tAsg, gName, tC, tOp, tUn, tVar, tRet, tIfS, tOr, tAnd, tNot, tTest, tB, tChain, tCB, tCons, tNil, tCall, tSl, tNoPart, tPart, tNext, tDrop, tLst, tTup, tYes, tNotV, tAndV, tOrV, L2.start, List.set, List.map, List.length, List.replicate, List.cons_append, List.nil_append, List.append_nil, cK, bK, rI0, rI, rU, rIxS, rIxL, rIxT, tRetN, rSlL, rIn, rCatT, gTup, gCons, gNil, tRaiseI, tXInit, tDGet, tDGet1, tDGet2, tDIn, tDNotIn, sDPut, tDNewK, rDictOf, rEqDict, rCount, tCompX_list, xCall, sXFld, tXFld, rSlS, rEq, rNe, sc0, sc1, sc2, sc3, sc4, sc5, sc6, sc7, sc8, sc9, sc10, sc11, sc12, sc13, rCatS, rIsi, LenV, rAll, tFor_list, tFor_tup, tFor_str, tFor_rng1, tFor_rng2, tComp_list, tComp_tup, tComp_str, tComp_rng1, blkSt, tBM, rAppend, rStarts, rIndex, tIf, tMake, tMeth, sFld, tFld, tRepr, tFmt, jNil, jCons, tJoined, rJoin, rIsx, rIst, tRaise, tTryAs, tTry0, un1, xMeth, xDrop, xSet, xRet, xOf, xSeq, List.getElem?_cons_zero, List.getElem?_cons_succ, Option.some.injEq, V.int.injEq, V.str.injEq, V.bl.injEq, V.ref.injEq, V.ty.injEq, List.cons.injEq, exists_eq_left', exists_eq_left, exists_eq', and_assoc, if_true, if_false, Bool.not_false, Bool.not_true, Bool.not_not, Bool.false_eq_true, exists_and_left, and_true, true_and, List.set_cons_zero, List.set_cons_succ, Option.join_some, false_and, or_false, false_or, exists_false, sp_cellat, sp_nameby, sp_wordrow, sp_toldby, sp_drawn, sp_copy, sp_wrapped, sp_uinit, sp_places, sp_aimby, sp_aims, sp_aim, sp_whole, sp_last, sp_due, sp_alone, sp_refused, sp_holds, Ends.nx, Nat.reduceSub, Nat.reduceAdd]); (try simp only [tSeq, tAsg, gName, tC, tOp, tUn, tVar, tRet, tIfS, tOr, tAnd, tNot, tTest, tB, tChain, tCB, tCons, tNil, tCall, tSl, tNoPart, tPart, tNext, tDrop, tLst, tTup, tYes, tNotV, tAndV, tOrV, L2.start, List.set, List.map, List.length, List.replicate, List.cons_append, List.nil_append, List.append_nil, cK, bK, rI0, rI, rU, rIxS, rIxL, rIxT, tRetN, rSlL, rIn, rCatT, gTup, gCons, gNil, tRaiseI, tXInit, tDGet, tDGet1, tDGet2, tDIn, tDNotIn, sDPut, tDNewK, rDictOf, rEqDict, rCount, tCompX_list, xCall, sXFld, tXFld, rSlS, rEq, rNe, sc0, sc1, sc2, sc3, sc4, sc5, sc6, sc7, sc8, sc9, sc10, sc11, sc12, sc13, rCatS, rIsi, LenV, rAll, tFor_list, tFor_tup, tFor_str, tFor_rng1, tFor_rng2, tComp_list, tComp_tup, tComp_str, tComp_rng1, blkSt, tBM, rAppend, rStarts, rIndex, tIf, tMake, tMeth, sFld, tFld, tRepr, tFmt, jNil, jCons, tJoined, rJoin, rIsx, rIst, tRaise, tTryAs, tTry0, un1, xMeth, xDrop, xSet, xRet, xOf, xSeq, List.getElem?_cons_zero, List.getElem?_cons_succ, Option.some.injEq, V.int.injEq, V.str.injEq, V.bl.injEq, V.ref.injEq, V.ty.injEq, List.cons.injEq, exists_eq_left', exists_eq_left, exists_eq', and_assoc, if_true, if_false, Bool.not_false, Bool.not_true, Bool.not_not, Bool.false_eq_true, exists_and_left, and_true, true_and, List.set_cons_zero, List.set_cons_succ, Option.join_some, false_and, or_false, false_or, exists_false, sp_cellat, sp_nameby, sp_wordrow, sp_toldby, sp_drawn, sp_copy, sp_wrapped, sp_uinit, sp_places, sp_aimby, sp_aims, sp_aim, sp_whole, sp_last, sp_due, sp_alone, sp_refused, sp_holds, Ends.nx, Nat.reduceSub, Nat.reduceAdd, reduceCtorEq]))
    refine ⟨p, rfl, hi.at_, hi.few, hi.nd, fun d mo H' s1 tab e hd => ?_⟩
    have tN := hN.mono s1
    have hi' := hi.mono s1
    have er := res_of (mn := mn) (f := f) e
    obtain ⟨k1, k2, k3⟩ := k
    refine CompLX.of (by rw [sizeLine_eq]; simp) (s1.seq hl) (fun D i ys H2 => Same H' H2 ∧ H2 D = some (.lst ys) ∧ ys.length = i ∧ (i = 1 → ∃ v, ys = [v] ∧ ((∃ a b c q, resOf p mn f = some (a, b, c) ∧ v = .ref q ∧ H2 q = some (upd3 a b (c + f.add))) ∨ (resOf p mn f = none ∧ f.soft = true ∧ v = .int (f.add % 4294967296)))))
      (fun D hD => ⟨same_new hD, upd_same, rfl, fun z => by cases z⟩) ?_ ?_ ?_
    · rintro D i ys H2 hD hi1 ⟨s2, hDD, hl2, _⟩
      exact ⟨s2.seq (s1.seq hl), hDD, by omega⟩
    · rintro D i x ys H2 hD hx ⟨s2, hDD, hl2, _⟩
      have h0 : i = 0 ∧ x = f.v := by
        cases i with
        | zero => exact ⟨rfl, (Option.some.inj hx).symm⟩
        | succ j => simp at hx
      obtain ⟨rfl, rfl⟩ := h0
      have hy : ys = [] := List.length_eq_zero_iff.mp hl2
      subst hy
      ((try dsimp only [tSeq, tAsg, gName, tC, tOp, tUn, tVar, tRet, tIfS, tOr, tAnd, tNot, tTest, tB, tChain, tCB, tCons, tNil, tCall, tSl, tNoPart, tPart, tNext, tDrop, tLst, tTup, tYes, tNotV, tAndV, tOrV, L2.start, List.set, List.map, List.length, List.replicate, List.cons_append, List.nil_append, List.append_nil, cK, bK, rI0, rI, rU, rIxS, rIxL, rIxT, tRetN, rSlL, rIn, rCatT, gTup, gCons, gNil, tRaiseI, tXInit, tDGet, tDGet1, tDGet2, tDIn, tDNotIn, sDPut, tDNewK, rDictOf, rEqDict, rCount, tCompX_list, xCall, sXFld, tXFld, rSlS, rEq, rNe, sc0, sc1, sc2, sc3, sc4, sc5, sc6, sc7, sc8, sc9, sc10, sc11, sc12, sc13, rCatS, rIsi, LenV, rAll, tFor_list, tFor_tup, tFor_str, tFor_rng1, tFor_rng2, tComp_list, tComp_tup, tComp_str, tComp_rng1, blkSt, tBM, rAppend, rStarts, rIndex, tIf, tMake, tMeth, sFld, tFld, tRepr, tFmt, jNil, jCons, tJoined, rJoin, rIsx, rIst, tRaise, tTryAs, tTry0, un1, xMeth, xDrop, xSet, xRet, xOf, xSeq, List.getElem?_cons_zero, List.getElem?_cons_succ, Option.some.injEq, V.int.injEq, V.str.injEq, V.bl.injEq, V.ref.injEq, V.ty.injEq, List.cons.injEq, exists_eq_left', exists_eq_left, exists_eq', and_assoc, if_true, if_false, Bool.not_false, Bool.not_true, Bool.not_not, Bool.false_eq_true, exists_and_left, and_true, true_and, List.set_cons_zero, List.set_cons_succ, Option.join_some, false_and, or_false, false_or, exists_false, sp_cellat, sp_nameby, sp_wordrow, sp_toldby, sp_drawn, sp_copy, sp_wrapped, sp_uinit, sp_places, sp_aimby, sp_aims, sp_aim, sp_whole, sp_last, sp_due, sp_alone, sp_refused, sp_holds, Ends.nx, Nat.reduceSub, Nat.reduceAdd]); (try simp only [tSeq, tAsg, gName, tC, tOp, tUn, tVar, tRet, tIfS, tOr, tAnd, tNot, tTest, tB, tChain, tCB, tCons, tNil, tCall, tSl, tNoPart, tPart, tNext, tDrop, tLst, tTup, tYes, tNotV, tAndV, tOrV, L2.start, List.set, List.map, List.length, List.replicate, List.cons_append, List.nil_append, List.append_nil, cK, bK, rI0, rI, rU, rIxS, rIxL, rIxT, tRetN, rSlL, rIn, rCatT, gTup, gCons, gNil, tRaiseI, tXInit, tDGet, tDGet1, tDGet2, tDIn, tDNotIn, sDPut, tDNewK, rDictOf, rEqDict, rCount, tCompX_list, xCall, sXFld, tXFld, rSlS, rEq, rNe, sc0, sc1, sc2, sc3, sc4, sc5, sc6, sc7, sc8, sc9, sc10, sc11, sc12, sc13, rCatS, rIsi, LenV, rAll, tFor_list, tFor_tup, tFor_str, tFor_rng1, tFor_rng2, tComp_list, tComp_tup, tComp_str, tComp_rng1, blkSt, tBM, rAppend, rStarts, rIndex, tIf, tMake, tMeth, sFld, tFld, tRepr, tFmt, jNil, jCons, tJoined, rJoin, rIsx, rIst, tRaise, tTryAs, tTry0, un1, xMeth, xDrop, xSet, xRet, xOf, xSeq, List.getElem?_cons_zero, List.getElem?_cons_succ, Option.some.injEq, V.int.injEq, V.str.injEq, V.bl.injEq, V.ref.injEq, V.ty.injEq, List.cons.injEq, exists_eq_left', exists_eq_left, exists_eq', and_assoc, if_true, if_false, Bool.not_false, Bool.not_true, Bool.not_not, Bool.false_eq_true, exists_and_left, and_true, true_and, List.set_cons_zero, List.set_cons_succ, Option.join_some, false_and, or_false, false_or, exists_false, sp_cellat, sp_nameby, sp_wordrow, sp_toldby, sp_drawn, sp_copy, sp_wrapped, sp_uinit, sp_places, sp_aimby, sp_aims, sp_aim, sp_whole, sp_last, sp_due, sp_alone, sp_refused, sp_holds, Ends.nx, Nat.reduceSub, Nat.reduceAdd, reduceCtorEq]))
      refine ⟨.no (.yes (.yes (.yes .nil))), _, SqT.of (s2 _ _ hi'.at_.top), _, rfl, p.name, rfl, f, rfl, s2 _ _ hi'.fa, mo, tab.mono s2, mn, tN.mono s2, hi.pn.1, hi.pn.2, hi.fn.1, hi.fn.2, fun m hm q hq => ?_, fun hm hs => ?_, fun hm hs d2 H3 s3 h3 => ?_⟩
      · exact ⟨by rw [upd_ne (ne_of_none hDD hq)]; exact hDD, same_upd hD (s2.trans (same_new hq)), upd_same, fun _ => .inl ⟨m.a, m.b, m.c, by rw [er, hm]; rfl, by rw [upd_ne (Ne.symm (ne_of_none hDD hq)), upd_same]⟩⟩
      · exact ⟨hDD, same_upd hD s2, upd_same, fun _ => .inr ⟨by rw [er, hm]; rfl, hs, rfl⟩⟩
      · exact k3 (by rw [er, hm]; rfl) hs d2 H3 ((s1.trans s2).trans s3) h3
    · rintro D ys H2 hD ⟨s2, hDD, _, hv⟩
      obtain ⟨v, rfl, h⟩ := hv rfl
      rcases h with ⟨a, b, c, q, e1, rfl, hq⟩ | ⟨e1, hs, rfl⟩
      · exact k1 a b c e1 q H2 (s1.trans s2) hq D H2 (Same.refl _) hDD
      · exact k2 e1 hs H2 (s1.trans s2) D H2 (Same.refl _) hDD
theorem G_aim (T : Txt K mg A) : FnOk P w K mg base (CXE P w) 5 A.aim A.fd_aim ["piece", "names", "fill"] (sp_aim A) := by
  refine T.F_aim.okE sc_aim (fun vs H Q E h => ?_) (fun cdv Ar outer s H vs Q E hr h => ?_)
  · obtain ⟨p, dN, f, mn, rfl, _⟩ := h
    rfl
  · obtain ⟨p, dN, f, mn, rfl, hi, hN, k⟩ := h
    refine ⟨_, (pss_one (ps_ret (pe_ix (ix_listK (K := K) rfl) (pe_call (G_aims T) (hr.mono (by decide)) rfl T.m_aims T.k_aims T.b_aims .nil (passesE xe_cx) (pa_cons (pv 0) (pa_cons (pv 1) (pa_cons (pe_lst (pa_cons (pv 2) pa_nil)) pa_nil)))) pe_int (fun _ _ => rfl)))), ?_⟩
    ((try dsimp only [tSeq, tAsg, gName, tC, tOp, tUn, tVar, tRet, tIfS, tOr, tAnd, tNot, tTest, tB, tChain, tCB, tCons, tNil, tCall, tSl, tNoPart, tPart, tNext, tDrop, tLst, tTup, tYes, tNotV, tAndV, tOrV, L2.start, List.set, List.map, List.length, List.replicate, List.cons_append, List.nil_append, List.append_nil, cK, bK, rI0, rI, rU, rIxS, rIxL, rIxT, tRetN, rSlL, rIn, rCatT, gTup, gCons, gNil, tRaiseI, tXInit, tDGet, tDGet1, tDGet2, tDIn, tDNotIn, sDPut, tDNewK, rDictOf, rEqDict, rCount, tCompX_list, xCall, sXFld, tXFld, rSlS, rEq, rNe, sc0, sc1, sc2, sc3, sc4, sc5, sc6, sc7, sc8, sc9, sc10, sc11, sc12, sc13, rCatS, rIsi, LenV, rAll, tFor_list, tFor_tup, tFor_str, tFor_rng1, tFor_rng2, tComp_list, tComp_tup, tComp_str, tComp_rng1, blkSt, tBM, rAppend, rStarts, rIndex, tIf, tMake, tMeth, sFld, tFld, tRepr, tFmt, jNil, jCons, tJoined, rJoin, rIsx, rIst, tRaise, tTryAs, tTry0, un1, xMeth, xDrop, xSet, xRet, xOf, xSeq, List.getElem?_cons_zero, List.getElem?_cons_succ, Option.some.injEq, V.int.injEq, V.str.injEq, V.bl.injEq, V.ref.injEq, V.ty.injEq, List.cons.injEq, exists_eq_left', exists_eq_left, exists_eq', and_assoc, if_true, if_false, Bool.not_false, Bool.not_true, Bool.not_not, Bool.false_eq_true, exists_and_left, and_true, true_and, List.set_cons_zero, List.set_cons_succ, Option.join_some, false_and, or_false, false_or, exists_false, sp_cellat, sp_nameby, sp_wordrow, sp_toldby, sp_drawn, sp_copy, sp_wrapped, sp_uinit, sp_places, sp_aimby, sp_aims, sp_aim, sp_whole, sp_last, sp_due, sp_alone, sp_refused, sp_holds, Ends.nx, Nat.reduceSub, Nat.reduceAdd]); (try simp only [tSeq, tAsg, gName, tC, tOp, tUn, tVar, tRet, tIfS, tOr, tAnd, tNot, tTest, tB, tChain, tCB, tCons, tNil, tCall, tSl, tNoPart, tPart, tNext, tDrop, tLst, tTup, tYes, tNotV, tAndV, tOrV, L2.start, List.set, List.map, List.length, List.replicate, List.cons_append, List.nil_append, List.append_nil, cK, bK, rI0, rI, rU, rIxS, rIxL, rIxT, tRetN, rSlL, rIn, rCatT, gTup, gCons, gNil, tRaiseI, tXInit, tDGet, tDGet1, tDGet2, tDIn, tDNotIn, sDPut, tDNewK, rDictOf, rEqDict, rCount, tCompX_list, xCall, sXFld, tXFld, rSlS, rEq, rNe, sc0, sc1, sc2, sc3, sc4, sc5, sc6, sc7, sc8, sc9, sc10, sc11, sc12, sc13, rCatS, rIsi, LenV, rAll, tFor_list, tFor_tup, tFor_str, tFor_rng1, tFor_rng2, tComp_list, tComp_tup, tComp_str, tComp_rng1, blkSt, tBM, rAppend, rStarts, rIndex, tIf, tMake, tMeth, sFld, tFld, tRepr, tFmt, jNil, jCons, tJoined, rJoin, rIsx, rIst, tRaise, tTryAs, tTry0, un1, xMeth, xDrop, xSet, xRet, xOf, xSeq, List.getElem?_cons_zero, List.getElem?_cons_succ, Option.some.injEq, V.int.injEq, V.str.injEq, V.bl.injEq, V.ref.injEq, V.ty.injEq, List.cons.injEq, exists_eq_left', exists_eq_left, exists_eq', and_assoc, if_true, if_false, Bool.not_false, Bool.not_true, Bool.not_not, Bool.false_eq_true, exists_and_left, and_true, true_and, List.set_cons_zero, List.set_cons_succ, Option.join_some, false_and, or_false, false_or, exists_false, sp_cellat, sp_nameby, sp_wordrow, sp_toldby, sp_drawn, sp_copy, sp_wrapped, sp_uinit, sp_places, sp_aimby, sp_aims, sp_aim, sp_whole, sp_last, sp_due, sp_alone, sp_refused, sp_holds, Ends.nx, Nat.reduceSub, Nat.reduceAdd, reduceCtorEq]))
    refine ⟨by rw [sizeLine_eq]; decide, fun l hl => ⟨p, rfl, f, hi.mono (same_new hl), mn, hN.mono (same_new hl), SqL.of upd_same, ?_⟩⟩
    have sl := same_new (o := HO.lst [f.v]) hl
    obtain ⟨k1, k2, k3⟩ := k
    exact ⟨fun a b c e q H' s1 h1 l' H2 s2 h2 => ⟨_, SqL.of h2, _, rfl, k1 a b c e q H2 ((sl.trans s1).trans s2) (s2 _ _ h1)⟩, fun e hs H' s1 l' H2 s2 h2 => ⟨_, SqL.of h2, _, rfl, k2 e hs H2 ((sl.trans s1).trans s2)⟩, fun e hs d H' s1 h1 => k3 e hs d H' (sl.trans s1) h1⟩
theorem G__law_whole (T : Txt K mg A) : FnOk P w K mg base CX0 1 A._law_whole A.fd__law_whole ["_law_found"] (sp_whole K) := by
  refine T.F__law_whole.ok sc__law_whole (fun vs H Q E h => ?_) (fun cdv Ar outer s H vs Q E hr h => ?_)
  · obtain ⟨i, rfl, _⟩ := h
    rfl
  · obtain ⟨i, rfl, k⟩ := h
    refine ⟨_, (pss_one (ps_ret (pe_and (pe_callB (call_isiK (K := K) rfl) (by rfl) T.n_isinstance bt_isinstance (pa_cons (pv 0) (pa_cons (pe_bltn rfl T.n_int bt_int relT) pa_nil))) (pe_one (pe_not (pe_callB (call_isiK (K := K) rfl) (by rfl) T.n_isinstance bt_isinstance (pa_cons (pv 0) (pa_cons (pe_bltn rfl T.n_bool bt_bool relT) pa_nil)))))))), ?_⟩
    ((try dsimp only [tSeq, tAsg, gName, tC, tOp, tUn, tVar, tRet, tIfS, tOr, tAnd, tNot, tTest, tB, tChain, tCB, tCons, tNil, tCall, tSl, tNoPart, tPart, tNext, tDrop, tLst, tTup, tYes, tNotV, tAndV, tOrV, L2.start, List.set, List.map, List.length, List.replicate, List.cons_append, List.nil_append, List.append_nil, cK, bK, rI0, rI, rU, rIxS, rIxL, rIxT, tRetN, rSlL, rIn, rCatT, gTup, gCons, gNil, tRaiseI, tXInit, tDGet, tDGet1, tDGet2, tDIn, tDNotIn, sDPut, tDNewK, rDictOf, rEqDict, rCount, tCompX_list, xCall, sXFld, tXFld, rSlS, rEq, rNe, sc0, sc1, sc2, sc3, sc4, sc5, sc6, sc7, sc8, sc9, sc10, sc11, sc12, sc13, rCatS, rIsi, LenV, rAll, tFor_list, tFor_tup, tFor_str, tFor_rng1, tFor_rng2, tComp_list, tComp_tup, tComp_str, tComp_rng1, blkSt, tBM, rAppend, rStarts, rIndex, tIf, tMake, tMeth, sFld, tFld, tRepr, tFmt, jNil, jCons, tJoined, rJoin, rIsx, rIst, tRaise, tTryAs, tTry0, un1, xMeth, xDrop, xSet, xRet, xOf, xSeq, List.getElem?_cons_zero, List.getElem?_cons_succ, Option.some.injEq, V.int.injEq, V.str.injEq, V.bl.injEq, V.ref.injEq, V.ty.injEq, List.cons.injEq, exists_eq_left', exists_eq_left, exists_eq', and_assoc, if_true, if_false, Bool.not_false, Bool.not_true, Bool.not_not, Bool.false_eq_true, exists_and_left, and_true, true_and, List.set_cons_zero, List.set_cons_succ, Option.join_some, false_and, or_false, false_or, exists_false, sp_cellat, sp_nameby, sp_wordrow, sp_toldby, sp_drawn, sp_copy, sp_wrapped, sp_uinit, sp_places, sp_aimby, sp_aims, sp_aim, sp_whole, sp_last, sp_due, sp_alone, sp_refused, sp_holds, Ends.nx, Nat.reduceSub, Nat.reduceAdd]); (try simp only [tSeq, tAsg, gName, tC, tOp, tUn, tVar, tRet, tIfS, tOr, tAnd, tNot, tTest, tB, tChain, tCB, tCons, tNil, tCall, tSl, tNoPart, tPart, tNext, tDrop, tLst, tTup, tYes, tNotV, tAndV, tOrV, L2.start, List.set, List.map, List.length, List.replicate, List.cons_append, List.nil_append, List.append_nil, cK, bK, rI0, rI, rU, rIxS, rIxL, rIxT, tRetN, rSlL, rIn, rCatT, gTup, gCons, gNil, tRaiseI, tXInit, tDGet, tDGet1, tDGet2, tDIn, tDNotIn, sDPut, tDNewK, rDictOf, rEqDict, rCount, tCompX_list, xCall, sXFld, tXFld, rSlS, rEq, rNe, sc0, sc1, sc2, sc3, sc4, sc5, sc6, sc7, sc8, sc9, sc10, sc11, sc12, sc13, rCatS, rIsi, LenV, rAll, tFor_list, tFor_tup, tFor_str, tFor_rng1, tFor_rng2, tComp_list, tComp_tup, tComp_str, tComp_rng1, blkSt, tBM, rAppend, rStarts, rIndex, tIf, tMake, tMeth, sFld, tFld, tRepr, tFmt, jNil, jCons, tJoined, rJoin, rIsx, rIst, tRaise, tTryAs, tTry0, un1, xMeth, xDrop, xSet, xRet, xOf, xSeq, List.getElem?_cons_zero, List.getElem?_cons_succ, Option.some.injEq, V.int.injEq, V.str.injEq, V.bl.injEq, V.ref.injEq, V.ty.injEq, List.cons.injEq, exists_eq_left', exists_eq_left, exists_eq', and_assoc, if_true, if_false, Bool.not_false, Bool.not_true, Bool.not_not, Bool.false_eq_true, exists_and_left, and_true, true_and, List.set_cons_zero, List.set_cons_succ, Option.join_some, false_and, or_false, false_or, exists_false, sp_cellat, sp_nameby, sp_wordrow, sp_toldby, sp_drawn, sp_copy, sp_wrapped, sp_uinit, sp_places, sp_aimby, sp_aims, sp_aim, sp_whole, sp_last, sp_due, sp_alone, sp_refused, sp_holds, Ends.nx, Nat.reduceSub, Nat.reduceAdd, reduceCtorEq]))
    exact ⟨_, .int i, true, rfl, iteT ⟨_, .int i, false, rfl, k⟩⟩
theorem G__law_last (T : Txt K mg A) : FnOk P w K mg base CX0 1 A._law_last A.fd__law_last ["_law_pieces"] sp_last := by
  refine T.F__law_last.ok sc__law_last (fun vs H Q E h => ?_) (fun cdv Ar outer s H vs Q E hr h => ?_)
  · obtain ⟨L, ps, rfl, _⟩ := h
    rfl
  · obtain ⟨L, ps, rfl, hP, hc, hfew, k⟩ := h
    refine ⟨_, (pss_cons (ps_set (i := 1) sc__law_last.nd rfl (by first | exact Or.inl rfl | exact Or.inr rfl) pe_dnewK) (pss_cons (ps_for PassesOwn.never rfl (pi_listK (K := K) rfl (pv 0)) (pg_tupK (K := K) (n := 3) rfl rfl (pgs_cons (pg_name (i := 2) sc__law_last.nd rfl (by first | exact Or.inl rfl | exact Or.inr rfl)) (pgs_cons (pg_name (i := 3) sc__law_last.nd rfl (by first | exact Or.inl rfl | exact Or.inr rfl)) (pgs_cons (pg_name (i := 4) sc__law_last.nd rfl (by first | exact Or.inl rfl | exact Or.inr rfl)) pgs_nil)))) (pss_one (ps_for PassesOwn.never rfl (pi_listK (K := K) rfl (pv 4)) (pg_tupK (K := K) (n := 4) rfl rfl (pgs_cons (pg_name (i := 5) sc__law_last.nd rfl (by first | exact Or.inl rfl | exact Or.inr rfl)) (pgs_cons (pg_name (i := 6) sc__law_last.nd rfl (by first | exact Or.inl rfl | exact Or.inr rfl)) (pgs_cons (pg_name (i := 7) sc__law_last.nd rfl (by first | exact Or.inl rfl | exact Or.inr rfl)) (pgs_cons (pg_name (i := 8) sc__law_last.nd rfl (by first | exact Or.inl rfl | exact Or.inr rfl)) pgs_nil))))) (pss_one (ps_if (pt_cmpR op_ne (pv 6) pe_str (nomark _)) (pss_one (ps_dput (hu_of hr) (pv 1) (pv 5) (pe_tup (pa_cons (pv 2) (pa_cons (pv 7) (pa_cons (pv 8) pa_nil)))) rfl)) pss_nil))))) (pss_one (ps_ret (pv 1))))), ?_⟩
    ((try dsimp only [tSeq, tAsg, gName, tC, tOp, tUn, tVar, tRet, tIfS, tOr, tAnd, tNot, tTest, tB, tChain, tCB, tCons, tNil, tCall, tSl, tNoPart, tPart, tNext, tDrop, tLst, tTup, tYes, tNotV, tAndV, tOrV, L2.start, List.set, List.map, List.length, List.replicate, List.cons_append, List.nil_append, List.append_nil, cK, bK, rI0, rI, rU, rIxS, rIxL, rIxT, tRetN, rSlL, rIn, rCatT, gTup, gCons, gNil, tRaiseI, tXInit, tDGet, tDGet1, tDGet2, tDIn, tDNotIn, sDPut, tDNewK, rDictOf, rEqDict, rCount, tCompX_list, xCall, sXFld, tXFld, rSlS, rEq, rNe, sc0, sc1, sc2, sc3, sc4, sc5, sc6, sc7, sc8, sc9, sc10, sc11, sc12, sc13, rCatS, rIsi, LenV, rAll, tFor_list, tFor_tup, tFor_str, tFor_rng1, tFor_rng2, tComp_list, tComp_tup, tComp_str, tComp_rng1, blkSt, tBM, rAppend, rStarts, rIndex, tIf, tMake, tMeth, sFld, tFld, tRepr, tFmt, jNil, jCons, tJoined, rJoin, rIsx, rIst, tRaise, tTryAs, tTry0, un1, xMeth, xDrop, xSet, xRet, xOf, xSeq, List.getElem?_cons_zero, List.getElem?_cons_succ, Option.some.injEq, V.int.injEq, V.str.injEq, V.bl.injEq, V.ref.injEq, V.ty.injEq, List.cons.injEq, exists_eq_left', exists_eq_left, exists_eq', and_assoc, if_true, if_false, Bool.not_false, Bool.not_true, Bool.not_not, Bool.false_eq_true, exists_and_left, and_true, true_and, List.set_cons_zero, List.set_cons_succ, Option.join_some, false_and, or_false, false_or, exists_false, sp_cellat, sp_nameby, sp_wordrow, sp_toldby, sp_drawn, sp_copy, sp_wrapped, sp_uinit, sp_places, sp_aimby, sp_aims, sp_aim, sp_whole, sp_last, sp_due, sp_alone, sp_refused, sp_holds, Ends.nx, Nat.reduceSub, Nat.reduceAdd]); (try simp only [tSeq, tAsg, gName, tC, tOp, tUn, tVar, tRet, tIfS, tOr, tAnd, tNot, tTest, tB, tChain, tCB, tCons, tNil, tCall, tSl, tNoPart, tPart, tNext, tDrop, tLst, tTup, tYes, tNotV, tAndV, tOrV, L2.start, List.set, List.map, List.length, List.replicate, List.cons_append, List.nil_append, List.append_nil, cK, bK, rI0, rI, rU, rIxS, rIxL, rIxT, tRetN, rSlL, rIn, rCatT, gTup, gCons, gNil, tRaiseI, tXInit, tDGet, tDGet1, tDGet2, tDIn, tDNotIn, sDPut, tDNewK, rDictOf, rEqDict, rCount, tCompX_list, xCall, sXFld, tXFld, rSlS, rEq, rNe, sc0, sc1, sc2, sc3, sc4, sc5, sc6, sc7, sc8, sc9, sc10, sc11, sc12, sc13, rCatS, rIsi, LenV, rAll, tFor_list, tFor_tup, tFor_str, tFor_rng1, tFor_rng2, tComp_list, tComp_tup, tComp_str, tComp_rng1, blkSt, tBM, rAppend, rStarts, rIndex, tIf, tMake, tMeth, sFld, tFld, tRepr, tFmt, jNil, jCons, tJoined, rJoin, rIsx, rIst, tRaise, tTryAs, tTry0, un1, xMeth, xDrop, xSet, xRet, xOf, xSeq, List.getElem?_cons_zero, List.getElem?_cons_succ, Option.some.injEq, V.int.injEq, V.str.injEq, V.bl.injEq, V.ref.injEq, V.ty.injEq, List.cons.injEq, exists_eq_left', exists_eq_left, exists_eq', and_assoc, if_true, if_false, Bool.not_false, Bool.not_true, Bool.not_not, Bool.false_eq_true, exists_and_left, and_true, true_and, List.set_cons_zero, List.set_cons_succ, Option.join_some, false_and, or_false, false_or, exists_false, sp_cellat, sp_nameby, sp_wordrow, sp_toldby, sp_drawn, sp_copy, sp_wrapped, sp_uinit, sp_places, sp_aimby, sp_aims, sp_aim, sp_whole, sp_last, sp_due, sp_alone, sp_refused, sp_holds, Ends.nx, Nat.reduceSub, Nat.reduceAdd, reduceCtorEq]))
    intro d hd
    refine ForL.of (xs := ps.map PcM.v) (fun i σ H' => ∃ ms b2 b3 b4 b5 b6 b7 b8, σ = [some (V.ref L), some (V.ref d), b2, b3, b4, b5, b6, b7, b8] ∧ Same H H' ∧ Tab H' d ms ∧ ms.length ≤ i * 61)
      ⟨[], _, _, _, _, _, _, _, rfl, same_new hd, ⟨upd_same, by simp⟩, by simp⟩ (fun i σ H' _ ⟨_, _, _, _, _, _, _, _, _, sm, _⟩ => SqL.of (sm _ _ hP.top)) ?_ ?_
    · rintro i x σ H' hx ⟨ms, b2, b3, b4, b5, b6, b7, b8, rfl, sm, tab, hl⟩
      rw [List.getElem?_map] at hx
      obtain ⟨p, hp, rfl⟩ := Option.map_eq_some_iff.mp hx
      have hi : i < ps.length := (List.getElem?_eq_some_iff.mp hp).1
      have hm := List.mem_of_getElem? hp
      have pa := hP.at_ p hm
      have pf := hfew p hm
      ((try dsimp only [tSeq, tAsg, gName, tC, tOp, tUn, tVar, tRet, tIfS, tOr, tAnd, tNot, tTest, tB, tChain, tCB, tCons, tNil, tCall, tSl, tNoPart, tPart, tNext, tDrop, tLst, tTup, tYes, tNotV, tAndV, tOrV, L2.start, List.set, List.map, List.length, List.replicate, List.cons_append, List.nil_append, List.append_nil, cK, bK, rI0, rI, rU, rIxS, rIxL, rIxT, tRetN, rSlL, rIn, rCatT, gTup, gCons, gNil, tRaiseI, tXInit, tDGet, tDGet1, tDGet2, tDIn, tDNotIn, sDPut, tDNewK, rDictOf, rEqDict, rCount, tCompX_list, xCall, sXFld, tXFld, rSlS, rEq, rNe, sc0, sc1, sc2, sc3, sc4, sc5, sc6, sc7, sc8, sc9, sc10, sc11, sc12, sc13, rCatS, rIsi, LenV, rAll, tFor_list, tFor_tup, tFor_str, tFor_rng1, tFor_rng2, tComp_list, tComp_tup, tComp_str, tComp_rng1, blkSt, tBM, rAppend, rStarts, rIndex, tIf, tMake, tMeth, sFld, tFld, tRepr, tFmt, jNil, jCons, tJoined, rJoin, rIsx, rIst, tRaise, tTryAs, tTry0, un1, xMeth, xDrop, xSet, xRet, xOf, xSeq, List.getElem?_cons_zero, List.getElem?_cons_succ, Option.some.injEq, V.int.injEq, V.str.injEq, V.bl.injEq, V.ref.injEq, V.ty.injEq, List.cons.injEq, exists_eq_left', exists_eq_left, exists_eq', and_assoc, if_true, if_false, Bool.not_false, Bool.not_true, Bool.not_not, Bool.false_eq_true, exists_and_left, and_true, true_and, List.set_cons_zero, List.set_cons_succ, Option.join_some, false_and, or_false, false_or, exists_false, sp_cellat, sp_nameby, sp_wordrow, sp_toldby, sp_drawn, sp_copy, sp_wrapped, sp_uinit, sp_places, sp_aimby, sp_aims, sp_aim, sp_whole, sp_last, sp_due, sp_alone, sp_refused, sp_holds, Ends.nx, Nat.reduceSub, Nat.reduceAdd]); (try simp only [tSeq, tAsg, gName, tC, tOp, tUn, tVar, tRet, tIfS, tOr, tAnd, tNot, tTest, tB, tChain, tCB, tCons, tNil, tCall, tSl, tNoPart, tPart, tNext, tDrop, tLst, tTup, tYes, tNotV, tAndV, tOrV, L2.start, List.set, List.map, List.length, List.replicate, List.cons_append, List.nil_append, List.append_nil, cK, bK, rI0, rI, rU, rIxS, rIxL, rIxT, tRetN, rSlL, rIn, rCatT, gTup, gCons, gNil, tRaiseI, tXInit, tDGet, tDGet1, tDGet2, tDIn, tDNotIn, sDPut, tDNewK, rDictOf, rEqDict, rCount, tCompX_list, xCall, sXFld, tXFld, rSlS, rEq, rNe, sc0, sc1, sc2, sc3, sc4, sc5, sc6, sc7, sc8, sc9, sc10, sc11, sc12, sc13, rCatS, rIsi, LenV, rAll, tFor_list, tFor_tup, tFor_str, tFor_rng1, tFor_rng2, tComp_list, tComp_tup, tComp_str, tComp_rng1, blkSt, tBM, rAppend, rStarts, rIndex, tIf, tMake, tMeth, sFld, tFld, tRepr, tFmt, jNil, jCons, tJoined, rJoin, rIsx, rIst, tRaise, tTryAs, tTry0, un1, xMeth, xDrop, xSet, xRet, xOf, xSeq, List.getElem?_cons_zero, List.getElem?_cons_succ, Option.some.injEq, V.int.injEq, V.str.injEq, V.bl.injEq, V.ref.injEq, V.ty.injEq, List.cons.injEq, exists_eq_left', exists_eq_left, exists_eq', and_assoc, if_true, if_false, Bool.not_false, Bool.not_true, Bool.not_not, Bool.false_eq_true, exists_and_left, and_true, true_and, List.set_cons_zero, List.set_cons_succ, Option.join_some, false_and, or_false, false_or, exists_false, sp_cellat, sp_nameby, sp_wordrow, sp_toldby, sp_drawn, sp_copy, sp_wrapped, sp_uinit, sp_places, sp_aimby, sp_aims, sp_aim, sp_whole, sp_last, sp_due, sp_alone, sp_refused, sp_holds, Ends.nx, Nat.reduceSub, Nat.reduceAdd, reduceCtorEq]))
      refine ⟨_, SqT.of (sm _ _ pa.top), rfl, _, _, rfl, _, _, rfl, _, _, rfl, rfl, ?_⟩
      refine ForL.of (xs := p.nms.map ToldM.v) (fun j σ H' => ∃ ms b5 b6 b7 b8, σ = [some (V.ref L), some (V.ref d), some (V.str p.name), some (V.ref p.ls), some (V.ref p.ln), b5, b6, b7, b8] ∧ Same H H' ∧ Tab H' d ms ∧ ms.length ≤ i * 61 + j)
        ⟨ms, _, _, _, _, rfl, sm, tab, by omega⟩ (fun j σ H' _ ⟨_, _, _, _, _, _, sm, _⟩ => SqL.of (sm _ _ pa.nl)) ?_ ?_
      · rintro j x σ H2 hx ⟨ms, b5, b6, b7, b8, rfl, sm, tab, hl⟩
        rw [List.getElem?_map] at hx
        obtain ⟨n, hn, rfl⟩ := Option.map_eq_some_iff.mp hx
        have hj : j < p.nms.length := (List.getElem?_eq_some_iff.mp hn).1
        have na := sm _ _ (pa.ns n (List.mem_of_getElem? hn))
        ((try dsimp only [tSeq, tAsg, gName, tC, tOp, tUn, tVar, tRet, tIfS, tOr, tAnd, tNot, tTest, tB, tChain, tCB, tCons, tNil, tCall, tSl, tNoPart, tPart, tNext, tDrop, tLst, tTup, tYes, tNotV, tAndV, tOrV, L2.start, List.set, List.map, List.length, List.replicate, List.cons_append, List.nil_append, List.append_nil, cK, bK, rI0, rI, rU, rIxS, rIxL, rIxT, tRetN, rSlL, rIn, rCatT, gTup, gCons, gNil, tRaiseI, tXInit, tDGet, tDGet1, tDGet2, tDIn, tDNotIn, sDPut, tDNewK, rDictOf, rEqDict, rCount, tCompX_list, xCall, sXFld, tXFld, rSlS, rEq, rNe, sc0, sc1, sc2, sc3, sc4, sc5, sc6, sc7, sc8, sc9, sc10, sc11, sc12, sc13, rCatS, rIsi, LenV, rAll, tFor_list, tFor_tup, tFor_str, tFor_rng1, tFor_rng2, tComp_list, tComp_tup, tComp_str, tComp_rng1, blkSt, tBM, rAppend, rStarts, rIndex, tIf, tMake, tMeth, sFld, tFld, tRepr, tFmt, jNil, jCons, tJoined, rJoin, rIsx, rIst, tRaise, tTryAs, tTry0, un1, xMeth, xDrop, xSet, xRet, xOf, xSeq, List.getElem?_cons_zero, List.getElem?_cons_succ, Option.some.injEq, V.int.injEq, V.str.injEq, V.bl.injEq, V.ref.injEq, V.ty.injEq, List.cons.injEq, exists_eq_left', exists_eq_left, exists_eq', and_assoc, if_true, if_false, Bool.not_false, Bool.not_true, Bool.not_not, Bool.false_eq_true, exists_and_left, and_true, true_and, List.set_cons_zero, List.set_cons_succ, Option.join_some, false_and, or_false, false_or, exists_false, sp_cellat, sp_nameby, sp_wordrow, sp_toldby, sp_drawn, sp_copy, sp_wrapped, sp_uinit, sp_places, sp_aimby, sp_aims, sp_aim, sp_whole, sp_last, sp_due, sp_alone, sp_refused, sp_holds, Ends.nx, Nat.reduceSub, Nat.reduceAdd]); (try simp only [tSeq, tAsg, gName, tC, tOp, tUn, tVar, tRet, tIfS, tOr, tAnd, tNot, tTest, tB, tChain, tCB, tCons, tNil, tCall, tSl, tNoPart, tPart, tNext, tDrop, tLst, tTup, tYes, tNotV, tAndV, tOrV, L2.start, List.set, List.map, List.length, List.replicate, List.cons_append, List.nil_append, List.append_nil, cK, bK, rI0, rI, rU, rIxS, rIxL, rIxT, tRetN, rSlL, rIn, rCatT, gTup, gCons, gNil, tRaiseI, tXInit, tDGet, tDGet1, tDGet2, tDIn, tDNotIn, sDPut, tDNewK, rDictOf, rEqDict, rCount, tCompX_list, xCall, sXFld, tXFld, rSlS, rEq, rNe, sc0, sc1, sc2, sc3, sc4, sc5, sc6, sc7, sc8, sc9, sc10, sc11, sc12, sc13, rCatS, rIsi, LenV, rAll, tFor_list, tFor_tup, tFor_str, tFor_rng1, tFor_rng2, tComp_list, tComp_tup, tComp_str, tComp_rng1, blkSt, tBM, rAppend, rStarts, rIndex, tIf, tMake, tMeth, sFld, tFld, tRepr, tFmt, jNil, jCons, tJoined, rJoin, rIsx, rIst, tRaise, tTryAs, tTry0, un1, xMeth, xDrop, xSet, xRet, xOf, xSeq, List.getElem?_cons_zero, List.getElem?_cons_succ, Option.some.injEq, V.int.injEq, V.str.injEq, V.bl.injEq, V.ref.injEq, V.ty.injEq, List.cons.injEq, exists_eq_left', exists_eq_left, exists_eq', and_assoc, if_true, if_false, Bool.not_false, Bool.not_true, Bool.not_not, Bool.false_eq_true, exists_and_left, and_true, true_and, List.set_cons_zero, List.set_cons_succ, Option.join_some, false_and, or_false, false_or, exists_false, sp_cellat, sp_nameby, sp_wordrow, sp_toldby, sp_drawn, sp_copy, sp_wrapped, sp_uinit, sp_places, sp_aimby, sp_aims, sp_aim, sp_whole, sp_last, sp_due, sp_alone, sp_refused, sp_holds, Ends.nx, Nat.reduceSub, Nat.reduceAdd, reduceCtorEq]))
        refine ⟨_, SqT.of na, rfl, _, _, rfl, _, _, rfl, _, _, rfl, _, _, rfl, rfl, rfl, ite2 (fun _ => ?_) (fun _ => ?_)⟩
        · refine ⟨by rw [sizeLine_eq]; decide, fun q hq => ⟨_, DPut.k (k := Sum.inr n.name) (same_new hq _ _ tab.top) (by rw [List.length_map, sizeLine_eq]; omega), same_upd hd (sm.trans (same_new hq)), _, (tab.mono (same_new hq)).put (m := ⟨n.name, q, p.name, n.st, n.off⟩) upd_same, ?_⟩⟩
          have := putT_len (ms := ms) (m := ⟨n.name, q, p.name, n.st, n.off⟩)
          omega
        · exact ⟨sm, ms, tab, by omega⟩
      · rintro σ H2 ⟨ms, b5, b6, b7, b8, rfl, sm, tab, hl⟩
        rw [List.length_map] at hl
        exact ⟨ms, _, _, _, _, _, _, _, rfl, sm, tab, by omega⟩
    · rintro σ H' ⟨ms, b2, b3, b4, b5, b6, b7, b8, rfl, sm, tab, hl⟩
      ((try dsimp only [tSeq, tAsg, gName, tC, tOp, tUn, tVar, tRet, tIfS, tOr, tAnd, tNot, tTest, tB, tChain, tCB, tCons, tNil, tCall, tSl, tNoPart, tPart, tNext, tDrop, tLst, tTup, tYes, tNotV, tAndV, tOrV, L2.start, List.set, List.map, List.length, List.replicate, List.cons_append, List.nil_append, List.append_nil, cK, bK, rI0, rI, rU, rIxS, rIxL, rIxT, tRetN, rSlL, rIn, rCatT, gTup, gCons, gNil, tRaiseI, tXInit, tDGet, tDGet1, tDGet2, tDIn, tDNotIn, sDPut, tDNewK, rDictOf, rEqDict, rCount, tCompX_list, xCall, sXFld, tXFld, rSlS, rEq, rNe, sc0, sc1, sc2, sc3, sc4, sc5, sc6, sc7, sc8, sc9, sc10, sc11, sc12, sc13, rCatS, rIsi, LenV, rAll, tFor_list, tFor_tup, tFor_str, tFor_rng1, tFor_rng2, tComp_list, tComp_tup, tComp_str, tComp_rng1, blkSt, tBM, rAppend, rStarts, rIndex, tIf, tMake, tMeth, sFld, tFld, tRepr, tFmt, jNil, jCons, tJoined, rJoin, rIsx, rIst, tRaise, tTryAs, tTry0, un1, xMeth, xDrop, xSet, xRet, xOf, xSeq, List.getElem?_cons_zero, List.getElem?_cons_succ, Option.some.injEq, V.int.injEq, V.str.injEq, V.bl.injEq, V.ref.injEq, V.ty.injEq, List.cons.injEq, exists_eq_left', exists_eq_left, exists_eq', and_assoc, if_true, if_false, Bool.not_false, Bool.not_true, Bool.not_not, Bool.false_eq_true, exists_and_left, and_true, true_and, List.set_cons_zero, List.set_cons_succ, Option.join_some, false_and, or_false, false_or, exists_false, sp_cellat, sp_nameby, sp_wordrow, sp_toldby, sp_drawn, sp_copy, sp_wrapped, sp_uinit, sp_places, sp_aimby, sp_aims, sp_aim, sp_whole, sp_last, sp_due, sp_alone, sp_refused, sp_holds, Ends.nx, Nat.reduceSub, Nat.reduceAdd]); (try simp only [tSeq, tAsg, gName, tC, tOp, tUn, tVar, tRet, tIfS, tOr, tAnd, tNot, tTest, tB, tChain, tCB, tCons, tNil, tCall, tSl, tNoPart, tPart, tNext, tDrop, tLst, tTup, tYes, tNotV, tAndV, tOrV, L2.start, List.set, List.map, List.length, List.replicate, List.cons_append, List.nil_append, List.append_nil, cK, bK, rI0, rI, rU, rIxS, rIxL, rIxT, tRetN, rSlL, rIn, rCatT, gTup, gCons, gNil, tRaiseI, tXInit, tDGet, tDGet1, tDGet2, tDIn, tDNotIn, sDPut, tDNewK, rDictOf, rEqDict, rCount, tCompX_list, xCall, sXFld, tXFld, rSlS, rEq, rNe, sc0, sc1, sc2, sc3, sc4, sc5, sc6, sc7, sc8, sc9, sc10, sc11, sc12, sc13, rCatS, rIsi, LenV, rAll, tFor_list, tFor_tup, tFor_str, tFor_rng1, tFor_rng2, tComp_list, tComp_tup, tComp_str, tComp_rng1, blkSt, tBM, rAppend, rStarts, rIndex, tIf, tMake, tMeth, sFld, tFld, tRepr, tFmt, jNil, jCons, tJoined, rJoin, rIsx, rIst, tRaise, tTryAs, tTry0, un1, xMeth, xDrop, xSet, xRet, xOf, xSeq, List.getElem?_cons_zero, List.getElem?_cons_succ, Option.some.injEq, V.int.injEq, V.str.injEq, V.bl.injEq, V.ref.injEq, V.ty.injEq, List.cons.injEq, exists_eq_left', exists_eq_left, exists_eq', and_assoc, if_true, if_false, Bool.not_false, Bool.not_true, Bool.not_not, Bool.false_eq_true, exists_and_left, and_true, true_and, List.set_cons_zero, List.set_cons_succ, Option.join_some, false_and, or_false, false_or, exists_false, sp_cellat, sp_nameby, sp_wordrow, sp_toldby, sp_drawn, sp_copy, sp_wrapped, sp_uinit, sp_places, sp_aimby, sp_aims, sp_aim, sp_whole, sp_last, sp_due, sp_alone, sp_refused, sp_holds, Ends.nx, Nat.reduceSub, Nat.reduceAdd, reduceCtorEq]))
      exact k d ms H' sm tab hd
theorem find_first {α : Type} {l : List α} {i : Nat} {n : α} {q : α → Bool} (h1 : (l.take i).find? q = none) (h2 : l[i]? = some n) (h3 : q n = true) : l.find? q = some n := by
  have hl := (List.getElem?_eq_some_iff.mp h2).1
  rw [← List.take_append_drop i l, List.find?_append, h1, List.drop_eq_getElem_cons hl, (List.getElem?_eq_some_iff.mp h2).2]
  simp [h3]
theorem G__law_due (T : Txt K mg A) : FnOk P w K mg base CX0 1 A._law_due A.fd__law_due ["_law_piece", "_law_some", "_law_fill"] sp_due := by
  refine T.F__law_due.ok sc__law_due (fun vs H Q E h => ?_) (fun cdv Ar outer s H vs Q E hr h => ?_)
  · obtain ⟨p, dN, f, mn, rfl, _⟩ := h
    rfl
  · obtain ⟨p, dN, f, mn, rfl, hp, hfew, hf, hN, k1, k2, k3⟩ := h
    refine ⟨_, (pss_cons (ps_for PassesOwn.never rfl (pi_listK (K := K) rfl (pe_ix (ix_tupK (K := K) rfl) (pv 0) pe_int (fun _ _ => rfl))) (pg_tupK (K := K) (n := 4) rfl rfl (pgs_cons (pg_name (i := 3) sc__law_due.nd rfl (by first | exact Or.inl rfl | exact Or.inr rfl)) (pgs_cons (pg_name (i := 4) sc__law_due.nd rfl (by first | exact Or.inl rfl | exact Or.inr rfl)) (pgs_cons (pg_name (i := 5) sc__law_due.nd rfl (by first | exact Or.inl rfl | exact Or.inr rfl)) (pgs_cons (pg_name (i := 6) sc__law_due.nd rfl (by first | exact Or.inl rfl | exact Or.inr rfl)) pgs_nil))))) (pss_one (ps_if (PW.pt (pw_and (pt_cmpR op_eq (pv 3) (pe_ix (ix_tupK (K := K) rfl) (pv 2) pe_int (fun _ _ => rfl)) (nomark _)) (pw_and1 (pt_cmpR op_eq (pv 4) pe_str (nomark _))))) (pss_one (ps_ret (pe_tup (pa_cons (pe_ix (ix_tupK (K := K) rfl) (pv 0) pe_int (fun _ _ => rfl)) (pa_cons (pv 5) (pa_cons (pe_op op_add (pv 6) (pe_ix (ix_tupK (K := K) rfl) (pv 2) pe_int (fun _ _ => rfl))) pa_nil)))))) pss_nil))) (pss_cons (ps_if (pt_cmp (pc_din (hu_of hr) (pe_ix (ix_tupK (K := K) rfl) (pv 2) pe_int (fun _ _ => rfl)) (pv 1))) (pss_cons (ps_asg (pe_dget (hu_of hr) (pv 1) (pe_ix (ix_tupK (K := K) rfl) (pv 2) pe_int (fun _ _ => rfl)) (fun _ _ => rfl)) (pg_tupK (K := K) (n := 3) rfl rfl (pgs_cons (pg_name (i := 7) sc__law_due.nd rfl (by first | exact Or.inl rfl | exact Or.inr rfl)) (pgs_cons (pg_name (i := 5) sc__law_due.nd rfl (by first | exact Or.inl rfl | exact Or.inr rfl)) (pgs_cons (pg_name (i := 6) sc__law_due.nd rfl (by first | exact Or.inl rfl | exact Or.inr rfl)) pgs_nil))))) (pss_one (ps_ret (pe_tup (pa_cons (pv 7) (pa_cons (pv 5) (pa_cons (pe_op op_add (pv 6) (pe_ix (ix_tupK (K := K) rfl) (pv 2) pe_int (fun _ _ => rfl))) pa_nil))))))) pss_nil) (pss_cons (ps_if (pt_val (pe_ix (ix_tupK (K := K) rfl) (pv 2) pe_int (fun _ _ => rfl))) (pss_one (ps_ret (pe_op op_mod (pe_ix (ix_tupK (K := K) rfl) (pv 2) pe_int (fun _ _ => rfl)) pe_int))) pss_nil) (pss_one (ps_ret pe_non))))), ?_⟩
    ((try dsimp only [tSeq, tAsg, gName, tC, tOp, tUn, tVar, tRet, tIfS, tOr, tAnd, tNot, tTest, tB, tChain, tCB, tCons, tNil, tCall, tSl, tNoPart, tPart, tNext, tDrop, tLst, tTup, tYes, tNotV, tAndV, tOrV, L2.start, List.set, List.map, List.length, List.replicate, List.cons_append, List.nil_append, List.append_nil, cK, bK, rI0, rI, rU, rIxS, rIxL, rIxT, tRetN, rSlL, rIn, rCatT, gTup, gCons, gNil, tRaiseI, tXInit, tDGet, tDGet1, tDGet2, tDIn, tDNotIn, sDPut, tDNewK, rDictOf, rEqDict, rCount, tCompX_list, xCall, sXFld, tXFld, rSlS, rEq, rNe, sc0, sc1, sc2, sc3, sc4, sc5, sc6, sc7, sc8, sc9, sc10, sc11, sc12, sc13, rCatS, rIsi, LenV, rAll, tFor_list, tFor_tup, tFor_str, tFor_rng1, tFor_rng2, tComp_list, tComp_tup, tComp_str, tComp_rng1, blkSt, tBM, rAppend, rStarts, rIndex, tIf, tMake, tMeth, sFld, tFld, tRepr, tFmt, jNil, jCons, tJoined, rJoin, rIsx, rIst, tRaise, tTryAs, tTry0, un1, xMeth, xDrop, xSet, xRet, xOf, xSeq, List.getElem?_cons_zero, List.getElem?_cons_succ, Option.some.injEq, V.int.injEq, V.str.injEq, V.bl.injEq, V.ref.injEq, V.ty.injEq, List.cons.injEq, exists_eq_left', exists_eq_left, exists_eq', and_assoc, if_true, if_false, Bool.not_false, Bool.not_true, Bool.not_not, Bool.false_eq_true, exists_and_left, and_true, true_and, List.set_cons_zero, List.set_cons_succ, Option.join_some, false_and, or_false, false_or, exists_false, sp_cellat, sp_nameby, sp_wordrow, sp_toldby, sp_drawn, sp_copy, sp_wrapped, sp_uinit, sp_places, sp_aimby, sp_aims, sp_aim, sp_whole, sp_last, sp_due, sp_alone, sp_refused, sp_holds, Ends.nx, Nat.reduceSub, Nat.reduceAdd]); (try simp only [tSeq, tAsg, gName, tC, tOp, tUn, tVar, tRet, tIfS, tOr, tAnd, tNot, tTest, tB, tChain, tCB, tCons, tNil, tCall, tSl, tNoPart, tPart, tNext, tDrop, tLst, tTup, tYes, tNotV, tAndV, tOrV, L2.start, List.set, List.map, List.length, List.replicate, List.cons_append, List.nil_append, List.append_nil, cK, bK, rI0, rI, rU, rIxS, rIxL, rIxT, tRetN, rSlL, rIn, rCatT, gTup, gCons, gNil, tRaiseI, tXInit, tDGet, tDGet1, tDGet2, tDIn, tDNotIn, sDPut, tDNewK, rDictOf, rEqDict, rCount, tCompX_list, xCall, sXFld, tXFld, rSlS, rEq, rNe, sc0, sc1, sc2, sc3, sc4, sc5, sc6, sc7, sc8, sc9, sc10, sc11, sc12, sc13, rCatS, rIsi, LenV, rAll, tFor_list, tFor_tup, tFor_str, tFor_rng1, tFor_rng2, tComp_list, tComp_tup, tComp_str, tComp_rng1, blkSt, tBM, rAppend, rStarts, rIndex, tIf, tMake, tMeth, sFld, tFld, tRepr, tFmt, jNil, jCons, tJoined, rJoin, rIsx, rIst, tRaise, tTryAs, tTry0, un1, xMeth, xDrop, xSet, xRet, xOf, xSeq, List.getElem?_cons_zero, List.getElem?_cons_succ, Option.some.injEq, V.int.injEq, V.str.injEq, V.bl.injEq, V.ref.injEq, V.ty.injEq, List.cons.injEq, exists_eq_left', exists_eq_left, exists_eq', and_assoc, if_true, if_false, Bool.not_false, Bool.not_true, Bool.not_not, Bool.false_eq_true, exists_and_left, and_true, true_and, List.set_cons_zero, List.set_cons_succ, Option.join_some, false_and, or_false, false_or, exists_false, sp_cellat, sp_nameby, sp_wordrow, sp_toldby, sp_drawn, sp_copy, sp_wrapped, sp_uinit, sp_places, sp_aimby, sp_aims, sp_aim, sp_whole, sp_last, sp_due, sp_alone, sp_refused, sp_holds, Ends.nx, Nat.reduceSub, Nat.reduceAdd, reduceCtorEq]))
    refine ⟨_, SqT.of hp.top, _, rfl, ?_⟩
    refine ForL.of (xs := p.nms.map ToldM.v) (fun i σ H' => H' = H ∧ ((p.nms.take i).find? fun n => decide (n.name = f.name) && decide (n.sort = sOwn)) = none ∧ ∃ b3 b4 b5 b6 b7, σ = [some p.v, some (V.ref dN), some f.v, b3, b4, b5, b6, b7])
      ⟨rfl, by simp, _, _, _, _, _, rfl⟩ (fun i σ H' _ ⟨e, _⟩ => by rw [e]; exact SqL.of hp.nl) ?_ ?_
    · rintro i x σ H' hx ⟨rfl, hnone, b3, b4, b5, b6, b7, rfl⟩
      rw [List.getElem?_map] at hx
      obtain ⟨n, hn, rfl⟩ := Option.map_eq_some_iff.mp hx
      have na := hp.ns n (List.mem_of_getElem? hn)
      have no : ¬ (n.name = f.name ∧ n.sort = sOwn) → ((p.nms.take (i + 1)).find? fun n => decide (n.name = f.name) && decide (n.sort = sOwn)) = none := fun h => by
        rw [List.take_succ, hn, List.find?_append, hnone]
        by_cases a : n.name = f.name <;> by_cases b : n.sort = sOwn <;> simp_all
      ((try dsimp only [tSeq, tAsg, gName, tC, tOp, tUn, tVar, tRet, tIfS, tOr, tAnd, tNot, tTest, tB, tChain, tCB, tCons, tNil, tCall, tSl, tNoPart, tPart, tNext, tDrop, tLst, tTup, tYes, tNotV, tAndV, tOrV, L2.start, List.set, List.map, List.length, List.replicate, List.cons_append, List.nil_append, List.append_nil, cK, bK, rI0, rI, rU, rIxS, rIxL, rIxT, tRetN, rSlL, rIn, rCatT, gTup, gCons, gNil, tRaiseI, tXInit, tDGet, tDGet1, tDGet2, tDIn, tDNotIn, sDPut, tDNewK, rDictOf, rEqDict, rCount, tCompX_list, xCall, sXFld, tXFld, rSlS, rEq, rNe, sc0, sc1, sc2, sc3, sc4, sc5, sc6, sc7, sc8, sc9, sc10, sc11, sc12, sc13, rCatS, rIsi, LenV, rAll, tFor_list, tFor_tup, tFor_str, tFor_rng1, tFor_rng2, tComp_list, tComp_tup, tComp_str, tComp_rng1, blkSt, tBM, rAppend, rStarts, rIndex, tIf, tMake, tMeth, sFld, tFld, tRepr, tFmt, jNil, jCons, tJoined, rJoin, rIsx, rIst, tRaise, tTryAs, tTry0, un1, xMeth, xDrop, xSet, xRet, xOf, xSeq, List.getElem?_cons_zero, List.getElem?_cons_succ, Option.some.injEq, V.int.injEq, V.str.injEq, V.bl.injEq, V.ref.injEq, V.ty.injEq, List.cons.injEq, exists_eq_left', exists_eq_left, exists_eq', and_assoc, if_true, if_false, Bool.not_false, Bool.not_true, Bool.not_not, Bool.false_eq_true, exists_and_left, and_true, true_and, List.set_cons_zero, List.set_cons_succ, Option.join_some, false_and, or_false, false_or, exists_false, sp_cellat, sp_nameby, sp_wordrow, sp_toldby, sp_drawn, sp_copy, sp_wrapped, sp_uinit, sp_places, sp_aimby, sp_aims, sp_aim, sp_whole, sp_last, sp_due, sp_alone, sp_refused, sp_holds, Ends.nx, Nat.reduceSub, Nat.reduceAdd]); (try simp only [tSeq, tAsg, gName, tC, tOp, tUn, tVar, tRet, tIfS, tOr, tAnd, tNot, tTest, tB, tChain, tCB, tCons, tNil, tCall, tSl, tNoPart, tPart, tNext, tDrop, tLst, tTup, tYes, tNotV, tAndV, tOrV, L2.start, List.set, List.map, List.length, List.replicate, List.cons_append, List.nil_append, List.append_nil, cK, bK, rI0, rI, rU, rIxS, rIxL, rIxT, tRetN, rSlL, rIn, rCatT, gTup, gCons, gNil, tRaiseI, tXInit, tDGet, tDGet1, tDGet2, tDIn, tDNotIn, sDPut, tDNewK, rDictOf, rEqDict, rCount, tCompX_list, xCall, sXFld, tXFld, rSlS, rEq, rNe, sc0, sc1, sc2, sc3, sc4, sc5, sc6, sc7, sc8, sc9, sc10, sc11, sc12, sc13, rCatS, rIsi, LenV, rAll, tFor_list, tFor_tup, tFor_str, tFor_rng1, tFor_rng2, tComp_list, tComp_tup, tComp_str, tComp_rng1, blkSt, tBM, rAppend, rStarts, rIndex, tIf, tMake, tMeth, sFld, tFld, tRepr, tFmt, jNil, jCons, tJoined, rJoin, rIsx, rIst, tRaise, tTryAs, tTry0, un1, xMeth, xDrop, xSet, xRet, xOf, xSeq, List.getElem?_cons_zero, List.getElem?_cons_succ, Option.some.injEq, V.int.injEq, V.str.injEq, V.bl.injEq, V.ref.injEq, V.ty.injEq, List.cons.injEq, exists_eq_left', exists_eq_left, exists_eq', and_assoc, if_true, if_false, Bool.not_false, Bool.not_true, Bool.not_not, Bool.false_eq_true, exists_and_left, and_true, true_and, List.set_cons_zero, List.set_cons_succ, Option.join_some, false_and, or_false, false_or, exists_false, sp_cellat, sp_nameby, sp_wordrow, sp_toldby, sp_drawn, sp_copy, sp_wrapped, sp_uinit, sp_places, sp_aimby, sp_aims, sp_aim, sp_whole, sp_last, sp_due, sp_alone, sp_refused, sp_holds, Ends.nx, Nat.reduceSub, Nat.reduceAdd, reduceCtorEq]))
      refine ⟨_, SqT.of na, rfl, _, _, rfl, _, _, rfl, _, _, rfl, _, _, rfl, rfl, _, SqT.of hf, _, rfl, rfl, ite2 (fun h1 => ?_) (fun h1 => ?_)⟩
      · have h1 : n.name = f.name := by injection of_decide_eq_true h1
        refine ⟨rfl, ite2 (fun h2 => ?_) (fun h2 => ?_)⟩
        · have h2 : n.sort = sOwn := by injection of_decide_eq_true h2
          refine ⟨_, SqT.of hp.top, _, rfl, _, SqT.of hf, _, rfl, n.off, rfl, f.add, rfl, by rw [sizeLine_eq]; decide, fun q hq => ?_⟩
          refine k1 p.name n.st n.off ?_ q _ (same_new hq) upd_same
          unfold resOf
          rw [find_first hnone hn (by simp [h1, h2])]
        · exact no fun z => h2 (decide_eq_true (by rw [z.2]; rfl))
      · exact no fun z => h1 (decide_eq_true (by rw [z.1]))
    · rintro σ H' ⟨rfl, hnone, b3, b4, b5, b6, b7, rfl⟩
      rw [List.length_map, List.take_length] at hnone
      have er : resOf p mn f = (lookT mn f.name).map fun m => (m.a, m.b, m.c) := by
        unfold resOf
        rw [hnone]
      have gN : DGet H' dN (V.str f.name) ((lookT mn f.name).map fun m => V.ref m.t) := by rw [← valT]; exact DGet.k (k := Sum.inr f.name) hN.top
      ((try dsimp only [tSeq, tAsg, gName, tC, tOp, tUn, tVar, tRet, tIfS, tOr, tAnd, tNot, tTest, tB, tChain, tCB, tCons, tNil, tCall, tSl, tNoPart, tPart, tNext, tDrop, tLst, tTup, tYes, tNotV, tAndV, tOrV, L2.start, List.set, List.map, List.length, List.replicate, List.cons_append, List.nil_append, List.append_nil, cK, bK, rI0, rI, rU, rIxS, rIxL, rIxT, tRetN, rSlL, rIn, rCatT, gTup, gCons, gNil, tRaiseI, tXInit, tDGet, tDGet1, tDGet2, tDIn, tDNotIn, sDPut, tDNewK, rDictOf, rEqDict, rCount, tCompX_list, xCall, sXFld, tXFld, rSlS, rEq, rNe, sc0, sc1, sc2, sc3, sc4, sc5, sc6, sc7, sc8, sc9, sc10, sc11, sc12, sc13, rCatS, rIsi, LenV, rAll, tFor_list, tFor_tup, tFor_str, tFor_rng1, tFor_rng2, tComp_list, tComp_tup, tComp_str, tComp_rng1, blkSt, tBM, rAppend, rStarts, rIndex, tIf, tMake, tMeth, sFld, tFld, tRepr, tFmt, jNil, jCons, tJoined, rJoin, rIsx, rIst, tRaise, tTryAs, tTry0, un1, xMeth, xDrop, xSet, xRet, xOf, xSeq, List.getElem?_cons_zero, List.getElem?_cons_succ, Option.some.injEq, V.int.injEq, V.str.injEq, V.bl.injEq, V.ref.injEq, V.ty.injEq, List.cons.injEq, exists_eq_left', exists_eq_left, exists_eq', and_assoc, if_true, if_false, Bool.not_false, Bool.not_true, Bool.not_not, Bool.false_eq_true, exists_and_left, and_true, true_and, List.set_cons_zero, List.set_cons_succ, Option.join_some, false_and, or_false, false_or, exists_false, sp_cellat, sp_nameby, sp_wordrow, sp_toldby, sp_drawn, sp_copy, sp_wrapped, sp_uinit, sp_places, sp_aimby, sp_aims, sp_aim, sp_whole, sp_last, sp_due, sp_alone, sp_refused, sp_holds, Ends.nx, Nat.reduceSub, Nat.reduceAdd]); (try simp only [tSeq, tAsg, gName, tC, tOp, tUn, tVar, tRet, tIfS, tOr, tAnd, tNot, tTest, tB, tChain, tCB, tCons, tNil, tCall, tSl, tNoPart, tPart, tNext, tDrop, tLst, tTup, tYes, tNotV, tAndV, tOrV, L2.start, List.set, List.map, List.length, List.replicate, List.cons_append, List.nil_append, List.append_nil, cK, bK, rI0, rI, rU, rIxS, rIxL, rIxT, tRetN, rSlL, rIn, rCatT, gTup, gCons, gNil, tRaiseI, tXInit, tDGet, tDGet1, tDGet2, tDIn, tDNotIn, sDPut, tDNewK, rDictOf, rEqDict, rCount, tCompX_list, xCall, sXFld, tXFld, rSlS, rEq, rNe, sc0, sc1, sc2, sc3, sc4, sc5, sc6, sc7, sc8, sc9, sc10, sc11, sc12, sc13, rCatS, rIsi, LenV, rAll, tFor_list, tFor_tup, tFor_str, tFor_rng1, tFor_rng2, tComp_list, tComp_tup, tComp_str, tComp_rng1, blkSt, tBM, rAppend, rStarts, rIndex, tIf, tMake, tMeth, sFld, tFld, tRepr, tFmt, jNil, jCons, tJoined, rJoin, rIsx, rIst, tRaise, tTryAs, tTry0, un1, xMeth, xDrop, xSet, xRet, xOf, xSeq, List.getElem?_cons_zero, List.getElem?_cons_succ, Option.some.injEq, V.int.injEq, V.str.injEq, V.bl.injEq, V.ref.injEq, V.ty.injEq, List.cons.injEq, exists_eq_left', exists_eq_left, exists_eq', and_assoc, if_true, if_false, Bool.not_false, Bool.not_true, Bool.not_not, Bool.false_eq_true, exists_and_left, and_true, true_and, List.set_cons_zero, List.set_cons_succ, Option.join_some, false_and, or_false, false_or, exists_false, sp_cellat, sp_nameby, sp_wordrow, sp_toldby, sp_drawn, sp_copy, sp_wrapped, sp_uinit, sp_places, sp_aimby, sp_aims, sp_aim, sp_whole, sp_last, sp_due, sp_alone, sp_refused, sp_holds, Ends.nx, Nat.reduceSub, Nat.reduceAdd, reduceCtorEq]))
      refine ⟨_, SqT.of hf, _, rfl, _, gN, ?_⟩
      cases q : lookT mn f.name with
      | some m =>
        rw [q] at er gN
        have hm := hN.at_ m (List.mem_of_find?_eq_some q)
        rw [if_pos (show (Option.map (fun m => V.ref m.t) (some m)).isSome = true from rfl)]
        refine ⟨_, SqT.of hf, _, rfl, _, gN, m.t, rfl, _, SqT.of hm, rfl, _, _, rfl, _, _, rfl, _, _, rfl, rfl, _, SqT.of hf, _, rfl, m.c, rfl, f.add, rfl, by rw [sizeLine_eq]; decide, fun q hq => ?_⟩
        exact k1 m.a m.b m.c er q _ (same_new hq) upd_same
      | none =>
        rw [q] at er
        rw [if_neg (by simp)]
        exact ⟨_, SqT.of hf, _, rfl, f.soft, rfl, ite2 (fun h => ⟨_, SqT.of hf, _, rfl, f.add, rfl, by decide, k2 er h⟩) (fun h => k3 er (by simpa using h))⟩
theorem G__law_alone (T : Txt K mg A) : FnOk P w K mg base CX0 1 A._law_alone A.fd__law_alone ["_law_kept"] (sp_alone A) := by
  refine T.F__law_alone.ok sc__law_alone (fun vs H Q E h => ?_) (fun cdv Ar outer s H vs Q E hr h => ?_)
  · obtain ⟨a, dx, rfl, _⟩ := h
    rfl
  · obtain ⟨a, dx, rfl, ha, hd, k⟩ := h
    have xc : XCls K A.c_Unmet := ⟨T.xg_Unmet, T.xn_Unmet, T.xl_Unmet, T.sp_cl, T.tk_cl, T.xo_Unmet, T.xb_Unmet⟩
    refine ⟨_, (pss_cons (ps_weak (u := aS1 K A) (ps_set (i := 1) sc__law_alone.nd rfl (by first | exact Or.inl rfl | exact Or.inr rfl) (pe_lst (pa_cons (pe_callB (call_isxK (K := K) rfl) (by rfl) T.n_isinstance bt_isinstance (pa_cons (pv 0) (pa_cons (pe_glob (v := .ref A.c_NoRule) rfl T.mc_NoRule rfl) pa_nil))) (pa_cons (pe_callB (call_isxK (K := K) rfl) (by rfl) T.n_isinstance bt_isinstance (pa_cons (pv 0) (pa_cons (pe_glob (v := .ref A.c_NoPiece) rfl T.mc_NoPiece rfl) pa_nil))) (pa_cons (pe_callB (call_isxK (K := K) rfl) (by rfl) T.n_isinstance bt_isinstance (pa_cons (pv 0) (pa_cons (pe_glob (v := .ref A.c_Twice) rfl T.mc_Twice rfl) pa_nil))) (pa_cons (pe_callB (call_isxK (K := K) rfl) (by rfl) T.n_isinstance bt_isinstance (pa_cons (pv 0) (pa_cons (pe_glob (v := .ref A.c_SameName) rfl T.mc_SameName rfl) pa_nil))) pa_nil)))))) ?wa1) (pss_cons (ps_weak (u := aS2 K A) (ps_set (i := 1) sc__law_alone.nd rfl (by first | exact Or.inl rfl | exact Or.inr rfl) (pe_op (op_catSK (K := K) rfl) (pv 1) (pe_lst (pa_cons (pe_callB (call_isxK (K := K) rfl) (by rfl) T.n_isinstance bt_isinstance (pa_cons (pv 0) (pa_cons (pe_glob (v := .ref A.c_Unmet) rfl T.mc_Unmet rfl) pa_nil))) (pa_cons (pe_callB (call_isxK (K := K) rfl) (by rfl) T.n_isinstance bt_isinstance (pa_cons (pv 0) (pa_cons (pe_glob (v := .ref A.c_TooFar) rfl T.mc_TooFar rfl) pa_nil))) (pa_cons (pe_callB (call_isxK (K := K) rfl) (by rfl) T.n_isinstance bt_isinstance (pa_cons (pv 0) (pa_cons (pe_glob (v := .ref A.c_NoWhole) rfl T.mc_NoWhole rfl) pa_nil))) pa_nil)))))) ?wa2) (pss_cons (ps_weak (u := aS3 K A) (ps_set (i := 1) sc__law_alone.nd rfl (by first | exact Or.inl rfl | exact Or.inr rfl) (pe_op (op_catSK (K := K) rfl) (pv 1) (pe_lst (pa_cons (pe_callB (call_isxK (K := K) rfl) (by rfl) T.n_isinstance bt_isinstance (pa_cons (pv 0) (pa_cons (pe_glob (v := .ref A.c_NoBase) rfl T.mc_NoBase rfl) pa_nil))) (pa_cons (pe_callB (call_isxK (K := K) rfl) (by rfl) T.n_isinstance bt_isinstance (pa_cons (pv 0) (pa_cons (pe_glob (v := .ref A.c_Lost) rfl T.mc_Lost rfl) pa_nil))) (pa_cons (pe_callB (call_isxK (K := K) rfl) (by rfl) T.n_isinstance bt_isinstance (pa_cons (pv 0) (pa_cons (pe_glob (v := .ref A.c_NoSense) rfl T.mc_NoSense rfl) pa_nil))) pa_nil)))))) ?wa3) (pss_one (ps_ret (pe_and (pe_cmpR op_eq (pe_bm PySem.F.plainAttrs_list PySem.F.slot_list_count PySem.F.type_list_count (mt_countK (K := K) rfl) (pv 1) (pa_cons pe_bl pa_nil)) pe_int (nomark _)) (pe_and (pe_callB (call_isxK (K := K) rfl) (by rfl) T.n_isinstance bt_isinstance (pa_cons (pv 0) (pa_cons (pe_glob (v := .ref A.c_JoinError) rfl T.mc_JoinError rfl) pa_nil))) (pe_one (pe_callB (call_isxK (K := K) rfl) (by rfl) T.n_isinstance bt_isinstance (pa_cons (pv 0) (pa_cons (pe_bltn rfl T.n_ValueError bt_ValueError relT) pa_nil))))))))))), ?main⟩
    case wa1 =>
      rintro D σ H ⟨a, b1, rfl, ty, k⟩
      ((try dsimp only [tSeq, tAsg, gName, tC, tOp, tUn, tVar, tRet, tIfS, tOr, tAnd, tNot, tTest, tB, tChain, tCB, tCons, tNil, tCall, tSl, tNoPart, tPart, tNext, tDrop, tLst, tTup, tYes, tNotV, tAndV, tOrV, L2.start, List.set, List.map, List.length, List.replicate, List.cons_append, List.nil_append, List.append_nil, cK, bK, rI0, rI, rU, rIxS, rIxL, rIxT, tRetN, rSlL, rIn, rCatT, gTup, gCons, gNil, tRaiseI, tXInit, tDGet, tDGet1, tDGet2, tDIn, tDNotIn, sDPut, tDNewK, rDictOf, rEqDict, rCount, tCompX_list, xCall, sXFld, tXFld, rSlS, rEq, rNe, sc0, sc1, sc2, sc3, sc4, sc5, sc6, sc7, sc8, sc9, sc10, sc11, sc12, sc13, rCatS, rIsi, LenV, rAll, tFor_list, tFor_tup, tFor_str, tFor_rng1, tFor_rng2, tComp_list, tComp_tup, tComp_str, tComp_rng1, blkSt, tBM, rAppend, rStarts, rIndex, tIf, tMake, tMeth, sFld, tFld, tRepr, tFmt, jNil, jCons, tJoined, rJoin, rIsx, rIst, tRaise, tTryAs, tTry0, un1, xMeth, xDrop, xSet, xRet, xOf, xSeq, List.getElem?_cons_zero, List.getElem?_cons_succ, Option.some.injEq, V.int.injEq, V.str.injEq, V.bl.injEq, V.ref.injEq, V.ty.injEq, List.cons.injEq, exists_eq_left', exists_eq_left, exists_eq', and_assoc, if_true, if_false, Bool.not_false, Bool.not_true, Bool.not_not, Bool.false_eq_true, exists_and_left, and_true, true_and, List.set_cons_zero, List.set_cons_succ, Option.join_some, false_and, or_false, false_or, exists_false, sp_cellat, sp_nameby, sp_wordrow, sp_toldby, sp_drawn, sp_copy, sp_wrapped, sp_uinit, sp_places, sp_aimby, sp_aims, sp_aim, sp_whole, sp_last, sp_due, sp_alone, sp_refused, sp_holds, Ends.nx, Nat.reduceSub, Nat.reduceAdd]); (try simp only [tSeq, tAsg, gName, tC, tOp, tUn, tVar, tRet, tIfS, tOr, tAnd, tNot, tTest, tB, tChain, tCB, tCons, tNil, tCall, tSl, tNoPart, tPart, tNext, tDrop, tLst, tTup, tYes, tNotV, tAndV, tOrV, L2.start, List.set, List.map, List.length, List.replicate, List.cons_append, List.nil_append, List.append_nil, cK, bK, rI0, rI, rU, rIxS, rIxL, rIxT, tRetN, rSlL, rIn, rCatT, gTup, gCons, gNil, tRaiseI, tXInit, tDGet, tDGet1, tDGet2, tDIn, tDNotIn, sDPut, tDNewK, rDictOf, rEqDict, rCount, tCompX_list, xCall, sXFld, tXFld, rSlS, rEq, rNe, sc0, sc1, sc2, sc3, sc4, sc5, sc6, sc7, sc8, sc9, sc10, sc11, sc12, sc13, rCatS, rIsi, LenV, rAll, tFor_list, tFor_tup, tFor_str, tFor_rng1, tFor_rng2, tComp_list, tComp_tup, tComp_str, tComp_rng1, blkSt, tBM, rAppend, rStarts, rIndex, tIf, tMake, tMeth, sFld, tFld, tRepr, tFmt, jNil, jCons, tJoined, rJoin, rIsx, rIst, tRaise, tTryAs, tTry0, un1, xMeth, xDrop, xSet, xRet, xOf, xSeq, List.getElem?_cons_zero, List.getElem?_cons_succ, Option.some.injEq, V.int.injEq, V.str.injEq, V.bl.injEq, V.ref.injEq, V.ty.injEq, List.cons.injEq, exists_eq_left', exists_eq_left, exists_eq', and_assoc, if_true, if_false, Bool.not_false, Bool.not_true, Bool.not_not, Bool.false_eq_true, exists_and_left, and_true, true_and, List.set_cons_zero, List.set_cons_succ, Option.join_some, false_and, or_false, false_or, exists_false, sp_cellat, sp_nameby, sp_wordrow, sp_toldby, sp_drawn, sp_copy, sp_wrapped, sp_uinit, sp_places, sp_aimby, sp_aims, sp_aim, sp_whole, sp_last, sp_due, sp_alone, sp_refused, sp_holds, Ends.nx, Nat.reduceSub, Nat.reduceAdd, reduceCtorEq]))
      exact ⟨rfl, _, ty, _, T.ki_NoRule, rfl, _, ty, _, T.ki_NoPiece, rfl, _, ty, _, T.ki_Twice, rfl, _, ty, _, T.ki_SameName, by rw [sizeLine_eq]; decide, fun q h => k q _ (same_new h) upd_same⟩
    case wa2 =>
      rintro D σ H ⟨a, l, rfl, hl, ty', k⟩
      have ty := ty' (Same.refl _)
      ((try dsimp only [tSeq, tAsg, gName, tC, tOp, tUn, tVar, tRet, tIfS, tOr, tAnd, tNot, tTest, tB, tChain, tCB, tCons, tNil, tCall, tSl, tNoPart, tPart, tNext, tDrop, tLst, tTup, tYes, tNotV, tAndV, tOrV, L2.start, List.set, List.map, List.length, List.replicate, List.cons_append, List.nil_append, List.append_nil, cK, bK, rI0, rI, rU, rIxS, rIxL, rIxT, tRetN, rSlL, rIn, rCatT, gTup, gCons, gNil, tRaiseI, tXInit, tDGet, tDGet1, tDGet2, tDIn, tDNotIn, sDPut, tDNewK, rDictOf, rEqDict, rCount, tCompX_list, xCall, sXFld, tXFld, rSlS, rEq, rNe, sc0, sc1, sc2, sc3, sc4, sc5, sc6, sc7, sc8, sc9, sc10, sc11, sc12, sc13, rCatS, rIsi, LenV, rAll, tFor_list, tFor_tup, tFor_str, tFor_rng1, tFor_rng2, tComp_list, tComp_tup, tComp_str, tComp_rng1, blkSt, tBM, rAppend, rStarts, rIndex, tIf, tMake, tMeth, sFld, tFld, tRepr, tFmt, jNil, jCons, tJoined, rJoin, rIsx, rIst, tRaise, tTryAs, tTry0, un1, xMeth, xDrop, xSet, xRet, xOf, xSeq, List.getElem?_cons_zero, List.getElem?_cons_succ, Option.some.injEq, V.int.injEq, V.str.injEq, V.bl.injEq, V.ref.injEq, V.ty.injEq, List.cons.injEq, exists_eq_left', exists_eq_left, exists_eq', and_assoc, if_true, if_false, Bool.not_false, Bool.not_true, Bool.not_not, Bool.false_eq_true, exists_and_left, and_true, true_and, List.set_cons_zero, List.set_cons_succ, Option.join_some, false_and, or_false, false_or, exists_false, sp_cellat, sp_nameby, sp_wordrow, sp_toldby, sp_drawn, sp_copy, sp_wrapped, sp_uinit, sp_places, sp_aimby, sp_aims, sp_aim, sp_whole, sp_last, sp_due, sp_alone, sp_refused, sp_holds, Ends.nx, Nat.reduceSub, Nat.reduceAdd]); (try simp only [tSeq, tAsg, gName, tC, tOp, tUn, tVar, tRet, tIfS, tOr, tAnd, tNot, tTest, tB, tChain, tCB, tCons, tNil, tCall, tSl, tNoPart, tPart, tNext, tDrop, tLst, tTup, tYes, tNotV, tAndV, tOrV, L2.start, List.set, List.map, List.length, List.replicate, List.cons_append, List.nil_append, List.append_nil, cK, bK, rI0, rI, rU, rIxS, rIxL, rIxT, tRetN, rSlL, rIn, rCatT, gTup, gCons, gNil, tRaiseI, tXInit, tDGet, tDGet1, tDGet2, tDIn, tDNotIn, sDPut, tDNewK, rDictOf, rEqDict, rCount, tCompX_list, xCall, sXFld, tXFld, rSlS, rEq, rNe, sc0, sc1, sc2, sc3, sc4, sc5, sc6, sc7, sc8, sc9, sc10, sc11, sc12, sc13, rCatS, rIsi, LenV, rAll, tFor_list, tFor_tup, tFor_str, tFor_rng1, tFor_rng2, tComp_list, tComp_tup, tComp_str, tComp_rng1, blkSt, tBM, rAppend, rStarts, rIndex, tIf, tMake, tMeth, sFld, tFld, tRepr, tFmt, jNil, jCons, tJoined, rJoin, rIsx, rIst, tRaise, tTryAs, tTry0, un1, xMeth, xDrop, xSet, xRet, xOf, xSeq, List.getElem?_cons_zero, List.getElem?_cons_succ, Option.some.injEq, V.int.injEq, V.str.injEq, V.bl.injEq, V.ref.injEq, V.ty.injEq, List.cons.injEq, exists_eq_left', exists_eq_left, exists_eq', and_assoc, if_true, if_false, Bool.not_false, Bool.not_true, Bool.not_not, Bool.false_eq_true, exists_and_left, and_true, true_and, List.set_cons_zero, List.set_cons_succ, Option.join_some, false_and, or_false, false_or, exists_false, sp_cellat, sp_nameby, sp_wordrow, sp_toldby, sp_drawn, sp_copy, sp_wrapped, sp_uinit, sp_places, sp_aimby, sp_aims, sp_aim, sp_whole, sp_last, sp_due, sp_alone, sp_refused, sp_holds, Ends.nx, Nat.reduceSub, Nat.reduceAdd, reduceCtorEq]))
      refine ⟨rfl, _, ty, _, T.ki_Unmet, rfl, _, ty, _, T.ki_TooFar, rfl, _, ty, _, T.ki_NoWhole, by rw [sizeLine_eq]; decide, fun q h => ?_⟩
      exact ⟨_, SqL.of (same_new h _ _ hl), _, SqL.of upd_same, by rw [sizeLine_eq]; decide, fun r h2 => k r _ ((same_new h).trans (same_new h2)) upd_same⟩
    case wa3 =>
      rintro D σ H ⟨a, l, rfl, hl, ty', k⟩
      have ty := ty' (Same.refl _)
      ((try dsimp only [tSeq, tAsg, gName, tC, tOp, tUn, tVar, tRet, tIfS, tOr, tAnd, tNot, tTest, tB, tChain, tCB, tCons, tNil, tCall, tSl, tNoPart, tPart, tNext, tDrop, tLst, tTup, tYes, tNotV, tAndV, tOrV, L2.start, List.set, List.map, List.length, List.replicate, List.cons_append, List.nil_append, List.append_nil, cK, bK, rI0, rI, rU, rIxS, rIxL, rIxT, tRetN, rSlL, rIn, rCatT, gTup, gCons, gNil, tRaiseI, tXInit, tDGet, tDGet1, tDGet2, tDIn, tDNotIn, sDPut, tDNewK, rDictOf, rEqDict, rCount, tCompX_list, xCall, sXFld, tXFld, rSlS, rEq, rNe, sc0, sc1, sc2, sc3, sc4, sc5, sc6, sc7, sc8, sc9, sc10, sc11, sc12, sc13, rCatS, rIsi, LenV, rAll, tFor_list, tFor_tup, tFor_str, tFor_rng1, tFor_rng2, tComp_list, tComp_tup, tComp_str, tComp_rng1, blkSt, tBM, rAppend, rStarts, rIndex, tIf, tMake, tMeth, sFld, tFld, tRepr, tFmt, jNil, jCons, tJoined, rJoin, rIsx, rIst, tRaise, tTryAs, tTry0, un1, xMeth, xDrop, xSet, xRet, xOf, xSeq, List.getElem?_cons_zero, List.getElem?_cons_succ, Option.some.injEq, V.int.injEq, V.str.injEq, V.bl.injEq, V.ref.injEq, V.ty.injEq, List.cons.injEq, exists_eq_left', exists_eq_left, exists_eq', and_assoc, if_true, if_false, Bool.not_false, Bool.not_true, Bool.not_not, Bool.false_eq_true, exists_and_left, and_true, true_and, List.set_cons_zero, List.set_cons_succ, Option.join_some, false_and, or_false, false_or, exists_false, sp_cellat, sp_nameby, sp_wordrow, sp_toldby, sp_drawn, sp_copy, sp_wrapped, sp_uinit, sp_places, sp_aimby, sp_aims, sp_aim, sp_whole, sp_last, sp_due, sp_alone, sp_refused, sp_holds, Ends.nx, Nat.reduceSub, Nat.reduceAdd]); (try simp only [tSeq, tAsg, gName, tC, tOp, tUn, tVar, tRet, tIfS, tOr, tAnd, tNot, tTest, tB, tChain, tCB, tCons, tNil, tCall, tSl, tNoPart, tPart, tNext, tDrop, tLst, tTup, tYes, tNotV, tAndV, tOrV, L2.start, List.set, List.map, List.length, List.replicate, List.cons_append, List.nil_append, List.append_nil, cK, bK, rI0, rI, rU, rIxS, rIxL, rIxT, tRetN, rSlL, rIn, rCatT, gTup, gCons, gNil, tRaiseI, tXInit, tDGet, tDGet1, tDGet2, tDIn, tDNotIn, sDPut, tDNewK, rDictOf, rEqDict, rCount, tCompX_list, xCall, sXFld, tXFld, rSlS, rEq, rNe, sc0, sc1, sc2, sc3, sc4, sc5, sc6, sc7, sc8, sc9, sc10, sc11, sc12, sc13, rCatS, rIsi, LenV, rAll, tFor_list, tFor_tup, tFor_str, tFor_rng1, tFor_rng2, tComp_list, tComp_tup, tComp_str, tComp_rng1, blkSt, tBM, rAppend, rStarts, rIndex, tIf, tMake, tMeth, sFld, tFld, tRepr, tFmt, jNil, jCons, tJoined, rJoin, rIsx, rIst, tRaise, tTryAs, tTry0, un1, xMeth, xDrop, xSet, xRet, xOf, xSeq, List.getElem?_cons_zero, List.getElem?_cons_succ, Option.some.injEq, V.int.injEq, V.str.injEq, V.bl.injEq, V.ref.injEq, V.ty.injEq, List.cons.injEq, exists_eq_left', exists_eq_left, exists_eq', and_assoc, if_true, if_false, Bool.not_false, Bool.not_true, Bool.not_not, Bool.false_eq_true, exists_and_left, and_true, true_and, List.set_cons_zero, List.set_cons_succ, Option.join_some, false_and, or_false, false_or, exists_false, sp_cellat, sp_nameby, sp_wordrow, sp_toldby, sp_drawn, sp_copy, sp_wrapped, sp_uinit, sp_places, sp_aimby, sp_aims, sp_aim, sp_whole, sp_last, sp_due, sp_alone, sp_refused, sp_holds, Ends.nx, Nat.reduceSub, Nat.reduceAdd, reduceCtorEq]))
      refine ⟨rfl, _, ty, _, T.ki_NoBase, rfl, _, ty, _, T.ki_Lost, rfl, _, ty, _, T.ki_NoSense, by rw [sizeLine_eq]; decide, fun q h => ?_⟩
      exact ⟨_, SqL.of (same_new h _ _ hl), _, SqL.of upd_same, by rw [sizeLine_eq]; decide, fun r h2 => k r _ ((same_new h).trans (same_new h2)) upd_same⟩
    ((try dsimp only [tSeq, tAsg, gName, tC, tOp, tUn, tVar, tRet, tIfS, tOr, tAnd, tNot, tTest, tB, tChain, tCB, tCons, tNil, tCall, tSl, tNoPart, tPart, tNext, tDrop, tLst, tTup, tYes, tNotV, tAndV, tOrV, L2.start, List.set, List.map, List.length, List.replicate, List.cons_append, List.nil_append, List.append_nil, cK, bK, rI0, rI, rU, rIxS, rIxL, rIxT, tRetN, rSlL, rIn, rCatT, gTup, gCons, gNil, tRaiseI, tXInit, tDGet, tDGet1, tDGet2, tDIn, tDNotIn, sDPut, tDNewK, rDictOf, rEqDict, rCount, tCompX_list, xCall, sXFld, tXFld, rSlS, rEq, rNe, sc0, sc1, sc2, sc3, sc4, sc5, sc6, sc7, sc8, sc9, sc10, sc11, sc12, sc13, rCatS, rIsi, LenV, rAll, tFor_list, tFor_tup, tFor_str, tFor_rng1, tFor_rng2, tComp_list, tComp_tup, tComp_str, tComp_rng1, blkSt, tBM, rAppend, rStarts, rIndex, tIf, tMake, tMeth, sFld, tFld, tRepr, tFmt, jNil, jCons, tJoined, rJoin, rIsx, rIst, tRaise, tTryAs, tTry0, un1, xMeth, xDrop, xSet, xRet, xOf, xSeq, List.getElem?_cons_zero, List.getElem?_cons_succ, Option.some.injEq, V.int.injEq, V.str.injEq, V.bl.injEq, V.ref.injEq, V.ty.injEq, List.cons.injEq, exists_eq_left', exists_eq_left, exists_eq', and_assoc, if_true, if_false, Bool.not_false, Bool.not_true, Bool.not_not, Bool.false_eq_true, exists_and_left, and_true, true_and, List.set_cons_zero, List.set_cons_succ, Option.join_some, false_and, or_false, false_or, exists_false, sp_cellat, sp_nameby, sp_wordrow, sp_toldby, sp_drawn, sp_copy, sp_wrapped, sp_uinit, sp_places, sp_aimby, sp_aims, sp_aim, sp_whole, sp_last, sp_due, sp_alone, sp_refused, sp_holds, Ends.nx, Nat.reduceSub, Nat.reduceAdd]); (try simp only [tSeq, tAsg, gName, tC, tOp, tUn, tVar, tRet, tIfS, tOr, tAnd, tNot, tTest, tB, tChain, tCB, tCons, tNil, tCall, tSl, tNoPart, tPart, tNext, tDrop, tLst, tTup, tYes, tNotV, tAndV, tOrV, L2.start, List.set, List.map, List.length, List.replicate, List.cons_append, List.nil_append, List.append_nil, cK, bK, rI0, rI, rU, rIxS, rIxL, rIxT, tRetN, rSlL, rIn, rCatT, gTup, gCons, gNil, tRaiseI, tXInit, tDGet, tDGet1, tDGet2, tDIn, tDNotIn, sDPut, tDNewK, rDictOf, rEqDict, rCount, tCompX_list, xCall, sXFld, tXFld, rSlS, rEq, rNe, sc0, sc1, sc2, sc3, sc4, sc5, sc6, sc7, sc8, sc9, sc10, sc11, sc12, sc13, rCatS, rIsi, LenV, rAll, tFor_list, tFor_tup, tFor_str, tFor_rng1, tFor_rng2, tComp_list, tComp_tup, tComp_str, tComp_rng1, blkSt, tBM, rAppend, rStarts, rIndex, tIf, tMake, tMeth, sFld, tFld, tRepr, tFmt, jNil, jCons, tJoined, rJoin, rIsx, rIst, tRaise, tTryAs, tTry0, un1, xMeth, xDrop, xSet, xRet, xOf, xSeq, List.getElem?_cons_zero, List.getElem?_cons_succ, Option.some.injEq, V.int.injEq, V.str.injEq, V.bl.injEq, V.ref.injEq, V.ty.injEq, List.cons.injEq, exists_eq_left', exists_eq_left, exists_eq', and_assoc, if_true, if_false, Bool.not_false, Bool.not_true, Bool.not_not, Bool.false_eq_true, exists_and_left, and_true, true_and, List.set_cons_zero, List.set_cons_succ, Option.join_some, false_and, or_false, false_or, exists_false, sp_cellat, sp_nameby, sp_wordrow, sp_toldby, sp_drawn, sp_copy, sp_wrapped, sp_uinit, sp_places, sp_aimby, sp_aims, sp_aim, sp_whole, sp_last, sp_due, sp_alone, sp_refused, sp_holds, Ends.nx, Nat.reduceSub, Nat.reduceAdd, reduceCtorEq]))
    have dm : ∀ {H' : Hp}, Same H H' → DxOk dx H' := fun {H'} e => by
      rcases hd with z | ⟨d, fs, z, y⟩
      · exact .inl z
      · exact .inr ⟨d, fs, z, e _ _ y⟩
    have ty : ∀ {H' : Hp}, Same H H' → TyX K H' (V.ref a) (.ref A.c_Unmet) := fun {H'} e => .inr ⟨a, _, dx, rfl, rfl, e _ _ ha, dm e, xc⟩
    refine ⟨a, _, rfl, ty (Same.refl _), fun q1 H1 s1 h1 => ⟨a, q1, rfl, h1, fun e => ty (s1.trans e), fun q2 H2 s2 h2 => ⟨a, q2, rfl, h2, fun e => ty ((s1.trans s2).trans e), fun q3 H3 s3 h3 => ?_⟩⟩⟩
    have s5 := (s1.trans s2).trans s3
    have t5 := ty s5
    ((try dsimp only [tSeq, tAsg, gName, tC, tOp, tUn, tVar, tRet, tIfS, tOr, tAnd, tNot, tTest, tB, tChain, tCB, tCons, tNil, tCall, tSl, tNoPart, tPart, tNext, tDrop, tLst, tTup, tYes, tNotV, tAndV, tOrV, L2.start, List.set, List.map, List.length, List.replicate, List.cons_append, List.nil_append, List.append_nil, cK, bK, rI0, rI, rU, rIxS, rIxL, rIxT, tRetN, rSlL, rIn, rCatT, gTup, gCons, gNil, tRaiseI, tXInit, tDGet, tDGet1, tDGet2, tDIn, tDNotIn, sDPut, tDNewK, rDictOf, rEqDict, rCount, tCompX_list, xCall, sXFld, tXFld, rSlS, rEq, rNe, sc0, sc1, sc2, sc3, sc4, sc5, sc6, sc7, sc8, sc9, sc10, sc11, sc12, sc13, rCatS, rIsi, LenV, rAll, tFor_list, tFor_tup, tFor_str, tFor_rng1, tFor_rng2, tComp_list, tComp_tup, tComp_str, tComp_rng1, blkSt, tBM, rAppend, rStarts, rIndex, tIf, tMake, tMeth, sFld, tFld, tRepr, tFmt, jNil, jCons, tJoined, rJoin, rIsx, rIst, tRaise, tTryAs, tTry0, un1, xMeth, xDrop, xSet, xRet, xOf, xSeq, List.getElem?_cons_zero, List.getElem?_cons_succ, Option.some.injEq, V.int.injEq, V.str.injEq, V.bl.injEq, V.ref.injEq, V.ty.injEq, List.cons.injEq, exists_eq_left', exists_eq_left, exists_eq', and_assoc, if_true, if_false, Bool.not_false, Bool.not_true, Bool.not_not, Bool.false_eq_true, exists_and_left, and_true, true_and, List.set_cons_zero, List.set_cons_succ, Option.join_some, false_and, or_false, false_or, exists_false, sp_cellat, sp_nameby, sp_wordrow, sp_toldby, sp_drawn, sp_copy, sp_wrapped, sp_uinit, sp_places, sp_aimby, sp_aims, sp_aim, sp_whole, sp_last, sp_due, sp_alone, sp_refused, sp_holds, Ends.nx, Nat.reduceSub, Nat.reduceAdd]); (try simp only [tSeq, tAsg, gName, tC, tOp, tUn, tVar, tRet, tIfS, tOr, tAnd, tNot, tTest, tB, tChain, tCB, tCons, tNil, tCall, tSl, tNoPart, tPart, tNext, tDrop, tLst, tTup, tYes, tNotV, tAndV, tOrV, L2.start, List.set, List.map, List.length, List.replicate, List.cons_append, List.nil_append, List.append_nil, cK, bK, rI0, rI, rU, rIxS, rIxL, rIxT, tRetN, rSlL, rIn, rCatT, gTup, gCons, gNil, tRaiseI, tXInit, tDGet, tDGet1, tDGet2, tDIn, tDNotIn, sDPut, tDNewK, rDictOf, rEqDict, rCount, tCompX_list, xCall, sXFld, tXFld, rSlS, rEq, rNe, sc0, sc1, sc2, sc3, sc4, sc5, sc6, sc7, sc8, sc9, sc10, sc11, sc12, sc13, rCatS, rIsi, LenV, rAll, tFor_list, tFor_tup, tFor_str, tFor_rng1, tFor_rng2, tComp_list, tComp_tup, tComp_str, tComp_rng1, blkSt, tBM, rAppend, rStarts, rIndex, tIf, tMake, tMeth, sFld, tFld, tRepr, tFmt, jNil, jCons, tJoined, rJoin, rIsx, rIst, tRaise, tTryAs, tTry0, un1, xMeth, xDrop, xSet, xRet, xOf, xSeq, List.getElem?_cons_zero, List.getElem?_cons_succ, Option.some.injEq, V.int.injEq, V.str.injEq, V.bl.injEq, V.ref.injEq, V.ty.injEq, List.cons.injEq, exists_eq_left', exists_eq_left, exists_eq', and_assoc, if_true, if_false, Bool.not_false, Bool.not_true, Bool.not_not, Bool.false_eq_true, exists_and_left, and_true, true_and, List.set_cons_zero, List.set_cons_succ, Option.join_some, false_and, or_false, false_or, exists_false, sp_cellat, sp_nameby, sp_wordrow, sp_toldby, sp_drawn, sp_copy, sp_wrapped, sp_uinit, sp_places, sp_aimby, sp_aims, sp_aim, sp_whole, sp_last, sp_due, sp_alone, sp_refused, sp_holds, Ends.nx, Nat.reduceSub, Nat.reduceAdd, reduceCtorEq]))
    refine ⟨.inl ⟨rfl, _, SqL.of h3⟩, _, SqL.of h3, rfl, rfl, ?_⟩
    rw [if_pos (by decide)]
    exact ⟨rfl, _, t5, _, T.ki_JoinError, ⟨rfl, _, t5, _, T.ki_V, k _ s5⟩⟩
theorem G__law_refused (T : Txt K mg A) : FnOk P w K mg base CX0 2 A._law_refused A.fd__law_refused ["_law_kept", "_law_title", "_law_name"] (sp_refused A) := by
  refine T.F__law_refused.ok sc__law_refused (fun vs H Q E h => ?_) (fun cdv Ar outer s H vs Q E hr h => ?_)
  · obtain ⟨a, d, t, n, rfl, _⟩ := h
    rfl
  · obtain ⟨a, d, t, n, rfl, ha, hd, k⟩ := h
    refine ⟨_, (pss_cons (ps_if (PW.pt (pw_or (pt_not (pt_val (pe_callB (call_isxK (K := K) rfl) (by rfl) T.n_isinstance bt_isinstance (pa_cons (pv 0) (pa_cons (pe_glob (v := .ref A.c_Unmet) rfl T.mc_Unmet rfl) pa_nil))))) (pw_or1 (pt_not (pt_val (pe_call (G__law_alone T) (hr.mono (by decide)) rfl T.m__law_alone T.k__law_alone T.b__law_alone .nil pass0 (pa_cons (pv 0) pa_nil))))))) (pss_one (ps_ret pe_bl)) pss_nil) (pss_cons (ps_if (PW.pt (pw_or (pt_not (pt_val (pe_callB (call_isiK (K := K) rfl) (by rfl) T.n_isinstance bt_isinstance (pa_cons (pe_xfld (pv 0) rfl) (pa_cons (pe_bltn rfl T.n_str bt_str relT) pa_nil))))) (pw_or1 (pt_not (pt_val (pe_callB (call_isiK (K := K) rfl) (by rfl) T.n_isinstance bt_isinstance (pa_cons (pe_xfld (pv 0) rfl) (pa_cons (pe_bltn rfl T.n_str bt_str relT) pa_nil)))))))) (pss_one (ps_ret pe_bl)) pss_nil) (pss_one (ps_ret (pe_and (pe_cmpR op_eq (pe_xfld (pv 0) rfl) (pv 2) (nomark _)) (pe_one (pe_cmpR op_eq (pe_xfld (pv 0) rfl) (pv 1) (nomark _)))))))), ?_⟩
    ((try dsimp only [tSeq, tAsg, gName, tC, tOp, tUn, tVar, tRet, tIfS, tOr, tAnd, tNot, tTest, tB, tChain, tCB, tCons, tNil, tCall, tSl, tNoPart, tPart, tNext, tDrop, tLst, tTup, tYes, tNotV, tAndV, tOrV, L2.start, List.set, List.map, List.length, List.replicate, List.cons_append, List.nil_append, List.append_nil, cK, bK, rI0, rI, rU, rIxS, rIxL, rIxT, tRetN, rSlL, rIn, rCatT, gTup, gCons, gNil, tRaiseI, tXInit, tDGet, tDGet1, tDGet2, tDIn, tDNotIn, sDPut, tDNewK, rDictOf, rEqDict, rCount, tCompX_list, xCall, sXFld, tXFld, rSlS, rEq, rNe, sc0, sc1, sc2, sc3, sc4, sc5, sc6, sc7, sc8, sc9, sc10, sc11, sc12, sc13, rCatS, rIsi, LenV, rAll, tFor_list, tFor_tup, tFor_str, tFor_rng1, tFor_rng2, tComp_list, tComp_tup, tComp_str, tComp_rng1, blkSt, tBM, rAppend, rStarts, rIndex, tIf, tMake, tMeth, sFld, tFld, tRepr, tFmt, jNil, jCons, tJoined, rJoin, rIsx, rIst, tRaise, tTryAs, tTry0, un1, xMeth, xDrop, xSet, xRet, xOf, xSeq, List.getElem?_cons_zero, List.getElem?_cons_succ, Option.some.injEq, V.int.injEq, V.str.injEq, V.bl.injEq, V.ref.injEq, V.ty.injEq, List.cons.injEq, exists_eq_left', exists_eq_left, exists_eq', and_assoc, if_true, if_false, Bool.not_false, Bool.not_true, Bool.not_not, Bool.false_eq_true, exists_and_left, and_true, true_and, List.set_cons_zero, List.set_cons_succ, Option.join_some, false_and, or_false, false_or, exists_false, sp_cellat, sp_nameby, sp_wordrow, sp_toldby, sp_drawn, sp_copy, sp_wrapped, sp_uinit, sp_places, sp_aimby, sp_aims, sp_aim, sp_whole, sp_last, sp_due, sp_alone, sp_refused, sp_holds, Ends.nx, Nat.reduceSub, Nat.reduceAdd]); (try simp only [tSeq, tAsg, gName, tC, tOp, tUn, tVar, tRet, tIfS, tOr, tAnd, tNot, tTest, tB, tChain, tCB, tCons, tNil, tCall, tSl, tNoPart, tPart, tNext, tDrop, tLst, tTup, tYes, tNotV, tAndV, tOrV, L2.start, List.set, List.map, List.length, List.replicate, List.cons_append, List.nil_append, List.append_nil, cK, bK, rI0, rI, rU, rIxS, rIxL, rIxT, tRetN, rSlL, rIn, rCatT, gTup, gCons, gNil, tRaiseI, tXInit, tDGet, tDGet1, tDGet2, tDIn, tDNotIn, sDPut, tDNewK, rDictOf, rEqDict, rCount, tCompX_list, xCall, sXFld, tXFld, rSlS, rEq, rNe, sc0, sc1, sc2, sc3, sc4, sc5, sc6, sc7, sc8, sc9, sc10, sc11, sc12, sc13, rCatS, rIsi, LenV, rAll, tFor_list, tFor_tup, tFor_str, tFor_rng1, tFor_rng2, tComp_list, tComp_tup, tComp_str, tComp_rng1, blkSt, tBM, rAppend, rStarts, rIndex, tIf, tMake, tMeth, sFld, tFld, tRepr, tFmt, jNil, jCons, tJoined, rJoin, rIsx, rIst, tRaise, tTryAs, tTry0, un1, xMeth, xDrop, xSet, xRet, xOf, xSeq, List.getElem?_cons_zero, List.getElem?_cons_succ, Option.some.injEq, V.int.injEq, V.str.injEq, V.bl.injEq, V.ref.injEq, V.ty.injEq, List.cons.injEq, exists_eq_left', exists_eq_left, exists_eq', and_assoc, if_true, if_false, Bool.not_false, Bool.not_true, Bool.not_not, Bool.false_eq_true, exists_and_left, and_true, true_and, List.set_cons_zero, List.set_cons_succ, Option.join_some, false_and, or_false, false_or, exists_false, sp_cellat, sp_nameby, sp_wordrow, sp_toldby, sp_drawn, sp_copy, sp_wrapped, sp_uinit, sp_places, sp_aimby, sp_aims, sp_aim, sp_whole, sp_last, sp_due, sp_alone, sp_refused, sp_holds, Ends.nx, Nat.reduceSub, Nat.reduceAdd, reduceCtorEq]))
    have xc : XCls K A.c_Unmet := ⟨T.xg_Unmet, T.xn_Unmet, T.xl_Unmet, T.sp_cl, T.tk_cl, T.xo_Unmet, T.xb_Unmet⟩
    have dk : DxOk (some d) H := .inr ⟨d, _, rfl, hd⟩
    have ty : TyX K H (V.ref a) (.ref A.c_Unmet) := .inr ⟨a, _, some d, rfl, rfl, ha, dk, xc⟩
    have lk1 : List.lookup (Str.ofString "name") [(Str.ofString "name", V.str n), (Str.ofString "piece", V.str t)] = some (V.str n) := by simp [List.lookup]
    have lk2 : List.lookup (Str.ofString "piece") [(Str.ofString "name", V.str n), (Str.ofString "piece", V.str t)] = some (V.str t) := by
      have e : (Str.ofString "piece" == Str.ofString "name") = false := by decide +kernel
      simp only [List.lookup, e]
      simp
    refine ⟨rfl, _, ty, _, T.ki_Unmet, iteF ⟨some d, ha, dk, fun H' s1 => ?_⟩⟩
    have ha' := s1 _ _ ha
    have hd' := s1 _ _ hd
    refine ⟨_, d, ha', _, hd', xc, T.hd_U, T.no_Unmet_name, _, lk1, _, .str n, true, rfl, iteF ⟨_, d, ha', _, hd', xc, T.hd_U, T.no_Unmet_piece, _, lk2, _, .str t, true, rfl, iteF ⟨_, d, ha', _, hd', xc, T.hd_U, T.no_Unmet_name, _, lk1, rfl, ?_⟩⟩⟩
    rw [if_pos (decide_eq_true rfl)]
    refine ⟨_, d, ha', _, hd', xc, T.hd_U, T.no_Unmet_piece, _, lk2, rfl, ?_⟩
    rw [decide_eq_true rfl]
    exact k H' s1
theorem G__law_holds (T : Txt K mg A) : FnOk P w K mg base CX0 6 A._law_holds A.fd__law_holds ["_law_piece", "_law_some", "_law_fill"] sp_holds := by
  refine T.F__law_holds.ok sc__law_holds (fun vs H Q E h => ?_) (fun cdv Ar outer s H vs Q E hr h => ?_)
  · obtain ⟨p, dN, f, mn, rfl, _⟩ := h
    rfl
  · obtain ⟨p, dN, f, mn, rfl, hi, hN, k⟩ := h
    refine ⟨_, (pss_cons (ps_set (i := 3) sc__law_holds.nd rfl (by first | exact Or.inl rfl | exact Or.inr rfl) (pe_call (G__law_due T) (hr.mono (by decide)) rfl T.m__law_due T.k__law_due T.b__law_due .nil pass0 (pa_cons (pv 0) (pa_cons (pv 1) (pa_cons (pv 2) pa_nil))))) (pss_cons (ps_set (i := 4) sc__law_holds.nd rfl (by first | exact Or.inl rfl | exact Or.inr rfl) pe_non) (pss_cons (ps_set (i := 5) sc__law_holds.nd rfl (by first | exact Or.inl rfl | exact Or.inr rfl) pe_non) (pss_cons (ps_tryAsK (K := K) rfl rfl rfl (i := 6) sc__law_holds.nd rfl rfl rfl T.mc_JoinError (pssx_one (psx_set (i := 5) sc__law_holds.nd rfl (by first | exact Or.inl rfl | exact Or.inr rfl) (pex_call (G_aim T) (hr.mono (by decide)) rfl T.m_aim T.k_aim T.b_aim .nil (pa_cons (pv 0) (pa_cons (pv 1) (pa_cons (pv 2) pa_nil)))))) (fun _ => (pss_one (ps_set (i := 4) sc__law_holds.nd rfl (by first | exact Or.inl rfl | exact Or.inr rfl) (pv 6))))) (pss_weak (u := hT A) (pss_cons (ps_if (pt_cmpR op_isN (pv 3) pe_non (nomark _)) (pss_one (ps_ret (pe_call (G__law_refused T) (hr.mono (by decide)) rfl T.m__law_refused T.k__law_refused T.b__law_refused .nil pass0 (pa_cons (pv 4) (pa_cons (pe_ix (ix_tupK (K := K) rfl) (pv 0) pe_int (fun _ _ => rfl)) (pa_cons (pe_ix (ix_tupK (K := K) rfl) (pv 2) pe_int (fun _ _ => rfl)) pa_nil)))))) pss_nil) (pss_cons (ps_if (pt_cmpR op_notN (pv 4) pe_non (nomark _)) (pss_one (ps_ret pe_bl)) pss_nil) (pss_cons (ps_if (pt_not (pt_val (pe_callB (call_isiK (K := K) rfl) (by rfl) T.n_isinstance bt_isinstance (pa_cons (pv 3) (pa_cons (pe_bltn rfl T.n_tuple bt_tuple relT) pa_nil))))) (pss_one (ps_ret (pe_and (pe_call (G__law_whole T) (hr.mono (by decide)) rfl T.m__law_whole T.k__law_whole T.b__law_whole .nil pass0 (pa_cons (pv 5) pa_nil)) (pe_one (pe_cmpR op_eq (pv 5) (pv 3) (nomark _)))))) pss_nil) (pss_cons (ps_if (PW.pt (pw_or (pt_not (pt_val (pe_callB (call_isiK (K := K) rfl) (by rfl) T.n_isinstance bt_isinstance (pa_cons (pv 5) (pa_cons (pe_bltn rfl T.n_tuple bt_tuple relT) pa_nil))))) (pw_or (pt_cmpR op_ne (pe_callB (call_lenK (K := K) rfl) (by rfl) T.n_len bt_len (pa_cons (pv 5) pa_nil)) pe_int (nomark _)) (pw_or1 (pt_not (pt_val (pe_callB (call_isiK (K := K) rfl) (by rfl) T.n_isinstance bt_isinstance (pa_cons (pe_ix (ix_tupK (K := K) rfl) (pv 5) pe_int (fun _ _ => rfl)) (pa_cons (pe_bltn rfl T.n_str bt_str relT) pa_nil))))))))) (pss_one (ps_ret pe_bl)) pss_nil) (pss_one (ps_ret (pe_and (pe_call (G__law_whole T) (hr.mono (by decide)) rfl T.m__law_whole T.k__law_whole T.b__law_whole .nil pass0 (pa_cons (pe_ix (ix_tupK (K := K) rfl) (pv 5) pe_int (fun _ _ => rfl)) pa_nil)) (pe_and (pe_call (G__law_whole T) (hr.mono (by decide)) rfl T.m__law_whole T.k__law_whole T.b__law_whole .nil pass0 (pa_cons (pe_ix (ix_tupK (K := K) rfl) (pv 5) pe_int (fun _ _ => rfl)) pa_nil)) (pe_one (pe_cmpR (op_eqDK hr.units (K := K) rfl) (pv 5) (pv 3) (nomark _))))))))))) ?wh))))), ?main⟩
    case wh =>
      rintro D σ H ⟨p, dN, f, due, kept, found, b6, rfl, hp, hf, k, hc⟩
      rcases hc with ⟨a, b, c, q, q', rfl, rfl, rfl, hq1, hq2⟩ | ⟨i, rfl, rfl, rfl⟩ | ⟨a, d, rfl, rfl, ha, hd⟩
      · ((try dsimp only [tSeq, tAsg, gName, tC, tOp, tUn, tVar, tRet, tIfS, tOr, tAnd, tNot, tTest, tB, tChain, tCB, tCons, tNil, tCall, tSl, tNoPart, tPart, tNext, tDrop, tLst, tTup, tYes, tNotV, tAndV, tOrV, L2.start, List.set, List.map, List.length, List.replicate, List.cons_append, List.nil_append, List.append_nil, cK, bK, rI0, rI, rU, rIxS, rIxL, rIxT, tRetN, rSlL, rIn, rCatT, gTup, gCons, gNil, tRaiseI, tXInit, tDGet, tDGet1, tDGet2, tDIn, tDNotIn, sDPut, tDNewK, rDictOf, rEqDict, rCount, tCompX_list, xCall, sXFld, tXFld, rSlS, rEq, rNe, sc0, sc1, sc2, sc3, sc4, sc5, sc6, sc7, sc8, sc9, sc10, sc11, sc12, sc13, rCatS, rIsi, LenV, rAll, tFor_list, tFor_tup, tFor_str, tFor_rng1, tFor_rng2, tComp_list, tComp_tup, tComp_str, tComp_rng1, blkSt, tBM, rAppend, rStarts, rIndex, tIf, tMake, tMeth, sFld, tFld, tRepr, tFmt, jNil, jCons, tJoined, rJoin, rIsx, rIst, tRaise, tTryAs, tTry0, un1, xMeth, xDrop, xSet, xRet, xOf, xSeq, List.getElem?_cons_zero, List.getElem?_cons_succ, Option.some.injEq, V.int.injEq, V.str.injEq, V.bl.injEq, V.ref.injEq, V.ty.injEq, List.cons.injEq, exists_eq_left', exists_eq_left, exists_eq', and_assoc, if_true, if_false, Bool.not_false, Bool.not_true, Bool.not_not, Bool.false_eq_true, exists_and_left, and_true, true_and, List.set_cons_zero, List.set_cons_succ, Option.join_some, false_and, or_false, false_or, exists_false, sp_cellat, sp_nameby, sp_wordrow, sp_toldby, sp_drawn, sp_copy, sp_wrapped, sp_uinit, sp_places, sp_aimby, sp_aims, sp_aim, sp_whole, sp_last, sp_due, sp_alone, sp_refused, sp_holds, Ends.nx, Nat.reduceSub, Nat.reduceAdd]); (try simp only [tSeq, tAsg, gName, tC, tOp, tUn, tVar, tRet, tIfS, tOr, tAnd, tNot, tTest, tB, tChain, tCB, tCons, tNil, tCall, tSl, tNoPart, tPart, tNext, tDrop, tLst, tTup, tYes, tNotV, tAndV, tOrV, L2.start, List.set, List.map, List.length, List.replicate, List.cons_append, List.nil_append, List.append_nil, cK, bK, rI0, rI, rU, rIxS, rIxL, rIxT, tRetN, rSlL, rIn, rCatT, gTup, gCons, gNil, tRaiseI, tXInit, tDGet, tDGet1, tDGet2, tDIn, tDNotIn, sDPut, tDNewK, rDictOf, rEqDict, rCount, tCompX_list, xCall, sXFld, tXFld, rSlS, rEq, rNe, sc0, sc1, sc2, sc3, sc4, sc5, sc6, sc7, sc8, sc9, sc10, sc11, sc12, sc13, rCatS, rIsi, LenV, rAll, tFor_list, tFor_tup, tFor_str, tFor_rng1, tFor_rng2, tComp_list, tComp_tup, tComp_str, tComp_rng1, blkSt, tBM, rAppend, rStarts, rIndex, tIf, tMake, tMeth, sFld, tFld, tRepr, tFmt, jNil, jCons, tJoined, rJoin, rIsx, rIst, tRaise, tTryAs, tTry0, un1, xMeth, xDrop, xSet, xRet, xOf, xSeq, List.getElem?_cons_zero, List.getElem?_cons_succ, Option.some.injEq, V.int.injEq, V.str.injEq, V.bl.injEq, V.ref.injEq, V.ty.injEq, List.cons.injEq, exists_eq_left', exists_eq_left, exists_eq', and_assoc, if_true, if_false, Bool.not_false, Bool.not_true, Bool.not_not, Bool.false_eq_true, exists_and_left, and_true, true_and, List.set_cons_zero, List.set_cons_succ, Option.join_some, false_and, or_false, false_or, exists_false, sp_cellat, sp_nameby, sp_wordrow, sp_toldby, sp_drawn, sp_copy, sp_wrapped, sp_uinit, sp_places, sp_aimby, sp_aims, sp_aim, sp_whole, sp_last, sp_due, sp_alone, sp_refused, sp_holds, Ends.nx, Nat.reduceSub, Nat.reduceAdd, reduceCtorEq, decide_true, decide_false, ↓reduceIte]))
        refine ⟨_, .tup hq1, true, rfl, iteF ⟨_, .tup hq2, true, rfl, iteF ⟨3, .inr ⟨_, SqT.of hq2, rfl⟩, iteF ⟨_, SqT.of hq2, _, rfl, _, .str a, true, rfl, iteF ⟨_, SqT.of hq2, _, rfl, _, rfl, _, SqT.of hq2, _, rfl, _, rfl, ?_⟩⟩⟩⟩⟩
        have rp : ∀ {r : Addr}, H r = some (.tup [.str a, .int b, .int c]) → Rep K H (.tup [.str a, .int b, .int c]) (.ref r) := fun hr => by
          simp only [Rep]
          exact ⟨_, _, rfl, SqT.of hr, by simp [RepL, Rep]⟩
        refine ⟨_, _, .inr ⟨rp hq2, rp hq1⟩, by simp [depL, dep], ?_⟩
        rw [deqL_refl]
        exact k _ (Same.refl _)
      · ((try dsimp only [tSeq, tAsg, gName, tC, tOp, tUn, tVar, tRet, tIfS, tOr, tAnd, tNot, tTest, tB, tChain, tCB, tCons, tNil, tCall, tSl, tNoPart, tPart, tNext, tDrop, tLst, tTup, tYes, tNotV, tAndV, tOrV, L2.start, List.set, List.map, List.length, List.replicate, List.cons_append, List.nil_append, List.append_nil, cK, bK, rI0, rI, rU, rIxS, rIxL, rIxT, tRetN, rSlL, rIn, rCatT, gTup, gCons, gNil, tRaiseI, tXInit, tDGet, tDGet1, tDGet2, tDIn, tDNotIn, sDPut, tDNewK, rDictOf, rEqDict, rCount, tCompX_list, xCall, sXFld, tXFld, rSlS, rEq, rNe, sc0, sc1, sc2, sc3, sc4, sc5, sc6, sc7, sc8, sc9, sc10, sc11, sc12, sc13, rCatS, rIsi, LenV, rAll, tFor_list, tFor_tup, tFor_str, tFor_rng1, tFor_rng2, tComp_list, tComp_tup, tComp_str, tComp_rng1, blkSt, tBM, rAppend, rStarts, rIndex, tIf, tMake, tMeth, sFld, tFld, tRepr, tFmt, jNil, jCons, tJoined, rJoin, rIsx, rIst, tRaise, tTryAs, tTry0, un1, xMeth, xDrop, xSet, xRet, xOf, xSeq, List.getElem?_cons_zero, List.getElem?_cons_succ, Option.some.injEq, V.int.injEq, V.str.injEq, V.bl.injEq, V.ref.injEq, V.ty.injEq, List.cons.injEq, exists_eq_left', exists_eq_left, exists_eq', and_assoc, if_true, if_false, Bool.not_false, Bool.not_true, Bool.not_not, Bool.false_eq_true, exists_and_left, and_true, true_and, List.set_cons_zero, List.set_cons_succ, Option.join_some, false_and, or_false, false_or, exists_false, sp_cellat, sp_nameby, sp_wordrow, sp_toldby, sp_drawn, sp_copy, sp_wrapped, sp_uinit, sp_places, sp_aimby, sp_aims, sp_aim, sp_whole, sp_last, sp_due, sp_alone, sp_refused, sp_holds, Ends.nx, Nat.reduceSub, Nat.reduceAdd]); (try simp only [tSeq, tAsg, gName, tC, tOp, tUn, tVar, tRet, tIfS, tOr, tAnd, tNot, tTest, tB, tChain, tCB, tCons, tNil, tCall, tSl, tNoPart, tPart, tNext, tDrop, tLst, tTup, tYes, tNotV, tAndV, tOrV, L2.start, List.set, List.map, List.length, List.replicate, List.cons_append, List.nil_append, List.append_nil, cK, bK, rI0, rI, rU, rIxS, rIxL, rIxT, tRetN, rSlL, rIn, rCatT, gTup, gCons, gNil, tRaiseI, tXInit, tDGet, tDGet1, tDGet2, tDIn, tDNotIn, sDPut, tDNewK, rDictOf, rEqDict, rCount, tCompX_list, xCall, sXFld, tXFld, rSlS, rEq, rNe, sc0, sc1, sc2, sc3, sc4, sc5, sc6, sc7, sc8, sc9, sc10, sc11, sc12, sc13, rCatS, rIsi, LenV, rAll, tFor_list, tFor_tup, tFor_str, tFor_rng1, tFor_rng2, tComp_list, tComp_tup, tComp_str, tComp_rng1, blkSt, tBM, rAppend, rStarts, rIndex, tIf, tMake, tMeth, sFld, tFld, tRepr, tFmt, jNil, jCons, tJoined, rJoin, rIsx, rIst, tRaise, tTryAs, tTry0, un1, xMeth, xDrop, xSet, xRet, xOf, xSeq, List.getElem?_cons_zero, List.getElem?_cons_succ, Option.some.injEq, V.int.injEq, V.str.injEq, V.bl.injEq, V.ref.injEq, V.ty.injEq, List.cons.injEq, exists_eq_left', exists_eq_left, exists_eq', and_assoc, if_true, if_false, Bool.not_false, Bool.not_true, Bool.not_not, Bool.false_eq_true, exists_and_left, and_true, true_and, List.set_cons_zero, List.set_cons_succ, Option.join_some, false_and, or_false, false_or, exists_false, sp_cellat, sp_nameby, sp_wordrow, sp_toldby, sp_drawn, sp_copy, sp_wrapped, sp_uinit, sp_places, sp_aimby, sp_aims, sp_aim, sp_whole, sp_last, sp_due, sp_alone, sp_refused, sp_holds, Ends.nx, Nat.reduceSub, Nat.reduceAdd, reduceCtorEq, decide_true, decide_false, ↓reduceIte]))
        exact ⟨_, .int i, false, rfl, by rw [if_pos (by rfl)]; exact k _ (Same.refl _)⟩
      · ((try dsimp only [tSeq, tAsg, gName, tC, tOp, tUn, tVar, tRet, tIfS, tOr, tAnd, tNot, tTest, tB, tChain, tCB, tCons, tNil, tCall, tSl, tNoPart, tPart, tNext, tDrop, tLst, tTup, tYes, tNotV, tAndV, tOrV, L2.start, List.set, List.map, List.length, List.replicate, List.cons_append, List.nil_append, List.append_nil, cK, bK, rI0, rI, rU, rIxS, rIxL, rIxT, tRetN, rSlL, rIn, rCatT, gTup, gCons, gNil, tRaiseI, tXInit, tDGet, tDGet1, tDGet2, tDIn, tDNotIn, sDPut, tDNewK, rDictOf, rEqDict, rCount, tCompX_list, xCall, sXFld, tXFld, rSlS, rEq, rNe, sc0, sc1, sc2, sc3, sc4, sc5, sc6, sc7, sc8, sc9, sc10, sc11, sc12, sc13, rCatS, rIsi, LenV, rAll, tFor_list, tFor_tup, tFor_str, tFor_rng1, tFor_rng2, tComp_list, tComp_tup, tComp_str, tComp_rng1, blkSt, tBM, rAppend, rStarts, rIndex, tIf, tMake, tMeth, sFld, tFld, tRepr, tFmt, jNil, jCons, tJoined, rJoin, rIsx, rIst, tRaise, tTryAs, tTry0, un1, xMeth, xDrop, xSet, xRet, xOf, xSeq, List.getElem?_cons_zero, List.getElem?_cons_succ, Option.some.injEq, V.int.injEq, V.str.injEq, V.bl.injEq, V.ref.injEq, V.ty.injEq, List.cons.injEq, exists_eq_left', exists_eq_left, exists_eq', and_assoc, if_true, if_false, Bool.not_false, Bool.not_true, Bool.not_not, Bool.false_eq_true, exists_and_left, and_true, true_and, List.set_cons_zero, List.set_cons_succ, Option.join_some, false_and, or_false, false_or, exists_false, sp_cellat, sp_nameby, sp_wordrow, sp_toldby, sp_drawn, sp_copy, sp_wrapped, sp_uinit, sp_places, sp_aimby, sp_aims, sp_aim, sp_whole, sp_last, sp_due, sp_alone, sp_refused, sp_holds, Ends.nx, Nat.reduceSub, Nat.reduceAdd]); (try simp only [tSeq, tAsg, gName, tC, tOp, tUn, tVar, tRet, tIfS, tOr, tAnd, tNot, tTest, tB, tChain, tCB, tCons, tNil, tCall, tSl, tNoPart, tPart, tNext, tDrop, tLst, tTup, tYes, tNotV, tAndV, tOrV, L2.start, List.set, List.map, List.length, List.replicate, List.cons_append, List.nil_append, List.append_nil, cK, bK, rI0, rI, rU, rIxS, rIxL, rIxT, tRetN, rSlL, rIn, rCatT, gTup, gCons, gNil, tRaiseI, tXInit, tDGet, tDGet1, tDGet2, tDIn, tDNotIn, sDPut, tDNewK, rDictOf, rEqDict, rCount, tCompX_list, xCall, sXFld, tXFld, rSlS, rEq, rNe, sc0, sc1, sc2, sc3, sc4, sc5, sc6, sc7, sc8, sc9, sc10, sc11, sc12, sc13, rCatS, rIsi, LenV, rAll, tFor_list, tFor_tup, tFor_str, tFor_rng1, tFor_rng2, tComp_list, tComp_tup, tComp_str, tComp_rng1, blkSt, tBM, rAppend, rStarts, rIndex, tIf, tMake, tMeth, sFld, tFld, tRepr, tFmt, jNil, jCons, tJoined, rJoin, rIsx, rIst, tRaise, tTryAs, tTry0, un1, xMeth, xDrop, xSet, xRet, xOf, xSeq, List.getElem?_cons_zero, List.getElem?_cons_succ, Option.some.injEq, V.int.injEq, V.str.injEq, V.bl.injEq, V.ref.injEq, V.ty.injEq, List.cons.injEq, exists_eq_left', exists_eq_left, exists_eq', and_assoc, if_true, if_false, Bool.not_false, Bool.not_true, Bool.not_not, Bool.false_eq_true, exists_and_left, and_true, true_and, List.set_cons_zero, List.set_cons_succ, Option.join_some, false_and, or_false, false_or, exists_false, sp_cellat, sp_nameby, sp_wordrow, sp_toldby, sp_drawn, sp_copy, sp_wrapped, sp_uinit, sp_places, sp_aimby, sp_aims, sp_aim, sp_whole, sp_last, sp_due, sp_alone, sp_refused, sp_holds, Ends.nx, Nat.reduceSub, Nat.reduceAdd, reduceCtorEq, decide_true, decide_false, ↓reduceIte]))
        exact ⟨_, SqT.of hp.top, _, rfl, _, SqT.of hf, _, rfl, d, p.name, rfl, f.name, rfl, ha, hd, k⟩
    ((try dsimp only [tSeq, tAsg, gName, tC, tOp, tUn, tVar, tRet, tIfS, tOr, tAnd, tNot, tTest, tB, tChain, tCB, tCons, tNil, tCall, tSl, tNoPart, tPart, tNext, tDrop, tLst, tTup, tYes, tNotV, tAndV, tOrV, L2.start, List.set, List.map, List.length, List.replicate, List.cons_append, List.nil_append, List.append_nil, cK, bK, rI0, rI, rU, rIxS, rIxL, rIxT, tRetN, rSlL, rIn, rCatT, gTup, gCons, gNil, tRaiseI, tXInit, tDGet, tDGet1, tDGet2, tDIn, tDNotIn, sDPut, tDNewK, rDictOf, rEqDict, rCount, tCompX_list, xCall, sXFld, tXFld, rSlS, rEq, rNe, sc0, sc1, sc2, sc3, sc4, sc5, sc6, sc7, sc8, sc9, sc10, sc11, sc12, sc13, rCatS, rIsi, LenV, rAll, tFor_list, tFor_tup, tFor_str, tFor_rng1, tFor_rng2, tComp_list, tComp_tup, tComp_str, tComp_rng1, blkSt, tBM, rAppend, rStarts, rIndex, tIf, tMake, tMeth, sFld, tFld, tRepr, tFmt, jNil, jCons, tJoined, rJoin, rIsx, rIst, tRaise, tTryAs, tTry0, un1, xMeth, xDrop, xSet, xRet, xOf, xSeq, List.getElem?_cons_zero, List.getElem?_cons_succ, Option.some.injEq, V.int.injEq, V.str.injEq, V.bl.injEq, V.ref.injEq, V.ty.injEq, List.cons.injEq, exists_eq_left', exists_eq_left, exists_eq', and_assoc, if_true, if_false, Bool.not_false, Bool.not_true, Bool.not_not, Bool.false_eq_true, exists_and_left, and_true, true_and, List.set_cons_zero, List.set_cons_succ, Option.join_some, false_and, or_false, false_or, exists_false, sp_cellat, sp_nameby, sp_wordrow, sp_toldby, sp_drawn, sp_copy, sp_wrapped, sp_uinit, sp_places, sp_aimby, sp_aims, sp_aim, sp_whole, sp_last, sp_due, sp_alone, sp_refused, sp_holds, Ends.nx, Nat.reduceSub, Nat.reduceAdd]); (try simp only [tSeq, tAsg, gName, tC, tOp, tUn, tVar, tRet, tIfS, tOr, tAnd, tNot, tTest, tB, tChain, tCB, tCons, tNil, tCall, tSl, tNoPart, tPart, tNext, tDrop, tLst, tTup, tYes, tNotV, tAndV, tOrV, L2.start, List.set, List.map, List.length, List.replicate, List.cons_append, List.nil_append, List.append_nil, cK, bK, rI0, rI, rU, rIxS, rIxL, rIxT, tRetN, rSlL, rIn, rCatT, gTup, gCons, gNil, tRaiseI, tXInit, tDGet, tDGet1, tDGet2, tDIn, tDNotIn, sDPut, tDNewK, rDictOf, rEqDict, rCount, tCompX_list, xCall, sXFld, tXFld, rSlS, rEq, rNe, sc0, sc1, sc2, sc3, sc4, sc5, sc6, sc7, sc8, sc9, sc10, sc11, sc12, sc13, rCatS, rIsi, LenV, rAll, tFor_list, tFor_tup, tFor_str, tFor_rng1, tFor_rng2, tComp_list, tComp_tup, tComp_str, tComp_rng1, blkSt, tBM, rAppend, rStarts, rIndex, tIf, tMake, tMeth, sFld, tFld, tRepr, tFmt, jNil, jCons, tJoined, rJoin, rIsx, rIst, tRaise, tTryAs, tTry0, un1, xMeth, xDrop, xSet, xRet, xOf, xSeq, List.getElem?_cons_zero, List.getElem?_cons_succ, Option.some.injEq, V.int.injEq, V.str.injEq, V.bl.injEq, V.ref.injEq, V.ty.injEq, List.cons.injEq, exists_eq_left', exists_eq_left, exists_eq', and_assoc, if_true, if_false, Bool.not_false, Bool.not_true, Bool.not_not, Bool.false_eq_true, exists_and_left, and_true, true_and, List.set_cons_zero, List.set_cons_succ, Option.join_some, false_and, or_false, false_or, exists_false, sp_cellat, sp_nameby, sp_wordrow, sp_toldby, sp_drawn, sp_copy, sp_wrapped, sp_uinit, sp_places, sp_aimby, sp_aims, sp_aim, sp_whole, sp_last, sp_due, sp_alone, sp_refused, sp_holds, Ends.nx, Nat.reduceSub, Nat.reduceAdd, reduceCtorEq]))
    refine ⟨p, rfl, f, rfl, hi.at_, hi.few, hi.fa, mn, hN, fun a b c e q H' s1 hq => ?_, fun e hs => ?_, fun e hs => ?_⟩
    · refine ⟨p, rfl, f, rfl, hi.mono s1, mn, hN.mono s1, fun a' b' c' e' q' H1 s2 hq' => ?_, fun e' => ?_, fun e' => ?_⟩
      · rw [e] at e'
        obtain ⟨rfl, rfl, rfl⟩ : a = a' ∧ b = b' ∧ c = c' := by
          injection e' with e'
          injection e' with e1 e2
          injection e2 with e2 e3
          exact ⟨e1, e2, e3⟩
        exact ⟨p, dN, f, _, _, _, _, rfl, (hi.at_.mono s1).mono s2, (hi.fa.mono s1).mono s2, fun H2 s3 => k _ ((s1.trans s2).trans s3), .inl ⟨a, b, c + f.add, q, q', rfl, rfl, rfl, s2 _ _ hq, hq'⟩⟩
      · rw [e] at e'; cases e'
      · rw [e] at e'; cases e'
    · refine ⟨p, rfl, f, rfl, hi, mn, hN, fun a' b' c' e' => ?_, fun _ _ H1 s1 => ?_, fun _ h => ?_⟩
      · rw [e] at e'; cases e'
      · exact ⟨p, dN, f, _, _, _, _, rfl, hi.at_.mono s1, hi.fa.mono s1, fun H2 s3 => k _ (s1.trans s3), .inr (.inl ⟨_, rfl, rfl, rfl⟩)⟩
      · rw [hs] at h; cases h
    · refine ⟨p, rfl, f, rfl, hi, mn, hN, fun a' b' c' e' => ?_, fun _ h => ?_, fun _ _ d H1 s1 hd => ?_⟩
      · rw [e] at e'; cases e'
      · rw [hs] at h; cases h
      · refine ⟨_, rfl, ⟨T.ct_JoinError, T.cb_JoinError, T.mj⟩, .inr ⟨d, _, rfl, hd⟩, fun a ha => ?_⟩
        have s2 := same_new (o := XO a A.c_Unmet (some d)) ha
        have s3 := s1.trans s2
        exact ⟨p, dN, f, _, _, _, _, rfl, hi.at_.mono s3, hi.fa.mono s3, fun H2 s4 => k _ (s3.trans s4), .inr (.inr ⟨a, d, rfl, rfl, upd_same, s2 _ _ hd⟩)⟩
theorem cut_ints (ns : List Int) (h : ns.length ≤ 63) : ∃ ms : List Int, cutV (ns.map V.int) (some 2) (some 202) = ms.map V.int ∧ ms.length ≤ 61 := by
  refine ⟨(ns.drop (HT.sIx (ns.map V.int).length 0 (some 2))).take (HT.sIx (ns.map V.int).length (ns.map V.int).length (some 202) - HT.sIx (ns.map V.int).length 0 (some 2)), ?_, ?_⟩
  · unfold cutV
    rw [List.map_take, List.map_drop]
  · have e : HT.sIx (ns.map V.int).length 0 (some 2) = min 2 ns.length := by
      rw [show (some (2 : Int)) = some ((2 : Nat) : Int) from rfl, HT.sIx_nat, List.length_map]
    rw [List.length_take, List.length_drop, e]
    omega
theorem sum_mem {l : List Nat} {x : Nat} (h : x ∈ l) : x ≤ l.sum := by
  induction l with
  | nil => cases h
  | cons a l ih =>
    rw [List.sum_cons]
    rcases List.mem_cons.mp h with e | e
    · omega
    · have := ih e
      omega
theorem Drawn.pc {c t : Int} {n : Nat} {ps : List PcM} {p : PcM} (d : Drawn c t n ps) (h : p ∈ ps) : (p.name.length ≤ 16 ∧ Sg p.name) ∧ p.nms.length ≤ n ∧ p.sts.length ≤ n ∧ ∀ s ∈ p.sts, s.words.length ≤ n ∧ s.fills.length ≤ n := by
  have h1 : p.size ≤ n := Nat.le_trans (sum_mem (List.mem_map.mpr ⟨p, h, rfl⟩)) d.size
  have h2 : p.name ∈ (List.range ps.length).map fun i : Nat => nameOf t i := by rw [← d.names]; exact List.mem_map.mpr ⟨p, h, rfl⟩
  obtain ⟨i, _, e⟩ := List.mem_map.mp h2
  unfold PcM.size at h1
  refine ⟨by rw [← e]; exact nameOf_ok t i (Int.natCast_nonneg i), by omega, by omega, fun s hs => ?_⟩
  have h3 := sum_mem (List.mem_map.mpr ⟨s, hs, rfl⟩ : s.words.length ∈ p.sts.map fun s => s.words.length)
  have h4 := ((d.ok p h).sts s hs).few
  exact ⟨by omega, by omega⟩
theorem Copy.fills {p q : PcM} (h : p.Copy q) {s : StM} (hs : s ∈ q.sts) : ∃ r ∈ p.sts, r.fills = s.fills := by
  have h1 : s.core ∈ p.sts.map StM.core := by rw [← h.sts]; exact List.mem_map.mpr ⟨s, hs, rfl⟩
  obtain ⟨r, hr, e⟩ := List.mem_map.mp h1
  simp only [StM.core, Prod.mk.injEq] at e
  exact ⟨r, hr, e.2.2.2⟩
theorem G_law (T : Txt K mg A) : FnOk P w K mg base CX0 8 A.law A.fd_law ["_law_script"] (sp_law K) := by
  refine T.F_law.ok sc_law (fun vs H Q E h => ?_) (fun cdv Ar outer s H vs Q E hr h => ?_)
  · obtain ⟨a, ns, rfl, _⟩ := h
    rfl
  · obtain ⟨a, ns, rfl, hS, hl, k⟩ := h
    refine ⟨_, (pss_cons (ps_set (i := 1) sc_law.nd rfl (by first | exact Or.inl rfl | exact Or.inr rfl) (pe_call (G__law_drawn T) (hr.mono (by decide)) rfl T.m__law_drawn T.k__law_drawn T.b__law_drawn .nil pass0 (pa_cons (pe_slice (sl_listK (K := K) rfl) (pv 0) (po_some pe_int) (po_some pe_int)) (pa_cons (pe_call (G__law_cell_at T) (hr.mono (by decide)) rfl T.m__law_cell_at T.k__law_cell_at T.b__law_cell_at .nil pass0 (pa_cons (pv 0) (pa_cons pe_int pa_nil))) (pa_cons (pe_call (G__law_cell_at T) (hr.mono (by decide)) rfl T.m__law_cell_at T.k__law_cell_at T.b__law_cell_at .nil pass0 (pa_cons (pv 0) (pa_cons pe_int pa_nil))) (pa_cons pe_bl pa_nil)))))) (pss_cons (ps_set (i := 2) sc_law.nd rfl (by first | exact Or.inl rfl | exact Or.inr rfl) (pe_call (G__law_last T) (hr.mono (by decide)) rfl T.m__law_last T.k__law_last T.b__law_last .nil pass0 (pa_cons (pv 1) pa_nil))) (pss_cons (ps_set (i := 3) sc_law.nd rfl (by first | exact Or.inl rfl | exact Or.inr rfl) (pe_callTy call_dictOf (by rfl) T.n_dict bt_dict (pa_cons (pv 2) pa_nil))) (pss_cons (ps_for PassesOwn.never rfl (pi_listK (K := K) rfl (pv 1)) (pg_name (i := 4) sc_law.nd rfl (by first | exact Or.inl rfl | exact Or.inr rfl)) (pss_cons (ps_set (i := 5) sc_law.nd rfl (by first | exact Or.inl rfl | exact Or.inr rfl) (pe_call (G__law_copy T) (hr.mono (by decide)) rfl T.m__law_copy T.k__law_copy T.b__law_copy .nil pass0 (pa_cons (pv 4) pa_nil))) (pss_cons (ps_for PassesOwn.never rfl (pi_listK (K := K) rfl (pe_ix (ix_tupK (K := K) rfl) (pv 5) pe_int (fun _ _ => rfl))) (pg_name (i := 6) sc_law.nd rfl (by first | exact Or.inl rfl | exact Or.inr rfl)) (pss_one (ps_for PassesOwn.never rfl (pi_listK (K := K) rfl (pe_ix (ix_tupK (K := K) rfl) (pv 6) pe_int (fun _ _ => rfl))) (pg_name (i := 7) sc_law.nd rfl (by first | exact Or.inl rfl | exact Or.inr rfl)) (pss_one (ps_if (pt_not (pt_val (pe_call (G__law_holds T) (hr.mono (by decide)) rfl T.m__law_holds T.k__law_holds T.b__law_holds .nil pass0 (pa_cons (pv 5) (pa_cons (pv 2) (pa_cons (pv 7) pa_nil)))))) (pss_one (ps_ret pe_bl)) pss_nil))))) (pss_one (ps_if (pt_cmpR (op_neDK hr.units (K := K) rfl) (pv 5) (pv 4) (nomark _)) (pss_one (ps_ret pe_bl)) pss_nil))))) (pss_one (ps_ret (pe_cmpR (op_eqDictK hr.units (K := K) rfl) (pv 2) (pv 3) (nomark _)))))))), ?_⟩
    ((try dsimp only [tSeq, tAsg, gName, tC, tOp, tUn, tVar, tRet, tIfS, tOr, tAnd, tNot, tTest, tB, tChain, tCB, tCons, tNil, tCall, tSl, tNoPart, tPart, tNext, tDrop, tLst, tTup, tYes, tNotV, tAndV, tOrV, L2.start, List.set, List.map, List.length, List.replicate, List.cons_append, List.nil_append, List.append_nil, cK, bK, rI0, rI, rU, rIxS, rIxL, rIxT, tRetN, rSlL, rIn, rCatT, gTup, gCons, gNil, tRaiseI, tXInit, tDGet, tDGet1, tDGet2, tDIn, tDNotIn, sDPut, tDNewK, rDictOf, rEqDict, rCount, tCompX_list, xCall, sXFld, tXFld, rSlS, rEq, rNe, sc0, sc1, sc2, sc3, sc4, sc5, sc6, sc7, sc8, sc9, sc10, sc11, sc12, sc13, rCatS, rIsi, LenV, rAll, tFor_list, tFor_tup, tFor_str, tFor_rng1, tFor_rng2, tComp_list, tComp_tup, tComp_str, tComp_rng1, blkSt, tBM, rAppend, rStarts, rIndex, tIf, tMake, tMeth, sFld, tFld, tRepr, tFmt, jNil, jCons, tJoined, rJoin, rIsx, rIst, tRaise, tTryAs, tTry0, un1, xMeth, xDrop, xSet, xRet, xOf, xSeq, List.getElem?_cons_zero, List.getElem?_cons_succ, Option.some.injEq, V.int.injEq, V.str.injEq, V.bl.injEq, V.ref.injEq, V.ty.injEq, List.cons.injEq, exists_eq_left', exists_eq_left, exists_eq', and_assoc, if_true, if_false, Bool.not_false, Bool.not_true, Bool.not_not, Bool.false_eq_true, exists_and_left, and_true, true_and, List.set_cons_zero, List.set_cons_succ, Option.join_some, false_and, or_false, false_or, exists_false, sp_cellat, sp_nameby, sp_wordrow, sp_toldby, sp_drawn, sp_copy, sp_wrapped, sp_uinit, sp_places, sp_aimby, sp_aims, sp_aim, sp_whole, sp_last, sp_due, sp_alone, sp_refused, sp_holds, Ends.nx, Nat.reduceSub, Nat.reduceAdd]); (try simp only [tSeq, tAsg, gName, tC, tOp, tUn, tVar, tRet, tIfS, tOr, tAnd, tNot, tTest, tB, tChain, tCB, tCons, tNil, tCall, tSl, tNoPart, tPart, tNext, tDrop, tLst, tTup, tYes, tNotV, tAndV, tOrV, L2.start, List.set, List.map, List.length, List.replicate, List.cons_append, List.nil_append, List.append_nil, cK, bK, rI0, rI, rU, rIxS, rIxL, rIxT, tRetN, rSlL, rIn, rCatT, gTup, gCons, gNil, tRaiseI, tXInit, tDGet, tDGet1, tDGet2, tDIn, tDNotIn, sDPut, tDNewK, rDictOf, rEqDict, rCount, tCompX_list, xCall, sXFld, tXFld, rSlS, rEq, rNe, sc0, sc1, sc2, sc3, sc4, sc5, sc6, sc7, sc8, sc9, sc10, sc11, sc12, sc13, rCatS, rIsi, LenV, rAll, tFor_list, tFor_tup, tFor_str, tFor_rng1, tFor_rng2, tComp_list, tComp_tup, tComp_str, tComp_rng1, blkSt, tBM, rAppend, rStarts, rIndex, tIf, tMake, tMeth, sFld, tFld, tRepr, tFmt, jNil, jCons, tJoined, rJoin, rIsx, rIst, tRaise, tTryAs, tTry0, un1, xMeth, xDrop, xSet, xRet, xOf, xSeq, List.getElem?_cons_zero, List.getElem?_cons_succ, Option.some.injEq, V.int.injEq, V.str.injEq, V.bl.injEq, V.ref.injEq, V.ty.injEq, List.cons.injEq, exists_eq_left', exists_eq_left, exists_eq', and_assoc, if_true, if_false, Bool.not_false, Bool.not_true, Bool.not_not, Bool.false_eq_true, exists_and_left, and_true, true_and, List.set_cons_zero, List.set_cons_succ, Option.join_some, false_and, or_false, false_or, exists_false, sp_cellat, sp_nameby, sp_wordrow, sp_toldby, sp_drawn, sp_copy, sp_wrapped, sp_uinit, sp_places, sp_aimby, sp_aims, sp_aim, sp_whole, sp_last, sp_due, sp_alone, sp_refused, sp_holds, Ends.nx, Nat.reduceSub, Nat.reduceAdd, reduceCtorEq]))
    obtain ⟨ms, em, hm⟩ := cut_ints ns hl
    refine ⟨_, hS, fun p0 h0 => ?_⟩
    rw [em]
    have s0 := same_new (o := HO.lst (ms.map V.int)) h0
    refine ⟨ns, s0.seq hS, hl, by decide, fun c => ⟨ns, s0.seq hS, hl, by decide, fun t => ⟨ms, SqL.of upd_same, hm, fun L ps H1 s1 hP hnew dr => ⟨ps, hP, dr.few, fun p hp => Nat.le_trans (dr.pc hp).2.1 hm, fun d tb H2 s2 tab hd => ⟨_, tab.top, fun q hq => ?_⟩⟩⟩⟩⟩
    have s3 := same_new (o := HO.dK (tb.map TabM.kv)) hq
    have hq3 : upd H2 q (HO.dK (tb.map TabM.kv)) q = some (HO.dK (tb.map TabM.kv)) := upd_same
    have tab3 := tab.mono s3
    have hP3 := hP.mono (s2.trans s3)
    generalize upd H2 q (HO.dK (tb.map TabM.kv)) = H3 at *
    refine ForL.of (xs := ps.map PcM.v) (fun i σ H' => Same H3 H' ∧ ∃ b4 b5 b6 b7, σ = [some (V.ref a), some (V.ref L), some (V.ref d), some (V.ref q), b4, b5, b6, b7])
      ⟨Same.refl _, _, _, _, _, rfl⟩ (fun i σ H' _ ⟨sm, _⟩ => SqL.of (sm _ _ hP3.top)) ?_ ?_
    · rintro i x σ H4 hx ⟨s4, b4, b5, b6, b7, rfl⟩
      rw [List.getElem?_map] at hx
      obtain ⟨p, hp, rfl⟩ := Option.map_eq_some_iff.mp hx
      have hpm := List.mem_of_getElem? hp
      have pa := (hP3.at_ p hpm).mono s4
      obtain ⟨pn, pm, pst, pss⟩ := dr.pc hpm
      ((try dsimp only [tSeq, tAsg, gName, tC, tOp, tUn, tVar, tRet, tIfS, tOr, tAnd, tNot, tTest, tB, tChain, tCB, tCons, tNil, tCall, tSl, tNoPart, tPart, tNext, tDrop, tLst, tTup, tYes, tNotV, tAndV, tOrV, L2.start, List.set, List.map, List.length, List.replicate, List.cons_append, List.nil_append, List.append_nil, cK, bK, rI0, rI, rU, rIxS, rIxL, rIxT, tRetN, rSlL, rIn, rCatT, gTup, gCons, gNil, tRaiseI, tXInit, tDGet, tDGet1, tDGet2, tDIn, tDNotIn, sDPut, tDNewK, rDictOf, rEqDict, rCount, tCompX_list, xCall, sXFld, tXFld, rSlS, rEq, rNe, sc0, sc1, sc2, sc3, sc4, sc5, sc6, sc7, sc8, sc9, sc10, sc11, sc12, sc13, rCatS, rIsi, LenV, rAll, tFor_list, tFor_tup, tFor_str, tFor_rng1, tFor_rng2, tComp_list, tComp_tup, tComp_str, tComp_rng1, blkSt, tBM, rAppend, rStarts, rIndex, tIf, tMake, tMeth, sFld, tFld, tRepr, tFmt, jNil, jCons, tJoined, rJoin, rIsx, rIst, tRaise, tTryAs, tTry0, un1, xMeth, xDrop, xSet, xRet, xOf, xSeq, List.getElem?_cons_zero, List.getElem?_cons_succ, Option.some.injEq, V.int.injEq, V.str.injEq, V.bl.injEq, V.ref.injEq, V.ty.injEq, List.cons.injEq, exists_eq_left', exists_eq_left, exists_eq', and_assoc, if_true, if_false, Bool.not_false, Bool.not_true, Bool.not_not, Bool.false_eq_true, exists_and_left, and_true, true_and, List.set_cons_zero, List.set_cons_succ, Option.join_some, false_and, or_false, false_or, exists_false, sp_cellat, sp_nameby, sp_wordrow, sp_toldby, sp_drawn, sp_copy, sp_wrapped, sp_uinit, sp_places, sp_aimby, sp_aims, sp_aim, sp_whole, sp_last, sp_due, sp_alone, sp_refused, sp_holds, Ends.nx, Nat.reduceSub, Nat.reduceAdd]); (try simp only [tSeq, tAsg, gName, tC, tOp, tUn, tVar, tRet, tIfS, tOr, tAnd, tNot, tTest, tB, tChain, tCB, tCons, tNil, tCall, tSl, tNoPart, tPart, tNext, tDrop, tLst, tTup, tYes, tNotV, tAndV, tOrV, L2.start, List.set, List.map, List.length, List.replicate, List.cons_append, List.nil_append, List.append_nil, cK, bK, rI0, rI, rU, rIxS, rIxL, rIxT, tRetN, rSlL, rIn, rCatT, gTup, gCons, gNil, tRaiseI, tXInit, tDGet, tDGet1, tDGet2, tDIn, tDNotIn, sDPut, tDNewK, rDictOf, rEqDict, rCount, tCompX_list, xCall, sXFld, tXFld, rSlS, rEq, rNe, sc0, sc1, sc2, sc3, sc4, sc5, sc6, sc7, sc8, sc9, sc10, sc11, sc12, sc13, rCatS, rIsi, LenV, rAll, tFor_list, tFor_tup, tFor_str, tFor_rng1, tFor_rng2, tComp_list, tComp_tup, tComp_str, tComp_rng1, blkSt, tBM, rAppend, rStarts, rIndex, tIf, tMake, tMeth, sFld, tFld, tRepr, tFmt, jNil, jCons, tJoined, rJoin, rIsx, rIst, tRaise, tTryAs, tTry0, un1, xMeth, xDrop, xSet, xRet, xOf, xSeq, List.getElem?_cons_zero, List.getElem?_cons_succ, Option.some.injEq, V.int.injEq, V.str.injEq, V.bl.injEq, V.ref.injEq, V.ty.injEq, List.cons.injEq, exists_eq_left', exists_eq_left, exists_eq', and_assoc, if_true, if_false, Bool.not_false, Bool.not_true, Bool.not_not, Bool.false_eq_true, exists_and_left, and_true, true_and, List.set_cons_zero, List.set_cons_succ, Option.join_some, false_and, or_false, false_or, exists_false, sp_cellat, sp_nameby, sp_wordrow, sp_toldby, sp_drawn, sp_copy, sp_wrapped, sp_uinit, sp_places, sp_aimby, sp_aims, sp_aim, sp_whole, sp_last, sp_due, sp_alone, sp_refused, sp_holds, Ends.nx, Nat.reduceSub, Nat.reduceAdd, reduceCtorEq]))
      refine ⟨p, rfl, pa, by omega, by omega, fun s hs => ⟨by have := (pss s hs).1; omega, by have := (pss s hs).2; omega⟩, fun r H5 s5 ra cp _ _ => ⟨_, SqT.of ra.top, _, rfl, ?_⟩⟩
      refine ForL.of (xs := r.sts.map StM.v) (fun j σ H' => Same H5 H' ∧ ∃ b6 b7, σ = [some (V.ref a), some (V.ref L), some (V.ref d), some (V.ref q), some p.v, some r.v, b6, b7])
        ⟨Same.refl _, _, _, rfl⟩ (fun i σ H' _ ⟨sm, _⟩ => SqL.of (sm _ _ ra.sl)) ?_ ?_
      · rintro j x σ H6 hx ⟨s6, b6, b7, rfl⟩
        rw [List.getElem?_map] at hx
        obtain ⟨st, hst, rfl⟩ := Option.map_eq_some_iff.mp hx
        have hstm := List.mem_of_getElem? hst
        have sa := (ra.ss st hstm).mono s6
        obtain ⟨st0, hst0, ef⟩ := Copy.fills cp hstm
        have so := (dr.ok p hpm).sts st0 hst0
        ((try dsimp only [tSeq, tAsg, gName, tC, tOp, tUn, tVar, tRet, tIfS, tOr, tAnd, tNot, tTest, tB, tChain, tCB, tCons, tNil, tCall, tSl, tNoPart, tPart, tNext, tDrop, tLst, tTup, tYes, tNotV, tAndV, tOrV, L2.start, List.set, List.map, List.length, List.replicate, List.cons_append, List.nil_append, List.append_nil, cK, bK, rI0, rI, rU, rIxS, rIxL, rIxT, tRetN, rSlL, rIn, rCatT, gTup, gCons, gNil, tRaiseI, tXInit, tDGet, tDGet1, tDGet2, tDIn, tDNotIn, sDPut, tDNewK, rDictOf, rEqDict, rCount, tCompX_list, xCall, sXFld, tXFld, rSlS, rEq, rNe, sc0, sc1, sc2, sc3, sc4, sc5, sc6, sc7, sc8, sc9, sc10, sc11, sc12, sc13, rCatS, rIsi, LenV, rAll, tFor_list, tFor_tup, tFor_str, tFor_rng1, tFor_rng2, tComp_list, tComp_tup, tComp_str, tComp_rng1, blkSt, tBM, rAppend, rStarts, rIndex, tIf, tMake, tMeth, sFld, tFld, tRepr, tFmt, jNil, jCons, tJoined, rJoin, rIsx, rIst, tRaise, tTryAs, tTry0, un1, xMeth, xDrop, xSet, xRet, xOf, xSeq, List.getElem?_cons_zero, List.getElem?_cons_succ, Option.some.injEq, V.int.injEq, V.str.injEq, V.bl.injEq, V.ref.injEq, V.ty.injEq, List.cons.injEq, exists_eq_left', exists_eq_left, exists_eq', and_assoc, if_true, if_false, Bool.not_false, Bool.not_true, Bool.not_not, Bool.false_eq_true, exists_and_left, and_true, true_and, List.set_cons_zero, List.set_cons_succ, Option.join_some, false_and, or_false, false_or, exists_false, sp_cellat, sp_nameby, sp_wordrow, sp_toldby, sp_drawn, sp_copy, sp_wrapped, sp_uinit, sp_places, sp_aimby, sp_aims, sp_aim, sp_whole, sp_last, sp_due, sp_alone, sp_refused, sp_holds, Ends.nx, Nat.reduceSub, Nat.reduceAdd]); (try simp only [tSeq, tAsg, gName, tC, tOp, tUn, tVar, tRet, tIfS, tOr, tAnd, tNot, tTest, tB, tChain, tCB, tCons, tNil, tCall, tSl, tNoPart, tPart, tNext, tDrop, tLst, tTup, tYes, tNotV, tAndV, tOrV, L2.start, List.set, List.map, List.length, List.replicate, List.cons_append, List.nil_append, List.append_nil, cK, bK, rI0, rI, rU, rIxS, rIxL, rIxT, tRetN, rSlL, rIn, rCatT, gTup, gCons, gNil, tRaiseI, tXInit, tDGet, tDGet1, tDGet2, tDIn, tDNotIn, sDPut, tDNewK, rDictOf, rEqDict, rCount, tCompX_list, xCall, sXFld, tXFld, rSlS, rEq, rNe, sc0, sc1, sc2, sc3, sc4, sc5, sc6, sc7, sc8, sc9, sc10, sc11, sc12, sc13, rCatS, rIsi, LenV, rAll, tFor_list, tFor_tup, tFor_str, tFor_rng1, tFor_rng2, tComp_list, tComp_tup, tComp_str, tComp_rng1, blkSt, tBM, rAppend, rStarts, rIndex, tIf, tMake, tMeth, sFld, tFld, tRepr, tFmt, jNil, jCons, tJoined, rJoin, rIsx, rIst, tRaise, tTryAs, tTry0, un1, xMeth, xDrop, xSet, xRet, xOf, xSeq, List.getElem?_cons_zero, List.getElem?_cons_succ, Option.some.injEq, V.int.injEq, V.str.injEq, V.bl.injEq, V.ref.injEq, V.ty.injEq, List.cons.injEq, exists_eq_left', exists_eq_left, exists_eq', and_assoc, if_true, if_false, Bool.not_false, Bool.not_true, Bool.not_not, Bool.false_eq_true, exists_and_left, and_true, true_and, List.set_cons_zero, List.set_cons_succ, Option.join_some, false_and, or_false, false_or, exists_false, sp_cellat, sp_nameby, sp_wordrow, sp_toldby, sp_drawn, sp_copy, sp_wrapped, sp_uinit, sp_places, sp_aimby, sp_aims, sp_aim, sp_whole, sp_last, sp_due, sp_alone, sp_refused, sp_holds, Ends.nx, Nat.reduceSub, Nat.reduceAdd, reduceCtorEq]))
        refine ⟨_, SqT.of sa.top, _, rfl, ?_⟩
        refine ForL.of (xs := st.fills.map FillM.v) (fun j σ H' => Same H6 H' ∧ ∃ b7, σ = [some (V.ref a), some (V.ref L), some (V.ref d), some (V.ref q), some p.v, some r.v, some st.v, b7])
          ⟨Same.refl _, _, rfl⟩ (fun i σ H' _ ⟨sm, _⟩ => SqL.of (sm _ _ sa.fl)) ?_ ?_
        · rintro m x σ H7 hx ⟨s7, b7, rfl⟩
          rw [List.getElem?_map] at hx
          obtain ⟨f, hf, rfl⟩ := Option.map_eq_some_iff.mp hx
          have hfm := List.mem_of_getElem? hf
          have fa := (sa.fs f hfm).mono s7
          have fo := so.fills f (by rw [ef]; exact hfm)
          obtain ⟨kk, k1, _, kn⟩ := fo.name
          ((try dsimp only [tSeq, tAsg, gName, tC, tOp, tUn, tVar, tRet, tIfS, tOr, tAnd, tNot, tTest, tB, tChain, tCB, tCons, tNil, tCall, tSl, tNoPart, tPart, tNext, tDrop, tLst, tTup, tYes, tNotV, tAndV, tOrV, L2.start, List.set, List.map, List.length, List.replicate, List.cons_append, List.nil_append, List.append_nil, cK, bK, rI0, rI, rU, rIxS, rIxL, rIxT, tRetN, rSlL, rIn, rCatT, gTup, gCons, gNil, tRaiseI, tXInit, tDGet, tDGet1, tDGet2, tDIn, tDNotIn, sDPut, tDNewK, rDictOf, rEqDict, rCount, tCompX_list, xCall, sXFld, tXFld, rSlS, rEq, rNe, sc0, sc1, sc2, sc3, sc4, sc5, sc6, sc7, sc8, sc9, sc10, sc11, sc12, sc13, rCatS, rIsi, LenV, rAll, tFor_list, tFor_tup, tFor_str, tFor_rng1, tFor_rng2, tComp_list, tComp_tup, tComp_str, tComp_rng1, blkSt, tBM, rAppend, rStarts, rIndex, tIf, tMake, tMeth, sFld, tFld, tRepr, tFmt, jNil, jCons, tJoined, rJoin, rIsx, rIst, tRaise, tTryAs, tTry0, un1, xMeth, xDrop, xSet, xRet, xOf, xSeq, List.getElem?_cons_zero, List.getElem?_cons_succ, Option.some.injEq, V.int.injEq, V.str.injEq, V.bl.injEq, V.ref.injEq, V.ty.injEq, List.cons.injEq, exists_eq_left', exists_eq_left, exists_eq', and_assoc, if_true, if_false, Bool.not_false, Bool.not_true, Bool.not_not, Bool.false_eq_true, exists_and_left, and_true, true_and, List.set_cons_zero, List.set_cons_succ, Option.join_some, false_and, or_false, false_or, exists_false, sp_cellat, sp_nameby, sp_wordrow, sp_toldby, sp_drawn, sp_copy, sp_wrapped, sp_uinit, sp_places, sp_aimby, sp_aims, sp_aim, sp_whole, sp_last, sp_due, sp_alone, sp_refused, sp_holds, Ends.nx, Nat.reduceSub, Nat.reduceAdd]); (try simp only [tSeq, tAsg, gName, tC, tOp, tUn, tVar, tRet, tIfS, tOr, tAnd, tNot, tTest, tB, tChain, tCB, tCons, tNil, tCall, tSl, tNoPart, tPart, tNext, tDrop, tLst, tTup, tYes, tNotV, tAndV, tOrV, L2.start, List.set, List.map, List.length, List.replicate, List.cons_append, List.nil_append, List.append_nil, cK, bK, rI0, rI, rU, rIxS, rIxL, rIxT, tRetN, rSlL, rIn, rCatT, gTup, gCons, gNil, tRaiseI, tXInit, tDGet, tDGet1, tDGet2, tDIn, tDNotIn, sDPut, tDNewK, rDictOf, rEqDict, rCount, tCompX_list, xCall, sXFld, tXFld, rSlS, rEq, rNe, sc0, sc1, sc2, sc3, sc4, sc5, sc6, sc7, sc8, sc9, sc10, sc11, sc12, sc13, rCatS, rIsi, LenV, rAll, tFor_list, tFor_tup, tFor_str, tFor_rng1, tFor_rng2, tComp_list, tComp_tup, tComp_str, tComp_rng1, blkSt, tBM, rAppend, rStarts, rIndex, tIf, tMake, tMeth, sFld, tFld, tRepr, tFmt, jNil, jCons, tJoined, rJoin, rIsx, rIst, tRaise, tTryAs, tTry0, un1, xMeth, xDrop, xSet, xRet, xOf, xSeq, List.getElem?_cons_zero, List.getElem?_cons_succ, Option.some.injEq, V.int.injEq, V.str.injEq, V.bl.injEq, V.ref.injEq, V.ty.injEq, List.cons.injEq, exists_eq_left', exists_eq_left, exists_eq', and_assoc, if_true, if_false, Bool.not_false, Bool.not_true, Bool.not_not, Bool.false_eq_true, exists_and_left, and_true, true_and, List.set_cons_zero, List.set_cons_succ, Option.join_some, false_and, or_false, false_or, exists_false, sp_cellat, sp_nameby, sp_wordrow, sp_toldby, sp_drawn, sp_copy, sp_wrapped, sp_uinit, sp_places, sp_aimby, sp_aims, sp_aim, sp_whole, sp_last, sp_due, sp_alone, sp_refused, sp_holds, Ends.nx, Nat.reduceSub, Nat.reduceAdd, reduceCtorEq]))
          refine ⟨r, rfl, f, rfl, ⟨ra.mono (s6.trans s7), by rw [cp.nms]; omega, by rw [cp.nms]; exact (dr.ok p hpm).nd, by rw [cp.name]; exact pn, fa, by rw [kn]; exact nameOf_ok _ _ k1⟩, tb, tab3.mono (((s4.trans s5).trans s6).trans s7), fun H8 s8 => ?_⟩
          exact s7.trans s8
        · rintro σ H7 ⟨s7, b7, rfl⟩
          exact ⟨s6.trans s7, _, _, rfl⟩
      · rintro σ H6 ⟨s6, b6, b7, rfl⟩
        ((try dsimp only [tSeq, tAsg, gName, tC, tOp, tUn, tVar, tRet, tIfS, tOr, tAnd, tNot, tTest, tB, tChain, tCB, tCons, tNil, tCall, tSl, tNoPart, tPart, tNext, tDrop, tLst, tTup, tYes, tNotV, tAndV, tOrV, L2.start, List.set, List.map, List.length, List.replicate, List.cons_append, List.nil_append, List.append_nil, cK, bK, rI0, rI, rU, rIxS, rIxL, rIxT, tRetN, rSlL, rIn, rCatT, gTup, gCons, gNil, tRaiseI, tXInit, tDGet, tDGet1, tDGet2, tDIn, tDNotIn, sDPut, tDNewK, rDictOf, rEqDict, rCount, tCompX_list, xCall, sXFld, tXFld, rSlS, rEq, rNe, sc0, sc1, sc2, sc3, sc4, sc5, sc6, sc7, sc8, sc9, sc10, sc11, sc12, sc13, rCatS, rIsi, LenV, rAll, tFor_list, tFor_tup, tFor_str, tFor_rng1, tFor_rng2, tComp_list, tComp_tup, tComp_str, tComp_rng1, blkSt, tBM, rAppend, rStarts, rIndex, tIf, tMake, tMeth, sFld, tFld, tRepr, tFmt, jNil, jCons, tJoined, rJoin, rIsx, rIst, tRaise, tTryAs, tTry0, un1, xMeth, xDrop, xSet, xRet, xOf, xSeq, List.getElem?_cons_zero, List.getElem?_cons_succ, Option.some.injEq, V.int.injEq, V.str.injEq, V.bl.injEq, V.ref.injEq, V.ty.injEq, List.cons.injEq, exists_eq_left', exists_eq_left, exists_eq', and_assoc, if_true, if_false, Bool.not_false, Bool.not_true, Bool.not_not, Bool.false_eq_true, exists_and_left, and_true, true_and, List.set_cons_zero, List.set_cons_succ, Option.join_some, false_and, or_false, false_or, exists_false, sp_cellat, sp_nameby, sp_wordrow, sp_toldby, sp_drawn, sp_copy, sp_wrapped, sp_uinit, sp_places, sp_aimby, sp_aims, sp_aim, sp_whole, sp_last, sp_due, sp_alone, sp_refused, sp_holds, Ends.nx, Nat.reduceSub, Nat.reduceAdd]); (try simp only [tSeq, tAsg, gName, tC, tOp, tUn, tVar, tRet, tIfS, tOr, tAnd, tNot, tTest, tB, tChain, tCB, tCons, tNil, tCall, tSl, tNoPart, tPart, tNext, tDrop, tLst, tTup, tYes, tNotV, tAndV, tOrV, L2.start, List.set, List.map, List.length, List.replicate, List.cons_append, List.nil_append, List.append_nil, cK, bK, rI0, rI, rU, rIxS, rIxL, rIxT, tRetN, rSlL, rIn, rCatT, gTup, gCons, gNil, tRaiseI, tXInit, tDGet, tDGet1, tDGet2, tDIn, tDNotIn, sDPut, tDNewK, rDictOf, rEqDict, rCount, tCompX_list, xCall, sXFld, tXFld, rSlS, rEq, rNe, sc0, sc1, sc2, sc3, sc4, sc5, sc6, sc7, sc8, sc9, sc10, sc11, sc12, sc13, rCatS, rIsi, LenV, rAll, tFor_list, tFor_tup, tFor_str, tFor_rng1, tFor_rng2, tComp_list, tComp_tup, tComp_str, tComp_rng1, blkSt, tBM, rAppend, rStarts, rIndex, tIf, tMake, tMeth, sFld, tFld, tRepr, tFmt, jNil, jCons, tJoined, rJoin, rIsx, rIst, tRaise, tTryAs, tTry0, un1, xMeth, xDrop, xSet, xRet, xOf, xSeq, List.getElem?_cons_zero, List.getElem?_cons_succ, Option.some.injEq, V.int.injEq, V.str.injEq, V.bl.injEq, V.ref.injEq, V.ty.injEq, List.cons.injEq, exists_eq_left', exists_eq_left, exists_eq', and_assoc, if_true, if_false, Bool.not_false, Bool.not_true, Bool.not_not, Bool.false_eq_true, exists_and_left, and_true, true_and, List.set_cons_zero, List.set_cons_succ, Option.join_some, false_and, or_false, false_or, exists_false, sp_cellat, sp_nameby, sp_wordrow, sp_toldby, sp_drawn, sp_copy, sp_wrapped, sp_uinit, sp_places, sp_aimby, sp_aims, sp_aim, sp_whole, sp_last, sp_due, sp_alone, sp_refused, sp_holds, Ends.nx, Nat.reduceSub, Nat.reduceAdd, reduceCtorEq]))
        have r1 := (ra.mono s6).rep (K := K)
        have r2 := (pa.mono (s5.trans s6)).rep (K := K)
        rw [cp.d] at r1
        have dp := dep_pc p
        simp only [PcM.d] at r1 r2 dp
        simp only [dep] at dp
        refine ⟨_, _, .inr ⟨r1, r2⟩, by omega, ?_⟩
        rw [deqL_refl]
        refine ⟨false, rfl, ?_⟩
        rw [if_neg (by simp)]
        exact (s4.trans s5).trans s6
    · rintro σ H4 ⟨s4, b4, b5, b6, b7, rfl⟩
      ((try dsimp only [tSeq, tAsg, gName, tC, tOp, tUn, tVar, tRet, tIfS, tOr, tAnd, tNot, tTest, tB, tChain, tCB, tCons, tNil, tCall, tSl, tNoPart, tPart, tNext, tDrop, tLst, tTup, tYes, tNotV, tAndV, tOrV, L2.start, List.set, List.map, List.length, List.replicate, List.cons_append, List.nil_append, List.append_nil, cK, bK, rI0, rI, rU, rIxS, rIxL, rIxT, tRetN, rSlL, rIn, rCatT, gTup, gCons, gNil, tRaiseI, tXInit, tDGet, tDGet1, tDGet2, tDIn, tDNotIn, sDPut, tDNewK, rDictOf, rEqDict, rCount, tCompX_list, xCall, sXFld, tXFld, rSlS, rEq, rNe, sc0, sc1, sc2, sc3, sc4, sc5, sc6, sc7, sc8, sc9, sc10, sc11, sc12, sc13, rCatS, rIsi, LenV, rAll, tFor_list, tFor_tup, tFor_str, tFor_rng1, tFor_rng2, tComp_list, tComp_tup, tComp_str, tComp_rng1, blkSt, tBM, rAppend, rStarts, rIndex, tIf, tMake, tMeth, sFld, tFld, tRepr, tFmt, jNil, jCons, tJoined, rJoin, rIsx, rIst, tRaise, tTryAs, tTry0, un1, xMeth, xDrop, xSet, xRet, xOf, xSeq, List.getElem?_cons_zero, List.getElem?_cons_succ, Option.some.injEq, V.int.injEq, V.str.injEq, V.bl.injEq, V.ref.injEq, V.ty.injEq, List.cons.injEq, exists_eq_left', exists_eq_left, exists_eq', and_assoc, if_true, if_false, Bool.not_false, Bool.not_true, Bool.not_not, Bool.false_eq_true, exists_and_left, and_true, true_and, List.set_cons_zero, List.set_cons_succ, Option.join_some, false_and, or_false, false_or, exists_false, sp_cellat, sp_nameby, sp_wordrow, sp_toldby, sp_drawn, sp_copy, sp_wrapped, sp_uinit, sp_places, sp_aimby, sp_aims, sp_aim, sp_whole, sp_last, sp_due, sp_alone, sp_refused, sp_holds, Ends.nx, Nat.reduceSub, Nat.reduceAdd]); (try simp only [tSeq, tAsg, gName, tC, tOp, tUn, tVar, tRet, tIfS, tOr, tAnd, tNot, tTest, tB, tChain, tCB, tCons, tNil, tCall, tSl, tNoPart, tPart, tNext, tDrop, tLst, tTup, tYes, tNotV, tAndV, tOrV, L2.start, List.set, List.map, List.length, List.replicate, List.cons_append, List.nil_append, List.append_nil, cK, bK, rI0, rI, rU, rIxS, rIxL, rIxT, tRetN, rSlL, rIn, rCatT, gTup, gCons, gNil, tRaiseI, tXInit, tDGet, tDGet1, tDGet2, tDIn, tDNotIn, sDPut, tDNewK, rDictOf, rEqDict, rCount, tCompX_list, xCall, sXFld, tXFld, rSlS, rEq, rNe, sc0, sc1, sc2, sc3, sc4, sc5, sc6, sc7, sc8, sc9, sc10, sc11, sc12, sc13, rCatS, rIsi, LenV, rAll, tFor_list, tFor_tup, tFor_str, tFor_rng1, tFor_rng2, tComp_list, tComp_tup, tComp_str, tComp_rng1, blkSt, tBM, rAppend, rStarts, rIndex, tIf, tMake, tMeth, sFld, tFld, tRepr, tFmt, jNil, jCons, tJoined, rJoin, rIsx, rIst, tRaise, tTryAs, tTry0, un1, xMeth, xDrop, xSet, xRet, xOf, xSeq, List.getElem?_cons_zero, List.getElem?_cons_succ, Option.some.injEq, V.int.injEq, V.str.injEq, V.bl.injEq, V.ref.injEq, V.ty.injEq, List.cons.injEq, exists_eq_left', exists_eq_left, exists_eq', and_assoc, if_true, if_false, Bool.not_false, Bool.not_true, Bool.not_not, Bool.false_eq_true, exists_and_left, and_true, true_and, List.set_cons_zero, List.set_cons_succ, Option.join_some, false_and, or_false, false_or, exists_false, sp_cellat, sp_nameby, sp_wordrow, sp_toldby, sp_drawn, sp_copy, sp_wrapped, sp_uinit, sp_places, sp_aimby, sp_aims, sp_aim, sp_whole, sp_last, sp_due, sp_alone, sp_refused, sp_holds, Ends.nx, Nat.reduceSub, Nat.reduceAdd, reduceCtorEq]))
      refine ⟨_, s4 _ _ tab3.top, s4 _ _ hq3, fun kv h => ?_, k _⟩
      obtain ⟨m, hm', rfl⟩ := List.mem_map.mp h
      refine ⟨.tup [.str m.a, .int m.b, .int m.c], ?_, by simp [dep, depL]⟩
      simp only [Rep]
      exact ⟨_, _, rfl, SqT.of (s4 _ _ (tab3.at_ m hm')), by simp [RepL, Rep]⟩
end
@[elab_as_elim] theorem len1 {α : Type} {p : List α → Prop} (us : List α) (h : us.length = 1) (f : ∀ a, p [a]) : p us := by
  match us, h with | [a], _ => exact f a
@[elab_as_elim] theorem len2 {α : Type} {p : List α → Prop} (us : List α) (h : us.length = 2) (f : ∀ a b, p [a, b]) : p us := by
  match us, h with | [a, b], _ => exact f a b
@[elab_as_elim] theorem len3 {α : Type} {p : List α → Prop} (us : List α) (h : us.length = 3) (f : ∀ a b c, p [a, b, c]) : p us := by
  match us, h with | [a, b, c], _ => exact f a b c
@[elab_as_elim] theorem len4 {α : Type} {p : List α → Prop} (us : List α) (h : us.length = 4) (f : ∀ a b c d, p [a, b, c, d]) : p us := by
  match us, h with | [a, b, c, d], _ => exact f a b c d
theorem all_mk {l : PySem.W.OpenLaw} {w : World} {K : PySem.W.Frag} {h : Heap} {mg : Str → Option Value} {fa f_wrapped f_Unmet___init__ f_aim f_aims f_aim_by f_places_told f__law_cell_at f__law_name_by f__law_word_row f__law_told_by f__law_drawn f__law_copy f__law_whole f__law_last f__law_due f__law_alone f__law_refused f__law_holds f_law C_JoinError C_Lost C_NoBase C_NoPiece C_NoRule C_NoSense C_NoWhole C_SameName C_TooFar C_Twice C_Unmet : Addr} {t_WORD_COUNT : Tok} (X : K.In h) (G : h.Ns mainGlobals mg) (hfa : mg "law" = some (.ref fa))
    {od_wrapped an_wrapped : Option Addr} {sl_wrapped : Array (Option Value)} {oc_wrapped kV_wrapped dc_wrapped pm_wrapped cd_wrapped ct_wrapped : Value}
    {od_Unmet___init__ an_Unmet___init__ : Option Addr} {sl_Unmet___init__ : Array (Option Value)} {oc_Unmet___init__ kV_Unmet___init__ dc_Unmet___init__ pm_Unmet___init__ cd_Unmet___init__ ct_Unmet___init__ : Value}
    {od_aim an_aim : Option Addr} {sl_aim : Array (Option Value)} {oc_aim kV_aim dc_aim pm_aim cd_aim ct_aim : Value}
    {od_aims an_aims : Option Addr} {sl_aims : Array (Option Value)} {oc_aims kV_aims dc_aims pm_aims cd_aims ct_aims : Value}
    {od_aim_by an_aim_by : Option Addr} {sl_aim_by : Array (Option Value)} {oc_aim_by kV_aim_by dc_aim_by pm_aim_by cd_aim_by ct_aim_by : Value}
    {od_places_told an_places_told : Option Addr} {sl_places_told : Array (Option Value)} {oc_places_told kV_places_told dc_places_told pm_places_told cd_places_told ct_places_told : Value}
    {od__law_cell_at an__law_cell_at : Option Addr} {sl__law_cell_at : Array (Option Value)} {oc__law_cell_at kV__law_cell_at dc__law_cell_at pm__law_cell_at cd__law_cell_at ct__law_cell_at : Value}
    {od__law_name_by an__law_name_by : Option Addr} {sl__law_name_by : Array (Option Value)} {oc__law_name_by kV__law_name_by dc__law_name_by pm__law_name_by cd__law_name_by ct__law_name_by : Value}
    {od__law_word_row an__law_word_row : Option Addr} {sl__law_word_row : Array (Option Value)} {oc__law_word_row kV__law_word_row dc__law_word_row pm__law_word_row cd__law_word_row ct__law_word_row : Value}
    {od__law_told_by an__law_told_by : Option Addr} {sl__law_told_by : Array (Option Value)} {oc__law_told_by kV__law_told_by dc__law_told_by pm__law_told_by cd__law_told_by ct__law_told_by : Value}
    {od__law_drawn an__law_drawn : Option Addr} {sl__law_drawn : Array (Option Value)} {oc__law_drawn kV__law_drawn dc__law_drawn pm__law_drawn cd__law_drawn ct__law_drawn : Value}
    {od__law_copy an__law_copy : Option Addr} {sl__law_copy : Array (Option Value)} {oc__law_copy kV__law_copy dc__law_copy pm__law_copy cd__law_copy ct__law_copy : Value}
    {od__law_whole an__law_whole : Option Addr} {sl__law_whole : Array (Option Value)} {oc__law_whole kV__law_whole dc__law_whole pm__law_whole cd__law_whole ct__law_whole : Value}
    {od__law_last an__law_last : Option Addr} {sl__law_last : Array (Option Value)} {oc__law_last kV__law_last dc__law_last pm__law_last cd__law_last ct__law_last : Value}
    {od__law_due an__law_due : Option Addr} {sl__law_due : Array (Option Value)} {oc__law_due kV__law_due dc__law_due pm__law_due cd__law_due ct__law_due : Value}
    {od__law_alone an__law_alone : Option Addr} {sl__law_alone : Array (Option Value)} {oc__law_alone kV__law_alone dc__law_alone pm__law_alone cd__law_alone ct__law_alone : Value}
    {od__law_refused an__law_refused : Option Addr} {sl__law_refused : Array (Option Value)} {oc__law_refused kV__law_refused dc__law_refused pm__law_refused cd__law_refused ct__law_refused : Value}
    {od__law_holds an__law_holds : Option Addr} {sl__law_holds : Array (Option Value)} {oc__law_holds kV__law_holds dc__law_holds pm__law_holds cd__law_holds ct__law_holds : Value}
    {od_law an_law : Option Addr} {sl_law : Array (Option Value)} {oc_law kV_law dc_law pm_law cd_law ct_law : Value}
    (ac_JoinError : PySem.W.nsIn K mainGlobals "JoinError" = some (some (.ref C_JoinError)))
    (ac_Lost : PySem.W.nsIn K mainGlobals "Lost" = some (some (.ref C_Lost)))
    (ac_NoBase : PySem.W.nsIn K mainGlobals "NoBase" = some (some (.ref C_NoBase)))
    (ac_NoPiece : PySem.W.nsIn K mainGlobals "NoPiece" = some (some (.ref C_NoPiece)))
    (ac_NoRule : PySem.W.nsIn K mainGlobals "NoRule" = some (some (.ref C_NoRule)))
    (ac_NoSense : PySem.W.nsIn K mainGlobals "NoSense" = some (some (.ref C_NoSense)))
    (ac_NoWhole : PySem.W.nsIn K mainGlobals "NoWhole" = some (some (.ref C_NoWhole)))
    (ac_SameName : PySem.W.nsIn K mainGlobals "SameName" = some (some (.ref C_SameName)))
    (ac_TooFar : PySem.W.nsIn K mainGlobals "TooFar" = some (some (.ref C_TooFar)))
    (ac_Twice : PySem.W.nsIn K mainGlobals "Twice" = some (some (.ref C_Twice)))
    (ac_Unmet : PySem.W.nsIn K mainGlobals "Unmet" = some (some (.ref C_Unmet)))
    (a_wrapped : PySem.W.nsIn K mainGlobals "wrapped" = some (some (.ref f_wrapped)))
    (l_wrapped : K.lookup f_wrapped = some ⟨oc_wrapped, od_wrapped, .func (PySem.W.fnOf "wrapped" "wrapped" (defArgs s_wrapped) (defBody s_wrapped) (defScope s_wrapped) .none kV_wrapped dc_wrapped pm_wrapped an_wrapped cd_wrapped ct_wrapped), sl_wrapped⟩)
    (e_wrapped : PySem.W.codeIn K cd_wrapped "wrapped" = true)
    (k_wrapped : PySem.W.keepIn K (.ref f_wrapped) = true)
    (a_Unmet___init__ : PySem.W.findIn K (.ref C_Unmet) "__init__" = some (some (.ref f_Unmet___init__)))
    (i_Unmet___init__ : PySem.W.isFn K (.ref f_Unmet___init__) = true)
    (l_Unmet___init__ : K.lookup f_Unmet___init__ = some ⟨oc_Unmet___init__, od_Unmet___init__, .func (PySem.W.fnOf "__init__" "Unmet.__init__" (defArgs s_Unmet___init__) (defBody s_Unmet___init__) (defScope s_Unmet___init__) .none kV_Unmet___init__ dc_Unmet___init__ pm_Unmet___init__ an_Unmet___init__ cd_Unmet___init__ ct_Unmet___init__), sl_Unmet___init__⟩)
    (e_Unmet___init__ : PySem.W.codeIn K cd_Unmet___init__ "Unmet.__init__" = true)
    (k_Unmet___init__ : PySem.W.keepIn K (.ref f_Unmet___init__) = true)
    (a_aim : PySem.W.nsIn K mainGlobals "aim" = some (some (.ref f_aim)))
    (l_aim : K.lookup f_aim = some ⟨oc_aim, od_aim, .func (PySem.W.fnOf "aim" "aim" (defArgs s_aim) (defBody s_aim) (defScope s_aim) .none kV_aim dc_aim pm_aim an_aim cd_aim ct_aim), sl_aim⟩)
    (e_aim : PySem.W.codeIn K cd_aim "aim" = true)
    (k_aim : PySem.W.keepIn K (.ref f_aim) = true)
    (a_aims : PySem.W.nsIn K mainGlobals "aims" = some (some (.ref f_aims)))
    (l_aims : K.lookup f_aims = some ⟨oc_aims, od_aims, .func (PySem.W.fnOf "aims" "aims" (defArgs s_aims) (defBody s_aims) (defScope s_aims) .none kV_aims dc_aims pm_aims an_aims cd_aims ct_aims), sl_aims⟩)
    (e_aims : PySem.W.codeIn K cd_aims "aims" = true)
    (k_aims : PySem.W.keepIn K (.ref f_aims) = true)
    (a_aim_by : PySem.W.nsIn K mainGlobals "aim_by" = some (some (.ref f_aim_by)))
    (l_aim_by : K.lookup f_aim_by = some ⟨oc_aim_by, od_aim_by, .func (PySem.W.fnOf "aim_by" "aim_by" (defArgs s_aim_by) (defBody s_aim_by) (defScope s_aim_by) .none kV_aim_by dc_aim_by pm_aim_by an_aim_by cd_aim_by ct_aim_by), sl_aim_by⟩)
    (e_aim_by : PySem.W.codeIn K cd_aim_by "aim_by" = true)
    (k_aim_by : PySem.W.keepIn K (.ref f_aim_by) = true)
    (a_places_told : PySem.W.nsIn K mainGlobals "places_told" = some (some (.ref f_places_told)))
    (l_places_told : K.lookup f_places_told = some ⟨oc_places_told, od_places_told, .func (PySem.W.fnOf "places_told" "places_told" (defArgs s_places_told) (defBody s_places_told) (defScope s_places_told) .none kV_places_told dc_places_told pm_places_told an_places_told cd_places_told ct_places_told), sl_places_told⟩)
    (e_places_told : PySem.W.codeIn K cd_places_told "places_told" = true)
    (k_places_told : PySem.W.keepIn K (.ref f_places_told) = true)
    (a__law_cell_at : PySem.W.nsIn K mainGlobals "_law_cell_at" = some (some (.ref f__law_cell_at)))
    (l__law_cell_at : K.lookup f__law_cell_at = some ⟨oc__law_cell_at, od__law_cell_at, .func (PySem.W.fnOf "_law_cell_at" "_law_cell_at" (defArgs s__law_cell_at) (defBody s__law_cell_at) (defScope s__law_cell_at) .none kV__law_cell_at dc__law_cell_at pm__law_cell_at an__law_cell_at cd__law_cell_at ct__law_cell_at), sl__law_cell_at⟩)
    (e__law_cell_at : PySem.W.codeIn K cd__law_cell_at "_law_cell_at" = true)
    (k__law_cell_at : PySem.W.keepIn K (.ref f__law_cell_at) = true)
    (a__law_name_by : PySem.W.nsIn K mainGlobals "_law_name_by" = some (some (.ref f__law_name_by)))
    (l__law_name_by : K.lookup f__law_name_by = some ⟨oc__law_name_by, od__law_name_by, .func (PySem.W.fnOf "_law_name_by" "_law_name_by" (defArgs s__law_name_by) (defBody s__law_name_by) (defScope s__law_name_by) .none kV__law_name_by dc__law_name_by pm__law_name_by an__law_name_by cd__law_name_by ct__law_name_by), sl__law_name_by⟩)
    (e__law_name_by : PySem.W.codeIn K cd__law_name_by "_law_name_by" = true)
    (k__law_name_by : PySem.W.keepIn K (.ref f__law_name_by) = true)
    (a__law_word_row : PySem.W.nsIn K mainGlobals "_law_word_row" = some (some (.ref f__law_word_row)))
    (l__law_word_row : K.lookup f__law_word_row = some ⟨oc__law_word_row, od__law_word_row, .func (PySem.W.fnOf "_law_word_row" "_law_word_row" (defArgs s__law_word_row) (defBody s__law_word_row) (defScope s__law_word_row) .none kV__law_word_row dc__law_word_row pm__law_word_row an__law_word_row cd__law_word_row ct__law_word_row), sl__law_word_row⟩)
    (e__law_word_row : PySem.W.codeIn K cd__law_word_row "_law_word_row" = true)
    (k__law_word_row : PySem.W.keepIn K (.ref f__law_word_row) = true)
    (a__law_told_by : PySem.W.nsIn K mainGlobals "_law_told_by" = some (some (.ref f__law_told_by)))
    (l__law_told_by : K.lookup f__law_told_by = some ⟨oc__law_told_by, od__law_told_by, .func (PySem.W.fnOf "_law_told_by" "_law_told_by" (defArgs s__law_told_by) (defBody s__law_told_by) (defScope s__law_told_by) .none kV__law_told_by dc__law_told_by pm__law_told_by an__law_told_by cd__law_told_by ct__law_told_by), sl__law_told_by⟩)
    (e__law_told_by : PySem.W.codeIn K cd__law_told_by "_law_told_by" = true)
    (k__law_told_by : PySem.W.keepIn K (.ref f__law_told_by) = true)
    (a__law_drawn : PySem.W.nsIn K mainGlobals "_law_drawn" = some (some (.ref f__law_drawn)))
    (l__law_drawn : K.lookup f__law_drawn = some ⟨oc__law_drawn, od__law_drawn, .func (PySem.W.fnOf "_law_drawn" "_law_drawn" (defArgs s__law_drawn) (defBody s__law_drawn) (defScope s__law_drawn) .none kV__law_drawn dc__law_drawn pm__law_drawn an__law_drawn cd__law_drawn ct__law_drawn), sl__law_drawn⟩)
    (e__law_drawn : PySem.W.codeIn K cd__law_drawn "_law_drawn" = true)
    (k__law_drawn : PySem.W.keepIn K (.ref f__law_drawn) = true)
    (a__law_copy : PySem.W.nsIn K mainGlobals "_law_copy" = some (some (.ref f__law_copy)))
    (l__law_copy : K.lookup f__law_copy = some ⟨oc__law_copy, od__law_copy, .func (PySem.W.fnOf "_law_copy" "_law_copy" (defArgs s__law_copy) (defBody s__law_copy) (defScope s__law_copy) .none kV__law_copy dc__law_copy pm__law_copy an__law_copy cd__law_copy ct__law_copy), sl__law_copy⟩)
    (e__law_copy : PySem.W.codeIn K cd__law_copy "_law_copy" = true)
    (k__law_copy : PySem.W.keepIn K (.ref f__law_copy) = true)
    (a__law_whole : PySem.W.nsIn K mainGlobals "_law_whole" = some (some (.ref f__law_whole)))
    (l__law_whole : K.lookup f__law_whole = some ⟨oc__law_whole, od__law_whole, .func (PySem.W.fnOf "_law_whole" "_law_whole" (defArgs s__law_whole) (defBody s__law_whole) (defScope s__law_whole) .none kV__law_whole dc__law_whole pm__law_whole an__law_whole cd__law_whole ct__law_whole), sl__law_whole⟩)
    (e__law_whole : PySem.W.codeIn K cd__law_whole "_law_whole" = true)
    (k__law_whole : PySem.W.keepIn K (.ref f__law_whole) = true)
    (a__law_last : PySem.W.nsIn K mainGlobals "_law_last" = some (some (.ref f__law_last)))
    (l__law_last : K.lookup f__law_last = some ⟨oc__law_last, od__law_last, .func (PySem.W.fnOf "_law_last" "_law_last" (defArgs s__law_last) (defBody s__law_last) (defScope s__law_last) .none kV__law_last dc__law_last pm__law_last an__law_last cd__law_last ct__law_last), sl__law_last⟩)
    (e__law_last : PySem.W.codeIn K cd__law_last "_law_last" = true)
    (k__law_last : PySem.W.keepIn K (.ref f__law_last) = true)
    (a__law_due : PySem.W.nsIn K mainGlobals "_law_due" = some (some (.ref f__law_due)))
    (l__law_due : K.lookup f__law_due = some ⟨oc__law_due, od__law_due, .func (PySem.W.fnOf "_law_due" "_law_due" (defArgs s__law_due) (defBody s__law_due) (defScope s__law_due) .none kV__law_due dc__law_due pm__law_due an__law_due cd__law_due ct__law_due), sl__law_due⟩)
    (e__law_due : PySem.W.codeIn K cd__law_due "_law_due" = true)
    (k__law_due : PySem.W.keepIn K (.ref f__law_due) = true)
    (a__law_alone : PySem.W.nsIn K mainGlobals "_law_alone" = some (some (.ref f__law_alone)))
    (l__law_alone : K.lookup f__law_alone = some ⟨oc__law_alone, od__law_alone, .func (PySem.W.fnOf "_law_alone" "_law_alone" (defArgs s__law_alone) (defBody s__law_alone) (defScope s__law_alone) .none kV__law_alone dc__law_alone pm__law_alone an__law_alone cd__law_alone ct__law_alone), sl__law_alone⟩)
    (e__law_alone : PySem.W.codeIn K cd__law_alone "_law_alone" = true)
    (k__law_alone : PySem.W.keepIn K (.ref f__law_alone) = true)
    (a__law_refused : PySem.W.nsIn K mainGlobals "_law_refused" = some (some (.ref f__law_refused)))
    (l__law_refused : K.lookup f__law_refused = some ⟨oc__law_refused, od__law_refused, .func (PySem.W.fnOf "_law_refused" "_law_refused" (defArgs s__law_refused) (defBody s__law_refused) (defScope s__law_refused) .none kV__law_refused dc__law_refused pm__law_refused an__law_refused cd__law_refused ct__law_refused), sl__law_refused⟩)
    (e__law_refused : PySem.W.codeIn K cd__law_refused "_law_refused" = true)
    (k__law_refused : PySem.W.keepIn K (.ref f__law_refused) = true)
    (a__law_holds : PySem.W.nsIn K mainGlobals "_law_holds" = some (some (.ref f__law_holds)))
    (l__law_holds : K.lookup f__law_holds = some ⟨oc__law_holds, od__law_holds, .func (PySem.W.fnOf "_law_holds" "_law_holds" (defArgs s__law_holds) (defBody s__law_holds) (defScope s__law_holds) .none kV__law_holds dc__law_holds pm__law_holds an__law_holds cd__law_holds ct__law_holds), sl__law_holds⟩)
    (e__law_holds : PySem.W.codeIn K cd__law_holds "_law_holds" = true)
    (k__law_holds : PySem.W.keepIn K (.ref f__law_holds) = true)
    (a_law : PySem.W.nsIn K mainGlobals "law" = some (some (.ref f_law)))
    (l_law : K.lookup f_law = some ⟨oc_law, od_law, .func (PySem.W.fnOf "law" "law" (defArgs s_law) (defBody s_law) (defScope s_law) .none kV_law dc_law pm_law an_law cd_law ct_law), sl_law⟩)
    (e_law : PySem.W.codeIn K cd_law "law" = true)
    (k_law : PySem.W.keepIn K (.ref f_law) = true)
    (hd_U : PySem.W.hasDictIn K C_Unmet = true)
    (ki_NoRule : PySem.W.kitOne K (.ref C_Unmet) (.ref C_NoRule) = some false)
    (ki_NoPiece : PySem.W.kitOne K (.ref C_Unmet) (.ref C_NoPiece) = some false)
    (ki_Twice : PySem.W.kitOne K (.ref C_Unmet) (.ref C_Twice) = some false)
    (ki_SameName : PySem.W.kitOne K (.ref C_Unmet) (.ref C_SameName) = some false)
    (ki_Unmet : PySem.W.kitOne K (.ref C_Unmet) (.ref C_Unmet) = some true)
    (ki_TooFar : PySem.W.kitOne K (.ref C_Unmet) (.ref C_TooFar) = some false)
    (ki_NoWhole : PySem.W.kitOne K (.ref C_Unmet) (.ref C_NoWhole) = some false)
    (ki_NoBase : PySem.W.kitOne K (.ref C_Unmet) (.ref C_NoBase) = some false)
    (ki_Lost : PySem.W.kitOne K (.ref C_Unmet) (.ref C_Lost) = some false)
    (ki_NoSense : PySem.W.kitOne K (.ref C_Unmet) (.ref C_NoSense) = some false)
    (ki_JoinError : PySem.W.kitOne K (.ref C_Unmet) (.ref C_JoinError) = some true)
    (ki_V : PySem.W.kitOne K (.ref C_Unmet) (.type "ValueError") = some true)
    (mj : PySem.W.mroIn K C_Unmet (.ref C_JoinError) = some true)
    (xg_Unmet : PySem.W.findIn K (.ref C_Unmet) "__getattribute__" = some (some (.builtin "BaseException.__getattribute__")))
    (xn_Unmet : PySem.W.findIn K (.ref C_Unmet) "__getattr__" = some none)
    (xl_Unmet : PySem.W.findIn K (.ref C_Unmet) "__class__" = some (some (.builtin "object.__class__")))
    (xo_Unmet : PySem.W.mroIn K C_Unmet (.type "object") = some true)
    (xb_Unmet : PySem.W.mroIn K C_Unmet (.type "BaseException") = some true)
    (sp_cl : PySem.W.specialIn K (.builtin "object.__class__") "__get__" = some (some (.builtin "getset_descriptor.__get__")))
    (tk_cl : PySem.W.takesIn K (.builtin "object.__class__") = some true)
    (ei_Unmet : ownInit K C_Unmet f_Unmet___init__ = true)
    (ee_Unmet : errIn K C_Unmet = true)
    (es_Unmet : PySem.W.findIn K (.ref C_Unmet) "__setattr__" = some (some (.builtin "object.__setattr__")))
    (br_JoinError : PySem.W.readsIn K C_JoinError (.type "type") = true)
    (bf_JoinError : PySem.W.findCls K (.ref C_JoinError) (.type "type") "__init__" = some (.val (.builtin "ValueError.__init__")))
    (bg_JoinError : PySem.W.specialIn K (.ref C_JoinError) "__getattribute__" = some (some (.builtin "type.__getattribute__")))
    (ct_JoinError : PySem.W.instIn K (.ref C_JoinError) (.type "tuple") = some false)
    (cb_JoinError : PySem.W.mroIn K C_JoinError (.type "BaseException") = some true)
    (no_Unmet_name : PySem.W.findIn K (.ref C_Unmet) "name" = some none)
    (no_Unmet_piece : PySem.W.findIn K (.ref C_Unmet) "piece" = some none)
    (g_WORD_COUNT : PySem.W.nsIn K mainGlobals "WORD_COUNT" = some (some (.int 4294967296 t_WORD_COUNT)))
    (n_ValueError : PySem.W.nsIn K mainGlobals "ValueError" = some none)
    (n_bool : PySem.W.nsIn K mainGlobals "bool" = some none)
    (n_dict : PySem.W.nsIn K mainGlobals "dict" = some none)
    (n_int : PySem.W.nsIn K mainGlobals "int" = some none)
    (n_isinstance : PySem.W.nsIn K mainGlobals "isinstance" = some none)
    (n_len : PySem.W.nsIn K mainGlobals "len" = some none)
    (n_list : PySem.W.nsIn K mainGlobals "list" = some none)
    (n_range : PySem.W.nsIn K mainGlobals "range" = some none)
    (n_str : PySem.W.nsIn K mainGlobals "str" = some none)
    (n_tuple : PySem.W.nsIn K mainGlobals "tuple" = some none) :
    ∃ fd : FuncData, (∀ (s : Shared) (v : Value), BindsTo s fd ⟨[v], []⟩ [("_law_script", v)]) ∧ ∀ base : Heap, K.In base → base.Ns mainGlobals mg → FnOk l.prog w K mg base CX0 8 fa fd ["_law_script"] (sp_law K) := by
  have e := hfa.symm.trans (PySem.W.mg_of X G a_law)
  cases e
  have F_wrapped := fun_mk (st := s_wrapped) l_wrapped e_wrapped k_wrapped
  have b_wrapped := F_wrapped.binds (ps := ["number"]) fun _ _ _ _ _ _ us hl => len1 us hl fun _ => rfl
  have F_Unmet___init__ := fun_mk (st := s_Unmet___init__) l_Unmet___init__ e_Unmet___init__ k_Unmet___init__
  have b_Unmet___init__ := F_Unmet___init__.binds (ps := ["self", "name", "piece"]) fun _ _ _ _ _ _ us hl => len3 us hl fun _ _ _ => rfl
  have F_aim := fun_mk (st := s_aim) l_aim e_aim k_aim
  have b_aim := F_aim.binds (ps := ["piece", "names", "fill"]) fun _ _ _ _ _ _ us hl => len3 us hl fun _ _ _ => rfl
  have F_aims := fun_mk (st := s_aims) l_aims e_aims k_aims
  have b_aims := F_aims.binds (ps := ["piece", "names", "fills"]) fun _ _ _ _ _ _ us hl => len3 us hl fun _ _ _ => rfl
  have F_aim_by := fun_mk (st := s_aim_by) l_aim_by e_aim_by k_aim_by
  have b_aim_by := F_aim_by.binds (ps := ["piece_name", "own", "names", "fill"]) fun _ _ _ _ _ _ us hl => len4 us hl fun _ _ _ _ => rfl
  have F_places_told := fun_mk (st := s_places_told) l_places_told e_places_told k_places_told
  have b_places_told := F_places_told.binds (ps := ["piece", "told_by"]) fun _ _ _ _ _ _ us hl => len2 us hl fun _ _ => rfl
  have F__law_cell_at := fun_mk (st := s__law_cell_at) l__law_cell_at e__law_cell_at k__law_cell_at
  have b__law_cell_at := F__law_cell_at.binds (ps := ["_law_script", "_law_k"]) fun _ _ _ _ _ _ us hl => len2 us hl fun _ _ => rfl
  have F__law_name_by := fun_mk (st := s__law_name_by) l__law_name_by e__law_name_by k__law_name_by
  have b__law_name_by := F__law_name_by.binds (ps := ["_law_cell", "_law_k"]) fun _ _ _ _ _ _ us hl => len2 us hl fun _ _ => rfl
  have F__law_word_row := fun_mk (st := s__law_word_row) l__law_word_row e__law_word_row k__law_word_row
  have b__law_word_row := F__law_word_row.binds (ps := ["_law_cell", "_law_names_by"]) fun _ _ _ _ _ _ us hl => len2 us hl fun _ _ => rfl
  have F__law_told_by := fun_mk (st := s__law_told_by) l__law_told_by e__law_told_by k__law_told_by
  have b__law_told_by := F__law_told_by.binds (ps := ["_law_pieces", "_law_cell", "_law_names_by", "_law_strict"]) fun _ _ _ _ _ _ us hl => len4 us hl fun _ _ _ _ => rfl
  have F__law_drawn := fun_mk (st := s__law_drawn) l__law_drawn e__law_drawn k__law_drawn
  have b__law_drawn := F__law_drawn.binds (ps := ["_law_cells", "_law_names_by", "_law_titles_by", "_law_strict"]) fun _ _ _ _ _ _ us hl => len4 us hl fun _ _ _ _ => rfl
  have F__law_copy := fun_mk (st := s__law_copy) l__law_copy e__law_copy k__law_copy
  have b__law_copy := F__law_copy.binds (ps := ["_law_piece"]) fun _ _ _ _ _ _ us hl => len1 us hl fun _ => rfl
  have F__law_whole := fun_mk (st := s__law_whole) l__law_whole e__law_whole k__law_whole
  have b__law_whole := F__law_whole.binds (ps := ["_law_found"]) fun _ _ _ _ _ _ us hl => len1 us hl fun _ => rfl
  have F__law_last := fun_mk (st := s__law_last) l__law_last e__law_last k__law_last
  have b__law_last := F__law_last.binds (ps := ["_law_pieces"]) fun _ _ _ _ _ _ us hl => len1 us hl fun _ => rfl
  have F__law_due := fun_mk (st := s__law_due) l__law_due e__law_due k__law_due
  have b__law_due := F__law_due.binds (ps := ["_law_piece", "_law_some", "_law_fill"]) fun _ _ _ _ _ _ us hl => len3 us hl fun _ _ _ => rfl
  have F__law_alone := fun_mk (st := s__law_alone) l__law_alone e__law_alone k__law_alone
  have b__law_alone := F__law_alone.binds (ps := ["_law_kept"]) fun _ _ _ _ _ _ us hl => len1 us hl fun _ => rfl
  have F__law_refused := fun_mk (st := s__law_refused) l__law_refused e__law_refused k__law_refused
  have b__law_refused := F__law_refused.binds (ps := ["_law_kept", "_law_title", "_law_name"]) fun _ _ _ _ _ _ us hl => len3 us hl fun _ _ _ => rfl
  have F__law_holds := fun_mk (st := s__law_holds) l__law_holds e__law_holds k__law_holds
  have b__law_holds := F__law_holds.binds (ps := ["_law_piece", "_law_some", "_law_fill"]) fun _ _ _ _ _ _ us hl => len3 us hl fun _ _ _ => rfl
  have F_law := fun_mk (st := s_law) l_law e_law k_law
  have b_law := F_law.binds (ps := ["_law_script"]) fun _ _ _ _ _ _ us hl => len1 us hl fun _ => rfl
  have T : Txt K mg { wrapped := f_wrapped, fd_wrapped := _, Unmet___init__ := f_Unmet___init__, fd_Unmet___init__ := _, aim := f_aim, fd_aim := _, aims := f_aims, fd_aims := _, aim_by := f_aim_by, fd_aim_by := _, places_told := f_places_told, fd_places_told := _, _law_cell_at := f__law_cell_at, fd__law_cell_at := _, _law_name_by := f__law_name_by, fd__law_name_by := _, _law_word_row := f__law_word_row, fd__law_word_row := _, _law_told_by := f__law_told_by, fd__law_told_by := _, _law_drawn := f__law_drawn, fd__law_drawn := _, _law_copy := f__law_copy, fd__law_copy := _, _law_whole := f__law_whole, fd__law_whole := _, _law_last := f__law_last, fd__law_last := _, _law_due := f__law_due, fd__law_due := _, _law_alone := f__law_alone, fd__law_alone := _, _law_refused := f__law_refused, fd__law_refused := _, _law_holds := f__law_holds, fd__law_holds := _, law := fa, fd_law := _, t_WORD_COUNT := t_WORD_COUNT, c_JoinError := C_JoinError, c_Lost := C_Lost, c_NoBase := C_NoBase, c_NoPiece := C_NoPiece, c_NoRule := C_NoRule, c_NoSense := C_NoSense, c_NoWhole := C_NoWhole, c_SameName := C_SameName, c_TooFar := C_TooFar, c_Twice := C_Twice, c_Unmet := C_Unmet } := {
    m_wrapped := PySem.W.mg_of X G a_wrapped
    k_wrapped := k_wrapped
    b_wrapped := b_wrapped
    F_wrapped := F_wrapped
    k_Unmet___init__ := k_Unmet___init__
    b_Unmet___init__ := b_Unmet___init__
    F_Unmet___init__ := F_Unmet___init__
    m_aim := PySem.W.mg_of X G a_aim
    k_aim := k_aim
    b_aim := b_aim
    F_aim := F_aim
    m_aims := PySem.W.mg_of X G a_aims
    k_aims := k_aims
    b_aims := b_aims
    F_aims := F_aims
    m_aim_by := PySem.W.mg_of X G a_aim_by
    k_aim_by := k_aim_by
    b_aim_by := b_aim_by
    F_aim_by := F_aim_by
    m_places_told := PySem.W.mg_of X G a_places_told
    k_places_told := k_places_told
    b_places_told := b_places_told
    F_places_told := F_places_told
    m__law_cell_at := PySem.W.mg_of X G a__law_cell_at
    k__law_cell_at := k__law_cell_at
    b__law_cell_at := b__law_cell_at
    F__law_cell_at := F__law_cell_at
    m__law_name_by := PySem.W.mg_of X G a__law_name_by
    k__law_name_by := k__law_name_by
    b__law_name_by := b__law_name_by
    F__law_name_by := F__law_name_by
    m__law_word_row := PySem.W.mg_of X G a__law_word_row
    k__law_word_row := k__law_word_row
    b__law_word_row := b__law_word_row
    F__law_word_row := F__law_word_row
    m__law_told_by := PySem.W.mg_of X G a__law_told_by
    k__law_told_by := k__law_told_by
    b__law_told_by := b__law_told_by
    F__law_told_by := F__law_told_by
    m__law_drawn := PySem.W.mg_of X G a__law_drawn
    k__law_drawn := k__law_drawn
    b__law_drawn := b__law_drawn
    F__law_drawn := F__law_drawn
    m__law_copy := PySem.W.mg_of X G a__law_copy
    k__law_copy := k__law_copy
    b__law_copy := b__law_copy
    F__law_copy := F__law_copy
    m__law_whole := PySem.W.mg_of X G a__law_whole
    k__law_whole := k__law_whole
    b__law_whole := b__law_whole
    F__law_whole := F__law_whole
    m__law_last := PySem.W.mg_of X G a__law_last
    k__law_last := k__law_last
    b__law_last := b__law_last
    F__law_last := F__law_last
    m__law_due := PySem.W.mg_of X G a__law_due
    k__law_due := k__law_due
    b__law_due := b__law_due
    F__law_due := F__law_due
    m__law_alone := PySem.W.mg_of X G a__law_alone
    k__law_alone := k__law_alone
    b__law_alone := b__law_alone
    F__law_alone := F__law_alone
    m__law_refused := PySem.W.mg_of X G a__law_refused
    k__law_refused := k__law_refused
    b__law_refused := b__law_refused
    F__law_refused := F__law_refused
    m__law_holds := PySem.W.mg_of X G a__law_holds
    k__law_holds := k__law_holds
    b__law_holds := b__law_holds
    F__law_holds := F__law_holds
    m_law := PySem.W.mg_of X G a_law
    k_law := k_law
    b_law := b_law
    F_law := F_law
    g_WORD_COUNT := PySem.W.mg_of X G g_WORD_COUNT
    n_ValueError := PySem.W.mg_none_of X G n_ValueError
    n_bool := PySem.W.mg_none_of X G n_bool
    n_dict := PySem.W.mg_none_of X G n_dict
    n_int := PySem.W.mg_none_of X G n_int
    n_isinstance := PySem.W.mg_none_of X G n_isinstance
    n_len := PySem.W.mg_none_of X G n_len
    n_list := PySem.W.mg_none_of X G n_list
    n_range := PySem.W.mg_none_of X G n_range
    n_str := PySem.W.mg_none_of X G n_str
    n_tuple := PySem.W.mg_none_of X G n_tuple
    mc_JoinError := PySem.W.mg_of X G ac_JoinError
    mc_Lost := PySem.W.mg_of X G ac_Lost
    mc_NoBase := PySem.W.mg_of X G ac_NoBase
    mc_NoPiece := PySem.W.mg_of X G ac_NoPiece
    mc_NoRule := PySem.W.mg_of X G ac_NoRule
    mc_NoSense := PySem.W.mg_of X G ac_NoSense
    mc_NoWhole := PySem.W.mg_of X G ac_NoWhole
    mc_SameName := PySem.W.mg_of X G ac_SameName
    mc_TooFar := PySem.W.mg_of X G ac_TooFar
    mc_Twice := PySem.W.mg_of X G ac_Twice
    mc_Unmet := PySem.W.mg_of X G ac_Unmet
    hd_U := hd_U
    ki_NoRule := ki_NoRule
    ki_NoPiece := ki_NoPiece
    ki_Twice := ki_Twice
    ki_SameName := ki_SameName
    ki_Unmet := ki_Unmet
    ki_TooFar := ki_TooFar
    ki_NoWhole := ki_NoWhole
    ki_NoBase := ki_NoBase
    ki_Lost := ki_Lost
    ki_NoSense := ki_NoSense
    ki_JoinError := ki_JoinError
    ki_V := ki_V
    mj := mj
    xg_Unmet := xg_Unmet
    xn_Unmet := xn_Unmet
    xl_Unmet := xl_Unmet
    xo_Unmet := xo_Unmet
    xb_Unmet := xb_Unmet
    sp_cl := sp_cl
    tk_cl := tk_cl
    ei_Unmet := ei_Unmet
    ee_Unmet := ee_Unmet
    es_Unmet := es_Unmet
    br_JoinError := br_JoinError
    bf_JoinError := bf_JoinError
    bg_JoinError := bg_JoinError
    ct_JoinError := ct_JoinError
    cb_JoinError := cb_JoinError
    er_Unmet := ⟨ei_Unmet, ee_Unmet, es_Unmet, i_Unmet___init__⟩
    bi_JoinError := ⟨br_JoinError, bf_JoinError, bg_JoinError⟩
    no_Unmet_name := no_Unmet_name
    no_Unmet_piece := no_Unmet_piece }
  exact ⟨_, fun s v => .of_eq rfl, fun base _ _ => G_law T⟩
theorem walk {l : PySem.W.OpenLaw} {q : Program} {loose : List Str} {XP : (Str → Option Value) → Heap → Prop} {YP : World → Heap → Prop} {d : DefRec} {K : Params → PySem.W.Frag} (hn : l.most = some 63) (hdf : d.params.defaults = [])
    (hY : ∀ (w : World) (h : Heap), YP w h → (K w.params).In h)
    (F : ∀ (w : World) (mg : Str → Option Value) (fa : Addr) (h : Heap), (K w.params).In h → h.Ns mainGlobals mg → mg d.name = some (.ref fa) →
      ∃ fd : FuncData, (∀ (s : Shared) (u : Value), BindsTo s fd ⟨[u], []⟩ [("_law_script", u)]) ∧ ∀ base : Heap, (K w.params).In base → base.Ns mainGlobals mg → FnOk l.prog w (K w.params) mg base CX0 8 fa fd ["_law_script"] (sp_law (K w.params))) :
    PySem.W.WalkO q loose XP YP l.row.toRowW d [] (fun f vs => PySem.call f vs) :=
  L2.walk_of (n := 63) (k := 8) (x := "_law_script") (CX := fun _ => CX0) (sp := fun w => sp_law (K w.params)) hn (by decide) hdf ⟨rfl, by decide, by decide⟩ hY F (fun _ _ a ns hl _ hS => ⟨a, ns, rfl, hS, hl, fun _ => rfl⟩) fun _ _ _ _ _ z => z
end My
open PySem PySem.W PyProof.Rows
set_option maxRecDepth 100000 in
set_option maxHeartbeats 0 in
theorem PySem.Challenge.cw_joinload_k18_what_a_fill_aims_at_holds : PySem.Challenge.rw_joinload_k18_what_a_fill_aims_at.Holds := by
  w_on; o_law; k_head; (case hw => w_witness2)
  k_fill
  refine My.walk (l := PySem.Challenge.rw_joinload_k18_what_a_fill_aims_at) rfl rfl (fun w h Y => PySem.W.kIn_of Y) ?F
  case F =>
    intro w mg fa h KX G hmg
    refine' My.all_mk KX G hmg ?ac_JoinError ?ac_Lost ?ac_NoBase ?ac_NoPiece ?ac_NoRule ?ac_NoSense ?ac_NoWhole ?ac_SameName ?ac_TooFar ?ac_Twice ?ac_Unmet ?a_wrapped ?l_wrapped ?e_wrapped ?k_wrapped ?a_Unmet___init__ ?i_Unmet___init__ ?l_Unmet___init__ ?e_Unmet___init__ ?k_Unmet___init__ ?a_aim ?l_aim ?e_aim ?k_aim ?a_aims ?l_aims ?e_aims ?k_aims ?a_aim_by ?l_aim_by ?e_aim_by ?k_aim_by ?a_places_told ?l_places_told ?e_places_told ?k_places_told ?a__law_cell_at ?l__law_cell_at ?e__law_cell_at ?k__law_cell_at ?a__law_name_by ?l__law_name_by ?e__law_name_by ?k__law_name_by ?a__law_word_row ?l__law_word_row ?e__law_word_row ?k__law_word_row ?a__law_told_by ?l__law_told_by ?e__law_told_by ?k__law_told_by ?a__law_drawn ?l__law_drawn ?e__law_drawn ?k__law_drawn ?a__law_copy ?l__law_copy ?e__law_copy ?k__law_copy ?a__law_whole ?l__law_whole ?e__law_whole ?k__law_whole ?a__law_last ?l__law_last ?e__law_last ?k__law_last ?a__law_due ?l__law_due ?e__law_due ?k__law_due ?a__law_alone ?l__law_alone ?e__law_alone ?k__law_alone ?a__law_refused ?l__law_refused ?e__law_refused ?k__law_refused ?a__law_holds ?l__law_holds ?e__law_holds ?k__law_holds ?a_law ?l_law ?e_law ?k_law ?hd_U ?ki_NoRule ?ki_NoPiece ?ki_Twice ?ki_SameName ?ki_Unmet ?ki_TooFar ?ki_NoWhole ?ki_NoBase ?ki_Lost ?ki_NoSense ?ki_JoinError ?ki_V ?mj ?xg_Unmet ?xn_Unmet ?xl_Unmet ?xo_Unmet ?xb_Unmet ?sp_cl ?tk_cl ?ei_Unmet ?ee_Unmet ?es_Unmet ?br_JoinError ?bf_JoinError ?bg_JoinError ?ct_JoinError ?cb_JoinError ?no_Unmet_name ?no_Unmet_piece ?g_WORD_COUNT ?n_ValueError ?n_bool ?n_dict ?n_int ?n_isinstance ?n_len ?n_list ?n_range ?n_str ?n_tuple
    (case ac_JoinError => k_is)
    (case ac_Lost => k_is)
    (case ac_NoBase => k_is)
    (case ac_NoPiece => k_is)
    (case ac_NoRule => k_is)
    (case ac_NoSense => k_is)
    (case ac_NoWhole => k_is)
    (case ac_SameName => k_is)
    (case ac_TooFar => k_is)
    (case ac_Twice => k_is)
    (case ac_Unmet => k_is)
    (case a_wrapped => k_is)
    (case l_wrapped => k_is)
    (case e_wrapped => k_is)
    (case k_wrapped => k_is)
    (case a_Unmet___init__ => k_is)
    (case i_Unmet___init__ => k_is)
    (case l_Unmet___init__ => k_is)
    (case e_Unmet___init__ => k_is)
    (case k_Unmet___init__ => k_is)
    (case a_aim => k_is)
    (case l_aim => k_is)
    (case e_aim => k_is)
    (case k_aim => k_is)
    (case a_aims => k_is)
    (case l_aims => k_is)
    (case e_aims => k_is)
    (case k_aims => k_is)
    (case a_aim_by => k_is)
    (case l_aim_by => k_is)
    (case e_aim_by => k_is)
    (case k_aim_by => k_is)
    (case a_places_told => k_is)
    (case l_places_told => k_is)
    (case e_places_told => k_is)
    (case k_places_told => k_is)
    (case a__law_cell_at => k_is)
    (case l__law_cell_at => k_is)
    (case e__law_cell_at => k_is)
    (case k__law_cell_at => k_is)
    (case a__law_name_by => k_is)
    (case l__law_name_by => k_is)
    (case e__law_name_by => k_is)
    (case k__law_name_by => k_is)
    (case a__law_word_row => k_is)
    (case l__law_word_row => k_is)
    (case e__law_word_row => k_is)
    (case k__law_word_row => k_is)
    (case a__law_told_by => k_is)
    (case l__law_told_by => k_is)
    (case e__law_told_by => k_is)
    (case k__law_told_by => k_is)
    (case a__law_drawn => k_is)
    (case l__law_drawn => k_is)
    (case e__law_drawn => k_is)
    (case k__law_drawn => k_is)
    (case a__law_copy => k_is)
    (case l__law_copy => k_is)
    (case e__law_copy => k_is)
    (case k__law_copy => k_is)
    (case a__law_whole => k_is)
    (case l__law_whole => k_is)
    (case e__law_whole => k_is)
    (case k__law_whole => k_is)
    (case a__law_last => k_is)
    (case l__law_last => k_is)
    (case e__law_last => k_is)
    (case k__law_last => k_is)
    (case a__law_due => k_is)
    (case l__law_due => k_is)
    (case e__law_due => k_is)
    (case k__law_due => k_is)
    (case a__law_alone => k_is)
    (case l__law_alone => k_is)
    (case e__law_alone => k_is)
    (case k__law_alone => k_is)
    (case a__law_refused => k_is)
    (case l__law_refused => k_is)
    (case e__law_refused => k_is)
    (case k__law_refused => k_is)
    (case a__law_holds => k_is)
    (case l__law_holds => k_is)
    (case e__law_holds => k_is)
    (case k__law_holds => k_is)
    (case a_law => k_is)
    (case l_law => k_is)
    (case e_law => k_is)
    (case k_law => k_is)
    (case hd_U => k_is)
    (case ki_NoRule => kit_is)
    (case ki_NoPiece => kit_is)
    (case ki_Twice => kit_is)
    (case ki_SameName => kit_is)
    (case ki_Unmet => kit_is)
    (case ki_TooFar => kit_is)
    (case ki_NoWhole => kit_is)
    (case ki_NoBase => kit_is)
    (case ki_Lost => kit_is)
    (case ki_NoSense => kit_is)
    (case ki_JoinError => kit_is)
    (case ki_V => kit_is)
    (case mj => k_is)
    (case xg_Unmet => k_is)
    (case xn_Unmet => k_is)
    (case xl_Unmet => k_is)
    (case xo_Unmet => k_is)
    (case xb_Unmet => k_is)
    (case sp_cl => k_is)
    (case tk_cl => k_is)
    (case ei_Unmet => kernel_rfl)
    (case ee_Unmet => kernel_rfl)
    (case es_Unmet => k_is)
    (case br_JoinError => kernel_rfl)
    (case bf_JoinError => kernel_rfl)
    (case bg_JoinError => k_is)
    (case ct_JoinError => k_is)
    (case cb_JoinError => k_is)
    (case no_Unmet_name => k_is)
    (case no_Unmet_piece => k_is)
    (case g_WORD_COUNT => k_is)
    (case n_ValueError => k_is)
    (case n_bool => k_is)
    (case n_dict => k_is)
    (case n_int => k_is)
    (case n_isinstance => k_is)
    (case n_len => k_is)
    (case n_list => k_is)
    (case n_range => k_is)
    (case n_str => k_is)
    (case n_tuple => k_is)
#print axioms PySem.Challenge.cw_joinload_k18_what_a_fill_aims_at_holds
