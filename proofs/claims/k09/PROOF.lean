import PyProof.Rows.All
import Wide.All
import OpenK.AllK
import Wide.FinOn
import Lean
import PyProof.EqAt
import PyProof.EqKinds
import PyProof.TupleCall
import PyProof.StationsW
import PyProof.ExcAttrAll.ValueError
import KE.KIsAll
import PyProof.RulesAs
import PyProof.NsDelKeeps
import PyProof.FString
import PyProof.FString4
import PyProof.Rows.FStr
import PyProof.Rows.FStrParts
import PyProof.StrCalls2
import PyProof.StrLawsRepr
import PyProof.StrLawsJoin
import PyProof.StrLaws
import PyProof.Rows.ReprOcc
import PyProof.ExcInit
import PyProof.InstStoreFacts
import KE.KDictOf
import PySem.Challenge.RW_joinload_k09_rules_by_titles
set_option Elab.async false
set_option linter.all false
set_option maxRecDepth 100000
set_option genSizeOfSpec false
/-! THE HAND LAYER, for ints, bools, texts, own classes, LISTS and tuples (index, slices, in, append, pop ..), calls, loops. Paste it whole ahead of your own text; what your proof does not reach may be deleted. -/
namespace L2
open PySem PySem.Spec PyProof.Rows

noncomputable abbrev Key := Sum Int Str
noncomputable def keyIs : Key → Value → Bool
  | .inl k, v => Value.isInt k v
  | .inr x, v => Value.isStrOf x v
noncomputable def keyH (w : World) : Key → Int
  | .inl k => hashInt k
  | .inr x => hashStr w x
theorem keyIs_shape : ∀ {k : Key} {v : Value}, keyIs k v = true → (∃ i t, k = Sum.inl i ∧ v = Value.int i t) ∨ (∃ x t, k = Sum.inr x ∧ v = Value.str x t)
  | .inl i, v, h => by
    obtain ⟨t, e⟩ := Value.isInt_shape (k := i) (v := v) h
    exact .inl ⟨i, t, rfl, e⟩
  | .inr x, v, h => by
    obtain ⟨t, e⟩ := Value.isStrOf_shape (x := x) (v := v) h
    exact .inr ⟨x, t, rfl, e⟩
theorem key_ll (a b : Int) : decide ((Sum.inl a : Key) = Sum.inl b) = (a == b) := by
  by_cases e : a = b
  · subst e; simp
  · have h : ¬ (Sum.inl a : Key) = Sum.inl b := fun q => e (Sum.inl.inj q)
    rw [decide_eq_false h]
    exact (beq_eq_false_iff_ne.mpr e).symm
theorem key_rr (a b : Str) : decide ((Sum.inr a : Key) = Sum.inr b) = decide (a = b) := by
  by_cases e : a = b
  · subst e; simp
  · have h : ¬ (Sum.inr a : Key) = Sum.inr b := fun q => e (Sum.inr.inj q)
    rw [decide_eq_false h, decide_eq_false e]
theorem key_lr (a : Int) (b : Str) : decide ((Sum.inl a : Key) = Sum.inr b) = false := decide_eq_false (fun q => nomatch q)
theorem key_rl (a : Str) (b : Int) : decide ((Sum.inr a : Key) = Sum.inl b) = false := decide_eq_false (fun q => nomatch q)

noncomputable def mixKind (prog : Program) (w : World) : PySem.KeyKind prog w Key where
  is := keyIs
  hash := keyH w
  inj := fun v a b ha hb => by
    rcases keyIs_shape ha with ⟨i, t, rfl, rfl⟩ | ⟨x, t, rfl, rfl⟩
    · rcases keyIs_shape hb with ⟨j, u, rfl, e⟩ | ⟨y, u, rfl, e⟩
      · injection e with e1 _; rw [e1]
      · exact nomatch e
    · rcases keyIs_shape hb with ⟨j, u, rfl, e⟩ | ⟨y, u, rfl, e⟩
      · exact nomatch e
      · injection e with e1 _; rw [e1]
  byValue := fun k v h => by
    rcases keyIs_shape h with ⟨i, t, rfl, rfl⟩ | ⟨x, t, rfl, rfl⟩ <;> rfl
  pyHash := fun hv h => by
    rcases keyIs_shape hv with ⟨i, t, rfl, rfl⟩ | ⟨x, t, rfl, rfl⟩
    · exact wpAny_pyHash_int h
    · exact wpAny_pyHash_str h
  eqBool := fun hu hv h => by
    rcases keyIs_shape hu with ⟨i, t, rfl, rfl⟩ | ⟨x, t, rfl, rfl⟩
    · rcases keyIs_shape hv with ⟨j, u, rfl, rfl⟩ | ⟨y, u, rfl, rfl⟩
      · rw [key_ll] at h; exact wpAny_eqBool_int h
      · rw [key_lr] at h; exact SeqAt.EqAt.int_str i t y u _ _ _ _ h
    · rcases keyIs_shape hv with ⟨j, u, rfl, rfl⟩ | ⟨y, u, rfl, rfl⟩
      · rw [key_rl] at h; exact SeqAt.EqAt.str_int x t j u _ _ _ _ h
      · rw [key_rr] at h; exact wpAny_eqBool_str h
  «strs» := fun k x t v h => by
    rcases keyIs_shape h with ⟨i, u, rfl, e⟩ | ⟨y, u, rfl, e⟩
    · exact nomatch e
    · injection e with e1 _
      subst e1
      cases v <;> rfl

end L2

namespace L2
open PySem PySem.Spec PyProof.Rows

inductive V where
  | non | bl (b : Bool) | int (i : Int) | str (x : Str) | byt (b : Array UInt8) | flt (b : UInt64) | ref (a : Addr) | ty (n : String)
  deriving DecidableEq

noncomputable def RelV : V → Value → Prop
  | .non, u => u = Value.none
  | .bl b, u => u = Value.bool b
  | .int i, u => ∃ t, u = Value.int i t
  | .str x, u => ∃ t, u = Value.str x t
  | .byt b, u => ∃ t, u = Value.bytes b t
  | .flt b, u => ∃ t, u = Value.float b t
  | .ref a, u => u = Value.ref a
  | .ty n, u => u = Value.type n

noncomputable abbrev Vals : List V → List Value → Prop := Paired RelV
theorem Vals.length {xs : List V} {us : List Value} (r : Vals xs us) : xs.length = us.length := Paired.length r
theorem Vals.get : ∀ {xs : List V} {us : List Value} {i : Nat} {x : V}, Vals xs us → xs[i]? = some x → ∃ u, us[i]? = some u ∧ RelV x u
  | _, _, _, _, .nil, e => by simp at e
  | _, _, 0, _, .cons r _, e => by simp at e; subst e; exact ⟨_, rfl, r⟩
  | _, _, i + 1, x, .cons _ t, e => by
    obtain ⟨u, h1, h2⟩ := Vals.get (i := i) (x := x) t (by simpa using e)
    exact ⟨u, by simpa using h1, h2⟩
theorem Vals.append : ∀ {xs ys : List V} {us ws : List Value}, Vals xs us → Vals ys ws → Vals (xs ++ ys) (us ++ ws)
  | _, _, _, _, .nil, s => s
  | _, _, _, _, .cons r t, s => .cons r (Vals.append t s)

noncomputable def RelO : Option V → Option Value → Prop
  | some v, some u => RelV v u
  | none, none => True
  | _, _ => False
noncomputable def KV {κ : Type} : List (κ × V) → List (κ × Value) → Prop := Paired fun (p : κ × V) (q : κ × Value) => p.1 = q.1 ∧ RelV p.2 q.2

noncomputable def kV : Key → V
  | .inl i => .int i
  | .inr x => .str x

inductive HO where
    | lst (xs : List V)
    | tup (xs : List V)
    | dK (kvs : List (Key × V)) | dT (kvs : List (List Key × V))
    | set (S : Int → Bool) (n : Nat)
    | ins (C dx : Addr) (fs : List (Str × V))
    | own (x : Addr)
    | xd (fs : List (Str × V))
    | met (f x : Addr)
    | rng (lo hi : Int)
    | frz (o : Obj) (u : HO)
    | tbl (ps : Array Value)
    | ext (φ : Heap → Prop)

noncomputable abbrev Hp := Addr → Option HO
noncomputable def upd (H : Hp) (a : Addr) (o : HO) : Hp := fun b => if b = a then some o else H b
theorem upd_same {H : Hp} {a : Addr} {o : HO} : upd H a o a = some o := by unfold upd; rw [if_pos rfl]
theorem upd_ne {H : Hp} {a b : Addr} {o : HO} (h : b ≠ a) : upd H a o b = H b := by unfold upd; rw [if_neg h]
theorem upd_upd {H : Hp} {a : Addr} {o u : HO} : upd (upd H a o) a u = upd H a u := by
  funext b; unfold upd; split <;> rfl
theorem ne_of_none {H : Hp} {a b : Addr} {o : HO} (h : H a = some o) (h' : H b = none) : a ≠ b := by
  intro e; subst e; rw [h] at h'; cases h'

section
variable (P : Program) (w : World)
noncomputable def ObjOk (H : Hp) (h : Heap) (a : Addr) : HO → Prop
  | .lst xs => xs.length ≤ sizeLine ∧ ∃ (its : List Value) (n : Nat), Vals xs its ∧ h.get? a = some { cls := .type "list", data := .seq its.toArray n }
  | .tup xs => xs.length ≤ sizeLine ∧ ∃ its : List Value, Vals xs its ∧ IsTup h a its.toArray
  | .dK kvs => kvs.length ≤ sizeLine ∧ (a == sysModules) = false ∧ ∃ vs, KV kvs vs ∧ h.DictOf (mixKind P w) a vs
  | .dT kvs => kvs.length ≤ sizeLine ∧ (a == sysModules) = false ∧ ∃ xs : List (List Key × Addr × Value),
      Paired (fun (p : List Key × V) (q : List Key × Addr × Value) => p.1 = q.1 ∧ H q.2.1 = some (.tup (p.1.map kV)) ∧ RelV p.2 q.2.2) kvs xs ∧
      ∃ o es ep, h.get? a = some o ∧ o.ExactDict ∧ o.data = .dict es ep ∧ es.toList = xs.map (entryOfKey (tupleKind (mixKind P w))) ∧ (xs.map (·.1)).Nodup
  | .set S n => h.SetOf (intKind P w) a S n
  | .ins C dx fs => H dx = some (.own a) ∧ fs.length ≤ 1000 ∧ dx ≠ a ∧ h.get? a = some (PySem.W.instObj C dx) ∧
      ∃ mA, h.Ns1 dx mA ∧ (∀ f, RelO (fs.lookup f) (mA f)) ∧ PySem.Within mA (fs.map (·.1))
  | .own _ => ∃ o, h.get? a = some o
  | .xd fs => ∃ mA, h.Ns1 a mA ∧ ∀ f, RelO (fs.lookup f) (mA f)
  | .rng lo hi => ∃ t u v, h.get? a = some { cls := .type "range", data := .fields #[.int lo t, .int hi u, .int 1 v] }
  | .frz o u => h.get? a = some o ∧ ObjOk H h a u
  | .tbl ps => h.get? a = some { cls := .none, data := .fields ps }
  | .met f x => h.get? a = some (PySem.W.methodObj (.ref f) (.ref x))
  | .ext φ => φ h ∧ (∃ o, h.get? a = some o) ∧ ∀ h1 h2 : Heap, φ h1 → (∀ o, h1.get? a = some o → h2.get? a = some o) → φ h2
noncomputable def HOk (H : Hp) (h : Heap) : Prop := ∀ a o, H a = some o → ObjOk P w H h a o
end

section
variable {P : Program} {w : World} {H H' : Hp} {h h' : Heap} {a : Addr} {o : HO}
theorem ObjOk.lt (x : ObjOk P w H h a o) : a < h.objs.size := by
  cases o with
  | lst xs => obtain ⟨_, _, _, _, e⟩ := x; exact Heap.lt_size e
  | tup xs => obtain ⟨_, _, _, p⟩ := x; exact p.lt
  | dK kvs => obtain ⟨_, _, _, _, o, _, _, e, _⟩ := x; exact Heap.lt_size e
  | dT kvs => obtain ⟨_, _, _, _, o, _, _, e, _⟩ := x; exact Heap.lt_size e
  | set S n => obtain ⟨o, _, _, _, e, _⟩ := x; exact Heap.lt_size e
  | ins C dx fs => obtain ⟨_, _, _, e, _⟩ := x; exact Heap.lt_size e
  | own y => obtain ⟨_, e⟩ := x; exact Heap.lt_size e
  | xd fs => obtain ⟨_, ⟨_, _, _, e, _⟩, _⟩ := x; exact Heap.lt_size e
  | rng lo hi => obtain ⟨_, _, _, e⟩ := x; exact Heap.lt_size e
  | frz ob u => obtain ⟨e, _⟩ := x; exact Heap.lt_size e
  | tbl ps => exact Heap.lt_size (show h.get? a = some _ from x)
  | met f y => exact Heap.lt_size (show h.get? a = some _ from x)
  | ext φ => obtain ⟨_, ⟨_, e⟩, _⟩ := x; exact Heap.lt_size e
theorem Paired.mapP {α β : Type} {F G : α → β → Prop} : ∀ {l₁ : List α} {l₂ : List β}, Paired F l₁ l₂ → (∀ a b, F a b → G a b) → Paired G l₁ l₂
  | _, _, .nil, _ => .nil
  | _, _, .cons r t, f => .cons (f _ _ r) (Paired.mapP t f)
theorem ObjOk.stay (x : ObjOk P w H h a o) (k : ∀ b u, (b = a ∨ H b = some (.own a)) → h.get? b = some u → h'.get? b = some u)
    (ho : ∀ b, H b = some (.own a) → H' b = some (.own a)) (ht : ∀ b xs, H b = some (.tup xs) → H' b = some (.tup xs)) : ObjOk P w H' h' a o := by
  induction o with
  | lst xs => obtain ⟨z, its, n, r, e⟩ := x; exact ⟨z, its, n, r, k _ _ (.inl rfl) e⟩
  | tup xs => obtain ⟨z, its, r, ob, e, c⟩ := x; exact ⟨z, its, r, ob, k _ _ (.inl rfl) e, c⟩
  | dK kvs => obtain ⟨z, y, vs, r, ob, es, ep, e, c⟩ := x; exact ⟨z, y, vs, r, ob, es, ep, k _ _ (.inl rfl) e, c⟩
  | dT kvs =>
    obtain ⟨z, y, xs, r, ob, es, ep, e, c⟩ := x
    exact ⟨z, y, xs, Paired.mapP r fun p q z => ⟨z.1, ht _ _ z.2.1, z.2.2⟩, ob, es, ep, k _ _ (.inl rfl) e, c⟩
  | set S n => obtain ⟨ob, es, ep, t, e, c⟩ := x; exact ⟨ob, es, ep, t, k _ _ (.inl rfl) e, c⟩
  | ins C dx fs =>
    obtain ⟨d, z, ne, e, mA, ⟨od, es, ep, e2, c⟩, r⟩ := x
    exact ⟨ho _ d, z, ne, k _ _ (.inl rfl) e, mA, ⟨od, es, ep, k _ _ (.inr d) e2, c⟩, r⟩
  | own y => obtain ⟨ob, e⟩ := x; exact ⟨ob, k _ _ (.inl rfl) e⟩
  | xd fs => obtain ⟨mA, ⟨od, es, ep, e, c⟩, r⟩ := x; exact ⟨mA, ⟨od, es, ep, k _ _ (.inl rfl) e, c⟩, r⟩
  | rng lo hi => obtain ⟨t, u, v, e⟩ := x; exact ⟨t, u, v, k _ _ (.inl rfl) e⟩
  | frz ob u ih => obtain ⟨e, q⟩ := x; exact ⟨k _ _ (.inl rfl) e, ih q⟩
  | tbl ps =>
    have e : h.get? a = some { cls := .none, data := .fields ps } := x
    show h'.get? a = some { cls := .none, data := .fields ps }
    exact k a _ (.inl rfl) e
  | met f y =>
    have e : h.get? a = some (PySem.W.methodObj (.ref f) (.ref y)) := x
    show h'.get? a = some (PySem.W.methodObj (.ref f) (.ref y))
    exact k a _ (.inl rfl) e
  | ext φ => obtain ⟨p, ⟨o, e⟩, st⟩ := x; exact ⟨st _ _ p fun o q => k _ _ (.inl rfl) q, ⟨o, k _ _ (.inl rfl) e⟩, st⟩
theorem HOk.lt (x : HOk P w H h) (e : H a = some o) : a < h.objs.size := (x a o e).lt
theorem HOk.fresh (x : HOk P w H h) (e : h.objs.size ≤ a) : H a = none := by
  cases q : H a with
  | none => rfl
  | some u => exact absurd (Nat.lt_of_lt_of_le (x.lt q) e) (Nat.lt_irrefl _)
theorem HOk.kept (x : HOk P w H h) (k : ∀ b u, h.get? b = some u → h'.get? b = some u) : HOk P w H h' := fun a o e =>
  (x a o e).stay (fun b u _ q => k b u q) (fun _ q => q) fun _ _ q => q
theorem HOk.laid (x : HOk P w H h) (k : ∀ b u, h.get? b = some u → h'.get? b = some u) (hp : h.objs.size ≤ a) (new : ObjOk P w (upd H a o) h' a o) : HOk P w (upd H a o) h' := fun b u e => by
  have hn := x.fresh hp
  by_cases hb : b = a
  · subst hb; rw [upd_same] at e; cases e; exact new
  · rw [upd_ne hb] at e
    exact (x b u e).stay (fun c v _ q => k c v q) (fun c q => by rw [upd_ne (ne_of_none q hn)]; exact q) fun c xs q => by rw [upd_ne (ne_of_none q hn)]; exact q
end

noncomputable def Rd (H : Hp) (a : Addr) (u : HO) : Prop := H a = some u ∨ ∃ o, H a = some (.frz o u)
theorem Rd.ok {P : Program} {w : World} {H : Hp} {h : Heap} {a : Addr} {u : HO} (r : Rd H a u) (x : HOk P w H h) : ObjOk P w H h a u := by
  rcases r with r | ⟨o, r⟩
  · exact x a u r
  · obtain ⟨_, q⟩ := x a _ r
    exact q
noncomputable def Mut : Option HO → Prop
  | some (.lst _) => True
  | some (.dK _) => True
  | some (.dT _) => True
  | some (.set _ _) => True
  | some (.ins _ _ _) => True
  | some (.ext _) => True
  | _ => False
section
variable {P : Program} {w : World} {H : Hp} {h h' : Heap} {x e : Addr} {o' : HO}
theorem HOk.write (ok : HOk P w H h) (mu : Mut (H x)) (he : e = x ∨ H e = some (.own x)) (k : ∀ b u, b ≠ e → h.get? b = some u → h'.get? b = some u) (heo : ∃ u, h'.get? e = some u)
    (new : ObjOk P w (upd H x o') h' x o') : HOk P w (upd H x o') h' := fun b u q => by
  have nown : ∀ c y, H c = some (.own y) → c ≠ x := fun c y r z => by subst z; rw [r] at mu; exact mu
  have ntup : ∀ c xs, H c = some (.tup xs) → c ≠ x := fun c xs r z => by subst z; rw [r] at mu; exact mu
  by_cases hb : b = x
  · subst hb; rw [upd_same] at q; cases q; exact new
  · rw [upd_ne hb] at q
    by_cases hbe : b = e
    · have q' : H b = some (.own x) := by
        rcases he with z | z
        · exact absurd (hbe.trans z) hb
        · rw [hbe]; exact z
      rw [q] at q'; cases q'
      obtain ⟨v, hv⟩ := heo
      exact ⟨v, by rw [hbe]; exact hv⟩
    · refine (ok b u q).stay (fun c v hc r => k c v ?_ r) (fun c r => by rw [upd_ne (nown c b r)]; exact r) fun c xs r => by rw [upd_ne (ntup c xs r)]; exact r
      rcases hc with rfl | hc
      · exact hbe
      · rintro rfl
        rcases he with z | z
        · exact nown c b hc z
        · rw [hc] at z; cases z; exact hb rfl
end

/-! ### kept unless tracked; of the frames at fs (the callers') the slots may change (an exception that passes writes there); of the records at ex (iterators) nothing is said -/
set_option genInjectivity false in
structure Un (fs ex : List Addr) (H H' : Hp) (h h' : Heap) : Prop where
  keep : ∀ b o, h.get? b = some o → H b = none → b ∉ fs → b ∉ ex → h'.get? b = some o
  slot : ∀ b o, h.get? b = some o → H b = none → b ∈ fs → b ∉ ex → ∃ sl, h'.get? b = some { o with slots := sl }
  free : ∀ b o, h.get? b = some o → H b = none → b ∉ ex → H' b = none
  there : ∀ b o, h.get? b = some o → b ∉ ex → ∃ o', h'.get? b = some o'
  tups : ∀ b xs, H b = some (.tup xs) → H' b = some (.tup xs)
  frzs : ∀ b o u, H b = some (.frz o u) → H' b = some (.frz o u)
  tbls : ∀ b ps, H b = some (.tbl ps) → ∃ more, H' b = some (.tbl (ps ++ more))
section
variable {fs fs' ex ex' : List Addr} {H H1 H2 : Hp} {h h1 h2 h' : Heap} {a x e : Addr} {o : HO}
theorem Un.any (u : Un fs ex H H1 h h1) {b : Addr} {ob : Obj} (q : h.get? b = some ob) (n : H b = none) (hx : b ∉ ex) : ∃ sl, h1.get? b = some { ob with slots := sl } := by
  by_cases hb : b ∈ fs
  · exact u.slot b ob q n hb hx
  · exact ⟨ob.slots, u.keep b ob q n hb hx⟩
theorem Un.kept (k : ∀ b u, h.get? b = some u → h'.get? b = some u) : Un fs ex H H h h' :=
  ⟨fun b ob q _ _ _ => k b ob q, fun b ob q _ _ _ => ⟨ob.slots, k b ob q⟩, fun _ _ _ n _ => n, fun b ob q _ => ⟨ob, k b ob q⟩, fun _ _ q => q, fun _ _ _ q => q, fun _ ps q => ⟨#[], by rw [q]; simp⟩⟩
theorem Un.refl : Un fs ex H H h h := Un.kept fun _ _ q => q
theorem Un.laid (k : ∀ b u, h.get? b = some u → h'.get? b = some u) (hp : h.objs.size ≤ a) (hn : H a = none) : Un fs ex H (upd H a o) h h' where
  keep := fun b u q _ _ _ => k b u q
  slot := fun b u q _ _ _ => ⟨u.slots, k b u q⟩
  free := fun b u q n _ => by rw [upd_ne (Nat.ne_of_lt (Nat.lt_of_lt_of_le (Heap.lt_size q) hp))]; exact n
  there := fun b u q _ => ⟨u, k b u q⟩
  tups := fun b xs q => by rw [upd_ne (ne_of_none q hn)]; exact q
  frzs := fun b u xs q => by rw [upd_ne (ne_of_none q hn)]; exact q
  tbls := fun b ps q => ⟨#[], by rw [upd_ne (ne_of_none q hn), q]; simp⟩
theorem Un.write (mu : Mut (H x)) (he : e = x ∨ H e = some (.own x)) (k : ∀ b u, b ≠ e → h.get? b = some u → h'.get? b = some u) (heo : ∃ u, h'.get? e = some u) : Un fs ex H (upd H x o) h h' := by
  have hx : ∀ b, H b = none → b ≠ x := fun b n z => by subst z; rw [n] at mu; exact mu
  have hb : ∀ b, H b = none → b ≠ e := fun b n z => by
    subst z
    rcases he with r | r
    · exact hx b n r
    · rw [n] at r; cases r
  have hm : ∀ b u, H b = some u → ¬ Mut (some u) → b ≠ x := fun b u q nm z => by subst z; rw [q] at mu; exact nm mu
  refine ⟨fun b u q n _ _ => k b u (hb b n) q, fun b u q n _ _ => ⟨u.slots, k b u (hb b n) q⟩, fun b u q n _ => by rw [upd_ne (hx b n)]; exact n, fun b u q _ => ?_,
    fun b xs q => by rw [upd_ne (hm b _ q fun z => z)]; exact q, fun b u xs q => by rw [upd_ne (hm b _ q fun z => z)]; exact q, fun b ps q => ⟨#[], by rw [upd_ne (hm b _ q fun z => z), q]; simp⟩⟩
  by_cases hbe : b = e
  · subst hbe; exact heo
  · exact ⟨u, k b u hbe q⟩
end

/-! ### the heap without what is tracked -/
noncomputable def trk (h : Heap) (H : Hp) : List Addr := (List.range h.objs.size).filter fun a => (H a).isSome
noncomputable def hidT (h : Heap) (H : Hp) : Heap := PySem.W.hideAll h (trk h H)
theorem hidT_size (h : Heap) (H : Hp) : (hidT h H).objs.size = h.objs.size := PySem.W.hideAll_size _ _
theorem hidT_get {h : Heap} {H : Hp} {b : Addr} {o : Obj} (e : h.get? b = some o) (n : H b = none) : (hidT h H).get? b = some o :=
  PySem.W.hideAll_get _ e fun hm => by
    have q : (H b).isSome = true := (List.mem_filter.mp hm).2
    rw [n] at q; simp at q
theorem of_hidT {h : Heap} {H : Hp} {b : Addr} {o : Obj} (e : (hidT h H).get? b = some o) : h.get? b = some o ∧ H b = none := by
  have e' : h.get? b = some o := PySem.W.of_hideAll (trk h H) e
  refine ⟨e', ?_⟩
  cases q : H b with
  | none => rfl
  | some x =>
    have hm : b ∈ trk h H := List.mem_filter.mpr ⟨List.mem_range.mpr (Heap.lt_size e'), by simp [q]⟩
    have z : (hidT h H).get? b = none := PySem.W.hideAll_none (trk h H) hm
    rw [z] at e; cases e

/-! ### OpenK's ledger, filled with every new object but one -/
noncomputable def allNews (g h : Heap) (L : Addr) : List (Addr × Obj) := (List.range h.objs.size).filterMap fun a => if a = L ∨ (g.get? a).isSome = true then none else (h.get? a).map fun o => (a, o)
noncomputable def rest (g h : Heap) (L d : Addr) : List (Addr × Obj) := (allNews g h L).filter fun p => decide (p.1 ≠ d)
end L2

namespace L2
open PySem PySem.Spec PyProof.Rows

set_option genInjectivity false in
structure Mod (K : PySem.W.Frag) (mg : Str → Option Value) (base : Heap) : Prop where
  kin : K.In base
  glob : base.Ns mainGlobals mg
  blt : ∃ mb, base.Ns builtinsNs mb ∧ ∀ x : Str, x ≠ "__name__" → mb x = bootBuiltins x
  nolimit : base.NoLimit

set_option genInjectivity false in
structure Cx where
  prog : Program
  w : World
  K : PySem.W.Frag
  mg : Str → Option Value
  base : Heap
  A : Around
  N : List Str
  s₀ : Shared
  H₀ : Hp
  env : Env
  outer : List Env
  stack : List Env
  ex : List Addr
  fn : Str → Bool
  calm : Bool
  pn : List (Addr × Obj)
  xe : Value → Shared → Prop
noncomputable def frs (l : List Env) : List Addr := l.filterMap (·.frame)
noncomputable abbrev Cx.fs (X : Cx) : List Addr := frs X.outer

noncomputable def Vis (sc : Scope) (x : Str) : Prop := sc.names.lookup x = some .local ∨ sc.names.lookup x = some .cell ∨ sc.names.lookup x = some .free
noncomputable def Loc (sc : Scope) (x : Str) : Prop := sc.names.lookup x = some .local ∨ sc.names.lookup x = some .cell
noncomputable def Look (env : Env) (h : Heap) (m : Str → Option Value) (x : Str) (u : Value) : Prop :=
  (env.kindOf x = some .local ∧ m x = some u) ∨ ((env.kindOf x = some .cell ∨ env.kindOf x = some .free) ∧ ∃ c, env.cells.lookup x = some c ∧ h.IsCell c (some u))

set_option genInjectivity false in
structure Cx.Ok (X : Cx) : Prop where
  mod : Mod X.K X.mg X.base
  kind : X.env.scope.kind = .function
  glob : X.env.globals = mainGlobals
  blt : X.env.builtins = builtinsNs
  above : X.s₀.heap.objs.size ≤ X.env.locals
  inj : ∀ x y c, X.env.cells.lookup x = some c → X.env.cells.lookup y = some c → x = y
  has : ∀ x, (X.env.kindOf x = some .cell ∨ X.env.kindOf x = some .free) → ∃ c, X.env.cells.lookup x = some c
  cab : ∀ x c, X.fn x = true → X.env.cells.lookup x = some c → X.s₀.heap.objs.size ≤ c
  hd : X.calm = true → X.A.handled = none
  frames : X.A.frames = some X.stack
  stk : X.stack = X.outer ∨ (X.stack = X.env :: X.outer ∧ X.env.frame = some X.env.locals)
  exf : ∀ b ∈ X.ex, b ≠ X.env.locals ∧ ∀ x c, X.env.cells.lookup x = some c → c ≠ b
  bs : ∀ b o, X.base.get? b = some o → X.s₀.heap.get? b = some o ∧ X.H₀ b = none
  bsz : X.base.objs.size ≤ X.s₀.heap.objs.size
  noex : ∀ b o, X.base.get? b = some o → b ∉ X.ex
  exfs : ∀ b ∈ X.ex, b ∉ X.fs
  funs : X.s₀.heap.FunFrames X.base X.outer
  frf : ∀ b ∈ X.fs, X.H₀ b = none

set_option genInjectivity false in
structure Inv (X : Cx) (pins : List (Addr × Obj)) (σ : List (Option V)) (H : Hp) (s : Shared) : Prop where
  ok : X.Ok
  os : s.os = X.s₀.os
  bare : AllBare s.gens
  base : Un X.fs X.ex X.H₀ H X.s₀.heap s.heap
  loc : ∃ m, s.heap.Ns X.env.locals m ∧ ∀ (i : Nat) (x : Str) (v : V), X.N[i]? = some x → σ[i]? = some (some v) → Vis X.env.scope x → ∃ u, RelV v u ∧ Look X.env s.heap m x u
  cell : ∀ x c, X.env.cells.lookup x = some c → ∃ v, s.heap.IsCell c v
  free : H X.env.locals = none
  freeC : ∀ x c, X.env.cells.lookup x = some c → H c = none
  pin : ∀ p ∈ X.pn ++ pins, s.heap.get? p.1 = some p.2 ∧ H p.1 = none ∧ p.1 ≠ X.env.locals ∧ p.1 ∉ X.fs ∧ ∀ v, p.2.data ≠ .cell v
  hok : HOk X.prog X.w H s.heap
  len : σ.length = X.N.length

section
variable {X : Cx} {pins : List (Addr × Obj)} {σ : List (Option V)} {H H' : Hp} {s : Shared} {h' : Heap}

theorem Cx.Ok.nofr (ok : X.Ok) {b : Addr} {o : Obj} (e : X.base.get? b = some o) : b ∉ X.fs := fun hb => by
  have := (ok.funs.mem hb).1
  rw [e] at this; cases this
theorem Inv.bs (I : Inv X pins σ H s) : ∀ b o, X.base.get? b = some o → s.heap.get? b = some o ∧ H b = none := fun b o e =>
  ⟨I.base.keep b o (I.ok.bs b o e).1 (I.ok.bs b o e).2 (I.ok.nofr e) (I.ok.noex b o e), I.base.free b o (I.ok.bs b o e).1 (I.ok.bs b o e).2 (I.ok.noex b o e)⟩
theorem Inv.bk (I : Inv X pins σ H s) : ∀ b o, X.base.get? b = some o → s.heap.get? b = some o := fun b o e => (I.bs b o e).1
theorem Inv.mod (I : Inv X pins σ H s) : Mod X.K X.mg X.base := I.ok.mod
theorem Inv.kIn (I : Inv X pins σ H s) : X.K.In s.heap := I.ok.mod.kin.keeps I.bk
theorem Inv.fr (I : Inv X pins σ H s) : ∃ m, Fr X.base X.env.locals s.heap m :=
  let ⟨m, hn, _⟩ := I.loc
  ⟨m, hn, I.bk, Nat.le_trans I.ok.bsz I.ok.above⟩
theorem Inv.lt (I : Inv X pins σ H s) : X.env.locals < s.heap.objs.size := let ⟨_, hn, _⟩ := I.loc; hn.lt
theorem Inv.sz (I : Inv X pins σ H s) : X.s₀.heap.objs.size ≤ s.heap.objs.size := Nat.le_trans I.ok.above (Nat.le_of_lt I.lt)
theorem Inv.nofs (I : Inv X pins σ H s) {a : Addr} (h : s.heap.objs.size ≤ a) : a ∉ X.fs := fun hb => by
  obtain ⟨_, o, ho, _⟩ := I.ok.funs.mem hb
  exact absurd (Nat.lt_of_lt_of_le (Heap.lt_size ho) (Nat.le_trans I.sz h)) (Nat.lt_irrefl _)
theorem Inv.cne (I : Inv X pins σ H s) : ∀ x c, X.env.cells.lookup x = some c → c ≠ X.env.locals := fun x c e z => by
  obtain ⟨v, o, ho, hd⟩ := I.cell x c e
  obtain ⟨m, ⟨o', es, ep, ho', hd', _⟩, _⟩ := I.loc
  rw [z, ho'] at ho; cases ho; rw [hd'] at hd; cases hd
theorem Inv.funs (I : Inv X pins σ H s) : s.heap.FunFrames X.base X.outer := by
  have all : ∀ (l : List Env), (∀ b ∈ frs l, b ∈ X.fs) → X.s₀.heap.FunFrames X.base l → s.heap.FunFrames X.base l := by
    intro l
    induction l with
    | nil => intro _ _; trivial
    | cons env r ih =>
      intro hs hl
      obtain ⟨hk, ⟨L, o, hf, hn, ho, hd⟩, hr⟩ := hl
      have hL : L ∈ X.fs := hs L (by unfold frs; rw [List.filterMap_cons, hf]; exact List.mem_cons_self)
      obtain ⟨sl, e⟩ := I.base.slot L o ho (I.ok.frf L hL) hL fun z => I.ok.exfs L z hL
      exact ⟨hk, ⟨L, _, hf, hn, e, hd⟩, ih (fun b hb => hs b (by unfold frs; rw [List.filterMap_cons, hf]; exact List.mem_cons_of_mem _ hb)) hr⟩
  exact all X.outer (fun _ hb => hb) I.ok.funs

theorem Inv.stack (I : Inv X pins σ H s) : s.heap.FunFrames X.base X.stack := by
  rcases I.ok.stk with e | ⟨e, hf⟩
  · rw [e]; exact I.funs
  · rw [e]
    obtain ⟨m, hn, _⟩ := I.loc
    refine .cons (by rw [I.ok.kind]; decide) hf hn ?_ I.funs
    exact Heap.get?_none_of_le (Nat.le_trans I.ok.bsz I.ok.above)
theorem Inv.stkSub (I : Inv X pins σ H s) : ∀ b ∈ frs X.stack, b ∈ X.env.locals :: X.fs := fun b hb => by
  rcases I.ok.stk with e | ⟨e, hf⟩
  · rw [e] at hb; exact List.mem_cons_of_mem _ hb
  · rw [e] at hb
    unfold frs at hb
    rw [List.filterMap_cons, hf] at hb
    exact hb
theorem Inv.stkFree (I : Inv X pins σ H s) : ∀ b ∈ frs X.stack, H b = none := fun b hb => by
  rcases List.mem_cons.mp (I.stkSub b hb) with e | hb
  · rw [e]; exact I.free
  · obtain ⟨_, o, ho, _⟩ := I.ok.funs.mem hb
    exact I.base.free b o ho (I.ok.frf b hb) fun z => I.ok.exfs b z hb

theorem Inv.step {g' : Array GenState} {t' : Nat} {d' : Drawn} {ch : List Addr} (I : Inv X pins σ H s)
    (hch : ∀ b ∈ ch, (b ∈ X.ex ∨ X.s₀.heap.objs.size ≤ b) ∧ b ≠ X.env.locals ∧ (∀ x c, X.env.cells.lookup x = some c → c ≠ b) ∧ ∀ p ∈ X.pn ++ pins, p.1 ≠ b)
    (keep : ∀ b o, b ≠ X.env.locals → b ∉ X.fs → b ∉ ch → s.heap.get? b = some o → H b = none → h'.get? b = some o)
    (slot : ∀ b o, b ≠ X.env.locals → b ∈ X.fs → b ∉ ch → s.heap.get? b = some o → H b = none → ∃ sl, h'.get? b = some { o with slots := sl }) (free : ∀ b o, b ∉ ch → s.heap.get? b = some o → H b = none → H' b = none)
    (there : ∀ b o, b ∉ ch → s.heap.get? b = some o → ∃ o', h'.get? b = some o')
    (tups : ∀ b xs, H b = some (.tup xs) → H' b = some (.tup xs)) (frzs : ∀ b o u, H b = some (.frz o u) → H' b = some (.frz o u)) (tbls : ∀ b ps, H b = some (.tbl ps) → ∃ more, H' b = some (.tbl (ps ++ more)))
    (ns : ∀ m, s.heap.Ns X.env.locals m → h'.Ns X.env.locals m) (hok : HOk X.prog X.w H' h') (hg : AllBare g') :
    Inv X pins σ H' { s with heap := h', gens := g', drawn := d', toks := t' } := by
  have neL : ∀ b o, X.s₀.heap.get? b = some o → b ≠ X.env.locals := fun b o e => Nat.ne_of_lt (Nat.lt_of_lt_of_le (Heap.lt_size e) I.ok.above)
  have neC : ∀ b o, X.s₀.heap.get? b = some o → b ∉ X.ex → b ∉ ch := fun b o e hx hb => by
    rcases (hch b hb).1 with z | z
    · exact hx z
    · exact absurd (Nat.lt_of_lt_of_le (Heap.lt_size e) z) (Nat.lt_irrefl _)
  have cellK : ∀ x c, X.env.cells.lookup x = some c → ∀ v, s.heap.IsCell c v → h'.IsCell c v := fun x c e v ⟨o, ho, hd⟩ => by
    have nch : c ∉ ch := fun z => (hch c z).2.2.1 x c e rfl
    by_cases hc : c ∈ X.fs
    · obtain ⟨sl, q⟩ := slot c o (I.cne x c e) hc nch ho (I.freeC x c e)
      exact ⟨_, q, hd⟩
    · exact ⟨o, keep c o (I.cne x c e) hc nch ho (I.freeC x c e), hd⟩
  refine ⟨I.ok, I.os, hg, ⟨fun b o e n hb hx => ?_, fun b o e n hb hx => ?_, fun b o e n hx => ?_, fun b o e hx => ?_, fun b xs e => tups b xs (I.base.tups b xs e), fun b o xs e => frzs b o xs (I.base.frzs b o xs e), fun b ps e => ?_⟩, ?_, fun x c e => ?_, ?_, fun x c e => ?_, fun p hp => ?_, hok, I.len⟩
  · exact keep b o (neL b o e) hb (neC b o e hx) (I.base.keep b o e n hb hx) (I.base.free b o e n hx)
  · obtain ⟨sl, e1⟩ := I.base.slot b o e n hb hx
    obtain ⟨sl', e2⟩ := slot b _ (neL b o e) hb (neC b o e hx) e1 (I.base.free b o e n hx)
    exact ⟨sl', e2⟩
  · obtain ⟨o', e1⟩ := I.base.there b o e hx
    exact free b o' (neC b o e hx) e1 (I.base.free b o e n hx)
  · obtain ⟨o', e1⟩ := I.base.there b o e hx
    exact there b o' (neC b o e hx) e1
  · obtain ⟨m1, e1⟩ := I.base.tbls b ps e
    obtain ⟨m2, e2⟩ := tbls b _ e1
    exact ⟨m1 ++ m2, by rw [e2, Array.append_assoc]⟩
  · obtain ⟨m, hn, hl⟩ := I.loc
    refine ⟨m, ns m hn, fun i x v e1 e2 e3 => ?_⟩
    obtain ⟨u, r, l⟩ := hl i x v e1 e2 e3
    refine ⟨u, r, ?_⟩
    rcases l with l | ⟨k, c, e, z⟩
    · exact .inl l
    · exact .inr ⟨k, c, e, cellK x c e _ z⟩
  · obtain ⟨v, z⟩ := I.cell x c e
    exact ⟨v, cellK x c e v z⟩
  · obtain ⟨m, ⟨o, _, _, ho, _⟩, _⟩ := I.loc
    exact free _ o (fun z => (hch _ z).2.1 rfl) ho I.free
  · obtain ⟨v, o, ho, hd⟩ := I.cell x c e
    exact free c o (fun z => (hch c z).2.2.1 x c e rfl) ho (I.freeC x c e)
  · obtain ⟨e, n, ne, nf, d⟩ := I.pin p hp
    have nch : p.1 ∉ ch := fun z => (hch p.1 z).2.2.2 p hp rfl
    exact ⟨keep p.1 p.2 ne nf nch e n, free p.1 p.2 nch e n, ne, nf, d⟩
theorem Inv.un {t' : Nat} (I : Inv X pins σ H s) (u : Un X.fs [] H H' s.heap h') (hok : HOk X.prog X.w H' h') : Inv X pins σ H' { s with heap := h', toks := t' } := by
  obtain ⟨m, ⟨o, es, ep, ho, r⟩, _⟩ := id I.loc
  obtain ⟨sl, hL⟩ := u.any ho I.free (by simp)
  exact I.step (g' := s.gens) (d' := s.drawn) (ch := []) (fun _ z => nomatch z) (fun b o _ hb _ e n => u.keep b o e n hb (by simp)) (fun b o _ hb _ e n => u.slot b o e n hb (by simp)) (fun b o _ e n => u.free b o e n (by simp)) (fun b o _ e => u.there b o e (by simp)) u.tups u.frzs u.tbls (fun m' hm => by
    obtain ⟨o', es', ep', ho', r'⟩ := hm
    rw [ho] at ho'; cases ho'
    exact ⟨_, es', ep', hL, r'⟩) hok I.bare
theorem Inv.call {g' : Array GenState} {t' : Nat} {d' : Drawn} {ch : List Addr} (I : Inv X pins σ H s) (u : Un (frs X.stack) ch H H' s.heap h') (hok : HOk X.prog X.w H' h') (hg : AllBare g')
    (hch : ∀ b ∈ ch, (b ∈ X.ex ∨ X.s₀.heap.objs.size ≤ b) ∧ b ≠ X.env.locals ∧ (∀ x c, X.env.cells.lookup x = some c → c ≠ b) ∧ ∀ p ∈ X.pn ++ pins, p.1 ≠ b) :
    Inv X pins σ H' { s with heap := h', gens := g', drawn := d', toks := t' } := by
  obtain ⟨m, ⟨o, es, ep, ho, r⟩, _⟩ := id I.loc
  obtain ⟨sl, hL⟩ := u.any ho I.free fun z => (hch _ z).2.1 rfl
  exact I.step (ch := ch) hch (fun b o hL hb hc e n => u.keep b o e n (fun z => (List.mem_cons.mp (I.stkSub b z)).elim hL hb) hc) (fun b o _ _ hc e n => u.any e n hc) (fun b o hc e n => u.free b o e n hc) (fun b o hc e => u.there b o e hc) u.tups u.frzs u.tbls (fun m' hm => by
    obtain ⟨o', es', ep', ho', r'⟩ := hm
    rw [ho] at ho'; cases ho'
    exact ⟨_, es', ep', hL, r'⟩) hok hg
theorem Inv.turned {t' : Nat} {it : Addr} (I : Inv X pins σ H s) (k : ∀ b o, b ≠ it → s.heap.get? b = some o → h'.get? b = some o) (hn : H it = none) (hL : it ≠ X.env.locals)
    (h1 : it ∈ X.ex ∨ X.s₀.heap.objs.size ≤ it) (h2 : ∀ x c, X.env.cells.lookup x = some c → c ≠ it) (h3 : ∀ p ∈ X.pn ++ pins, p.1 ≠ it) : Inv X pins σ H { s with heap := h', toks := t' } := by
  have nit : ∀ b u, H b = some u → b ≠ it := fun b u e z => by rw [z, hn] at e; cases e
  refine I.step (g' := s.gens) (d' := s.drawn) (ch := [it]) (fun b hb => ?_) (fun b o _ _ hc e _ => k b o (fun z => hc (by simp [z])) e) (fun b o _ _ hc e _ => ⟨o.slots, k b o (fun z => hc (by simp [z])) e⟩) (fun _ _ _ _ n => n)
    (fun b o hc e => ⟨o, k b o (fun z => hc (by simp [z])) e⟩) (fun _ _ e => e) (fun _ _ _ e => e) (fun b ps e => ⟨#[], by rw [e]; simp⟩) (fun m hm => ?_) (fun b u e => ?_) I.bare
  · have e : b = it := by simpa using hb
    subst e
    exact ⟨h1, hL, h2, h3⟩
  · obtain ⟨o, es, ep, ho, r⟩ := hm
    exact ⟨o, es, ep, k _ o (Ne.symm hL) ho, r⟩
  · refine (I.hok b u e).stay (fun c v hc q => k c v ?_ q) (fun _ q => q) fun _ _ q => q
    rcases hc with z | z
    · rw [z]; exact nit b u e
    · exact nit c _ z
theorem Inv.tok (I : Inv X pins σ H s) (t : Nat) : Inv X pins σ H { s with toks := t } := I.un (h' := s.heap) (t' := t) Un.refl I.hok
theorem Inv.kept {t' : Nat} (I : Inv X pins σ H s) (k : ∀ b u, s.heap.get? b = some u → h'.get? b = some u) : Inv X pins σ H { s with heap := h', toks := t' } := I.un (Un.kept k) (I.hok.kept k)
theorem Inv.laid {a : Addr} {o : HO} {t' : Nat} (I : Inv X pins σ H s) (k : ∀ b u, s.heap.get? b = some u → h'.get? b = some u) (hp : s.heap.objs.size ≤ a) (new : ObjOk X.prog X.w (upd H a o) h' a o) :
    Inv X pins σ (upd H a o) { s with heap := h', toks := t' } := I.un (Un.laid k hp (I.hok.fresh hp)) (I.hok.laid k hp new)
theorem Inv.write {x e : Addr} {o : HO} {t' : Nat} (I : Inv X pins σ H s) (mu : Mut (H x)) (he : e = x ∨ H e = some (.own x)) (k : ∀ b u, b ≠ e → s.heap.get? b = some u → h'.get? b = some u) (heo : ∃ u, h'.get? e = some u)
    (new : ObjOk X.prog X.w (upd H x o) h' x o) : Inv X pins σ (upd H x o) { s with heap := h', toks := t' } := I.un (Un.write mu he k heo) (I.hok.write mu he k heo new)
theorem Inv.weak {σ' : List (Option V)} (I : Inv X pins σ H s) (hl : σ'.length = σ.length) (w : ∀ (i : Nat) v, σ'[i]? = some (some v) → σ[i]? = some (some v)) : Inv X pins σ' H s :=
  ⟨I.ok, I.os, I.bare, I.base, let ⟨m, hn, hl'⟩ := I.loc; ⟨m, hn, fun i x v e1 e2 e3 => hl' i x v e1 (w i v e2) e3⟩, I.cell, I.free, I.freeC, I.pin, I.hok, hl.trans I.len⟩
theorem Inv.pins_of {pins' : List (Addr × Obj)} (I : Inv X pins σ H s) (h : ∀ p ∈ pins', s.heap.get? p.1 = some p.2 ∧ H p.1 = none ∧ p.1 ≠ X.env.locals ∧ p.1 ∉ X.fs ∧ ∀ v, p.2.data ≠ .cell v) : Inv X pins' σ H s :=
  ⟨I.ok, I.os, I.bare, I.base, I.loc, I.cell, I.free, I.freeC, fun p hp => (List.mem_append.mp hp).elim (fun z => I.pin p (List.mem_append_left _ z)) (h p), I.hok, I.len⟩

theorem nodup_ix {N : List Str} (hN : N.Nodup) {i j : Nat} {x : Str} (a : N[i]? = some x) (b : N[j]? = some x) : i = j := by
  obtain ⟨h1, e1⟩ := List.getElem?_eq_some_iff.mp a
  obtain ⟨h2, e2⟩ := List.getElem?_eq_some_iff.mp b
  exact (List.getElem_inj hN).mp (e1.trans e2.symm)

theorem store_ok2 {M : Model} {A : Around} {E : Value → Shared → Prop} {i : Nat} {x : Str} {v : V} {u : Value} {Q : Unit → Shared → Prop} (I : Inv X pins σ H s) (hN : X.N.Nodup) (hi : X.N[i]? = some x) (hx : Loc X.env.scope x) (r : RelV v u)
    (h : ∀ s', Inv X pins (σ.set i (some v)) H s' → (∃ a, Heap.SameBut a s.heap s'.heap ∧ (a = X.env.locals ∨ X.env.cells.lookup x = some a)) → Q () s') (hf : X.fn x = true ∨ X.env.scope.names.lookup x = some .local := by first | exact .inl rfl | exact .inr rfl | assumption) : wpAny M A (storeName X.env x u) Q E s := by
  obtain ⟨m, hn, hl⟩ := id I.loc
  have hcls : (X.env.scope.kind == .class || (X.env.scope.kind == .module && X.env.locals != X.env.globals)) = false := by rw [I.ok.kind]; rfl
  have hiσ : i < σ.length := by rw [I.len]; exact (List.getElem?_eq_some_iff.mp hi).1
  have cne := I.cne
  have tracked : ∀ {a : Addr} {h' : Heap}, (∃ o, s.heap.get? a = some o ∧ H a = none) → Heap.SameBut a s.heap h' → HOk X.prog X.w H h' := fun {a h'} ha hs b ob e => by
    obtain ⟨_, _, hfree⟩ := ha
    refine (I.hok b ob e).stay (fun c w' hc q => (hs.2 c ?_).trans q) (fun _ q => q) fun _ _ q => q
    rintro rfl
    rcases hc with rfl | hc
    · rw [hfree] at e; cases e
    · rw [hfree] at hc; cases hc
  rcases hx with hk | hk
  · refine wpAny_storeName_local hk hn (fun h' hn' hs => ?_) hcls
    obtain ⟨oL, _, _, hoL, _⟩ := id hn
    refine h _ ⟨I.ok, I.os, I.bare, ⟨fun b o e n hb hx => ?_, fun b o e n hb hx => ?_, I.base.free, fun b o e hx => ?_, I.base.tups, I.base.frzs, I.base.tbls⟩, ⟨_, hn', fun j y v' e1 e2 e3 => ?_⟩, fun y c e => ?_, I.free, I.freeC, fun p hp => ?_, tracked ⟨oL, hoL, I.free⟩ hs, by simpa using I.len⟩ ⟨_, hs, .inl rfl⟩
    · exact (hs.2 b (Nat.ne_of_lt (Nat.lt_of_lt_of_le (Heap.lt_size e) I.ok.above))).trans (I.base.keep b o e n hb hx)
    · obtain ⟨sl, e1⟩ := I.base.slot b o e n hb hx
      exact ⟨sl, (hs.2 b (Nat.ne_of_lt (Nat.lt_of_lt_of_le (Heap.lt_size e) I.ok.above))).trans e1⟩
    · obtain ⟨o', e1⟩ := I.base.there b o e hx
      exact ⟨o', (hs.2 b (Nat.ne_of_lt (Nat.lt_of_lt_of_le (Heap.lt_size e) I.ok.above))).trans e1⟩
    · by_cases hj : j = i
      · subst hj
        rw [hi] at e1; cases e1
        rw [List.getElem?_set_self hiσ] at e2
        cases e2
        exact ⟨u, r, .inl ⟨hk, by simp⟩⟩
      · rw [List.getElem?_set_ne (Ne.symm hj)] at e2
        obtain ⟨u', r', q⟩ := hl j y v' e1 e2 e3
        refine ⟨u', r', ?_⟩
        rcases q with ⟨k, e⟩ | ⟨k, c, e, z⟩
        · refine .inl ⟨k, ?_⟩
          have : y ≠ x := fun e => hj (nodup_ix hN e1 (e ▸ hi))
          simp [this, e]
        · exact .inr ⟨k, c, e, z.sameBut hs (cne y c e)⟩
    · obtain ⟨w', z⟩ := I.cell y c e
      exact ⟨w', z.sameBut hs (cne y c e)⟩
    · obtain ⟨e, n, ne, nf, d⟩ := I.pin p hp
      exact ⟨(hs.2 p.1 ne).trans e, n, ne, nf, d⟩
  · have hfn : X.fn x = true := by
      rcases hf with z | z
      · exact z
      · rw [z] at hk; cases hk
    obtain ⟨c, hc⟩ := I.ok.has x (.inl hk)
    obtain ⟨w', z⟩ := I.cell x c hc
    refine wpAny_storeName_cell I.ok.kind hk hc z (fun h' hc' hs => ?_)
    obtain ⟨oc, hoc, hocd⟩ := id z
    refine h { s with heap := h' } ⟨I.ok, I.os, I.bare, ⟨fun b o e n hb hx => ?_, fun b o e n hb hx => ?_, I.base.free, fun b o e hx => ?_, I.base.tups, I.base.frzs, I.base.tbls⟩, ⟨m, hn.sameBut hs (Ne.symm (cne x c hc)), fun j y v' e1 e2 e3 => ?_⟩, fun y c' e => ?_, I.free, I.freeC, fun p hp => ?_, tracked ⟨oc, hoc, I.freeC x c hc⟩ hs, by simpa using I.len⟩ ⟨c, hs, .inr hc⟩
    · exact (hs.2 b (Nat.ne_of_lt (Nat.lt_of_lt_of_le (Heap.lt_size e) (I.ok.cab x c hfn hc)))).trans (I.base.keep b o e n hb hx)
    · obtain ⟨sl, e1⟩ := I.base.slot b o e n hb hx
      exact ⟨sl, (hs.2 b (Nat.ne_of_lt (Nat.lt_of_lt_of_le (Heap.lt_size e) (I.ok.cab x c hfn hc)))).trans e1⟩
    · obtain ⟨o', e1⟩ := I.base.there b o e hx
      exact ⟨o', (hs.2 b (Nat.ne_of_lt (Nat.lt_of_lt_of_le (Heap.lt_size e) (I.ok.cab x c hfn hc)))).trans e1⟩
    · by_cases hj : j = i
      · subst hj
        rw [hi] at e1; cases e1
        rw [List.getElem?_set_self hiσ] at e2
        cases e2
        exact ⟨u, r, .inr ⟨.inl hk, c, hc, hc'⟩⟩
      · rw [List.getElem?_set_ne (Ne.symm hj)] at e2
        obtain ⟨u', r', q⟩ := hl j y v' e1 e2 e3
        refine ⟨u', r', ?_⟩
        rcases q with q | ⟨k, c', e, z'⟩
        · exact .inl q
        · refine .inr ⟨k, c', e, z'.sameBut hs ?_⟩
          rintro rfl
          exact hj (nodup_ix hN e1 (I.ok.inj _ _ _ e hc ▸ hi))
    · by_cases hcc : c' = c
      · subst hcc; exact ⟨_, hc'⟩
      · obtain ⟨w2, z2⟩ := I.cell y c' e
        exact ⟨w2, z2.sameBut hs hcc⟩
    · obtain ⟨e, n, ne, nf, d⟩ := I.pin p hp
      refine ⟨(hs.2 p.1 ?_).trans e, n, ne, nf, d⟩
      intro q
      rw [q, hoc] at e
      have q' : oc = p.2 := Option.some.inj e
      exact d w' (by rw [← q']; exact hocd)
theorem store_ok {M : Model} {A : Around} {E : Value → Shared → Prop} {i : Nat} {x : Str} {v : V} {u : Value} {Q : Unit → Shared → Prop} (I : Inv X pins σ H s) (hN : X.N.Nodup) (hi : X.N[i]? = some x) (hx : Loc X.env.scope x) (r : RelV v u)
    (h : ∀ s', Inv X pins (σ.set i (some v)) H s' → Q () s') (hf : X.fn x = true ∨ X.env.scope.names.lookup x = some .local := by first | exact .inl rfl | exact .inr rfl | assumption) : wpAny M A (storeName X.env x u) Q E s :=
  store_ok2 I hN hi hx r (fun s' I' _ => h s' I') hf
theorem Inv.call' {s' : Shared} {ch : List Addr} (I : Inv X pins σ H s) (ho : s'.os = s.os) (u : Un (frs X.stack) ch H H' s.heap s'.heap) (hok : HOk X.prog X.w H' s'.heap) (hg : AllBare s'.gens)
    (hch : ∀ b ∈ ch, (b ∈ X.ex ∨ X.s₀.heap.objs.size ≤ b) ∧ b ≠ X.env.locals ∧ (∀ x c, X.env.cells.lookup x = some c → c ≠ b) ∧ ∀ p ∈ X.pn ++ pins, p.1 ≠ b) : Inv X pins σ H' s' := by
  obtain ⟨h', g', d', t', o'⟩ := s'
  have e : o' = s.os := ho
  subst e
  exact I.call (g' := g') (t' := t') (d' := d') u hok hg hch
end

/-! ### the judgements -/
noncomputable abbrev XK := Value → Option Addr → Hp → Prop
noncomputable abbrev St := List (Option V)
noncomputable abbrev VK := V → Hp → Prop
noncomputable abbrev TE := St → Hp → VK → Prop
noncomputable abbrev TT := St → Hp → (Bool → Hp → Prop) → Prop
noncomputable abbrev TA := St → Hp → (List V → Hp → Prop) → Prop
set_option genInjectivity false in
structure Ends where
  nx : St → Hp → Prop
  rt : VK
  bk : St → Hp → Prop := fun _ _ => False
  ct : St → Hp → Prop := fun _ _ => False
noncomputable abbrev TS := Ends → St → Hp → Prop

noncomputable def EP (X : Cx) (pins : List (Addr × Obj)) (σ : St) (Q : VK) (u : Value) (s' : Shared) : Prop := ∃ v H', Inv X pins σ H' s' ∧ RelV v u ∧ Q v H'
noncomputable def TP (X : Cx) (pins : List (Addr × Obj)) (σ : St) (Q : Bool → Hp → Prop) (b : Bool) (s' : Shared) : Prop := ∃ H', Inv X pins σ H' s' ∧ Q b H'
noncomputable def AP (X : Cx) (pins : List (Addr × Obj)) (σ : St) (Q : List V → Hp → Prop) (us : List Value) (s' : Shared) : Prop := ∃ vs H', Inv X pins σ H' s' ∧ Vals vs us ∧ Q vs H'
noncomputable def SP (X : Cx) (pins : List (Addr × Obj)) (D : Ends) (f : Flow) (s' : Shared) : Prop :=
  match f with
  | .next => ∃ σ' H', Inv X pins σ' H' s' ∧ D.nx σ' H'
  | .brk => ∃ σ' H', Inv X pins σ' H' s' ∧ D.bk σ' H'
  | .cont => ∃ σ' H', Inv X pins σ' H' s' ∧ D.ct σ' H'
  | .ret u => ∃ v σ' H', Inv X pins σ' H' s' ∧ RelV v u ∧ D.rt v H'

noncomputable def PE (X : Cx) (e : Expr) (t : TE) : Prop :=
  ∀ (pins : List (Addr × Obj)) (s : Shared) (σ : St) (H : Hp) (Q : VK), Inv X pins σ H s → t σ H Q → wpAny (model X.prog X.w) X.A (eval e X.env) (EP X pins σ Q) X.xe s
noncomputable def PT (X : Cx) (e : Expr) (t : TT) : Prop :=
  ∀ (pins : List (Addr × Obj)) (s : Shared) (σ : St) (H : Hp) (Q : Bool → Hp → Prop), Inv X pins σ H s → t σ H Q → wpAny (model X.prog X.w) X.A (isTrue e X.env (eval e X.env)) (TP X pins σ Q) X.xe s
noncomputable def PW (X : Cx) (e : Expr) (t : TT) : Prop :=
  ∀ (whole : Sem Value) (pins : List (Addr × Obj)) (s : Shared) (σ : St) (H : Hp) (Q : Bool → Hp → Prop), Inv X pins σ H s → t σ H Q → wpAny (model X.prog X.w) X.A (isTrue e X.env whole) (TP X pins σ Q) X.xe s
theorem PW.pt {X : Cx} {e : Expr} {t : TT} (h : PW X e t) : PT X e t := h _
noncomputable def PA (X : Cx) (es : List Expr) (t : TA) : Prop :=
  ∀ (pos : Pos) (pins : List (Addr × Obj)) (s : Shared) (σ : St) (H : Hp) (Q : List V → Hp → Prop), Inv X pins σ H s → t σ H Q → wpAny (model X.prog X.w) X.A (spliced (backTo pos (starEach es X.env))) (AP X pins σ Q) X.xe s
noncomputable def PS (X : Cx) (st : Stmt) (t : TS) : Prop :=
  ∀ (pins : List (Addr × Obj)) (s : Shared) (σ : St) (H : Hp) (D : Ends), Inv X pins σ H s → t D σ H → wpAny (model X.prog X.w) X.A (exec st X.env) (SP X pins D) X.xe s
noncomputable def PSs (X : Cx) (st : List Stmt) (t : TS) : Prop :=
  ∀ (pins : List (Addr × Obj)) (s : Shared) (σ : St) (H : Hp) (D : Ends), Inv X pins σ H s → t D σ H → wpAny (model X.prog X.w) X.A (execs st X.env) (SP X pins D) X.xe s
theorem thn {α : Type} {t : Sem α} {Q Q' : α → Shared → Prop} {M : Model} {A : Around} {E : Value → Shared → Prop} {s : Shared} (h : wpAny M A t Q E s) (hQ : ∀ a s, Q a s → Q' a s) : wpAny M A t Q' E s := wpAny_mono h hQ fun _ _ x => x
end L2

namespace L2
open PySem PySem.Spec PyProof.Rows
section
variable {X : Cx}

theorem bin {a b : Expr} {ta tb : TE} (ha : PE X a ta) (hb : PE X b tb) {pins : List (Addr × Obj)} {s : Shared} {σ : St} {H : Hp} {R : V → V → Hp → Prop} (I : Inv X pins σ H s) (h : ta σ H fun x H1 => tb σ H1 fun y H2 => R x y H2)
    {α : Type} {Q : α → Shared → Prop} {f : Value → Value → Sem α}
    (hf : ∀ v u s2 x y H2, Inv X pins σ H2 s2 → RelV x v → RelV y u → R x y H2 → wpAny (model X.prog X.w) X.A (f v u) Q X.xe s2) :
    wpAny (model X.prog X.w) X.A (eval a X.env) (fun v s₁ => wpAny (model X.prog X.w) X.A (eval b X.env) (fun u s₂ => wpAny (model X.prog X.w) X.A (f v u) Q X.xe s₂) X.xe s₁) X.xe s := by
  refine thn (ha pins s σ H _ I h) fun v s1 ⟨x, H1, I1, r1, q1⟩ => ?_
  refine thn (hb pins s1 σ H1 _ I1 q1) fun u s2 ⟨y, H2, I2, r2, q2⟩ => ?_
  exact hf v u s2 x y H2 I2 r1 r2 q2

/-! ### names and constants -/
noncomputable def tVar (i : Nat) : TE := fun σ H Q => ∃ v, σ[i]? = some (some v) ∧ Q v H
noncomputable def tC (v : V) : TE := fun _ H Q => Q v H
theorem pe_var {i : Nat} {x : Str} {pos : Pos} (hN : X.N[i]? = some x) (hv : Vis X.env.scope x) (hd : (x == ("__debug__" : Str)) = false := by decide) (hcd : (x == ("__classdict__" : Str)) = false := by decide) : PE X (.Name x pos) (tVar i) := by
  intro pins s σ H Q I h
  obtain ⟨v, e, h⟩ := h
  obtain ⟨m, hn, hl⟩ := I.loc
  obtain ⟨u, r, l⟩ := hl i x v hN e hv
  have fin : EP X pins σ Q u s := ⟨v, H, I, r, h⟩
  rcases l with ⟨hk, hm⟩ | ⟨hk, c, hc, hcell⟩
  · exact wpAny_Name (wpAny_loadName_local I.ok.kind hk hn hm fin) hd
  · rcases hk with hk | hk
    · exact wpAny_Name (wpAny_loadName_cell I.ok.kind hk hc hcell fin) hd
    · exact wpAny_Name (wpAny_loadName_free I.ok.kind hk hc hcell fin hcd) hd
theorem pe_int {i j pos} : PE X (.Constant (.int i) j pos) (tC (.int i)) := fun _ _ _ H _ I h => wpAny_Constant_int ⟨.int i, H, I.tok _, ⟨_, rfl⟩, h⟩
theorem pe_bl {b j pos} : PE X (.Constant (.bool b) j pos) (tC (.bl b)) := fun _ _ _ H _ I h => Constant_bool ⟨.bl b, H, I, rfl, h⟩
theorem pe_non {j pos} : PE X (.Constant .none j pos) (tC .non) := fun _ _ _ H _ I h => Constant_none ⟨.non, H, I, rfl, h⟩
theorem pe_str {x j pos} : PE X (.Constant (.str x) j pos) (tC (.str x)) := fun _ _ _ H _ I h => Calls.Constant_str ⟨.str x, H, I.tok _, ⟨_, rfl⟩, h⟩

noncomputable def Gl (X : Cx) (x : Str) : Prop := X.env.kindOf x = some .globalImplicit
theorem ld_glob {E : Value → Shared → Prop} {pins : List (Addr × Obj)} {s : Shared} {σ : St} {H : Hp} {x : Str} {u : Value} {pos : Pos} {Q : Value → Shared → Prop} (I : Inv X pins σ H s) (hg : Gl X x) (hm : X.mg x = some u) (h : Q u s)
    (hd : (x == ("__debug__" : Str)) = false := by decide) : wpAny (model X.prog X.w) X.A (eval (.Name x pos) X.env) Q E s :=
  Calls.Name_function_global I.ok.kind hg (Calls.loadGlobal_global (by rw [I.ok.glob]; exact I.mod.glob.keeps I.bk) hm h) hd
theorem ld_blt {E : Value → Shared → Prop} {pins : List (Addr × Obj)} {s : Shared} {σ : St} {H : Hp} {x : Str} {u : Value} {pos : Pos} {Q : Value → Shared → Prop} (I : Inv X pins σ H s) (hg : Gl X x) (hm : X.mg x = none) (hv : bootBuiltins x = some u) (h : Q u s)
    (hn : x ≠ "__name__" := by decide) (hd : (x == ("__debug__" : Str)) = false := by decide) : wpAny (model X.prog X.w) X.A (eval (.Name x pos) X.env) Q E s := by
  obtain ⟨mb, h1, h2⟩ := I.mod.blt
  exact Calls.Name_function_global I.ok.kind hg (Calls.loadGlobal_builtin (by rw [I.ok.glob]; exact I.mod.glob.keeps I.bk) hm (by rw [I.ok.blt]; exact h1.keeps I.bk) ((h2 x hn).trans hv) h) hd
theorem pe_glob {x : Str} {v : V} {u : Value} {pos : Pos} (hg : Gl X x) (hm : X.mg x = some u) (r : RelV v u) (hd : (x == ("__debug__" : Str)) = false := by decide) : PE X (.Name x pos) (tC v) :=
  fun _ _ _ H _ I h => ld_glob I hg hm ⟨v, H, I, r, h⟩ hd
theorem pe_bltn {x : Str} {v : V} {u : Value} {pos : Pos} (hg : Gl X x) (hm : X.mg x = none) (hv : bootBuiltins x = some u) (r : RelV v u) (hn : x ≠ "__name__" := by decide) (hd : (x == ("__debug__" : Str)) = false := by decide) : PE X (.Name x pos) (tC v) :=
  fun _ _ _ H _ I h => ld_blt I hg hm hv ⟨v, H, I, r, h⟩ hn hd

/-! ### arithmetic -/
variable {a b : Expr} {ta tb : TE} {pos : Pos}

/-! ### comparisons -/
noncomputable def PC (X : Cx) (op : CmpOp) (a b : Expr) (t : TE) : Prop :=
  ∀ (pins : List (Addr × Obj)) (s : Shared) (σ : St) (H : Hp) (Q : VK), Inv X pins σ H s → t σ H Q →
    wpAny (model X.prog X.w) X.A (eval a X.env) (fun v s₁ => wpAny (model X.prog X.w) X.A (eval b X.env) (fun u s₂ => wpAny (model X.prog X.w) X.A (compareOp op v u) (EP X pins σ Q) X.xe s₂) X.xe s₁) X.xe s
theorem nobehind (b : Expr) {op : CmpOp} (h : op ≠ .In) (h2 : op ≠ .NotIn) : behindInMarks op b = false := by
  have e1 : (op == CmpOp.In) = false := by cases op <;> first | rfl | exact absurd rfl h
  have e2 : (op == CmpOp.NotIn) = false := by cases op <;> first | rfl | exact absurd rfl h2
  cases b <;> simp [behindInMarks, e1, e2]
noncomputable def tB (t : TE) : TT := fun σ H Q => t σ H fun x H1 => ∃ c, x = .bl c ∧ Q c H1
theorem pt_cmp {op : CmpOp} {t : TE} (h : PC X op a b t) (h1 : behindInMarks op b = false := by first | exact nobehind _ (by decide) (by decide) | rfl) : PT X (.Compare a [op] [b] pos) (tB t) := by
  intro pins s σ H Q I hw
  refine wpAny_isTrue_Compare1 (thn (h pins s σ H _ I hw) fun v s1 h1 => thn h1 fun u s2 h2 => thn h2 fun c s3 ⟨x, H1, I1, r1, q1⟩ => ?_) h1
  obtain ⟨d, rfl, q⟩ := q1
  cases r1
  exact wpAny_truthy_bool ⟨H1, I1, q⟩
theorem pt_val {e : Expr} {t : TE} (h : PE X e t) (he : ∀ whole, isTrue e X.env whole = (do let v ← whole; standAt e.pos; holding [v] (truthy v)) := by intro _; rfl) : PT X e (tB t) := by
  intro pins s σ H Q I hw
  refine isTrue_plain (thn (h pins s σ H _ I hw) fun v s1 ⟨x, H1, I1, r1, q1⟩ => ?_) (he _)
  obtain ⟨d, rfl, q⟩ := q1
  cases r1
  exact wpAny_truthy_bool ⟨H1, I1, q⟩

/-! ### and, or, not -/
variable {tA tB' : TT} {rest : List Expr}
noncomputable def tAnd (t u : TT) : TT := fun σ H Q => t σ H fun c H1 => if c = true then u σ H1 Q else Q false H1
noncomputable def tOr (t u : TT) : TT := fun σ H Q => t σ H fun c H1 => if c = true then Q true H1 else u σ H1 Q
noncomputable def tNot (t : TT) : TT := fun σ H Q => t σ H fun c H1 => Q (!c) H1
theorem pw_or1 (ha : PT X a tA) : PW X (.BoolOp .Or [a] pos) tA := by
  intro wh pins s σ H Q I h
  refine isTrue_or (thn (ha pins s σ H Q I h) fun c s1 e => ?_)
  cases c with
  | false => exact isTrue_or_nil e
  | true => exact e
theorem pw_or (ha : PT X a tA) (hb : PW X (.BoolOp .Or (b :: rest) pos) tB') : PW X (.BoolOp .Or (a :: b :: rest) pos) (tOr tA tB') := by
  intro wh pins s σ H Q I h
  refine isTrue_or (thn (ha pins s σ H _ I h) fun c s1 ⟨H1, I1, q1⟩ => ?_)
  cases c with
  | true => exact ⟨H1, I1, q1⟩
  | false => exact hb wh pins s1 σ H1 Q I1 q1
theorem pt_not (ha : PT X a tA) : PT X (.UnaryOp .Not a pos) (tNot tA) := by
  intro pins s σ H Q I h
  exact isTrue_not (ha pins s σ H (fun c H1 => Q (!c) H1) I h)
noncomputable def tAndV (ta tb : TE) : TE := fun σ H Q => ta σ H fun x H1 => ∃ c, x = .bl c ∧ if c = true then tb σ H1 Q else Q (.bl false) H1
noncomputable def tOrV (ta tb : TE) : TE := fun σ H Q => ta σ H fun x H1 => ∃ c, x = .bl c ∧ if c = true then Q (.bl true) H1 else tb σ H1 Q
noncomputable def tNotV (ta : TE) : TE := fun σ H Q => ta σ H fun x H1 => ∃ c, x = .bl c ∧ Q (.bl (!c)) H1
theorem pe_not (ha : PE X a ta) : PE X (.UnaryOp .Not a pos) (tNotV ta) := by
  intro pins s σ H Q I h
  refine UnaryOp_ (thn (ha pins s σ H _ I h) fun v s1 ⟨x, H1, I1, r1, q1⟩ => ?_)
  obtain ⟨c, rfl, q1⟩ := q1
  cases r1
  exact not_of (wpAny_truthy_bool ⟨.bl (!c), H1, I1, rfl, q1⟩)
noncomputable def tIf (t : TT) (ta tb : TE) : TE := fun σ H Q => t σ H fun c H1 => if c = true then ta σ H1 Q else tb σ H1 Q
end
end L2

namespace L2
open PySem PySem.Spec PyProof.Rows

/-! ### a list, a tuple that is read: tracked, frozen, or an object of the module -/
noncomputable def SqL (K : PySem.W.Frag) (H : Hp) (a : Addr) (xs : List V) : Prop :=
  Rd H a (.lst xs) ∨
    ∃ (o : Obj) (its : Array Value) (n : Nat), K.lookup a = some o ∧ o.cls = .type "list" ∧ o.dict = none ∧ o.data = .seq its n ∧ its.size ≤ sizeLine ∧ Vals xs its.toList
noncomputable def SqT (K : PySem.W.Frag) (H : Hp) (a : Addr) (xs : List V) : Prop :=
  Rd H a (.tup xs) ∨
    ∃ (o : Obj) (its : Array Value) (n : Nat), K.lookup a = some o ∧ o.cls = .type "tuple" ∧ o.data = .seq its n ∧ its.size ≤ sizeLine ∧ Vals xs its.toList
section
variable {X : Cx} {pins : List (Addr × Obj)} {σ : St} {H : Hp} {s : Shared} {a : Addr} {xs ys : List V}
theorem SqL.of {K : PySem.W.Frag} (h : H a = some (.lst xs)) : SqL K H a xs := .inl (.inl h)
theorem Inv.list (I : Inv X pins σ H s) (h : SqL X.K H a xs) : ∃ its : List Value, Vals xs its ∧ PlainL s.heap a its.toArray ∧ xs.length ≤ sizeLine := by
  rcases h with h | ⟨o, its, n, hk, hc, hd, hs, hz, r⟩
  · obtain ⟨z, its, n, r, e⟩ := h.ok I.hok
    exact ⟨its, r, ⟨_, n, e, rfl, rfl, rfl⟩, z⟩
  · refine ⟨its.toList, r, ⟨o, n, I.kIn a o hk, hc, hd, by simpa using hs⟩, ?_⟩
    have e := r.length
    simp only [Array.length_toList] at e
    omega
theorem Inv.tuple (I : Inv X pins σ H s) (h : SqT X.K H a xs) : ∃ its : List Value, Vals xs its ∧ IsTup s.heap a its.toArray ∧ xs.length ≤ sizeLine := by
  rcases h with h | ⟨o, its, n, hk, hc, hs, hz, r⟩
  · obtain ⟨z, its, r, p⟩ := h.ok I.hok
    exact ⟨its, r, p, z⟩
  · refine ⟨its.toList, r, ⟨o, I.kIn a o hk, hc, n, by simpa using hs⟩, ?_⟩
    have e := r.length
    simp only [Array.length_toList] at e
    omega
end

/-! ### another wish about exceptions -/
noncomputable abbrev Cx.wish (X : Cx) (E : Value → Shared → Prop) : Cx := { X with xe := E }
noncomputable abbrev Cx.nox (X : Cx) : Cx := X.wish fun _ _ => False
theorem Cx.Ok.wish {X : Cx} (ok : X.Ok) (E : Value → Shared → Prop) : (X.wish E).Ok :=
  ⟨ok.mod, ok.kind, ok.glob, ok.blt, ok.above, ok.inj, ok.has, ok.cab, ok.hd, ok.frames, ok.stk, ok.exf, ok.bs, ok.bsz, ok.noex, ok.exfs, ok.funs, ok.frf⟩
theorem Cx.Ok.unwish {X : Cx} {E : Value → Shared → Prop} (ok : (X.wish E).Ok) : X.Ok :=
  ⟨ok.mod, ok.kind, ok.glob, ok.blt, ok.above, ok.inj, ok.has, ok.cab, ok.hd, ok.frames, ok.stk, ok.exf, ok.bs, ok.bsz, ok.noex, ok.exfs, ok.funs, ok.frf⟩
section
variable {X : Cx} {pins : List (Addr × Obj)} {σ : St} {H : Hp} {s : Shared} {E : Value → Shared → Prop}
theorem Inv.wish (I : Inv X pins σ H s) (E : Value → Shared → Prop) : Inv (X.wish E) pins σ H s := ⟨I.ok.wish E, I.os, I.bare, I.base, I.loc, I.cell, I.free, I.freeC, I.pin, I.hok, I.len⟩
theorem Inv.unwish (I : Inv (X.wish E) pins σ H s) : Inv X pins σ H s := ⟨I.ok.unwish, I.os, I.bare, I.base, I.loc, I.cell, I.free, I.freeC, I.pin, I.hok, I.len⟩
theorem SP.unwish {D : Ends} {f : Flow} {s' : Shared} (h : SP (X.wish E) pins D f s') : SP X pins D f s' := by
  cases f with
  | next => obtain ⟨σ', H', I, q⟩ := h; exact ⟨σ', H', I.unwish, q⟩
  | brk => obtain ⟨σ', H', I, q⟩ := h; exact ⟨σ', H', I.unwish, q⟩
  | cont => obtain ⟨σ', H', I, q⟩ := h; exact ⟨σ', H', I.unwish, q⟩
  | ret u => obtain ⟨v, σ', H', I, r, q⟩ := h; exact ⟨v, σ', H', I.unwish, r, q⟩
theorem PSs.nox {st : List Stmt} {t : TS} (h : PSs X.nox st t) : PSs X st t := fun pins s σ H D I hw =>
  wpAny_mono (h pins s σ H D (I.wish _) hw) (fun _ _ q => q.unwish) fun _ _ z => False.elim z
end

/-! ### blocks and small statements -/
section
variable {X : Cx} {st : Stmt} {rest : List Stmt} {t u : TS} {e : Expr} {te : TE} {pos : Pos}
noncomputable def tNext : TS := fun D σ H => D.nx σ H
noncomputable def tSeq (t u : TS) : TS := fun D σ H => t { D with nx := u D } σ H
theorem pss_nil : PSs X [] tNext := fun _ _ σ H _ I h => wpAny_execs_nil ⟨σ, H, I, h⟩
theorem pss_cons (h1 : PS X st t) (h2 : PSs X rest u) : PSs X (st :: rest) (tSeq t u) := by
  intro pins s σ H D I h
  refine wpAny_execs_cons (thn (h1 pins s σ H { D with nx := u D } I h) fun f s1 q => ?_)
  cases f with
  | next =>
    obtain ⟨σ', H', I', q⟩ := q
    exact h2 pins s1 σ' H' D I' q
  | ret v => exact q
  | brk => exact q
  | cont => exact q
theorem pss_one (h1 : PS X st t) : PSs X [st] t := by
  intro pins s σ H D I h
  refine wpAny_execs_cons (thn (h1 pins s σ H D I h) fun f s1 q => ?_)
  cases f with
  | next => exact wpAny_execs_nil q
  | ret v => exact q
  | brk => exact q
  | cont => exact q
theorem Inv.quiet {pins : List (Addr × Obj)} {σ : St} {H : Hp} {s : Shared} (I : Inv X pins σ H s) : interactive X.env = false := by simp [interactive, I.ok.kind]
noncomputable def tDrop (te : TE) : TS := fun D σ H => te σ H fun _ H1 => D.nx σ H1
theorem ps_expr (he : PE X e te) (hs : swapsWith e none pos.line X.env = pure false := by rfl) : PS X (.Expr e pos) (tDrop te) := by
  intro pins s σ H D I h
  exact wpAny_Expr_any (thn (he pins s σ H _ I h) fun v s1 ⟨x, H1, I1, r1, q1⟩ => ⟨σ, H1, I1, q1⟩) I.quiet hs
noncomputable def tRet (te : TE) : TS := fun D σ H => te σ H D.rt
theorem ps_ret (he : PE X e te) : PS X (.Return (some e) pos) (tRet te) := by
  intro pins s σ H D I h
  exact wpAny_Return_some (thn (he pins s σ H _ I h) fun v s1 ⟨x, H1, I1, r1, q1⟩ => ⟨x, σ, H1, I1, r1, q1⟩)
noncomputable def tRetN : TS := fun D _ H => D.rt .non H
noncomputable def tIfS (c : TT) (t u : TS) : TS := fun D σ H => c σ H fun b H1 => if b = true then t D σ H1 else u D σ H1
theorem ps_if {c : Expr} {a b : List Stmt} {tc : TT} (hc : PT X c tc) (ha : PSs X a t) (hb : PSs X b u) : PS X (.If c a b pos) (tIfS tc t u) := by
  intro pins s σ H D I h
  refine wpAny_If (thn (hc pins s σ H _ I h) fun d s1 ⟨H1, I1, q1⟩ => ?_)
  cases d with
  | true => exact ha pins s1 σ H1 D I1 q1
  | false => exact hb pins s1 σ H1 D I1 q1
end

/-! ### targets -/
noncomputable abbrev TG := V → St → Hp → (St → Hp → Prop) → Prop
noncomputable abbrev TGs := List V → St → Hp → (St → Hp → Prop) → Prop
noncomputable def PG (X : Cx) (target : Expr) (t : TG) : Prop :=
  ∀ (pins : List (Addr × Obj)) (s : Shared) (σ : St) (H : Hp) (v : V) (u : Value) (Q : St → Hp → Prop), Inv X pins σ H s → RelV v u → t v σ H Q →
    wpAny (model X.prog X.w) X.A (assign target X.env u) (fun _ s' => ∃ σ' H', Inv X pins σ' H' s' ∧ Q σ' H') X.xe s
section
variable {X : Cx} {pos : Pos}
noncomputable def gName (i : Nat) : TG := fun v σ H Q => Q (σ.set i (some v)) H
theorem pg_name {i : Nat} {x : Str} (hN : X.N.Nodup) (hi : X.N[i]? = some x) (hx : Loc X.env.scope x) (hf : X.fn x = true ∨ X.env.scope.names.lookup x = some .local := by first | exact .inl rfl | exact .inr rfl | assumption) : PG X (.Name x pos) (gName i) := by
  intro pins s σ H v u Q I r h
  exact wpAny_assign_Name (store_ok I hN hi hx r (fun s' I' => ⟨_, H, I', h⟩) hf)
noncomputable def gNil : TGs := fun vs σ H Q => vs = [] ∧ Q σ H
noncomputable def gCons (t : TG) (u : TGs) : TGs := fun vs σ H Q => ∃ v r, vs = v :: r ∧ t v σ H fun σ' H' => u r σ' H' Q
noncomputable def gTup (K : PySem.W.Frag) (n : Nat) (t : TGs) : TG := fun v σ H Q => ∃ a xs, v = .ref a ∧ SqT K H a xs ∧ xs.length = n ∧ t xs σ H Q
noncomputable def tAsg (te : TE) (g : TG) : TS := fun D σ H => te σ H fun x H1 => g x σ H1 D.nx
theorem ps_set {i : Nat} {x : Str} {e : Expr} {te : TE} {pos' : Pos} (hN : X.N.Nodup) (hi : X.N[i]? = some x) (hx : Loc X.env.scope x) (he : PE X e te) (hs : swapsWith e (some (.Name x pos')) pos.line X.env = pure false := by rfl) (hf : X.fn x = true ∨ X.env.scope.names.lookup x = some .local := by first | exact .inl rfl | exact .inr rfl | assumption) :
    PS X (.Assign [.Name x pos'] e pos) (tAsg te (gName i)) := by
  intro pins s σ H D I h
  refine wpAny_Assign_Name (thn (he pins s σ H _ I h) fun v s1 ⟨y, H1, I1, r1, q1⟩ => ?_) hs
  exact store_ok I1 hN hi hx r1 (fun s2 I2 => ⟨_, H1, I2, q1⟩) hf
end

/-! ### while -/
section
variable {X : Cx} {pos : Pos}
end

/-! ### what a loop or a comprehension walks -/
set_option genInjectivity false in
structure It where
  go : Nat → Hp → Prop
  yld : Nat → Hp → V → Hp → Prop
  stop : Nat → Hp → Prop
noncomputable def FpOk (X : Cx) (pins : List (Addr × Obj)) (H : Hp) (b : Addr) : Prop :=
  H b = none ∧ b ≠ X.env.locals ∧ b ∉ X.fs ∧ (b ∈ X.ex ∨ X.s₀.heap.objs.size ≤ b) ∧ (∀ x c, X.env.cells.lookup x = some c → c ≠ b) ∧ ∀ p ∈ X.pn ++ pins, p.1 ≠ b
theorem Inv.fpOk {X : Cx} {pins : List (Addr × Obj)} {σ : St} {H H' : Hp} {s : Shared} {b : Addr} (I : Inv X pins σ H s) (hb : s.heap.objs.size ≤ b) (hn : H' b = none) : FpOk X pins H' b := by
  refine ⟨hn, Nat.ne_of_gt (Nat.lt_of_lt_of_le I.lt hb), I.nofs hb, .inr (Nat.le_trans I.sz hb), fun x c e z => ?_, fun p hp z => ?_⟩
  · obtain ⟨v, q⟩ := I.cell x c e
    exact absurd (Nat.lt_of_lt_of_le q.lt (by rw [z]; exact hb)) (Nat.lt_irrefl _)
  · exact absurd (Nat.lt_of_lt_of_le (Heap.lt_size (I.pin p hp).1) (by rw [z]; exact hb)) (Nat.lt_irrefl _)
set_option genInjectivity false in
structure Turn (P : Program) (w : World) (K : PySem.W.Frag) (tg : Expr) (J : It) (fp : List Addr) (it : Addr) (tn : Nat → Heap → Prop) : Prop where
  mem : it ∈ fp
  obj : ∀ i h, tn i h → ∀ b ∈ fp, ∃ o, h.get? b = some o ∧ ∀ v, o.data ≠ .cell v
  keep : ∀ i h h', tn i h → (∀ b ∈ fp, ∀ o, h.get? b = some o → h'.get? b = some o) → tn i h'
  item : ∀ (X : Cx), X.prog = P → X.w = w → X.K = K → X.calm = true → ∀ (i : Nat) (pins : List (Addr × Obj)) (s : Shared) (σ : St) (H : Hp) (E : Value → Shared → Prop), Inv X pins σ H s → (∀ b ∈ fp, FpOk X pins H b) → tn i s.heap → J.go i H →
    wpAny (model P w) X.A (pyNext (.ref it)) (fun r s1 => ∃ u, r = some u ∧
      wpAny (model P w) X.A (letOwnedTupleGo tg (.ref it) u) (fun _ s2 => ∃ x H', Inv X pins σ H' s2 ∧ RelV x u ∧ J.yld i H x H' ∧ tn (i + 1) s2.heap ∧ ∀ b ∈ fp, H' b = none) E s1) E s
  done : ∀ (X : Cx), X.prog = P → X.w = w → X.K = K → X.calm = true → ∀ (i : Nat) (pins : List (Addr × Obj)) (s : Shared) (σ : St) (H : Hp) (E : Value → Shared → Prop), Inv X pins σ H s → (∀ b ∈ fp, FpOk X pins H b) → tn i s.heap → J.stop i H →
    wpAny (model P w) X.A (pyNext (.ref it)) (fun r s1 => r = none ∧ Inv X pins σ H s1) E s
  self : ∀ (A : Around) (i : Nat) (s : Shared) (Q : Value → Shared → Prop) (E : Value → Shared → Prop), tn i s.heap → Q (.ref it) s → wpAny (model P w) A (pyIter (.ref it)) Q E s
noncomputable abbrev TI := St → Hp → (It → Hp → Prop) → Prop
noncomputable def PIE (X : Cx) (pins : List (Addr × Obj)) (σ : St) (tg : Expr) (R : It → Hp → Prop) (itv : Value) (s2 : Shared) : Prop :=
  ∃ (it : Addr) (fp : List Addr) (tn : Nat → Heap → Prop) (J : It) (H' : Hp), itv = .ref it ∧ Inv X pins σ H' s2 ∧ Turn X.prog X.w X.K tg J fp it tn ∧ tn 0 s2.heap ∧ (∀ b ∈ fp, FpOk X pins H' b) ∧ R J H'
noncomputable def PI (X : Cx) (tg iter : Expr) (wi : TI) : Prop :=
  ∀ (pins : List (Addr × Obj)) (s : Shared) (σ : St) (H : Hp) (R : It → Hp → Prop), Inv X pins σ H s → wi σ H R →
    wpAny (model X.prog X.w) X.A (eval iter X.env) (fun v s1 => wpAny (model X.prog X.w) X.A (pyIter v) (PIE X pins σ tg R) X.xe s1) X.xe s

theorem go_of {M : Model} {A : Around} {E : Value → Shared → Prop} {s : Shared} {tg : Expr} {it : Addr} {u : Value} {o : Obj} {n : String} {vs : Array Value} {Q : Unit → Shared → Prop} (ho : s.heap.get? it = some o) (hc : o.cls = .type n) (hd : o.data = .fields vs)
    (hn : ["enumerate", "zip", "dict_itemiterator", "dict_reverseitemiterator", "odict_iterator", "itertools.zip_longest", "itertools.pairwise"].contains n = false) (hQ : Q () s) : wpAny M A (letOwnedTupleGo tg (.ref it) u) Q E s := by
  unfold letOwnedTupleGo
  cases tg <;> first
    | exact wpAny_pure hQ
    | (cases u <;> first
        | exact wpAny_pure hQ
        | (refine wpAny_bind (wpAny_load ho ?_)
           rw [hc, hd]
           show wpAny M A (if (["enumerate", "zip", "dict_itemiterator", "dict_reverseitemiterator", "odict_iterator", "itertools.zip_longest", "itertools.pairwise"].contains n && vs[0]? == some (rawInt _)) = true then _ else _) Q E s
           rw [if_neg (by intro h; rw [hn, Bool.false_and] at h; cases h)]
           exact wpAny_pure hQ))

noncomputable def Itl (K : PySem.W.Frag) (a : Addr) : It :=
  ⟨fun i H => ∃ xs x, SqL K H a xs ∧ xs[i]? = some x, fun i H x H' => H' = H ∧ ∀ xs, SqL K H a xs → xs[i]? = some x, fun i H => ∃ xs, SqL K H a xs ∧ xs.length ≤ i⟩
noncomputable def Itt (K : PySem.W.Frag) (a : Addr) : It :=
  ⟨fun i H => ∃ xs x, SqT K H a xs ∧ xs[i]? = some x, fun i H x H' => H' = H ∧ ∀ xs, SqT K H a xs → xs[i]? = some x, fun i H => ∃ xs, SqT K H a xs ∧ xs.length ≤ i⟩
noncomputable def Itr (lo : Int) (n : Nat) : It := ⟨fun i _ => i < n, fun i H x H' => H' = H ∧ x = .int (lo + i), fun i _ => n ≤ i⟩
theorem turn_range {P : Program} {w : World} {K : PySem.W.Frag} {tg : Expr} (it : Addr) (lo : Int) (n : Nat) : Turn P w K tg (Itr lo n) [it] it (fun i h => IsRangeIter h it (lo + (i : Nat) * 1) ((n : Int) - (i : Nat)) 1) where
  mem := by simp
  obj := fun i h st b hb => by
    have e : b = it := by simpa using hb
    subst e
    exact ⟨_, st, fun v z => by
      have z' : Data.fields _ = Data.cell v := z
      cases z'⟩
  keep := fun i h h' st k => k it (by simp) _ st
  item := by
    intro X hP hw hK hc i pins s σ H E I hf st hg
    subst hP hw hK
    obtain ⟨f0, f1, f2, f3, f4, f5⟩ := hf it (by simp)
    have W := Walks.range (prog := X.prog) (w := X.w) (I.ok.hd hc) it lo 1 n
    refine W.item i s _ _ hg st fun v h' tk hv st' kk => ?_
    obtain ⟨t, rfl⟩ := hv
    have I1 : Inv X pins σ H { s with heap := h', toks := tk } := I.turned (fun b o hb e => kk b o (by simpa using hb) e) f0 f1 f3 f4 f5
    refine ⟨_, rfl, go_of (s := { s with heap := h', toks := tk }) (n := "range_iterator") st' rfl rfl (by decide) ⟨.int (lo + i), H, I1, ⟨t, ?_⟩, ⟨rfl, rfl⟩, st', fun b hb => (hf b hb).1⟩⟩
    rw [Int.mul_one]
  done := by
    intro X hP hw hK hc i pins s σ H E I hf st hg
    subst hP hw hK
    obtain ⟨f0, f1, f2, f3, f4, f5⟩ := hf it (by simp)
    exact wpAny_pyNext_range_end (I.ok.hd hc) st (by have : n ≤ i := hg; omega) fun h' eb => ⟨rfl, I.turned (t' := s.toks) (fun b o hb e => eb b o hb e) f0 f1 f3 f4 f5⟩
  self := fun _ _ _ _ _ st h => wpAny_pyIter_rangeiter st h
end L2

namespace L2
open PySem PySem.Spec PyProof.Rows
section
variable {X : Cx} {tg : Expr}
noncomputable def iList (K : PySem.W.Frag) (tl : TE) : TI := fun σ H R => tl σ H fun x H1 => ∃ a, x = .ref a ∧ (∃ xs, SqL K H1 a xs) ∧ R (Itl K a) H1
noncomputable def iTup (K : PySem.W.Frag) (tl : TE) : TI := fun σ H R => tl σ H fun x H1 => ∃ a, x = .ref a ∧ (∃ xs, SqT K H1 a xs) ∧ R (Itt K a) H1
theorem range_it {pins : List (Addr × Obj)} {σ : St} {H : Hp} {s : Shared} {R : It → Hp → Prop} {E : Value → Shared → Prop} {lo hi : Int} {t u v : Tok} {tk : Nat} (I : Inv X pins σ H s) (h1 : -(2 ^ 62) ≤ lo) (h2 : lo < 2 ^ 62) (h3 : -(2 ^ 62) ≤ hi) (h4 : hi < 2 ^ 62)
    (q : R (Itr lo (hi - lo).toNat) H) : wpAny (model X.prog X.w) X.A (pyIter (.ref s.heap.objs.size)) (PIE X pins σ tg R) E { s with heap := s.heap.push { cls := .type "range", data := .fields #[.int lo t, .int hi u, .int 1 v] }, toks := tk } := by
  refine wpAny_pyIter_range (IsRange.new ..) (small_one h1 h2 h3 h4) ?_
  have I1 : Inv X pins σ H { s with heap := s.heap.push { cls := .type "range", data := .fields #[.int lo t, .int hi u, .int 1 v] }, toks := tk } := I.kept fun b o e => Heap.get?_push_of_some _ e
  refine ⟨(s.heap.push { cls := .type "range", data := .fields #[.int lo t, .int hi u, .int 1 v] }).objs.size, [(s.heap.push { cls := .type "range", data := .fields #[.int lo t, .int hi u, .int 1 v] }).objs.size], _, _, H, rfl,
    I1.kept (t' := tk) fun b o e => Heap.get?_push_of_some _ e, turn_range _ lo (hi - lo).toNat, ?_, fun b hb => ?_, q⟩
  · have e1 : lo + ((0 : Nat) : Int) * 1 = lo := by simp
    have e2 : (((hi - lo).toNat : Nat) : Int) - ((0 : Nat) : Int) = Builtin.Range.rangeSize lo hi 1 := by rw [rangeSize_one]; split <;> omega
    show IsRangeIter _ _ (lo + ((0 : Nat) : Int) * 1) ((((hi - lo).toNat : Nat) : Int) - ((0 : Nat) : Int)) 1
    rw [e1, e2]
    exact Heap.get?_push_size _ rfl
  · have e : b = (s.heap.push { cls := .type "range", data := .fields #[.int lo t, .int hi u, .int 1 v] }).objs.size := by simpa using hb
    subst e
    exact I1.fpOk (Nat.le_refl _) (I1.hok.fresh (Nat.le_refl _))
noncomputable def iRng1 (ta : TA) : TI := fun σ H R => ta σ H fun vs H1 => ∃ j : Int, vs = [.int j] ∧ -(2 ^ 62) ≤ j ∧ j < 2 ^ 62 ∧ R (Itr 0 j.toNat) H1
noncomputable def iRng2 (ta : TA) : TI := fun σ H R => ta σ H fun vs H1 => ∃ i j : Int, vs = [.int i, .int j] ∧ (-(2 ^ 62) ≤ i ∧ i < 2 ^ 62 ∧ -(2 ^ 62) ≤ j ∧ j < 2 ^ 62) ∧ R (Itr i (j - i).toNat) H1
theorem pi_range1 {a : Expr} {ta : TA} {p pos : Pos} (hg : Gl X "range") (hm : X.mg "range" = none) (ha : PA X [a] ta) (hs : starEach [a] X.env = [(false, eval a X.env)] := by rfl) : PI X tg (.Call (.Name "range" p) [a] [] pos) (iRng1 ta) := by
  intro pins s σ H R I h
  refine Call_ (ld_blt I hg hm boot_range (PyProof.Rows.callWith_type1 (thn (ha pos pins s σ H _ I h) fun us s1 ⟨vs, H1, I1, r1, q1⟩ => ?_) hs rfl))
  obtain ⟨j, e, q1, q2, q⟩ := q1
  subst e
  cases r1 with
  | cons r rr =>
    cases rr
    obtain ⟨t, rfl⟩ := r
    exact call_range_1 (range_it I1 (by omega) (by omega) q1 q2 (by simpa using q))

/-! ### for -/
noncomputable def tFor (wi : TI) (g : TG) (tb : TS) : TS := fun D σ H => wi σ H fun J H1 => ∃ W : Nat → Nat → St → Hp → Prop, (∃ m, W 0 m σ H1) ∧ ∀ i m σ H, W i m σ H →
  (J.stop i H ∧ D.nx σ H) ∨ (J.go i H ∧ ∃ N : St → Hp → Prop, (∀ σ' H', N σ' H' → ∃ m', m' < m ∧ W (i + 1) m' σ' H') ∧ ∀ x H', J.yld i H x H' → g x σ H' fun σ2 H2 => tb { D with nx := N, ct := N, bk := D.nx } σ2 H2)
noncomputable def pinsAt (fp : List Addr) (h : Heap) : List (Addr × Obj) := fp.filterMap fun b => (h.get? b).map fun o => (b, o)
theorem mem_pinsAt {fp : List Addr} {h : Heap} {b : Addr} {o : Obj} (hb : b ∈ fp) (e : h.get? b = some o) : (b, o) ∈ pinsAt fp h := List.mem_filterMap.mpr ⟨b, hb, by rw [e]; rfl⟩
theorem of_pinsAt {fp : List Addr} {h : Heap} {p : Addr × Obj} (hp : p ∈ pinsAt fp h) : p.1 ∈ fp ∧ h.get? p.1 = some p.2 := by
  obtain ⟨b, hb, e⟩ := List.mem_filterMap.mp hp
  cases q : h.get? b with
  | none => rw [q] at e; cases e
  | some o =>
    rw [q] at e
    have e' : (b, o) = p := Option.some.inj e
    subst e'
    exact ⟨hb, q⟩
theorem Inv.pinned {pins : List (Addr × Obj)} {σ : St} {H : Hp} {s : Shared} {fp : List Addr} (I : Inv X pins σ H s) (hf : ∀ b ∈ fp, FpOk X pins H b) (ho : ∀ b ∈ fp, ∃ o, s.heap.get? b = some o ∧ ∀ v, o.data ≠ .cell v) : Inv X (pins ++ pinsAt fp s.heap) σ H s :=
  I.pins_of fun p hp => (List.mem_append.mp hp).elim (fun z => I.pin p (List.mem_append_right _ z)) fun z => by
    obtain ⟨hb, e⟩ := of_pinsAt z
    obtain ⟨f0, f1, f2, _⟩ := hf p.1 hb
    obtain ⟨o, e', d⟩ := ho p.1 hb
    rw [e] at e'; cases e'
    exact ⟨e, f0, f1, f2, d⟩
theorem Inv.unpinned {pins pl : List (Addr × Obj)} {σ : St} {H : Hp} {s : Shared} (I : Inv X (pins ++ pl) σ H s) : Inv X pins σ H s := I.pins_of fun p hp => I.pin p (List.mem_append_right _ (List.mem_append_left _ hp))
theorem ps_for {iter : Expr} {body : List Stmt} {wi : TI} {g : TG} {tb : TS} {pos : Pos} (hp : PassesOwn (model X.prog X.w) X.A X.env X.xe) (hc : X.calm = true) (hi : PI X tg iter wi) (hg : PG X tg g) (hb : PSs X body tb)
    (hs : ∀ x, foldedSetIterable iter X.env x = pure x := by intro _; rfl) : PS X (.For tg iter body [] pos) (tFor wi g tb) := by
  intro pins s σ H D I h
  refine wpAny_For (thn (hi pins s σ H _ I h) fun v s1 h1 => thn h1 fun itv s2 h2 => ?_) hs
  obtain ⟨it, fp, tn, J, H2, e, I2, T, st2, f2, W, ⟨m0, w0⟩, turn⟩ := h2
  subst e
  -- what stays true of the iterator's objects through the loop
  have stat : ∀ {H' : Hp}, (∀ b ∈ fp, H' b = none) → ∀ b ∈ fp, FpOk X pins H' b := fun hn b hb => ⟨hn b hb, (f2 b hb).2⟩
  refine codeAny_forLoop_any (fun n s' => ∃ i σ' H', Inv X pins σ' H' s' ∧ tn i s'.heap ∧ (∀ b ∈ fp, H' b = none) ∧ W i n σ' H') ?_ m0 ⟨0, σ, H2, I2, st2, fun b hb => (f2 b hb).1, w0⟩
  rintro n s3 ⟨i, σ3, H3, I3, st3, fr3, w3⟩
  rcases turn i n σ3 H3 w3 with ⟨stop, qn⟩ | ⟨go, N, hN, step⟩
  · refine wpAny_passesOwn hp (thn (T.done X rfl rfl rfl hc i pins s3 σ3 H3 X.xe I3 (stat fr3) st3 stop) fun r s4 ⟨hr, I4⟩ => ?_)
    subst hr
    exact wpAny_execs_nil ⟨σ3, H3, I4, qn⟩
  · refine wpAny_passesOwn hp (thn (T.item X rfl rfl rfl hc i pins s3 σ3 H3 X.xe I3 (stat fr3) st3 go) fun r s4 ⟨u, hr, h4⟩ => ?_)
    subst hr
    refine wpAny_passesOwn hp (thn h4 fun _ s5 ⟨x, H5, I5, r5, y5, st5, fr5⟩ => ?_)
    have I5' := I5.pinned (stat fr5) (T.obj _ _ st5)
    refine wpAny_passesOwn hp (thn (hg _ s5 σ3 H5 x u _ I5' r5 (step x H5 y5)) fun _ s6 ⟨σ6, H6, I6, q6⟩ => ?_)
    refine wpAny_passesOwn hp (thn (hb _ s6 σ6 H6 _ I6 q6) fun f s7 q7 => ?_)
    have again : ∀ {σ7 : St} {H7 : Hp}, Inv X (pins ++ pinsAt fp s5.heap) σ7 H7 s7 → N σ7 H7 → ∃ m, m < n ∧ ∃ i σ' H', Inv X pins σ' H' s7 ∧ tn i s7.heap ∧ (∀ b ∈ fp, H' b = none) ∧ W i m σ' H' := fun {σ7 H7} I7 n7 => by
      obtain ⟨m', hm, w7⟩ := hN σ7 H7 n7
      refine ⟨m', hm, i + 1, σ7, H7, I7.unpinned, T.keep _ _ _ st5 fun b hb o e => (I7.pin (b, o) (List.mem_append_right _ (List.mem_append_right _ (mem_pinsAt hb e)))).1, fun b hb => ?_, w7⟩
      obtain ⟨o, e, d⟩ := T.obj _ _ st5 b hb
      exact (I7.pin (b, o) (List.mem_append_right _ (List.mem_append_right _ (mem_pinsAt hb e)))).2.1
    cases f with
    | next => obtain ⟨σ7, H7, I7, n7⟩ := q7; exact again I7 n7
    | cont => obtain ⟨σ7, H7, I7, n7⟩ := q7; exact again I7 n7
    | brk => obtain ⟨σ7, H7, I7, q7⟩ := q7; exact ⟨σ7, H7, I7.unpinned, q7⟩
    | ret v => obtain ⟨x7, σ7, H7, I7, r7, q7⟩ := q7; exact ⟨x7, σ7, H7, I7.unpinned, r7, q7⟩
end

/-! ### the forms one uses -/
theorem for_range {lo : Int} {n : Nat} {g : TG} {tb : TS} {D : Ends} {σ : St} {H : Hp} (Pv : Nat → St → Hp → Prop) (h0 : Pv 0 σ H)
    (hs : ∀ i σ H, i < n → Pv i σ H → g (.int (lo + i)) σ H fun σ2 H2 => tb { D with nx := Pv (i + 1), ct := Pv (i + 1), bk := D.nx } σ2 H2) (hd : ∀ σ H, Pv n σ H → D.nx σ H) :
    ∃ W : Nat → Nat → St → Hp → Prop, (∃ m, W 0 m σ H) ∧ ∀ i m σ H, W i m σ H →
      ((Itr lo n).stop i H ∧ D.nx σ H) ∨ ((Itr lo n).go i H ∧ ∃ N : St → Hp → Prop, (∀ σ' H', N σ' H' → ∃ m', m' < m ∧ W (i + 1) m' σ' H') ∧ ∀ x H', (Itr lo n).yld i H x H' → g x σ H' fun σ2 H2 => tb { D with nx := N, ct := N, bk := D.nx } σ2 H2) := by
  refine ⟨fun i m σ H => m = n - i ∧ i ≤ n ∧ Pv i σ H, ⟨n, by simp, Nat.zero_le _, h0⟩, ?_⟩
  rintro i m σ H ⟨rfl, hi, p⟩
  by_cases hlt : i < n
  · refine .inr ⟨hlt, Pv (i + 1), fun σ' H' p' => ⟨n - (i + 1), by omega, rfl, hlt, p'⟩, fun x H' y => ?_⟩
    obtain ⟨e, y⟩ := y
    subst e y
    exact hs i σ _ hlt p
  · have e : i = n := by omega
    subst e
    exact .inl ⟨Nat.le_refl _, hd σ H p⟩
end L2

namespace L2
open PySem PySem.Spec PyProof.Rows

noncomputable abbrev R2 := V → V → Hp → VK → Prop
noncomputable def OpR (X : Cx) (f : Value → Value → Sem Value) (r : R2) : Prop :=
  ∀ (pins : List (Addr × Obj)) (s : Shared) (σ : St) (H : Hp) (x y : V) (v u : Value) (Q : VK), Inv X pins σ H s → RelV x v → RelV y u → r x y H Q →
    wpAny (model X.prog X.w) X.A (f v u) (EP X pins σ Q) X.xe s
noncomputable def CallR (X : Cx) (f : Value) (r : List V → Hp → VK → Prop) : Prop :=
  ∀ (pins : List (Addr × Obj)) (s : Shared) (σ : St) (H : Hp) (xs : List V) (us : List Value) (Q : VK), Inv X pins σ H s → Vals xs us → r xs H Q →
    wpAny (model X.prog X.w) X.A (call f us) (EP X pins σ Q) X.xe s
noncomputable def TruR (X : Cx) (r : V → Hp → (Bool → Hp → Prop) → Prop) : Prop :=
  ∀ (pins : List (Addr × Obj)) (s : Shared) (σ : St) (H : Hp) (x : V) (v : Value) (Q : Bool → Hp → Prop), Inv X pins σ H s → RelV x v → r x H Q →
    wpAny (model X.prog X.w) X.A (truthy v) (TP X pins σ Q) X.xe s

noncomputable def tOp (r : R2) (ta tb : TE) : TE := fun σ H Q => ta σ H fun x H1 => tb σ H1 fun y H2 => r x y H2 Q
noncomputable def tUn (r : V → Hp → VK → Prop) (ta : TE) : TE := fun σ H Q => ta σ H fun x H1 => r x H1 Q
noncomputable def rI (C : Int → Int → Prop) (g : Int → Int → V) : R2 := fun x y H Q => ∃ i j, x = .int i ∧ y = .int j ∧ C i j ∧ Q (g i j) H
noncomputable def rI0 (g : Int → Int → V) : R2 := fun x y H Q => ∃ i j, x = .int i ∧ y = .int j ∧ Q (g i j) H
noncomputable def rU (g : Int → V) : V → Hp → VK → Prop := fun x H Q => ∃ i, x = .int i ∧ Q (g i) H

section
variable {X : Cx} {a b c : Expr} {ta tb tc : TE} {pos : Pos}

theorem binT (ha : PE X a ta) (hb : PE X b tb) {pins : List (Addr × Obj)} {s : Shared} {σ : St} {H : Hp} {R : V → V → Hp → Prop} (I : Inv X pins σ H s)
    (h : ta σ H fun x H1 => tb σ H1 fun y H2 => R x y H2) {Q : Value → Shared → Prop} {f : Value → Value → Sem Value}
    (hf : ∀ v u s2 x y H2, Inv X pins σ H2 s2 → RelV x v → RelV y u → R x y H2 → wpAny (model X.prog X.w) X.A (f v u) Q X.xe s2) :
    wpAny (model X.prog X.w) X.A (eval a X.env) (fun v s₁ => wpAny (model X.prog X.w) X.A (eval b X.env) (fun u s₂ => wpAny (model X.prog X.w) X.A (f v u) Q X.xe s₂) X.xe s₁) X.xe s := by
  refine thn (ha pins s σ H _ I h) fun v s1 ⟨x, H1, I1, r1, q1⟩ => ?_
  refine thn (hb pins s1 σ H1 _ I1 q1) fun u s2 ⟨y, H2, I2, r2, q2⟩ => ?_
  exact hf v u s2 x y H2 I2 r1 r2 q2

theorem pe_op {op : Operator} {r : R2} (ho : OpR X (binaryOp op) r) (ha : PE X a ta) (hb : PE X b tb) : PE X (.BinOp a op b pos) (tOp r ta tb) := by
  intro pins s σ H Q I h
  exact wpAny_BinOp (binT ha hb I h fun v u s2 x y H2 I2 rx ry q => ho pins s2 σ H2 x y v u Q I2 rx ry q)

/-! ### ints -/
theorem opI {f : Value → Value → Sem Value} {C : Int → Int → Prop} {g : Int → Int → Int}
    (rule : ∀ (i j : Int) (t u : Tok) (s : Shared) (Q : Value → Shared → Prop) (E : Value → Shared → Prop), C i j → Q (.int (g i j) s.toks) { s with toks := s.toks + 1 } → wpAny (model X.prog X.w) X.A (f (.int i t) (.int j u)) Q E s) :
    OpR X f (rI C fun i j => .int (g i j)) := by
  intro pins s σ H x y v u Q I rx ry h
  obtain ⟨i, j, rfl, rfl, hc, q⟩ := h
  obtain ⟨t, rfl⟩ := rx
  obtain ⟨t', rfl⟩ := ry
  exact rule i j t t' s _ _ hc ⟨.int (g i j), H, I.tok _, ⟨_, rfl⟩, q⟩
theorem opI0 {f : Value → Value → Sem Value} {g : Int → Int → Int}
    (rule : ∀ (i j : Int) (t u : Tok) (s : Shared) (Q : Value → Shared → Prop) (E : Value → Shared → Prop), Q (.int (g i j) s.toks) { s with toks := s.toks + 1 } → wpAny (model X.prog X.w) X.A (f (.int i t) (.int j u)) Q E s) :
    OpR X f (rI0 fun i j => .int (g i j)) := by
  intro pins s σ H x y v u Q I rx ry h
  obtain ⟨i, j, rfl, rfl, q⟩ := h
  obtain ⟨t, rfl⟩ := rx
  obtain ⟨t', rfl⟩ := ry
  exact rule i j t t' s _ _ ⟨.int (g i j), H, I.tok _, ⟨_, rfl⟩, q⟩

noncomputable def CDiv (i j : Int) : Prop := 0 < j ∧ j < 1073741824
noncomputable def CMul (i j : Int) : Prop := (-(2 ^ 64) < i ∧ i < 2 ^ 64) ∨ (-(2 ^ 64) < j ∧ j < 2 ^ 64)
theorem CMul.ok {i j : Int} (h : CMul i j) : IntMulOk i j := by
  rcases h with ⟨h1, h2⟩ | ⟨h1, h2⟩
  · exact .of_left (intBits_le_64 h1 h2)
  · exact .of_right (intBits_le_64 h1 h2)

theorem op_add : OpR X (binaryOp .Add) (rI0 fun i j => .int (i + j)) := opI0 fun _ _ _ _ _ _ _ q => add_int q
theorem op_sub : OpR X (binaryOp .Sub) (rI0 fun i j => .int (i - j)) := opI0 fun _ _ _ _ _ _ _ q => sub_int q
theorem op_mul : OpR X (binaryOp .Mult) (rI CMul fun i j => .int (i * j)) := opI fun _ _ _ _ _ _ _ hc q => mul_int q hc.ok
theorem op_fdiv : OpR X (binaryOp .FloorDiv) (rI CDiv fun i j => .int (i / j)) := opI fun i j _ _ _ _ _ hc q => by
  have h1 : (0 : Int) < j := hc.1
  have h2 : j < 1073741824 := hc.2
  exact floordiv_int (by omega) (by rw [Int.fdiv_eq_ediv_of_nonneg i (by omega)]; exact q) (.inl (PyProof.noPylong_small (by omega)))
theorem op_mod : OpR X (binaryOp .Mod) (rI (fun _ j => 0 < j) fun i j => .int (i % j)) := opI fun i j _ _ _ _ _ hc q => by
  have h1 : (0 : Int) < j := hc
  exact mod_int' (by omega) (by rw [Int.fmod_eq_emod_of_nonneg i (by omega)]; exact q)



/-! ### bools among ints: n += (a < b) -/
end

/-! ### comparisons -/
noncomputable def scal : V → V → Bool
  | .non, .non => true | .non, .int _ => true | .int _, .non => true | .non, .bl _ => true | .bl _, .non => true | .non, .str _ => true | .str _, .non => true
  | .int _, .int _ => true | .bl _, .bl _ => true | .str _, .str _ => true | .byt _, .byt _ => true
  | .int _, .str _ => true | .str _, .int _ => true | .bl _, .str _ => true | .str _, .bl _ => true
  | _, _ => false
theorem sc0 : scal .non .non = true := rfl
theorem sc1 {i : Int} : scal .non (.int i) = true := rfl
theorem sc2 {i : Int} : scal (.int i) .non = true := rfl
theorem sc3 {i : Bool} : scal .non (.bl i) = true := rfl
theorem sc4 {i : Bool} : scal (.bl i) .non = true := rfl
theorem sc5 {i : Str} : scal .non (.str i) = true := rfl
theorem sc6 {i : Str} : scal (.str i) .non = true := rfl
theorem sc7 {i : Int} {j : Int} : scal (.int i) (.int j) = true := rfl
theorem sc8 {i : Bool} {j : Bool} : scal (.bl i) (.bl j) = true := rfl
theorem sc9 {i : Str} {j : Str} : scal (.str i) (.str j) = true := rfl
theorem sc10 {i : Int} {j : Str} : scal (.int i) (.str j) = true := rfl
theorem sc11 {i : Str} {j : Int} : scal (.str i) (.int j) = true := rfl
theorem sc12 {i : Bool} {j : Str} : scal (.bl i) (.str j) = true := rfl
theorem sc13 {i : Str} {j : Bool} : scal (.str i) (.bl j) = true := rfl
noncomputable def rEq : R2 := fun x y H Q => scal x y = true ∧ Q (.bl (decide (x = y))) H
noncomputable def rNe : R2 := fun x y H Q => scal x y = true ∧ Q (.bl (!decide (x = y))) H

theorem dec_int {i j : Int} : decide (V.int i = V.int j) = (i == j) := by
  rw [Bool.eq_iff_iff]
  simp
theorem dec_bl {i j : Bool} : decide (V.bl i = V.bl j) = (i == j) := by
  rw [Bool.eq_iff_iff]
  simp
theorem dec_str {i j : Str} : decide (V.str i = V.str j) = (i == j) := by
  rw [Bool.eq_iff_iff]
  simp
theorem dec_byt {i j : Array UInt8} : decide (V.byt i = V.byt j) = (i.toList == j.toList) := by
  rw [Bool.eq_iff_iff]
  cases i
  cases j
  simp

section
variable {X : Cx} {a b c : Expr} {ta tb tc : TE} {pos : Pos}
theorem fin_bl {pins : List (Addr × Obj)} {σ : St} {H : Hp} {s : Shared} {Q : VK} {k k' : Bool} (I : Inv X pins σ H s) (q : Q (.bl k) H) (e : k = k') : EP X pins σ Q (.bool k') s := by
  subst e
  exact ⟨.bl k, H, I, rfl, q⟩
theorem op_eq : OpR X (compareOp .Eq) rEq := by
  intro pins s σ H x y v u Q I rx ry h
  obtain ⟨hs, q⟩ := h
  cases x with
  | non =>
    cases rx
    cases y with
    | non => cases ry; exact PySem.EqNone.eq_none_none (fin_bl I q (by simp))
    | bl j => cases ry; exact PySem.EqNone.eq_none_bool (fin_bl I q (by simp))
    | int j => obtain ⟨t', rfl⟩ := ry; exact PySem.EqNone.eq_none_int (fin_bl I q (by simp))
    | str j => obtain ⟨t', rfl⟩ := ry; exact PySem.EqNone.eq_none_str (fin_bl I q (by simp))
    | _ => exact absurd (show false = true from hs) Bool.false_ne_true
  | bl i =>
    cases rx
    cases y with
    | non => cases ry; exact PySem.EqNone.eq_bool_none (fin_bl I q (by simp))
    | bl j => cases ry; exact eq_bool (fin_bl I q dec_bl)
    | str j => obtain ⟨t', rfl⟩ := ry; exact PySem.EqMixed.eq_bool_str (fin_bl I q (by simp))
    | _ => exact absurd (show false = true from hs) Bool.false_ne_true
  | int i =>
    obtain ⟨t, rfl⟩ := rx
    cases y with
    | non => cases ry; exact PySem.EqNone.eq_int_none (fin_bl I q (by simp))
    | int j => obtain ⟨t', rfl⟩ := ry; exact eq_int (fin_bl I q dec_int)
    | str j => obtain ⟨t', rfl⟩ := ry; exact PySem.EqMixed.eq_int_str (fin_bl I q (by simp))
    | _ => exact absurd (show false = true from hs) Bool.false_ne_true
  | str i =>
    obtain ⟨t, rfl⟩ := rx
    cases y with
    | non => cases ry; exact PySem.EqNone.eq_str_none (fin_bl I q (by simp))
    | bl j => cases ry; exact PySem.EqMixed.eq_str_bool (fin_bl I q (by simp))
    | int j => obtain ⟨t', rfl⟩ := ry; exact PySem.EqMixed.eq_str_int (fin_bl I q (by simp))
    | str j => obtain ⟨t', rfl⟩ := ry; exact eq_str (fin_bl I q dec_str)
    | _ => exact absurd (show false = true from hs) Bool.false_ne_true
  | byt i =>
    obtain ⟨t, rfl⟩ := rx
    cases y with
    | byt j => obtain ⟨t', rfl⟩ := ry; exact PySem.W.eq_bytes (fin_bl I q dec_byt)
    | _ => exact absurd (show false = true from hs) Bool.false_ne_true
  | _ => cases y <;> exact absurd (show false = true from hs) Bool.false_ne_true
theorem op_ne : OpR X (compareOp .NotEq) rNe := by
  intro pins s σ H x y v u Q I rx ry h
  obtain ⟨hs, q⟩ := h
  cases x with
  | non =>
    cases rx
    cases y with
    | non => cases ry; exact PySem.EqNone.ne_none_none (fin_bl I q (by simp))
    | bl j => cases ry; exact PySem.EqNone.ne_none_bool (fin_bl I q (by simp))
    | int j => obtain ⟨t', rfl⟩ := ry; exact PySem.EqNone.ne_none_int (fin_bl I q (by simp))
    | str j => obtain ⟨t', rfl⟩ := ry; exact PySem.EqNone.ne_none_str (fin_bl I q (by simp))
    | _ => exact absurd (show false = true from hs) Bool.false_ne_true
  | bl i =>
    cases rx
    cases y with
    | non => cases ry; exact PySem.EqNone.ne_bool_none (fin_bl I q (by simp))
    | bl j => cases ry; exact ne_bool (fin_bl I q (congrArg not dec_bl))
    | str j => obtain ⟨t', rfl⟩ := ry; exact PySem.EqMixed.ne_bool_str (fin_bl I q (by simp))
    | _ => exact absurd (show false = true from hs) Bool.false_ne_true
  | int i =>
    obtain ⟨t, rfl⟩ := rx
    cases y with
    | non => cases ry; exact PySem.EqNone.ne_int_none (fin_bl I q (by simp))
    | int j => obtain ⟨t', rfl⟩ := ry; exact ne_int (fin_bl I q (congrArg not dec_int))
    | str j => obtain ⟨t', rfl⟩ := ry; exact PySem.EqMixed.ne_int_str (fin_bl I q (by simp))
    | _ => exact absurd (show false = true from hs) Bool.false_ne_true
  | str i =>
    obtain ⟨t, rfl⟩ := rx
    cases y with
    | non => cases ry; exact PySem.EqNone.ne_str_none (fin_bl I q (by simp))
    | bl j => cases ry; exact PySem.EqMixed.ne_str_bool (fin_bl I q (by simp))
    | int j => obtain ⟨t', rfl⟩ := ry; exact PySem.EqMixed.ne_str_int (fin_bl I q (by simp))
    | str j => obtain ⟨t', rfl⟩ := ry; exact ne_str (fin_bl I q (congrArg not dec_str))
    | _ => exact absurd (show false = true from hs) Bool.false_ne_true
  | byt i =>
    obtain ⟨t, rfl⟩ := rx
    cases y with
    | byt j => obtain ⟨t', rfl⟩ := ry; exact PySem.W.ne_bytes (fin_bl I q (congrArg not dec_byt))
    | _ => exact absurd (show false = true from hs) Bool.false_ne_true
  | _ => cases y <;> exact absurd (show false = true from hs) Bool.false_ne_true





theorem nomark (b : Expr) {op : CmpOp} (h : op ≠ .In := by decide) (h2 : op ≠ .NotIn := by decide) : behindInMarks op b = false := by
  have e1 : (op == CmpOp.In) = false := by cases op <;> first | rfl | exact absurd rfl h
  have e2 : (op == CmpOp.NotIn) = false := by cases op <;> first | rfl | exact absurd rfl h2
  cases b <;> simp [behindInMarks, e1, e2]
theorem pe_cmpR {op : CmpOp} {r : R2} (ho : OpR X (compareOp op) r) (ha : PE X a ta) (hb : PE X b tb) (hm : behindInMarks op b = false) : PE X (.Compare a [op] [b] pos) (tOp r ta tb) := by
  intro pins s σ H Q I h
  exact wpAny_Compare1 (binT ha hb I h fun v u s2 x y H2 I2 rx ry q => ho pins s2 σ H2 x y v u Q I2 rx ry q) hm
noncomputable def tTest (t : TE) : TT := fun σ H Q => t σ H fun x H' => ∃ k, x = .bl k ∧ Q k H'
theorem pt_cmpR {op : CmpOp} {r : R2} (ho : OpR X (compareOp op) r) (ha : PE X a ta) (hb : PE X b tb) (hm : behindInMarks op b = false) : PT X (.Compare a [op] [b] pos) (tTest (tOp r ta tb)) := by
  intro pins s σ H Q I h
  refine wpAny_isTrue_Compare1 (thn (ha pins s σ H _ I h) fun v s1 ⟨x, H1, I1, r1, q1⟩ => thn (hb pins s1 σ H1 _ I1 q1) fun u s2 ⟨y, H2, I2, r2, q2⟩ =>
    thn (ho pins s2 σ H2 x y v u _ I2 r1 r2 q2) fun c s3 ⟨z, H3, I3, r3, k, e, q3⟩ => ?_) hm
  subst e
  cases r3
  exact wpAny_truthy_bool ⟨H3, I3, q3⟩
noncomputable def tChain (r r' : R2) (ta tb tc : TE) : TE := fun σ H Q => ta σ H fun x H1 => tb σ H1 fun y H2 => r x y H2 fun z H3 => ∃ k, z = .bl k ∧
  (if k = true then tc σ H3 fun w' H4 => r' y w' H4 Q else Q (.bl false) H3)

/-! ### truth -/
noncomputable def TruV (K : PySem.W.Frag) (x : V) (H : Hp) (k : Bool) : Prop :=
  match x with
  | .non => k = false
  | .bl b => k = b
  | .int i => k = (i != 0)
  | .str y => y.length ≤ sizeLine ∧ k = ((y.length : Int) != 0)
  | .byt y => y.size ≤ sizeLine ∧ k = ((y.size : Int) != 0)
  | .ref p => (∃ xs, SqL K H p xs ∧ k = !xs.isEmpty) ∨ (∃ xs, SqT K H p xs ∧ k = !xs.isEmpty) ∨ ∃ kvs, H p = some (.dK kvs) ∧ k = !kvs.isEmpty
  | _ => False
theorem isEmpty_kv {κ : Type} {kvs : List (κ × V)} {vs : List (κ × Value)} (r : KV kvs vs) : (!vs.isEmpty) = !kvs.isEmpty := by
  cases r <;> rfl
theorem isEmpty_of {xs : List V} {its : List Value} (r : Vals xs its) : (!its.toArray.isEmpty) = !xs.isEmpty := by
  cases r <;> simp
theorem line63 : (sizeLine : Nat) < 2 ^ 63 := by rw [sizeLine_eq]; decide
theorem tru_ok : TruR X (fun x H Q => ∃ k, TruV X.K x H k ∧ Q k H) := by
  intro pins s σ H x v Q I rx h
  obtain ⟨k, e, q⟩ := h
  have hl := line63
  have hs : sizeLine = 16777216 := sizeLine_eq
  cases x with
  | non =>
    cases rx
    have e' : k = false := e
    subst e'
    exact truthy_none ⟨H, I, q⟩
  | bl b =>
    cases rx
    have e' : k = b := e
    subst e'
    exact wpAny_truthy_bool ⟨H, I, q⟩
  | int i =>
    obtain ⟨t, rfl⟩ := rx
    have e' : k = (i != 0) := e
    subst e'
    exact PySem.P.truthy_int ⟨H, I, q⟩
  | str y =>
    obtain ⟨t, rfl⟩ := rx
    obtain ⟨hy, e'⟩ : y.length ≤ sizeLine ∧ k = ((y.length : Int) != 0) := e
    subst e'
    exact PySem.P.truthy_str (by omega) ⟨H, I.tok _, q⟩
  | byt y =>
    obtain ⟨t, rfl⟩ := rx
    obtain ⟨hy, e'⟩ : y.size ≤ sizeLine ∧ k = ((y.size : Int) != 0) := e
    subst e'
    exact PySem.W.truthy_bytes (by omega) ⟨H, I.tok _, q⟩
  | ref p =>
    cases rx
    have e' : (∃ xs, SqL X.K H p xs ∧ k = !xs.isEmpty) ∨ (∃ xs, SqT X.K H p xs ∧ k = !xs.isEmpty) ∨ ∃ kvs, H p = some (.dK kvs) ∧ k = !kvs.isEmpty := e
    rcases e' with ⟨xs, hx, e'⟩ | ⟨xs, hx, e'⟩ | ⟨kvs, hx, e'⟩
    · subst e'
      obtain ⟨its, r, pl, hz⟩ := I.list hx
      have hlen := r.length
      exact wpAny_truthy_list pl.isList (by simp only [List.size_toArray]; omega) ⟨H, I.tok _, by rw [isEmpty_of r]; exact q⟩
    · subst e'
      obtain ⟨its, r, pl, hz⟩ := I.tuple hx
      have hlen := r.length
      exact truthy_tuple pl (by simp only [List.size_toArray]; omega) ⟨H, I.tok _, by rw [isEmpty_of r]; exact q⟩
    · subst e'
      obtain ⟨hz, hS, vs, r, m⟩ : kvs.length ≤ sizeLine ∧ (p == sysModules) = false ∧ ∃ vs, KV kvs vs ∧ s.heap.DictOf (mixKind X.prog X.w) p vs := I.hok p _ hx
      have hlen : kvs.length = vs.length := Paired.length r
      exact wpAny_truthy_dict hS m (by omega) ⟨H, I.tok _, by rw [isEmpty_kv r]; exact q⟩
  | _ => exact (show False from e).elim

/-! ### strs and bytes -/
theorem op_add_str : OpR X (binaryOp .Add) (fun x y H Q => ∃ i j, x = .str i ∧ y = .str j ∧ i.length + j.length ≤ sizeLine ∧ Q (.str (i ++ j)) H) := by
  intro pins s σ H x y v u Q I rx ry h
  obtain ⟨i, j, rfl, rfl, hz, q⟩ := h
  obtain ⟨t, rfl⟩ := rx
  obtain ⟨t', rfl⟩ := ry
  exact add_str (fun t' tk => ⟨.str (i ++ j), H, I.tok _, ⟨_, rfl⟩, q⟩) hz


/-! ### scalar builtins, by CallR -/
theorem vals1 {x : V} {us : List Value} (r : Vals [x] us) : ∃ u, us = [u] ∧ RelV x u := by
  cases r with
  | cons r1 r2 => cases r2; exact ⟨_, rfl, r1⟩
theorem vals2 {x y : V} {us : List Value} (r : Vals [x, y] us) : ∃ u w', us = [u, w'] ∧ RelV x u ∧ RelV y w' := by
  cases r with
  | cons r1 r2 =>
    cases r2 with
    | cons r3 r4 => cases r4; exact ⟨_, _, rfl, r1, r3⟩
noncomputable def LenV (K : PySem.W.Frag) (x : V) (H : Hp) (n : Nat) : Prop :=
  match x with
  | .str y => y.length ≤ sizeLine ∧ n = y.length
  | .byt y => y.size ≤ sizeLine ∧ n = y.size
  | .ref p => (∃ xs, SqL K H p xs ∧ n = xs.length) ∨ ∃ xs, SqT K H p xs ∧ n = xs.length
  | _ => False
theorem call_len : CallR X (.builtin "len") (fun xs H Q => ∃ x n, xs = [x] ∧ LenV X.K x H n ∧ Q (.int n) H) := by
  intro pins s σ H xs us Q I r h
  obtain ⟨x, n, rfl, e, q⟩ := h
  obtain ⟨u, rfl, rx⟩ := vals1 r
  have hl := line63
  have hs : sizeLine = 16777216 := sizeLine_eq
  cases x with
  | str y =>
    obtain ⟨t, rfl⟩ := rx
    obtain ⟨hy, e'⟩ : y.length ≤ sizeLine ∧ n = y.length := e
    subst e'
    exact len_str (by omega) ⟨.int _, H, I.tok _, ⟨_, rfl⟩, q⟩
  | byt y =>
    obtain ⟨t, rfl⟩ := rx
    obtain ⟨hy, e'⟩ : y.size ≤ sizeLine ∧ n = y.size := e
    subst e'
    exact PySem.W.len_bytes (by omega) ⟨.int _, H, I.tok _, ⟨_, rfl⟩, q⟩
  | ref p =>
    cases rx
    have e' : (∃ xs, SqL X.K H p xs ∧ n = xs.length) ∨ ∃ xs, SqT X.K H p xs ∧ n = xs.length := e
    rcases e' with ⟨xs, hx, e'⟩ | ⟨xs, hx, e'⟩
    · subst e'
      obtain ⟨its, r', pl, hz⟩ := I.list hx
      have hlen := r'.length
      exact Calls.call_len_list pl.isList (by simp only [List.size_toArray]; omega) ⟨.int xs.length, H, I.tok _, ⟨_, by simp only [List.size_toArray]; rw [hlen]⟩, q⟩
    · subst e'
      obtain ⟨its, r', pl, hz⟩ := I.tuple hx
      have hlen := r'.length
      exact len_tuple pl (by simp only [List.size_toArray]; omega) ⟨.int xs.length, H, I.tok _, ⟨_, by simp only [List.size_toArray]; rw [hlen]⟩, q⟩
  | _ => exact (show False from e).elim
end
end L2

namespace L2
open PySem PySem.Spec PyProof.Rows

/-! ### an instance, its attributes a map -/
set_option genInjectivity false in
structure ObjM (h : Heap) (x dx C : Addr) (mA : Str → Option Value) : Prop where
  obj : h.get? x = some (PySem.W.instObj C dx)
  ns : h.Ns1 dx mA
  ne : dx ≠ x

theorem lookIn_ns {h : Heap} {dx : Addr} {mA : Str → Option Value} (n : h.Ns1 dx mA) : ∃ od, h.get? dx = some od ∧ ∀ name, PySem.W.lookIn name od = some (mA name) := by
  obtain ⟨o, es, ep, ho, hd, hk, _, hm⟩ := n
  refine ⟨o, ho, fun name => ?_⟩
  have e := hm name
  unfold nsFind findBy at e
  rw [← Array.find?_toList] at e
  unfold PySem.W.lookIn
  rw [hd]
  dsimp only
  split
  · rename_i y q
    rw [q] at e
    exact congrArg some e
  · rename_i q
    rw [q] at e
    have a : es.toList.any (·.refKey) = false := by
      rw [List.any_eq_false]
      intro y hy
      obtain ⟨z, t, hkey⟩ := hk y (Array.mem_toList_iff.mp hy)
      simp [DictEntry.refKey, hkey]
    have a' : ¬ es.toList.any (·.refKey) = true := by rw [a]; exact Bool.false_ne_true
    rw [if_neg a']
    exact congrArg some e

theorem ObjM.look {h : Heap} {x dx C : Addr} {mA : Str → Option Value} (I : ObjM h x dx C mA) : ∃ od, PySem.W.InstAt h x (PySem.W.instObj C dx) C (some od) ∧ ∀ name, PySem.W.lookIn name od = some (mA name) :=
  let ⟨od, ho, hl⟩ := lookIn_ns I.ns
  ⟨od, ⟨I.obj, rfl, rfl, ho⟩, hl⟩

section
variable {prog : Program} {w : World} {A : Around} {E : Value → Shared → Prop} {s : Shared} {K : PySem.W.Frag} {x dx C f : Addr} {mA : Str → Option Value} {name : Str} {v : Value}

theorem get_map {expr : Bool} {Q : Value → Shared → Prop} (X : K.In s.heap) (I : ObjM s.heap x dx C mA) (hg : PySem.W.plainGet K C name = true) (hh : PySem.W.hasDictIn K C = true)
    (ha : PySem.W.findIn K (.ref C) name = some none) (hv : mA name = some v) (hv' : PySem.W.handedIn v = true) (h : Q v { s with toks := s.toks + 1 }) :
    wpAny (model prog w) A (getAttr (.ref x) name expr) Q E s := by
  obtain ⟨od, J, hl⟩ := I.look
  exact PySem.W.get_value X J (PySem.W.plainGet_of hg).1 (PySem.W.findObj_own hh ha rfl (by rw [hl, hv])) hv' h


theorem get_meth {pl : Sem Bool} {Q : Value × List Value → Shared → Prop} (X : K.In s.heap) (I : ObjM s.heap x dx C mA) (hg : PySem.W.plainGet K C name = true)
    (hf : PySem.W.findIn K (.ref C) name = some (some (.ref f))) (ht : PySem.W.isFn K (.ref f) = true) (hv : mA name = none) (h : Q (.ref f, [.ref x]) s) :
    wpAny (model prog w) A (getMethod (.ref x) name pl) Q E s := by
  obtain ⟨od, J, hl⟩ := I.look
  exact PySem.W.method_fn X J (PySem.W.plainGet_of hg).1 (PySem.W.plainGet_of hg).2 hf (beq_iff_eq.mp ht) (by show (PySem.W.lookIn name od).map (·.isSome) = some false; rw [hl, hv]; rfl) h

theorem set_map {ns : List Str} {Q : Unit → Shared → Prop} (X : K.In s.heap) (I : ObjM s.heap x dx C mA)
    (hs : PySem.W.findIn K (.ref C) "__setattr__" = some (some (.builtin "object.__setattr__"))) (hp : PySem.W.plainOver K C = true) (ht : PySem.W.takerIn K C name = some none) (hh : PySem.W.hasDictIn K C = true)
    (hw : PySem.Within mA ns) (hsz : ns.length ≤ sizeLine)
    (h : ∀ h', ObjM h' x dx C (fun y => if y = name then some v else mA y) → Heap.SameBut dx s.heap h' → Q () { s with heap := h', toks := s.toks + 2 }) :
    wpAny (model prog w) A (setAttr (.ref x) name v) Q E s := by
  obtain ⟨od, J, hl⟩ := I.look
  refine PySem.W.set_plain X J hs (PySem.W.osa_open (s := { s with toks := s.toks + 1 }) (r := none) X J hp ht fun b => ?_)
  obtain ⟨cd, hc, hd'⟩ := PySem.W.any_some hh
  have hx : s.heap.get? x = some ⟨.ref C, some dx, .plain, #[]⟩ := I.obj
  refine wpAny_bind (wpAny_pure (wpAny_bind (wpAny_bind (wpAny_loadPart hx (wpAny_bind (PySem.W.Looks.here (s := { s with toks := s.toks + 1 }) (PySem.W.looks_clsIn X hc) ?_))))))
  rw [hd']
  refine wpAny_pure (a := some dx) (wpAny_bind (wpAny_pure (wpAny_bind ?_)))
  refine wpAny_nsSet1 (s := { s with toks := s.toks + 1 }) I.ns fun h' hn2 hs2 => ?_
  obtain ⟨oD, esD, epD, hoD, hdD, hcD⟩ := hn2.count (PySem.Within.cons name v hw)
  refine wpAny_bind (wpAny_lookBehind hoD (by rw [hdD]; exact pastItsLine_dict (Nat.le_trans hcD (by rw [List.length_cons]; omega))) ?_)
  exact wpAny_pure (h _ ⟨(hs2.2 _ (Ne.symm I.ne)).trans I.obj, hn2, I.ne⟩ hs2)

theorem make_map {R : Result → Shared → Prop} {vs : List Value} {kw : List (Str × Value)} (X : K.In s.heap) (hm : PySem.W.makesIn K C = true)
    (hi : PySem.W.findIn K (.ref C) "__init__" = some (some (.ref f))) (hf : PySem.W.typeIn K (.ref f) = some (.type "function"))
    (h : codeAny (model prog w) (A.under (.builtin "type.__call__" ⟨.ref C :: vs, kw⟩)) (.call (.ref f) ⟨.ref (s.heap.objs.size + 1) :: vs, kw⟩) (PySem.W.InitBack (s.heap.objs.size + 1) R)
      { s with heap := (s.heap.push PySem.W.emptyDict).push (PySem.W.instObj C s.heap.objs.size) }) :
    codeAny (model prog w) A (.call (.ref C) ⟨vs, kw⟩) R s := by
  obtain ⟨hh, g, d, t, os⟩ := s
  exact PySem.W.make_core (PySem.W.makes_of X hm) (PySem.W.looks_findIn X hi) (fun self => PySem.W.bind_fn X self hf) (.inl rfl) h
end

/-! ### the attributes as a list of pairs -/
noncomputable def putF (f : Str) (v : V) : List (Str × V) → List (Str × V)
  | [] => [(f, v)]
  | (g, x) :: r => if g = f then (g, v) :: r else (g, x) :: putF f v r
theorem lookup_putF (f g : Str) (v : V) : ∀ fs : List (Str × V), (putF f v fs).lookup g = if g = f then some v else fs.lookup g
  | [] => by
    show List.lookup g [(f, v)] = _
    by_cases h : g = f
    · have hb : (g == f) = true := beq_iff_eq.mpr h
      simp only [List.lookup, hb, if_pos h]
    · have hb : (g == f) = false := beq_eq_false_iff_ne.mpr h
      simp only [List.lookup, hb, if_neg h]
  | (k, x) :: r => by
    have ih := lookup_putF f g v r
    rw [show putF f v ((k, x) :: r) = (if k = f then (k, v) :: r else (k, x) :: putF f v r) from rfl]
    by_cases hk : k = f
    · rw [if_pos hk]
      by_cases h : g = k
      · have hb : (g == k) = true := beq_iff_eq.mpr h
        simp only [List.lookup, hb, if_pos (h.trans hk)]
      · have hb : (g == k) = false := beq_eq_false_iff_ne.mpr h
        simp only [List.lookup, hb, if_neg (fun e : g = f => h (e.trans hk.symm))]
    · rw [if_neg hk]
      by_cases h : g = k
      · have hb : (g == k) = true := beq_iff_eq.mpr h
        simp only [List.lookup, hb, if_neg (fun e : g = f => hk (h.symm.trans e))]
      · have hb : (g == k) = false := beq_eq_false_iff_ne.mpr h
        simp only [List.lookup, hb]
        exact ih
theorem keys_putF (f : Str) (v : V) : ∀ fs : List (Str × V), f ∈ (putF f v fs).map (·.1) ∧ ∀ g, g ∈ fs.map (·.1) → g ∈ (putF f v fs).map (·.1)
  | [] => ⟨by simp [putF], fun g h => by simp at h⟩
  | (k, x) :: r => by
    obtain ⟨i1, i2⟩ := keys_putF f v r
    rw [show putF f v ((k, x) :: r) = (if k = f then (k, v) :: r else (k, x) :: putF f v r) from rfl]
    by_cases hk : k = f
    · rw [if_pos hk]
      subst hk
      exact ⟨by simp, fun g h => by simpa using h⟩
    · rw [if_neg hk]
      refine ⟨?_, fun g h => ?_⟩
      · rw [List.map_cons]
        exact List.mem_cons_of_mem _ i1
      · rw [List.map_cons] at h ⊢
        rcases List.mem_cons.mp h with e | e
        · exact List.mem_cons.mpr (.inl e)
        · exact List.mem_cons_of_mem _ (i2 g e)
theorem length_putF (f : Str) (v : V) : ∀ fs : List (Str × V), (putF f v fs).length ≤ fs.length + 1
  | [] => by simp [putF]
  | (k, x) :: r => by
    have ih := length_putF f v r
    rw [show putF f v ((k, x) :: r) = (if k = f then (k, v) :: r else (k, x) :: putF f v r) from rfl]
    by_cases hk : k = f
    · rw [if_pos hk, List.length_cons, List.length_cons]; omega
    · rw [if_neg hk, List.length_cons, List.length_cons]; omega

theorem RelO.some_of {v : V} {o : Option Value} (r : RelO (some v) o) : ∃ u, o = some u ∧ RelV v u := by
  cases o with
  | none => exact (show False from r).elim
  | some u => exact ⟨u, rfl, r⟩
theorem RelO.none_of {o : Option Value} (r : RelO none o) : o = none := by
  cases o with
  | none => rfl
  | some u => exact (show False from r).elim
theorem handed_of {v : V} {u : Value} (r : RelV v u) : PySem.W.handedIn u = true := by
  cases v with
  | non => cases (show u = Value.none from r); rfl
  | bl b => cases (show u = Value.bool b from r); rfl
  | int i => obtain ⟨t, e⟩ := (show ∃ t, u = Value.int i t from r); cases e; rfl
  | str x => obtain ⟨t, e⟩ := (show ∃ t, u = Value.str x t from r); cases e; rfl
  | byt b => obtain ⟨t, e⟩ := (show ∃ t, u = Value.bytes b t from r); cases e; rfl
  | flt b => obtain ⟨t, e⟩ := (show ∃ t, u = Value.float b t from r); cases e; rfl
  | ref a => cases (show u = Value.ref a from r); rfl
  | ty n => cases (show u = Value.type n from r); rfl

section
variable {P : Program} {w : World} {H H' : Hp} {h h' : Heap} {a C dx : Addr} {fs fs' : List (Str × V)}
theorem ins_get (hok : HOk P w H h) (e : H a = some (.ins C dx fs)) : ∃ mA, ObjM h a dx C mA ∧ (∀ f, RelO (fs.lookup f) (mA f)) ∧ PySem.Within mA (fs.map (·.1)) ∧ fs.length ≤ 1000 ∧ H dx = some (.own a) := by
  obtain ⟨d, z, ne, ob, mA, n, r, q⟩ := (show ObjOk P w H h a (.ins C dx fs) from hok a _ e)
  exact ⟨mA, ⟨ob, n, ne⟩, r, q, z, d⟩
end

/-! ### what of the text a class must have -/
set_option genInjectivity false in
structure Cls (K : PySem.W.Frag) (C : Addr) : Prop where
  pg : PySem.W.plainGet K C Str.empty = true
  hd : PySem.W.hasDictIn K C = true
  po : PySem.W.plainOver K C = true
  sa : PySem.W.findIn K (.ref C) "__setattr__" = some (some (.builtin "object.__setattr__"))
theorem Cls.get {K : PySem.W.Frag} {C : Addr} (c : Cls K C) (f : Str) : PySem.W.plainGet K C f = true := c.pg
noncomputable def NoAttr (K : PySem.W.Frag) (C : Addr) (f : Str) : Prop := PySem.W.findIn K (.ref C) f = some none
theorem NoAttr.taker {K : PySem.W.Frag} {C : Addr} {f : Str} (n : NoAttr K C f) : PySem.W.takerIn K C f = some none := by
  unfold PySem.W.takerIn
  rw [show PySem.W.findIn K (.ref C) f = some none from n]
  rfl
set_option genInjectivity false in
structure Meth (K : PySem.W.Frag) (C : Addr) (m : Str) (f : Addr) : Prop where
  at_ : PySem.W.findIn K (.ref C) m = some (some (.ref f))
  fn : PySem.W.isFn K (.ref f) = true
  kp : PySem.W.keepIn K (.ref f) = true

section
variable {X : Cx} {pins : List (Addr × Obj)} {σ : St} {H : Hp} {s : Shared} {a C dx : Addr} {fs : List (Str × V)} {f : Str} {v : V} {A : Around} {E : Value → Shared → Prop}

theorem getattr_ok {b : Bool} {Q : Value → Shared → Prop} (I : Inv X pins σ H s) (e : H a = some (.ins C dx fs)) (c : Cls X.K C) (n : NoAttr X.K C f) (l : fs.lookup f = some v)
    (h : ∀ u s', Inv X pins σ H s' → RelV v u → Q u s') : wpAny (model X.prog X.w) A (getAttr (.ref a) f b) Q E s := by
  obtain ⟨mA, O, r, _, _, _⟩ := ins_get I.hok e
  obtain ⟨u, hu, ru⟩ := RelO.some_of (v := v) (o := mA f) (by rw [← l]; exact r f)
  exact get_map I.kIn O (c.get f) c.hd n hu (handed_of ru) (h u _ (I.tok _) ru)


theorem getmeth_ok {m : Str} {g : Addr} {pl : Sem Bool} {Q : Value × List Value → Shared → Prop} (I : Inv X pins σ H s) (e : H a = some (.ins C dx fs)) (c : Cls X.K C) (k : Meth X.K C m g) (l : fs.lookup m = none)
    (h : Q (.ref g, [.ref a]) s) : wpAny (model X.prog X.w) A (getMethod (.ref a) m pl) Q E s := by
  obtain ⟨mA, O, r, _, _, _⟩ := ins_get I.hok e
  have hn : mA m = none := RelO.none_of (by rw [← l]; exact r m)
  exact get_meth I.kIn O (c.get m) k.at_ k.fn hn h

theorem setattr_ok {y : V} {u : Value} {Q : Unit → Shared → Prop} (I : Inv X pins σ H s) (e : H a = some (.ins C dx fs)) (c : Cls X.K C) (n : NoAttr X.K C f) (hl : fs.length < 1000) (ry : RelV y u)
    (h : ∀ s', Inv X pins σ (upd H a (.ins C dx (putF f y fs))) s' → Q () s') : wpAny (model X.prog X.w) A (setAttr (.ref a) f u) Q E s := by
  obtain ⟨mA, O, r, wi, _, ho⟩ := ins_get I.hok e
  have hz : (fs.map (·.1)).length ≤ sizeLine := by rw [List.length_map, sizeLine_eq]; omega
  refine set_map I.kIn O c.sa c.po n.taker c.hd wi hz fun h' O' sb => h _ ?_
  have hd : ∃ o, h'.get? dx = some o := let ⟨o, _, _, e', _⟩ := O'.ns; ⟨o, e'⟩
  refine I.write (x := a) (e := dx) (by rw [e]; exact True.intro) (.inr ho) (fun b q hb z => (sb.2 b hb).trans z) hd ?_
  refine ⟨by rw [upd_ne O.ne]; exact ho, ?_, O.ne, O'.obj, _, O'.ns, fun g => ?_, fun g hg => ?_⟩
  · have := length_putF f y fs; omega
  · show RelO ((putF f y fs).lookup g) (if g = f then some u else mA g)
    rw [lookup_putF]
    by_cases q : g = f
    · rw [if_pos q, if_pos q]; exact ry
    · rw [if_neg q, if_neg q]; exact r g
  · by_cases q : g = f
    · rw [q]; exact (keys_putF f y fs).1
    · refine (keys_putF f y fs).2 g (wi g fun z => hg ?_)
      show (if g = f then some u else mA g) = none
      rw [if_neg q]; exact z

theorem Inv.made (I : Inv X pins σ H s) : Inv X pins σ (upd (upd H s.heap.objs.size (.own (s.heap.objs.size + 1))) (s.heap.objs.size + 1) (.ins C s.heap.objs.size []))
    { s with heap := (s.heap.push PySem.W.emptyDict).push (PySem.W.instObj C s.heap.objs.size) } := by
  have e1 : (s.heap.push PySem.W.emptyDict).get? s.heap.objs.size = some PySem.W.emptyDict := Heap.get?_push_size s.heap rfl
  have e2 : ((s.heap.push PySem.W.emptyDict).push (PySem.W.instObj C s.heap.objs.size)).get? (s.heap.objs.size + 1) = some (PySem.W.instObj C s.heap.objs.size) := by
    have := Heap.get?_push_size (s.heap.push PySem.W.emptyDict) (o := PySem.W.instObj C s.heap.objs.size) rfl
    rwa [Heap.size_push] at this
  have e3 : (s.heap.push PySem.W.emptyDict).Ns s.heap.objs.size (fun _ => none) := ⟨PySem.W.emptyDict, #[], _, e1, rfl, (fun e he => absurd he (by simp)), fun _ => rfl⟩
  have I1 := I.laid (a := s.heap.objs.size) (o := .own (s.heap.objs.size + 1)) (h' := s.heap.push PySem.W.emptyDict) (t' := s.toks) (fun b u q => Heap.get?_push_of_some _ q) (Nat.le_refl _) ⟨_, e1⟩
  refine I1.laid (a := s.heap.objs.size + 1) (o := .ins C s.heap.objs.size []) (t' := s.toks) (fun b u q => Heap.get?_push_of_some _ q) (Nat.le_of_eq (Heap.size_push _ _)) ?_
  have ne : s.heap.objs.size ≠ s.heap.objs.size + 1 := Nat.ne_of_lt (Nat.lt_succ_self _)
  refine ⟨by rw [upd_ne ne, upd_same], Nat.zero_le _, ne, e2, fun _ => none, (Heap.Ns1.of_empty e3).at fun o q => Heap.get?_push_of_some _ q, fun _ => True.intro, fun y hy => absurd rfl hy⟩

theorem attr_of {prog : Program} {w : World} {env : Env} {e : Expr} {f : Str} {pos : Pos} {s : Shared} {Q : Value → Shared → Prop} (hb : attributeBase e f env (eval e env) = eval e env)
    (h : wpAny (model prog w) A (eval e env) (fun o s₁ => wpAny (model prog w) A (getAttr o f true) Q E s₁) E s) : wpAny (model prog w) A (eval (.Attribute e f pos) env) Q E s :=
  Attribute_any_ h (by rw [arm_eval_Attribute, hb])
end

/-! ### readings and rules -/
noncomputable def tFld (K : PySem.W.Frag) (ta : TE) (f : Str) : TE := fun σ H Q => ta σ H fun x H1 => ∃ a C dx fs v, x = .ref a ∧ H1 a = some (.ins C dx fs) ∧ Cls K C ∧ NoAttr K C f ∧ fs.lookup f = some v ∧ Q v H1
noncomputable def sFld (K : PySem.W.Frag) (ta tv : TE) (f : Str) : TS := fun D σ H => tv σ H fun y H1 => ta σ H1 fun x H2 => ∃ a C dx fs, x = .ref a ∧ H2 a = some (.ins C dx fs) ∧ Cls K C ∧ NoAttr K C f ∧ fs.length < 1000 ∧
  D.nx σ (upd H2 a (.ins C dx (putF f y fs)))

section
variable {X : Cx} {o e value : Expr} {f : Str} {pos pos' tpos : Pos} {ta tv : TE}
theorem pe_fld (he : PE X e ta) (hb : attributeBase e f X.env (eval e X.env) = eval e X.env) : PE X (.Attribute e f pos) (tFld X.K ta f) := by
  intro pins s σ H Q I h
  refine attr_of hb (thn (he pins s σ H _ I h) fun u s1 ⟨x, H1, I1, rx, a, C, dx, fs, v, ex, ea, c, n, l, q⟩ => ?_)
  subst ex
  obtain rfl : u = Value.ref a := rx
  exact getattr_ok I1 ea c n l fun u' s2 I2 ru => ⟨v, H1, I2, ru, q⟩
theorem ps_fld (ha : PE X o ta) (hv : PE X value tv) (hs : swapsWith value (some (.Attribute o f pos')) pos.line X.env = pure false) : PS X (.Assign [.Attribute o f pos'] value pos) (sFld X.K ta tv f) := by
  intro pins s σ H D I h
  refine plainObj_wpAny_Assign_Attribute (thn (hv pins s σ H _ I h) fun u s1 ⟨y, H1, I1, ry, q⟩ => thn (ha pins s1 σ H1 _ I1 q) fun ov s2 ⟨x, H2, I2, rx, a, C, dx, fs, ex, ea, c, n, l, q2⟩ => ?_) hs
  subst ex
  obtain rfl : ov = Value.ref a := rx
  exact setattr_ok I2 ea c n l ry fun s3 I3 => ⟨σ, _, I3, q2⟩

theorem methcall_of {pl : Sem Bool} {m : Str} {apos : Pos} {args : List Expr} {pins : List (Addr × Obj)} {s : Shared} {σ : St} {H : Hp} {Q : Value → Shared → Prop} {te : TE} (he : PE X e te) (I : Inv X pins σ H s)
    (h : te σ H fun x H1 => ∃ a C dx fs g, x = .ref a ∧ H1 a = some (.ins C dx fs) ∧ Cls X.K C ∧ Meth X.K C m g ∧ fs.lookup m = none ∧
      ∀ s1, Inv X pins σ H1 s1 → wpAny (model X.prog X.w) X.A (callWith pos (.ref g) [.ref a] (backTo pos (starEach args X.env)) (backToKw pos (keywordEach [] X.env))) Q X.xe s1)
    (ht : eval (.Call (.Attribute e m apos) args [] pos) X.env = (do
      let ov ← eval e X.env
      standAt apos.atName
      let (f, first) ← holding [ov] (getMethod ov m pl)
      callWith pos f first (backTo pos (starEach args X.env)) (backToKw pos (keywordEach [] X.env)))) :
    wpAny (model X.prog X.w) X.A (eval (.Call (.Attribute e m apos) args [] pos) X.env) Q X.xe s := by
  refine PySem.W.methodCall_KW (pl := pl) (thn (he pins s σ H _ I h) fun u s1 ⟨x, H1, I1, rx, a, C, dx, fs, g, ex, ea, c, k, l, q⟩ => ?_) ht
  subst ex
  obtain rfl : u = Value.ref a := rx
  exact getmeth_ok I1 ea c k l (q s1 I1)
end

/-! ### isinstance -/
section
variable {X : Cx} {pins : List (Addr × Obj)} {σ : St} {H : Hp} {s : Shared} {A : Around} {E : Value → Shared → Prop} {Q : Value → Shared → Prop} {c : Value} {b : Bool}
inductive TyOf (K : PySem.W.Frag) (H : Hp) : V → Value → Prop where
  | non : TyOf K H .non (.type "NoneType")
  | bl (x : Bool) : TyOf K H (.bl x) (.type "bool")
  | int (i : Int) : TyOf K H (.int i) (.type "int")
  | str (x : Str) : TyOf K H (.str x) (.type "str")
  | flt (x : UInt64) : TyOf K H (.flt x) (.type "float")
  | lst {a : Addr} {xs : List V} (e : H a = some (.lst xs)) : TyOf K H (.ref a) (.type "list")
  | frz {a : Addr} {o : Obj} {xs : List V} (e : H a = some (.frz o (.lst xs))) : TyOf K H (.ref a) (.type "list")
  | tup {a : Addr} {xs : List V} (e : H a = some (.tup xs)) : TyOf K H (.ref a) (.type "tuple")
  | dK {a : Addr} {kvs : List (Key × V)} (e : H a = some (.dK kvs)) : TyOf K H (.ref a) (.type "dict")
  | dT {a : Addr} {kvs : List (List Key × V)} (e : H a = some (.dT kvs)) : TyOf K H (.ref a) (.type "dict")
  | ins {a C dx : Addr} {fs : List (Str × V)} (e : H a = some (.ins C dx fs)) (cl : Cls K C) (ha : PySem.W.findIn K (.ref C) "__class__" = some (some (.builtin "object.__class__")))
      (hn : PySem.W.specialIn K (.builtin "object.__class__") "__get__" = some (some (.builtin "getset_descriptor.__get__"))) (htk : PySem.W.takesIn K (.builtin "object.__class__") = some true)
      (hm : PySem.W.mroIn K C (.type "object") = some true) : TyOf K H (.ref a) (.ref C)
theorem isinst_ok {x : V} {u t : Value} (I : Inv X pins σ H s) (rx : RelV x u) (ty : TyOf X.K H x t) (e : PySem.W.kitOne X.K t c = some b) (h : ∀ tk, Q (.bool b) { s with toks := tk }) :
    wpAny (model X.prog X.w) A (call (.builtin "isinstance") [u, c]) Q E s := by
  cases ty with
  | non => cases (show u = Value.none from rx); exact PySem.W.kia_one PySem.W.kitx_none I.kIn True.intro e (fun z => nomatch z) h
  | bl y => cases (show u = Value.bool y from rx); exact PySem.W.kia_one PySem.W.kitx_bool I.kIn True.intro e (fun z => nomatch z) h
  | int i => obtain ⟨t, q⟩ := (show ∃ t, u = Value.int i t from rx); cases q; exact PySem.W.kia_one PySem.W.kitx_int I.kIn True.intro e (fun z => nomatch z) h
  | str y => obtain ⟨t, q⟩ := (show ∃ t, u = Value.str y t from rx); cases q; exact PySem.W.kia_one PySem.W.kitx_str I.kIn True.intro e (fun z => nomatch z) h
  | flt y => obtain ⟨t, q⟩ := (show ∃ t, u = Value.float y t from rx); cases q; exact PySem.W.kia_one PySem.W.kitx_float I.kIn True.intro e (fun z => nomatch z) h
  | @lst a xs ea =>
    cases (show u = Value.ref a from rx)
    obtain ⟨_, _, n, _, h1⟩ := (show ObjOk X.prog X.w H s.heap a (.lst xs) from I.hok a _ ea)
    exact PySem.W.kia_one PySem.W.kitx_list I.kIn ⟨_, h1, rfl⟩ e (fun z => nomatch z) h
  | @frz a ob xs ea =>
    cases (show u = Value.ref a from rx)
    obtain ⟨_, _, _, n, _, h1⟩ := (show ObjOk X.prog X.w H s.heap a (.frz ob (.lst xs)) from I.hok a _ ea)
    exact PySem.W.kia_one PySem.W.kitx_list I.kIn ⟨_, h1, rfl⟩ e (fun z => nomatch z) h
  | @tup a xs ea =>
    cases (show u = Value.ref a from rx)
    obtain ⟨_, _, _, p⟩ := (show ObjOk X.prog X.w H s.heap a (.tup xs) from I.hok a _ ea)
    obtain ⟨o, h1, h2, _⟩ := p
    exact PySem.W.kia_one PySem.W.kitx_tuple I.kIn ⟨o, h1, h2⟩ e (fun z => nomatch z) h
  | @dK a kvs ea =>
    cases (show u = Value.ref a from rx)
    obtain ⟨_, _, vs, _, p⟩ := (show ObjOk X.prog X.w H s.heap a (.dK kvs) from I.hok a _ ea)
    obtain ⟨o, es, ep, h1, h2, _⟩ := p
    exact PySem.W.kia_one PySem.W.kitx_dict I.kIn ⟨o, h1, h2.1⟩ e (fun z => nomatch z) h
  | @dT a kvs ea =>
    cases (show u = Value.ref a from rx)
    obtain ⟨_, _, xs, _, o, es, ep, h1, h2, _⟩ := (show ObjOk X.prog X.w H s.heap a (.dT kvs) from I.hok a _ ea)
    exact PySem.W.kia_one PySem.W.kitx_dict I.kIn ⟨o, h1, h2.1⟩ e (fun z => nomatch z) h
  | @ins a C dx fs ea cl ha hn htk hm =>
    cases (show u = Value.ref a from rx)
    obtain ⟨mA, O, _⟩ := ins_get I.hok ea
    obtain ⟨od, J, _⟩ := O.look
    exact PySem.W.kia_one (PySem.W.kitx_own (cl.get _) cl.hd ha hn htk hm) I.kIn J e (fun z => nomatch z) h
end
end L2

namespace L2
open PySem PySem.Spec PyProof.Rows

/-! ### room -/
set_option genInjectivity false in
structure Room (k : Nat) (A : Around) : Prop where
  hd : A.handled = none
  dp : A.depth + 3 * k + 5 < recursionLimit
  un : A.units + 16 * k + 200 < cLine
theorem Room.mono {j k : Nat} {A : Around} (r : Room k A) (h : j ≤ k) : Room j A := ⟨r.hd, by have := r.dp; omega, by have := r.un; omega⟩
theorem Room.deeper {k : Nat} {A : Around} (r : Room (k + 1) A) (env : Env) : Room k (A.deeper env) :=
  ⟨r.hd, by have := r.dp; show A.depth + 1 + 3 * k + 5 < _; omega, by have := r.un; show A.units + 3 + 16 * k + 200 < _; omega⟩
theorem make_depth {A : Around} {C : Addr} {us : List Value} {kw : List (Str × Value)} : (A.under (.builtin "type.__call__" ⟨.ref C :: us, kw⟩)).depth = A.depth + 1 := by
  first | rfl | simp [Around.under, Code.weight, Code.isCreation, Code.isGuard, Code.isCaller, Code.frames, Code.isFrame, guardIds]
theorem make_units {A : Around} {C : Addr} {us : List Value} {kw : List (Str × Value)} : (A.under (.builtin "type.__call__" ⟨.ref C :: us, kw⟩)).units = A.units + 1 := by
  first | rfl | simp [Around.under, Code.cUnits, Code.frames, Code.isFrame]
theorem Room.make {k : Nat} {A : Around} (r : Room (k + 1) A) (C : Addr) (us : List Value) (kw : List (Str × Value)) : Room k (A.under (.builtin "type.__call__" ⟨.ref C :: us, kw⟩)) :=
  ⟨r.hd, by have := r.dp; rw [make_depth]; omega, by have := r.un; rw [make_units]; omega⟩
theorem Room.depth {k : Nat} {A : Around} (r : Room k A) : A.depth < recursionLimit := by have := r.dp; omega

/-! ### argument lists and displays -/
noncomputable def tNil : TA := fun _ H Q => Q [] H
noncomputable def tCons (ta : TE) (tr : TA) : TA := fun σ H Q => ta σ H fun x H1 => tr σ H1 fun xs H2 => Q (x :: xs) H2
section
variable {X : Cx} {e : Expr} {es : List Expr} {te : TE} {t : TA} {pos : Pos}
theorem pa_nil : PA X [] tNil := fun _ _ _ _ H Q I h => Calls.spliced_nil ⟨[], H, I, .nil, h⟩
theorem pa_cons (ha : PE X e te) (hr : PA X es t) (hs : starEach (e :: es) X.env = (false, eval e X.env) :: starEach es X.env := by rfl) : PA X (e :: es) (tCons te t) := by
  intro pos pins s σ H Q I h
  rw [hs]
  show wpAny _ _ (spliced ((false, eval e X.env) :: backTo pos (starEach es X.env))) _ _ s
  refine Calls.spliced_cons (thn (ha pins s σ H _ I h) fun u s1 ⟨x, H1, I1, r1, q1⟩ => ?_)
  exact thn (hr pos pins s1 σ H1 _ I1 q1) fun us s2 ⟨xs, H2, I2, r2, q2⟩ => ⟨x :: xs, H2, I2, .cons r1 r2, q2⟩

noncomputable def tTup (t : TA) : TE := fun σ H Q => t σ H fun xs H1 => xs.length ≤ sizeLine ∧ ∀ p, H1 p = none → Q (.ref p) (upd H1 p (.tup xs))
noncomputable def tLst (t : TA) : TE := fun σ H Q => t σ H fun xs H1 => xs.length ≤ sizeLine ∧ ∀ p, H1 p = none → Q (.ref p) (upd H1 p (.lst xs))
theorem pe_tup {x1} (h : PA X es t) : PE X (.Tuple es x1 pos) (tTup t) := by
  intro pins s σ H Q I hq
  refine wpAny_Tuple_spliced (thn (h pos pins s σ H _ I hq) fun us s1 ⟨xs, H1, I1, r, z, q⟩ => ⟨by rw [← r.length]; exact z, ?_⟩)
  have hf : H1 s1.heap.objs.size = none := I1.hok.fresh (Nat.le_refl _)
  refine ⟨.ref s1.heap.objs.size, upd H1 s1.heap.objs.size (.tup xs), I1.laid (t' := s1.toks) (fun b u e => Heap.get?_push_of_some _ e) (Nat.le_refl _) ?_, rfl, q _ hf⟩
  exact ⟨z, us, r, ⟨_, Heap.get?_push_size _ rfl, rfl, _, rfl⟩⟩
theorem pe_lst (h : PA X es t) : PE X (.List es pos) (tLst t) := by
  intro pins s σ H Q I hq
  refine wpAny_List_spliced (thn (h pos pins s σ H _ I hq) fun us s1 ⟨xs, H1, I1, r, z, q⟩ => ⟨by rw [← r.length]; exact z, ?_⟩)
  have hf : H1 s1.heap.objs.size = none := I1.hok.fresh (Nat.le_refl _)
  refine ⟨.ref s1.heap.objs.size, upd H1 s1.heap.objs.size (.lst xs), I1.laid (t' := s1.toks) (fun b u e => Heap.get?_push_of_some _ e) (Nat.le_refl _) ?_, rfl, q _ hf⟩
  exact ⟨z, us, 0, r, Heap.get?_push_size _ rfl⟩
end

/-! ### what a def promises -/
noncomputable abbrev Sp := List V → Hp → VK → XK → Prop
noncomputable abbrev CXT := List Env → Hp → Shared → XK → Value → Shared → Prop

set_option genInjectivity false in
structure Env0 (P : Program) (w : World) (K : PySem.W.Frag) (mg : Str → Option Value) (base : Heap) (A : Around) (outer : List Env) (s : Shared) (H : Hp) : Prop where
  frames : A.frames = some outer
  mod : Mod K mg base
  bs : ∀ b o, base.get? b = some o → s.heap.get? b = some o ∧ H b = none
  bsz : base.objs.size ≤ s.heap.objs.size
  funs : s.heap.FunFrames base outer
  frf : ∀ b ∈ frs outer, H b = none
  hok : HOk P w H s.heap
  bare : AllBare s.gens
noncomputable def CE (outer : List Env) (P : Program) (w : World) (H : Hp) (s : Shared) (Q : VK) (u : Value) (s' : Shared) : Prop :=
  ∃ v H', s'.os = s.os ∧ AllBare s'.gens ∧ Un (frs outer) [] H H' s.heap s'.heap ∧ HOk P w H' s'.heap ∧ RelV v u ∧ Q v H'
noncomputable def CR (CX : CXT) (outer : List Env) (P : Program) (w : World) (H : Hp) (s : Shared) (Q : VK) (E : XK) (r : Result) (s' : Shared) : Prop :=
  match r with
  | .ok (.ret u) => CE outer P w H s Q u s'
  | .ok _ => False
  | .error e => CX outer H s E e s'
set_option genInjectivity false in
structure FnOk (P : Program) (w : World) (K : PySem.W.Frag) (mg : Str → Option Value) (base : Heap) (CX : CXT) (k : Nat) (f : Addr) (fd : FuncData) (ps : List Str) (sp : Sp) : Prop where
  len : ∀ vs H Q E, sp vs H Q E → vs.length = ps.length
  run : ∀ (A : Around) (outer : List Env) (s : Shared) (H : Hp) (args : Args) (us : List Value) (vs : List V) (Q : VK) (E : XK), Room k A → Env0 P w K mg base A outer s H → BindsTo s fd args (ps.zip us) → Vals vs us → sp vs H Q E →
    codeAny (model P w) A (.call (.ref f) args) (CR CX outer P w H s Q E) s

theorem Env0.make {P : Program} {w : World} {K : PySem.W.Frag} {mg : Str → Option Value} {base : Heap} {A : Around} {outer : List Env} {s : Shared} {H : Hp} (e : Env0 P w K mg base A outer s H) (C : Addr) (us : List Value) (kw : List (Str × Value)) :
    Env0 P w K mg base (A.under (.builtin "type.__call__" ⟨.ref C :: us, kw⟩)) outer s H := ⟨by first | exact e.frames | (simpa [Around.under, Code.envs, Code.isFrame, pushEnvs] using e.frames), e.mod, e.bs, e.bsz, e.funs, e.frf, e.hok, e.bare⟩

section
variable {X : Cx} {pins : List (Addr × Obj)} {σ : St} {H : Hp} {s s' : Shared}
theorem Inv.env0 (I : Inv X pins σ H s) : Env0 X.prog X.w X.K X.mg X.base X.A X.stack s H :=
  ⟨I.ok.frames, I.ok.mod, I.bs, Nat.le_trans I.ok.bsz I.sz, I.stack, I.stkFree, I.hok, I.bare⟩
theorem Inv.after {Q : VK} {u : Value} (I : Inv X pins σ H s) (h : CE X.stack X.prog X.w H s Q u s') : EP X pins σ Q u s' := by
  obtain ⟨v, H', os, bare, un, hok, r, q⟩ := h
  obtain ⟨hh, g, d, t, os'⟩ := s'
  obtain rfl : os' = s.os := os
  exact ⟨v, H', I.call (h' := hh) (g' := g) (d' := d) (t' := t) (ch := []) un hok bare (fun b z => absurd z (by simp)), r, q⟩
end

/-! ### calls -/
noncomputable def tCall (sp : Sp) (dvs : List V) (E : XK) (t : TA) : TE := fun σ H Q => t σ H fun vs H1 => sp (vs ++ dvs) H1 Q E
noncomputable def tMeth (C : Addr) (m : Str) (sp : Sp) (dvs : List V) (E : XK) (ta : TE) (t : TA) : TE := fun σ H Q => ta σ H fun x H1 => ∃ a dx fs, x = .ref a ∧ H1 a = some (.ins C dx fs) ∧ fs.lookup m = none ∧
  t σ H1 fun vs H2 => sp (x :: (vs ++ dvs)) H2 Q E
noncomputable def tMake (C : Addr) (sp : Sp) (dvs : List V) (E : XK) (t : TA) : TE := fun σ H Q => t σ H fun vs H1 => ∀ x dx, H1 x = none → H1 dx = none → dx ≠ x →
  sp (.ref x :: (vs ++ dvs)) (upd (upd H1 dx (.own x)) x (.ins C dx [])) (fun v H2 => v = .non ∧ Q (.ref x) H2) E

noncomputable def Binds (K : PySem.W.Frag) (fd : FuncData) (ps : List Str) (ds : List Value) : Prop :=
  ∀ (s : Shared) (us : List Value), K.In s.heap → (us ++ ds).length = ps.length → BindsTo s fd ⟨us, []⟩ (ps.zip (us ++ ds))
theorem Binds.all {K : PySem.W.Frag} {fd : FuncData} {ps : List Str} (h : ∀ us : List Value, us.length = ps.length → bindArgs fd ⟨us, []⟩ = pure (ps.zip us)) : Binds K fd ps [] := fun s us _ hl => by
  rw [List.append_nil] at hl ⊢
  exact .of_eq (h us hl)

noncomputable def Passes (CX : CXT) (X : Cx) (E : XK) : Prop := ∀ (pins : List (Addr × Obj)) (σ : St) (H : Hp) (s : Shared) (e : Value) (s' : Shared), Inv X pins σ H s → CX X.stack H s E e s' → X.xe e s'

section
variable {X : Cx} {CX : CXT} {k : Nat} {f C : Addr} {fd : FuncData} {ps : List Str} {sp : Sp} {dvs : List V} {ds : List Value} {E : XK} {x m : Str} {p pos apos : Pos} {e o : Expr} {es : List Expr} {ta : TE} {t : TA}

theorem run_fn {pins : List (Addr × Obj)} {σ : St} {H : Hp} {s : Shared} {Q : VK} {us : List Value} {vs : List V} (F : FnOk X.prog X.w X.K X.mg X.base CX k f fd ps sp) (hr : Room k X.A) (hb : Binds X.K fd ps ds) (hd : Vals dvs ds) (hx : Passes CX X E)
    (I : Inv X pins σ H s) (r : Vals vs us) (h : sp (vs ++ dvs) H Q E) : wpAny (model X.prog X.w) X.A (call (.ref f) us) (EP X pins σ Q) X.xe s := by
  have r2 : Vals (vs ++ dvs) (us ++ ds) := r.append hd
  have hl : (us ++ ds).length = ps.length := by rw [← r2.length]; exact F.len _ _ _ _ h
  refine wpAny_call (codeAny_mono (F.run X.A X.stack s H ⟨us, []⟩ (us ++ ds) (vs ++ dvs) Q E hr I.env0 (hb s us I.kIn hl) r2 h) fun r s' hq => ?_)
  cases r with
  | error e => exact hx pins σ H s e s' I hq
  | ok fl =>
    cases fl with
    | ret u => exact I.after hq
    | next => exact False.elim hq
    | brk => exact False.elim hq
    | cont => exact False.elim hq

theorem pe_call (F : FnOk X.prog X.w X.K X.mg X.base CX k f fd ps sp) (hr : Room k X.A) (hg : Gl X x) (hm : X.mg x = some (.ref f)) (hk : PySem.W.keepIn X.K (.ref f) = true) (hb : Binds X.K fd ps ds) (hd : Vals dvs ds) (hx : Passes CX X E)
    (ha : PA X (e :: es) t) (hdb : (x == ("__debug__" : Str)) = false := by decide) (he : starEach (e :: es) X.env = (false, eval e X.env) :: starEach es X.env := by rfl) (hpl : (backTo pos (starEach es X.env)).any (·.1) = false := by rfl) :
    PE X (.Call (.Name x p) (e :: es) [] pos) (tCall sp dvs E t) := by
  intro pins s σ H Q I h
  refine wpAny_Call_Name_kw (ld_glob I hg hm ?_ hdb)
  refine PySem.W.callWith_K (h₀ := X.base) I.ok.mod.kin hk (thn (ha pos pins s σ H _ I h) fun us s1 ⟨vs, H1, I1, r, q⟩ => ⟨I1.kIn, ?_⟩) he hpl
  exact run_fn F hr hb hd hx I1 r q

theorem pe_meth0 {pl : Sem Bool} (he : PE X o ta) (c : Cls X.K C) (hm : Meth X.K C m f) (F : FnOk X.prog X.w X.K X.mg X.base CX k f fd ps sp) (hr : Room k X.A) (hb : Binds X.K fd ps ds) (hd : Vals dvs ds) (hx : Passes CX X E)
    (ht : eval (.Call (.Attribute o m apos) [] [] pos) X.env = (do
      let ov ← eval o X.env
      standAt apos.atName
      let (f, first) ← holding [ov] (getMethod ov m pl)
      callWith pos f first (backTo pos (starEach [] X.env)) (backToKw pos (keywordEach [] X.env))) := by rfl) :
    PE X (.Call (.Attribute o m apos) [] [] pos) (tMeth C m sp dvs E ta tNil) := by
  intro pins s σ H Q I h
  refine PySem.W.methodCall_KW (pl := pl) (thn (he pins s σ H _ I h) fun u s1 ⟨x, H1, I1, rx, a, dx, fs, ex, ea, l, q⟩ => ?_) ht
  subst ex
  obtain rfl : u = Value.ref a := rx
  refine getmeth_ok I1 ea c hm l ?_
  exact PySem.W.callWith_K0 (first := [.ref a]) I1.kIn hm.kp (run_fn (us := [.ref a]) (vs := [.ref a]) F hr hb hd hx I1 (.cons rfl .nil) q)

set_option genInjectivity false in
structure Mk (K : PySem.W.Frag) (C f : Addr) : Prop where
  makes : PySem.W.makesIn K C = true
  init : PySem.W.findIn K (.ref C) "__init__" = some (some (.ref f))
  fn : PySem.W.isFn K (.ref f) = true
  kp : PySem.W.keepIn K (.ref C) = true

theorem run_make {pins : List (Addr × Obj)} {σ : St} {H : Hp} {s : Shared} {Q : VK} {us : List Value} {vs : List V} (M : Mk X.K C f) (F : FnOk X.prog X.w X.K X.mg X.base CX k f fd ps sp) (hr : Room (k + 1) X.A) (hb : Binds X.K fd ps ds) (hd : Vals dvs ds)
    (hx : Passes CX X E) (I : Inv X pins σ H s) (r : Vals vs us)
    (h : ∀ x dx, H x = none → H dx = none → dx ≠ x → sp (.ref x :: (vs ++ dvs)) (upd (upd H dx (.own x)) x (.ins C dx [])) (fun v H2 => v = .non ∧ Q (.ref x) H2) E) :
    wpAny (model X.prog X.w) X.A (call (.ref C) us) (EP X pins σ Q) X.xe s := by
  have hq := h (s.heap.objs.size + 1) s.heap.objs.size (I.hok.fresh (Nat.le_succ _)) (I.hok.fresh (Nat.le_refl _)) (Nat.ne_of_lt (Nat.lt_succ_self _))
  have I2 := Inv.made (C := C) I
  have r2 : Vals (V.ref (s.heap.objs.size + 1) :: (vs ++ dvs)) (Value.ref (s.heap.objs.size + 1) :: (us ++ ds)) := .cons rfl (r.append hd)
  have hl : (Value.ref (s.heap.objs.size + 1) :: us ++ ds).length = ps.length := by
    have e := r2.length
    rw [F.len _ _ _ _ hq] at e
    exact e.symm
  refine wpAny_call (make_map (f := f) I.kIn M.makes M.init (beq_iff_eq.mp M.fn) (codeAny_mono (F.run _ X.stack _ _ ⟨Value.ref (s.heap.objs.size + 1) :: us, []⟩ (Value.ref (s.heap.objs.size + 1) :: (us ++ ds)) _ _ E (hr.make C us [])
    (I2.env0.make C us []) (hb _ (Value.ref (s.heap.objs.size + 1) :: us) I2.kIn hl) r2 hq) fun r s' hq' => ?_))
  cases r with
  | error e => exact hx pins σ _ _ e s' I2 hq'
  | ok fl =>
    cases fl with
    | ret u =>
      obtain ⟨v, H', I3, rv, ev, q3⟩ := I2.after hq'
      subst ev
      exact ⟨rv, ⟨V.ref (s.heap.objs.size + 1), H', I3, rfl, q3⟩⟩
    | next => exact False.elim hq'
    | brk => exact False.elim hq'
    | cont => exact False.elim hq'
theorem pe_make (M : Mk X.K C f) (F : FnOk X.prog X.w X.K X.mg X.base CX k f fd ps sp) (hr : Room (k + 1) X.A) (hg : Gl X x) (hm : X.mg x = some (.ref C)) (hb : Binds X.K fd ps ds) (hd : Vals dvs ds) (hx : Passes CX X E)
    (ha : PA X (e :: es) t) (hdb : (x == ("__debug__" : Str)) = false := by decide) (he : starEach (e :: es) X.env = (false, eval e X.env) :: starEach es X.env := by rfl) (hpl : (backTo pos (starEach es X.env)).any (·.1) = false := by rfl) :
    PE X (.Call (.Name x p) (e :: es) [] pos) (tMake C sp dvs E t) := by
  intro pins s σ H Q I h
  refine wpAny_Call_Name_kw (ld_glob I hg hm ?_ hdb)
  refine PySem.W.callWith_K (h₀ := X.base) I.ok.mod.kin M.kp (thn (ha pos pins s σ H _ I h) fun us s1 ⟨vs, H1, I1, r, q⟩ => ⟨I1.kIn, ?_⟩) he hpl
  exact run_make M F hr hb hd hx I1 r q
end

/-! ### keywords -/
section
variable {X : Cx} {CX : CXT} {k : Nat} {f C : Addr} {fd : FuncData} {ps ks : List Str} {sp : Sp} {E : XK} {x m : Str} {p pos apos kpos : Pos} {e o : Expr} {es : List Expr} {kws : List Keyword} {te ta : TE} {t tk : TA} {nm : Option Str}

variable {g : List Value → List Value → List Value} {gV : List V → List V → List V}
end

/-! ### a def's body keeps its promise -/
set_option genInjectivity false in
structure FnScope (N P : List Str) (sc : Scope) : Prop where
  kind : sc.kind = .function
  co : sc.isCoroutine = false
  gen : sc.isGenerator = false
  nd : N.Nodup
  pre : N.take P.length = P
  par : ∀ x ∈ P, sc.names.lookup x = some .local ∨ sc.names.lookup x = some .cell
  nofree : ∀ y ∈ sc.names, y.2 ≠ .free

theorem bindL_out {kindOf : Str → Option NameKind} {x : Str} : ∀ {binds : List (Str × Value)} {m : Str → Option Value}, (∀ v, (x, v) ∉ binds) → bindL kindOf binds m x = m x
  | [], _, _ => rfl
  | (n, v) :: r, m, h => by
    unfold bindL
    rw [bindL_out fun w hw => h w (List.mem_cons_of_mem _ hw)]
    split
    · have : x ≠ n := by rintro rfl; exact h v List.mem_cons_self
      simp [this]
    · rfl
theorem bindC_out {kindOf : Str → Option NameKind} {x : Str} : ∀ {binds : List (Str × Value)} {m : Str → Option Value}, (∀ v, (x, v) ∉ binds) → bindC kindOf binds m x = m x
  | [], _, _ => rfl
  | (n, v) :: r, m, h => by
    unfold bindC
    rw [bindC_out fun w hw => h w (List.mem_cons_of_mem _ hw)]
    split
    · rfl
    · have : x ≠ n := by rintro rfl; exact h v List.mem_cons_self
      simp [this]
theorem bindL_get {kindOf : Str → Option NameKind} {x : Str} {v : Value} : ∀ {P : List Str} {vs : List Value} {i : Nat} {m : Str → Option Value}, P.Nodup → P[i]? = some x → vs[i]? = some v → kindOf x = some .local →
    bindL kindOf (P.zip vs) m x = some v
  | [], _, _, _, _, h, _, _ => by simp at h
  | _ :: _, [], _, _, _, _, h, _ => by simp at h
  | p :: P, w :: vs, 0, m, nd, h1, h2, hk => by
    simp at h1 h2; subst h1; subst h2
    show bindL kindOf ((p, w) :: P.zip vs) m p = _
    unfold bindL
    rw [bindL_out fun v hv => (List.nodup_cons.mp nd).1 (List.of_mem_zip hv).1, if_pos hk]
    simp
  | p :: P, w :: vs, i + 1, m, nd, h1, h2, hk => by
    show bindL kindOf ((p, w) :: P.zip vs) m x = _
    unfold bindL
    exact bindL_get (i := i) (List.nodup_cons.mp nd).2 (by simpa using h1) (by simpa using h2) hk
theorem bindC_get {kindOf : Str → Option NameKind} {x : Str} {v : Value} : ∀ {P : List Str} {vs : List Value} {i : Nat} {m : Str → Option Value}, P.Nodup → P[i]? = some x → vs[i]? = some v → kindOf x ≠ some .local →
    bindC kindOf (P.zip vs) m x = some v
  | [], _, _, _, _, h, _, _ => by simp at h
  | _ :: _, [], _, _, _, _, h, _ => by simp at h
  | p :: P, w :: vs, 0, m, nd, h1, h2, hk => by
    simp at h1 h2; subst h1; subst h2
    show bindC kindOf ((p, w) :: P.zip vs) m p = _
    unfold bindC
    rw [bindC_out fun v hv => (List.nodup_cons.mp nd).1 (List.of_mem_zip hv).1, if_neg hk]
    simp
  | p :: P, w :: vs, i + 1, m, nd, h1, h2, hk => by
    show bindC kindOf ((p, w) :: P.zip vs) m x = _
    unfold bindC
    exact bindC_get (i := i) (List.nodup_cons.mp nd).2 (by simpa using h1) (by simpa using h2) hk

noncomputable def start (N : List Str) (vs : List V) : St := vs.map some ++ List.replicate (N.length - vs.length) none

noncomputable def cxOf (CX : CXT) (P : Program) (w : World) (K : PySem.W.Frag) (mg : Str → Option Value) (base : Heap) (N : List Str) (qual : Str) (scope : Scope) (f : Addr) (cd : Value) (A : Around) (outer : List Env) (s : Shared) (H : Hp) (E : XK) : Cx where
  prog := P
  w := w
  K := K
  mg := mg
  base := base
  A := A.deeper (envOfC qual scope s.heap.objs.size f cd)
  N := N
  s₀ := s
  H₀ := H
  env := envOfC qual scope s.heap.objs.size f cd
  outer := outer
  stack := envOfC qual scope s.heap.objs.size f cd :: outer
  ex := []
  calm := true
  fn := fun _ => true
  pn := []
  xe := fun e s' => wpAny (model P w) (A.deeper (envOfC qual scope s.heap.objs.size f cd)) (leaving (envOfC qual scope s.heap.objs.size f cd) e) (fun _ s'' => CX outer H s E e s'') (fun e' s'' => CX outer H s E e' s'') s'

theorem cell_has {sc : Scope} {n : Nat} {x : Str} (h : sc.names.lookup x = some .cell) : ∃ c, (cellsFrom n sc.names []).lookup x = some c := by
  have q := PySem.W.cellsFrom_some sc.names n [] (.inl h)
  exact Option.isSome_iff_exists.mp q

theorem inv_start {CX : CXT} {P : Program} {w : World} {K : PySem.W.Frag} {mg : Str → Option Value} {base : Heap} {N ps : List Str} {qual : Str} {scope : Scope} {f : Addr} {cd : Value} {A : Around} {outer : List Env} {s s1 : Shared} {H : Hp} {E : XK} {us : List Value} {vs : List V}
    (S : FnScope N ps scope) (hd : A.handled = none) (e0 : Env0 P w K mg base A outer s H) (hl : vs.length = ps.length) (r : Vals vs us)
    (x : InCallC s s.heap.objs.size (bindL (envOfC qual scope s.heap.objs.size f cd).kindOf (ps.zip us) fun _ => none) (cellsFrom (s.heap.objs.size + 1) scope.names []) (bindC (envOfC qual scope s.heap.objs.size f cd).kindOf (ps.zip us) fun _ => none) s1) :
    Inv (cxOf CX P w K mg base N qual scope f cd A outer s H E) [] (start N vs) H s1 := by
  have hpl : ps.length ≤ N.length := by have := congrArg List.length S.pre; rw [List.length_take] at this; omega
  obtain ⟨h1, tk, rfl, hk⟩ := x.done
  have noA : ∀ b : Addr, b ∉ (cxOf CX P w K mg base N qual scope f cd A outer s H E).ex := fun b z => absurd (show b ∈ ([] : List Addr) from z) (by simp)
  refine ⟨⟨e0.mod, S.kind, rfl, rfl, Nat.le_refl _, fun y z c h1 h2 => ?_, fun y hy => ?_, fun y c _ h => ?_, fun _ => hd, Around.frames_deeper e0.frames, .inr ⟨rfl, rfl⟩, fun b z => absurd z (noA b), e0.bs, e0.bsz, fun b _ _ => noA b, fun b z => absurd z (noA b), e0.funs, e0.frf⟩,
    rfl, e0.bare, Un.kept hk, ⟨_, x.toInCall.ns, fun i y v h1 h2 h3 => ?_⟩, fun y c h => ⟨_, x.cell y c h⟩, e0.hok.fresh (Nat.le_refl _), fun y c h => ?_, fun p hp => absurd (show p ∈ ([] : List (Addr × Obj)) from hp) (by simp), e0.hok.kept hk, ?_⟩
  · exact name_of_addr x.apart (PySem.mem_of_lookup h1) (PySem.mem_of_lookup h2)
  · have hy : scope.names.lookup y = some .cell ∨ scope.names.lookup y = some .free := hy
    rcases hy with hy | hy
    · exact cell_has hy
    · exact absurd rfl (S.nofree _ (PySem.mem_of_lookup hy))
  · exact Nat.le_of_lt (x.above y c (PySem.mem_of_lookup h))
  · have hi : i < vs.length := by
      unfold start at h2
      by_cases hi : i < vs.length
      · exact hi
      · rw [List.getElem?_append_right (by simpa using hi)] at h2
        rw [List.getElem?_replicate] at h2
        split at h2 <;> cases h2
    have ha : vs[i]? = some v := by
      unfold start at h2
      rw [List.getElem?_append_left (by simpa using hi), List.getElem?_map] at h2
      cases e : vs[i]? with
      | none => rw [e] at h2; cases h2
      | some a => rw [e] at h2; cases h2; rfl
    obtain ⟨u, hu, rv⟩ := r.get ha
    have hp : ps[i]? = some y := by
      rw [← S.pre, List.getElem?_take_of_lt (by omega)]; exact h1
    have ndP : ps.Nodup := by rw [← S.pre]; exact S.nd.sublist (List.take_sublist _ _)
    refine ⟨u, rv, ?_⟩
    rcases S.par y (List.mem_of_getElem? hp) with k | k
    · exact .inl ⟨k, bindL_get ndP hp hu k⟩
    · obtain ⟨c, e⟩ := cell_has (n := s.heap.objs.size + 1) k
      refine .inr ⟨.inl k, c, e, ?_⟩
      have q := x.cell y c e
      rw [bindC_get ndP hp hu (by show scope.names.lookup y ≠ _; rw [k]; decide)] at q
      exact q
  · exact e0.hok.fresh (Nat.le_of_lt (x.above y c (PySem.mem_of_lookup h)))
  · unfold start
    show _ = N.length
    rw [List.length_append, List.length_map, List.length_replicate]
    omega

theorem fn_of {CX : CXT} {P : Program} {w : World} {K : PySem.W.Frag} {mg : Str → Option Value} {base : Heap} {k : Nat} {f : Addr} {name qual : Str} {params : Arguments} {body : List Stmt} {scope : Scope} {dV kV doc pm cdv ct oc : Value} {an od : Option Addr}
    {osl : Array (Option Value)} {N ps : List Str} {sp : Sp} (lk : K.lookup f = some ⟨oc, od, .func (PySem.W.fnOf name qual params body scope dV kV doc pm an cdv ct), osl⟩) (hcd : PySem.W.codeIn K cdv qual = true) (S : FnScope N ps scope)
    (len : ∀ vs H Q E, sp vs H Q E → vs.length = ps.length)
    (hbody : ∀ (A : Around) (outer : List Env) (s : Shared) (H : Hp) (vs : List V) (Q : VK) (E : XK), Room k (A.deeper (envOfC qual scope s.heap.objs.size f cdv)) → sp vs H Q E →
      ∃ t, PSs (cxOf CX P w K mg base N qual scope f cdv A outer s H E) body t ∧ t { nx := fun _ H' => Q .non H', rt := Q } (start N vs) H) :
    FnOk P w K mg base CX (k + 1) f (PySem.W.fnOf name qual params body scope dV kV doc pm an cdv ct) ps sp := by
  refine ⟨len, fun A outer s H args us vs Q E hr e0 hb r hsp => ?_⟩
  have hl := len _ _ _ _ hsp
  have KX : K.In s.heap := e0.mod.kin.keeps fun b o e => (e0.bs b o e).1
  have lim : s.heap.NoLimit := e0.mod.nolimit.keeps fun b o e => (e0.bs b o e).1
  have hkind : ∀ y ∈ ps.zip us, scope.names.lookup y.1 = some .local ∨ (scope.names.lookup y.1 = some .cell ∧ ((cellsFrom (s.heap.objs.size + 1) scope.names []).lookup y.1).isSome = true) := fun ⟨n, v⟩ hy => by
    rcases S.par n (List.of_mem_zip hy).1 with q | q
    · exact .inl q
    · exact .inr ⟨q, PySem.W.cellsFrom_some _ _ _ (.inl q)⟩
  refine codeAny_call_function hr.depth (KX _ _ lk) rfl S.co S.gen rfl (PySem.W.codeRec_of KX hcd) (hb _ _ _ _ ?_)
  refine wpAny_newFunctionEnv_cells S.kind hkind fun env he s1 x => ?_
  subst he
  refine ⟨lim.keeps x.toInCall.keep, codeAny_func ?_⟩
  obtain ⟨t, ht, hq⟩ := hbody A outer s H vs Q E (hr.deeper _) hsp
  have I : Inv (cxOf CX P w K mg base N qual scope f cdv A outer s H E) [] (start N vs) H s1 := inv_start S hr.hd e0 hl r x
  refine wpAny_mono (ht [] s1 (start N vs) H _ I hq) (fun fl s' hs => ?_) fun e s' hs => hs
  have fin : ∀ {σ' : St} {H' : Hp} {v : V} {u : Value}, Inv (cxOf CX P w K mg base N qual scope f cdv A outer s H E) [] σ' H' s' → RelV v u → Q v H' → CE outer P w H s Q u s' :=
    fun {σ' H' v u} J rv q => ⟨v, H', J.os, J.bare, J.base, J.hok, rv, q⟩
  cases fl with
  | ret u =>
    obtain ⟨v, σ', H', J, rv, q⟩ := hs
    exact fin J rv q
  | next =>
    obtain ⟨σ', H', J, q⟩ := hs
    exact fin (v := V.non) (u := Value.none) J rfl q
  | brk =>
    obtain ⟨_, _, _, q⟩ := hs
    exact False.elim q
  | cont =>
    obtain ⟨_, _, _, q⟩ := hs
    exact False.elim q
end L2

namespace L2
open PySem PySem.Spec PyProof.Rows
section
variable {X : Cx} {x : Str} {p pos : Pos} {e : Expr} {es : List Expr} {t : TA} {id T : String} {r : List V → Hp → VK → Prop}

noncomputable def tCB (r : List V → Hp → VK → Prop) (t : TA) : TE := fun σ H Q => t σ H fun vs H1 => r vs H1 Q
theorem pe_callB (hc : CallR X (.builtin id) r) (hg : Gl X x) (hm : X.mg x = none) (hv : bootBuiltins x = some (.builtin id)) (ha : PA X (e :: es) t) (hn : x ≠ "__name__" := by decide) (hdb : (x == ("__debug__" : Str)) = false := by decide)
    (he : starEach (e :: es) X.env = (false, eval e X.env) :: starEach es X.env := by rfl) (hpl : (backTo pos (starEach es X.env)).any (·.1) = false := by rfl) : PE X (.Call (.Name x p) (e :: es) [] pos) (tCB r t) := by
  intro pins s σ H Q I h
  refine wpAny_Call_Name_kw (ld_blt I hg hm hv ?_ hn hdb)
  exact PyProof.Rows.callWith_builtin1 (thn (ha pos pins s σ H _ I h) fun us s1 ⟨vs, H1, I1, r1, q1⟩ => hc pins s1 σ H1 vs us Q I1 r1 q1) he hpl
end
end L2

namespace HT
open PySem PyProof.Rows



section
open PySem.SeqAt
open PySem.AutoSeq1 (wpAny_loadPart')
open PySem.MeetsSeq PySem.MeetsSeq2 PySem.MeetsSeq3

end

section
variable {prog : Program} {w : World} {A : Around} {E : Value → Shared → Prop} {s : Shared}



/-! ### t[a:b], not the whole -/
noncomputable def sIx (n d : Nat) : Option Int → Nat
  | none => d
  | some v => if v < 0 then (v + (n : Int)).toNat else min v.toNat n

end
end HT

namespace L2
open PySem PySem.Spec PyProof.Rows

/-! ### the parts of a slice -/
noncomputable abbrev TO := St → Hp → (Option Int → Hp → Prop) → Prop
noncomputable def PO (X : Cx) (e : Option Expr) (t : TO) : Prop :=
  ∀ (pins : List (Addr × Obj)) (s : Shared) (σ : St) (H : Hp) (Q : Option Int → Hp → Prop), Inv X pins σ H s → t σ H Q →
    wpAny (model X.prog X.w) X.A (evalPart e X.env) (fun u s' => ∃ o H', Inv X pins σ H' s' ∧ IsPart u o ∧ Q o H') X.xe s
noncomputable def tNoPart : TO := fun _ H Q => Q none H
noncomputable def tPart (t : TE) : TO := fun σ H Q => t σ H fun x H1 => ∃ i, x = .int i ∧ Q (some i) H1


section
variable {X : Cx} {e : Expr} {te : TE} {lo hi : Option Expr} {tl th : TO} {pos p2 : Pos}

theorem po_none : PO X none tNoPart := by
  intro pins s σ H Q I h
  rw [evalPart_none]
  exact wpAny_pure ⟨none, H, I, .none, h⟩
theorem po_some (h : PE X e te) : PO X (some e) (tPart te) := by
  intro pins s σ H Q I hw
  rw [evalPart_some]
  refine thn (h pins s σ H _ I hw) fun u s1 ⟨x, H1, I1, r1, q1⟩ => ?_
  obtain ⟨i, rfl, q⟩ := q1
  obtain ⟨t, rfl⟩ := r1
  exact ⟨some i, H1, I1, .int i t, q⟩

noncomputable def SlR (X : Cx) (r : V → Option Int → Option Int → Hp → VK → Prop) : Prop :=
  ∀ (pins : List (Addr × Obj)) (s : Shared) (σ : St) (H : Hp) (x : V) (v vl vu : Value) (lo hi : Option Int) (sl : Addr) (Q : VK), Inv X pins σ H s → RelV x v → s.heap.IsSliceOf sl vl vu .none → IsPart vl lo → IsPart vu hi → r x lo hi H Q →
    ∃ T id, typeLookup (.type T) "__getitem__" = pure (some (.builtin id)) ∧ s.TypeIs v T ∧ wpAny (model X.prog X.w) X.A (getItem v (.ref sl)) (EP X pins σ Q) X.xe s
noncomputable def tSl (r : V → Option Int → Option Int → Hp → VK → Prop) (te : TE) (tl th : TO) : TE := fun σ H Q => te σ H fun x H1 => tl σ H1 fun l H2 => th σ H2 fun u H3 => r x l u H3 Q
theorem pe_slice {r : V → Option Int → Option Int → Hp → VK → Prop} (hr : SlR X r) (he : PE X e te) (hl : PO X lo tl) (hu : PO X hi th) : PE X (.Subscript e (.Slice lo hi none p2) pos) (tSl r te tl th) := by
  intro pins s σ H Q I h
  refine Subscript_ (thn (he pins s σ H _ I h) fun v s1 ⟨x, H1, I1, r1, q1⟩ => ?_)
  refine wpAny_Slice (thn (hl pins s1 σ H1 _ I1 q1) fun vl s2 ⟨l, H2, I2, pl, q2⟩ => thn (hu pins s2 σ H2 _ I2 q2) fun vu s3 ⟨u, H3, I3, pu, q3⟩ => ?_)
  rw [evalPart_none]
  refine wpAny_pure ?_
  have I4 : Inv X pins σ H3 { s3 with heap := s3.heap.push { cls := .type "slice", data := .fields #[vl, vu, .none] } } := I3.kept (t' := s3.toks) fun b ob q => Heap.get?_push_of_some _ q
  obtain ⟨T, id, hT, ht, hg⟩ := hr pins { s3 with heap := s3.heap.push { cls := .type "slice", data := .fields #[vl, vu, .none] } } σ H3 x v vl vu l u s3.heap.objs.size Q I4 r1 (Heap.IsSliceOf.new ..) pl pu q3
  show wpAny (model X.prog X.w) X.A (subscriptTail e (.Slice lo hi none p2) v (.ref s3.heap.objs.size)) (EP X pins σ Q) X.xe { s3 with heap := s3.heap.push { cls := .type "slice", data := .fields #[vl, vu, .none] } }
  exact tail_any (ops := [.ref s3.heap.objs.size, v]) ht hT hg (by with_unfolding_all rfl)

noncomputable def cutV (xs : List V) (lo hi : Option Int) : List V := (xs.drop (HT.sIx xs.length 0 lo)).take (HT.sIx xs.length xs.length hi - HT.sIx xs.length 0 lo)

/-! ### t < u, t + u -/
noncomputable def rCatT (K : PySem.W.Frag) : R2 := fun x y H Q => ∃ a b xs ys, x = .ref a ∧ y = .ref b ∧ SqT K H a xs ∧ SqT K H b ys ∧ xs ≠ [] ∧ xs.length + ys.length ≤ sizeLine ∧
  (ys = [] → Q (.ref a) H) ∧ (ys ≠ [] → ∀ p, H p = none → Q (.ref p) (upd H p (.tup (xs ++ ys))))
end
end L2

namespace L2
open PySem PySem.Spec PyProof.Rows

/-! ### places -/
noncomputable def ixN (n : Nat) (i : Int) : Option Nat := if 0 ≤ i then (if i < n then some i.toNat else none) else if -(n : Int) ≤ i then some (i + n).toNat else none
noncomputable def atI {α : Type} (xs : List α) (i : Int) : Option α := (ixN xs.length i).bind fun j => xs[j]?
theorem ixN_seq {n : Nat} {i : Int} {j : Nat} (h : ixN n i = some j) : seqIndex? i n = some j ∧ j < n ∧ -(n : Int) ≤ i ∧ i < n := by
  unfold ixN at h
  by_cases h0 : 0 ≤ i
  · rw [if_pos h0] at h
    by_cases h1 : i < n
    · rw [if_pos h1] at h
      have e : i.toNat = j := Option.some.inj h
      exact ⟨by rw [seqIndex_of h0 h1, e], by omega, by omega, h1⟩
    · rw [if_neg h1] at h; cases h
  · rw [if_neg h0] at h
    by_cases h1 : -(n : Int) ≤ i
    · rw [if_pos h1] at h
      have e : (i + n).toNat = j := Option.some.inj h
      exact ⟨by rw [seqIndex_neg (by omega) h1, e], by omega, h1, by omega⟩
    · rw [if_neg h1] at h; cases h
theorem atI_get {α : Type} {xs : List α} {i : Int} {v : α} (h : atI xs i = some v) : ∃ j, seqIndex? i xs.length = some j ∧ xs[j]? = some v ∧ j < xs.length ∧ -(xs.length : Int) ≤ i ∧ i < xs.length := by
  unfold atI at h
  cases e : ixN xs.length i with
  | none => rw [e] at h; cases h
  | some j =>
    rw [e] at h
    obtain ⟨h1, h2, h3, h4⟩ := ixN_seq e
    exact ⟨j, h1, h, h2, h3, h4⟩

/-! ### what may be subscripted -/
noncomputable def PlainIx (b : Expr) : Prop := ∀ o i, subscripted b false o i = operate [o, i] (getItem o i)
noncomputable def IxR (X : Cx) (r : R2) : Prop :=
  ∀ (value slice : Expr) (pins : List (Addr × Obj)) (s : Shared) (σ : St) (H : Hp) (x y : V) (v u : Value) (Q : VK), Inv X pins σ H s → RelV x v → RelV y u → r x y H Q →
    subscripted slice false v u = operate [v, u] (getItem v u) → wpAny (model X.prog X.w) X.A (subscriptTail value slice v u) (EP X pins σ Q) X.xe s
noncomputable def MtR (X : Cx) (id : String) (r : V → List V → Hp → VK → Prop) : Prop :=
  ∀ (pins : List (Addr × Obj)) (s : Shared) (σ : St) (H : Hp) (x : V) (xs : List V) (v : Value) (us : List Value) (Q : VK), Inv X pins σ H s → RelV x v → Vals xs us → r x xs H Q →
    wpAny (model X.prog X.w) X.A (call (.builtin id) (v :: us)) (EP X pins σ Q) X.xe s
section
variable {X : Cx} {a b : Expr} {ta tb : TE} {pos : Pos}
theorem pe_ix {r : R2} (hr : IxR X r) (ha : PE X a ta) (hb : PE X b tb) (hs : PlainIx b) : PE X (.Subscript a b pos) (tOp r ta tb) := by
  intro pins s σ H Q I h
  exact Subscript_ (binT ha hb I h fun v u s2 x y H2 I2 rx ry q => hr a b pins s2 σ H2 x y v u Q I2 rx ry q (hs _ _))

noncomputable def rIxL (K : PySem.W.Frag) : R2 := fun x y H Q => ∃ p xs i v, x = .ref p ∧ y = .int i ∧ SqL K H p xs ∧ atI xs i = some v ∧ Q v H
noncomputable def rIxT (K : PySem.W.Frag) : R2 := fun x y H Q => ∃ p xs i v, x = .ref p ∧ y = .int i ∧ SqT K H p xs ∧ atI xs i = some v ∧ Q v H
noncomputable def rIxS : R2 := fun x y H Q => ∃ z i c, x = .str z ∧ y = .int i ∧ z.length ≤ sizeLine ∧ atI z.cps.toList i = some c ∧ Q (.str ⟨#[c]⟩) H
theorem ix_list : IxR X (rIxL X.K) := by
  intro value slice pins s σ H x y v u Q I rx ry h hs
  obtain ⟨p, xs, i, z, rfl, rfl, hq, he, q⟩ := h
  cases rx
  obtain ⟨t, rfl⟩ := ry
  obtain ⟨its, r, pl, hz⟩ := I.list hq
  obtain ⟨j, h1, h2, h3, h4, h5⟩ := atI_get he
  obtain ⟨w, ew, rw'⟩ := r.get h2
  have hl := r.length
  have hn := line63
  have fin : EP X pins σ Q w s := ⟨z, H, I, rw', q⟩
  by_cases h0 : 0 ≤ i
  · have hj : i.toNat = j := by
      rw [seqIndex_of h0 h5] at h1
      exact Option.some.inj h1
    exact item_listR pl.isList h0 (by omega) (by rw [hj]; simpa using ew) fin hs
  · have hj : (i + (its.toArray.size : Int)).toNat = j := by
      rw [seqIndex_neg (by omega) h4] at h1
      rw [List.size_toArray, ← hl]
      exact Option.some.inj h1
    exact subscriptTail_builtinR (x := w) pl.isList.typeIs slot_list_getitem.lookup
      (wpAny_getItem_list_neg (Q := fun r s' => r = w ∧ EP X pins σ Q r s') pl.isList (by omega) (by rw [List.size_toArray] <;> omega) (by omega) (by rw [hj]; simpa using ew) ⟨rfl, fin⟩) hs
theorem ix_str : IxR X rIxS := by
  intro value slice pins s σ H x y v u Q I rx ry h hs
  obtain ⟨z, i, c, rfl, rfl, hz, he, q⟩ := h
  obtain ⟨t, rfl⟩ := rx
  obtain ⟨t', rfl⟩ := ry
  obtain ⟨j, h1, h2, h3, h4, h5⟩ := atI_get he
  have hl : z.cps.toList.length = z.length := by simp [Str.length]
  rw [hl] at h1 h4 h5
  have hn := line63
  exact tail_any (typeIs_str s z t) slot_str_getitem.lookup (getItem_str (c := c) (by
    have e1 : decide (i < -(2 ^ 63 : Int)) = false := decide_eq_false (by omega)
    have e2 : decide (i ≥ 2 ^ 63) = false := decide_eq_false (by omega)
    rw [e1, e2, Bool.or_false]) (by rw [h1]; simpa using h2) ⟨.str ⟨#[c]⟩, H, I.tok _, ⟨_, rfl⟩, q⟩) hs

/-! ### xs[i] = v, any sign -/

/-! ### slices -/
noncomputable def rSlL (K : PySem.W.Frag) : V → Option Int → Option Int → Hp → VK → Prop := fun x lo hi H Q => ∃ a xs, x = .ref a ∧ SqL K H a xs ∧ ∀ p, H p = none → Q (.ref p) (upd H p (.lst (cutV xs lo hi)))

/-! ### in, not in: flat items -/
noncomputable def flatV : V → Bool
  | .non => true
  | .bl _ => true
  | .int _ => true
  | .str _ => true
  | _ => false
noncomputable def eqV : V → V → Bool
  | .non, .non => true
  | .bl a, .bl b => a == b
  | .bl a, .int b => (if a then 1 else 0) == b
  | .int a, .bl b => a == (if b then 1 else 0)
  | .int a, .int b => a == b
  | .str a, .str b => a == b
  | _, _ => false
theorem eqAt_V {A : Around} {s : Shared} {y x : V} {u v : Value} (ry : RelV y u) (rx : RelV x v) (fy : flatV y = true) (fx : flatV x = true) : SeqAt.EqAt A s u v (eqV y x) := by
  cases y with
  | non =>
    cases ry
    cases x with
    | non => cases rx; exact SeqAt.EqAt.same _
    | bl b => cases rx; exact SeqAt.EqAt.none_bool b
    | int b => obtain ⟨t, rfl⟩ := rx; exact SeqAt.EqAt.none_int b t
    | str b => obtain ⟨t, rfl⟩ := rx; exact SeqAt.EqAt.none_str b t
    | _ => exact absurd (show false = true from fx) Bool.false_ne_true
  | bl a =>
    cases ry
    cases x with
    | non => cases rx; exact SeqAt.EqAt.bool_none a
    | bl b => cases rx; exact SeqAt.EqAt.bool_bool a b
    | int b => obtain ⟨t, rfl⟩ := rx; exact SeqAt.EqAt.bool_int a b t
    | str b => obtain ⟨t, rfl⟩ := rx; exact SeqAt.EqAt.bool_str a b t
    | _ => exact absurd (show false = true from fx) Bool.false_ne_true
  | int a =>
    obtain ⟨t', rfl⟩ := ry
    cases x with
    | non => cases rx; exact SeqAt.EqAt.int_none a t'
    | bl b => cases rx; exact SeqAt.EqAt.int_bool a t' b
    | int b => obtain ⟨t, rfl⟩ := rx; exact SeqAt.EqAt.int_int a t' b t
    | str b => obtain ⟨t, rfl⟩ := rx; exact SeqAt.EqAt.int_str a t' b t
    | _ => exact absurd (show false = true from fx) Bool.false_ne_true
  | str a =>
    obtain ⟨t', rfl⟩ := ry
    cases x with
    | non => cases rx; exact SeqAt.EqAt.str_none a t'
    | bl b => cases rx; exact SeqAt.EqAt.str_bool a t' b
    | int b => obtain ⟨t, rfl⟩ := rx; exact SeqAt.EqAt.str_int a t' b t
    | str b => obtain ⟨t, rfl⟩ := rx; exact SeqAt.EqAt.str_str a t' b t
    | _ => exact absurd (show false = true from fx) Bool.false_ne_true
  | _ => exact absurd (show false = true from fy) Bool.false_ne_true
noncomputable def eqU (x : V) (u : Value) : Bool := match u with
  | .none => eqV .non x
  | .bool b => eqV (.bl b) x
  | .int i _ => eqV (.int i) x
  | .str z _ => eqV (.str z) x
  | _ => false
theorem eqU_of {x y : V} {u : Value} (r : RelV y u) (f : flatV y = true) : eqU x u = eqV y x := by
  cases y with
  | non => cases r; rfl
  | bl b => cases r; rfl
  | int i => obtain ⟨t, rfl⟩ := r; rfl
  | str z => obtain ⟨t, rfl⟩ := r; rfl
  | _ => exact absurd (show false = true from f) Bool.false_ne_true
theorem any_eqU {x : V} : ∀ {xs : List V} {us : List Value}, Vals xs us → xs.all flatV = true → us.any (eqU x) = xs.any fun y => eqV y x
  | _, _, .nil, _ => rfl
  | y :: xs, u :: us, .cons r t, f => by
    rw [List.all_cons, Bool.and_eq_true] at f
    rw [List.any_cons, List.any_cons, eqU_of r f.1, any_eqU t f.2]
theorem mem_eqAt {A : Around} {s : Shared} {x : V} {v : Value} (rx : RelV x v) (fx : flatV x = true) : ∀ {xs : List V} {us : List Value}, Vals xs us → xs.all flatV = true → ∀ u ∈ us, SeqAt.EqAt A s u v (eqU x u)
  | _, _, .nil, _ => fun u hu => by cases hu
  | y :: xs, u :: us, .cons r t, f => fun u' hu => by
    rw [List.all_cons, Bool.and_eq_true] at f
    rcases List.mem_cons.mp hu with rfl | hu
    · rw [eqU_of r f.1]; exact eqAt_V r rx f.1 fx
    · exact mem_eqAt rx fx t f.2 u' hu
noncomputable def inV (x : V) (xs : List V) : Bool := xs.any fun y => eqV y x
noncomputable def rIn (K : PySem.W.Frag) (neg : Bool) : R2 := fun x y H Q => ∃ p xs, y = .ref p ∧ (SqL K H p xs ∨ SqT K H p xs) ∧ flatV x = true ∧ xs.all flatV = true ∧ Q (.bl (if neg then !inV x xs else inV x xs)) H
theorem op_notIn_seq : OpR X (compareOp .NotIn) (rIn X.K true) := by
  intro pins s σ H x y v u Q I rx ry h
  obtain ⟨p, xs, rfl, hq, fx, fs, q⟩ := h
  cases ry
  rcases hq with hq | hq
  · obtain ⟨its, r, pl, hz⟩ := I.list hq
    refine SeqAt.notIn_listAt (eqU x) pl.isList (fun w hw => mem_eqAt rx fx r fs w (by simpa using hw)) ⟨.bl _, H, I, rfl, ?_⟩
    rw [show its.toArray.any (eqU x) = its.any (eqU x) by simp, any_eqU r fs]
    exact q
  · obtain ⟨its, r, pl, hz⟩ := I.tuple hq
    refine SeqAt.notIn_tupleAt (eqU x) pl (fun w hw => mem_eqAt rx fx r fs w (by simpa using hw)) ⟨.bl _, H, I, rfl, ?_⟩
    rw [show its.toArray.any (eqU x) = its.any (eqU x) by simp, any_eqU r fs]
    exact q

/-! ### len, list(x), tuple(x) of any list or tuple that is read -/

/-! ### the call of a builtin's method: o.m(..) -/
noncomputable def tyV (K : PySem.W.Frag) (T : String) (x : V) (H : Hp) : Prop := match x with
  | .str _ => T = "str"
  | .int _ => T = "int"
  | .ref p => (T = "list" ∧ ∃ xs, SqL K H p xs) ∨ (T = "tuple" ∧ ∃ o, K.lookup p = some o ∧ o.cls = .type "tuple" ∧ o.dict = none) ∨
      (T = "dict" ∧ ((∃ kvs, H p = some (.dK kvs)) ∨ ∃ kvs, H p = some (.dT kvs))) ∨ (T = "set" ∧ ∃ S n, H p = some (.set S n))
  | _ => False
theorem tyV_is {pins : List (Addr × Obj)} {σ : St} {H : Hp} {s : Shared} {T : String} {x : V} {v : Value} (I : Inv X pins σ H s) (r : RelV x v) (ty : tyV X.K T x H) :
    s.TypeIs v T ∧ ∀ a, v = .ref a → ∃ ob, s.heap.get? a = some ob ∧ ob.dict = none := by
  cases x with
  | str z =>
    obtain ⟨t, rfl⟩ := r
    cases (show T = "str" from ty)
    exact ⟨typeIs_str s z t, fun _ e => nomatch e⟩
  | int i =>
    obtain ⟨t, rfl⟩ := r
    cases (show T = "int" from ty)
    exact ⟨typeIs_int s i t, fun _ e => nomatch e⟩
  | ref p =>
    cases r
    rcases ty with ⟨rfl, xs, hq⟩ | ⟨rfl, o, hk, hc, hd⟩ | ⟨rfl, hk⟩ | ⟨rfl, S, n, hk⟩
    · obtain ⟨its, _, pl, _⟩ := I.list hq
      refine ⟨pl.isList.typeIs, fun a e => ?_⟩
      cases e
      obtain ⟨o, n, e, c, hd, _⟩ := pl
      exact ⟨o, e, hd⟩
    · refine ⟨⟨o, I.kIn p o hk, hc⟩, fun a e => ?_⟩
      cases e
      exact ⟨o, I.kIn _ o hk, hd⟩
    · have z : ∃ o, s.heap.get? p = some o ∧ o.ExactDict := by
        rcases hk with ⟨kvs, hk⟩ | ⟨kvs, hk⟩
        · obtain ⟨_, _, _, _, o, _, _, e, ex, _⟩ := I.hok p _ hk
          exact ⟨o, e, ex⟩
        · obtain ⟨_, _, _, _, o, _, _, e, ex, _⟩ := I.hok p _ hk
          exact ⟨o, e, ex⟩
      obtain ⟨o, e, ex⟩ := z
      refine ⟨⟨o, e, ex.1⟩, fun a e2 => ?_⟩
      cases e2
      exact ⟨o, e, ex.2.1⟩
    · obtain ⟨o, _, _, _, e, ex, _⟩ := I.hok p _ hk
      refine ⟨⟨o, e, ex.1⟩, fun a e2 => ?_⟩
      cases e2
      exact ⟨o, e, ex.2.1⟩
  | _ => exact False.elim ty
noncomputable def tBM (K : PySem.W.Frag) (T : String) (r : V → List V → Hp → VK → Prop) (to : TE) (t : TA) : TE := fun σ H Q => to σ H fun x H1 => tyV K T x H1 ∧ t σ H1 fun xs H2 => r x xs H2 Q
variable {o e : Expr} {es : List Expr} {to : TE} {t : TA} {name : Str} {apos cpos : Pos} {T id : String} {r : V → List V → Hp → VK → Prop}
theorem pe_bm (pa : PlainAttrs T) (slot : Slot T name id) (hty : typeOf (.builtin id) = pure (.type "method_descriptor")) (hm : MtR X id r) (ho : PE X o to) (ha : PA X (e :: es) t)
    (hbase : attributeBase o name X.env (eval o X.env) = eval o X.env := by rfl)
    (hfew : ((backTo cpos (starEach (e :: es) X.env)).all (fun x => !x.1) && (backToKw cpos (keywordEach [] X.env)).all (fun x => x.1.isSome)
      && decide ((e :: es).length + ([] : List Keyword).length + (if ([] : List Keyword).isEmpty then 0 else 1) < 30)) = true := by rfl)
    (hline : (apos.endLine == cpos.line) = true := by rfl) (hs : starEach (e :: es) X.env = (false, eval e X.env) :: starEach es X.env := by rfl) (hplain : (backTo cpos (starEach es X.env)).any (·.1) = false := by rfl) :
    PE X (.Call (.Attribute o name apos) (e :: es) [] cpos) (tBM X.K T r to t) := by
  intro pins s σ H Q I h
  refine wpAny_Call_method_late hbase hfew hline rfl (thn (ho pins s σ H _ I h) fun v s1 ⟨x, H1, I1, r1, ty, q1⟩ => ?_)
  obtain ⟨h1, h2⟩ := tyV_is I1 r1 ty
  refine ⟨T, id, pa, slot, hty, h1, h2, ?_⟩
  have hA := ha cpos pins s1 σ H1 _ I1 q1
  rw [hs] at hA ⊢
  refine Calls.callWith_builtin (by show (false || (backTo cpos (starEach es X.env)).any (·.1)) = false; rw [hplain] <;> rfl) (Calls.evalArgs_plain ?_)
  exact thn hA fun us s2 ⟨vs, H2, I2, r2, q2⟩ => hm pins s2 σ H2 x vs v us Q I2 r1 r2 q2
/- xs.append(e), list.index on a module's tuple .. are MtR facts of 06m -/
end
end L2

namespace L2
open PySem PySem.Spec PyProof.Rows

noncomputable def MtM (X : Cx) (id : String) (r : V → List V → Hp → VK → Prop) : Prop :=
  ∀ (pins : List (Addr × Obj)) (s : Shared) (σ : St) (H : Hp) (x : V) (xs : List V) (v : Value) (us : List Value) (Q : VK), Inv X pins σ H s → RelV x v → Vals xs us → r x xs H Q →
    wpAny (model X.prog X.w) X.A (call (.builtin id) (v :: us)) (EP X pins σ Q) X.xe s

/-! ### lists of values -/
theorem Vals.one : ∀ {x : V} {us : List Value}, Vals [x] us → ∃ u, us = [u] ∧ RelV x u
  | _, _, .cons r .nil => ⟨_, rfl, r⟩

section
variable {X : Cx} {pins : List (Addr × Obj)} {σ : St} {H : Hp} {s : Shared} {l b : Addr} {xs ys zs : List V}

/-! ### the two steps: a tracked list is rewritten, a new list is laid -/
theorem Inv.lset {its its' : List Value} {n : Nat} {f : Array Value → Array Value} {t' : Nat} (I : Inv X pins σ H s) (hH : H l = some (.lst xs))
    (e : s.heap.get? l = some { cls := .type "list", data := .seq its.toArray n }) (hf : f its.toArray = its'.toArray) (hv : Vals ys its') (hz : ys.length ≤ sizeLine) :
    Inv X pins σ (upd H l (.lst ys)) { s with heap := s.heap.update l (Obj.mapSeq f), toks := t' } := by
  have q := PySem.IsL.update e f
  rw [hf] at q
  refine I.write (x := l) (e := l) (by rw [hH]; exact trivial) (.inl rfl) (fun b' u hb hu => (Heap.get?_update_other s.heap (Obj.mapSeq f) (Ne.symm hb)).trans hu) ⟨_, q⟩ ?_
  exact ⟨hz, its', _, hv, q⟩
theorem Inv.lnew {its : List Value} {t' : Nat} (I : Inv X pins σ H s) (hv : Vals ys its) (hz : ys.length ≤ sizeLine) :
    Inv X pins σ (upd H s.heap.objs.size (.lst ys)) { s with heap := s.heap.push { cls := .type "list", data := .seq its.toArray }, toks := t' } :=
  I.laid (fun _ _ q => Heap.get?_push_of_some _ q) (Nat.le_refl _) ⟨hz, its, 0, hv, Heap.get?_push_size _ rfl⟩
theorem Inv.fresh (I : Inv X pins σ H s) : H s.heap.objs.size = none := I.hok.fresh (Nat.le_refl _)
theorem Inv.lstM (I : Inv X pins σ H s) (hH : H l = some (.lst xs)) : xs.length ≤ sizeLine ∧ ∃ (its : List Value) (n : Nat), Vals xs its ∧ xs.length = its.length ∧ s.heap.get? l = some { cls := .type "list", data := .seq its.toArray n } := by
  obtain ⟨z, its, n, r, e⟩ := I.hok l _ hH
  exact ⟨z, its, n, r, r.length, e⟩

end

section
variable {X : Cx}

/-! ### methods -/
noncomputable def rAppend : V → List V → Hp → VK → Prop := fun x vs H Q => ∃ l xs y, x = .ref l ∧ vs = [y] ∧ H l = some (.lst xs) ∧ xs.length < sizeLine ∧ Q .non (upd H l (.lst (xs ++ [y])))
theorem mt_append : MtM X "list.append" rAppend := by
  intro pins s σ H x vs v us Q I rx rv h
  obtain ⟨l, xs, y, rfl, rfl, hH, hz, q⟩ := h
  cases rx
  obtain ⟨u, rfl, ru⟩ := rv.one
  obtain ⟨z, its, n, r, hl, e⟩ := I.lstM hH
  refine call_meets F.slot_list_append ⟨_, e, rfl⟩ F.entry_list_append (F.args_list_append_2 _ _) (PySem.list_append l its.toArray n u (by rw [List.size_toArray]; omega)) ⟨e, ?_⟩
  refine ⟨.non, _, I.lset (its' := its ++ [u]) hH e (by simp) (r.append (.cons ru .nil)) ?_, rfl, q⟩
  rw [List.length_append, List.length_singleton]
  omega






/-! ### list + list, list += list, list * int -/

/-! ### del xs[i] -/
end

/-! ### xs[a:b] = ys -/
section
variable {prog : Program} {w : World} {A : Around} {E : Value → Shared → Prop} {s : Shared}
set_option maxRecDepth 100000 in
end

section
variable {X : Cx}
end
end L2

namespace L2
open PySem PySem.Spec PyProof.Rows

/-! ### lists of pairs as tables -/
section
variable {κ : Type} [DecidableEq κ]
noncomputable def valV (kvs : List (κ × V)) (k : κ) : Option V := (kvs.find? fun kv => decide (kv.1 = k)).map (·.2)
noncomputable def putK (kvs : List (κ × V)) (k : κ) (v : V) : List (κ × V) :=
  if (kvs.any fun kv => decide (kv.1 = k)) = true then kvs.map (fun kv => if kv.1 = k then (kv.1, v) else kv) else kvs ++ [(k, v)]



end


/-! ### a tracked dict, its keys ints and texts or tuples of these -/


section
variable {P : Program} {w : World} {H : Hp} {h : Heap} {a : Addr}
end

noncomputable def DGet (H : Hp) (a : Addr) (y : V) (r : Option V) : Prop :=
  (∃ kvs k, Rd H a (.dK kvs) ∧ y = kV k ∧ r = valV kvs k) ∨ ∃ kvs k b, Rd H a (.dT kvs) ∧ y = .ref b ∧ H b = some (.tup (k.map kV)) ∧ r = valV kvs k
noncomputable def DPut (H : Hp) (a : Addr) (y v : V) (H' : Hp) : Prop :=
  (∃ kvs k, H a = some (.dK kvs) ∧ y = kV k ∧ kvs.length < sizeLine ∧ H' = upd H a (.dK (putK kvs k v))) ∨
  ∃ kvs k b, H a = some (.dT kvs) ∧ y = .ref b ∧ H b = some (.tup (k.map kV)) ∧ kvs.length < sizeLine ∧ H' = upd H a (.dT (putK kvs k v))


section
variable {X : Cx} {pins : List (Addr × Obj)} {σ : St} {H : Hp} {s : Shared} {a : Addr} {y v : V} {u r : Value} {o : Option V} {A : Around} {E : Value → Shared → Prop}


end

section
variable {X : Cx} {pins : List (Addr × Obj)} {σ : St} {H : Hp} {s : Shared} {a : Addr} {kvs : List (Key × V)} {k : Key} {u : Value} {A : Around} {E : Value → Shared → Prop}
end


/-! ### readings and rules -/


noncomputable def tDGet (td ty : TE) : TE := fun σ H Q => td σ H fun x H1 => ty σ H1 fun y H2 => ∃ a v, x = .ref a ∧ DGet H2 a y (some v) ∧ Q v H2
noncomputable def tDIn (ty td : TE) : TE := fun σ H Q => ty σ H fun y H1 => td σ H1 fun x H2 => ∃ a o, x = .ref a ∧ DGet H2 a y o ∧ Q (.bl o.isSome) H2
noncomputable def tDNotIn (ty td : TE) : TE := fun σ H Q => ty σ H fun y H1 => td σ H1 fun x H2 => ∃ a o, x = .ref a ∧ DGet H2 a y o ∧ Q (.bl (!o.isSome)) H2
noncomputable def sDPut (td ty tv : TE) : TS := fun D σ H => tv σ H fun v H1 => td σ H1 fun x H2 => ty σ H2 fun y H3 => ∃ a H4, x = .ref a ∧ DPut H3 a y v H4 ∧ D.nx σ H4

section
variable {X : Cx} {o i e value : Expr} {pos pos' tpos : Pos} {td ty tv : TE}
end


/-! ### displays -/
noncomputable def tDNewK : TE := fun _ H Q => ∀ p, H p = none → Q (.ref p) (upd H p (.dK []))
section
variable {X : Cx} {pos : Pos}
end




/-! ### methods -/

noncomputable def IsD (H : Hp) (a : Addr) : Prop := (∃ kvs, Rd H a (.dK kvs)) ∨ ∃ kvs, Rd H a (.dT kvs)

section
variable {X : Cx} {pins : List (Addr × Obj)} {σ : St} {H : Hp} {s : Shared} {a : Addr} {y d : V} {u r : Value} {o : Option V} {A : Around} {E : Value → Shared → Prop}
end

noncomputable def tDGet1 (td ty : TE) : TE := fun σ H Q => td σ H fun x H1 => ∃ a, x = .ref a ∧ IsD H1 a ∧ ty σ H1 fun y H2 => ∃ o, DGet H2 a y o ∧ Q (o.getD .non) H2
noncomputable def tDGet2 (td ty tx : TE) : TE := fun σ H Q => td σ H fun x H1 => ∃ a, x = .ref a ∧ IsD H1 a ∧ ty σ H1 fun y H2 => tx σ H2 fun z H3 => ∃ o, DGet H3 a y o ∧ Q (o.getD z) H3
section
variable {X : Cx} {o e f : Expr} {apos cpos : Pos} {td ty tx : TE}
end

/-! ### dict(d): a copy -/
section
variable {X : Cx} {pins : List (Addr × Obj)} {σ : St} {H : Hp} {s : Shared} {a : Addr} {kvs : List (Key × V)} {A : Around} {E : Value → Shared → Prop}
end


section
variable {X : Cx} {pins : List (Addr × Obj)} {σ : St} {H : Hp} {s : Shared} {a : Addr} {y : V} {u : Value} {A : Around} {E : Value → Shared → Prop}
end
end L2

namespace Att
open PySem PySem.W PySem.Calls PyProof.Rows

/-! ### the script -/
theorem ints_of_wellAll {P : Params} {h : Heap} : ∀ (ns : List Int) (vs : List Value), WellAll P h vs (ns.map WData.int) → IntsAre vs ns := by
  intro ns
  induction ns with
  | nil =>
    intro vs w
    rw [List.map_nil] at w
    cases w
    exact .nil
  | cons n ns ih =>
    intro vs w
    rw [List.map_cons] at w
    cases w with
    | cons a b =>
      cases a
      exact .cons _ _ (ih _ b)

theorem script_of {l : OpenLaw} {n : Nat} (hn : l.most = some n) {P : Params} {h : Heap} {args : List WData} {vals : List Value}
    (hpre : l.row.toRowW.claim.pre args = true) (hwl : WellAll P h vals args) :
    ∃ a vs ns, vals = [Value.ref a] ∧ args = [WData.list (ns.map WData.int)] ∧ h.get? a = some { cls := .type "list", data := .seq vs.toArray } ∧ IntsAre vs ns ∧ ns.length ≤ n := by
  have hsh : WShape.hasAll [] args [.list .int] = true := (pre_splitW hpre).1
  have hc : l.pre.holds [] { args := args } = true := (pre_splitW hpre).2
  obtain ⟨d, r, rfl, h1, h2⟩ := hasAllW_cons hsh
  obtain rfl := hasAllW_nil h2
  obtain ⟨xs, rfl, h3⟩ := hasW_list h1
  obtain ⟨ns, rfl⟩ := items_int h3
  have hlen : ns.length ≤ n := by
    unfold OpenLaw.pre at hc
    have h4 : (WTm.not (.lt (.lit (.int (n : Int))) (.len (.arg 0)))).holds [] { args := [.list (ns.map .int)] } = true := by
      have h4 := (holds_andW hc).1
      rw [hn] at h4
      exact h4
    have h5 := condW_of h4 (w_not (w_lt w_lit (w_len_list (w_arg rfl))))
    rw [List.length_map] at h5
    refine Nat.le_of_not_lt fun q => ?_
    have q' : (n : Int) < ((ns.length : Nat) : Int) := by omega
    first
      | (rw [decide_eq_true q'] at h5; exact absurd h5 (by decide))
      | (simp at h5; omega)
  cases hwl with
  | cons w1 w2 =>
    cases w2
    cases w1 with
    | list ho hall => exact ⟨_, _, ns, rfl, rfl, ho, ints_of_wellAll ns _ hall, hlen⟩

theorem post_true (l : OpenLaw) (args : List WData) : l.row.toRowW.claim.post args (.bool true) args = true :=
  postW_of (r := l.row.toRowW) (X := (true == true))
    (show WShape.has [] (.bool true) .bool = true by first | rfl | decide | simp [WShape.has, WShape.arms, WShape.armsAll])
    (show (WTm.eq .res (.lit (.bool true))).value [] { args := args, res := some (.bool true), after := args } = some (.bool (true == true)) from w_eq_bool (w_res rfl) w_lit) rfl

/-! ### the attachment: holds_open's last premise (the goal 'hc' behind k_head) from a wpAny of the law's body -/

theorem attach_call {l : OpenLaw} {n : Nat} {q : Program} {loose : List Str} {XP : (Str → Option Value) → Heap → Prop} {YP : World → Heap → Prop} {d : DefRec}
    (hn : l.most = some n) (hdf : d.params.defaults = [])
    (call : ∀ (w : World) (s₀ s₁ : Shared) (mg mb : Str → Option Value) (fa : Addr) (o : Obj) (pm cd doc : Value) (a : Addr) (vs : List Value) (ns : List Int),
      Ground q loose [] XP w s₀ mg mb s₁.heap → YP w s₁.heap →
      s₁.heap.get? fa = some o → o.data = .func (docDef d.name d.params d.body d.scope pm cd doc) → s₁.heap.CodeRec cd d.name → mg d.name = some (.ref fa) →
      s₁.heap.get? a = some { cls := .type "list", data := .seq vs.toArray } → IntsAre vs ns → ns.length ≤ n → s₁.gens = #[] →
      codeAny (model l.prog w) callerA (.call (.ref fa) ⟨[.ref a], []⟩) (fun r s' => r = .ok (.ret (.bool true)) ∧ OldK s₁.heap s'.heap ∧ s'.os = s₁.os ∧ AllBare s'.gens) s₁) :
    WalkO q loose XP YP l.row.toRowW d [] (fun f vs => PySem.call f vs) := by
  intro w s₀ s₁ mg mb G Y fa o pm cd doc dV kV ho hd hcd hD hmg hg args vals as hpre hlay hrd hwl hlo
  obtain rfl : dV = .none := Dflts.none hD hdf
  obtain rfl : kV = .none := Dflts.noKw hD
  obtain ⟨a, vs, ns, rfl, rfl, hobj, hints, hlen⟩ := script_of hn hpre hwl
  refine enter_call (codeAny_mono (call w s₀ s₁ mg mb fa o pm cd doc a vs ns G Y ho (fd_plain hd) hcd hmg hobj hints hlen hg) fun r s' hq => ?_)
  obtain ⟨rfl, h2, h3, h4⟩ := hq
  exact ⟨.inl ⟨.bool true, .bool true, [], rfl, fun _ => rfl, .bool true, post_true l _, fun _ => ⟨List.Pairwise.nil, fun _ hm => (nomatch hm)⟩⟩, h2, h3, h4⟩


/-! ### rules over ANY heap (no ledger) from facts about the written part K: the library's own take a ledger (News) for what they write -/
section
variable {prog : Program} {w : World} {A : Around} {E : Value → Shared → Prop} {s : Shared} {K : Frag}





/-! the whole heap as the ledger: makes every rule that writes through a ledger a rule over any heap -/
noncomputable def ledger (h : Heap) (L d : Addr) : List (Addr × Obj) := (List.range h.objs.size).filterMap fun a => if a = L ∨ a = d then none else (h.get? a).map fun o => (a, o)

end
end Att

namespace L2
open PySem PySem.Spec PyProof.Rows

theorem vals_ints : ∀ {vs : List Value} {ns : List Int}, IntsAre vs ns → Vals (ns.map V.int) vs
  | _, _, .nil => .nil
  | _, _, .cons n t h => .cons ⟨t, rfl⟩ (vals_ints h)

noncomputable def Only (H : Hp) : Prop := ∀ b, H b = none ∨ ∃ o xs, H b = some (.frz o (.lst xs))

theorem law_call {P : Program} {w : World} {K : PySem.W.Frag} {mg mb : Str → Option Value} {CX : CXT} {k : Nat} {fa a : Addr} {fd : FuncData} {x : Str} {sp : Sp} {s₁ : Shared} {vs : List Value} {ns : List Int}
    (KX : K.In s₁.heap) (hns : s₁.heap.Ns mainGlobals mg) (hb : s₁.heap.Ns builtinsNs mb) (hbb : ∀ x : Str, x ≠ "__name__" → mb x = bootBuiltins x) (hlim : s₁.heap.NoLimit) (hg : s₁.gens = #[])
    (ha : s₁.heap.get? a = some { cls := .type "list", data := .seq vs.toArray }) (hi : IntsAre vs ns) (hl : ns.length ≤ sizeLine) (hr : Room k callerA)
    (F : ∀ base : Heap, K.In base → base.Ns mainGlobals mg → FnOk P w K mg base CX k fa fd [x] sp) (hbind : ∀ (s : Shared) (u : Value), BindsTo s fd ⟨[u], []⟩ [(x, u)])
    (hsp : ∀ H : Hp, Only H → SqL K H a (ns.map V.int) → sp [.ref a] H (fun v _ => v = .bl true) fun _ _ _ => False)
    (hCX : ∀ H e s', CX [] H s₁ (fun _ _ _ => False) e s' → False) :
    codeAny (model P w) callerA (.call (.ref fa) ⟨[.ref a], []⟩) (fun r s' => r = .ok (.ret (.bool true)) ∧ OldK s₁.heap s'.heap ∧ s'.os = s₁.os ∧ AllBare s'.gens) s₁ := by
  have rv := vals_ints hi
  have lenV := hi.length
  -- from an abstract heap in which nothing but the script may be tracked
  have core : ∀ H : Hp, Only H → SqL K H a (ns.map V.int) → HOk P w H s₁.heap → (∀ b, H b ≠ none → b = a) → (H a ≠ none → K.lookup a = none) →
      codeAny (model P w) callerA (.call (.ref fa) ⟨[.ref a], []⟩) (fun r s' => r = .ok (.ret (.bool true)) ∧ OldK s₁.heap s'.heap ∧ s'.os = s₁.os ∧ AllBare s'.gens) s₁ := by
    intro H hO hS hok hA hK
    have base_of : ∀ {b : Addr} {o : Obj}, s₁.heap.get? b = some o → H b = none → (hidT s₁.heap H).get? b = some o := fun e n => hidT_get e n
    have noA : ∀ {b : Addr} {o : Obj} {es : Array DictEntry} {ep : Nat}, s₁.heap.get? b = some o → o.data = .dict es ep → H b = none := fun {b o es ep} e d => by
      cases q : H b with
      | none => rfl
      | some u =>
        have e' : b = a := hA b (by rw [q]; simp)
        subst e'
        rw [ha] at e; cases e
        have d' : Data.seq vs.toArray _ = Data.dict es ep := d
        cases d'
    have nsK : ∀ {b : Addr} {m : Str → Option Value}, s₁.heap.Ns b m → (hidT s₁.heap H).Ns b m := fun {b m} ⟨o, es, ep, e, d, r⟩ => ⟨o, es, ep, base_of e (noA e d), d, r⟩
    have hKb : K.In (hidT s₁.heap H) := fun b o e => base_of (KX b o e) (by
      cases q : H b with
      | none => rfl
      | some u =>
        have e' : b = a := hA b (by rw [q]; simp)
        subst e'
        rw [hK (by rw [q]; simp)] at e; cases e)
    have hM : Mod K mg (hidT s₁.heap H) := ⟨hKb, nsK hns, ⟨mb, nsK hb, hbb⟩, let ⟨mc, h1, h2⟩ := hlim; ⟨mc, nsK h1, h2⟩⟩
    have e0 : Env0 P w K mg (hidT s₁.heap H) callerA [] s₁ H := ⟨rfl, hM, fun b o e => of_hidT e, Nat.le_of_eq (hidT_size _ _), trivial, fun b hb => absurd (show b ∈ ([] : List Addr) from hb) (by simp), hok, .of_eq hg⟩
    refine codeAny_mono ((F _ hKb (nsK hns)).run callerA [] s₁ H ⟨[.ref a], []⟩ [.ref a] [.ref a] _ _ hr e0 (hbind s₁ (.ref a)) (.cons rfl .nil) (hsp H hO hS)) fun r s' h => ?_
    cases r with
    | error e => exact (hCX H e s' h).elim
    | ok fl =>
      cases fl with
      | next => exact False.elim h
      | brk => exact False.elim h
      | cont => exact False.elim h
      | ret u =>
        obtain ⟨v, H', os, bare, un, hok', r', q⟩ := h
        have q' : v = .bl true := q
        subst q'
        obtain rfl : u = Value.bool true := r'
        refine ⟨rfl, OldK.of_keep fun b o e => ?_, os, bare⟩
        cases q : H b with
        | none => exact un.keep b o e q (by intro z; exact absurd (show b ∈ ([] : List Addr) from z) (by simp)) (by simp)
        | some u =>
          rcases hO b with z | ⟨ob, xs, z⟩
          · rw [q] at z; cases z
          · have z2 := un.frzs b ob _ z
            obtain ⟨e1, _⟩ := hok b _ z
            obtain ⟨e2, _⟩ := hok' b _ z2
            rw [e] at e1; cases e1
            exact e2
  cases hk : K.lookup a with
  | some o =>
    -- the script is one of the module's own objects
    have e := KX a o hk
    rw [ha] at e
    cases e
    refine core (fun _ => none) (fun _ => .inl rfl) (.inr ⟨_, vs.toArray, _, hk, rfl, rfl, rfl, by rw [List.size_toArray, lenV]; exact hl, by simpa using rv⟩) (fun b u z => by have z' : (none : Option HO) = some u := z; cases z') (fun b z => absurd rfl z) fun z => absurd rfl z
  | none =>
    refine core (fun b => if b = a then some (.frz { cls := .type "list", data := .seq vs.toArray } (.lst (ns.map V.int))) else none) (fun b => ?_) (.inl (.inr ⟨{ cls := .type "list", data := .seq vs.toArray }, if_pos rfl⟩)) (fun b u z => ?_) (fun b z => ?_) fun _ => hk
    · by_cases hb : b = a
      · exact .inr ⟨_, _, if_pos hb⟩
      · exact .inl (if_neg hb)
    · by_cases hb : b = a
      · have z' := (if_pos hb).symm.trans z
        cases z'
        subst hb
        exact ⟨ha, by rw [List.length_map]; exact hl, vs, _, rv, ha⟩
      · have z' := (if_neg hb).symm.trans z
        cases z'
    · by_cases hb : b = a
      · exact hb
      · exact absurd (if_neg hb) z
end L2

namespace L2
open PySem PySem.Spec PyProof.Rows


theorem walk_of {l : PySem.W.OpenLaw} {n k : Nat} {q : Program} {loose : List Str} {XP : (Str → Option Value) → Heap → Prop} {YP : World → Heap → Prop} {d : DefRec} {K : Params → PySem.W.Frag} {CX : World → CXT} {sp : World → Sp} {x : Str}
    (hn : l.most = some n) (hn2 : n ≤ sizeLine) (hdf : d.params.defaults = []) (hr : Room k callerA)
    (hY : ∀ (w : World) (h : Heap), YP w h → (K w.params).In h)
    (F : ∀ (w : World) (mg : Str → Option Value) (fa : Addr) (h : Heap), (K w.params).In h → h.Ns mainGlobals mg → mg d.name = some (.ref fa) →
      ∃ fd : FuncData, (∀ (s : Shared) (u : Value), BindsTo s fd ⟨[u], []⟩ [(x, u)]) ∧
        ∀ base : Heap, (K w.params).In base → base.Ns mainGlobals mg → FnOk l.prog w (K w.params) mg base (CX w) k fa fd [x] (sp w))
    (hsp : ∀ (w : World) (H : Hp) (a : Addr) (ns : List Int), ns.length ≤ n → Only H → SqL (K w.params) H a (ns.map V.int) → sp w [.ref a] H (fun v _ => v = .bl true) fun _ _ _ => False)
    (hCX : ∀ (w : World) (H : Hp) (s : Shared) (e : Value) (s' : Shared), CX w [] H s (fun _ _ _ => False) e s' → False) :
    PySem.W.WalkO q loose XP YP l.row.toRowW d [] (fun f vs => PySem.call f vs) := by
  refine Att.attach_call hn hdf fun w s₀ s₁ mg mb fa o pm cd doc a vs ns G Y ho hd hcd hmg hobj hints hlen hg => ?_
  have KX := hY w _ Y
  obtain ⟨fd, hb, hF⟩ := F w mg fa _ KX G.T.g hmg
  exact law_call KX G.T.g G.T.b G.T.builtins G.T.nolimit hg hobj hints (Nat.le_trans hlen hn2) hr hF hb (fun H hO hS => hsp w H a ns hlen hO hS) fun H e s' => hCX w H s₁ e s'
end L2

/-! SHORT WORDS over the layer: a def of the text, its body, what a loop and a test want. -/
namespace L2
open PySem PySem.Spec PyProof.Rows

/-! ### the text by places -/
noncomputable def inClass (s : Stmt) (j : Nat) : Stmt := match s with
  | .ClassDef _ _ _ body _ _ _ _ _ _ _ => body.getD j (.Pass ⟨0, 0, 0, 0⟩)
  | _ => .Pass ⟨0, 0, 0, 0⟩
noncomputable def defArgs (s : Stmt) : Arguments := match s with
  | .FunctionDef _ a _ _ _ _ _ _ _ _ => a
  | _ => { posonlyargs := [], args := [], vararg := none, kwonlyargs := [], kw_defaults := [], kwarg := none, defaults := [] }
noncomputable def defBody (s : Stmt) : List Stmt := match s with
  | .FunctionDef _ _ b _ _ _ _ _ _ _ => b
  | _ => []
noncomputable def defScope (s : Stmt) : Scope := match s with
  | .FunctionDef _ _ _ _ _ _ sc _ _ _ => sc
  | _ => { kind := .function, names := [], isGenerator := false, isCoroutine := false }

/-! ### no exception leaves a def -/
noncomputable abbrev CX0 : CXT := fun _ _ _ _ _ _ => False
noncomputable abbrev E0 : XK := fun _ _ _ => False
theorem pass0 {X : Cx} : Passes CX0 X E0 := fun _ _ _ _ _ _ _ h => h.elim

/-! ### a def (or method) of the text as it stands behind the top -/
set_option genInjectivity false in
structure Fun (K : PySem.W.Frag) (x qual : Str) (st : Stmt) (f : Addr) (fd : FuncData) : Prop where
  ex : ∃ (oc : Value) (od : Option Addr) (kV doc pm : Value) (an : Option Addr) (cdv ct : Value) (osl : Array (Option Value)),
    fd = PySem.W.fnOf x qual (defArgs st) (defBody st) (defScope st) .none kV doc pm an cdv ct ∧ K.lookup f = some ⟨oc, od, .func fd, osl⟩ ∧ PySem.W.codeIn K cdv qual = true
  kp : PySem.W.keepIn K (.ref f) = true
section
variable {P : Program} {w : World} {K : PySem.W.Frag} {mg : Str → Option Value} {base : Heap}
theorem Fun.ok {x qual : Str} {st : Stmt} {f : Addr} {fd : FuncData} {N ps : List Str} {k : Nat} {sp : Sp} (F : Fun K x qual st f fd) (S : FnScope N ps (defScope st)) (len : ∀ vs H Q E, sp vs H Q E → vs.length = ps.length)
    (hbody : ∀ (cdv : Value) (A : Around) (outer : List Env) (s : Shared) (H : Hp) (vs : List V) (Q : VK) (E : XK), Room k (A.deeper (envOfC qual (defScope st) s.heap.objs.size f cdv)) → sp vs H Q E →
      ∃ t, PSs (cxOf CX0 P w K mg base N qual (defScope st) f cdv A outer s H E).nox (defBody st) t ∧ t { nx := fun _ H' => Q .non H', rt := Q } (start N vs) H) : FnOk P w K mg base CX0 (k + 1) f fd ps sp := by
  obtain ⟨oc, od, kV, doc, pm, an, cdv, ct, osl, rfl, lk, hcd⟩ := F.ex
  refine fn_of lk hcd S len fun A outer s H vs Q E hr hsp => ?_
  obtain ⟨t, h, q⟩ := hbody cdv A outer s H vs Q E hr hsp
  exact ⟨t, h.nox, q⟩
theorem Fun.binds {x qual : Str} {st : Stmt} {f : Addr} {fd : FuncData} {ps : List Str} (F : Fun K x qual st f fd)
    (h : ∀ (kV doc pm : Value) (an : Option Addr) (cdv ct : Value) (us : List Value), us.length = ps.length → bindArgs (PySem.W.fnOf x qual (defArgs st) (defBody st) (defScope st) .none kV doc pm an cdv ct) ⟨us, []⟩ = pure (ps.zip us)) : Binds K fd ps [] := by
  obtain ⟨oc, od, kV, doc, pm, an, cdv, ct, osl, rfl, lk, hcd⟩ := F.ex
  exact .all (h kV doc pm an cdv ct)
theorem fun_mk {x qual : Str} {st : Stmt} {f : Addr} {oc : Value} {od an : Option Addr} {osl : Array (Option Value)} {kV doc pm cdv ct : Value} (l : K.lookup f = some ⟨oc, od, .func (PySem.W.fnOf x qual (defArgs st) (defBody st) (defScope st) .none kV doc pm an cdv ct), osl⟩)
    (c : PySem.W.codeIn K cdv qual = true) (k : PySem.W.keepIn K (.ref f) = true) : Fun K x qual st f (PySem.W.fnOf x qual (defArgs st) (defBody st) (defScope st) .none kV doc pm an cdv ct) := ⟨⟨oc, od, kV, doc, pm, an, cdv, ct, osl, rfl, l, c⟩, k⟩
end

/-! ### expressions in short: the name that stands in the i-th slot -/
section
variable {X : Cx}
theorem pv (i : Nat) {x : Str} {pos : Pos} (hN : X.N[i]? = some x := by rfl) (hv : Vis X.env.scope x := by first | exact Or.inl rfl | exact Or.inr (Or.inl rfl) | exact Or.inr (Or.inr rfl)) (hd : (x == ("__debug__" : Str)) = false := by decide)
    (hcd : (x == ("__classdict__" : Str)) = false := by decide) : PE X (.Name x pos) (tVar i) := pe_var hN hv hd hcd
end

/-! ### tests -/
theorem iteF {A B : Prop} (h : B) : if false = true then A else B := by
  rw [if_neg Bool.false_ne_true]
  exact h
theorem iteT {A B : Prop} (h : A) : if true = true then A else B := by
  rw [if_pos rfl]
  exact h
theorem ite2 {c A B : Prop} [Decidable c] (h1 : c → A) (h2 : ¬ c → B) : if c then A else B := by
  by_cases h : c
  · rw [if_pos h]
    exact h1 h
  · rw [if_neg h]
    exact h2 h

/-! ### heaps -/
noncomputable def Same (H H' : Hp) : Prop := ∀ b o, H b = some o → H' b = some o
theorem Same.trans {H H1 H2 : Hp} (a : Same H H1) (b : Same H1 H2) : Same H H2 := fun c o h => b c o (a c o h)
theorem Same.seq {K : PySem.W.Frag} {H H' : Hp} {a : Addr} {xs : List V} (e : Same H H') (h : SqL K H a xs) : SqL K H' a xs := by
  rcases h with (h | ⟨o, h⟩) | h
  · exact .inl (.inl (e _ _ h))
  · exact .inl (.inr ⟨o, e _ _ h⟩)
  · exact .inr h

end L2

namespace L2
open PySem PySem.Spec PyProof.Rows
section
variable {X : Cx}
end
/-! ### a dict's pairs: keys that differ -/
section
variable {κ : Type} [DecidableEq κ]
end
end L2

namespace L2
open PySem PySem.Spec PyProof.Rows

/-! ### a comprehension's cells: those of the names that it takes from around it -/
noncomputable def clOf (env : Env) : List (Str × NameKind) → List (Str × Addr) → List (Str × Addr)
  | [], acc => acc
  | (n, k) :: r, acc => clOf env r (if (k == NameKind.free) = true then (n, (env.cells.lookup n).getD 0) :: acc else acc)
theorem clOf_ok {env : Env} : ∀ (ns : List (Str × NameKind)) (acc : List (Str × Addr)), (∀ x ∈ ns, x.2 = .free → ∃ c, env.cells.lookup x.1 = some c) →
    (∀ x c, acc.lookup x = some c → env.cells.lookup x = some c) → ∀ x c, (clOf env ns acc).lookup x = some c → env.cells.lookup x = some c
  | [], acc, _, ha => ha
  | (n, k) :: r, acc, hn, ha => by
    refine clOf_ok r _ (fun x hx => hn x (List.mem_cons_of_mem _ hx)) ?_
    intro x c e
    by_cases hk : (k == NameKind.free) = true
    · rw [if_pos hk] at e
      have hk' : k = .free := by simpa using hk
      obtain ⟨c', ec⟩ := hn (n, k) List.mem_cons_self hk'
      rw [List.lookup_cons] at e
      cases hx : x == n with
      | true =>
        rw [hx] at e
        have : x = n := by simpa using hx
        subst this
        have ec' : List.lookup x env.cells = some c' := ec
        rw [ec'] at e
        simp at e
        rw [← e]; exact ec'
      | false => rw [hx] at e; exact ha x c e
    · rw [if_neg hk] at e; exact ha x c e
theorem clOf_keep {env : Env} : ∀ (ns : List (Str × NameKind)) (acc : List (Str × Addr)) (x : Str), (∃ c, acc.lookup x = some c) → ∃ c, (clOf env ns acc).lookup x = some c
  | [], acc, x, h => h
  | (n, k) :: r, acc, x, h => by
    refine clOf_keep r _ x ?_
    by_cases hk : (k == NameKind.free) = true
    · rw [if_pos hk, List.lookup_cons]
      cases hx : x == n with
      | true => exact ⟨_, rfl⟩
      | false => exact h
    · rw [if_neg hk]; exact h
theorem clOf_has {env : Env} : ∀ (ns : List (Str × NameKind)) (acc : List (Str × Addr)) (x : Str), (x, NameKind.free) ∈ ns → ∃ c, (clOf env ns acc).lookup x = some c
  | [], acc, x, h => absurd h (by simp)
  | (n, k) :: r, acc, x, h => by
    rcases List.mem_cons.mp h with e | e
    · injection e with e1 e2
      subst e1 e2
      refine clOf_keep r _ x ⟨(env.cells.lookup x).getD 0, ?_⟩
      rw [if_pos (by decide)]
      simp
    · exact clOf_has r _ x e
theorem closureFor_eq {scope : Scope} {env : Env} (h : ∀ x ∈ scope.names, x.2 = .free → ∃ c, env.cells.lookup x.1 = some c) : closureFor scope env = pure (clOf env scope.names []) := by
  have key : ∀ (ns : List (Str × NameKind)) (acc : List (Str × Addr)), (∀ x ∈ ns, x.2 = .free → ∃ c, env.cells.lookup x.1 = some c) →
      (do let r ← forIn (m := Sem) ns acc (fun x r => if (x.2 == NameKind.free) = true then do let c ← cellOf env x.1; pure (ForInStep.yield ((x.1, c) :: r)) else pure (ForInStep.yield r)); pure r : Sem (List (Str × Addr))) = pure (clOf env ns acc) := by
    intro ns
    induction ns with
    | nil => intro acc _; rfl
    | cons y r ih =>
      intro acc hy
      obtain ⟨n, k⟩ := y
      rw [List.forIn_cons]
      by_cases hk : (k == NameKind.free) = true
      · have hk' : k = .free := by simpa using hk
        obtain ⟨c, ec⟩ := hy (n, k) List.mem_cons_self hk'
        have ec' : List.lookup n env.cells = some c := ec
        have e1 : cellOf env n = pure c := by unfold cellOf; rw [ec']
        simp only [hk, if_true, e1]
        have := ih ((n, c) :: acc) fun x hx => hy x (List.mem_cons_of_mem _ hx)
        show _ = pure (clOf env r (if (k == NameKind.free) = true then (n, (List.lookup n env.cells).getD 0) :: acc else acc))
        rw [if_pos hk, ec']
        exact this
      · simp only [hk]
        have := ih acc fun x hx => hy x (List.mem_cons_of_mem _ hx)
        show _ = pure (clOf env r (if (k == NameKind.free) = true then (n, (List.lookup n env.cells).getD 0) :: acc else acc))
        rw [if_neg hk]
        exact this
  simp only [closureFor]
  rw [key scope.names [] h]
  rfl
/-! ### the turns of a comprehension -/
section
variable {prog : Program} {w : World} {A : Around} {R : Result → Shared → Prop} {s : Shared}
theorem compLoop_any {elt target iter : Expr} {ifs : List Expr} {scope : Scope} {pos : Pos} {it acc : Value} {env : Env} (I : Nat → Shared → Prop)
    (turn : ∀ n s, I n s → wpAny (model prog w) A (pyNext it) (fun r s₁ => match r with
      | none => R (.ok .next) s₁
      | some v => wpAny (model prog w) A (letOwnedTupleGo target it v) (fun _ s₁' => wpAny (model prog w) A (assign target env v) (fun _ s₂ =>
          wpAny (model prog w) A (forIn ifs true fun c r => if r = true then do let ok ← isTrue c env (eval c env); pure (ForInStep.yield ok) else pure (ForInStep.yield r)) (fun ok s₃ =>
            if ok = true then wpAny (model prog w) A (eval elt env) (fun x s₄ =>
              wpAny (model prog w) A (call (.builtin "list.append") [acc, x]) (fun _ s₅ => ∃ m, m < n ∧ I m s₅) (fun _ _ => False) s₄) (fun _ _ => False) s₃
            else ∃ m, m < n ∧ I m s₃) (fun _ _ => False) s₂) (fun _ _ => False) s₁') (fun _ _ => False) s₁) (fun _ _ => False) s)
    (n : Nat) (h : I n s) :
    codeAny (model prog w) A (.compLoop (.ListComp elt [⟨target, iter, ifs, 0⟩] scope pos) 0 it acc env) R s := by
  refine codeAny_loop rfl I (fun n s hI => ?_) n h
  show wpAny _ A ((compTurn (.ListComp elt [⟨target, iter, ifs, 0⟩] scope pos) 0 it acc env).onRaise (fun x => do noteFrame x env; theTreesLotGoes x)) _ _ s
  refine wpAny_noted ?_
  rw [compTurn_list]
  refine wpAny_bind (wpAny_standAt (wpAny_bind (wpAny_mono (turn n s hI) (fun r s₁ h₁ => ?_) fun _ _ h' => h'.elim)))
  cases r with
  | none => exact wpAny_pure h₁
  | some v =>
    refine wpAny_bind (wpAny_mono h₁ (fun _ s₁' h₁' => ?_) fun _ _ h' => h'.elim)
    refine wpAny_bind (wpAny_mono h₁' (fun _ s₂ h₂ => wpAny_bind (wpAny_mono h₂ (fun ok s₃ h₃ => ?_) fun _ _ h' => h'.elim)) fun _ _ h' => h'.elim)
    cases ok with
    | false => exact wpAny_pure ⟨rfl, h₃⟩
    | true =>
      exact wpAny_bind (wpAny_bind (wpAny_mono h₃ (fun x s₄ h₄ => wpAny_bind (wpAny_mono h₄ (fun _ s₅ h₅ => wpAny_pure (wpAny_pure ⟨rfl, h₅⟩)) fun _ _ h' => h'.elim)) fun _ _ h' => h'.elim))
end

/-! ### the block's context -/
noncomputable def blk (X : Cx) (N' : List Str) (scope : Scope) (fp : List Addr) (s : Shared) (H : Hp) : Cx :=
  { X with N := N', s₀ := s, H₀ := H, env := compEnvC scope (clOf X.env scope.names []) s.heap.objs.size X.env, outer := X.stack, stack := X.stack, ex := fp, fn := fun _ => false, xe := fun _ _ => False }
noncomputable def PTs (X : Cx) (ifs : List Expr) (t : TT) : Prop :=
  ∀ (pins : List (Addr × Obj)) (s : Shared) (σ : St) (H : Hp) (Q : Bool → Hp → Prop), Inv X pins σ H s → t σ H Q →
    wpAny (model X.prog X.w) X.A (forIn ifs true fun c r => if r = true then do let ok ← isTrue c X.env (eval c X.env); pure (ForInStep.yield ok) else pure (ForInStep.yield r)) (TP X pins σ Q) X.xe s
noncomputable def tYes : TT := fun _ H Q => Q true H
theorem pts_nil {X : Cx} : PTs X [] tYes := fun _ _ _ H _ I h => wpAny_tests_nil ⟨H, I, h⟩
inductive Ext : St → St → Prop
  | nil : Ext [] []
  | no {σ τ : St} {a : Option V} : Ext σ τ → Ext (none :: σ) (a :: τ)
  | yes {σ τ : St} {v : V} : Ext σ τ → Ext (some v :: σ) (some v :: τ)
theorem Ext.len : ∀ {σ τ : St}, Ext σ τ → σ.length = τ.length
  | _, _, .nil => rfl
  | _, _, .no h => by simp [h.len]
  | _, _, .yes h => by simp [h.len]
theorem Ext.get : ∀ {σ τ : St}, Ext σ τ → ∀ (i : Nat) (v : V), σ[i]? = some (some v) → τ[i]? = some (some v)
  | _, _, .nil, i, v, e => e
  | _, _, .no h, 0, v, e => by simp at e
  | _, _, .no h, i + 1, v, e => by simpa using h.get i v (by simpa using e)
  | _, _, .yes h, 0, v, e => by simpa using e
  | _, _, .yes h, i + 1, v, e => by simpa using h.get i v (by simpa using e)
noncomputable def blkSt (k : Nat) (fm : List Nat) (σ : St) : St := List.replicate k none ++ fm.map fun j => (σ[j]?).join
noncomputable def tComp (k : Nat) (fm : List Nat) (wi : TI) (g : TG) (tt : TT) (te : TE) : TE := fun σ H Q => wi σ H fun J H1 => ∀ D, H1 D = none → ∃ W : Nat → Nat → List V → Hp → Prop,
  (∃ m, W 0 m [] (upd H1 D (.lst []))) ∧ ∀ i m ys H2, W i m ys H2 → H2 D = some (.lst ys) ∧ ys.length < sizeLine ∧ ((J.stop i H2 ∧ Q (.ref D) H2) ∨ (J.go i H2 ∧ ∃ N : List V → Hp → Prop, (∀ ys' H', N ys' H' → ∃ m', m' < m ∧ W (i + 1) m' ys' H') ∧ ∀ x H3, J.yld i H2 x H3 →
    g x (blkSt k fm σ) H3 fun σ3 H4 => Ext (blkSt k fm σ) σ3 ∧ tt σ3 H4 fun b H5 => if b = true then te σ3 H5 fun y H6 => H6 D = some (.lst ys) ∧ N (ys ++ [y]) (upd H6 D (.lst (ys ++ [y]))) else N ys H5))
theorem Un.tail {fs ex : List Addr} {H H' : Hp} {h h1 h2 : Heap} {C : Addr} (u : Un fs ex H H' h h1) (k : ∀ b o, b ≠ C → h1.get? b = some o → h2.get? b = some o) (hC : h.get? C = none) : Un fs ex H H' h h2 := by
  have ne : ∀ b o, h.get? b = some o → b ≠ C := fun b o e z => by rw [z, hC] at e; cases e
  exact ⟨fun b o e n hf hx => k b o (ne b o e) (u.keep b o e n hf hx), fun b o e n hf hx => let ⟨sl, q⟩ := u.slot b o e n hf hx; ⟨sl, k b _ (ne b o e) q⟩, u.free,
    fun b o e hx => let ⟨o', q⟩ := u.there b o e hx; ⟨o', k b _ (ne b o e) q⟩, u.tups, u.frzs, u.tbls⟩
theorem HOk.tail {P : Program} {w : World} {H : Hp} {h1 h2 : Heap} {C : Addr} (ok : HOk P w H h1) (k : ∀ b o, b ≠ C → h1.get? b = some o → h2.get? b = some o) (hC : H C = none) : HOk P w H h2 := fun a o e => by
  have ne : ∀ b u, H b = some u → b ≠ C := fun b u q z => by rw [z, hC] at q; cases q
  refine (ok a o e).stay (fun b u hb q => k b u ?_ q) (fun _ q => q) fun _ _ q => q
  rcases hb with z | z
  · rw [z]; exact ne a o e
  · exact ne b _ z
theorem lookup_relabel {env : Env} : ∀ {names : List (Str × NameKind)} {x : Str} {k : NameKind},
    (names.map fun (n, k) => if (k == NameKind.free && env.scope.kind == .function && env.kindOf n == some .cell) then (n, NameKind.cell) else (n, k)).lookup x = some k → ∃ k', names.lookup x = some k' ∧ (k = k' ∨ (k' = .free ∧ k = .cell))
  | [], _, _, h => by simp at h
  | (n, k0) :: r, x, k, h => by
    have ih := @lookup_relabel env r x k
    have h : List.lookup x ((if (k0 == NameKind.free && env.scope.kind == .function && env.kindOf n == some .cell) = true then (n, NameKind.cell) else (n, k0)) :: (r.map fun (n, k) => if (k == NameKind.free && env.scope.kind == .function && env.kindOf n == some .cell) then (n, NameKind.cell) else (n, k))) = some k := h
    by_cases hc : (k0 == NameKind.free && env.scope.kind == .function && env.kindOf n == some .cell) = true
    · rw [if_pos hc, List.lookup_cons] at h
      have k0f : k0 = .free := by
        simp only [Bool.and_eq_true] at hc
        simpa using hc.1.1
      rw [List.lookup_cons]
      cases hx : x == n with
      | true => rw [hx] at h; injection h with h; exact ⟨k0, rfl, .inr ⟨k0f, h.symm⟩⟩
      | false => rw [hx] at h; exact ih h
    · rw [if_neg hc, List.lookup_cons] at h
      rw [List.lookup_cons]
      cases hx : x == n with
      | true => rw [hx] at h; injection h with h; exact ⟨k0, rfl, .inl h.symm⟩
      | false => rw [hx] at h; exact ih h
set_option genInjectivity false in
structure BlkScope (X : Cx) (N' : List Str) (k : Nat) (fm : List Nat) (scope : Scope) : Prop where
  kind : scope.kind = .function
  nocell : ∀ y ∈ scope.names, y.2 ≠ .cell
  names : ∀ y ∈ scope.names, y.2 = .local → scope.names.lookup y.1 = some .local
  free : ∀ y ∈ scope.names, y.2 = .free → X.env.kindOf y.1 = some .cell ∨ X.env.kindOf y.1 = some .free
  len : N'.length = k + fm.length
  slots : ∀ i x, k ≤ i → N'[i]? = some x → scope.names.lookup x = some .free ∧ ∃ j, fm[i - k]? = some j ∧ X.N[j]? = some x
section
variable {X : Cx} {pins : List (Addr × Obj)} {σ : St} {H : Hp} {s : Shared}
theorem Inv.block {N' : List Str} {k : Nat} {fm : List Nat} {scope : Scope} {fp : List Addr} {h' : Heap} {tk : Nat} (B : BlkScope X N' k fm scope) (I : Inv X pins σ H s) (hf : ∀ b ∈ fp, FpOk X pins H b) (ho : ∀ b ∈ fp, ∃ o, s.heap.get? b = some o)
    (ns : h'.Ns s.heap.objs.size (fun _ => none)) (kp : ∀ b o, s.heap.get? b = some o → h'.get? b = some o) : Inv (blk X N' scope fp s H) [] (blkSt k fm σ) H { s with heap := h', toks := tk } := by
  have hfree : ∀ x ∈ scope.names, x.2 = .free → ∃ c, X.env.cells.lookup x.1 = some c := fun x hx hk => I.ok.has x.1 (B.free x hx hk)
  have hcl : ∀ x c, (clOf X.env scope.names []).lookup x = some c → X.env.cells.lookup x = some c := clOf_ok scope.names [] hfree fun x c e => by simp at e
  have stk : ∀ b ∈ frs X.stack, b ∈ X.env.locals :: X.fs := I.stkSub
  have hC : H s.heap.objs.size = none := I.hok.fresh (Nat.le_refl _)
  have ok : (blk X N' scope fp s H).Ok := {
    mod := I.ok.mod
    kind := B.kind
    glob := I.ok.glob
    blt := I.ok.blt
    above := Nat.le_refl _
    inj := fun x y c h1 h2 => I.ok.inj x y c (hcl x c h1) (hcl y c h2)
    has := fun x hx => by
      have hx : (relabel scope X.env).names.lookup x = some .cell ∨ (relabel scope X.env).names.lookup x = some .free := hx
      have : scope.names.lookup x = some .free := by
        rcases hx with e | e
        · obtain ⟨k', e1, e2⟩ := lookup_relabel e
          rcases e2 with e2 | ⟨e2, _⟩
          · subst e2; exact absurd rfl (B.nocell _ (PySem.mem_of_lookup e1))
          · rw [e1, e2]
        · obtain ⟨k', e1, e2⟩ := lookup_relabel e
          rcases e2 with e2 | ⟨e2, e3⟩
          · rw [e1, e2]
          · rw [e1, e2]
      exact clOf_has scope.names [] x (PySem.mem_of_lookup this)
    cab := fun x c e => by cases e
    hd := I.ok.hd
    frames := I.ok.frames
    stk := .inl rfl
    exf := fun b hb => ⟨fun z => by
        obtain ⟨o, e⟩ := ho b hb
        have hlt := Heap.lt_size e
        rw [z] at hlt
        exact Nat.lt_irrefl _ hlt, fun x c e => (hf b hb).2.2.2.2.1 x c (hcl x c e)⟩
    bs := I.bs
    bsz := Nat.le_trans I.ok.bsz I.sz
    noex := fun b o e hb => by
      rcases (hf b hb).2.2.2.1 with z | z
      · exact I.ok.noex b o e z
      · exact absurd (Nat.lt_of_lt_of_le (Heap.lt_size e) (Nat.le_trans I.ok.bsz z)) (Nat.lt_irrefl _)
    exfs := fun b hb z => (List.mem_cons.mp (stk b z)).elim (hf b hb).2.1 (hf b hb).2.2.1
    funs := I.stack
    frf := I.stkFree }
  refine ⟨ok, rfl, I.bare, Un.kept kp, ⟨_, ns, fun i x v h1 h2 h3 => ?_⟩, fun x c e => ?_, hC, fun x c e => I.freeC x c (hcl x c e), fun p hp => ?_, I.hok.kept kp, ?_⟩
  · have hk : k ≤ i := by
      refine Nat.le_of_not_lt fun z => ?_
      unfold blkSt at h2
      rw [List.getElem?_append_left (by simpa using z), List.getElem?_replicate, if_pos z] at h2
      cases h2
    obtain ⟨e1, j, e2, e3⟩ := B.slots i x hk h1
    have e4 : σ[j]? = some (some v) := by
      unfold blkSt at h2
      rw [List.getElem?_append_right (by simpa using hk), List.length_replicate, List.getElem?_map, e2] at h2
      have h2 : some (σ[j]?).join = some (some v) := h2
      injection h2 with h2
      cases e : σ[j]? with
      | none => rw [e] at h2; cases h2
      | some o => rw [e] at h2; rw [show o = some v from h2]
    have kf := B.free (x, .free) (PySem.mem_of_lookup e1) rfl
    obtain ⟨m, hn, hl⟩ := I.loc
    obtain ⟨u, ru, lk⟩ := hl j x v e3 e4 (.inr kf)
    refine ⟨u, ru, .inr ⟨?_, ?_⟩⟩
    · have h3 : (relabel scope X.env).names.lookup x = some .local ∨ (relabel scope X.env).names.lookup x = some .cell ∨ (relabel scope X.env).names.lookup x = some .free := h3
      rcases h3 with z | z
      · obtain ⟨k', q1, q2⟩ := lookup_relabel z
        rw [e1] at q1
        injection q1 with q1
        subst q1
        rcases q2 with q2 | ⟨_, q2⟩ <;> cases q2
      · exact z
    · obtain ⟨c, hc⟩ := clOf_has (env := X.env) scope.names [] x (PySem.mem_of_lookup e1)
      refine ⟨c, hc, ?_⟩
      rcases lk with ⟨z, _⟩ | ⟨_, c', ec, ic⟩
      · rcases kf with y | y <;> (rw [z] at y; cases y)
      · rw [hcl x c hc] at ec
        injection ec with ec
        subst ec
        exact ic.keeps kp
  · obtain ⟨v, q⟩ := I.cell x c (hcl x c e)
    exact ⟨v, q.keeps kp⟩
  · obtain ⟨p1, p2, p3, p4, p5⟩ := I.pin p ((List.mem_append.mp hp).elim (fun z => List.mem_append_left _ z) fun z => absurd z (by simp))
    refine ⟨kp _ _ p1, p2, fun z => ?_, fun z => (List.mem_cons.mp (stk _ z)).elim p3 p4, p5⟩
    have hlt := Heap.lt_size p1
    rw [z] at hlt
    exact Nat.lt_irrefl _ hlt
  · show (blkSt k fm σ).length = N'.length
    unfold blkSt
    rw [List.length_append, List.length_replicate, List.length_map, B.len]
theorem blk_loop {X : Cx} {elt iter tg : Expr} {ifs : List Expr} {scope : Scope} {pos : Pos} {g : TG} {tt : TT} {te : TE} {J : It} {fp : List Addr} {it D : Addr} {tn : Nat → Heap → Prop} {σ0 : St} {H3 : Hp} {s4 : Shared} {Q : VK} {R : Result → Shared → Prop} {W : Nat → Nat → List V → Hp → Prop} {m0 : Nat}
    (hx : X.xe = fun _ _ => False) (hc : X.calm = true) (T : Turn X.prog X.w X.K tg J fp it tn) (stat : ∀ {H' : Hp}, (∀ b ∈ fp, H' b = none) → ∀ b ∈ fp, FpOk X [] H' b) (hg : PG X tg g) (ht : PTs X ifs tt) (he : PE X elt te)
    (turn : ∀ i m ys H2, W i m ys H2 → H2 D = some (.lst ys) ∧ ys.length < sizeLine ∧ ((J.stop i H2 ∧ Q (.ref D) H2) ∨ (J.go i H2 ∧ ∃ N : List V → Hp → Prop, (∀ ys' H', N ys' H' → ∃ m', m' < m ∧ W (i + 1) m' ys' H') ∧ ∀ x H3, J.yld i H2 x H3 →
      g x σ0 H3 fun σ3 H4 => Ext σ0 σ3 ∧ tt σ3 H4 fun b H5 => if b = true then te σ3 H5 fun y H6 => H6 D = some (.lst ys) ∧ N (ys ++ [y]) (upd H6 D (.lst (ys ++ [y]))) else N ys H5)))
    (I4 : Inv X [] σ0 H3 s4) (st4 : tn 0 s4.heap) (fr4 : ∀ b ∈ fp, H3 b = none) (w4 : W 0 m0 [] H3)
    (hR : ∀ H' s', Inv X [] σ0 H' s' → Q (.ref D) H' → R (.ok .next) s') :
    codeAny (model X.prog X.w) X.A (.compLoop (.ListComp elt [⟨tg, iter, ifs, 0⟩] scope pos) 0 (.ref it) (.ref D) X.env) R s4 := by
  refine compLoop_any (fun n s' => ∃ i ys H', Inv X [] σ0 H' s' ∧ tn i s'.heap ∧ (∀ b ∈ fp, H' b = none) ∧ W i n ys H') ?_ m0 ⟨0, [], H3, I4, st4, fr4, w4⟩
  rintro n s5 ⟨i, ys, H5, I5, st5, fr5, w5⟩
  obtain ⟨hD, hl, cs⟩ := turn i n ys H5 w5
  rcases cs with ⟨stop, q⟩ | ⟨go, N, hN, step⟩
  · refine thn (T.done X rfl rfl rfl hc i [] s5 σ0 H5 _ I5 (stat fr5) st5 stop) fun r s6 ⟨hr, I6⟩ => ?_
    subst hr
    exact hR H5 s6 I6 q
  · refine thn (T.item X rfl rfl rfl hc i [] s5 σ0 H5 _ I5 (stat fr5) st5 go) fun r s6 ⟨u, hr, h6⟩ => ?_
    subst hr
    refine thn h6 fun _ s7 ⟨x, H7, I7, r7, y7, st7, fr7⟩ => ?_
    have I7' := I7.pinned (stat fr7) (T.obj _ _ st7)
    have again : ∀ {σ' : St} {H' : Hp} {s' : Shared}, Ext σ0 σ' → Inv X ([] ++ pinsAt fp s7.heap) σ' H' s' → Inv X [] σ0 H' s' ∧ tn (i + 1) s'.heap ∧ ∀ b ∈ fp, H' b = none := fun {σ' H' s'} ex I' => by
      refine ⟨I'.unpinned.weak ex.len ex.get, T.keep _ _ _ st7 fun b hb o e => (I'.pin (b, o) (List.mem_append_right _ (List.mem_append_right _ (mem_pinsAt hb e)))).1, fun b hb => ?_⟩
      obtain ⟨o, e, d⟩ := T.obj _ _ st7 b hb
      exact (I'.pin (b, o) (List.mem_append_right _ (List.mem_append_right _ (mem_pinsAt hb e)))).2.1
    have w8 := hg _ s7 σ0 H7 x u _ I7' r7 (step x H7 y7)
    rw [hx] at w8
    refine thn w8 fun _ s8 ⟨σ8, H8, I8, ex8, q8⟩ => ?_
    have w9 := ht _ s8 σ8 H8 _ I8 q8
    rw [hx] at w9
    refine thn w9 fun ok s9 ⟨H9, I9, q9⟩ => ?_
    cases ok with
    | false =>
      obtain ⟨m', hm, w'⟩ := hN _ _ q9
      obtain ⟨a1, a2, a3⟩ := again ex8 I9
      exact ⟨m', hm, i + 1, ys, H9, a1, a2, a3, w'⟩
    | true =>
      have w10 := he _ s9 σ8 H9 _ I9 q9
      rw [hx] at w10
      refine thn w10 fun y s10 ⟨yv, H10, I10, r10, hD10, n10⟩ => ?_
      obtain ⟨m', hm, w'⟩ := hN _ _ n10
      have w11 := mt_append (X := X) _ s10 σ8 H10 (.ref D) [yv] (.ref D) [y] (fun v H' => v = .non ∧ H' = upd H10 D (.lst (ys ++ [yv]))) I10 rfl (.cons r10 .nil) ⟨D, ys, yv, rfl, rfl, hD10, hl, rfl, rfl⟩
      rw [hx] at w11
      refine thn w11 fun _ s11 ⟨_, H11, I11, _, _, e11⟩ => ?_
      subst e11
      obtain ⟨a1, a2, a3⟩ := again ex8 I11
      exact ⟨m', hm, i + 1, _, _, a1, a2, a3, w'⟩
theorem pe_comp {elt iter tg : Expr} {ifs : List Expr} {scope : Scope} {pos : Pos} {N' : List Str} {k : Nat} {fm : List Nat} {wi : TI} {g : TG} {tt : TT} {te : TE} (B : BlkScope X N' k fm scope) (hc : X.calm = true) (hi : PI X tg iter wi)
    (hb : ∀ fp s H, PG (blk X N' scope fp s H) tg g ∧ PTs (blk X N' scope fp s H) ifs tt ∧ PE (blk X N' scope fp s H) elt te)
    (hs : ∀ x, foldedSetIterable iter X.env x = pure x := by intro _; rfl) : PE X (.ListComp elt [⟨tg, iter, ifs, 0⟩] scope pos) (tComp k fm wi g tt te) := by
  intro pins s σ H Q I h
  have hfree : ∀ x ∈ scope.names, x.2 = .free → ∃ c, X.env.cells.lookup x.1 = some c := fun x hx hk => I.ok.has x.1 (B.free x hx hk)
  rw [eval_ListComp]
  refine wpAny_comprehension_free (use := none) rfl hs (closureFor_eq hfree) B.kind B.names (thn (hi pins s σ H _ I h) fun v s1 h1 => thn h1 fun itv s2 h2 => ?_)
  obtain ⟨it, fp, tn, J, H2, e, I2, T, st2, f2, h2⟩ := h2
  subst e
  obtain ⟨W, ⟨m0, w0⟩, turn⟩ := h2 s2.heap.objs.size I2.fresh
  refine wpAny_newObj_type (wpAny_newFunctionEnv B.nocell (by intro y hy; simp at hy) (fun h4 hns4 hsb4 => ?_) B.kind)
  have I3 := I2.lnew (its := []) (ys := []) (t' := s2.toks) .nil (Nat.zero_le _)
  have hf3 : ∀ b ∈ fp, FpOk X pins (upd H2 s2.heap.objs.size (.lst [])) b := fun b hb => by
    obtain ⟨o, e, _⟩ := T.obj _ _ st2 b hb
    refine ⟨?_, (f2 b hb).2⟩
    rw [upd_ne (fun z => Nat.lt_irrefl _ (z ▸ Heap.lt_size e))]
    exact (f2 b hb).1
  have ho3 : ∀ b ∈ fp, ∃ o, (s2.heap.push { cls := .type "list", data := .seq ([] : List Value).toArray }).get? b = some o := fun b hb => by
    obtain ⟨o, e, _⟩ := T.obj _ _ st2 b hb
    exact ⟨o, Heap.get?_push_of_some _ e⟩
  have kp4 : ∀ b o, (s2.heap.push { cls := .type "list", data := .seq ([] : List Value).toArray }).get? b = some o → h4.get? b = some o := fun b o e =>
    hsb4.extBut b o (fun z => Nat.lt_irrefl _ (z ▸ Heap.lt_size e)) (Heap.get?_push_of_some _ e)
  have I4 := I3.block (fp := fp) (h' := h4) (tk := s2.toks + ([] : List (Str × Value)).length) B hf3 ho3 hns4 kp4
  generalize hs3 : ({ s2 with heap := s2.heap.push { cls := .type "list", data := .seq ([] : List Value).toArray }, toks := s2.toks } : Shared) = s3 at *
  obtain ⟨hg, ht, he⟩ := hb fp s3 (upd H2 s2.heap.objs.size (.lst []))
  have st4 : tn 0 h4 := T.keep _ _ _ st2 fun b hb o e => kp4 b o (Heap.get?_push_of_some _ e)
  have stat : ∀ {H' : Hp}, (∀ b ∈ fp, H' b = none) → ∀ b ∈ fp, FpOk (blk X N' scope fp s3 (upd H2 s2.heap.objs.size (.lst []))) [] H' b := fun {H'} hn b hb => by
    obtain ⟨f0, f1, f3, f4, f5, f6⟩ := hf3 b hb
    obtain ⟨g1, g2⟩ := I4.ok.exf b hb
    exact ⟨hn b hb, g1, I4.ok.exfs b hb, .inl hb, g2, fun p hp => f6 p ((List.mem_append.mp hp).elim (fun z => List.mem_append_left _ z) fun z => absurd z (by simp))⟩
  have loop : codeAny (model X.prog X.w) X.A (.compLoop (.ListComp elt [⟨tg, iter, ifs, 0⟩] scope pos) 0 (.ref it) (.ref s2.heap.objs.size) (compEnvC scope (clOf X.env scope.names []) s3.heap.objs.size X.env))
      (compPost (model X.prog X.w) X.A X.xe none (EP X pins σ Q) (.ref s2.heap.objs.size) s3.heap.objs.size) { s3 with heap := h4, toks := s2.toks + ([] : List (Str × Value)).length } := by
    refine blk_loop (X := blk X N' scope fp s3 (upd H2 s2.heap.objs.size (.lst []))) (D := s2.heap.objs.size) (Q := Q) (W := W) (m0 := m0) rfl hc T stat hg ht he turn I4 st4 (fun b hb => (hf3 b hb).1) w0 ?_
    intro H' s' I' q
    obtain ⟨m, hn, _⟩ := I'.loc
    refine ⟨m, hn, fun h'' hs'' => ?_⟩
    have hC : s3.heap.get? s3.heap.objs.size = none := by
      cases e : s3.heap.get? s3.heap.objs.size with
      | none => rfl
      | some o => exact absurd (Heap.lt_size e) (Nat.lt_irrefl _)
    have u : Un (frs X.stack) fp (upd H2 s2.heap.objs.size (.lst [])) H' s3.heap h'' := Un.tail I'.base (fun b o hb e => hs''.extBut b o hb e) hC
    refine ⟨.ref s2.heap.objs.size, H', ?_, rfl, q⟩
    refine I3.call' (s' := { s' with heap := h'' }) (ch := fp) I'.os u (I'.hok.tail (fun b o hb e => hs''.extBut b o hb e) I'.free) I'.bare fun b hb => ?_
    obtain ⟨f0, f1, f3, f4, f5, f6⟩ := hf3 b hb
    exact ⟨f4, f1, f5, f6⟩
  subst hs3
  exact codeAny_compStart_list loop (T.self X.A 0 _ _ _ st4 loop)
end
end L2

namespace L2
open PySem PySem.Spec PyProof.Rows

/-! ### the signs of a text, walked -/
noncomputable def Its (z : Str) : It := ⟨fun i _ => i < z.cps.size, fun i H x H' => H' = H ∧ ∃ c, z.cps[i]? = some c ∧ x = .str ⟨#[c]⟩, fun i _ => z.cps.size ≤ i⟩
section
variable {X : Cx} {tg : Expr}
noncomputable def iStr (tl : TE) : TI := fun σ H R => tl σ H fun x H1 => ∃ z, x = .str z ∧ R (Its z) H1
end

/-! ### a part of a text -/
section
variable {X : Cx}
noncomputable def rSlS : V → Option Int → Option Int → Hp → VK → Prop := fun x lo hi H Q => ∃ z, x = .str z ∧ z.length ≤ sizeLine ∧ Q (.str (Txt.slice z lo hi)) H
theorem sl_str : SlR X rSlS := by
  intro pins s σ H x v vl vu lo hi sl Q I rx hs pl pu h
  obtain ⟨z, rfl, hz, q⟩ := h
  obtain ⟨t, rfl⟩ := rx
  refine ⟨"str", _, F.slot_str_getitem.lookup, typeIs_str _ _ _, ?_⟩
  have fin : ∀ t' k, EP X pins σ Q (.str (Txt.slice z lo hi) t') { s with toks := k } := fun t' k => ⟨.str (Txt.slice z lo hi), H, I.tok k, ⟨t', rfl⟩, q⟩
  obtain ⟨o, ho, hc, hd⟩ := hs
  cases pl with
  | none =>
    cases pu with
    | none => exact wpAny_getItem_str_slice (l := none) (u := none) (st := none) ⟨o, ho, hc, hd⟩ rfl (post_val_or_str ⟨Nat.le_trans (Txt.slice_le z _ _) hz, fun t' k => fin t' k⟩)
    | int j uj => exact wpAny_getItem_str_slice (l := none) (u := some (j, uj)) (st := none) ⟨o, ho, hc, hd⟩ rfl (post_val_or_str ⟨Nat.le_trans (Txt.slice_le z _ _) hz, fun t' k => fin t' k⟩)
  | int i ui =>
    cases pu with
    | none => exact wpAny_getItem_str_slice (l := some (i, ui)) (u := none) (st := none) ⟨o, ho, hc, hd⟩ rfl (post_val_or_str ⟨Nat.le_trans (Txt.slice_le z _ _) hz, fun t' k => fin t' k⟩)
    | int j uj => exact wpAny_getItem_str_slice (l := some (i, ui)) (u := some (j, uj)) (st := none) ⟨o, ho, hc, hd⟩ rfl (post_val_or_str ⟨Nat.le_trans (Txt.slice_le z _ _) hz, fun t' k => fin t' k⟩)

/-! ### all of a list of truths -/
noncomputable def rAll (K : PySem.W.Frag) : List V → Hp → VK → Prop := fun xs H Q => ∃ (a : Addr) (bs : List Bool), xs = [.ref a] ∧ SqL K H a (bs.map V.bl) ∧ Q (.bl (bs.all id)) H

/-! ### isinstance -/
noncomputable def rIsi (K : PySem.W.Frag) : List V → Hp → VK → Prop := fun xs H Q => ∃ x n t b, xs = [x, .ty n] ∧ TyOf K H x t ∧ PySem.W.kitOne K t (.type n) = some b ∧ Q (.bl b) H
theorem call_isi : CallR X (.builtin "isinstance") (rIsi X.K) := by
  intro pins s σ H xs us Q I r h
  obtain ⟨x, n, t, b, rfl, ty, e, q⟩ := h
  obtain ⟨u, u2, rfl, ru, ru2⟩ := vals2 r
  cases ru2
  exact isinst_ok I ru ty e fun tk => ⟨.bl b, H, I.tok tk, rfl, q⟩

/-! ### list + list, lists that are read -/
noncomputable def rCatS (K : PySem.W.Frag) : R2 := fun x y H Q => ∃ l b xs zs, x = .ref l ∧ y = .ref b ∧ SqL K H l xs ∧ SqL K H b zs ∧ xs.length + zs.length ≤ sizeLine ∧ ∀ p, H p = none → Q (.ref p) (upd H p (.lst (xs ++ zs)))
theorem op_catS : OpR X (binaryOp .Add) (rCatS X.K) := by
  intro pins s σ H x y v u Q I rx ry h
  obtain ⟨l, b, xs, zs, rfl, rfl, hH, hB, hz, q⟩ := h
  cases rx
  cases ry
  obtain ⟨vs, r, p, z⟩ := I.list hH
  obtain ⟨ws, r2, p2, z2⟩ := I.list hB
  have l1 := r.length
  have l2 := r2.length
  obtain ⟨⟨cls, dd, data, sl⟩, n, ho, hc, hdd, hd⟩ := p
  obtain ⟨⟨cls2, dd2, data2, sl2⟩, n2, ho2, hc2, hdd2, hd2⟩ := p2
  simp only at hc hd hc2 hd2
  subst hc hd hc2 hd2
  have e : vs.toArray ++ ws.toArray = (vs ++ ws).toArray := by simp
  refine concat_meets ⟨_, ho, rfl⟩ ⟨_, ho2, rfl⟩ noFill_list_add seq_list_add PySem.F.slot_list_add PySem.F.entry_list_add (PySem.F.args_list_add_2 _ _) (list_addW l b vs.toArray ws.toArray n n2 dd dd2 sl sl2 (by simp; omega)) ⟨ho, ho2, ?_⟩
  rw [e]
  exact ⟨.ref _, _, I.lnew (t' := s.toks) (r.append r2) (by rw [List.length_append]; omega), rfl, q _ I.fresh⟩
end
end L2

namespace L2
open PySem PySem.Spec PyProof.Rows
/-! ### a comprehension's scope, by lists -/
inductive Slots (X : Cx) (scope : Scope) : List Str → List Nat → Prop
  | nil : Slots X scope [] []
  | cons {x : Str} {j : Nat} {xs : List Str} {js : List Nat} (h1 : scope.names.lookup x = some .free) (h2 : X.env.kindOf x = some .cell ∨ X.env.kindOf x = some .free) (h3 : X.N[j]? = some x) (r : Slots X scope xs js) : Slots X scope (x :: xs) (j :: js)
theorem Slots.len {X : Cx} {scope : Scope} : ∀ {xs : List Str} {js : List Nat}, Slots X scope xs js → xs.length = js.length
  | _, _, .nil => rfl
  | _, _, .cons _ _ _ r => by simp [r.len]
theorem Slots.kind {X : Cx} {scope : Scope} : ∀ {xs : List Str} {js : List Nat}, Slots X scope xs js → ∀ x ∈ xs, X.env.kindOf x = some .cell ∨ X.env.kindOf x = some .free
  | _, _, .nil, x, h => absurd h (by simp)
  | _, _, .cons _ h2 _ r, x, h => by
    rcases List.mem_cons.mp h with e | e
    · subst e; exact h2
    · exact r.kind x e
theorem Slots.get {X : Cx} {scope : Scope} : ∀ {xs : List Str} {js : List Nat}, Slots X scope xs js → ∀ (i : Nat) (x : Str), xs[i]? = some x → scope.names.lookup x = some .free ∧ ∃ j, js[i]? = some j ∧ X.N[j]? = some x
  | _, _, .nil, i, x, h => by simp at h
  | _, _, .cons h1 _ h3 r, 0, x, h => by
    simp only [List.getElem?_cons_zero, Option.some.injEq] at h
    subst h
    exact ⟨h1, _, by simp, h3⟩
  | _, _, .cons _ _ _ r, i + 1, x, h => by simpa using r.get i x (by simpa using h)
theorem blk_mk {X : Cx} {own fr : List Str} {fm : List Nat} {scope : Scope} (kind : scope.kind = .function) (h1 : ∀ y ∈ scope.names, y.2 ≠ .cell) (h2 : ∀ y ∈ scope.names, y.2 = .local → scope.names.lookup y.1 = some .local)
    (h3 : ∀ y ∈ scope.names, y.2 = .free → y.1 ∈ fr) (S : Slots X scope fr fm) : BlkScope X (own ++ fr) own.length fm scope :=
  ⟨kind, h1, h2, fun y hy hk => S.kind y.1 (h3 y hy hk), by rw [List.length_append, S.len], fun i x hi h => by
    rw [List.getElem?_append_right hi] at h
    exact S.get _ x h⟩
section
variable {X : Cx}
/-! ### rules that serve several kinds at once -/
end
/-! ### a comprehension, by what its turns keep -/
theorem comp_range {lo : Int} {n : Nat} {g : TG} {tt : TT} {te : TE} {σ0 : St} {H : Hp} {D : Addr} {Q : VK} (hz : n < sizeLine) (Pv : Nat → List V → Hp → Prop) (h0 : Pv 0 [] (upd H D (.lst [])))
    (hl : ∀ i ys H, i ≤ n → Pv i ys H → H D = some (.lst ys) ∧ ys.length ≤ i)
    (hs : ∀ i ys H, i < n → Pv i ys H → g (.int (lo + i)) σ0 H fun σ3 H4 => Ext σ0 σ3 ∧ tt σ3 H4 fun b H5 => if b = true then te σ3 H5 fun y H6 => H6 D = some (.lst ys) ∧ Pv (i + 1) (ys ++ [y]) (upd H6 D (.lst (ys ++ [y]))) else Pv (i + 1) ys H5)
    (hd : ∀ ys H, Pv n ys H → Q (.ref D) H) :
    ∃ W : Nat → Nat → List V → Hp → Prop, (∃ m, W 0 m [] (upd H D (.lst []))) ∧ ∀ i m ys H2, W i m ys H2 → H2 D = some (.lst ys) ∧ ys.length < sizeLine ∧ (((Itr lo n).stop i H2 ∧ Q (.ref D) H2) ∨ ((Itr lo n).go i H2 ∧ ∃ N : List V → Hp → Prop, (∀ ys' H', N ys' H' → ∃ m', m' < m ∧ W (i + 1) m' ys' H') ∧ ∀ x H3, (Itr lo n).yld i H2 x H3 →
      g x σ0 H3 fun σ3 H4 => Ext σ0 σ3 ∧ tt σ3 H4 fun b H5 => if b = true then te σ3 H5 fun y H6 => H6 D = some (.lst ys) ∧ N (ys ++ [y]) (upd H6 D (.lst (ys ++ [y]))) else N ys H5)) := by
  refine ⟨fun i m ys H => m = n - i ∧ i ≤ n ∧ Pv i ys H, ⟨n, by simp, Nat.zero_le _, h0⟩, ?_⟩
  rintro i m ys H2 ⟨rfl, hi, p⟩
  obtain ⟨l1, l2⟩ := hl i ys H2 hi p
  refine ⟨l1, by omega, ?_⟩
  by_cases hlt : i < n
  · refine .inr ⟨hlt, Pv (i + 1), fun ys' H' p' => ⟨_, (by omega : n - (i + 1) < n - i), rfl, hlt, p'⟩, fun x H3 y => ?_⟩
    obtain ⟨e, ex⟩ := y
    subst e ex
    exact hs i ys _ hlt p
  · have e : i = n := by omega
    subst e
    exact .inl ⟨Nat.le_refl _, hd ys H2 p⟩
/-! ### the same, with what is walked reckoned first -/
noncomputable def ForW (g : TG) (tb : TS) (D : Ends) (σ : St) (J : It) (H1 : Hp) : Prop := ∃ W : Nat → Nat → St → Hp → Prop, (∃ m, W 0 m σ H1) ∧ ∀ i m σ H, W i m σ H →
  (J.stop i H ∧ D.nx σ H) ∨ (J.go i H ∧ ∃ N : St → Hp → Prop, (∀ σ' H', N σ' H' → ∃ m', m' < m ∧ W (i + 1) m' σ' H') ∧ ∀ x H', J.yld i H x H' → g x σ H' fun σ2 H2 => tb { D with nx := N, ct := N, bk := D.nx } σ2 H2)
noncomputable def ForL (K : PySem.W.Frag) (g : TG) (tb : TS) (D : Ends) (σ : St) : VK := fun x H1 => ∃ a, x = .ref a ∧ (∃ xs, SqL K H1 a xs) ∧ ForW g tb D σ (Itl K a) H1
noncomputable def ForT (K : PySem.W.Frag) (g : TG) (tb : TS) (D : Ends) (σ : St) : VK := fun x H1 => ∃ a, x = .ref a ∧ (∃ xs, SqT K H1 a xs) ∧ ForW g tb D σ (Itt K a) H1
noncomputable def ForS (g : TG) (tb : TS) (D : Ends) (σ : St) : VK := fun x H1 => ∃ z, x = .str z ∧ ForW g tb D σ (Its z) H1
noncomputable def ForR (g : TG) (tb : TS) (D : Ends) (σ : St) : List V → Hp → Prop := fun vs H1 => ∃ j : Int, vs = [.int j] ∧ -(2 ^ 62) ≤ j ∧ j < 2 ^ 62 ∧ ForW g tb D σ (Itr 0 j.toNat) H1
noncomputable def ForR2 (g : TG) (tb : TS) (D : Ends) (σ : St) : List V → Hp → Prop := fun vs H1 => ∃ i j : Int, vs = [.int i, .int j] ∧ (-(2 ^ 62) ≤ i ∧ i < 2 ^ 62 ∧ -(2 ^ 62) ≤ j ∧ j < 2 ^ 62) ∧ ForW g tb D σ (Itr i (j - i).toNat) H1
section
variable {K : PySem.W.Frag} {te : TE} {ta : TA} {g : TG} {tb : TS} {D : Ends} {σ : St} {H : Hp}
theorem tFor_list : tFor (iList K te) g tb D σ H = te σ H (ForL K g tb D σ) := rfl
theorem tFor_tup : tFor (iTup K te) g tb D σ H = te σ H (ForT K g tb D σ) := rfl
theorem tFor_str : tFor (iStr te) g tb D σ H = te σ H (ForS g tb D σ) := rfl
theorem tFor_rng1 : tFor (iRng1 ta) g tb D σ H = ta σ H (ForR g tb D σ) := rfl
theorem tFor_rng2 : tFor (iRng2 ta) g tb D σ H = ta σ H (ForR2 g tb D σ) := rfl
theorem ForR.of {n : Int} (h1 : n < 2 ^ 62) (h2 : -(2 ^ 62) ≤ n) (Pv : Nat → St → Hp → Prop) (h0 : Pv 0 σ H)
    (hs : ∀ i σ H, i < n.toNat → Pv i σ H → g (.int (i : Int)) σ H fun σ2 H2 => tb { D with nx := Pv (i + 1), ct := Pv (i + 1), bk := D.nx } σ2 H2) (hd : ∀ σ H, Pv n.toNat σ H → D.nx σ H) : ForR g tb D σ [.int n] H :=
  ⟨n, rfl, h2, h1, for_range (n := n.toNat) Pv h0 (fun i σ H hi p => by
    have e : (0 : Int) + (i : Int) = i := by omega
    rw [e]; exact hs i σ H hi p) hd⟩
end
noncomputable def CompW (g : TG) (tt : TT) (te : TE) (σ0 : St) (Q : VK) (J : It) (H1 : Hp) : Prop := ∀ DD, H1 DD = none → ∃ W : Nat → Nat → List V → Hp → Prop,
  (∃ m, W 0 m [] (upd H1 DD (.lst []))) ∧ ∀ i m ys H2, W i m ys H2 → H2 DD = some (.lst ys) ∧ ys.length < sizeLine ∧ ((J.stop i H2 ∧ Q (.ref DD) H2) ∨ (J.go i H2 ∧ ∃ N : List V → Hp → Prop, (∀ ys' H', N ys' H' → ∃ m', m' < m ∧ W (i + 1) m' ys' H') ∧ ∀ x H3, J.yld i H2 x H3 →
    g x σ0 H3 fun σ3 H4 => Ext σ0 σ3 ∧ tt σ3 H4 fun b H5 => if b = true then te σ3 H5 fun y H6 => H6 DD = some (.lst ys) ∧ N (ys ++ [y]) (upd H6 DD (.lst (ys ++ [y]))) else N ys H5))
noncomputable def CompL (K : PySem.W.Frag) (g : TG) (tt : TT) (te : TE) (σ0 : St) (Q : VK) : VK := fun x H1 => ∃ a, x = .ref a ∧ (∃ xs, SqL K H1 a xs) ∧ CompW g tt te σ0 Q (Itl K a) H1
noncomputable def CompT (K : PySem.W.Frag) (g : TG) (tt : TT) (te : TE) (σ0 : St) (Q : VK) : VK := fun x H1 => ∃ a, x = .ref a ∧ (∃ xs, SqT K H1 a xs) ∧ CompW g tt te σ0 Q (Itt K a) H1
noncomputable def CompS (g : TG) (tt : TT) (te : TE) (σ0 : St) (Q : VK) : VK := fun x H1 => ∃ z, x = .str z ∧ CompW g tt te σ0 Q (Its z) H1
noncomputable def CompR (g : TG) (tt : TT) (te : TE) (σ0 : St) (Q : VK) : List V → Hp → Prop := fun vs H1 => ∃ j : Int, vs = [.int j] ∧ -(2 ^ 62) ≤ j ∧ j < 2 ^ 62 ∧ CompW g tt te σ0 Q (Itr 0 j.toNat) H1
section
variable {K : PySem.W.Frag} {k : Nat} {fm : List Nat} {tl te : TE} {ta : TA} {g : TG} {tt : TT} {σ σ0 : St} {H H1 : Hp} {Q : VK}
theorem tComp_list : tComp k fm (iList K tl) g tt te σ H Q = tl σ H (CompL K g tt te (blkSt k fm σ) Q) := rfl
theorem tComp_tup : tComp k fm (iTup K tl) g tt te σ H Q = tl σ H (CompT K g tt te (blkSt k fm σ) Q) := rfl
theorem tComp_str : tComp k fm (iStr tl) g tt te σ H Q = tl σ H (CompS g tt te (blkSt k fm σ) Q) := rfl
theorem tComp_rng1 : tComp k fm (iRng1 ta) g tt te σ H Q = ta σ H (CompR g tt te (blkSt k fm σ) Q) := rfl
theorem CompR.of {n : Int} (h1 : n < 16777216) (h2 : -(2 ^ 62) ≤ n) (Pv : Addr → Nat → List V → Hp → Prop) (h0 : ∀ D, H1 D = none → Pv D 0 [] (upd H1 D (.lst [])))
    (hl : ∀ D i ys H', H1 D = none → i ≤ n.toNat → Pv D i ys H' → H' D = some (.lst ys) ∧ ys.length ≤ i)
    (hs : ∀ D i ys H', H1 D = none → i < n.toNat → Pv D i ys H' → g (.int (i : Int)) σ0 H' fun σ3 H4 => Ext σ0 σ3 ∧ tt σ3 H4 fun b H5 => if b = true then te σ3 H5 fun y H6 => H6 D = some (.lst ys) ∧ Pv D (i + 1) (ys ++ [y]) (upd H6 D (.lst (ys ++ [y]))) else Pv D (i + 1) ys H5)
    (hd : ∀ D ys H', H1 D = none → Pv D n.toNat ys H' → Q (.ref D) H') : CompR g tt te σ0 Q [.int n] H1 :=
  ⟨n, rfl, h2, by omega, fun D hD => comp_range (lo := 0) (n := n.toNat) (by rw [sizeLine_eq]; omega) (Pv D) (h0 D hD) (fun i ys H' => hl D i ys H' hD) (fun i ys H' hi p => by
    have e : (0 : Int) + (i : Int) = i := by omega
    rw [e]; exact hs D i ys H' hD hi p) fun ys H' => hd D ys H' hD⟩
end
end L2

namespace L2
open PySem PySem.Spec PyProof.Rows
/-! ### plain data, as trees -/
inductive D where
  | non | bl (b : Bool) | int (i : Int) | str (z : Str) | lst (xs : List D) | tup (xs : List D)
mutual
noncomputable def Rep (K : PySem.W.Frag) (H : Hp) : D → V → Prop
  | .non, v => v = .non
  | .bl b, v => v = .bl b
  | .int i, v => v = .int i
  | .str z, v => v = .str z
  | .lst ds, v => ∃ a xs, v = .ref a ∧ SqL K H a xs ∧ RepL K H ds xs
  | .tup ds, v => ∃ a xs, v = .ref a ∧ SqT K H a xs ∧ RepL K H ds xs
noncomputable def RepL (K : PySem.W.Frag) (H : Hp) : List D → List V → Prop
  | [], xs => xs = []
  | d :: ds, xs => ∃ y ys, xs = y :: ys ∧ Rep K H d y ∧ RepL K H ds ys
end
mutual
noncomputable def deq : D → D → Bool
  | .non, .non => true
  | .bl a, .bl b => a == b
  | .bl a, .int b => (if a then 1 else 0) == b
  | .int a, .bl b => a == (if b then 1 else 0)
  | .int a, .int b => a == b
  | .str a, .str b => a == b
  | .lst a, .lst b => deqL a b
  | .tup a, .tup b => deqL a b
  | _, _ => false
noncomputable def deqL : List D → List D → Bool
  | [], [] => true
  | a :: as, b :: bs => deq a b && deqL as bs
  | _, _ => false
end
mutual
noncomputable def dep : D → Nat
  | .lst ds => depL ds + 1
  | .tup ds => depL ds + 1
  | _ => 0
noncomputable def depL : List D → Nat
  | [] => 0
  | d :: ds => max (dep d) (depL ds)
end
section
variable {X : Cx} {pins : List (Addr × Obj)} {σ : St} {H : Hp} {s : Shared}
end
/-! ### the same rules with the written part named -/
section
variable {X : Cx} {K : PySem.W.Frag}
theorem ix_listK (e : X.K = K) : IxR X (rIxL K) := e ▸ ix_list
theorem op_catSK (e : X.K = K) : OpR X (binaryOp .Add) (rCatS K) := e ▸ op_catS
theorem op_notInSK (e : X.K = K) : OpR X (compareOp .NotIn) (rIn K true) := e ▸ op_notIn_seq
theorem call_lenK (e : X.K = K) : CallR X (.builtin "len") (fun xs H Q => ∃ x n, xs = [x] ∧ LenV K x H n ∧ Q (.int n) H) := e ▸ call_len
theorem call_isiK (e : X.K = K) : CallR X (.builtin "isinstance") (rIsi K) := e ▸ call_isi
theorem op_isB : OpR X (compareOp .Is) (fun x y H Q => ∃ a b, x = .bl a ∧ y = .bl b ∧ Q (.bl (a == b)) H) := by
  intro pins s σ H x y v u Q I rx ry h
  obtain ⟨a, b, rfl, rfl, q⟩ := h
  cases rx
  cases ry
  exact is_bool ⟨.bl (a == b), H, I, rfl, q⟩
end
end L2

namespace L2
open PySem PySem.Spec PyProof.Rows
section
variable {X : Cx}
noncomputable def rStarts : V → List V → Hp → VK → Prop := fun x vs H Q => ∃ z y, x = .str z ∧ vs = [.str y] ∧ Q (.bl (Txt.startswith z y)) H
noncomputable def rIndex : V → List V → Hp → VK → Prop := fun x vs H Q => ∃ z y i, x = .str z ∧ vs = [.str y] ∧ (∃ rest, Builtin.Str.occurrences z y 0 z.length 1 = i :: rest) ∧ Q (.int (i : Nat)) H
end
end L2

namespace L2
open PySem PySem.Spec PyProof.Rows
/-! ### an exception on its way: its object at e, the head of its traces at T -/
noncomputable def ExcIs (h : Heap) (e : Addr) (cls : Value) (dx : Option Addr) (fl : Value) (T : Addr) : Prop :=
  ∃ oe vs oT ts, h.get? e = some oe ∧ oe.cls = cls ∧ oe.dict = dx ∧ oe.data = .fields vs ∧ vs[1]? = some (.ref T) ∧ T ≠ e ∧ h.get? T = some oT ∧ oT.data = .fields ts ∧ ts[3]? = some fl
set_option genInjectivity false in
structure LeftX (fs : List Addr) (e T0 : Addr) (cls : Value) (dx : Option Addr) (fl : Value) (h h' : Heap) : Prop where
  keep : ∀ b o, b ∉ fs → b ≠ e → b ≠ T0 → h.get? b = some o → h'.get? b = some o
  slot : ∀ b o, b ∈ fs → b ≠ e → b ≠ T0 → h.get? b = some o → ∃ sl, h'.get? b = some { o with slots := sl }
  there : ∀ b o, h.get? b = some o → ∃ o', h'.get? b = some o'
  exc : ∃ T, h.objs.size ≤ T ∧ ExcIs h' e cls dx fl T
section
variable {M : Model} {A : Around} {E : Value → Shared → Prop} {s : Shared}
theorem cls_dict_mapFields (f : Array Value → Array Value) (o : Obj) : (Obj.mapFields f o).dict = o.dict := by
  obtain ⟨c, d, da, sl⟩ := o
  cases da <;> rfl
theorem newEntryX {base : Heap} {env : Env} {outer : List Env} {L e T0 : Addr} {oe : Obj} {vs : Array Value} {head : Value} {hadNext : Bool} {Q : Unit → Shared → Prop}
    (hfr : A.frames = some (env :: outer)) (hl : s.heap.FunFrames base (env :: outer)) (hf : env.frame = some L)
    (he : s.heap.get? e = some oe) (hd : oe.data = .fields vs) (hsz : 1 < vs.size)
    (h : ∀ h', LeftX (frs (env :: outer)) e T0 oe.cls oe.dict (rawInt L) s.heap h' → Q () { s with heap := h' }) :
    wpAny M A (do let a ← frameOf env; let pl ← entryPlaceOf L hadNext; let b ← EntryCells.newEntry head a .none (rawInt L) .none pl; setField (.ref e) 1 b) Q E s := by
  have hene : e ∉ (env :: outer).filterMap (·.frame) := fun hm => by
    obtain ⟨_, o, ho, hnf⟩ := hl.mem hm
    rw [he] at ho; injection ho with ho; subst ho; exact hnf vs hd
  refine wpAny_bind (wpAny_frameOf_fun hfr hl hf fun h₁ hs₁ => ?_)
  refine wpAny_bind (wpAny_entryPlaceOf fun pl hpl => ?_)
  unfold EntryCells.newEntry newFields
  refine wpAny_bind (wpAny_newObj_type ?_ (hpl.sizeOk5 _ _ _ _ _))
  have he₁ : h₁.get? e = some oe := (hs₁.2.1 e hene).trans he
  have he₂ := Heap.get?_push_of_some (h := h₁) { cls := .type "traceback", dict := none, data := .fields ([head, .ref L, .none, rawInt L, .none] ++ (if pl.isEmpty then List.replicate 6 Value.none else pl)).toArray } he₁
  refine wpAny_setField he₂ hd hsz (h _ ?_)
  have hTe : h₁.objs.size ≠ e := Nat.ne_of_gt (Heap.lt_size he₁)
  have hd₃ := Obj.data_mapFields hd (·.setIfInBounds 1 (Value.ref h₁.objs.size))
  have he₃ := Heap.get?_update_self (Obj.mapFields (·.setIfInBounds 1 (Value.ref h₁.objs.size))) he₂ (Obj.isFreed_of_fields hd₃)
  have hT₃ := (Heap.get?_update_other (h₁.push { cls := .type "traceback", dict := none, data := .fields ([head, .ref L, .none, rawInt L, .none] ++ (if pl.isEmpty then List.replicate 6 Value.none else pl)).toArray })
    (Obj.mapFields (·.setIfInBounds 1 (Value.ref h₁.objs.size))) (Ne.symm hTe)).trans (Heap.get?_push_size h₁ rfl)
  have keep : ∀ b o, b ≠ e → h₁.get? b = some o →
      ((h₁.push { cls := .type "traceback", dict := none, data := .fields ([head, .ref L, .none, rawInt L, .none] ++ (if pl.isEmpty then List.replicate 6 Value.none else pl)).toArray }).update e (Obj.mapFields (·.setIfInBounds 1 (Value.ref h₁.objs.size)))).get? b = some o :=
    fun b o hbe hb => by
      rw [Heap.get?_update_other _ _ (Ne.symm hbe)]
      exact Heap.get?_push_of_some _ hb
  have new : s.heap.objs.size ≤ h₁.objs.size := Nat.le_of_eq hs₁.1.symm
  refine ⟨fun b o hb hbe _ hbo => keep b o hbe ((hs₁.2.1 b hb).trans hbo), fun b o _ hbe _ hbo => ?_, fun b o hbo => ?_, h₁.objs.size, new, _, _, _, _, he₃, Obj.cls_mapFields _ _, cls_dict_mapFields _ _, hd₃, by simp [hsz], hTe, hT₃, rfl, ?_⟩
  · obtain ⟨sl, hs⟩ := hs₁.2.2 b o hbo
    exact ⟨sl, keep b _ hbe hs⟩
  · by_cases hbe : b = e
    · subst hbe; exact ⟨_, he₃⟩
    · obtain ⟨sl, hs⟩ := hs₁.2.2 b o hbo
      exact ⟨_, keep b _ hbe hs⟩
  · first | (simp; done) | (rcases hpl with rfl | ⟨_, _, _, _, _, _, _, rfl⟩ <;> simp)
noncomputable def ExcNew (h : Heap) (e : Addr) (cls : Value) (dx : Option Addr) : Prop := ∃ oe vs, h.get? e = some oe ∧ oe.cls = cls ∧ oe.dict = dx ∧ oe.data = .fields vs ∧ vs[1]? = some .none
theorem note_new {base : Heap} {env : Env} {outer : List Env} {L e : Addr} {cls : Value} {dx : Option Addr} {Q : Unit → Shared → Prop}
    (hfr : A.frames = some (env :: outer)) (hl : s.heap.FunFrames base (env :: outer)) (hf : env.frame = some L) (hx : ExcNew s.heap e cls dx)
    (h : ∀ h', LeftX (frs (env :: outer)) e e cls dx (rawInt L) s.heap h' → Q () { s with heap := h' }) : wpAny M A (noteFrame (.ref e) env) Q E s := by
  obtain ⟨oe, vs, he, hc, hdx, hd, h1⟩ := hx
  subst hc hdx
  unfold noteFrame
  simp only [hf]
  refine wpAny_bind (wpAny_field he hd h1 ?_)
  rw [if_neg (by decide)]
  exact newEntryX hfr hl hf he hd (Array.getElem?_eq_some_iff.mp h1).1 h
theorem note_next {base : Heap} {env : Env} {outer : List Env} {L e T : Addr} {cls : Value} {dx : Option Addr} {Q : Unit → Shared → Prop}
    (hfr : A.frames = some (env :: outer)) (hl : s.heap.FunFrames base (env :: outer)) (hf : env.frame = some L) (hx : ExcIs s.heap e cls dx .none T)
    (h : ∀ h', LeftX (frs (env :: outer)) e T cls dx (rawInt L) s.heap h' → Q () { s with heap := h' }) : wpAny M A (noteFrame (.ref e) env) Q E s := by
  obtain ⟨oe, vs, oT, ts, he, hc, hdx, hd, h1, hTe, hT, hdT, h3⟩ := hx
  subst hc hdx
  unfold noteFrame
  simp only [hf]
  refine wpAny_bind (wpAny_field he hd h1 ?_)
  rw [if_pos (show (Value.ref T != Value.none) = true from by simp)]
  refine wpAny_bind (wpAny_field hT hdT h3 ?_)
  rw [if_neg (show ¬ ((Value.none == rawInt L) = true) from by simp [rawInt])]
  refine wpAny_bind (wpAny_setField hT hdT (Array.getElem?_eq_some_iff.mp h3).1 ?_)
  have other : ∀ b, b ≠ T → (s.heap.update T (Obj.mapFields (·.setIfInBounds 3 Value.none))).get? b = s.heap.get? b := fun b hb => Heap.get?_update_other _ _ (Ne.symm hb)
  have noRecord : ∀ b o, s.heap.get? b = some o → (∀ vs, o.data ≠ .fields vs) → b ≠ T := fun b o hb hnf q => by
    rw [q, hT] at hb; injection hb with hb; subst hb; exact hnf ts hdT
  have hT' := Heap.get?_update_self (Obj.mapFields (·.setIfInBounds 3 Value.none)) hT (Obj.isFreed_of_fields (Obj.data_mapFields hdT _))
  refine newEntryX (T0 := T) hfr (hl.of_keeps fun b o hb hnf => ⟨o, (other b (noRecord b o hb hnf)).trans hb, rfl⟩) hf ((other e (Ne.symm hTe)).trans he) hd (Array.getElem?_eq_some_iff.mp h1).1 fun h' x => h h' ?_
  refine ⟨fun b o hb hbe hbT hbo => x.keep b o hb hbe hbT ((other b hbT).trans hbo), fun b o hb hbe hbT hbo => x.slot b o hb hbe hbT ((other b hbT).trans hbo), fun b o hbo => ?_, ?_⟩
  · by_cases hb : b = T
    · subst hb; exact x.there b _ hT'
    · exact x.there b o ((other b hb).trans hbo)
  · obtain ⟨T', hn, y⟩ := x.exc
    exact ⟨T', by rw [Heap.size_update] at hn; exact hn, y⟩
theorem flight_off {e T : Addr} {cls : Value} {dx : Option Addr} {fl : Value} {Q : Unit → Shared → Prop} (hx : ExcIs s.heap e cls dx fl T)
    (h : ∀ h', (∀ b o, b ≠ T → s.heap.get? b = some o → h'.get? b = some o) → (∃ o, h'.get? T = some o) → ExcIs h' e cls dx .none T → Q () { s with heap := h' }) : wpAny M A (setFlight (.ref e) none) Q E s := by
  obtain ⟨oe, vs, oT, ts, he, hc, hdx, hd, h1, hTe, hT, hdT, h3⟩ := hx
  unfold setFlight
  refine wpAny_bind (wpAny_field he hd h1 ?_)
  rw [if_pos (show (Value.ref T != Value.none) = true from by simp)]
  have hs := (Array.getElem?_eq_some_iff.mp h3).1
  refine wpAny_setField hT hdT hs (h _ (fun b o hb hbo => ?_) ?_ ?_)
  · rw [Heap.get?_update_other _ _ (Ne.symm hb)]; exact hbo
  · exact ⟨_, Heap.get?_update_self _ hT (Obj.isFreed_of_fields (Obj.data_mapFields hdT _))⟩
  · refine ⟨oe, vs, _, _, ?_, hc, hdx, hd, h1, hTe, Heap.get?_update_self _ hT (Obj.isFreed_of_fields (Obj.data_mapFields hdT _)), Obj.data_mapFields hdT _, ?_⟩
    · rw [Heap.get?_update_other _ _ hTe]; exact he
    · simp [hs]
theorem LeftX.off {fs : List Addr} {e T0 T : Addr} {cls : Value} {dx : Option Addr} {fl : Value} {h h1 h2 : Heap} (x : LeftX fs e T0 cls dx fl h h1) (hT : h.objs.size ≤ T) (k : ∀ b o, b ≠ T → h1.get? b = some o → h2.get? b = some o)
    (hT2 : ∃ o, h2.get? T = some o) (y : ExcIs h2 e cls dx .none T) : LeftX fs e T0 cls dx .none h h2 := by
  have ne : ∀ b o, h.get? b = some o → b ≠ T := fun b o e z => by
    have := Heap.lt_size e
    rw [z] at this
    exact absurd (Nat.lt_of_lt_of_le this hT) (Nat.lt_irrefl _)
  refine ⟨fun b o hb hbe hb0 hbo => k b o (ne b o hbo) (x.keep b o hb hbe hb0 hbo), fun b o hb hbe hb0 hbo => ?_, fun b o hbo => ?_, T, hT, y⟩
  · obtain ⟨sl, q⟩ := x.slot b o hb hbe hb0 hbo
    exact ⟨sl, k b _ (ne b o hbo) q⟩
  · obtain ⟨o', q⟩ := x.there b o hbo
    exact ⟨o', k b _ (ne b o hbo) q⟩
theorem leave_new {base : Heap} {env : Env} {outer : List Env} {L e : Addr} {cls : Value} {dx : Option Addr} {Q : Unit → Shared → Prop}
    (hfr : A.frames = some (env :: outer)) (hl : s.heap.FunFrames base (env :: outer)) (hf : env.frame = some L) (hx : ExcNew s.heap e cls dx)
    (h : ∀ h', LeftX (frs (env :: outer)) e e cls dx .none s.heap h' → Q () { s with heap := h' }) : wpAny M A (leaving env (.ref e)) Q E s := by
  unfold leaving
  refine wpAny_bind (note_new hfr hl hf hx fun h1 x => ?_)
  obtain ⟨T, hT, y⟩ := x.exc
  exact flight_off (s := { s with heap := h1 }) y fun h2 k hT2 z => h h2 (x.off hT k hT2 z)
theorem leave_next {base : Heap} {env : Env} {outer : List Env} {L e T0 : Addr} {cls : Value} {dx : Option Addr} {Q : Unit → Shared → Prop}
    (hfr : A.frames = some (env :: outer)) (hl : s.heap.FunFrames base (env :: outer)) (hf : env.frame = some L) (hx : ExcIs s.heap e cls dx .none T0)
    (h : ∀ h', LeftX (frs (env :: outer)) e T0 cls dx .none s.heap h' → Q () { s with heap := h' }) : wpAny M A (leaving env (.ref e)) Q E s := by
  unfold leaving
  refine wpAny_bind (note_next hfr hl hf hx fun h1 x => ?_)
  obtain ⟨T, hT, y⟩ := x.exc
  exact flight_off (s := { s with heap := h1 }) y fun h2 k hT2 z => h h2 (x.off hT k hT2 z)
end
/-! ### how an exception lies behind a call -/
noncomputable def CXE (P : Program) (w : World) : CXT := fun outer H s E e s' => ∃ (a T : Addr) (cls : Value) (dx : Option Addr) (H' : Hp), e = .ref a ∧ s'.os = s.os ∧ AllBare s'.gens ∧ Un (frs outer) [] H H' s.heap s'.heap ∧ HOk P w H' s'.heap ∧
  s.heap.get? a = none ∧ s.heap.get? T = none ∧ H' a = none ∧ H' T = none ∧ ExcIs s'.heap a cls dx .none T ∧ E cls dx H'
noncomputable def ExcAt (X : Cx) (H : Hp) (h : Heap) (a : Addr) (cls : Value) (dx : Option Addr) : Prop :=
  X.s₀.heap.get? a = none ∧ H a = none ∧ (ExcNew h a cls dx ∨ ∃ T, X.s₀.heap.get? T = none ∧ H T = none ∧ ExcIs h a cls dx .none T)
noncomputable def Xe (X : Cx) (E : XK) : Prop := ∀ (pins : List (Addr × Obj)) (σ : St) (H : Hp) (s : Shared) (a : Addr) (cls : Value) (dx : Option Addr), Inv X pins σ H s → ExcAt X H s.heap a cls dx → E cls dx H → X.xe (.ref a) s
theorem HOk.tracked {P : Program} {w : World} {H : Hp} {h h' : Heap} (ok : HOk P w H h) (k : ∀ b o u, H b = some u → h.get? b = some o → h'.get? b = some o) : HOk P w H h' := fun a o e =>
  (ok a o e).stay (fun b u hb q => by
    rcases hb with z | z
    · subst z; exact k b u o e q
    · exact k b u _ z q) (fun _ q => q) fun _ _ q => q
theorem Un.left {X : Cx} {pins : List (Addr × Obj)} {σ : St} {H : Hp} {s : Shared} {a T0 : Addr} {cls : Value} {dx : Option Addr} {h' : Heap} (I : Inv X pins σ H s) (hex : X.ex = []) (hst : X.stack = X.env :: X.outer) (hfr : X.env.frame = some X.env.locals)
    (ha : X.s₀.heap.get? a = none) (hT : X.s₀.heap.get? T0 = none) (x : LeftX (frs (X.env :: X.outer)) a T0 cls dx .none s.heap h') : Un X.fs [] X.H₀ H X.s₀.heap h' := by
  have hfs : frs (X.env :: X.outer) = X.env.locals :: X.fs := by simp [frs, hfr]
  have nl : ∀ b o, X.s₀.heap.get? b = some o → b ≠ X.env.locals := fun b o e z => by
    have := Heap.lt_size e
    rw [z] at this
    exact absurd (Nat.lt_of_lt_of_le this I.ok.above) (Nat.lt_irrefl _)
  have na : ∀ b o, X.s₀.heap.get? b = some o → b ≠ a := fun b o e z => by rw [z, ha] at e; cases e
  have nT : ∀ b o, X.s₀.heap.get? b = some o → b ≠ T0 := fun b o e z => by rw [z, hT] at e; cases e
  have nx : ∀ b : Addr, b ∉ X.ex := fun b => by rw [hex]; simp
  have B := I.base
  have nfs : ∀ b o, X.s₀.heap.get? b = some o → b ∉ X.fs → b ∉ frs (X.env :: X.outer) := fun b o e hb z => by
    rw [hfs] at z
    rcases List.mem_cons.mp z with q | q
    · exact nl b o e q
    · exact hb q
  refine ⟨fun b o e n hb _ => x.keep b o (nfs b o e hb) (na b o e) (nT b o e) (B.keep b o e n hb (nx b)), fun b o e n hb _ => ?_, fun b o e n _ => B.free b o e n (nx b), fun b o e _ => ?_, B.tups, B.frzs, B.tbls⟩
  · obtain ⟨sl, q⟩ := B.slot b o e n hb (nx b)
    obtain ⟨sl2, q2⟩ := x.slot b _ (by rw [hfs]; exact List.mem_cons_of_mem _ hb) (na b o e) (nT b o e) q
    exact ⟨sl2, q2⟩
  · obtain ⟨o', q⟩ := B.there b o e (nx b)
    exact x.there b o' q
theorem xe_cx {P : Program} {w : World} {K : PySem.W.Frag} {mg : Str → Option Value} {base : Heap} {N : List Str} {qual : Str} {scope : Scope} {f : Addr} {cd : Value} {A : Around} {outer : List Env} {s₀ : Shared} {H₀ : Hp} {E₀ : XK} :
    Xe (cxOf (CXE P w) P w K mg base N qual scope f cd A outer s₀ H₀ E₀) E₀ := by
  intro pins σ H s a cls dx I hx hE
  obtain ⟨ha, hHa, hx⟩ := hx
  have hfr : (envOfC qual scope s₀.heap.objs.size f cd).frame = some s₀.heap.objs.size := rfl
  have fin : ∀ (T0 : Addr) (h' : Heap), s₀.heap.get? T0 = none → H T0 = none → LeftX (frs (envOfC qual scope s₀.heap.objs.size f cd :: outer)) a T0 cls dx .none s.heap h' → CXE P w outer H₀ s₀ E₀ (.ref a) { s with heap := h' } := by
    intro T0 h' hT0 hHT0 x
    obtain ⟨T, hT, y⟩ := x.exc
    have hTn : s₀.heap.get? T = none := by
      cases q : s₀.heap.get? T with
      | none => rfl
      | some o => exact absurd (Nat.lt_of_lt_of_le (Heap.lt_size q) (Nat.le_trans I.sz hT)) (Nat.lt_irrefl _)
    refine ⟨a, T, cls, dx, H, rfl, I.os, I.bare, Un.left I rfl rfl rfl ha hT0 x, ?_, ha, hTn, hHa, I.hok.fresh hT, y, hE⟩
    refine I.hok.tracked fun b o u hb q => x.keep b o (fun z => ?_) (fun z => by rw [z, hHa] at hb; cases hb) (fun z => by rw [z, hHT0] at hb; cases hb) q
    have := I.stkFree b z
    rw [this] at hb; cases hb
  rcases hx with hx | ⟨T0, hT0, hHT0, hx⟩
  · exact leave_new (base := base) I.ok.frames I.stack hfr hx fun h' x => fin a h' ha hHa x
  · exact leave_next (base := base) I.ok.frames I.stack hfr hx fun h' x => fin T0 h' hT0 hHT0 x
end L2

namespace L2
open PySem PySem.Spec PyProof.Rows
theorem ObjOk.there {P : Program} {w : World} {H : Hp} {h : Heap} {a : Addr} {o : HO} (x : ObjOk P w H h a o) : ∃ ob, h.get? a = some ob := by
  cases o with
  | lst xs => obtain ⟨_, _, _, _, e⟩ := x; exact ⟨_, e⟩
  | tup xs => obtain ⟨_, _, _, o, e, _⟩ := x; exact ⟨_, e⟩
  | dK kvs => obtain ⟨_, _, _, _, o, _, _, e, _⟩ := x; exact ⟨_, e⟩
  | dT kvs => obtain ⟨_, _, _, _, o, _, _, e, _⟩ := x; exact ⟨_, e⟩
  | set S n => obtain ⟨o, _, _, _, e, _⟩ := x; exact ⟨_, e⟩
  | ins C dx fs => obtain ⟨_, _, _, e, _⟩ := x; exact ⟨_, e⟩
  | own y => obtain ⟨_, e⟩ := x; exact ⟨_, e⟩
  | xd fs => obtain ⟨_, ⟨_, _, _, e, _⟩, _⟩ := x; exact ⟨_, e⟩
  | rng lo hi => obtain ⟨_, _, _, e⟩ := x; exact ⟨_, e⟩
  | frz ob u => obtain ⟨e, _⟩ := x; exact ⟨_, e⟩
  | tbl ps => exact ⟨_, (show h.get? a = some _ from x)⟩
  | met f y => exact ⟨_, (show h.get? a = some _ from x)⟩
  | ext φ => obtain ⟨_, ⟨_, e⟩, _⟩ := x; exact ⟨_, e⟩
theorem HOk.none_of {P : Program} {w : World} {H : Hp} {h : Heap} {a : Addr} (ok : HOk P w H h) (e : h.get? a = none) : H a = none := by
  cases q : H a with
  | none => rfl
  | some u =>
    obtain ⟨o, z⟩ := (ok a u q).there
    rw [e] at z; cases z
theorem own_obj {K : PySem.W.Frag} {h : Heap} {C : Addr} {bmB : List Value} {newId : String} (X : K.In h) (q : PySem.W.excIn K C bmB newId = true) :
    ∃ bm N nm q bs hdct sn sub ab col dd k0 k1 k2 k3 k5 mN, h.get? C = some (excClassObj nm q C N bs bm hdct sn sub ab col dd k0 k1 k2 k3 k5 newId) ∧ h.Ns N mN ∧ mN "__init__" = none ∧ OwnTail h bmB bm := by
  unfold PySem.W.excIn at q
  split at q
  · rename_i dd cd sl ho
    split at q
    · rename_i C' bm k0 k1 k2 k3 n k5 hm hs
      simp only [Bool.and_eq_true, beq_iff_eq, Bool.not_eq_true'] at q
      obtain ⟨⟨⟨⟨⟨rfl, rfl⟩, hdel⟩, ht⟩, hok⟩, hni⟩ := q
      obtain ⟨nm, bs, mro, ns, qn, hd, sn, sub, ab, col, del⟩ := cd
      dsimp only at hm hdel hok hni
      subst hm hdel
      have hsl : sl = #[k0, k1, k2, k3, some (.builtin n), k5] := by
        obtain ⟨l⟩ := sl
        simp only at hs
        rw [hs]
      subst hsl
      exact ⟨bm, ns, nm, qn, bs, hd, sn, sub, ab, col, dd, k0, k1, k2, k3, k5, _, X _ _ ho, .of_isNs (PySem.W.isNs_of_in X hok), PySem.W.nsMap_none_of_in X hok hni, PySem.W.tail_of_in X ht⟩
    · cases q
  · cases q
section
variable {X : Cx}
noncomputable def tRaise (C : Addr) (E : XK) (t : TA) : TS := fun _ σ H => t σ H fun vs H1 => vs.length ≤ sizeLine ∧ E (.ref C) none H1
theorem ps_raise {x : Str} {C : Addr} {bmB : List Value} {B newId initId : String} {e₀ : Expr} {rest : List Expr} {np cpos pos : Pos} {t : TA} {E : XK} (hg : Gl X x) (hm : X.mg x = some (.ref C)) (q : PySem.W.excIn X.K C bmB newId = true)
    (FB : ExcBaseFacts B newId initId bmB) (hc : X.calm = true) (hX : Xe X E) (ha : PA X (e₀ :: rest) t) (hex : X.ex = [] := by rfl)
    (he : starEach (e₀ :: rest) X.env = (false, eval e₀ X.env) :: starEach rest X.env := by rfl) (hplain : (backTo cpos (starEach rest X.env)).any (·.1) = false := by rfl) (hdb : (x == ("__debug__" : Str)) = false := by decide) :
    PS X (.Raise (some (.Call (.Name x np) (e₀ :: rest) [] cpos)) none pos) (tRaise C E t) := by
  intro pins s σ H D I h
  obtain ⟨tl, N, nm, qn, bs, hdct, sn, sub, ab, col, dd, k0, k1, k2, k3, k5, mN, hC, hN, hni, T⟩ := own_obj I.ok.mod.kin q
  refine wpAny_Raise_call_subT (C := C) (nm := nm) (q := qn) (N := N) (bs := bs) (bm := tl) (hdct := hdct) (sn := sn) (sub := sub) (ab := ab) (col := col) (dd := dd) (k0 := k0) (k1 := k1) (k2 := k2) (k3 := k3) (k5 := k5)
    FB (mN := mN) (T.hasType FB.hasBase) (I.ok.hd hc) (by rw [he]; show (false || (backTo cpos (starEach rest X.env)).any (·.1)) = false; rw [hplain]; rfl) hni (ld_glob I hg hm ⟨rfl, ?_⟩ hdb)
  have h1 := ha cpos pins s σ H _ I h
  rw [he] at h1 ⊢
  refine Calls.evalArgs_plain (wpAny_mono h1 (fun us s2 h2 => ?_) fun _ _ y => y)
  obtain ⟨vs, H2, I2, rv, hz, hE⟩ := h2
  refine ⟨rfl, by rw [← rv.length]; exact hz, I2.bk _ _ hC, hN.keeps I2.bk, T.keeps I2.bk, fun h' e me => ?_⟩
  have I3 : Inv X pins σ H2 { s2 with heap := h' } := I2.kept (t' := s2.toks) me.keeps
  obtain ⟨t', hx, _, _⟩ := me.there
  refine hX pins σ H2 _ e (.ref C) none I3 ⟨?_, I2.hok.none_of me.new, .inl ⟨_, _, hx, rfl, rfl, rfl, rfl⟩⟩ hE
  cases qq : X.s₀.heap.get? e with
  | none => rfl
  | some o =>
    obtain ⟨o', q'⟩ := I2.base.there e o qq (by rw [hex]; simp)
    rw [me.new] at q'; cases q'
end
end L2

/-! an own error as a value: its class, its attributes, isinstance of it -/
namespace L2
open PySem PySem.Spec PyProof.Rows PySem.W
set_option genInjectivity false in
structure XCls (K : Frag) (C : Addr) : Prop where
  ga : findIn K (.ref C) "__getattribute__" = some (some (.builtin "BaseException.__getattribute__"))
  gn : findIn K (.ref C) "__getattr__" = some none
  cl : findIn K (.ref C) "__class__" = some (some (.builtin "object.__class__"))
  sg : specialIn K (.builtin "object.__class__") "__get__" = some (some (.builtin "getset_descriptor.__get__"))
  tk : takesIn K (.builtin "object.__class__") = some true
  mo : mroIn K C (.type "object") = some true
  mb : mroIn K C (.type "BaseException") = some true
section
variable {prog : Program} {w : World} {A : Around} {E : Value → Shared → Prop} {s : Shared} {K : Frag} {x C : Addr} {ox : Obj} {od : Option Obj} {name : Str}
theorem xc_some {K : Frag} {C : Addr} {b : Value} {r : Bool} (e : mroIn K C b = some r) : ∃ cd, clsIn K C = some cd := by
  obtain ⟨cd, a, _⟩ := Option.bind_eq_some_iff.mp e
  exact ⟨cd, a⟩
theorem x_check {M : Model} {nameV : Value} {Q : Unit → Shared → Prop} (X : K.In s.heap) (c : XCls K C) (I : InstAt s.heap x ox C od) (q : Q () s) : wpAny M A (checkBuiltinCall "BaseException.__getattribute__" ⟨[.ref x, nameV], []⟩) Q E s :=
  @check_slot M A E s "BaseException.__getattribute__" "BaseException" "__getattribute__" (.ref x) [nameV] [] Q (by decide +kernel) (by decide +kernel) ((I.type).andThen (looks_mroIn X c.mb)) (F.args_bexc_ga _ _) q
theorem x_entry_class {tk : Tok} {Q : Fin → Shared → Prop} (X : K.In s.heap) (c : XCls K C) (I : InstAt s.heap x ox C od) (h : Q (.done (.ret (.ref C))) s) :
    wpAny (model prog w) A (Builtin.«object.__getattribute__» ⟨[.ref x, .str "__class__" tk], []⟩) Q E s := by
  obtain ⟨cd, hc⟩ := xc_some c.mo
  have hf : findObj K C od "__class__" = some (.bind (.builtin "getset_descriptor.__get__") (.builtin "object.__class__")) := by
    unfold findObj
    rw [hc, c.cl]
    simp only [Option.bind_some]
    rw [c.sg]
    simp only [Option.bind_some]
    rw [c.tk]
    rfl
  have L0 := I.type (M := model prog w)
  have L1 := looks_find (M := model prog w) X I hf
  unfold Builtin.«object.__getattribute__»
  refine wpAny_bind (wpAny_pure ?_)
  refine wpAny_bind (wpAny_pure ?_)
  refine wpAny_bind (L0.here (wpAny_bind (L1.here ?_)))
  show wpAny _ _ (holding [_] (call _ [_, .ref x, .ref C]) >>= ret) _ _ _
  exact wpAny_bind (wpAny_holding (wpAny_call (class_get X I c.mo (wpAny_pure h))))
theorem bind_bexc (self : Value) : bindSpecial (.builtin "BaseException.__getattribute__") self = pure (.builtin "BaseException.__getattribute__", [self]) := F.attr_ValueError.ga.bind self
theorem plain_bexc : plainId "BaseException.__getattribute__" = true := F.attr_ValueError.ga.plain
theorem x_by {v nameV : Value} {fill expr : Bool} {Q : Value → Shared → Prop} (X : K.In s.heap) (c : XCls K C) (I : InstAt s.heap x ox C od)
    (he : ∀ (A : Around) (E : Value → Shared → Prop) (Q : Fin → Shared → Prop), Q (.done (.ret v)) s → wpAny (model prog w) A (Builtin.«object.__getattribute__» ⟨[.ref x, nameV], []⟩) Q E s)
    (hv : handedIn v = true) (h : Q v s) : wpAny (model prog w) A (getAttrBy (.ref x) nameV fill expr) Q E s := by
  have L0 := I.type (M := model prog w)
  have L1 := looks_findIn (M := model prog w) X c.ga
  have L2 := looks_findIn (M := model prog w) X c.gn
  unfold getAttrBy
  refine wpAny_holding (wpAny_bind (L0.here (wpAny_bind (L1.here ?_))))
  have hne : (onTheHeap (Value.ref C) && Value.builtin "BaseException.__getattribute__" == Value.builtin "object.__getattribute__") = false := by
    show (true && _) = false
    decide +kernel
  show wpAny _ _ (if (onTheHeap (Value.ref C) && Value.builtin "BaseException.__getattribute__" == Value.builtin "object.__getattribute__") = true then _ else getAttrByItsOwn _ _ _ _ _ _) _ _ _
  rw [hne, if_neg Bool.false_ne_true]
  unfold getAttrByItsOwn
  refine wpAny_bind ?_
  show wpAny _ _ (typeLookup (.ref C) "__getattr__") _ _ _
  refine L2.here ?_
  refine wpAny_bind (wpAny_attempt (wpAny_holding ?_))
  have hcg : callGetattribute (.ref x) nameV (.builtin "BaseException.__getattribute__") expr = boundAndCalled (.builtin "BaseException.__getattribute__") (.ref x) nameV := by
    unfold callGetattribute
    rw [if_neg (by cases expr <;> decide)]
  rw [hcg]
  unfold boundAndCalled
  rw [bind_bexc]
  refine wpAny_bind (wpAny_pure ?_)
  refine wpAny_call (codeAny_call_builtin plain_bexc F.entry_bexc_ga (x_check X c I (he _ _ _ ?_)))
  show wpAny _ _ (handedOut v) _ _ _
  rw [handedOut_of hv]
  exact wpAny_pure h
theorem x_class {Q : Option Value → Shared → Prop} (X : K.In s.heap) (c : XCls K C) (I : InstAt s.heap x ox C od) (h : Q (some (.ref C)) { s with toks := s.toks + 1 }) : wpAny (model prog w) A (getAttr? (.ref x) "__class__") Q E s := by
  unfold getAttr? getAttrBy?
  refine wpAny_bind (wpAny_mkText (wpAny_bind (wpAny_attempt ?_)))
  exact x_by (s := { s with toks := s.toks + 1 }) X c I (fun A E Q q => x_entry_class (s := { s with toks := s.toks + 1 }) X c I q) rfl (wpAny_pure h)
theorem kitx_exc {ox : Obj} {od : Option Obj} (c : XCls K C) : KitX K (.ref x) (.ref C) (fun h => InstAt h x ox C od) where
  ty := fun _ _ _ I => I.type
  it := fun _ _ X _ => by
    obtain ⟨cdD, hcD⟩ := xc_some c.mo
    unfold clsIn at hcD
    split at hcD
    · rename_i c' d' cd' sl' ho
      intro A' Q' E' s' k q
      unfold isType loadHead
      exact wpAny_bind (wpAny_loadPart (k _ _ (X _ _ ho)) (wpAny_pure q))
    · cases hcD
  ne := fun h tp dd its n sl X htp => by
    obtain ⟨cdD, hcD⟩ := xc_some c.mo
    refine Bool.eq_false_iff.mpr fun q => ?_
    have e : C = tp := Value.ref.inj (beq_iff_eq.mp q)
    subst e
    unfold clsIn at hcD
    split at hcD
    · rename_i c' d' cd' sl' ho
      have z := (X _ _ ho).symm.trans htp
      cases z
    · cases hcD
  ca := fun X I k => x_class X c I k
end
end L2

/-! try: a call; except: a suite that raises nothing -/
namespace L2
open PySem PySem.Spec PyProof.Rows
set_option genInjectivity false in
structure Catch (K : PySem.W.Frag) (B C : Addr) : Prop where
  ty : PySem.W.instIn K (.ref B) (.type "tuple") = some false
  bb : PySem.W.mroIn K B (.type "BaseException") = some true
  sub : PySem.W.mroIn K C (.ref B) = some true
theorem isType_of {K : PySem.W.Frag} {M : Model} {h : Heap} {C : Addr} {cd : ClassData} (X : K.In h) (hc : PySem.W.clsIn K C = some cd) : PySem.W.Looks M h (isType (.ref C)) true := by
  unfold PySem.W.clsIn at hc
  split at hc
  · rename_i c' d' cd' sl' ho
    intro A' Q' E' s' k q
    unfold isType loadHead
    exact wpAny_bind (wpAny_loadPart (k _ _ (X _ _ ho)) (wpAny_pure q))
  · cases hc
theorem excMatches_in {K : PySem.W.Frag} {M : Model} {A : Around} {E : Value → Shared → Prop} {s : Shared} {a B C : Addr} {ox : Obj} {od : Option Obj} {Q : Bool → Shared → Prop} (X : K.In s.heap) (I : PySem.W.InstAt s.heap a ox C od) (c : Catch K B C) (h : Q true s) :
    wpAny M A (excMatches (.ref a) (.ref B)) Q E s := by
  obtain ⟨cd, hcd⟩ := xc_some c.bb
  have L0 := PySem.W.looks_instIn (M := M) X c.ty
  have L1 := isType_of (M := M) X hcd
  have L2 := PySem.W.looks_mroIn (M := M) X c.bb
  have L3 := I.type (M := M)
  have L4 := PySem.W.looks_mroIn (M := M) X c.sub
  unfold excMatches
  refine wpAny_bind (L0.here ?_)
  simp only [Bool.false_eq_true, if_false]
  refine wpAny_bind (wpAny_pure ?_)
  rw [List.forIn_cons]
  refine wpAny_bind (wpAny_bind (wpAny_bind ?_))
  unfold isExcClass
  refine wpAny_bind (L1.here ?_)
  simp only [if_true]
  refine L2.here ?_
  simp only [Bool.not_true, Bool.false_eq_true, if_false]
  refine wpAny_pure ?_
  simp only [List.forIn_nil]
  refine wpAny_pure ?_
  refine wpAny_bind (L3.here ?_)
  rw [List.forIn_cons]
  refine wpAny_bind (wpAny_bind (wpAny_bind (L4.here ?_)))
  simp only [if_true]
  exact wpAny_pure (wpAny_pure (wpAny_pure h))
/-! ### the context of an except suite -/
noncomputable abbrev Cx.hand (X : Cx) (a : Addr) : Cx := { X with A := X.A.mark (some (.ref a)), calm := false, xe := fun _ _ => False }
theorem Cx.Ok.hand {X : Cx} (ok : X.Ok) (a : Addr) : (X.hand a).Ok :=
  ⟨ok.mod, ok.kind, ok.glob, ok.blt, ok.above, ok.inj, ok.has, ok.cab, (fun z => by cases z), ok.frames, ok.stk, ok.exf, ok.bs, ok.bsz, ok.noex, ok.exfs, ok.funs, ok.frf⟩
section
variable {X : Cx} {pins : List (Addr × Obj)} {σ : St} {H : Hp} {s : Shared} {a : Addr}
theorem Inv.hand (I : Inv X pins σ H s) (a : Addr) : Inv (X.hand a) pins σ H s := ⟨I.ok.hand a, I.os, I.bare, I.base, I.loc, I.cell, I.free, I.freeC, I.pin, I.hok, I.len⟩
theorem Inv.unhand (ok : X.Ok) (I : Inv (X.hand a) pins σ H s) : Inv X pins σ H s := ⟨ok, I.os, I.bare, I.base, I.loc, I.cell, I.free, I.freeC, I.pin, I.hok, I.len⟩
end
/-! ### an error that was caught, as a tracked thing -/
noncomputable def XO (a C : Addr) (dx : Option Addr) : HO := .ext fun h => ∃ ob vs, h.get? a = some ob ∧ ob.cls = .ref C ∧ ob.dict = dx ∧ ob.data = .fields vs
theorem XO.ok {P : Program} {w : World} {H : Hp} {h : Heap} {a C : Addr} {dx : Option Addr} {fl : Value} {T : Addr} (x : ExcIs h a (.ref C) dx fl T) : ObjOk P w H h a (XO a C dx) := by
  obtain ⟨oe, vs, oT, ts, he, hc, hdx, hd, _⟩ := x
  exact ⟨⟨oe, vs, he, hc, hdx, hd⟩, ⟨oe, he⟩, fun h1 h2 ⟨ob, ws, q, r⟩ k => ⟨ob, ws, k _ q, r⟩⟩
noncomputable abbrev XS := St → XK
noncomputable def XP (X : Cx) (pins : List (Addr × Obj)) (E : XS) (e : Value) (s' : Shared) : Prop := ∃ σ H s, Inv X pins σ H s ∧ CXE X.prog X.w X.stack H s (E σ) e s'
noncomputable abbrev TEX := St → Hp → VK → XK → Prop
noncomputable abbrev TSX := Ends → XS → St → Hp → Prop
noncomputable def PEX (X : Cx) (e : Expr) (t : TEX) : Prop := ∀ (pins : List (Addr × Obj)) (s : Shared) (σ : St) (H : Hp) (Q : VK) (E : XS), Inv X pins σ H s → t σ H Q (E σ) →
  wpAny (model X.prog X.w) X.A (eval e X.env) (EP X pins σ Q) (XP X pins E) s
noncomputable def PSX (X : Cx) (st : Stmt) (t : TSX) : Prop := ∀ (pins : List (Addr × Obj)) (s : Shared) (σ : St) (H : Hp) (D : Ends) (E : XS), Inv X pins σ H s → t D E σ H →
  wpAny (model X.prog X.w) X.A (exec st X.env) (SP X pins D) (XP X pins E) s
noncomputable def PSsX (X : Cx) (st : List Stmt) (t : TSX) : Prop := ∀ (pins : List (Addr × Obj)) (s : Shared) (σ : St) (H : Hp) (D : Ends) (E : XS), Inv X pins σ H s → t D E σ H →
  wpAny (model X.prog X.w) X.A (execs st X.env) (SP X pins D) (XP X pins E) s
section
variable {X : Cx} {k : Nat} {f C : Addr} {fd : FuncData} {ps : List Str} {sp : Sp} {dvs : List V} {ds : List Value} {x m : Str} {p pos apos : Pos} {e o : Expr} {es : List Expr} {ta : TE} {t : TA}
theorem runX {pins : List (Addr × Obj)} {σ : St} {H : Hp} {s : Shared} {Q : VK} {E : XS} {us : List Value} {vs : List V} (F : FnOk X.prog X.w X.K X.mg X.base (CXE X.prog X.w) k f fd ps sp) (hr : Room k X.A) (hb : Binds X.K fd ps ds) (hd : Vals dvs ds)
    (I : Inv X pins σ H s) (r : Vals vs us) (h : sp (vs ++ dvs) H Q (E σ)) : wpAny (model X.prog X.w) X.A (call (.ref f) us) (EP X pins σ Q) (XP X pins E) s := by
  have r2 : Vals (vs ++ dvs) (us ++ ds) := r.append hd
  have hl : (us ++ ds).length = ps.length := by rw [← r2.length]; exact F.len _ _ _ _ h
  refine wpAny_call (codeAny_mono (F.run X.A X.stack s H ⟨us, []⟩ (us ++ ds) (vs ++ dvs) Q (E σ) hr I.env0 (hb s us I.kIn hl) r2 h) fun r s' hq => ?_)
  cases r with
  | error e => exact ⟨σ, H, s, I, hq⟩
  | ok fl =>
    cases fl with
    | ret u => exact I.after hq
    | next => exact False.elim hq
    | brk => exact False.elim hq
    | cont => exact False.elim hq
noncomputable def xCall (sp : Sp) (dvs : List V) (t : TA) : TEX := fun σ H Q E => t σ H fun vs H1 => sp (vs ++ dvs) H1 Q E
noncomputable def xMeth (C : Addr) (m : Str) (sp : Sp) (dvs : List V) (ta : TE) (t : TA) : TEX := fun σ H Q E => ta σ H fun x H1 => ∃ a dx fs, x = .ref a ∧ H1 a = some (.ins C dx fs) ∧ fs.lookup m = none ∧
  t σ H1 fun vs H2 => sp (x :: (vs ++ dvs)) H2 Q E
theorem noE {α : Type} {t : Sem α} {Q : α → Shared → Prop} {M : Model} {A : Around} {E : Value → Shared → Prop} {s : Shared} (h : wpAny M A t Q (fun _ _ => False) s) : wpAny M A t Q E s := wpAny_mono h (fun _ _ q => q) fun _ _ z => False.elim z
theorem pex_call (F : FnOk X.prog X.w X.K X.mg X.base (CXE X.prog X.w) k f fd ps sp) (hr : Room k X.A) (hg : Gl X x) (hm : X.mg x = some (.ref f)) (hk : PySem.W.keepIn X.K (.ref f) = true) (hb : Binds X.K fd ps ds) (hd : Vals dvs ds)
    (ha : PA X.nox (e :: es) t) (hdb : (x == ("__debug__" : Str)) = false := by decide) (he : starEach (e :: es) X.env = (false, eval e X.env) :: starEach es X.env := by rfl) (hpl : (backTo pos (starEach es X.env)).any (·.1) = false := by rfl) :
    PEX X (.Call (.Name x p) (e :: es) [] pos) (xCall sp dvs t) := by
  intro pins s σ H Q E I h
  refine wpAny_Call_Name_kw (ld_glob I hg hm ?_ hdb)
  refine PySem.W.callWith_K (h₀ := X.base) I.ok.mod.kin hk (noE (thn (ha pos pins s σ H _ (I.wish _) h) fun us s1 ⟨vs, H1, I1, r, q⟩ => ⟨I1.kIn, ?_⟩)) he hpl
  exact runX F hr hb hd I1.unwish r q
end
section
variable {X : Cx} {st : Stmt} {rest : List Stmt} {t : TS} {tx ux : TSX} {e : Expr} {te : TEX} {pos : Pos}
noncomputable def xDrop (te : TEX) : TSX := fun D E σ H => te σ H (fun _ H1 => D.nx σ H1) (E σ)
theorem psx_expr (he : PEX X e te) (hs : swapsWith e none pos.line X.env = pure false := by rfl) : PSX X (.Expr e pos) (xDrop te) := by
  intro pins s σ H D E I h
  exact wpAny_Expr_any (thn (he pins s σ H _ E I h) fun v s1 ⟨x, H1, I1, r1, q1⟩ => ⟨σ, H1, I1, q1⟩) I.quiet hs
noncomputable def xSet (i : Nat) (te : TEX) : TSX := fun D E σ H => te σ H (fun v H1 => D.nx (σ.set i (some v)) H1) (E σ)
noncomputable def xRet (te : TEX) : TSX := fun D E σ H => te σ H D.rt (E σ)
noncomputable def xOf (t : TS) : TSX := fun D _ σ H => t D σ H
noncomputable def xSeq (t u : TSX) : TSX := fun D E σ H => t { D with nx := u D E } E σ H
theorem pssx_one (h1 : PSX X st tx) : PSsX X [st] tx := by
  intro pins s σ H D E I h
  refine wpAny_execs_cons (thn (h1 pins s σ H D E I h) fun f s1 q => ?_)
  cases f with
  | next => exact wpAny_execs_nil q
  | ret v => exact q
  | brk => exact q
  | cont => exact q
end
/-! ### the exception lands -/
set_option genInjectivity false in
structure Land (X : Cx) (H : Hp) (s : Shared) (a T : Addr) (cls : Value) (dx : Option Addr) (H' : Hp) (s' : Shared) : Prop where
  os : s'.os = s.os
  bare : AllBare s'.gens
  un : Un (frs X.stack) [] H H' s.heap s'.heap
  hok : HOk X.prog X.w H' s'.heap
  fa : s.heap.get? a = none
  fT : s.heap.get? T = none
  na : H' a = none
  nT : H' T = none
  ex : ExcIs s'.heap a cls dx .none T
section
variable {X : Cx} {pins : List (Addr × Obj)} {σ : St} {H H' : Hp} {s s' : Shared} {a T : Addr} {cls : Value} {dx : Option Addr} {M : Model} {A : Around} {E : Value → Shared → Prop}
theorem Land.inv (L : Land X H s a T cls dx H' s') (I : Inv X pins σ H s) : Inv X pins σ H' s' := I.call' (ch := []) L.os L.un L.hok L.bare fun b hb => absurd hb (by simp)
theorem Land.left {h' : Heap} (L : Land X H s a T cls dx H' s') (I : Inv X pins σ H s) (x : LeftX (frs X.stack) a T cls dx .none s'.heap h') : ∃ T', Land X H s a T' cls dx H' { s' with heap := h' } := by
  have J := L.inv I
  have na : ∀ b o, s.heap.get? b = some o → b ≠ a := fun b o e z => by rw [z, L.fa] at e; cases e
  have nT : ∀ b o, s.heap.get? b = some o → b ≠ T := fun b o e z => by rw [z, L.fT] at e; cases e
  obtain ⟨T', hT, y⟩ := x.exc
  have hT' : s.heap.get? T' = none := by
    cases q : s.heap.get? T' with
    | none => rfl
    | some o =>
      obtain ⟨o', q'⟩ := L.un.there T' o q (by simp)
      exact absurd (Nat.lt_of_lt_of_le (Heap.lt_size q') hT) (Nat.lt_irrefl _)
  refine ⟨T', L.os, L.bare, ⟨fun b o e n hb hx => x.keep b o hb (na b o e) (nT b o e) (L.un.keep b o e n hb hx), fun b o e n hb hx => ?_, L.un.free, fun b o e hx => ?_, L.un.tups, L.un.frzs, L.un.tbls⟩, ?_, L.fa, hT', L.na, L.hok.fresh hT, y⟩
  · obtain ⟨sl, q⟩ := L.un.slot b o e n hb hx
    obtain ⟨sl2, q2⟩ := x.slot b _ hb (na b o e) (nT b o e) q
    exact ⟨sl2, q2⟩
  · obtain ⟨o', q⟩ := L.un.there b o e hx
    exact x.there b o' q
  · refine L.hok.tracked fun b o u hb q => x.keep b o (fun z => ?_) (fun z => by rw [z, L.na] at hb; cases hb) (fun z => by rw [z, L.nT] at hb; cases hb) q
    have := J.stkFree b z
    rw [this] at hb; cases hb
theorem Land.off {h' : Heap} (L : Land X H s a T cls dx H' s') (k : ∀ b o, b ≠ T → s'.heap.get? b = some o → h'.get? b = some o) (hT : ∃ o, h'.get? T = some o) (y : ExcIs h' a cls dx .none T) : Land X H s a T cls dx H' { s' with heap := h' } := by
  have nT : ∀ b o, s.heap.get? b = some o → b ≠ T := fun b o e z => by rw [z, L.fT] at e; cases e
  refine ⟨L.os, L.bare, ⟨fun b o e n hb hx => k b o (nT b o e) (L.un.keep b o e n hb hx), fun b o e n hb hx => ?_, L.un.free, fun b o e hx => ?_, L.un.tups, L.un.frzs, L.un.tbls⟩, ?_, L.fa, L.fT, L.na, L.nT, y⟩
  · obtain ⟨sl, q⟩ := L.un.slot b o e n hb hx
    exact ⟨sl, k b _ (nT b o e) q⟩
  · obtain ⟨o', q⟩ := L.un.there b o e hx
    exact ⟨o', k b o' (nT b o e) q⟩
  · exact L.hok.tracked fun b o u hb q => k b o (fun z => by rw [z, L.nT] at hb; cases hb) q
theorem Land.track {C : Addr} (L : Land X H s a T (.ref C) dx H' s') (I : Inv X pins σ H s) : Inv X pins σ (upd H' a (XO a C dx)) s' := by
  have na : ∀ b o, s.heap.get? b = some o → b ≠ a := fun b o e z => by rw [z, L.fa] at e; cases e
  have up : ∀ b u, H' b = some u → upd H' a (XO a C dx) b = some u := fun b u q => by rw [upd_ne (ne_of_none q L.na)]; exact q
  refine I.call' (ch := []) L.os ⟨L.un.keep, L.un.slot, fun b o e n hx => ?_, L.un.there, fun b xs q => up b _ (L.un.tups b xs q), fun b o u q => up b _ (L.un.frzs b o u q), fun b ps q => ?_⟩ (fun b u q => ?_) L.bare fun b hb => absurd hb (by simp)
  · rw [upd_ne (na b o e)]; exact L.un.free b o e n hx
  · obtain ⟨m, z⟩ := L.un.tbls b ps q
    exact ⟨m, up b _ z⟩
  · by_cases hb : b = a
    · subst hb; rw [upd_same] at q; cases q; exact XO.ok L.ex
    · rw [upd_ne hb] at q
      exact (L.hok b u q).stay (fun c v _ q => q) (fun c q => up c _ q) fun c xs q => up c _ q
noncomputable def DxOk (dx : Option Addr) (H : Hp) : Prop := dx = none ∨ ∃ d fs, dx = some d ∧ H d = some (.xd fs)
theorem Land.inst {C : Addr} (L : Land X H s a T (.ref C) dx H' s') (hd : DxOk dx H') : ∃ ox od, PySem.W.InstAt s'.heap a ox C od := by
  obtain ⟨oe, vs, oT, ts, he, hc, hdx, hdt, _⟩ := L.ex
  rcases hd with e | ⟨d, fs, e, hd⟩
  · refine ⟨oe, none, he, hc, ?_, ?_⟩
    · unfold PySem.W.notCls; rw [hdt]
    · rw [hdx, e]; trivial
  · obtain ⟨o, q⟩ := (L.hok d _ hd).there
    refine ⟨oe, some o, he, hc, ?_, ?_⟩
    · unfold PySem.W.notCls; rw [hdt]
    · rw [hdx, e]; exact q
theorem land_note {R : Shared → Prop} (hst : X.stack = X.env :: X.outer) (hfr : X.env.frame = some X.env.locals) (L : Land X H s a T cls dx H' s') (I : Inv X pins σ H s)
    (h : ∀ T' s3, Land X H s a T' cls dx H' s3 → R s3) : wpAny M X.A (noteFrame (.ref a) X.env) (fun _ s2 => wpAny M X.A (setFlight (.ref a) none) (fun _ s3 => R s3) E s2) E s' := by
  have J := L.inv I
  refine note_next (base := X.base) (by rw [J.ok.frames, hst]) (by rw [← hst]; exact J.stack) hfr L.ex fun h1 x => ?_
  obtain ⟨T1, hT, y⟩ := x.exc
  refine flight_off (s := { s' with heap := h1 }) y fun h2 k hT2 z => ?_
  obtain ⟨T2, L2⟩ := L.left (h' := h2) I (by rw [hst]; exact x.off hT k hT2 z)
  exact h T2 _ L2
theorem name_gone {i : Nat} {n : Str} {pos : Pos} {Q : Unit → Shared → Prop} (I : Inv X pins σ H s) (hN : X.N.Nodup) (hi : X.N[i]? = some n) (hk : X.env.scope.names.lookup n = some .local) (h : ∀ s', Inv X pins (σ.set i none) H s' → Q () s') :
    wpAny M A (do bindName X.env n .none; unbindBehindTheSuite X.env n pos) Q E s := by
  obtain ⟨m, hn, hl⟩ := id I.loc
  have hcls : (X.env.scope.kind == .class || (X.env.scope.kind == .module && X.env.locals != X.env.globals)) = false := by rw [I.ok.kind]; rfl
  have hiσ : i < σ.length := by rw [I.len]; exact (List.getElem?_eq_some_iff.mp hi).1
  have cne := I.cne
  refine wpAny_nameGoes_keeps hk hn hcls fun h' v hn' hs => ?_
  obtain ⟨oL, _, _, hoL, _⟩ := id hn
  refine h _ ⟨I.ok, I.os, I.bare, ⟨fun b o e n hb hx => ?_, fun b o e n hb hx => ?_, I.base.free, fun b o e hx => ?_, I.base.tups, I.base.frzs, I.base.tbls⟩, ⟨_, hn', fun j y v' e1 e2 e3 => ?_⟩, fun y c e => ?_, I.free, I.freeC, fun p hp => ?_, fun b ob e => ?_, by simpa using I.len⟩
  · exact (hs.2 b (Nat.ne_of_lt (Nat.lt_of_lt_of_le (Heap.lt_size e) I.ok.above))).trans (I.base.keep b o e n hb hx)
  · obtain ⟨sl, e1⟩ := I.base.slot b o e n hb hx
    exact ⟨sl, (hs.2 b (Nat.ne_of_lt (Nat.lt_of_lt_of_le (Heap.lt_size e) I.ok.above))).trans e1⟩
  · obtain ⟨o', e1⟩ := I.base.there b o e hx
    exact ⟨o', (hs.2 b (Nat.ne_of_lt (Nat.lt_of_lt_of_le (Heap.lt_size e) I.ok.above))).trans e1⟩
  · by_cases hj : j = i
    · subst hj
      rw [List.getElem?_set_self hiσ] at e2
      cases e2
    · rw [List.getElem?_set_ne (Ne.symm hj)] at e2
      obtain ⟨u', r', q⟩ := hl j y v' e1 e2 e3
      refine ⟨u', r', ?_⟩
      rcases q with ⟨k, e⟩ | ⟨k, c, e, z⟩
      · refine .inl ⟨k, ?_⟩
        have : y ≠ n := fun e => hj (nodup_ix hN e1 (e ▸ hi))
        simp [this, e]
      · exact .inr ⟨k, c, e, z.sameBut hs (cne y c e)⟩
  · obtain ⟨w', z⟩ := I.cell y c e
    exact ⟨w', z.sameBut hs (cne y c e)⟩
  · obtain ⟨e, n, ne, nf, d⟩ := I.pin p hp
    exact ⟨(hs.2 p.1 ne).trans e, n, ne, nf, d⟩
  · refine (I.hok b ob e).stay (fun c w' hc q => (hs.2 c ?_).trans q) (fun _ q => q) fun _ _ q => q
    rintro rfl
    have fr := I.free
    rcases hc with rfl | hc
    · rw [fr] at e; cases e
    · rw [fr] at hc; cases hc
end
/-! ### the rule -/
noncomputable def un1 (i : Nat) (D : Ends) : Ends := { nx := fun σ H => D.nx (σ.set i none) H, rt := D.rt, bk := fun σ H => D.bk (σ.set i none) H, ct := fun σ H => D.ct (σ.set i none) H }
noncomputable def tTryAs (K : PySem.W.Frag) (B : Addr) (i : Nat) (tb : TSX) (th : TS) : TS := fun D σ H =>
  tb D (fun σ' cls dx H' => ∃ C, cls = .ref C ∧ Catch K B C ∧ DxOk dx H' ∧ ∀ a, H' a = none → th (un1 i D) (σ'.set i (some (.ref a))) (upd H' a (XO a C dx))) σ H
noncomputable def tTry0 (K : PySem.W.Frag) (B : Addr) (tb : TSX) (th : TS) : TS := fun D σ H =>
  tb D (fun σ' cls dx H' => ∃ C, cls = .ref C ∧ Catch K B C ∧ DxOk dx H' ∧ th D σ' H') σ H
section
variable {X : Cx} {body suite : List Stmt} {b₀ : Stmt} {x n : Str} {B : Addr} {i : Nat} {np hpos pos : Pos} {tb : TSX} {th : TS}
theorem ps_tryAs (hst : X.stack = X.env :: X.outer) (hfr : X.env.frame = some X.env.locals) (hN : X.N.Nodup) (hi : X.N[i]? = some n) (hlo : X.env.scope.names.lookup n = some .local) (hg : Gl X x) (hm : X.mg x = some (.ref B)) (hb : PSsX X body tb)
    (hs : ∀ a, PSs (X.hand a) (b₀ :: suite) th) (hd : (x == ("__debug__" : Str)) = false := by decide) : PS X (.Try body [.ExceptHandler (some (.Name x np)) (some n) (b₀ :: suite) hpos] [] [] pos) (tTryAs X.K B i tb th) := by
  intro pins s σ H D I h
  refine wpAny_Try_except (wpAny_mono (hb pins s σ H D _ I h) (fun f s1 q => ?_) fun e s1 hx => ?_)
  · cases f with
    | next => exact wpAny_execs_nil q
    | ret v => exact q
    | brk => exact q
    | cont => exact q
  · obtain ⟨σ1, H1, s2, I1, a, T, cls, dx, H', rfl, ho, hg', u, hok, ha, hT, hHa, hHT, y, C, rfl, hcat, hdx, hth⟩ := hx
    have L : Land X H1 s2 a T (.ref C) dx H' s1 := ⟨ho, hg', u, hok, ha, hT, hHa, hHT, y⟩
    refine land_note hst hfr L I1 fun T3 s3 L3 => ?_
    have J := L3.inv I1
    obtain ⟨ox, od, ins⟩ := L3.inst hdx
    refine wpAny_handleBy_cons (codeAny_handlers_test (ld_glob (X := X.hand a) (J.hand a) hg hm ?_ hd)) (by intro q; cases q)
    refine excMatches_in J.kIn ins hcat ?_
    refine codeAny_handlers_suite_as ?_
    refine flight_off L3.ex fun h4 k4 hT4 y4 => ?_
    have J4 := (L3.off k4 hT4 y4).track I1
    refine store_ok (X := X.hand a) (J4.hand a) hN hi (.inl hlo) (v := .ref a) rfl (fun s5 I5 => ?_) (.inr hlo)
    refine noE (thn (hs a pins s5 _ _ (un1 i D) I5 (hth a hHa)) fun f s6 q => ?_)
    have ok := I.ok
    cases f with
    | next =>
      obtain ⟨σ', H2, I6, q⟩ := q
      exact name_gone (I6.unhand ok) hN hi hlo fun s7 I7 => ⟨_, H2, I7, q⟩
    | brk =>
      obtain ⟨σ', H2, I6, q⟩ := q
      exact name_gone (I6.unhand ok) hN hi hlo fun s7 I7 => ⟨_, H2, I7, q⟩
    | cont =>
      obtain ⟨σ', H2, I6, q⟩ := q
      exact name_gone (I6.unhand ok) hN hi hlo fun s7 I7 => ⟨_, H2, I7, q⟩
    | ret v =>
      obtain ⟨v', σ', H2, I6, r, q⟩ := q
      exact name_gone (I6.unhand ok) hN hi hlo fun s7 I7 => ⟨v', _, H2, I7, r, q⟩
theorem ps_tryAsK {K : PySem.W.Frag} (e : X.K = K) (hst : X.stack = X.env :: X.outer) (hfr : X.env.frame = some X.env.locals) (hN : X.N.Nodup) (hi : X.N[i]? = some n) (hlo : X.env.scope.names.lookup n = some .local) (hg : Gl X x) (hm : X.mg x = some (.ref B)) (hb : PSsX X body tb)
    (hs : ∀ a, PSs (X.hand a) (b₀ :: suite) th) (hd : (x == ("__debug__" : Str)) = false := by decide) : PS X (.Try body [.ExceptHandler (some (.Name x np)) (some n) (b₀ :: suite) hpos] [] [] pos) (tTryAs K B i tb th) := e ▸ ps_tryAs hst hfr hN hi hlo hg hm hb hs hd
end
end L2

/-! texts put together: f"..", join; isinstance of a caught error, of a tuple of classes -/
namespace L2
open PySem PySem.Spec PyProof.Rows
section
variable {X : Cx}
noncomputable def Sg (z : Str) : Prop := ∀ c ∈ z.cps.toList, c < 16 ^ 8
noncomputable def tRepr (t : TE) : TE := fun σ H Q => t σ H fun x H1 => ∃ z, x = .str z ∧ (reprText z).length ≤ sizeLine ∧ Q (.str (reprText z)) H1
theorem pe_repr {e : Expr} {t : TE} {pos : Pos} (he : PE X e t) : PE X (.FormattedValue e 114 none pos) (tRepr t) := by
  intro pins s σ H Q I h
  refine wpAny_FormattedValue_repr (thn (he pins s σ H _ I h) fun v s1 ⟨x, H1, I1, r1, z, ez, hz, q⟩ => ?_)
  subst ez
  obtain ⟨t', rfl⟩ := r1
  refine pyReprObj_str ?_ hz
  exact formatField_str (fun t'' tk => ⟨.str (reprText z), H1, I1.tok tk, ⟨t'', rfl⟩, q⟩) hz
noncomputable def tFmt (t : TE) : TE := fun σ H Q => t σ H fun x H1 => (∃ z, x = .str z ∧ z.length ≤ sizeLine ∧ Q (.str z) H1) ∨ ∃ i : Int, x = .int i ∧ i.natAbs.log2 < 1920 ∧ Q (.str (toString i)) H1
noncomputable abbrev TJ := Str → St → Hp → VK → Prop
noncomputable def PJ (X : Cx) (es : List Expr) (t : TJ) : Prop := ∀ (acc : Str) (pins : List (Addr × Obj)) (s : Shared) (σ : St) (H : Hp) (Q : VK), Inv X pins σ H s → t acc σ H Q →
  wpAny (model X.prog X.w) X.A (joinParts acc (evalEach es X.env)) (EP X pins σ Q) X.xe s
noncomputable def jNil : TJ := fun acc _ H Q => acc.length ≤ sizeLine ∧ Q (.str acc) H
noncomputable def jCons (t : TE) (u : TJ) : TJ := fun acc σ H Q => t σ H fun x H1 => ∃ y, x = .str y ∧ (acc ++ y).length ≤ sizeLine ∧ u (acc ++ y) σ H1 Q
theorem pj_nil : PJ X [] jNil := fun acc pins s σ H Q I h => joinParts_nilE (joinParts_nil ⟨.str acc, H, I.tok _, ⟨_, rfl⟩, h.2⟩ h.1)
theorem pj_cons {e : Expr} {es : List Expr} {t : TE} {u : TJ} (he : PE X e t) (hr : PJ X es u) : PJ X (e :: es) (jCons t u) := by
  intro acc pins s σ H Q I h
  refine joinParts_consE (joinParts_cons (thn (he pins s σ H _ I h) fun v s1 ⟨x, H1, I1, r1, y, ey, hy, q⟩ => ?_))
  subst ey
  obtain ⟨t', rfl⟩ := r1
  exact ⟨hy, hr (acc ++ y) pins s1 σ H1 Q I1 q⟩
noncomputable def tJoined (t : TJ) : TE := fun σ H Q => t Str.empty σ H Q
theorem pe_joined {v₁ v₂ : Expr} {rest : List Expr} {pos : Pos} {t : TJ} (h : PJ X (v₁ :: v₂ :: rest) t) : PE X (.JoinedStr (v₁ :: v₂ :: rest) pos) (tJoined t) :=
  fun pins s σ H Q I hw => JoinedStr_many (h Str.empty pins s σ H Q I hw)
/-! ### sep.join(list) -/
theorem strs_of : ∀ {zs : List Str} {us : List Value}, Vals (zs.map V.str) us → ∃ l : List (Str × Tok), us = strValues l ∧ l.map (·.1) = zs
  | [], _, .nil => ⟨[], rfl, rfl⟩
  | z :: zs, _, .cons ⟨t, e⟩ r => by
    obtain ⟨l, h1, h2⟩ := strs_of r
    subst e
    exact ⟨(z, t) :: l, by rw [h1]; rfl, by simp [h2]⟩
noncomputable def rJoin (K : PySem.W.Frag) : V → List V → Hp → VK → Prop := fun x vs H Q => ∃ z a zs, x = .str z ∧ vs = [.ref a] ∧ SqL K H a (zs.map V.str) ∧ JoinOk z zs = true ∧ Q (.str (Txt.join z zs)) H
theorem mt_join : MtM X "str.join" (rJoin X.K) := by
  intro pins s σ H x vs v us Q I rx rv h
  obtain ⟨z, a, zs, rfl, rfl, hS, hok, q⟩ := h
  obtain ⟨t, rfl⟩ := rx
  obtain ⟨u, rfl, ru⟩ := rv.one
  cases ru
  obtain ⟨its, r, p, _⟩ := I.list hS
  obtain ⟨l, e1, e2⟩ := strs_of r
  subst e1
  refine SC.join (l := l) p.isList e2 hok fun t' k => ⟨.str (Txt.join z zs), H, I.tok k, ⟨t', rfl⟩, q⟩
theorem mt_joinK {K : PySem.W.Frag} (e : X.K = K) : MtM X "str.join" (rJoin K) := e ▸ mt_join
/-! ### isinstance -/
noncomputable def TyX (K : PySem.W.Frag) (H : Hp) (x : V) (t : Value) : Prop := TyOf K H x t ∨ ∃ a C dx, x = .ref a ∧ t = .ref C ∧ H a = some (XO a C dx) ∧ DxOk dx H ∧ XCls K C
noncomputable def vOf : V → Value
  | .ref a => .ref a
  | .ty n => .type n
  | _ => .none
noncomputable def isCl : V → Bool
  | .ref _ => true
  | .ty _ => true
  | _ => false
theorem xo_inst {pins : List (Addr × Obj)} {σ : St} {H : Hp} {s : Shared} {a C : Addr} {dx : Option Addr} (I : Inv X pins σ H s) (e : H a = some (XO a C dx)) (hd : DxOk dx H) : ∃ ox od, PySem.W.InstAt s.heap a ox C od := by
  obtain ⟨⟨ob, vs, he, hc, hdx, hdt⟩, _⟩ := I.hok a _ e
  rcases hd with e | ⟨d, fs, e, hd⟩
  · refine ⟨ob, none, he, hc, ?_, ?_⟩
    · unfold PySem.W.notCls; rw [hdt]
    · rw [hdx, e]; trivial
  · obtain ⟨o, q⟩ := (I.hok d _ hd).there
    refine ⟨ob, some o, he, hc, ?_, ?_⟩
    · unfold PySem.W.notCls; rw [hdt]
    · rw [hdx, e]; exact q
noncomputable def rIsx (K : PySem.W.Frag) : List V → Hp → VK → Prop := fun xs H Q => ∃ x c t b, xs = [x, c] ∧ isCl c = true ∧ TyX K H x t ∧ PySem.W.kitOne K t (vOf c) = some b ∧ Q (.bl b) H
theorem vOf_rel {c : V} {u : Value} (h : isCl c = true) (r : RelV c u) : u = vOf c := by
  cases c <;> first | exact r | cases h
theorem call_isx : CallR X (.builtin "isinstance") (rIsx X.K) := by
  intro pins s σ H xs us Q I r h
  obtain ⟨x, c, t, b, rfl, hc, ty, e, q⟩ := h
  obtain ⟨u, u2, rfl, ru, ru2⟩ := vals2 r
  have e2 := vOf_rel hc ru2
  subst e2
  rcases ty with ty | ⟨a, C, dx, rfl, rfl, ha, hd, xc⟩
  · exact isinst_ok I ru ty e fun tk => ⟨.bl b, H, I.tok tk, rfl, q⟩
  · cases ru
    obtain ⟨ox, od, J⟩ := xo_inst I ha hd
    exact PySem.W.kia_one (kitx_exc xc) I.kIn J e (fun z => nomatch z) fun tk => ⟨.bl b, H, I.tok tk, rfl, q⟩
theorem vals_cl : ∀ {cs : List V} {us : List Value}, cs.all isCl = true → Vals cs us → us = cs.map vOf
  | [], _, _, .nil => rfl
  | c :: cs, _, h, .cons r rs => by
    simp only [List.all_cons, Bool.and_eq_true] at h
    rw [vOf_rel h.1 r, vals_cl h.2 rs]; rfl
noncomputable def rIst (K : PySem.W.Frag) : List V → Hp → VK → Prop := fun xs H Q => ∃ x tp cs t b, xs = [x, .ref tp] ∧ H tp = some (.tup cs) ∧ cs.all isCl = true ∧ TyX K H x t ∧ PySem.W.kitAny K t (cs.map vOf) = some b ∧ Q (.bl b) H
theorem tyx_kit {pins : List (Addr × Obj)} {σ : St} {H : Hp} {s : Shared} {x : V} {u t : Value} (I : Inv X pins σ H s) (rx : RelV x u) (ty : TyX X.K H x t) : ∃ φ, PySem.W.KitX X.K u t φ ∧ φ s.heap ∧ u ≠ .builtin "__main__.__loader__#opaque" := by
  rcases ty with ty | ⟨a, C, dx, rfl, rfl, ha, hd, xc⟩
  · cases ty with
    | non => cases (show u = Value.none from rx); exact ⟨_, PySem.W.kitx_none, True.intro, fun z => nomatch z⟩
    | bl y => cases (show u = Value.bool y from rx); exact ⟨_, PySem.W.kitx_bool, True.intro, fun z => nomatch z⟩
    | int i => obtain ⟨t, q⟩ := (show ∃ t, u = Value.int i t from rx); cases q; exact ⟨_, PySem.W.kitx_int, True.intro, fun z => nomatch z⟩
    | str y => obtain ⟨t, q⟩ := (show ∃ t, u = Value.str y t from rx); cases q; exact ⟨_, PySem.W.kitx_str, True.intro, fun z => nomatch z⟩
    | flt y => obtain ⟨t, q⟩ := (show ∃ t, u = Value.float y t from rx); cases q; exact ⟨_, PySem.W.kitx_float, True.intro, fun z => nomatch z⟩
    | @lst a xs ea =>
      cases (show u = Value.ref a from rx)
      obtain ⟨_, _, n, _, h1⟩ := (show ObjOk X.prog X.w H s.heap a (.lst xs) from I.hok a _ ea)
      exact ⟨_, PySem.W.kitx_list, ⟨_, h1, rfl⟩, fun z => nomatch z⟩
    | @frz a ob xs ea =>
      cases (show u = Value.ref a from rx)
      obtain ⟨_, _, _, n, _, h1⟩ := (show ObjOk X.prog X.w H s.heap a (.frz ob (.lst xs)) from I.hok a _ ea)
      exact ⟨_, PySem.W.kitx_list, ⟨_, h1, rfl⟩, fun z => nomatch z⟩
    | @tup a xs ea =>
      cases (show u = Value.ref a from rx)
      obtain ⟨_, _, _, p⟩ := (show ObjOk X.prog X.w H s.heap a (.tup xs) from I.hok a _ ea)
      obtain ⟨o, h1, h2, _⟩ := p
      exact ⟨_, PySem.W.kitx_tuple, ⟨o, h1, h2⟩, fun z => nomatch z⟩
    | @dK a kvs ea =>
      cases (show u = Value.ref a from rx)
      obtain ⟨_, _, vs, _, p⟩ := (show ObjOk X.prog X.w H s.heap a (.dK kvs) from I.hok a _ ea)
      obtain ⟨o, es, ep, h1, h2, _⟩ := p
      exact ⟨_, PySem.W.kitx_dict, ⟨o, h1, h2.1⟩, fun z => nomatch z⟩
    | @dT a kvs ea =>
      cases (show u = Value.ref a from rx)
      obtain ⟨_, _, xs, _, o, es, ep, h1, h2, _⟩ := (show ObjOk X.prog X.w H s.heap a (.dT kvs) from I.hok a _ ea)
      exact ⟨_, PySem.W.kitx_dict, ⟨o, h1, h2.1⟩, fun z => nomatch z⟩
    | @ins a C dx fs ea cl ha hn htk hm =>
      cases (show u = Value.ref a from rx)
      obtain ⟨mA, O, _⟩ := ins_get I.hok ea
      obtain ⟨od, J, _⟩ := O.look
      exact ⟨_, PySem.W.kitx_own (cl.get _) cl.hd ha hn htk hm, J, fun z => nomatch z⟩
  · cases (show u = Value.ref a from rx)
    obtain ⟨ox, od, J⟩ := xo_inst I ha hd
    exact ⟨_, kitx_exc xc, J, fun z => nomatch z⟩
theorem call_ist : CallR X (.builtin "isinstance") (rIst X.K) := by
  intro pins s σ H xs us Q I r h
  obtain ⟨x, tp, cs, t, b, rfl, htp, hc, ty, e, q⟩ := h
  obtain ⟨u, u2, rfl, ru, ru2⟩ := vals2 r
  cases ru2
  obtain ⟨φ, Z, p, hx⟩ := tyx_kit I ru ty
  obtain ⟨_, its, rv, o, ho, hcl, n, hdt⟩ := I.hok tp _ htp
  have e2 := vals_cl hc rv
  subst e2
  obtain ⟨oc, od, oda, osl⟩ := o
  dsimp only at hcl hdt
  subst hcl hdt
  exact PySem.W.kia_tup Z I.kIn p ho e hx fun tk => ⟨.bl b, H, I.tok tk, rfl, q⟩
theorem call_isxK {K : PySem.W.Frag} (e : X.K = K) : CallR X (.builtin "isinstance") (rIsx K) := e ▸ call_isx
theorem call_istK {K : PySem.W.Frag} (e : X.K = K) : CallR X (.builtin "isinstance") (rIst K) := e ▸ call_ist
end
section
variable {P : Program} {w : World} {K : PySem.W.Frag} {mg : Str → Option Value} {base : Heap}
theorem Fun.okE {x qual : Str} {st : Stmt} {f : Addr} {fd : FuncData} {N ps : List Str} {k : Nat} {sp : Sp} (F : Fun K x qual st f fd) (S : FnScope N ps (defScope st)) (len : ∀ vs H Q E, sp vs H Q E → vs.length = ps.length)
    (hbody : ∀ (cdv : Value) (A : Around) (outer : List Env) (s : Shared) (H : Hp) (vs : List V) (Q : VK) (E : XK), Room k (A.deeper (envOfC qual (defScope st) s.heap.objs.size f cdv)) → sp vs H Q E →
      ∃ t, PSs (cxOf (CXE P w) P w K mg base N qual (defScope st) f cdv A outer s H E) (defBody st) t ∧ t { nx := fun _ H' => Q .non H', rt := Q } (start N vs) H) : FnOk P w K mg base (CXE P w) (k + 1) f fd ps sp := by
  obtain ⟨oc, od, kV, doc, pm, an, cdv, ct, osl, rfl, lk, hcd⟩ := F.ex
  refine fn_of lk hcd S len fun A outer s H vs Q E hr hsp => ?_
  obtain ⟨t, h, q⟩ := hbody cdv A outer s H vs Q E hr hsp
  exact ⟨t, h, q⟩
end
end L2
namespace L2
theorem pe_alt {X : Cx} {e : PySem.Expr} {t u : TE} (h1 : PE X e t) (h2 : PE X e u) : PE X e (fun σ H Q => t σ H Q ∨ u σ H Q) := fun pins s σ H Q I h => by
  rcases h with h | h
  · exact h1 pins s σ H Q I h
  · exact h2 pins s σ H Q I h
end L2
namespace L2
open PySem PySem.Spec PyProof.Rows
theorem pass0E {X : Cx} : Passes (CXE X.prog X.w) X E0 := fun _ _ _ _ _ _ _ h => by
  obtain ⟨_, _, _, _, _, _, _, _, _, _, _, _, _, _, _, z⟩ := h
  exact z.elim
theorem Sg.app {a b : Str} (h1 : Sg a) (h2 : Sg b) : Sg (a ++ b) := fun c hc => by
  have e : (a ++ b).cps = a.cps ++ b.cps := rfl
  rw [e, Array.toList_append] at hc
  rcases List.mem_append.mp hc with z | z
  · exact h1 c z
  · exact h2 c z
theorem mem_slice {z : Str} {l u : Option Int} {c : Nat} (h : c ∈ (Txt.slice z l u).cps.toList) : c ∈ z.cps.toList := by
  unfold Txt.slice at h
  split at h
  · exact h
  · simp only [List.toList_toArray] at h
    obtain ⟨i, _, e⟩ := List.mem_filterMap.mp h
    exact Array.mem_toList_iff.mpr (Array.mem_of_getElem? e)
theorem Sg.slice {z : Str} {l u : Option Int} (h : Sg z) : Sg (Txt.slice z l u) := fun c hc => h c (mem_slice hc)
theorem txt_join (sep : Str) (ts : List Str) : Txt.join sep ts = Str.join sep ts := StrLaws.glued_eq_join sep ts
theorem Sg.join {sep : Str} {ts : List Str} (h0 : Sg sep) (h : ∀ t ∈ ts, Sg t) : Sg (Txt.join sep ts) := fun c hc => by
  rw [txt_join, mem_join] at hc
  rcases hc with ⟨t, ht, z⟩ | ⟨_, z⟩
  · exact h t ht c z
  · exact h0 c z
theorem sum_le {ts : List Str} {B : Nat} : (∀ t ∈ ts, t.length ≤ B) → (ts.map (·.length)).sum ≤ ts.length * B := by
  induction ts with
  | nil => intro _; simp
  | cons a r ih =>
    intro h
    have h1 := h a (List.mem_cons_self ..)
    have h2 := ih fun t ht => h t (List.mem_cons_of_mem _ ht)
    simp only [List.map_cons, List.sum_cons, List.length_cons]
    rw [Nat.add_mul]; omega
theorem join_le {sep : Str} {ts : List Str} {B : Nat} (h : ∀ t ∈ ts, t.length ≤ B) : (Txt.join sep ts).length ≤ ts.length * B + ts.length * sep.length := by
  rw [txt_join]
  exact Nat.le_trans (StrLaws.join_length_le sep ts) (Nat.add_le_add_right (sum_le h) _)
theorem joinOk_of {sep : Str} {ts : List Str} {B : Nat} (h : ∀ t ∈ ts, t.length ≤ B) (hz : ts.length * B + ts.length * sep.length ≤ 16777216) : JoinOk sep ts = true := by
  unfold JoinOk
  rw [StrLaws.joinFits h hz]; rfl
theorem repr_le {z : Str} {n : Nat} (h : Sg z) (hz : z.length ≤ n) : (reprText z).length ≤ 10 * n + 2 := Nat.le_trans (StrLaws.reprText_len z h) (by omega)
end L2

/-! pieces that lie in the heap: (name, stretches, names); what is done to the last one -/
namespace L2
open PySem PySem.Spec PyProof.Rows
set_option genInjectivity false in
structure FillM where
  a : Addr
  at_ : Int
  rule : Str
  name : Str
  add : Int
  soft : Bool
set_option genInjectivity false in
structure StM where
  t : Addr
  lw : Addr
  lf : Addr
  kind : Str
  step : Int
  words : List Int
  fills : List FillM
set_option genInjectivity false in
structure ToldM where
  a : Addr
  name : Str
  sort : Str
  st : Int
  off : Int
set_option genInjectivity false in
structure PcM where
  t : Addr
  ls : Addr
  ln : Addr
  name : Str
  sts : List StM
  nms : List ToldM
noncomputable abbrev FillM.v (f : FillM) : V := .ref f.a
noncomputable abbrev StM.v (s : StM) : V := .ref s.t
noncomputable abbrev ToldM.v (n : ToldM) : V := .ref n.a
noncomputable abbrev PcM.v (p : PcM) : V := .ref p.t
noncomputable def FillM.At (H : Hp) (f : FillM) : Prop := H f.a = some (.tup [.int f.at_, .str f.rule, .str f.name, .int f.add, .bl f.soft])
noncomputable def ToldM.At (H : Hp) (n : ToldM) : Prop := H n.a = some (.tup [.str n.name, .str n.sort, .int n.st, .int n.off])
set_option genInjectivity false in
structure StM.At (H : Hp) (s : StM) : Prop where
  top : H s.t = some (.tup [.str s.kind, .int s.step, .ref s.lw, .ref s.lf])
  wd : H s.lw = some (.lst (s.words.map V.int))
  fl : H s.lf = some (.lst (s.fills.map FillM.v))
  fs : ∀ f ∈ s.fills, f.At H
set_option genInjectivity false in
structure PcM.At (H : Hp) (p : PcM) : Prop where
  top : H p.t = some (.tup [.str p.name, .ref p.ls, .ref p.ln])
  sl : H p.ls = some (.lst (p.sts.map StM.v))
  nl : H p.ln = some (.lst (p.nms.map ToldM.v))
  ss : ∀ s ∈ p.sts, s.At H
  ns : ∀ n ∈ p.nms, n.At H
noncomputable def StM.lists (s : StM) : List Addr := [s.lw, s.lf]
noncomputable def PcM.lists (p : PcM) : List Addr := p.ls :: p.ln :: p.sts.flatMap StM.lists
noncomputable def listsOf (ps : List PcM) : List Addr := ps.flatMap PcM.lists
set_option genInjectivity false in
structure Pcs (H : Hp) (L : Addr) (ps : List PcM) : Prop where
  top : H L = some (.lst (ps.map PcM.v))
  at_ : ∀ p ∈ ps, p.At H
  nd : (L :: listsOf ps).Nodup
/-! ### kept -/
noncomputable def But (H H' : Hp) (l : Addr) : Prop := (∃ xs, H l = some (.lst xs)) ∧ ∀ b o, H b = some o → b ≠ l → H' b = some o
theorem But.upd {H : Hp} {l : Addr} {xs : List V} {o : HO} (h : H l = some (.lst xs)) : But H (L2.upd H l o) l := ⟨⟨xs, h⟩, fun b u e n => by rw [upd_ne n]; exact e⟩
theorem But.tup {H H' : Hp} {l a : Addr} {xs : List V} (b : But H H' l) (h : H a = some (.tup xs)) : H' a = some (.tup xs) := by
  obtain ⟨ys, hl⟩ := b.1
  exact b.2 _ _ h fun e => by rw [e, hl] at h; cases h
theorem FillM.At.but {H H' : Hp} {l : Addr} {f : FillM} (h : f.At H) (b : But H H' l) : f.At H' := b.tup h
theorem ToldM.At.but {H H' : Hp} {l : Addr} {n : ToldM} (h : n.At H) (b : But H H' l) : n.At H' := b.tup h
theorem StM.At.but {H H' : Hp} {l : Addr} {s : StM} (h : s.At H) (b : But H H' l) (n : l ∉ s.lists) : s.At H' :=
  ⟨b.tup h.top, b.2 _ _ h.wd fun e => n (by simp [StM.lists, e]), b.2 _ _ h.fl fun e => n (by simp [StM.lists, e]), fun f hf => (h.fs f hf).but b⟩
theorem PcM.At.but {H H' : Hp} {l : Addr} {p : PcM} (h : p.At H) (b : But H H' l) (n : l ∉ p.lists) : p.At H' :=
  ⟨b.tup h.top, b.2 _ _ h.sl fun e => n (by simp [PcM.lists, e]), b.2 _ _ h.nl fun e => n (by simp [PcM.lists, e]),
    fun s hs => (h.ss s hs).but b fun z => n (by simp only [PcM.lists, List.mem_cons]; exact .inr (.inr (List.mem_flatMap.mpr ⟨s, hs, z⟩))), fun m hm => (h.ns m hm).but b⟩
/-! ### the lists are tracked -/
theorem StM.At.list {H : Hp} {s : StM} (h : s.At H) {b : Addr} (hb : b ∈ s.lists) : ∃ xs, H b = some (.lst xs) := by
  simp only [StM.lists, List.mem_cons, List.not_mem_nil, or_false] at hb
  rcases hb with e | e
  · rw [e]; exact ⟨_, h.wd⟩
  · rw [e]; exact ⟨_, h.fl⟩
theorem PcM.At.list {H : Hp} {p : PcM} (h : p.At H) {b : Addr} (hb : b ∈ p.lists) : ∃ xs, H b = some (.lst xs) := by
  simp only [PcM.lists, List.mem_cons] at hb
  rcases hb with e | e | e
  · rw [e]; exact ⟨_, h.sl⟩
  · rw [e]; exact ⟨_, h.nl⟩
  · obtain ⟨s, hs, z⟩ := List.mem_flatMap.mp e
    exact (h.ss s hs).list z
theorem listsOf_snoc (ps : List PcM) (p : PcM) : listsOf (ps ++ [p]) = listsOf ps ++ p.lists := by simp [listsOf, List.flatMap_append]
theorem Pcs.apart {H : Hp} {L : Addr} {ps : List PcM} {p : PcM} (h : Pcs H L (ps ++ [p])) : (∀ q ∈ ps, ∀ b ∈ p.lists, b ∉ q.lists) ∧ p.lists.Nodup ∧ L ∉ p.lists ∧ ∀ q ∈ ps, L ∉ q.lists := by
  have n := h.nd
  rw [listsOf_snoc] at n
  obtain ⟨n1, n2⟩ := List.nodup_cons.mp n
  obtain ⟨n3, n4, n5⟩ := List.nodup_append.mp n2
  refine ⟨fun q hq b hb z => n5 b (List.mem_flatMap.mpr ⟨q, hq, z⟩) b hb rfl, n4, fun z => n1 (List.mem_append_right _ z), fun q hq z => n1 (List.mem_append_left _ (List.mem_flatMap.mpr ⟨q, hq, z⟩))⟩
/-! ### what is done -/
theorem Pcs.last {H : Hp} {L l : Addr} {ps : List PcM} {p p' : PcM} {o : HO} (h : Pcs H L (ps ++ [p])) (hl : l ∈ p.lists) (ht : p'.t = p.t) (hp : p'.At (upd H l o)) (hn : (L :: listsOf (ps ++ [p'])).Nodup) : Pcs (upd H l o) L (ps ++ [p']) := by
  obtain ⟨a1, a2, a3, a4⟩ := h.apart
  obtain ⟨xs, hx⟩ := (h.at_ p (by simp)).list hl
  have b : But H (upd H l o) l := But.upd hx
  refine ⟨?_, fun q hq => ?_, hn⟩
  · rw [b.2 _ _ h.top fun e => a3 (by rw [e]; exact hl)]
    simp [PcM.v, ht]
  · rcases List.mem_append.mp hq with z | z
    · exact (h.at_ q (List.mem_append_left _ z)).but b (a1 q z l hl)
    · rw [List.mem_singleton.mp z]; exact hp
theorem Pcs.newStretch {H : Hp} {L t lw lf : Addr} {kind : Str} {step : Int} {ps : List PcM} {p : PcM} (h : Pcs H L (ps ++ [p])) (h1 : H t = some (.tup [.str kind, .int step, .ref lw, .ref lf])) (h2 : H lw = some (.lst [])) (h3 : H lf = some (.lst []))
    (n1 : lw ≠ lf) (n2 : lw ∉ L :: listsOf (ps ++ [p])) (n3 : lf ∉ L :: listsOf (ps ++ [p])) :
    Pcs (upd H p.ls (.lst (p.sts.map StM.v ++ [.ref t]))) L (ps ++ [{ p with sts := p.sts ++ [⟨t, lw, lf, kind, step, [], []⟩] }]) := by
  have hp := h.at_ p (by simp)
  obtain ⟨a1, a2, a3, a4⟩ := h.apart
  have b : But H (upd H p.ls (.lst (p.sts.map StM.v ++ [.ref t]))) p.ls := But.upd hp.sl
  have in1 : ∀ x, x ∈ p.lists → x ∈ L :: listsOf (ps ++ [p]) := fun x hx => List.mem_cons_of_mem _ (by rw [listsOf_snoc]; exact List.mem_append_right _ hx)
  have hls : p.ls ∈ p.lists := by simp [PcM.lists]
  have nd : p.ls ≠ p.ln ∧ p.ls ∉ p.sts.flatMap StM.lists := by
    have := a2
    simp only [PcM.lists, List.nodup_cons, List.mem_cons, not_or] at this
    exact this.1
  refine h.last hls rfl ⟨b.tup hp.top, by rw [upd_same]; simp, b.2 _ _ hp.nl (Ne.symm nd.1), fun s hs => ?_, fun n hn => (hp.ns n hn).but b⟩ ?_
  · rcases List.mem_append.mp hs with z | z
    · exact (hp.ss s z).but b fun q => nd.2 (List.mem_flatMap.mpr ⟨s, z, q⟩)
    · have e := List.mem_singleton.mp z
      subst e
      exact ⟨b.tup h1, b.2 _ _ h2 fun (e : lw = p.ls) => n2 (in1 _ (e ▸ hls)), b.2 _ _ h3 fun (e : lf = p.ls) => n3 (in1 _ (e ▸ hls)), fun f hf => absurd hf (by simp)⟩
  · have e : L :: listsOf (ps ++ [{ p with sts := p.sts ++ [⟨t, lw, lf, kind, step, [], []⟩] }]) = (L :: listsOf (ps ++ [p])) ++ [lw, lf] := by
      rw [listsOf_snoc, listsOf_snoc]
      simp [PcM.lists, StM.lists, List.flatMap_append]
    rw [e]
    refine List.nodup_append.mpr ⟨h.nd, by simp [n1], fun x hx y hy e => ?_⟩
    subst e
    simp only [List.mem_cons, List.not_mem_nil, or_false] at hy
    rcases hy with e | e
    · subst e; exact n2 hx
    · subst e; exact n3 hx
end L2
namespace L2
open PySem PySem.Spec PyProof.Rows
/-! ### as data -/
end L2

/-! own errors with an __init__ of their own -/
namespace L2
open PySem PySem.Spec PyProof.Rows PySem.W
noncomputable abbrev VE : List Value := [.type "ValueError", .type "Exception", .type "BaseException", .type "object"]
noncomputable def ownInit (K : Frag) (C fI : Addr) : Bool :=
  match K.lookup C with
  | none => false
  | some ob =>
    match ob.cls, ob.data, ob.slots.toList with
    | .type "type", .cls cd, [_, _, _, _, some (.builtin n), _] =>
      (match cd.mro with
       | .ref C' :: bm => C' == C && (n == "ValueError.__new__" && (!cd.hasDel && (tailIn K VE bm && (nsOkIn K cd.ns && (cd.hasDict && nsIn K cd.ns "__init__" == some (some (.ref fI)))))))
       | _ => false)
    | _, _, _ => false
section
variable {prog : Program} {w : World} {A : Around} {E : Value → Shared → Prop} {h : Heap} {g : Array GenState} {d : Drawn} {t : Nat} {os : OsState}
variable {nm q : Str} {C N : Addr} {bs bm bmB : List Value} {hdct : Bool} {sn : List Str} {sub : List Value} {ab : Bool} {col : Option Bool} {dd : Option Addr} {k0 k1 k2 k3 k5 : Option Value} {B newId initId : String}
end
/-! ### self.f = v of an error that is being made -/
noncomputable def onlyErr : List Value → Bool
  | .ref _ :: r => onlyErr r
  | l => l == VE
noncomputable def errIn (K : Frag) (C : Addr) : Bool := (clsIn K C).any fun cd => cd.hasDict && onlyErr cd.mro
section
variable {prog : Program} {w : World} {A : Around} {E : Value → Shared → Prop} {s : Shared} {K : Frag} {x C : Addr} {R : Result → Shared → Prop}
end
end L2

namespace L2
open PySem PySem.Spec PyProof.Rows PySem.W
section
variable {M : Model} {A : Around} {E : Value → Shared → Prop} {env : Env}
variable {nm q : Str} {C N : Addr} {bs bm : List Value} {hdct : Bool} {sn : List Str} {sub : List Value} {ab : Bool} {col : Option Bool} {dd : Option Addr} {k0 k1 k2 k3 k5 : Option Value} {newId : String}
end
section
variable {prog : Program} {w : World} {A : Around} {E : Value → Shared → Prop} {s : Shared} {env : Env}
variable {nm q : Str} {C N : Addr} {bs bm bmB : List Value} {hdct : Bool} {sn : List Str} {sub : List Value} {ab : Bool} {col : Option Bool} {dd : Option Addr} {k0 k1 k2 k3 k5 : Option Value} {B newId initId : String}
end
/-! ### an error that is being made -/
noncomputable def XN (a C : Addr) (dx : Option Addr) : HO := .ext fun h => ∃ ob vs v0, h.get? a = some ob ∧ ob.cls = .ref C ∧ ob.dict = dx ∧ ob.data = .fields vs ∧ vs[0]? = some v0 ∧ vs[1]? = some .none
noncomputable def XD (d : Addr) (fs : List (Str × V)) : HO := .ext fun h => ∃ mA, h.Ns1 d mA ∧ (∀ f, RelO (fs.lookup f) (mA f)) ∧ PySem.Within mA (fs.map (·.1))
noncomputable def del (H : Hp) (a : Addr) : Hp := fun b => if b = a then none else H b
section
variable {X : Cx} {pins : List (Addr × Obj)} {σ : St} {H : Hp} {s : Shared} {a C : Addr} {φ : Heap → Prop}
end
end L2

namespace L2
open PySem PySem.Spec PyProof.Rows PySem.W
set_option genInjectivity false in
structure ErrC (K : Frag) (C f : Addr) : Prop where
  ini : ownInit K C f = true
  ei : errIn K C = true
  sa : findIn K (.ref C) "__setattr__" = some (some (.builtin "object.__setattr__"))
  fn : isFn K (.ref f) = true
noncomputable def tRaiseI (C : Addr) (sp : Sp) (E : XK) (t : TA) : TS := fun _ σ H => t σ H fun vs H1 => vs.length ≤ sizeLine ∧ ∀ x, H1 x = none → sp (.ref x :: vs) (upd H1 x (XN x C none)) (fun v H2 => v = .non ∧
  ((H2 x = some (XN x C none) ∧ E (.ref C) none (del H2 x)) ∨ ∃ d fs, d ≠ x ∧ H2 x = some (XN x C (some d)) ∧ H2 d = some (XD d fs) ∧ E (.ref C) (some d) (del (upd H2 d (.xd fs)) x))) E0
noncomputable def tXInit (K : Frag) (t : TA) : TE := fun σ H Q => t σ H fun vs H1 => ∃ a C dx rest f, vs = .ref a :: rest ∧ H1 a = some (XN a C dx) ∧ ErrC K C f ∧ rest.length ≤ sizeLine ∧ Q .non H1
noncomputable def sXFld (K : Frag) (ta tv : TE) (f : Str) : TS := fun D σ H => tv σ H fun y H1 => ta σ H1 fun x H2 => ∃ a C fI dx, x = .ref a ∧ H2 a = some (XN a C dx) ∧ ErrC K C fI ∧ NoAttr K C f ∧
  ((dx = none ∧ ∀ d, H2 d = none → D.nx σ (upd (upd H2 d (XD d [(f, y)])) a (XN a C (some d)))) ∨ ∃ d fs, dx = some d ∧ H2 d = some (XD d fs) ∧ fs.length < 1000 ∧ D.nx σ (upd H2 d (XD d (putF f y fs))))
noncomputable def tXFld (K : Frag) (ta : TE) (f : Str) : TE := fun σ H Q => ta σ H fun x H1 => ∃ a C d fs v, x = .ref a ∧ H1 a = some (XO a C (some d)) ∧ H1 d = some (.xd fs) ∧ XCls K C ∧ hasDictIn K C = true ∧ NoAttr K C f ∧ fs.lookup f = some v ∧ Q v H1
section
variable {X : Cx} {x f : Str} {B C fI : Addr} {k : Nat} {fd : FuncData} {ps : List Str} {sp : Sp} {E : XK} {e o value : Expr} {es : List Expr} {p np apos cpos pos pos' : Pos} {t : TA} {ta tv : TE}
end
end L2

namespace L2
open PySem PySem.Spec PyProof.Rows
section
variable {X : Cx}
end
end L2

/-! x = [.. for ..]: the store is done while the comprehension's frame stands yet -/
namespace L2
open PySem PySem.Spec PyProof.Rows
section
variable {X : Cx}
end
end L2

/-! dict(d), d == e, xs.count(x) -/
namespace L2
open PySem PySem.Spec PyProof.Rows
section
variable {prog : Program} {w : World} {K : Type} [DecidableEq K] {knd : KeyKind prog w K} {A : Around} {E : Value → Shared → Prop} {s : Shared}
end
section
variable {X : Cx}
noncomputable def rEqDict (K : PySem.W.Frag) : R2 := fun x y H Q => ∃ p q kvs, x = .ref p ∧ y = .ref q ∧ H p = some (.dK kvs) ∧ H q = some (.dK kvs) ∧ (∀ kv ∈ kvs, ∃ d, Rep K H d kv.2 ∧ dep d ≤ 20) ∧ Q (.bl true) H
noncomputable def rDictOf : List V → Hp → VK → Prop := fun xs H Q => ∃ p kvs, xs = [.ref p] ∧ H p = some (.dK kvs) ∧ ∀ q, H q = none → Q (.ref q) (upd H q (.dK kvs))
noncomputable def cntV (x : V) (xs : List V) : Nat := xs.countP fun y => eqV y x
noncomputable def rCount (K : PySem.W.Frag) : V → List V → Hp → VK → Prop := fun x vs H Q => ∃ p xs y, x = .ref p ∧ vs = [y] ∧ SqL K H p xs ∧ flatV y = true ∧ xs.all flatV = true ∧ Q (.int (cntV y xs : Nat)) H
end
end L2

/-! a comprehension whose element may raise -/
namespace L2
open PySem PySem.Spec PyProof.Rows
section
variable {M : Model} {A : Around} {E : Value → Shared → Prop} {s : Shared}
end
section
variable {prog : Program} {w : World} {A : Around} {R : Result → Shared → Prop} {s : Shared}
end
section
variable {X : Cx}
noncomputable def tCompX (E : XK) (k : Nat) (fm : List Nat) (wi : TI) (g : TG) (tt : TT) (te : TEX) : TE := fun σ H Q => wi σ H fun J H1 => ∀ D, H1 D = none → ∃ W : Nat → Nat → List V → Hp → Prop,
  (∃ m, W 0 m [] (upd H1 D (.lst []))) ∧ ∀ i m ys H2, W i m ys H2 → H2 D = some (.lst ys) ∧ ys.length < sizeLine ∧ ((J.stop i H2 ∧ Q (.ref D) H2) ∨ (J.go i H2 ∧ ∃ N : List V → Hp → Prop, (∀ ys' H', N ys' H' → ∃ m', m' < m ∧ W (i + 1) m' ys' H') ∧ ∀ x H3, J.yld i H2 x H3 →
    g x (blkSt k fm σ) H3 fun σ3 H4 => Ext (blkSt k fm σ) σ3 ∧ tt σ3 H4 fun b H5 => if b = true then te σ3 H5 (fun y H6 => H6 D = some (.lst ys) ∧ N (ys ++ [y]) (upd H6 D (.lst (ys ++ [y])))) E else N ys H5))
end
/-! ### the readings -/
noncomputable def CompWX (E : XK) (g : TG) (tt : TT) (te : TEX) (σ0 : St) (Q : VK) (J : It) (H1 : Hp) : Prop := ∀ DD, H1 DD = none → ∃ W : Nat → Nat → List V → Hp → Prop,
  (∃ m, W 0 m [] (upd H1 DD (.lst []))) ∧ ∀ i m ys H2, W i m ys H2 → H2 DD = some (.lst ys) ∧ ys.length < sizeLine ∧ ((J.stop i H2 ∧ Q (.ref DD) H2) ∨ (J.go i H2 ∧ ∃ N : List V → Hp → Prop, (∀ ys' H', N ys' H' → ∃ m', m' < m ∧ W (i + 1) m' ys' H') ∧ ∀ x H3, J.yld i H2 x H3 →
    g x σ0 H3 fun σ3 H4 => Ext σ0 σ3 ∧ tt σ3 H4 fun b H5 => if b = true then te σ3 H5 (fun y H6 => H6 DD = some (.lst ys) ∧ N (ys ++ [y]) (upd H6 DD (.lst (ys ++ [y])))) E else N ys H5))
noncomputable def CompLX (K : PySem.W.Frag) (E : XK) (g : TG) (tt : TT) (te : TEX) (σ0 : St) (Q : VK) : VK := fun x H1 => ∃ a, x = .ref a ∧ (∃ xs, SqL K H1 a xs) ∧ CompWX E g tt te σ0 Q (Itl K a) H1
section
variable {K : PySem.W.Frag} {k : Nat} {fm : List Nat} {tl : TE} {te : TEX} {g : TG} {tt : TT} {σ σ0 : St} {H H1 : Hp} {Q : VK} {E : XK}
theorem tCompX_list : tCompX E k fm (iList K tl) g tt te σ H Q = tl σ H (CompLX K E g tt te (blkSt k fm σ) Q) := rfl
end
section
variable {M : Model} {A : Around} {E : Value → Shared → Prop} {s : Shared}
end
end L2

set_option maxHeartbeats 0
set_option pp.deepTerms true
set_option pp.maxSteps 100000
namespace My
open PySem PySem.Spec PyProof.Rows L2
noncomputable def top (i : Nat) : Stmt := PySem.Challenge.pw_joinload_k09_rules_by_titles.main.body.getD i (.Pass ⟨0, 0, 0, 0⟩)
noncomputable abbrev s_rule_of : Stmt := top 20
noncomputable abbrev s_Rule___init__ : Stmt := inClass (top 21) 0
noncomputable abbrev s_Rule_leans : Stmt := inClass (top 21) 4
noncomputable abbrev s_Near_leans : Stmt := inClass (top 25) 3
noncomputable abbrev s_Split_leans : Stmt := inClass (top 26) 3
noncomputable abbrev s__law_sign_by : Stmt := top 29
noncomputable abbrev s__law_title : Stmt := top 30
noncomputable abbrev s__law_text_by : Stmt := top 31
noncomputable abbrev s__law_told_of : Stmt := top 32
noncomputable abbrev s__law_refused : Stmt := top 33
noncomputable abbrev s__law_holds : Stmt := top 34
noncomputable abbrev s_law : Stmt := top 35
theorem bt_ValueError : bootBuiltins "ValueError" = some (.type "ValueError") := by decide +kernel
theorem bt_isinstance : bootBuiltins "isinstance" = some (.builtin "isinstance") := by decide +kernel
theorem bt_len : bootBuiltins "len" = some (.builtin "len") := by decide +kernel
theorem bt_str : bootBuiltins "str" = some (.type "str") := by decide +kernel
theorem relT {n : String} : RelV (.ty n) (.type n) := rfl
set_option genInjectivity false in
structure Ad where
  rule_of : Addr
  fd_rule_of : FuncData
  Rule___init__ : Addr
  fd_Rule___init__ : FuncData
  Rule_leans : Addr
  fd_Rule_leans : FuncData
  Near_leans : Addr
  fd_Near_leans : FuncData
  Split_leans : Addr
  fd_Split_leans : FuncData
  _law_sign_by : Addr
  fd__law_sign_by : FuncData
  _law_title : Addr
  fd__law_title : FuncData
  _law_text_by : Addr
  fd__law_text_by : FuncData
  _law_told_of : Addr
  fd__law_told_of : FuncData
  _law_refused : Addr
  fd__law_refused : FuncData
  _law_holds : Addr
  fd__law_holds : FuncData
  law : Addr
  fd_law : FuncData
  c_High : Addr
  c_JoinError : Addr
  c_Lost : Addr
  c_Low : Addr
  c_Near : Addr
  c_NoBase : Addr
  c_NoPiece : Addr
  c_NoRule : Addr
  c_NoSense : Addr
  c_NoWhole : Addr
  c_Rule : Addr
  c_SameName : Addr
  c_Split : Addr
  c_TooFar : Addr
  c_Twice : Addr
  c_Unmet : Addr
  c_Whole : Addr
set_option genInjectivity false in
structure Txt (K : PySem.W.Frag) (mg : Str → Option Value) (A : Ad) : Prop where
  m_rule_of : mg "rule_of" = some (.ref A.rule_of)
  k_rule_of : PySem.W.keepIn K (.ref A.rule_of) = true
  b_rule_of : Binds K A.fd_rule_of ["title"] []
  F_rule_of : Fun K "rule_of" "rule_of" s_rule_of A.rule_of A.fd_rule_of
  k_Rule___init__ : PySem.W.keepIn K (.ref A.Rule___init__) = true
  b_Rule___init__ : Binds K A.fd_Rule___init__ ["self", "title"] []
  F_Rule___init__ : Fun K "__init__" "Rule.__init__" s_Rule___init__ A.Rule___init__ A.fd_Rule___init__
  k_Rule_leans : PySem.W.keepIn K (.ref A.Rule_leans) = true
  b_Rule_leans : Binds K A.fd_Rule_leans ["self"] []
  F_Rule_leans : Fun K "leans" "Rule.leans" s_Rule_leans A.Rule_leans A.fd_Rule_leans
  k_Near_leans : PySem.W.keepIn K (.ref A.Near_leans) = true
  b_Near_leans : Binds K A.fd_Near_leans ["self"] []
  F_Near_leans : Fun K "leans" "Near.leans" s_Near_leans A.Near_leans A.fd_Near_leans
  k_Split_leans : PySem.W.keepIn K (.ref A.Split_leans) = true
  b_Split_leans : Binds K A.fd_Split_leans ["self"] []
  F_Split_leans : Fun K "leans" "Split.leans" s_Split_leans A.Split_leans A.fd_Split_leans
  m__law_sign_by : mg "_law_sign_by" = some (.ref A._law_sign_by)
  k__law_sign_by : PySem.W.keepIn K (.ref A._law_sign_by) = true
  b__law_sign_by : Binds K A.fd__law_sign_by ["_law_cell"] []
  F__law_sign_by : Fun K "_law_sign_by" "_law_sign_by" s__law_sign_by A._law_sign_by A.fd__law_sign_by
  m__law_title : mg "_law_title" = some (.ref A._law_title)
  k__law_title : PySem.W.keepIn K (.ref A._law_title) = true
  b__law_title : Binds K A.fd__law_title ["_law_cell"] []
  F__law_title : Fun K "_law_title" "_law_title" s__law_title A._law_title A.fd__law_title
  m__law_text_by : mg "_law_text_by" = some (.ref A._law_text_by)
  k__law_text_by : PySem.W.keepIn K (.ref A._law_text_by) = true
  b__law_text_by : Binds K A.fd__law_text_by ["_law_cell", "_law_other"] []
  F__law_text_by : Fun K "_law_text_by" "_law_text_by" s__law_text_by A._law_text_by A.fd__law_text_by
  m__law_told_of : mg "_law_told_of" = some (.ref A._law_told_of)
  k__law_told_of : PySem.W.keepIn K (.ref A._law_told_of) = true
  b__law_told_of : Binds K A.fd__law_told_of ["_law_text"] []
  F__law_told_of : Fun K "_law_told_of" "_law_told_of" s__law_told_of A._law_told_of A.fd__law_told_of
  m__law_refused : mg "_law_refused" = some (.ref A._law_refused)
  k__law_refused : PySem.W.keepIn K (.ref A._law_refused) = true
  b__law_refused : Binds K A.fd__law_refused ["_law_told"] []
  F__law_refused : Fun K "_law_refused" "_law_refused" s__law_refused A._law_refused A.fd__law_refused
  m__law_holds : mg "_law_holds" = some (.ref A._law_holds)
  k__law_holds : PySem.W.keepIn K (.ref A._law_holds) = true
  b__law_holds : Binds K A.fd__law_holds ["_law_cell", "_law_other"] []
  F__law_holds : Fun K "_law_holds" "_law_holds" s__law_holds A._law_holds A.fd__law_holds
  m_law : mg "law" = some (.ref A.law)
  k_law : PySem.W.keepIn K (.ref A.law) = true
  b_law : Binds K A.fd_law ["_law_script"] []
  F_law : Fun K "law" "law" s_law A.law A.fd_law
  n_ValueError : mg "ValueError" = none
  n_isinstance : mg "isinstance" = none
  n_len : mg "len" = none
  n_range : mg "range" = none
  n_str : mg "str" = none
  mc_High : mg "High" = some (.ref A.c_High)
  cl_High : Cls K A.c_High
  mc_JoinError : mg "JoinError" = some (.ref A.c_JoinError)
  mc_Lost : mg "Lost" = some (.ref A.c_Lost)
  mc_Low : mg "Low" = some (.ref A.c_Low)
  cl_Low : Cls K A.c_Low
  mc_Near : mg "Near" = some (.ref A.c_Near)
  cl_Near : Cls K A.c_Near
  mc_NoBase : mg "NoBase" = some (.ref A.c_NoBase)
  mc_NoPiece : mg "NoPiece" = some (.ref A.c_NoPiece)
  mc_NoRule : mg "NoRule" = some (.ref A.c_NoRule)
  mc_NoSense : mg "NoSense" = some (.ref A.c_NoSense)
  mc_NoWhole : mg "NoWhole" = some (.ref A.c_NoWhole)
  mc_Rule : mg "Rule" = some (.ref A.c_Rule)
  cl_Rule : Cls K A.c_Rule
  mc_SameName : mg "SameName" = some (.ref A.c_SameName)
  mc_Split : mg "Split" = some (.ref A.c_Split)
  cl_Split : Cls K A.c_Split
  mc_TooFar : mg "TooFar" = some (.ref A.c_TooFar)
  mc_Twice : mg "Twice" = some (.ref A.c_Twice)
  mc_Unmet : mg "Unmet" = some (.ref A.c_Unmet)
  mc_Whole : mg "Whole" = some (.ref A.c_Whole)
  cl_Whole : Cls K A.c_Whole
  kv : PySem.W.kitOne K (.ref A.c_NoRule) (.type "ValueError") = some true
  ka : PySem.W.kitAny K (.ref A.c_NoRule) [.ref A.c_Lost, .ref A.c_NoBase, .ref A.c_NoPiece, .ref A.c_NoSense, .ref A.c_NoWhole, .ref A.c_SameName, .ref A.c_TooFar, .ref A.c_Twice, .ref A.c_Unmet] = some false
  kj : PySem.W.mroIn K A.c_NoRule (.ref A.c_JoinError) = some true
  kr_Whole : PySem.W.kitOne K (.ref A.c_Whole) (.ref A.c_Rule) = some true
  kr_High : PySem.W.kitOne K (.ref A.c_High) (.ref A.c_Rule) = some true
  kr_Low : PySem.W.kitOne K (.ref A.c_Low) (.ref A.c_Rule) = some true
  kr_Near : PySem.W.kitOne K (.ref A.c_Near) (.ref A.c_Rule) = some true
  kr_Split : PySem.W.kitOne K (.ref A.c_Split) (.ref A.c_Rule) = some true
  kc_l_Whole : PySem.W.findIn K (.ref A.c_Whole) "__class__" = some (some (.builtin "object.__class__"))
  kc_l_High : PySem.W.findIn K (.ref A.c_High) "__class__" = some (some (.builtin "object.__class__"))
  kc_l_Low : PySem.W.findIn K (.ref A.c_Low) "__class__" = some (some (.builtin "object.__class__"))
  kc_l_Near : PySem.W.findIn K (.ref A.c_Near) "__class__" = some (some (.builtin "object.__class__"))
  kc_l_Split : PySem.W.findIn K (.ref A.c_Split) "__class__" = some (some (.builtin "object.__class__"))
  ko_Whole : PySem.W.mroIn K A.c_Whole (.type "object") = some true
  ko_High : PySem.W.mroIn K A.c_High (.type "object") = some true
  ko_Low : PySem.W.mroIn K A.c_Low (.type "object") = some true
  ko_Near : PySem.W.mroIn K A.c_Near (.type "object") = some true
  ko_Split : PySem.W.mroIn K A.c_Split (.type "object") = some true
  xg_NoRule : PySem.W.findIn K (.ref A.c_NoRule) "__getattribute__" = some (some (.builtin "BaseException.__getattribute__"))
  xn_NoRule : PySem.W.findIn K (.ref A.c_NoRule) "__getattr__" = some none
  xl_NoRule : PySem.W.findIn K (.ref A.c_NoRule) "__class__" = some (some (.builtin "object.__class__"))
  xo_NoRule : PySem.W.mroIn K A.c_NoRule (.type "object") = some true
  xb_NoRule : PySem.W.mroIn K A.c_NoRule (.type "BaseException") = some true
  sp_cl : PySem.W.specialIn K (.builtin "object.__class__") "__get__" = some (some (.builtin "getset_descriptor.__get__"))
  tk_cl : PySem.W.takesIn K (.builtin "object.__class__") = some true
  xi_NoRule : PySem.W.excIn K A.c_NoRule [.type "ValueError", .type "Exception", .type "BaseException", .type "object"] "ValueError.__new__" = true
  ct_JoinError : PySem.W.instIn K (.ref A.c_JoinError) (.type "tuple") = some false
  cb_JoinError : PySem.W.mroIn K A.c_JoinError (.type "BaseException") = some true
  mk_High : Mk K A.c_High A.Rule___init__
  mk_Low : Mk K A.c_Low A.Rule___init__
  mk_Near : Mk K A.c_Near A.Rule___init__
  mk_Split : Mk K A.c_Split A.Rule___init__
  mk_Whole : Mk K A.c_Whole A.Rule___init__
  me_High_leans : Meth K A.c_High "leans" A.Rule_leans
  me_Low_leans : Meth K A.c_Low "leans" A.Rule_leans
  me_Near_leans : Meth K A.c_Near "leans" A.Near_leans
  me_Split_leans : Meth K A.c_Split "leans" A.Split_leans
  me_Whole_leans : Meth K A.c_Whole "leans" A.Rule_leans
  no_Whole_title : NoAttr K A.c_Whole "title"
  no_High_title : NoAttr K A.c_High "title"
  no_Low_title : NoAttr K A.c_Low "title"
  no_Near_title : NoAttr K A.c_Near "title"
  no_Split_title : NoAttr K A.c_Split "title"
theorem sc_rule_of : FnScope ["title"] ["title"] (defScope s_rule_of) := ⟨rfl, rfl, rfl, by decide +kernel, rfl, by decide +kernel, by decide +kernel⟩
theorem sc_Rule___init__ : FnScope ["self", "title"] ["self", "title"] (defScope s_Rule___init__) := ⟨rfl, rfl, rfl, by decide +kernel, rfl, by decide +kernel, by decide +kernel⟩
theorem sc_Rule_leans : FnScope ["self"] ["self"] (defScope s_Rule_leans) := ⟨rfl, rfl, rfl, by decide +kernel, rfl, by decide +kernel, by decide +kernel⟩
theorem sc_Near_leans : FnScope ["self"] ["self"] (defScope s_Near_leans) := ⟨rfl, rfl, rfl, by decide +kernel, rfl, by decide +kernel, by decide +kernel⟩
theorem sc_Split_leans : FnScope ["self"] ["self"] (defScope s_Split_leans) := ⟨rfl, rfl, rfl, by decide +kernel, rfl, by decide +kernel, by decide +kernel⟩
theorem sc__law_sign_by : FnScope ["_law_cell", "_law_some"] ["_law_cell"] (defScope s__law_sign_by) := ⟨rfl, rfl, rfl, by decide +kernel, rfl, by decide +kernel, by decide +kernel⟩
theorem sc__law_title : FnScope ["_law_cell"] ["_law_cell"] (defScope s__law_title) := ⟨rfl, rfl, rfl, by decide +kernel, rfl, by decide +kernel, by decide +kernel⟩
theorem sc__law_text_by : FnScope ["_law_cell", "_law_other", "_law_text", "_law_way", "_law_at", "_law_sign"] ["_law_cell", "_law_other"] (defScope s__law_text_by) := ⟨rfl, rfl, rfl, by decide +kernel, rfl, by decide +kernel, by decide +kernel⟩
theorem sc__law_told_of : FnScope ["_law_text", "_law_told", "e"] ["_law_text"] (defScope s__law_told_of) := ⟨rfl, rfl, rfl, by decide +kernel, rfl, by decide +kernel, by decide +kernel⟩
theorem sc__law_refused : FnScope ["_law_told"] ["_law_told"] (defScope s__law_refused) := ⟨rfl, rfl, rfl, by decide +kernel, rfl, by decide +kernel, by decide +kernel⟩
theorem sc__law_holds : FnScope ["_law_cell", "_law_other", "_law_text", "_law_rule"] ["_law_cell", "_law_other"] (defScope s__law_holds) := ⟨rfl, rfl, rfl, by decide +kernel, rfl, by decide +kernel, by decide +kernel⟩
theorem sc_law : FnScope ["_law_script", "_law_cells", "_law_k"] ["_law_script"] (defScope s_law) := ⟨rfl, rfl, rfl, by decide +kernel, rfl, by decide +kernel, by decide +kernel⟩
theorem cK {CX P w K mg base N qual scope f cd Ar outer s H E} : (cxOf CX P w K mg base N qual scope f cd Ar outer s H E).K = K := rfl
theorem bK {X : Cx} {N' : List Str} {scope : Scope} {fp : List Addr} {s : Shared} {H : Hp} : (blk X N' scope fp s H).K = X.K := rfl
theorem slen (a b : Str) : (a ++ b).length = a.length + b.length := Array.size_append
theorem atI_ex {α : Type} {xs : List α} {i : Int} (h1 : -(xs.length : Int) ≤ i) (h2 : i < xs.length) : ∃ v, atI xs i = some v ∧ v ∈ xs := by
  unfold atI ixN
  by_cases h0 : 0 ≤ i
  · have hl : i.toNat < xs.length := by omega
    refine ⟨xs[i.toNat], ?_, List.getElem_mem hl⟩
    rw [if_pos h0, if_pos h2]
    show xs[i.toNat]? = _
    rw [List.getElem?_eq_getElem hl]
  · have hl : (i + xs.length).toNat < xs.length := by omega
    refine ⟨xs[(i + xs.length).toNat], ?_, List.getElem_mem hl⟩
    rw [if_neg h0, if_pos h1]
    show xs[(i + xs.length).toNat]? = _
    rw [List.getElem?_eq_getElem hl]
noncomputable def RC (A : Ad) (C : Addr) : Prop := C = A.c_Whole ∨ C = A.c_High ∨ C = A.c_Low ∨ C = A.c_Near ∨ C = A.c_Split
noncomputable def clsOf (A : Ad) (z : Str) : Option Addr := if z = Str.ofString "whole" then some A.c_Whole else if z = Str.ofString "high" then some A.c_High else if z = Str.ofString "low" then some A.c_Low else if z = Str.ofString "near" then some A.c_Near else if z = Str.ofString "split" then some A.c_Split else none
noncomputable def isT (z : Str) : Prop := z = Str.ofString "whole" ∨ z = Str.ofString "high" ∨ z = Str.ofString "low" ∨ z = Str.ofString "near" ∨ z = Str.ofString "split"
noncomputable def IsRule (C : Addr) (z : Str) (H : Hp) (p : Addr) : Prop := ∃ dx, H p = some (.ins C dx [("title", .str z)])
noncomputable def sp_init (A : Ad) : Sp := fun vs H Q _ => ∃ (p dx C : Addr) (x : V), vs = [.ref p, x] ∧ H p = some (.ins C dx []) ∧ RC A C ∧ Q .non (upd H p (.ins C dx [("title", x)]))
noncomputable def sp_rule (A : Ad) : Sp := fun vs H Q E => ∃ z : Str, vs = [.str z] ∧ z.length ≤ 600 ∧ Sg z ∧ (∀ C, clsOf A z = some C → ∀ p H', Same H H' → IsRule C z H' p → Q (.ref p) H') ∧ (clsOf A z = none → E (.ref A.c_NoRule) none H)
noncomputable def sp_leansT : Sp := fun vs H Q _ => ∃ v : V, vs = [v] ∧ Q (.bl true) H
noncomputable def sp_leans : Sp := fun vs H Q _ => ∃ v : V, vs = [v] ∧ Q (.bl false) H
noncomputable def sp_sign : Sp := fun vs H Q _ => ∃ c : Int, vs = [.int c] ∧ ∀ z : Str, z.length = 1 → Sg z → Q (.str z) H
noncomputable def sp_title : Sp := fun vs H Q _ => ∃ c : Int, vs = [.int c] ∧ ∀ (z : Str) (H' : Hp), isT z → Same H H' → Q (.str z) H'
noncomputable def sp_textby : Sp := fun vs H Q _ => ∃ c o : Int, vs = [.int c, .int o] ∧ ∀ (z : Str) (H' : Hp), z.length ≤ 600 → Sg z → Same H H' → Q (.str z) H'
noncomputable def sp_toldof (A : Ad) : Sp := fun vs H Q _ => ∃ z : Str, vs = [.str z] ∧ z.length ≤ 600 ∧ Sg z ∧ clsOf A z = none ∧ ∀ a H', Same H H' → H' a = some (XO a A.c_NoRule none) → Q (.ref a) H'
noncomputable def sp_refused (A : Ad) : Sp := fun vs H Q _ => ∃ a : Addr, vs = [.ref a] ∧ H a = some (XO a A.c_NoRule none) ∧ ∀ H', Same H H' → Q (.bl true) H'
noncomputable def sp_holds : Sp := fun vs H Q _ => ∃ c o : Int, vs = [.int c, .int o] ∧ ∀ H', Same H H' → Q (.bl true) H'
noncomputable def sp_law (K : PySem.W.Frag) : Sp := fun vs H Q _ => ∃ (a : Addr) (ns : List Int), vs = [.ref a] ∧ SqL K H a (ns.map V.int) ∧ ns.length ≤ 63 ∧ ∀ H', Q (.bl true) H'
local macro_rules | `(tactic| walk_at "rdd") => `(tactic| (try dsimp only [tSeq, tAsg, gName, tC, tOp, tUn, tVar, tRet, tIfS, tOr, tAnd, tNot, tTest, tB, tChain, tCB, tCons, tNil, tCall, tSl, tNoPart, tPart, tNext, tDrop, tLst, tTup, tYes, tNotV, tAndV, tOrV, L2.start, List.set, List.map, List.length, List.replicate, List.cons_append, List.nil_append, List.append_nil, cK, bK, rI0, rI, rU, rIxS, rIxL, rIxT, tRetN, rSlL, rIn, rCatT, gTup, gCons, gNil, tRaiseI, tXInit, tDGet, tDGet1, tDGet2, tDIn, tDNotIn, sDPut, tDNewK, rDictOf, rEqDict, rCount, tCompX_list, xCall, sXFld, tXFld, rSlS, rEq, rNe, sc0, sc1, sc2, sc3, sc4, sc5, sc6, sc7, sc8, sc9, sc10, sc11, sc12, sc13, rCatS, rIsi, LenV, rAll, tFor_list, tFor_tup, tFor_str, tFor_rng1, tFor_rng2, tComp_list, tComp_tup, tComp_str, tComp_rng1, blkSt, tBM, rAppend, rStarts, rIndex, tIf, tMake, tMeth, sFld, tFld, tRepr, tFmt, jNil, jCons, tJoined, rJoin, rIsx, rIst, tRaise, tTryAs, tTry0, un1, xMeth, xDrop, xSet, xRet, xOf, xSeq, List.getElem?_cons_zero, List.getElem?_cons_succ, Option.some.injEq, V.int.injEq, V.str.injEq, V.bl.injEq, V.ref.injEq, V.ty.injEq, List.cons.injEq, exists_eq_left', exists_eq_left, exists_eq', and_assoc, if_true, if_false, Bool.not_false, Bool.not_true, Bool.not_not, Bool.false_eq_true, exists_and_left, and_true, true_and, List.set_cons_zero, List.set_cons_succ, Option.join_some, false_and, or_false, false_or, exists_false, sp_init, sp_rule, sp_leans, sp_leansT, sp_sign, sp_title, sp_textby, sp_toldof, sp_refused, sp_holds, Ends.nx, Nat.reduceSub, Nat.reduceAdd]))
local macro_rules | `(tactic| walk_at "rd") => `(tactic| (walk_at "rdd"; (try simp only [tSeq, tAsg, gName, tC, tOp, tUn, tVar, tRet, tIfS, tOr, tAnd, tNot, tTest, tB, tChain, tCB, tCons, tNil, tCall, tSl, tNoPart, tPart, tNext, tDrop, tLst, tTup, tYes, tNotV, tAndV, tOrV, L2.start, List.set, List.map, List.length, List.replicate, List.cons_append, List.nil_append, List.append_nil, cK, bK, rI0, rI, rU, rIxS, rIxL, rIxT, tRetN, rSlL, rIn, rCatT, gTup, gCons, gNil, tRaiseI, tXInit, tDGet, tDGet1, tDGet2, tDIn, tDNotIn, sDPut, tDNewK, rDictOf, rEqDict, rCount, tCompX_list, xCall, sXFld, tXFld, rSlS, rEq, rNe, sc0, sc1, sc2, sc3, sc4, sc5, sc6, sc7, sc8, sc9, sc10, sc11, sc12, sc13, rCatS, rIsi, LenV, rAll, tFor_list, tFor_tup, tFor_str, tFor_rng1, tFor_rng2, tComp_list, tComp_tup, tComp_str, tComp_rng1, blkSt, tBM, rAppend, rStarts, rIndex, tIf, tMake, tMeth, sFld, tFld, tRepr, tFmt, jNil, jCons, tJoined, rJoin, rIsx, rIst, tRaise, tTryAs, tTry0, un1, xMeth, xDrop, xSet, xRet, xOf, xSeq, List.getElem?_cons_zero, List.getElem?_cons_succ, Option.some.injEq, V.int.injEq, V.str.injEq, V.bl.injEq, V.ref.injEq, V.ty.injEq, List.cons.injEq, exists_eq_left', exists_eq_left, exists_eq', and_assoc, if_true, if_false, Bool.not_false, Bool.not_true, Bool.not_not, Bool.false_eq_true, exists_and_left, and_true, true_and, List.set_cons_zero, List.set_cons_succ, Option.join_some, false_and, or_false, false_or, exists_false, sp_init, sp_rule, sp_leans, sp_leansT, sp_sign, sp_title, sp_textby, sp_toldof, sp_refused, sp_holds, Ends.nx, Nat.reduceSub, Nat.reduceAdd, reduceCtorEq])))
local macro_rules | `(tactic| walk_at "rdi") => `(tactic| (walk_at "rdd"; (try simp only [tSeq, tAsg, gName, tC, tOp, tUn, tVar, tRet, tIfS, tOr, tAnd, tNot, tTest, tB, tChain, tCB, tCons, tNil, tCall, tSl, tNoPart, tPart, tNext, tDrop, tLst, tTup, tYes, tNotV, tAndV, tOrV, L2.start, List.set, List.map, List.length, List.replicate, List.cons_append, List.nil_append, List.append_nil, cK, bK, rI0, rI, rU, rIxS, rIxL, rIxT, tRetN, rSlL, rIn, rCatT, gTup, gCons, gNil, tRaiseI, tXInit, tDGet, tDGet1, tDGet2, tDIn, tDNotIn, sDPut, tDNewK, rDictOf, rEqDict, rCount, tCompX_list, xCall, sXFld, tXFld, rSlS, rEq, rNe, sc0, sc1, sc2, sc3, sc4, sc5, sc6, sc7, sc8, sc9, sc10, sc11, sc12, sc13, rCatS, rIsi, LenV, rAll, tFor_list, tFor_tup, tFor_str, tFor_rng1, tFor_rng2, tComp_list, tComp_tup, tComp_str, tComp_rng1, blkSt, tBM, rAppend, rStarts, rIndex, tIf, tMake, tMeth, sFld, tFld, tRepr, tFmt, jNil, jCons, tJoined, rJoin, rIsx, rIst, tRaise, tTryAs, tTry0, un1, xMeth, xDrop, xSet, xRet, xOf, xSeq, List.getElem?_cons_zero, List.getElem?_cons_succ, Option.some.injEq, V.int.injEq, V.str.injEq, V.bl.injEq, V.ref.injEq, V.ty.injEq, List.cons.injEq, exists_eq_left', exists_eq_left, exists_eq', and_assoc, if_true, if_false, Bool.not_false, Bool.not_true, Bool.not_not, Bool.false_eq_true, exists_and_left, and_true, true_and, List.set_cons_zero, List.set_cons_succ, Option.join_some, false_and, or_false, false_or, exists_false, sp_init, sp_rule, sp_leans, sp_leansT, sp_sign, sp_title, sp_textby, sp_toldof, sp_refused, sp_holds, Ends.nx, Nat.reduceSub, Nat.reduceAdd, reduceCtorEq, decide_true, decide_false, ↓reduceIte])))

section
variable {P : Program} {w : World} {K : PySem.W.Frag} {mg : Str → Option Value} {base : Heap} {A : Ad}
theorem isT_sg {z : Str} (h : isT z) : Sg z := by
  have go : ∀ x : Str, x.cps.toList.all (fun c => decide (c < 16 ^ 8)) = true → Sg x := fun x hx c hc => of_decide_eq_true (List.all_eq_true.mp hx c hc)
  rcases h with e | e | e | e | e <;> subst e <;> exact go _ (by decide +kernel)
theorem cl_rc (T : Txt K mg A) {C : Addr} (h : RC A C) : Cls K C ∧ NoAttr K C "title" := by
  rcases h with e | e | e | e | e <;> subst e
  · exact ⟨T.cl_Whole, T.no_Whole_title⟩
  · exact ⟨T.cl_High, T.no_High_title⟩
  · exact ⟨T.cl_Low, T.no_Low_title⟩
  · exact ⟨T.cl_Near, T.no_Near_title⟩
  · exact ⟨T.cl_Split, T.no_Split_title⟩
theorem G_Rule___init__ (T : Txt K mg A) : FnOk P w K mg base CX0 1 A.Rule___init__ A.fd_Rule___init__ ["self", "title"] (sp_init A) := by
  refine T.F_Rule___init__.ok sc_Rule___init__ (fun vs H Q E h => ?_) (fun cdv Ar outer s H vs Q E hr h => ?_)
  · obtain ⟨p, dx, C, x, rfl, _⟩ := h
    rfl
  · obtain ⟨p, dx, C, x, rfl, hp, hC, k⟩ := h
    refine ⟨_, (pss_one (ps_fld (pv 0) (pv 1) rfl)), ?_⟩
    walk_at "rd"
    exact ⟨C, dx, [], hp, (cl_rc T hC).1, (cl_rc T hC).2, by decide, k⟩
theorem G_rule_of (T : Txt K mg A) : FnOk P w K mg base (CXE P w) 4 A.rule_of A.fd_rule_of ["title"] (sp_rule A) := by
  refine T.F_rule_of.okE sc_rule_of (fun vs H Q E h => ?_) (fun cdv Ar outer s H vs Q E hr h => ?_)
  · obtain ⟨z, rfl, _⟩ := h
    rfl
  · obtain ⟨z, rfl, hz, hs, k, ke⟩ := h
    refine ⟨_, (pss_cons (ps_if (pt_cmpR op_eq (pv 0) pe_str (nomark _)) (pss_one (ps_ret (pe_make T.mk_Whole (G_Rule___init__ T) (hr.mono (by decide)) rfl T.mc_Whole T.b_Rule___init__ .nil pass0 (pa_cons (pv 0) pa_nil)))) pss_nil) (pss_cons (ps_if (pt_cmpR op_eq (pv 0) pe_str (nomark _)) (pss_one (ps_ret (pe_make T.mk_High (G_Rule___init__ T) (hr.mono (by decide)) rfl T.mc_High T.b_Rule___init__ .nil pass0 (pa_cons (pv 0) pa_nil)))) pss_nil) (pss_cons (ps_if (pt_cmpR op_eq (pv 0) pe_str (nomark _)) (pss_one (ps_ret (pe_make T.mk_Low (G_Rule___init__ T) (hr.mono (by decide)) rfl T.mc_Low T.b_Rule___init__ .nil pass0 (pa_cons (pv 0) pa_nil)))) pss_nil) (pss_cons (ps_if (pt_cmpR op_eq (pv 0) pe_str (nomark _)) (pss_one (ps_ret (pe_make T.mk_Near (G_Rule___init__ T) (hr.mono (by decide)) rfl T.mc_Near T.b_Rule___init__ .nil pass0 (pa_cons (pv 0) pa_nil)))) pss_nil) (pss_cons (ps_if (pt_cmpR op_eq (pv 0) pe_str (nomark _)) (pss_one (ps_ret (pe_make T.mk_Split (G_Rule___init__ T) (hr.mono (by decide)) rfl T.mc_Split T.b_Rule___init__ .nil pass0 (pa_cons (pv 0) pa_nil)))) pss_nil) (pss_one (ps_raise rfl T.mc_NoRule T.xi_NoRule PySem.F.excBase_ValueError rfl xe_cx (pa_cons (pe_joined (pj_cons pe_str (pj_cons (pe_repr (pv 0)) pj_nil))) pa_nil)))))))), ?_⟩
    walk_at "rd"
    have go : ∀ C, RC A C → clsOf A z = some C → ∀ (x dx : Addr), H x = none → H dx = none → dx ≠ x →
        ∃ x_1 x_2, upd (upd H dx (HO.own x)) x (HO.ins C dx []) x = some (HO.ins x_2 x_1 []) ∧ RC A x_2 ∧ Q (V.ref x) (upd (upd (upd H dx (HO.own x)) x (HO.ins C dx [])) x (HO.ins x_2 x_1 [(Str.ofString "title", V.str z)])) := by
      intro C hC hc x dx hx hd hne
      refine ⟨dx, C, upd_same, hC, k C hc x _ (fun b o e => ?_) ⟨dx, upd_same⟩⟩
      rw [upd_ne (ne_of_none e hx), upd_ne (ne_of_none e hx), upd_ne (ne_of_none e hd)]
      exact e
    unfold clsOf at go ke
    refine ite2 (fun h => ?_) (fun h => ?_)
    · have h := of_decide_eq_true h
      exact go _ (.inl rfl) (by rw [if_pos h])
    have h1 : ¬ z = Str.ofString "whole" := by simpa using h
    refine ite2 (fun h => ?_) (fun h => ?_)
    · have h := of_decide_eq_true h
      exact go _ (.inr (.inl rfl)) (by rw [if_neg h1, if_pos h])
    have h2 : ¬ z = Str.ofString "high" := by simpa using h
    refine ite2 (fun h => ?_) (fun h => ?_)
    · have h := of_decide_eq_true h
      exact go _ (.inr (.inr (.inl rfl))) (by rw [if_neg h1, if_neg h2, if_pos h])
    have h3 : ¬ z = Str.ofString "low" := by simpa using h
    refine ite2 (fun h => ?_) (fun h => ?_)
    · have h := of_decide_eq_true h
      exact go _ (.inr (.inr (.inr (.inl rfl)))) (by rw [if_neg h1, if_neg h2, if_neg h3, if_pos h])
    have h4 : ¬ z = Str.ofString "near" := by simpa using h
    refine ite2 (fun h => ?_) (fun h => ?_)
    · have h := of_decide_eq_true h
      exact go _ (.inr (.inr (.inr (.inr rfl)))) (by rw [if_neg h1, if_neg h2, if_neg h3, if_neg h4, if_pos h])
    have h5 : ¬ z = Str.ofString "split" := by simpa using h
    rw [if_neg h1, if_neg h2, if_neg h3, if_neg h4, if_neg h5] at ke
    have l1 : (Str.empty ++ Str.ofString "no rule is called ").length = 18 := by decide +kernel
    have l2 := repr_le hs hz
    have l3 := slen (Str.empty ++ Str.ofString "no rule is called ") (reprText z)
    have l4 := sizeLine_eq
    exact ⟨by omega, by omega, by omega, by omega, by omega, ke rfl⟩
theorem G_Rule_leans (T : Txt K mg A) : FnOk P w K mg base CX0 1 A.Rule_leans A.fd_Rule_leans ["self"] sp_leansT := by
  refine T.F_Rule_leans.ok sc_Rule_leans (fun vs H Q E h => ?_) (fun cdv Ar outer s H vs Q E hr h => ?_)
  · obtain ⟨v, rfl, _⟩ := h
    rfl
  · obtain ⟨v, rfl, k⟩ := h
    refine ⟨_, (pss_one (ps_ret pe_bl)), ?_⟩
    walk_at "rd"
    exact k
theorem G_Near_leans (T : Txt K mg A) : FnOk P w K mg base CX0 1 A.Near_leans A.fd_Near_leans ["self"] sp_leans := by
  refine T.F_Near_leans.ok sc_Near_leans (fun vs H Q E h => ?_) (fun cdv Ar outer s H vs Q E hr h => ?_)
  · obtain ⟨v, rfl, _⟩ := h
    rfl
  · obtain ⟨v, rfl, k⟩ := h
    refine ⟨_, (pss_one (ps_ret pe_bl)), ?_⟩
    walk_at "rd"
    exact k
theorem G_Split_leans (T : Txt K mg A) : FnOk P w K mg base CX0 1 A.Split_leans A.fd_Split_leans ["self"] sp_leans := by
  refine T.F_Split_leans.ok sc_Split_leans (fun vs H Q E h => ?_) (fun cdv Ar outer s H vs Q E hr h => ?_)
  · obtain ⟨v, rfl, _⟩ := h
    rfl
  · obtain ⟨v, rfl, k⟩ := h
    refine ⟨_, (pss_one (ps_ret pe_bl)), ?_⟩
    walk_at "rd"
    exact k
theorem G__law_sign_by (T : Txt K mg A) : FnOk P w K mg base CX0 1 A._law_sign_by A.fd__law_sign_by ["_law_cell"] sp_sign := by
  refine T.F__law_sign_by.ok sc__law_sign_by (fun vs H Q E h => ?_) (fun cdv Ar outer s H vs Q E hr h => ?_)
  · obtain ⟨c, rfl, _⟩ := h
    rfl
  · obtain ⟨c, rfl, k⟩ := h
    refine ⟨_, (pss_cons (ps_set (i := 1) sc__law_sign_by.nd rfl (by first | exact Or.inl rfl | exact Or.inr rfl) pe_str) (pss_cons (ps_set (i := 1) sc__law_sign_by.nd rfl (by first | exact Or.inl rfl | exact Or.inr rfl) (pe_op op_add_str (pv 1) pe_str)) (pss_one (ps_ret (pe_ix ix_str (pv 1) (pe_op op_mod (pv 0) pe_int) (fun _ _ => rfl)))))), ?_⟩
    walk_at "rd"
    have l1 : (Str.ofString " !\"#$&'()*+,-./0123456789:;<=>?@ABCDEFGHIJKLMNOPQRSTUVWXYZ[\\]^_`").length = 64 := by decide +kernel
    have l2 : (Str.ofString "abcdefghijklmnopqrstuvwxyz{|}~\n").length = 31 := by decide +kernel
    have l3 : (Str.ofString " !\"#$&'()*+,-./0123456789:;<=>?@ABCDEFGHIJKLMNOPQRSTUVWXYZ[\\]^_`" ++ Str.ofString "abcdefghijklmnopqrstuvwxyz{|}~\n").cps.toList.length = 95 := by decide +kernel
    have l4 : (Str.ofString " !\"#$&'()*+,-./0123456789:;<=>?@ABCDEFGHIJKLMNOPQRSTUVWXYZ[\\]^_`" ++ Str.ofString "abcdefghijklmnopqrstuvwxyz{|}~\n").length = 95 := by decide +kernel
    have l5 : (Str.ofString " !\"#$&'()*+,-./0123456789:;<=>?@ABCDEFGHIJKLMNOPQRSTUVWXYZ[\\]^_`" ++ Str.ofString "abcdefghijklmnopqrstuvwxyz{|}~\n").cps.toList.all (fun c => decide (c < 16 ^ 8)) = true := by decide +kernel
    generalize Str.ofString " !\"#$&'()*+,-./0123456789:;<=>?@ABCDEFGHIJKLMNOPQRSTUVWXYZ[\\]^_`" ++ Str.ofString "abcdefghijklmnopqrstuvwxyz{|}~\n" = z at *
    have l6 := sizeLine_eq
    obtain ⟨v, hv, hm⟩ := atI_ex (xs := z.cps.toList) (i := c % 95) (by omega) (by omega)
    refine ⟨by omega, by decide, by omega, v, hv, k _ rfl fun d hd => ?_⟩
    have e : d = v := by simpa using hd
    subst e
    exact of_decide_eq_true (List.all_eq_true.mp l5 d hm)
theorem G__law_title (T : Txt K mg A) : FnOk P w K mg base CX0 1 A._law_title A.fd__law_title ["_law_cell"] sp_title := by
  refine T.F__law_title.ok sc__law_title (fun vs H Q E h => ?_) (fun cdv Ar outer s H vs Q E hr h => ?_)
  · obtain ⟨c, rfl, _⟩ := h
    rfl
  · obtain ⟨c, rfl, k⟩ := h
    refine ⟨_, (pss_one (ps_ret (pe_ix (ix_listK (K := K) rfl) (pe_lst (pa_cons pe_str (pa_cons pe_str (pa_cons pe_str (pa_cons pe_str (pa_cons pe_str pa_nil)))))) (pe_op op_mod (pv 0) pe_int) (fun _ _ => rfl)))), ?_⟩
    walk_at "rd"
    refine ⟨by rw [sizeLine_eq]; decide, fun p hp => ⟨by decide, _, SqL.of upd_same, ?_⟩⟩
    obtain ⟨v, hv, hm⟩ := atI_ex (xs := [V.str (Str.ofString "whole"), V.str (Str.ofString "high"), V.str (Str.ofString "low"), V.str (Str.ofString "near"), V.str (Str.ofString "split")]) (i := c % 5) (by simp only [List.length]; omega) (by simp only [List.length]; omega)
    refine ⟨v, hv, ?_⟩
    have sm : ∀ o, Same H (upd H p o) := fun o b u e => by rw [upd_ne (ne_of_none e hp)]; exact e
    simp only [List.mem_cons, List.not_mem_nil, or_false] at hm
    rcases hm with e | e | e | e | e <;> subst e
    · exact k _ _ (.inl rfl) (sm _)
    · exact k _ _ (.inr (.inl rfl)) (sm _)
    · exact k _ _ (.inr (.inr (.inl rfl))) (sm _)
    · exact k _ _ (.inr (.inr (.inr (.inl rfl)))) (sm _)
    · exact k _ _ (.inr (.inr (.inr (.inr rfl)))) (sm _)
theorem G__law_text_by (T : Txt K mg A) : FnOk P w K mg base CX0 2 A._law_text_by A.fd__law_text_by ["_law_cell", "_law_other"] sp_textby := by
  refine T.F__law_text_by.ok sc__law_text_by (fun vs H Q E h => ?_) (fun cdv Ar outer s H vs Q E hr h => ?_)
  · obtain ⟨c, o, rfl, _⟩ := h
    rfl
  · obtain ⟨c, o, rfl, k⟩ := h
    refine ⟨_, (pss_cons (ps_set (i := 2) sc__law_text_by.nd rfl (by first | exact Or.inl rfl | exact Or.inr rfl) (pe_call (G__law_title T) (hr.mono (by decide)) rfl T.m__law_title T.k__law_title T.b__law_title .nil pass0 (pa_cons (pv 0) pa_nil))) (pss_cons (ps_set (i := 3) sc__law_text_by.nd rfl (by first | exact Or.inl rfl | exact Or.inr rfl) (pe_op op_mod (pe_op op_fdiv (pv 0) pe_int) pe_int)) (pss_cons (ps_set (i := 4) sc__law_text_by.nd rfl (by first | exact Or.inl rfl | exact Or.inr rfl) (pe_op op_mod (pe_op op_fdiv (pv 0) pe_int) (pe_op op_add (pe_callB (call_lenK (K := K) rfl) (by rfl) T.n_len bt_len (pa_cons (pv 2) pa_nil)) pe_int))) (pss_cons (ps_set (i := 5) sc__law_text_by.nd rfl (by first | exact Or.inl rfl | exact Or.inr rfl) (pe_call (G__law_sign_by T) (hr.mono (by decide)) rfl T.m__law_sign_by T.k__law_sign_by T.b__law_sign_by .nil pass0 (pa_cons (pv 1) pa_nil))) (pss_cons (ps_if (pt_cmpR op_eq (pv 3) pe_int (nomark _)) (pss_one (ps_ret (pe_op op_add_str (pe_op op_add_str (pe_slice sl_str (pv 2) po_none (po_some (pv 4))) (pv 5)) (pe_slice sl_str (pv 2) (po_some (pv 4)) po_none)))) pss_nil) (pss_cons (ps_if (pt_cmpR op_eq (pv 3) pe_int (nomark _)) (pss_one (ps_ret (pe_op op_add_str (pe_slice sl_str (pv 2) po_none (po_some (pv 4))) (pe_slice sl_str (pv 2) (po_some (pe_op op_add (pv 4) pe_int)) po_none)))) pss_nil) (pss_cons (ps_if (pt_cmpR op_eq (pv 3) pe_int (nomark _)) (pss_one (ps_ret (pe_op op_add_str (pe_op op_add_str (pe_slice sl_str (pv 2) po_none (po_some (pv 4))) (pv 5)) (pe_slice sl_str (pv 2) (po_some (pe_op op_add (pv 4) pe_int)) po_none)))) pss_nil) (pss_cons (ps_if (pt_cmpR op_eq (pv 3) pe_int (nomark _)) (pss_one (ps_ret (pe_bm PySem.F.plainAttrs_str PySem.F.slot_str_join PySem.F.type_str_join (mt_joinK (K := K) rfl) pe_str (pa_cons (pe_comp (blk_mk (own := ["_law_k"]) (fr := ["_law_other"]) (fm := [1]) rfl (by decide +kernel) (by decide +kernel) (by decide +kernel) (.cons rfl (by first | exact Or.inl rfl | exact Or.inr rfl) rfl .nil)) rfl (pi_range1 rfl T.n_range (pa_cons (pe_op op_mod (pe_op op_fdiv (pv 0) pe_int) pe_int) pa_nil)) (fun _ _ _ => ⟨(pg_name (i := 0) (by show List.Nodup (["_law_k", "_law_other"] : List Str); decide +kernel) rfl (by first | exact Or.inl rfl | exact Or.inr rfl)), pts_nil, (pe_call (G__law_sign_by T) (hr.mono (by decide)) rfl T.m__law_sign_by T.k__law_sign_by T.b__law_sign_by .nil pass0 (pa_cons (pe_op op_add (pe_op op_fdiv (pv 1) (pe_op op_add (pv 0) pe_int)) (pe_op op_mul pe_int (pv 0))) pa_nil))⟩)) pa_nil)))) pss_nil) (pss_cons (ps_if (pt_cmpR op_eq (pv 3) pe_int (nomark _)) (pss_one (ps_ret (pe_bm PySem.F.plainAttrs_str PySem.F.slot_str_join PySem.F.type_str_join (mt_joinK (K := K) rfl) pe_str (pa_cons (pe_comp (blk_mk (own := ["_law_k"]) (fr := ["_law_cell"]) (fm := [0]) rfl (by decide +kernel) (by decide +kernel) (by decide +kernel) (.cons rfl (by first | exact Or.inl rfl | exact Or.inr rfl) rfl .nil)) rfl (pi_range1 rfl T.n_range (pa_cons pe_int pa_nil)) (fun _ _ _ => ⟨(pg_name (i := 0) (by show List.Nodup (["_law_k", "_law_cell"] : List Str); decide +kernel) rfl (by first | exact Or.inl rfl | exact Or.inr rfl)), pts_nil, (pe_call (G__law_title T) (hr.mono (by decide)) rfl T.m__law_title T.k__law_title T.b__law_title .nil pass0 (pa_cons (pe_op op_add (pe_op op_fdiv (pv 1) pe_int) (pv 0)) pa_nil))⟩)) pa_nil)))) pss_nil) (pss_one (ps_ret (pv 2)))))))))))), ?_⟩
    walk_at "rd"
    intro z H1 hT s1
    have hz : z.length ≤ 5 := by rcases hT with e | e | e | e | e <;> subst e <;> decide +kernel
    have hs : Sg z := isT_sg hT
    have l0 := sizeLine_eq
    refine ⟨⟨by decide, by decide⟩, by decide, ⟨by decide, by decide⟩, by omega, by omega, fun y hy ys => ?_⟩
    have sl : ∀ a b, (Txt.slice z a b).length ≤ 5 := fun a b => Nat.le_trans (Txt.slice_le z a b) hz
    have sa : ∀ a b : Str, (a ++ b).length = a.length + b.length := slen
    refine ite2 (fun _ => ?_) (fun _ => ite2 (fun _ => ?_) (fun _ => ite2 (fun _ => ?_) (fun _ => ite2 (fun _ => ?_) (fun _ => ite2 (fun _ => ?_) (fun _ => k z H1 (by omega) hs s1)))))
    · have a1 := sl none (some (c / 30 % (↑z.length + 1)))
      have a2 := sl (some (c / 30 % (↑z.length + 1))) none
      exact ⟨by omega, by omega, by omega, by rw [sa]; omega, k _ _ (by rw [sa, sa]; omega) ((hs.slice.app ys).app hs.slice) s1⟩
    · have a1 := sl none (some (c / 30 % (↑z.length + 1)))
      have a2 := sl (some (c / 30 % (↑z.length + 1) + 1)) none
      exact ⟨by omega, by omega, by omega, k _ _ (by rw [sa]; omega) (hs.slice.app hs.slice) s1⟩
    · have a1 := sl none (some (c / 30 % (↑z.length + 1)))
      have a2 := sl (some (c / 30 % (↑z.length + 1) + 1)) none
      exact ⟨by omega, by omega, by omega, by rw [sa]; omega, k _ _ (by rw [sa, sa]; omega) ((hs.slice.app ys).app hs.slice) s1⟩
    · refine ⟨rfl, ⟨by decide, by decide⟩, by decide, ?_⟩
      refine CompR.of (by omega) (by omega) (fun D i ys H' => ys.length = i ∧ (∃ zs, ys = zs.map V.str ∧ ∀ t ∈ zs, t.length ≤ 5 ∧ Sg t) ∧ H' = upd H1 D (.lst ys)) (fun D hD => ⟨rfl, ⟨[], rfl, fun t ht => absurd ht (by simp)⟩, rfl⟩) ?_ ?_ ?_
      · rintro dd i ys H' hD hi ⟨hl, _, rfl⟩
        exact ⟨upd_same, by omega⟩
      · rintro dd i ys H' hD hi ⟨hl, ⟨zs, rfl, hzs⟩, rfl⟩
        walk_at "rd"
        refine ⟨.no (.yes .nil), ⟨by omega, by omega⟩, .inl ⟨by decide, by decide⟩, fun t ht hst => ⟨upd_same, by simp [← hl], ⟨zs ++ [t], by simp, fun u hu => ?_⟩, upd_upd⟩⟩
        rcases List.mem_append.mp hu with q | q
        · exact hzs u q
        · have e : u = t := by simpa using q
          subst e
          exact ⟨by omega, hst⟩
      · rintro dd ys H' hD ⟨hl, ⟨zs, rfl, hzs⟩, rfl⟩
        have lz : zs.length ≤ 7 := by rw [List.length_map] at hl; omega
        have l1 : (Str.ofString "").length = 0 := by decide +kernel
        have sg0 : Sg (Str.ofString "") := fun c hc => by
          have e : (Str.ofString "").cps.toList = [] := by decide +kernel
          rw [e] at hc; exact absurd hc (by simp)
        refine ⟨dd, rfl, zs, SqL.of upd_same, joinOk_of (B := 5) (fun t ht => (hzs t ht).1) (by rw [l1]; omega), k _ _ ?_ (Sg.join sg0 fun t ht => (hzs t ht).2) (s1.trans fun b u e => by rw [upd_ne (ne_of_none e hD)]; exact e)⟩
        have := join_le (sep := Str.ofString "") (B := 5) fun t ht => (hzs t ht).1
        rw [l1] at this; omega
    · refine ⟨rfl, ?_⟩
      refine CompR.of (by decide) (by decide) (fun D i ys H' => ys.length = i ∧ (∃ zs, ys = zs.map V.str ∧ ∀ t ∈ zs, t.length ≤ 5 ∧ Sg t) ∧ H' D = some (.lst ys) ∧ Same H1 H') (fun D hD => ⟨rfl, ⟨[], rfl, fun t ht => absurd ht (by simp)⟩, upd_same, fun b u e => by rw [upd_ne (ne_of_none e hD)]; exact e⟩) ?_ ?_ ?_
      · rintro dd i ys H' hD hi ⟨hl, _, e, _⟩
        exact ⟨e, by omega⟩
      · rintro dd i ys H' hD hi ⟨hl, ⟨zs, rfl, hzs⟩, hdd, sm⟩
        walk_at "rd"
        refine ⟨.no (.yes .nil), ⟨by decide, by decide⟩, fun t H2 ht s2 => ⟨s2 _ _ hdd, by simp [← hl], ⟨zs ++ [t], by simp, fun u hu => ?_⟩, upd_same, fun b u e => ?_⟩⟩
        · rcases List.mem_append.mp hu with q | q
          · exact hzs u q
          · have e : u = t := by simpa using q
            subst e
            exact ⟨by rcases ht with e | e | e | e | e <;> subst e <;> decide +kernel, isT_sg ht⟩
        · rw [upd_ne (ne_of_none e hD)]
          exact s2 _ _ (sm _ _ e)
      · rintro dd ys H' hD ⟨hl, ⟨zs, rfl, hzs⟩, hdd, sm⟩
        have lz : zs.length = 40 := by rw [List.length_map] at hl; exact hl
        have l1 : (Str.ofString "").length = 0 := by decide +kernel
        have sg0 : Sg (Str.ofString "") := fun c hc => by
          have e : (Str.ofString "").cps.toList = [] := by decide +kernel
          rw [e] at hc; exact absurd hc (by simp)
        refine ⟨dd, rfl, zs, SqL.of hdd, joinOk_of (B := 5) (fun t ht => (hzs t ht).1) (by rw [l1]; omega), k _ _ ?_ (Sg.join sg0 fun t ht => (hzs t ht).2) (s1.trans sm)⟩
        have := join_le (sep := Str.ofString "") (B := 5) fun t ht => (hzs t ht).1
        rw [l1] at this; omega
theorem G__law_told_of (T : Txt K mg A) : FnOk P w K mg base CX0 5 A._law_told_of A.fd__law_told_of ["_law_text"] (sp_toldof A) := by
  refine T.F__law_told_of.ok sc__law_told_of (fun vs H Q E h => ?_) (fun cdv Ar outer s H vs Q E hr h => ?_)
  · obtain ⟨z, rfl, _⟩ := h
    rfl
  · obtain ⟨z, rfl, hz, hs, hc, k⟩ := h
    refine ⟨_, (pss_cons (ps_set (i := 1) sc__law_told_of.nd rfl (by first | exact Or.inl rfl | exact Or.inr rfl) pe_non) (pss_cons (ps_tryAsK (K := K) rfl rfl rfl (i := 2) sc__law_told_of.nd rfl rfl rfl T.mc_JoinError (pssx_one (psx_expr (pex_call (G_rule_of T) (hr.mono (by decide)) rfl T.m_rule_of T.k_rule_of T.b_rule_of .nil (pa_cons (pv 0) pa_nil)))) (fun _ => (pss_one (ps_set (i := 1) sc__law_told_of.nd rfl (by first | exact Or.inl rfl | exact Or.inr rfl) (pv 2))))) (pss_one (ps_ret (pv 1))))), ?_⟩
    walk_at "rd"
    refine ⟨hz, hs, fun C hC => absurd hC (by rw [hc]; simp), fun _ => ⟨_, rfl, ⟨T.ct_JoinError, T.cb_JoinError, T.kj⟩, .inl rfl, fun a ha => k a _ (fun b u e => ?_) upd_same⟩⟩
    rw [upd_ne (ne_of_none e ha)]
    exact e
theorem G__law_refused (T : Txt K mg A) : FnOk P w K mg base CX0 1 A._law_refused A.fd__law_refused ["_law_told"] (sp_refused A) := by
  refine T.F__law_refused.ok sc__law_refused (fun vs H Q E h => ?_) (fun cdv Ar outer s H vs Q E hr h => ?_)
  · obtain ⟨a, rfl, _⟩ := h
    rfl
  · obtain ⟨a, rfl, ha, k⟩ := h
    refine ⟨_, (pss_cons (ps_if (PW.pt (pw_or (pt_not (pt_val (pe_callB (call_isxK (K := K) rfl) (by rfl) T.n_isinstance bt_isinstance (pa_cons (pv 0) (pa_cons (pe_glob (v := .ref A.c_NoRule) rfl T.mc_NoRule rfl) pa_nil))))) (pw_or1 (pt_not (pt_val (pe_callB (call_isxK (K := K) rfl) (by rfl) T.n_isinstance bt_isinstance (pa_cons (pv 0) (pa_cons (pe_bltn rfl T.n_ValueError bt_ValueError relT) pa_nil)))))))) (pss_one (ps_ret pe_bl)) pss_nil) (pss_one (ps_ret (pe_not (pe_callB (call_istK (K := K) rfl) (by rfl) T.n_isinstance bt_isinstance (pa_cons (pv 0) (pa_cons (pe_tup (pa_cons (pe_glob (v := .ref A.c_Lost) rfl T.mc_Lost rfl) (pa_cons (pe_glob (v := .ref A.c_NoBase) rfl T.mc_NoBase rfl) (pa_cons (pe_glob (v := .ref A.c_NoPiece) rfl T.mc_NoPiece rfl) (pa_cons (pe_glob (v := .ref A.c_NoSense) rfl T.mc_NoSense rfl) (pa_cons (pe_glob (v := .ref A.c_NoWhole) rfl T.mc_NoWhole rfl) (pa_cons (pe_glob (v := .ref A.c_SameName) rfl T.mc_SameName rfl) (pa_cons (pe_glob (v := .ref A.c_TooFar) rfl T.mc_TooFar rfl) (pa_cons (pe_glob (v := .ref A.c_Twice) rfl T.mc_Twice rfl) (pa_cons (pe_glob (v := .ref A.c_Unmet) rfl T.mc_Unmet rfl) pa_nil)))))))))) pa_nil))))))), ?_⟩
    walk_at "rd"
    have xc : XCls K A.c_NoRule := ⟨T.xg_NoRule, T.xn_NoRule, T.xl_NoRule, T.sp_cl, T.tk_cl, T.xo_NoRule, T.xb_NoRule⟩
    have ty : TyX K H (V.ref a) (.ref A.c_NoRule) := .inr ⟨a, _, none, rfl, rfl, ha, .inl rfl, xc⟩
    have k1 : PySem.W.kitOne K (.ref A.c_NoRule) (.ref A.c_NoRule) = some true := by unfold PySem.W.kitOne; rw [if_pos (by simp)]
    refine ⟨rfl, _, ty, true, k1, iteF ⟨rfl, _, ty, true, T.kv, iteF ⟨by rw [sizeLine_eq]; decide, fun p hp => ?_⟩⟩⟩
    refine ⟨_, upd_same, rfl, .ref A.c_NoRule, .inr ⟨a, _, none, rfl, rfl, by rw [upd_ne (ne_of_none ha hp)]; exact ha, .inl rfl, xc⟩, false, T.ka, k _ fun b u e => ?_⟩
    rw [upd_ne (ne_of_none e hp)]
    exact e
theorem lkT (z : Str) : List.lookup (Str.ofString "title") [((Str.ofString "title"), V.str z)] = some (V.str z) := by simp [List.lookup]
theorem lkL (z : Str) : List.lookup (Str.ofString "leans") [((Str.ofString "title"), V.str z)] = none := by
  have e : (Str.ofString "leans" == Str.ofString "title") = false := by decide +kernel
  unfold List.lookup
  rw [e]; rfl
noncomputable def RCs (A : Ad) (z : Str) (C : Addr) : Prop := (z = Str.ofString "whole" ∧ C = A.c_Whole) ∨ (z = Str.ofString "high" ∧ C = A.c_High) ∨ (z = Str.ofString "low" ∧ C = A.c_Low) ∨ (z = Str.ofString "near" ∧ C = A.c_Near) ∨ (z = Str.ofString "split" ∧ C = A.c_Split)
theorem rule_cases {z : Str} {C : Addr} (h : isT z) (hc : clsOf A z = some C) : RCs A z C := by
  unfold clsOf at hc
  unfold RCs
  split at hc
  · cases hc; exact .inl ⟨by assumption, rfl⟩
  split at hc
  · cases hc; exact .inr (.inl ⟨by assumption, rfl⟩)
  split at hc
  · cases hc; exact .inr (.inr (.inl ⟨by assumption, rfl⟩))
  split at hc
  · cases hc; exact .inr (.inr (.inr (.inl ⟨by assumption, rfl⟩)))
  split at hc
  · cases hc; exact .inr (.inr (.inr (.inr ⟨by assumption, rfl⟩)))
  cases hc
theorem rule_facts (T : Txt K mg A) {z : Str} {C : Addr} (h : RCs A z C) : Cls K C ∧ NoAttr K C "title" ∧ PySem.W.findIn K (.ref C) "__class__" = some (some (.builtin "object.__class__")) ∧ PySem.W.mroIn K C (.type "object") = some true ∧ PySem.W.kitOne K (.ref C) (.ref A.c_Rule) = some true := by
  rcases h with ⟨_, e⟩ | ⟨_, e⟩ | ⟨_, e⟩ | ⟨_, e⟩ | ⟨_, e⟩ <;> subst e
  · exact ⟨T.cl_Whole, T.no_Whole_title, T.kc_l_Whole, T.ko_Whole, T.kr_Whole⟩
  · exact ⟨T.cl_High, T.no_High_title, T.kc_l_High, T.ko_High, T.kr_High⟩
  · exact ⟨T.cl_Low, T.no_Low_title, T.kc_l_Low, T.ko_Low, T.kr_Low⟩
  · exact ⟨T.cl_Near, T.no_Near_title, T.kc_l_Near, T.ko_Near, T.kr_Near⟩
  · exact ⟨T.cl_Split, T.no_Split_title, T.kc_l_Split, T.ko_Split, T.kr_Split⟩
theorem cls_none {z : Str} (h : ¬ isT z) : clsOf A z = none := by
  unfold isT at h
  simp only [not_or] at h
  unfold clsOf
  rw [if_neg h.1, if_neg h.2.1, if_neg h.2.2.1, if_neg h.2.2.2.1, if_neg h.2.2.2.2]
theorem cls_some {z : Str} (h : isT z) : clsOf A z ≠ none := by
  intro q
  unfold clsOf at q
  unfold isT at h
  split at q
  · cases q
  split at q
  · cases q
  split at q
  · cases q
  split at q
  · cases q
  split at q
  · cases q
  rename_i h1 h2 h3 h4 h5
  rcases h with e | e | e | e | e
  · exact h1 e
  · exact h2 e
  · exact h3 e
  · exact h4 e
  · exact h5 e
theorem inT (z : Str) : inV (V.str z) [V.str (Str.ofString "whole"), V.str (Str.ofString "high"), V.str (Str.ofString "low"), V.str (Str.ofString "near"), V.str (Str.ofString "split")] = true ↔ isT z := by
  unfold isT inV
  simp only [List.any_cons, List.any_nil, Bool.or_false, Bool.or_eq_true, eqV, beq_iff_eq]
  constructor
  · rintro (e | e | e | e | e)
    · exact .inl e.symm
    · exact .inr (.inl e.symm)
    · exact .inr (.inr (.inl e.symm))
    · exact .inr (.inr (.inr (.inl e.symm)))
    · exact .inr (.inr (.inr (.inr e.symm)))
  · rintro (e | e | e | e | e)
    · exact .inl e.symm
    · exact .inr (.inl e.symm)
    · exact .inr (.inr (.inl e.symm))
    · exact .inr (.inr (.inr (.inl e.symm)))
    · exact .inr (.inr (.inr (.inr e.symm)))
theorem G__law_holds (T : Txt K mg A) : FnOk P w K mg base CX0 6 A._law_holds A.fd__law_holds ["_law_cell", "_law_other"] sp_holds := by
  refine T.F__law_holds.ok sc__law_holds (fun vs H Q E h => ?_) (fun cdv Ar outer s H vs Q E hr h => ?_)
  · obtain ⟨c, o, rfl, _⟩ := h
    rfl
  · obtain ⟨c, o, rfl, k⟩ := h
    refine ⟨_, (pss_cons (ps_set (i := 2) sc__law_holds.nd rfl (by first | exact Or.inl rfl | exact Or.inr rfl) (pe_call (G__law_text_by T) (hr.mono (by decide)) rfl T.m__law_text_by T.k__law_text_by T.b__law_text_by .nil pass0 (pa_cons (pv 0) (pa_cons (pv 1) pa_nil)))) (pss_cons (ps_if (pt_cmpR (op_notInSK (K := K) rfl) (pv 2) (pe_lst (pa_cons pe_str (pa_cons pe_str (pa_cons pe_str (pa_cons pe_str (pa_cons pe_str pa_nil)))))) (by with_unfolding_all rfl)) (pss_cons (ps_if (pt_not (pt_val (pe_call (G__law_refused T) (hr.mono (by decide)) rfl T.m__law_refused T.k__law_refused T.b__law_refused .nil pass0 (pa_cons (pe_call (G__law_told_of T) (hr.mono (by decide)) rfl T.m__law_told_of T.k__law_told_of T.b__law_told_of .nil pass0 (pa_cons (pv 2) pa_nil)) pa_nil)))) (pss_one (ps_ret pe_bl)) pss_nil) (pss_one (ps_set (i := 2) sc__law_holds.nd rfl (by first | exact Or.inl rfl | exact Or.inr rfl) (pe_call (G__law_title T) (hr.mono (by decide)) rfl T.m__law_title T.k__law_title T.b__law_title .nil pass0 (pa_cons (pv 0) pa_nil))))) pss_nil) (pss_cons (ps_set (i := 3) sc__law_holds.nd rfl (by first | exact Or.inl rfl | exact Or.inr rfl) (pe_call (G_rule_of T) (hr.mono (by decide)) rfl T.m_rule_of T.k_rule_of T.b_rule_of .nil pass0E (pa_cons (pv 2) pa_nil))) (pss_cons (ps_if (PW.pt (pw_or (pt_not (pt_val (pe_callB (call_isxK (K := K) rfl) (by rfl) T.n_isinstance bt_isinstance (pa_cons (pv 3) (pa_cons (pe_glob (v := .ref A.c_Rule) rfl T.mc_Rule rfl) pa_nil))))) (pw_or (pt_not (pt_val (pe_callB (call_isiK (K := K) rfl) (by rfl) T.n_isinstance bt_isinstance (pa_cons (pe_fld (pv 3) rfl) (pa_cons (pe_bltn rfl T.n_str bt_str relT) pa_nil))))) (pw_or1 (pt_cmpR op_ne (pe_fld (pv 3) rfl) (pv 2) (nomark _)))))) (pss_one (ps_ret pe_bl)) pss_nil) (pss_cons (ps_if (PW.pt (pw_or (pt_cmpR op_eq (pv 2) pe_str (nomark _)) (pw_or1 (pt_cmpR op_eq (pv 2) pe_str (nomark _))))) (pss_one (ps_ret (pe_cmpR op_isB (pe_alt (pe_meth0 (pv 3) T.cl_Whole T.me_Whole_leans (G_Rule_leans T) (hr.mono (by decide)) T.b_Rule_leans .nil pass0 ) (pe_alt (pe_meth0 (pv 3) T.cl_High T.me_High_leans (G_Rule_leans T) (hr.mono (by decide)) T.b_Rule_leans .nil pass0 ) (pe_alt (pe_meth0 (pv 3) T.cl_Low T.me_Low_leans (G_Rule_leans T) (hr.mono (by decide)) T.b_Rule_leans .nil pass0 ) (pe_alt (pe_meth0 (pv 3) T.cl_Near T.me_Near_leans (G_Near_leans T) (hr.mono (by decide)) T.b_Near_leans .nil pass0 ) (pe_meth0 (pv 3) T.cl_Split T.me_Split_leans (G_Split_leans T) (hr.mono (by decide)) T.b_Split_leans .nil pass0 ))))) pe_bl (nomark _)))) pss_nil) (pss_one (ps_ret (pe_cmpR op_isB (pe_alt (pe_meth0 (pv 3) T.cl_Whole T.me_Whole_leans (G_Rule_leans T) (hr.mono (by decide)) T.b_Rule_leans .nil pass0 ) (pe_alt (pe_meth0 (pv 3) T.cl_High T.me_High_leans (G_Rule_leans T) (hr.mono (by decide)) T.b_Rule_leans .nil pass0 ) (pe_alt (pe_meth0 (pv 3) T.cl_Low T.me_Low_leans (G_Rule_leans T) (hr.mono (by decide)) T.b_Rule_leans .nil pass0 ) (pe_alt (pe_meth0 (pv 3) T.cl_Near T.me_Near_leans (G_Near_leans T) (hr.mono (by decide)) T.b_Near_leans .nil pass0 ) (pe_meth0 (pv 3) T.cl_Split T.me_Split_leans (G_Split_leans T) (hr.mono (by decide)) T.b_Split_leans .nil pass0 ))))) pe_bl (nomark _))))))))), ?_⟩
    walk_at "rd"
    intro z H1 hz hs s1
    refine ⟨by rw [sizeLine_eq]; decide, fun p hp => ?_⟩
    have s2 : ∀ o, Same H (upd H1 p o) := fun o b u e => by rw [upd_ne (ne_of_none (s1 _ _ e) hp)]; exact s1 _ _ e
    refine ⟨_, .inl (SqL.of upd_same), rfl, rfl, ?_⟩
    show if (!inV (V.str z) _) = true then _ else _
    by_cases hT0 : isT z
    · rw [(inT z).mpr hT0]
      refine iteF ⟨hz, hs, fun C hC p3 H3 s30 hR => ?_, fun z0 => absurd z0 (cls_some hT0)⟩
      have hT : isT z := hT0
      have s3 := (s2 _).trans s30
      generalize ez : z = z3 at *
      obtain ⟨dx, hp3⟩ := hR
      have kk := k H3 s3
      have lk := lkT z3
      have hcs := rule_cases hT hC
      have hx := rule_facts T hcs
      refine ⟨rfl, _, .inl (.ins hp3 hx.1 hx.2.2.1 T.sp_cl T.tk_cl hx.2.2.2.1), true, hx.2.2.2.2, iteF ⟨C, dx, _, hp3, hx.1, hx.2.1, _, lk, _, .str z3, true, rfl, iteF ⟨C, dx, _, hp3, hx.1, hx.2.1, _, lk, rfl, ?_⟩⟩⟩
      rw [decide_eq_true rfl]
      refine iteF ?_
      have ll := lkL z3
      rcases hcs with ⟨e, e'⟩ | ⟨e, e'⟩ | ⟨e, e'⟩ | ⟨e, e'⟩ | ⟨e, e'⟩
      · rw [show decide (z3 = Str.ofString "near") = false by rw [e]; decide +kernel, show decide (z3 = Str.ofString "split") = false by rw [e]; decide +kernel]
        exact iteF (iteF (.inl ⟨dx, _, e' ▸ hp3, ll, kk⟩))
      · rw [show decide (z3 = Str.ofString "near") = false by rw [e]; decide +kernel, show decide (z3 = Str.ofString "split") = false by rw [e]; decide +kernel]
        exact iteF (iteF (.inr (.inl ⟨dx, _, e' ▸ hp3, ll, kk⟩)))
      · rw [show decide (z3 = Str.ofString "near") = false by rw [e]; decide +kernel, show decide (z3 = Str.ofString "split") = false by rw [e]; decide +kernel]
        exact iteF (iteF (.inr (.inr (.inl ⟨dx, _, e' ▸ hp3, ll, kk⟩))))
      · rw [show decide (z3 = Str.ofString "near") = true by rw [e]; decide +kernel]
        exact iteT (.inr (.inr (.inr (.inl ⟨dx, _, e' ▸ hp3, ll, kk⟩))))
      · rw [show decide (z3 = Str.ofString "near") = false by rw [e]; decide +kernel, show decide (z3 = Str.ofString "split") = true by rw [e]; decide +kernel]
        exact iteF (iteT (.inr (.inr (.inr (.inr ⟨dx, _, e' ▸ hp3, ll, kk⟩)))))
    · have e0 : inV (V.str z) [V.str (Str.ofString "whole"), V.str (Str.ofString "high"), V.str (Str.ofString "low"), V.str (Str.ofString "near"), V.str (Str.ofString "split")] = false := by
        cases e : inV (V.str z) [V.str (Str.ofString "whole"), V.str (Str.ofString "high"), V.str (Str.ofString "low"), V.str (Str.ofString "near"), V.str (Str.ofString "split")] with
        | false => rfl
        | true => exact absurd ((inT z).mp e) hT0
      rw [e0]
      refine iteT ⟨hz, hs, cls_none hT0, fun a H2 s20 ha => ⟨ha, fun H4 s4 z3 H5 hT s5 => ⟨by rcases hT with e | e | e | e | e <;> subst e <;> decide +kernel, isT_sg hT, fun C hC p3 H3 s30 hR => ?_, fun z0 => absurd z0 (cls_some hT)⟩⟩⟩
      have s3 := ((((s2 _).trans s20).trans s4).trans s5).trans s30
      obtain ⟨dx, hp3⟩ := hR
      have kk := k H3 s3
      have lk := lkT z3
      have hcs := rule_cases hT hC
      have hx := rule_facts T hcs
      refine ⟨rfl, _, .inl (.ins hp3 hx.1 hx.2.2.1 T.sp_cl T.tk_cl hx.2.2.2.1), true, hx.2.2.2.2, iteF ⟨C, dx, _, hp3, hx.1, hx.2.1, _, lk, _, .str z3, true, rfl, iteF ⟨C, dx, _, hp3, hx.1, hx.2.1, _, lk, rfl, ?_⟩⟩⟩
      rw [decide_eq_true rfl]
      refine iteF ?_
      have ll := lkL z3
      rcases hcs with ⟨e, e'⟩ | ⟨e, e'⟩ | ⟨e, e'⟩ | ⟨e, e'⟩ | ⟨e, e'⟩
      · rw [show decide (z3 = Str.ofString "near") = false by rw [e]; decide +kernel, show decide (z3 = Str.ofString "split") = false by rw [e]; decide +kernel]
        exact iteF (iteF (.inl ⟨dx, _, e' ▸ hp3, ll, kk⟩))
      · rw [show decide (z3 = Str.ofString "near") = false by rw [e]; decide +kernel, show decide (z3 = Str.ofString "split") = false by rw [e]; decide +kernel]
        exact iteF (iteF (.inr (.inl ⟨dx, _, e' ▸ hp3, ll, kk⟩)))
      · rw [show decide (z3 = Str.ofString "near") = false by rw [e]; decide +kernel, show decide (z3 = Str.ofString "split") = false by rw [e]; decide +kernel]
        exact iteF (iteF (.inr (.inr (.inl ⟨dx, _, e' ▸ hp3, ll, kk⟩))))
      · rw [show decide (z3 = Str.ofString "near") = true by rw [e]; decide +kernel]
        exact iteT (.inr (.inr (.inr (.inl ⟨dx, _, e' ▸ hp3, ll, kk⟩))))
      · rw [show decide (z3 = Str.ofString "near") = false by rw [e]; decide +kernel, show decide (z3 = Str.ofString "split") = true by rw [e]; decide +kernel]
        exact iteF (iteT (.inr (.inr (.inr (.inr ⟨dx, _, e' ▸ hp3, ll, kk⟩)))))
theorem G_law (T : Txt K mg A) : FnOk P w K mg base CX0 7 A.law A.fd_law ["_law_script"] (sp_law K) := by
  refine T.F_law.ok sc_law (fun vs H Q E h => ?_) (fun cdv Ar outer s H vs Q E hr h => ?_)
  · obtain ⟨a, ns, rfl, _⟩ := h
    rfl
  · obtain ⟨a, ns, rfl, hS, hl, k⟩ := h
    refine ⟨_, (pss_cons (ps_set (i := 1) sc_law.nd rfl (by first | exact Or.inl rfl | exact Or.inr rfl) (pe_op (op_catSK (K := K) rfl) (pv 0) (pe_lst (pa_cons pe_int pa_nil)))) (pss_cons (ps_for PassesOwn.never rfl (pi_range1 rfl T.n_range (pa_cons (pe_callB (call_lenK (K := K) rfl) (by rfl) T.n_len bt_len (pa_cons (pv 1) pa_nil)) pa_nil)) (pg_name (i := 2) sc_law.nd rfl (by first | exact Or.inl rfl | exact Or.inr rfl)) (pss_one (ps_if (pt_not (pt_val (pe_call (G__law_holds T) (hr.mono (by decide)) rfl T.m__law_holds T.k__law_holds T.b__law_holds .nil pass0 (pa_cons (pe_ix (ix_listK (K := K) rfl) (pv 1) (pv 2) (fun _ _ => rfl)) (pa_cons (pe_ix (ix_listK (K := K) rfl) (pv 1) (pe_op op_sub (pv 2) pe_int) (fun _ _ => rfl)) pa_nil))))) (pss_one (ps_ret pe_bl)) pss_nil))) (pss_one (ps_ret pe_bl)))), ?_⟩
    walk_at "rd"
    refine ⟨by rw [sizeLine_eq]; decide, fun p hp => ?_⟩
    have s0 : Same H (upd H p (.lst [.int 0])) := fun b o e => by rw [upd_ne (ne_of_none e hp)]; exact e
    refine ⟨ns.map V.int, s0.seq hS, [.int 0], SqL.of upd_same, by rw [List.length_map, sizeLine_eq]; show ns.length + 1 ≤ _; omega, fun p1 hp1 => ?_⟩
    have hxl : (ns.map V.int ++ [V.int 0]).length = ns.length + 1 := by simp
    have hint : ∀ v ∈ ns.map V.int ++ [V.int 0], ∃ m, v = V.int m := fun v hv => by
      rcases List.mem_append.mp hv with e | e
      · obtain ⟨m, _, rfl⟩ := List.mem_map.mp e
        exact ⟨m, rfl⟩
      · exact ⟨0, List.mem_singleton.mp e⟩
    generalize ns.map V.int ++ [V.int 0] = xs at *
    refine ⟨ns.length + 1, .inl ⟨xs, SqL.of upd_same, hxl.symm⟩, ?_⟩
    refine ForR.of (by omega) (by omega) (fun i σ H' => ∃ v2, σ = [some (.ref a), some (.ref p1), v2] ∧ H' p1 = some (.lst xs)) ⟨_, rfl, upd_same⟩ ?_ ?_
    · rintro i σ H' hi ⟨v2, rfl, hx⟩
      walk_at "rd"
      obtain ⟨x1, e1, m1⟩ := atI_ex (xs := xs) (i := (i : Int)) (by omega) (by omega)
      obtain ⟨x2, e2, m2⟩ := atI_ex (xs := xs) (i := (i : Int) - 1) (by omega) (by omega)
      obtain ⟨c, rfl⟩ := hint x1 m1
      obtain ⟨o, rfl⟩ := hint x2 m2
      exact ⟨xs, SqL.of hx, _, e1, xs, SqL.of hx, _, e2, c, rfl, o, rfl, fun H2 s2 => s2 _ _ hx⟩
    · rintro σ H' ⟨v2, rfl, hx⟩
      exact k H'
end
@[elab_as_elim] theorem len1 {α : Type} {p : List α → Prop} (us : List α) (h : us.length = 1) (f : ∀ a, p [a]) : p us := by
  match us, h with | [a], _ => exact f a
@[elab_as_elim] theorem len2 {α : Type} {p : List α → Prop} (us : List α) (h : us.length = 2) (f : ∀ a b, p [a, b]) : p us := by
  match us, h with | [a, b], _ => exact f a b
theorem all_mk {l : PySem.W.OpenLaw} {w : World} {K : PySem.W.Frag} {h : Heap} {mg : Str → Option Value} {fa f_rule_of f_Rule___init__ f_Rule_leans f_Near_leans f_Split_leans f__law_sign_by f__law_title f__law_text_by f__law_told_of f__law_refused f__law_holds f_law C_High C_JoinError C_Lost C_Low C_Near C_NoBase C_NoPiece C_NoRule C_NoSense C_NoWhole C_Rule C_SameName C_Split C_TooFar C_Twice C_Unmet C_Whole : Addr} (X : K.In h) (G : h.Ns mainGlobals mg) (hfa : mg "law" = some (.ref fa))
    {od_rule_of an_rule_of : Option Addr} {sl_rule_of : Array (Option Value)} {oc_rule_of kV_rule_of dc_rule_of pm_rule_of cd_rule_of ct_rule_of : Value}
    {od_Rule___init__ an_Rule___init__ : Option Addr} {sl_Rule___init__ : Array (Option Value)} {oc_Rule___init__ kV_Rule___init__ dc_Rule___init__ pm_Rule___init__ cd_Rule___init__ ct_Rule___init__ : Value}
    {od_Rule_leans an_Rule_leans : Option Addr} {sl_Rule_leans : Array (Option Value)} {oc_Rule_leans kV_Rule_leans dc_Rule_leans pm_Rule_leans cd_Rule_leans ct_Rule_leans : Value}
    {od_Near_leans an_Near_leans : Option Addr} {sl_Near_leans : Array (Option Value)} {oc_Near_leans kV_Near_leans dc_Near_leans pm_Near_leans cd_Near_leans ct_Near_leans : Value}
    {od_Split_leans an_Split_leans : Option Addr} {sl_Split_leans : Array (Option Value)} {oc_Split_leans kV_Split_leans dc_Split_leans pm_Split_leans cd_Split_leans ct_Split_leans : Value}
    {od__law_sign_by an__law_sign_by : Option Addr} {sl__law_sign_by : Array (Option Value)} {oc__law_sign_by kV__law_sign_by dc__law_sign_by pm__law_sign_by cd__law_sign_by ct__law_sign_by : Value}
    {od__law_title an__law_title : Option Addr} {sl__law_title : Array (Option Value)} {oc__law_title kV__law_title dc__law_title pm__law_title cd__law_title ct__law_title : Value}
    {od__law_text_by an__law_text_by : Option Addr} {sl__law_text_by : Array (Option Value)} {oc__law_text_by kV__law_text_by dc__law_text_by pm__law_text_by cd__law_text_by ct__law_text_by : Value}
    {od__law_told_of an__law_told_of : Option Addr} {sl__law_told_of : Array (Option Value)} {oc__law_told_of kV__law_told_of dc__law_told_of pm__law_told_of cd__law_told_of ct__law_told_of : Value}
    {od__law_refused an__law_refused : Option Addr} {sl__law_refused : Array (Option Value)} {oc__law_refused kV__law_refused dc__law_refused pm__law_refused cd__law_refused ct__law_refused : Value}
    {od__law_holds an__law_holds : Option Addr} {sl__law_holds : Array (Option Value)} {oc__law_holds kV__law_holds dc__law_holds pm__law_holds cd__law_holds ct__law_holds : Value}
    {od_law an_law : Option Addr} {sl_law : Array (Option Value)} {oc_law kV_law dc_law pm_law cd_law ct_law : Value}
    (ac_High : PySem.W.nsIn K mainGlobals "High" = some (some (.ref C_High)))
    (ac_JoinError : PySem.W.nsIn K mainGlobals "JoinError" = some (some (.ref C_JoinError)))
    (ac_Lost : PySem.W.nsIn K mainGlobals "Lost" = some (some (.ref C_Lost)))
    (ac_Low : PySem.W.nsIn K mainGlobals "Low" = some (some (.ref C_Low)))
    (ac_Near : PySem.W.nsIn K mainGlobals "Near" = some (some (.ref C_Near)))
    (ac_NoBase : PySem.W.nsIn K mainGlobals "NoBase" = some (some (.ref C_NoBase)))
    (ac_NoPiece : PySem.W.nsIn K mainGlobals "NoPiece" = some (some (.ref C_NoPiece)))
    (ac_NoRule : PySem.W.nsIn K mainGlobals "NoRule" = some (some (.ref C_NoRule)))
    (ac_NoSense : PySem.W.nsIn K mainGlobals "NoSense" = some (some (.ref C_NoSense)))
    (ac_NoWhole : PySem.W.nsIn K mainGlobals "NoWhole" = some (some (.ref C_NoWhole)))
    (ac_Rule : PySem.W.nsIn K mainGlobals "Rule" = some (some (.ref C_Rule)))
    (ac_SameName : PySem.W.nsIn K mainGlobals "SameName" = some (some (.ref C_SameName)))
    (ac_Split : PySem.W.nsIn K mainGlobals "Split" = some (some (.ref C_Split)))
    (ac_TooFar : PySem.W.nsIn K mainGlobals "TooFar" = some (some (.ref C_TooFar)))
    (ac_Twice : PySem.W.nsIn K mainGlobals "Twice" = some (some (.ref C_Twice)))
    (ac_Unmet : PySem.W.nsIn K mainGlobals "Unmet" = some (some (.ref C_Unmet)))
    (ac_Whole : PySem.W.nsIn K mainGlobals "Whole" = some (some (.ref C_Whole)))
    (a_rule_of : PySem.W.nsIn K mainGlobals "rule_of" = some (some (.ref f_rule_of)))
    (l_rule_of : K.lookup f_rule_of = some ⟨oc_rule_of, od_rule_of, .func (PySem.W.fnOf "rule_of" "rule_of" (defArgs s_rule_of) (defBody s_rule_of) (defScope s_rule_of) .none kV_rule_of dc_rule_of pm_rule_of an_rule_of cd_rule_of ct_rule_of), sl_rule_of⟩)
    (e_rule_of : PySem.W.codeIn K cd_rule_of "rule_of" = true)
    (k_rule_of : PySem.W.keepIn K (.ref f_rule_of) = true)
    (a_Rule___init__ : PySem.W.findIn K (.ref C_High) "__init__" = some (some (.ref f_Rule___init__)))
    (i_Rule___init__ : PySem.W.isFn K (.ref f_Rule___init__) = true)
    (l_Rule___init__ : K.lookup f_Rule___init__ = some ⟨oc_Rule___init__, od_Rule___init__, .func (PySem.W.fnOf "__init__" "Rule.__init__" (defArgs s_Rule___init__) (defBody s_Rule___init__) (defScope s_Rule___init__) .none kV_Rule___init__ dc_Rule___init__ pm_Rule___init__ an_Rule___init__ cd_Rule___init__ ct_Rule___init__), sl_Rule___init__⟩)
    (e_Rule___init__ : PySem.W.codeIn K cd_Rule___init__ "Rule.__init__" = true)
    (k_Rule___init__ : PySem.W.keepIn K (.ref f_Rule___init__) = true)
    (a_Rule_leans : PySem.W.findIn K (.ref C_High) "leans" = some (some (.ref f_Rule_leans)))
    (i_Rule_leans : PySem.W.isFn K (.ref f_Rule_leans) = true)
    (l_Rule_leans : K.lookup f_Rule_leans = some ⟨oc_Rule_leans, od_Rule_leans, .func (PySem.W.fnOf "leans" "Rule.leans" (defArgs s_Rule_leans) (defBody s_Rule_leans) (defScope s_Rule_leans) .none kV_Rule_leans dc_Rule_leans pm_Rule_leans an_Rule_leans cd_Rule_leans ct_Rule_leans), sl_Rule_leans⟩)
    (e_Rule_leans : PySem.W.codeIn K cd_Rule_leans "Rule.leans" = true)
    (k_Rule_leans : PySem.W.keepIn K (.ref f_Rule_leans) = true)
    (a_Near_leans : PySem.W.findIn K (.ref C_Near) "leans" = some (some (.ref f_Near_leans)))
    (i_Near_leans : PySem.W.isFn K (.ref f_Near_leans) = true)
    (l_Near_leans : K.lookup f_Near_leans = some ⟨oc_Near_leans, od_Near_leans, .func (PySem.W.fnOf "leans" "Near.leans" (defArgs s_Near_leans) (defBody s_Near_leans) (defScope s_Near_leans) .none kV_Near_leans dc_Near_leans pm_Near_leans an_Near_leans cd_Near_leans ct_Near_leans), sl_Near_leans⟩)
    (e_Near_leans : PySem.W.codeIn K cd_Near_leans "Near.leans" = true)
    (k_Near_leans : PySem.W.keepIn K (.ref f_Near_leans) = true)
    (a_Split_leans : PySem.W.findIn K (.ref C_Split) "leans" = some (some (.ref f_Split_leans)))
    (i_Split_leans : PySem.W.isFn K (.ref f_Split_leans) = true)
    (l_Split_leans : K.lookup f_Split_leans = some ⟨oc_Split_leans, od_Split_leans, .func (PySem.W.fnOf "leans" "Split.leans" (defArgs s_Split_leans) (defBody s_Split_leans) (defScope s_Split_leans) .none kV_Split_leans dc_Split_leans pm_Split_leans an_Split_leans cd_Split_leans ct_Split_leans), sl_Split_leans⟩)
    (e_Split_leans : PySem.W.codeIn K cd_Split_leans "Split.leans" = true)
    (k_Split_leans : PySem.W.keepIn K (.ref f_Split_leans) = true)
    (a__law_sign_by : PySem.W.nsIn K mainGlobals "_law_sign_by" = some (some (.ref f__law_sign_by)))
    (l__law_sign_by : K.lookup f__law_sign_by = some ⟨oc__law_sign_by, od__law_sign_by, .func (PySem.W.fnOf "_law_sign_by" "_law_sign_by" (defArgs s__law_sign_by) (defBody s__law_sign_by) (defScope s__law_sign_by) .none kV__law_sign_by dc__law_sign_by pm__law_sign_by an__law_sign_by cd__law_sign_by ct__law_sign_by), sl__law_sign_by⟩)
    (e__law_sign_by : PySem.W.codeIn K cd__law_sign_by "_law_sign_by" = true)
    (k__law_sign_by : PySem.W.keepIn K (.ref f__law_sign_by) = true)
    (a__law_title : PySem.W.nsIn K mainGlobals "_law_title" = some (some (.ref f__law_title)))
    (l__law_title : K.lookup f__law_title = some ⟨oc__law_title, od__law_title, .func (PySem.W.fnOf "_law_title" "_law_title" (defArgs s__law_title) (defBody s__law_title) (defScope s__law_title) .none kV__law_title dc__law_title pm__law_title an__law_title cd__law_title ct__law_title), sl__law_title⟩)
    (e__law_title : PySem.W.codeIn K cd__law_title "_law_title" = true)
    (k__law_title : PySem.W.keepIn K (.ref f__law_title) = true)
    (a__law_text_by : PySem.W.nsIn K mainGlobals "_law_text_by" = some (some (.ref f__law_text_by)))
    (l__law_text_by : K.lookup f__law_text_by = some ⟨oc__law_text_by, od__law_text_by, .func (PySem.W.fnOf "_law_text_by" "_law_text_by" (defArgs s__law_text_by) (defBody s__law_text_by) (defScope s__law_text_by) .none kV__law_text_by dc__law_text_by pm__law_text_by an__law_text_by cd__law_text_by ct__law_text_by), sl__law_text_by⟩)
    (e__law_text_by : PySem.W.codeIn K cd__law_text_by "_law_text_by" = true)
    (k__law_text_by : PySem.W.keepIn K (.ref f__law_text_by) = true)
    (a__law_told_of : PySem.W.nsIn K mainGlobals "_law_told_of" = some (some (.ref f__law_told_of)))
    (l__law_told_of : K.lookup f__law_told_of = some ⟨oc__law_told_of, od__law_told_of, .func (PySem.W.fnOf "_law_told_of" "_law_told_of" (defArgs s__law_told_of) (defBody s__law_told_of) (defScope s__law_told_of) .none kV__law_told_of dc__law_told_of pm__law_told_of an__law_told_of cd__law_told_of ct__law_told_of), sl__law_told_of⟩)
    (e__law_told_of : PySem.W.codeIn K cd__law_told_of "_law_told_of" = true)
    (k__law_told_of : PySem.W.keepIn K (.ref f__law_told_of) = true)
    (a__law_refused : PySem.W.nsIn K mainGlobals "_law_refused" = some (some (.ref f__law_refused)))
    (l__law_refused : K.lookup f__law_refused = some ⟨oc__law_refused, od__law_refused, .func (PySem.W.fnOf "_law_refused" "_law_refused" (defArgs s__law_refused) (defBody s__law_refused) (defScope s__law_refused) .none kV__law_refused dc__law_refused pm__law_refused an__law_refused cd__law_refused ct__law_refused), sl__law_refused⟩)
    (e__law_refused : PySem.W.codeIn K cd__law_refused "_law_refused" = true)
    (k__law_refused : PySem.W.keepIn K (.ref f__law_refused) = true)
    (a__law_holds : PySem.W.nsIn K mainGlobals "_law_holds" = some (some (.ref f__law_holds)))
    (l__law_holds : K.lookup f__law_holds = some ⟨oc__law_holds, od__law_holds, .func (PySem.W.fnOf "_law_holds" "_law_holds" (defArgs s__law_holds) (defBody s__law_holds) (defScope s__law_holds) .none kV__law_holds dc__law_holds pm__law_holds an__law_holds cd__law_holds ct__law_holds), sl__law_holds⟩)
    (e__law_holds : PySem.W.codeIn K cd__law_holds "_law_holds" = true)
    (k__law_holds : PySem.W.keepIn K (.ref f__law_holds) = true)
    (a_law : PySem.W.nsIn K mainGlobals "law" = some (some (.ref f_law)))
    (l_law : K.lookup f_law = some ⟨oc_law, od_law, .func (PySem.W.fnOf "law" "law" (defArgs s_law) (defBody s_law) (defScope s_law) .none kV_law dc_law pm_law an_law cd_law ct_law), sl_law⟩)
    (e_law : PySem.W.codeIn K cd_law "law" = true)
    (k_law : PySem.W.keepIn K (.ref f_law) = true)
    (fi_Low : PySem.W.findIn K (.ref C_Low) "__init__" = some (some (.ref f_Rule___init__)))
    (fi_Near : PySem.W.findIn K (.ref C_Near) "__init__" = some (some (.ref f_Rule___init__)))
    (fi_Split : PySem.W.findIn K (.ref C_Split) "__init__" = some (some (.ref f_Rule___init__)))
    (fi_Whole : PySem.W.findIn K (.ref C_Whole) "__init__" = some (some (.ref f_Rule___init__)))
    (fm_Low_leans : PySem.W.findIn K (.ref C_Low) "leans" = some (some (.ref f_Rule_leans)))
    (fm_Whole_leans : PySem.W.findIn K (.ref C_Whole) "leans" = some (some (.ref f_Rule_leans)))
    (pg_High : PySem.W.plainGet K C_High Str.empty = true)
    (hd_High : PySem.W.hasDictIn K C_High = true)
    (po_High : PySem.W.plainOver K C_High = true)
    (sa_High : PySem.W.findIn K (.ref C_High) "__setattr__" = some (some (.builtin "object.__setattr__")))
    (mm_High : PySem.W.makesIn K C_High = true)
    (kc_High : PySem.W.keepIn K (.ref C_High) = true)
    (pg_Low : PySem.W.plainGet K C_Low Str.empty = true)
    (hd_Low : PySem.W.hasDictIn K C_Low = true)
    (po_Low : PySem.W.plainOver K C_Low = true)
    (sa_Low : PySem.W.findIn K (.ref C_Low) "__setattr__" = some (some (.builtin "object.__setattr__")))
    (mm_Low : PySem.W.makesIn K C_Low = true)
    (kc_Low : PySem.W.keepIn K (.ref C_Low) = true)
    (pg_Near : PySem.W.plainGet K C_Near Str.empty = true)
    (hd_Near : PySem.W.hasDictIn K C_Near = true)
    (po_Near : PySem.W.plainOver K C_Near = true)
    (sa_Near : PySem.W.findIn K (.ref C_Near) "__setattr__" = some (some (.builtin "object.__setattr__")))
    (mm_Near : PySem.W.makesIn K C_Near = true)
    (kc_Near : PySem.W.keepIn K (.ref C_Near) = true)
    (pg_Rule : PySem.W.plainGet K C_Rule Str.empty = true)
    (hd_Rule : PySem.W.hasDictIn K C_Rule = true)
    (po_Rule : PySem.W.plainOver K C_Rule = true)
    (sa_Rule : PySem.W.findIn K (.ref C_Rule) "__setattr__" = some (some (.builtin "object.__setattr__")))
    (pg_Split : PySem.W.plainGet K C_Split Str.empty = true)
    (hd_Split : PySem.W.hasDictIn K C_Split = true)
    (po_Split : PySem.W.plainOver K C_Split = true)
    (sa_Split : PySem.W.findIn K (.ref C_Split) "__setattr__" = some (some (.builtin "object.__setattr__")))
    (mm_Split : PySem.W.makesIn K C_Split = true)
    (kc_Split : PySem.W.keepIn K (.ref C_Split) = true)
    (pg_Whole : PySem.W.plainGet K C_Whole Str.empty = true)
    (hd_Whole : PySem.W.hasDictIn K C_Whole = true)
    (po_Whole : PySem.W.plainOver K C_Whole = true)
    (sa_Whole : PySem.W.findIn K (.ref C_Whole) "__setattr__" = some (some (.builtin "object.__setattr__")))
    (mm_Whole : PySem.W.makesIn K C_Whole = true)
    (kc_Whole : PySem.W.keepIn K (.ref C_Whole) = true)
    (kv : PySem.W.kitOne K (.ref C_NoRule) (.type "ValueError") = some true)
    (ka : PySem.W.kitAny K (.ref C_NoRule) [.ref C_Lost, .ref C_NoBase, .ref C_NoPiece, .ref C_NoSense, .ref C_NoWhole, .ref C_SameName, .ref C_TooFar, .ref C_Twice, .ref C_Unmet] = some false)
    (kj : PySem.W.mroIn K C_NoRule (.ref C_JoinError) = some true)
    (kr_Whole : PySem.W.kitOne K (.ref C_Whole) (.ref C_Rule) = some true)
    (kr_High : PySem.W.kitOne K (.ref C_High) (.ref C_Rule) = some true)
    (kr_Low : PySem.W.kitOne K (.ref C_Low) (.ref C_Rule) = some true)
    (kr_Near : PySem.W.kitOne K (.ref C_Near) (.ref C_Rule) = some true)
    (kr_Split : PySem.W.kitOne K (.ref C_Split) (.ref C_Rule) = some true)
    (kc_l_Whole : PySem.W.findIn K (.ref C_Whole) "__class__" = some (some (.builtin "object.__class__")))
    (kc_l_High : PySem.W.findIn K (.ref C_High) "__class__" = some (some (.builtin "object.__class__")))
    (kc_l_Low : PySem.W.findIn K (.ref C_Low) "__class__" = some (some (.builtin "object.__class__")))
    (kc_l_Near : PySem.W.findIn K (.ref C_Near) "__class__" = some (some (.builtin "object.__class__")))
    (kc_l_Split : PySem.W.findIn K (.ref C_Split) "__class__" = some (some (.builtin "object.__class__")))
    (ko_Whole : PySem.W.mroIn K C_Whole (.type "object") = some true)
    (ko_High : PySem.W.mroIn K C_High (.type "object") = some true)
    (ko_Low : PySem.W.mroIn K C_Low (.type "object") = some true)
    (ko_Near : PySem.W.mroIn K C_Near (.type "object") = some true)
    (ko_Split : PySem.W.mroIn K C_Split (.type "object") = some true)
    (xg_NoRule : PySem.W.findIn K (.ref C_NoRule) "__getattribute__" = some (some (.builtin "BaseException.__getattribute__")))
    (xn_NoRule : PySem.W.findIn K (.ref C_NoRule) "__getattr__" = some none)
    (xl_NoRule : PySem.W.findIn K (.ref C_NoRule) "__class__" = some (some (.builtin "object.__class__")))
    (xo_NoRule : PySem.W.mroIn K C_NoRule (.type "object") = some true)
    (xb_NoRule : PySem.W.mroIn K C_NoRule (.type "BaseException") = some true)
    (sp_cl : PySem.W.specialIn K (.builtin "object.__class__") "__get__" = some (some (.builtin "getset_descriptor.__get__")))
    (tk_cl : PySem.W.takesIn K (.builtin "object.__class__") = some true)
    (xi_NoRule : PySem.W.excIn K C_NoRule [.type "ValueError", .type "Exception", .type "BaseException", .type "object"] "ValueError.__new__" = true)
    (ct_JoinError : PySem.W.instIn K (.ref C_JoinError) (.type "tuple") = some false)
    (cb_JoinError : PySem.W.mroIn K C_JoinError (.type "BaseException") = some true)
    (no_Whole_title : PySem.W.findIn K (.ref C_Whole) "title" = some none)
    (no_High_title : PySem.W.findIn K (.ref C_High) "title" = some none)
    (no_Low_title : PySem.W.findIn K (.ref C_Low) "title" = some none)
    (no_Near_title : PySem.W.findIn K (.ref C_Near) "title" = some none)
    (no_Split_title : PySem.W.findIn K (.ref C_Split) "title" = some none)
    (n_ValueError : PySem.W.nsIn K mainGlobals "ValueError" = some none)
    (n_isinstance : PySem.W.nsIn K mainGlobals "isinstance" = some none)
    (n_len : PySem.W.nsIn K mainGlobals "len" = some none)
    (n_range : PySem.W.nsIn K mainGlobals "range" = some none)
    (n_str : PySem.W.nsIn K mainGlobals "str" = some none) :
    ∃ fd : FuncData, (∀ (s : Shared) (v : Value), BindsTo s fd ⟨[v], []⟩ [("_law_script", v)]) ∧ ∀ base : Heap, K.In base → base.Ns mainGlobals mg → FnOk l.prog w K mg base CX0 7 fa fd ["_law_script"] (sp_law K) := by
  have e := hfa.symm.trans (PySem.W.mg_of X G a_law)
  cases e
  have F_rule_of := fun_mk (st := s_rule_of) l_rule_of e_rule_of k_rule_of
  have b_rule_of := F_rule_of.binds (ps := ["title"]) fun _ _ _ _ _ _ us hl => len1 us hl fun _ => rfl
  have F_Rule___init__ := fun_mk (st := s_Rule___init__) l_Rule___init__ e_Rule___init__ k_Rule___init__
  have b_Rule___init__ := F_Rule___init__.binds (ps := ["self", "title"]) fun _ _ _ _ _ _ us hl => len2 us hl fun _ _ => rfl
  have F_Rule_leans := fun_mk (st := s_Rule_leans) l_Rule_leans e_Rule_leans k_Rule_leans
  have b_Rule_leans := F_Rule_leans.binds (ps := ["self"]) fun _ _ _ _ _ _ us hl => len1 us hl fun _ => rfl
  have F_Near_leans := fun_mk (st := s_Near_leans) l_Near_leans e_Near_leans k_Near_leans
  have b_Near_leans := F_Near_leans.binds (ps := ["self"]) fun _ _ _ _ _ _ us hl => len1 us hl fun _ => rfl
  have F_Split_leans := fun_mk (st := s_Split_leans) l_Split_leans e_Split_leans k_Split_leans
  have b_Split_leans := F_Split_leans.binds (ps := ["self"]) fun _ _ _ _ _ _ us hl => len1 us hl fun _ => rfl
  have F__law_sign_by := fun_mk (st := s__law_sign_by) l__law_sign_by e__law_sign_by k__law_sign_by
  have b__law_sign_by := F__law_sign_by.binds (ps := ["_law_cell"]) fun _ _ _ _ _ _ us hl => len1 us hl fun _ => rfl
  have F__law_title := fun_mk (st := s__law_title) l__law_title e__law_title k__law_title
  have b__law_title := F__law_title.binds (ps := ["_law_cell"]) fun _ _ _ _ _ _ us hl => len1 us hl fun _ => rfl
  have F__law_text_by := fun_mk (st := s__law_text_by) l__law_text_by e__law_text_by k__law_text_by
  have b__law_text_by := F__law_text_by.binds (ps := ["_law_cell", "_law_other"]) fun _ _ _ _ _ _ us hl => len2 us hl fun _ _ => rfl
  have F__law_told_of := fun_mk (st := s__law_told_of) l__law_told_of e__law_told_of k__law_told_of
  have b__law_told_of := F__law_told_of.binds (ps := ["_law_text"]) fun _ _ _ _ _ _ us hl => len1 us hl fun _ => rfl
  have F__law_refused := fun_mk (st := s__law_refused) l__law_refused e__law_refused k__law_refused
  have b__law_refused := F__law_refused.binds (ps := ["_law_told"]) fun _ _ _ _ _ _ us hl => len1 us hl fun _ => rfl
  have F__law_holds := fun_mk (st := s__law_holds) l__law_holds e__law_holds k__law_holds
  have b__law_holds := F__law_holds.binds (ps := ["_law_cell", "_law_other"]) fun _ _ _ _ _ _ us hl => len2 us hl fun _ _ => rfl
  have F_law := fun_mk (st := s_law) l_law e_law k_law
  have b_law := F_law.binds (ps := ["_law_script"]) fun _ _ _ _ _ _ us hl => len1 us hl fun _ => rfl
  have T : Txt K mg { rule_of := f_rule_of, fd_rule_of := _, Rule___init__ := f_Rule___init__, fd_Rule___init__ := _, Rule_leans := f_Rule_leans, fd_Rule_leans := _, Near_leans := f_Near_leans, fd_Near_leans := _, Split_leans := f_Split_leans, fd_Split_leans := _, _law_sign_by := f__law_sign_by, fd__law_sign_by := _, _law_title := f__law_title, fd__law_title := _, _law_text_by := f__law_text_by, fd__law_text_by := _, _law_told_of := f__law_told_of, fd__law_told_of := _, _law_refused := f__law_refused, fd__law_refused := _, _law_holds := f__law_holds, fd__law_holds := _, law := fa, fd_law := _, c_High := C_High, c_JoinError := C_JoinError, c_Lost := C_Lost, c_Low := C_Low, c_Near := C_Near, c_NoBase := C_NoBase, c_NoPiece := C_NoPiece, c_NoRule := C_NoRule, c_NoSense := C_NoSense, c_NoWhole := C_NoWhole, c_Rule := C_Rule, c_SameName := C_SameName, c_Split := C_Split, c_TooFar := C_TooFar, c_Twice := C_Twice, c_Unmet := C_Unmet, c_Whole := C_Whole } := {
    m_rule_of := PySem.W.mg_of X G a_rule_of
    k_rule_of := k_rule_of
    b_rule_of := b_rule_of
    F_rule_of := F_rule_of
    k_Rule___init__ := k_Rule___init__
    b_Rule___init__ := b_Rule___init__
    F_Rule___init__ := F_Rule___init__
    k_Rule_leans := k_Rule_leans
    b_Rule_leans := b_Rule_leans
    F_Rule_leans := F_Rule_leans
    k_Near_leans := k_Near_leans
    b_Near_leans := b_Near_leans
    F_Near_leans := F_Near_leans
    k_Split_leans := k_Split_leans
    b_Split_leans := b_Split_leans
    F_Split_leans := F_Split_leans
    m__law_sign_by := PySem.W.mg_of X G a__law_sign_by
    k__law_sign_by := k__law_sign_by
    b__law_sign_by := b__law_sign_by
    F__law_sign_by := F__law_sign_by
    m__law_title := PySem.W.mg_of X G a__law_title
    k__law_title := k__law_title
    b__law_title := b__law_title
    F__law_title := F__law_title
    m__law_text_by := PySem.W.mg_of X G a__law_text_by
    k__law_text_by := k__law_text_by
    b__law_text_by := b__law_text_by
    F__law_text_by := F__law_text_by
    m__law_told_of := PySem.W.mg_of X G a__law_told_of
    k__law_told_of := k__law_told_of
    b__law_told_of := b__law_told_of
    F__law_told_of := F__law_told_of
    m__law_refused := PySem.W.mg_of X G a__law_refused
    k__law_refused := k__law_refused
    b__law_refused := b__law_refused
    F__law_refused := F__law_refused
    m__law_holds := PySem.W.mg_of X G a__law_holds
    k__law_holds := k__law_holds
    b__law_holds := b__law_holds
    F__law_holds := F__law_holds
    m_law := PySem.W.mg_of X G a_law
    k_law := k_law
    b_law := b_law
    F_law := F_law
    n_ValueError := PySem.W.mg_none_of X G n_ValueError
    n_isinstance := PySem.W.mg_none_of X G n_isinstance
    n_len := PySem.W.mg_none_of X G n_len
    n_range := PySem.W.mg_none_of X G n_range
    n_str := PySem.W.mg_none_of X G n_str
    mc_High := PySem.W.mg_of X G ac_High
    cl_High := ⟨pg_High, hd_High, po_High, sa_High⟩
    mc_JoinError := PySem.W.mg_of X G ac_JoinError
    mc_Lost := PySem.W.mg_of X G ac_Lost
    mc_Low := PySem.W.mg_of X G ac_Low
    cl_Low := ⟨pg_Low, hd_Low, po_Low, sa_Low⟩
    mc_Near := PySem.W.mg_of X G ac_Near
    cl_Near := ⟨pg_Near, hd_Near, po_Near, sa_Near⟩
    mc_NoBase := PySem.W.mg_of X G ac_NoBase
    mc_NoPiece := PySem.W.mg_of X G ac_NoPiece
    mc_NoRule := PySem.W.mg_of X G ac_NoRule
    mc_NoSense := PySem.W.mg_of X G ac_NoSense
    mc_NoWhole := PySem.W.mg_of X G ac_NoWhole
    mc_Rule := PySem.W.mg_of X G ac_Rule
    cl_Rule := ⟨pg_Rule, hd_Rule, po_Rule, sa_Rule⟩
    mc_SameName := PySem.W.mg_of X G ac_SameName
    mc_Split := PySem.W.mg_of X G ac_Split
    cl_Split := ⟨pg_Split, hd_Split, po_Split, sa_Split⟩
    mc_TooFar := PySem.W.mg_of X G ac_TooFar
    mc_Twice := PySem.W.mg_of X G ac_Twice
    mc_Unmet := PySem.W.mg_of X G ac_Unmet
    mc_Whole := PySem.W.mg_of X G ac_Whole
    cl_Whole := ⟨pg_Whole, hd_Whole, po_Whole, sa_Whole⟩
    kv := kv
    ka := ka
    kj := kj
    kr_Whole := kr_Whole
    kr_High := kr_High
    kr_Low := kr_Low
    kr_Near := kr_Near
    kr_Split := kr_Split
    kc_l_Whole := kc_l_Whole
    kc_l_High := kc_l_High
    kc_l_Low := kc_l_Low
    kc_l_Near := kc_l_Near
    kc_l_Split := kc_l_Split
    ko_Whole := ko_Whole
    ko_High := ko_High
    ko_Low := ko_Low
    ko_Near := ko_Near
    ko_Split := ko_Split
    xg_NoRule := xg_NoRule
    xn_NoRule := xn_NoRule
    xl_NoRule := xl_NoRule
    xo_NoRule := xo_NoRule
    xb_NoRule := xb_NoRule
    sp_cl := sp_cl
    tk_cl := tk_cl
    xi_NoRule := xi_NoRule
    ct_JoinError := ct_JoinError
    cb_JoinError := cb_JoinError
    mk_High := ⟨mm_High, a_Rule___init__, i_Rule___init__, kc_High⟩
    mk_Low := ⟨mm_Low, fi_Low, i_Rule___init__, kc_Low⟩
    mk_Near := ⟨mm_Near, fi_Near, i_Rule___init__, kc_Near⟩
    mk_Split := ⟨mm_Split, fi_Split, i_Rule___init__, kc_Split⟩
    mk_Whole := ⟨mm_Whole, fi_Whole, i_Rule___init__, kc_Whole⟩
    me_High_leans := ⟨a_Rule_leans, i_Rule_leans, k_Rule_leans⟩
    me_Low_leans := ⟨fm_Low_leans, i_Rule_leans, k_Rule_leans⟩
    me_Near_leans := ⟨a_Near_leans, i_Near_leans, k_Near_leans⟩
    me_Split_leans := ⟨a_Split_leans, i_Split_leans, k_Split_leans⟩
    me_Whole_leans := ⟨fm_Whole_leans, i_Rule_leans, k_Rule_leans⟩
    no_Whole_title := no_Whole_title
    no_High_title := no_High_title
    no_Low_title := no_Low_title
    no_Near_title := no_Near_title
    no_Split_title := no_Split_title }
  exact ⟨_, fun s v => .of_eq rfl, fun base _ _ => G_law T⟩
theorem walk {l : PySem.W.OpenLaw} {q : Program} {loose : List Str} {XP : (Str → Option Value) → Heap → Prop} {YP : World → Heap → Prop} {d : DefRec} {K : Params → PySem.W.Frag} (hn : l.most = some 63) (hdf : d.params.defaults = [])
    (hY : ∀ (w : World) (h : Heap), YP w h → (K w.params).In h)
    (F : ∀ (w : World) (mg : Str → Option Value) (fa : Addr) (h : Heap), (K w.params).In h → h.Ns mainGlobals mg → mg d.name = some (.ref fa) →
      ∃ fd : FuncData, (∀ (s : Shared) (u : Value), BindsTo s fd ⟨[u], []⟩ [("_law_script", u)]) ∧ ∀ base : Heap, (K w.params).In base → base.Ns mainGlobals mg → FnOk l.prog w (K w.params) mg base CX0 7 fa fd ["_law_script"] (sp_law (K w.params))) :
    PySem.W.WalkO q loose XP YP l.row.toRowW d [] (fun f vs => PySem.call f vs) :=
  L2.walk_of (n := 63) (k := 7) (x := "_law_script") (CX := fun _ => CX0) (sp := fun w => sp_law (K w.params)) hn (by decide) hdf ⟨rfl, by decide, by decide⟩ hY F (fun _ _ a ns hl _ hS => ⟨a, ns, rfl, hS, hl, fun _ => rfl⟩) fun _ _ _ _ _ z => z
end My
namespace Hd
open PySem PySem.W PySem.Calls PyProof.Rows
noncomputable abbrev pw : Program := PySem.Challenge.pw_joinload_k09_rules_by_titles
noncomputable def T (i : Nat) : Stmt := My.top i
noncomputable def C (i j : Nat) : Stmt := L2.inClass (My.top i) j
noncomputable abbrev k (P : Params) (x : Str) (t : Tok) (v : Value) : DictEntry := ⟨PyData.keyHash P x, .str x t, v⟩
noncomputable abbrev fn (s : Stmt) (x q : Str) (dV kV doc pm : Value) (an : Option Addr) (cd ct : Value) : FuncData := fnOf x q (L2.defArgs s) (L2.defBody s) (L2.defScope s) dV kV doc pm an cd ct
noncomputable abbrev e1 : Obj := ⟨.type "tuple", none, .seq #[] 0, #[]⟩
noncomputable abbrev e2 : Obj := ⟨.none, none, .fields #[], #[]⟩
noncomputable abbrev bp : Obj := ⟨.type "builtin_function_or_method", none, .fields #[.builtin "type.__prepare__", .type "type"], #[]⟩
noncomputable abbrev tu (x : Array Value) : Obj := ⟨.type "tuple", none, .seq x 0, #[]⟩
noncomputable abbrev nf (x : Array Value) : Obj := ⟨.none, none, .fields x, #[]⟩
noncomputable abbrev bs (a : Addr) : Obj := ⟨.type "builtin_function_or_method", none, .fields #[.builtin "object.__init_subclass__", .ref a], #[]⟩
noncomputable abbrev su (a : Addr) : Obj := ⟨.type "super", none, .fields #[.ref a, .ref a, .ref a], #[]⟩
noncomputable abbrev co (x q : Str) (t : Nat) (l a b : Int) (r : Addr) (o : Bool) (r2 : Addr) (v : Value) (u : Nat) : Obj := ⟨.type "code", none, .fields #[.str x t, .str q (t + 1), .str "/claim/cut.py" (t + 2), .int l 0, .int a 0, .int 0 0, .int 0 0, .int b 0, .ref r, .bool o, .int 181 0, .ref r2, .none, .none, .none, v, .int (Int.ofNat u) 0, .int l 0, .str "/claim/cut.py" (u + 1)], #[]⟩
noncomputable abbrev fm (a b : Addr) (v : Value) : Obj := ⟨.type "frame", none, .plain, #[some (.ref a), some (.ref 3), some (.ref b), none, some v, none, some (.ref 0)]⟩
noncomputable abbrev fo (s : Stmt) (x q m : Str) (t : Nat) (c : Addr) : Obj := ⟨.type "function", none, .func (fn s x q .none .none .none (.str m t) none (.ref c) .none), #[]⟩
noncomputable abbrev ft (s : Stmt) (x q : Str) : Obj := ⟨.none, none, .func { fn s x q .none .none .none .none none .none .none with globals := 0, closure := [], builtins := 0 }, #[]⟩
noncomputable abbrev di (l : List DictEntry) (n : Nat) : Obj := ⟨.type "dict", none, .dict l.toArray n, #[]⟩
noncomputable def sv : List DictEntry → Nat → Value → List DictEntry
  | [], _, _ => []
  | e :: r, 0, v => ⟨e.hash, e.key, v⟩ :: r
  | e :: r, n + 1, v => e :: sv r n v
noncomputable def od : List (Nat × Obj) → List (Nat × Obj)
  | [] => []
  | (i, o) :: r => match Nat.beq (i % 2) 1 with
    | true => (i / 2, o) :: od r
    | false => od r
noncomputable def ev : List (Nat × Obj) → List (Nat × Obj)
  | [] => []
  | (i, o) :: r => match Nat.beq i 0 with
    | true => ev r
    | false => match Nat.beq (i % 2) 1 with
      | true => ev r
      | false => (i / 2 - 1, o) :: ev r
noncomputable def at0 (v : Obj) : List (Nat × Obj) → Obj
  | [] => v
  | (i, o) :: r => match Nat.beq i 0 with
    | true => o
    | false => at0 v r
noncomputable def mg : Nat → BT → List (Nat × Obj) → BT
  | 0, t, _ => t
  | f + 1, t, d => match d with
    | [] => t
    | x :: r => match t with
      | .nil => .node (at0 default (x :: r)) (mg f .nil (od (x :: r))) (mg f .nil (ev (x :: r)))
      | .node v a b => .node (at0 v (x :: r)) (mg f a (od (x :: r))) (mg f b (ev (x :: r)))
noncomputable def bd : List Stmt := behindTheImports pw
noncomputable def en : Env := { scope := pw.main.scope, locals := mainNs, globals := mainNs, cells := [], code := (.ref 13), frame := some 14 }
noncomputable abbrev cE : Code := .body bd en
noncomputable abbrev B : List Frame := [topFrame ⟨0, 0, 0, 0⟩]
noncomputable def li : Life := { registered := [], finalised := [], alive := [], known := 0, ids := [], orphanDicts := [], counting := false, cnt := ⟨[]⟩, zero := [], soft := 0, below := false, collecting := false, loading := false, debug := 0, thresholds := [2000, 10, 10], woke := false, asked := 0, gcEnabled := true, old := [], middle := [], young := 0, intoMiddle := false }
noncomputable abbrev an : Option Value := (some (.ref 6))
noncomputable abbrev sT (t : BT) (n k : Nat) (os : OsState) : SharedT := ⟨t, n, li, ⟨[]⟩, boot_drawn, k, os⟩
noncomputable abbrev sR (w : World) (n : Nat) (S S' : World → OsState → SharedT) (l : List Stmt) (p p' : Pos) : Prop := (fun os => segRunT treeTable pw w 11 an 1 n (S w os) (piecesOf l en cE p B)) = fun os => some (.next, S' w os, cE, p')
noncomputable def o11_0 : Obj := e1
noncomputable def o12_0 : Obj := e2
noncomputable def o13_0 : Obj := co "<module>" "<module>" 182 1 0 0 11 false 12 .none 185
noncomputable def o14_0 : Obj := fm 13 3 (.str "__main__" 164)
noncomputable def Ha (P : Params) : Heap := ⟨⟨boot_o_0 P :: boot_o_1 P :: boot_o_2 P :: boot_o_3 P :: boot_o_4 P :: boot_o_5 P :: boot_o_6 P :: boot_o_7 P :: boot_o_8 P :: boot_o_9 P :: boot_o_10 P :: o11_0 :: o12_0 :: o13_0 :: o14_0 :: []⟩, li⟩
noncomputable def S0 (w : World) (os : OsState) : Shared := ⟨boot_heap w.params, ⟨[]⟩, boot_drawn, boot_toks, os⟩
noncomputable def Sa (w : World) (os : OsState) : Shared := ⟨Ha w.params, ⟨[]⟩, boot_drawn, 187, os⟩
noncomputable def Pre (w : World) : Prop := (fun os => topGo treeTable pw w 11 an 12 (S0 w os) (topStub pw)) = fun os => some (Sa w os, ⟨denote treeTable cE, cE, ⟨0, 0, 0, 0⟩, B⟩)
noncomputable def D0 (P : Params) : List (Nat × Obj) := (0, boot_o_0 P) :: (1, boot_o_1 P) :: (2, boot_o_2 P) :: (3, boot_o_3 P) :: (4, boot_o_4 P) :: (5, boot_o_5 P) :: (6, boot_o_6 P) :: (7, boot_o_7 P) :: (8, boot_o_8 P) :: (9, boot_o_9 P) :: (10, boot_o_10 P) :: (11, o11_0) :: (12, o12_0) :: (13, o13_0) :: (14, o14_0) :: []
noncomputable def T0 (P : Params) : BT := mg 14 .nil (D0 P)
noncomputable def S0T (w : World) : OsState → SharedT := sT (T0 w.params) 15 187
noncomputable def Blk (w : World) : Prop := (fun os => segRun treeTable pw w 11 an 1 1 (Sa w os) (blockOf bd en cE ⟨0, 0, 0, 0⟩ B)) = fun os => some (.next, (S0T w os).abs, cE, ⟨0, 0, 0, 0⟩)
noncomputable def g3_2 (P : Params) : List DictEntry := [k P "__name__" 165 (.str "joinload.errors" 231), k P "__doc__" 166 .none, k P "__package__" 167 .none, k P "__loader__" 168 (.builtin "__main__.__loader__#opaque"), k P "__spec__" 169 .none, k P "__annotations__" 170 (.ref 6), k P "__builtins__" 171 (.ref 4), k P "__file__" 173 (.str "/claim/cut.py" 172), k P "__cached__" 174 .none, k P "_wall" 193 (.ref 21), k P "WORD_COUNT" 197 (.int (4294967296) 196), k P "wrapped" 204 (.ref 28), k P "with_field" 215 (.ref 35), k P "ones" 222 (.ref 42), k P "moved" 230 (.ref 49), k P "JoinError" 250 (.ref 59), k P "NoRule" 266 (.ref 72), k P "NoPiece" 291 (.ref 91)]
noncomputable def o3_2 (P : Params) : Obj := ⟨(.type "dict"), none, .dict (g3_2 P).toArray 18, #[]⟩
noncomputable def o12_2 : Obj := nf #[(.int (1) 0), (.int (0) 0), (.ref 20), (.int (6) 0), (.int (0) 0), (.ref 27), (.int (8) 0), (.int (0) 0), (.ref 34), (.int (11) 0), (.int (0) 0), (.ref 41), (.int (13) 0), (.int (0) 0), (.ref 48), (.int (18) 0), (.int (0) 0), (.ref 55), (.int (20) 0), (.int (0) 0), (.ref 68), (.int (22) 0), (.int (0) 0), (.ref 80)]
noncomputable def o15_2 : Obj := e1
noncomputable def o16_2 : Obj := e2
noncomputable def o17_2 : Obj := tu #[(.str "k" 190)]
noncomputable def o18_2 : Obj := e1
noncomputable def o19_2 : Obj := ft (T 0) "_wall" "_wall"
noncomputable def o20_2 : Obj := ⟨(.type "code"), none, (.fields #[(.str "_wall" 187), (.str "_wall" 188), (.str "/claim/cut.py" 189), (.int (1) 0), (.int (1) 0), (.int (0) 0), (.int (0) 0), (.int (3) 0), (.ref 15), (.bool true), (.int (181) 0), (.ref 16), .none, (.ref 17), (.ref 18), (.ref 19), (.int (191) 0), (.int (1) 0), (.str "/claim/cut.py" 192)]), #[]⟩
noncomputable def o21_2 : Obj := fo (T 0) "_wall" "_wall" "__main__" 164 20
noncomputable def o22_2 : Obj := e1
noncomputable def o23_2 : Obj := e2
noncomputable def o24_2 : Obj := tu #[(.str "number" 201)]
noncomputable def o25_2 : Obj := e1
noncomputable def o26_2 : Obj := ft (T 3) "wrapped" "wrapped"
noncomputable def o27_2 : Obj := ⟨(.type "code"), none, (.fields #[(.str "wrapped" 198), (.str "wrapped" 199), (.str "/claim/cut.py" 200), (.int (6) 0), (.int (1) 0), (.int (0) 0), (.int (0) 0), (.int (3) 0), (.ref 22), (.bool true), (.int (181) 0), (.ref 23), .none, (.ref 24), (.ref 25), (.ref 26), (.int (202) 0), (.int (6) 0), (.str "/claim/cut.py" 203)]), #[]⟩
noncomputable def o28_2 : Obj := fo (T 3) "wrapped" "wrapped" "joinload.bits" 194 27
noncomputable def o29_2 : Obj := e1
noncomputable def o30_2 : Obj := e2
noncomputable def o31_2 : Obj := tu #[(.str "word" 208), (.str "low" 209), (.str "many" 210), (.str "number" 211), (.str "others" 212)]
noncomputable def o32_2 : Obj := e1
noncomputable def o33_2 : Obj := ft (T 4) "with_field" "with_field"
noncomputable def o34_2 : Obj := ⟨(.type "code"), none, (.fields #[(.str "with_field" 205), (.str "with_field" 206), (.str "/claim/cut.py" 207), (.int (8) 0), (.int (4) 0), (.int (0) 0), (.int (0) 0), (.int (3) 0), (.ref 29), (.bool true), (.int (181) 0), (.ref 30), .none, (.ref 31), (.ref 32), (.ref 33), (.int (213) 0), (.int (8) 0), (.str "/claim/cut.py" 214)]), #[]⟩
noncomputable def o35_2 : Obj := fo (T 4) "with_field" "with_field" "joinload.bits" 194 34
noncomputable def o36_2 : Obj := e1
noncomputable def o37_2 : Obj := e2
noncomputable def o38_2 : Obj := tu #[(.str "many" 219)]
noncomputable def o39_2 : Obj := e1
noncomputable def o40_2 : Obj := ft (T 5) "ones" "ones"
noncomputable def o41_2 : Obj := ⟨(.type "code"), none, (.fields #[(.str "ones" 216), (.str "ones" 217), (.str "/claim/cut.py" 218), (.int (11) 0), (.int (1) 0), (.int (0) 0), (.int (0) 0), (.int (3) 0), (.ref 36), (.bool true), (.int (181) 0), (.ref 37), .none, (.ref 38), (.ref 39), (.ref 40), (.int (220) 0), (.int (11) 0), (.str "/claim/cut.py" 221)]), #[]⟩
noncomputable def o42_2 : Obj := fo (T 5) "ones" "ones" "joinload.bits" 194 41
noncomputable def o43_2 : Obj := e1
noncomputable def o44_2 : Obj := e2
noncomputable def o45_2 : Obj := tu #[(.str "number" 226), (.str "up" 227)]
noncomputable def o46_2 : Obj := e1
noncomputable def o47_2 : Obj := ft (T 6) "moved" "moved"
noncomputable def o48_2 : Obj := ⟨(.type "code"), none, (.fields #[(.str "moved" 223), (.str "moved" 224), (.str "/claim/cut.py" 225), (.int (13) 0), (.int (2) 0), (.int (0) 0), (.int (0) 0), (.int (3) 0), (.ref 43), (.bool true), (.int (181) 0), (.ref 44), .none, (.ref 45), (.ref 46), (.ref 47), (.int (228) 0), (.int (13) 0), (.str "/claim/cut.py" 229)]), #[]⟩
noncomputable def o49_2 : Obj := fo (T 6) "moved" "moved" "joinload.bits" 194 48
noncomputable def o50_2 : Obj := tu #[(.type "ValueError")]
noncomputable def o51_2 : Obj := bp
noncomputable def o52_2 (P : Params) : Obj := di [k P "__module__" 240 (.str "joinload.errors" 231), k P "__qualname__" 242 (.str "JoinError" 241), k P "__firstlineno__" 244 (.int (18) 243), k P "__static_attributes__" 245 (.ref 57)] 4
noncomputable def o53_2 : Obj := e1
noncomputable def o54_2 : Obj := e2
noncomputable def o55_2 : Obj := co "JoinError" "JoinError" 235 18 0 0 53 false 54 .none 238
noncomputable def o56_2 : Obj := fm 55 52 (.str "joinload.errors" 231)
noncomputable def o57_2 : Obj := e1
noncomputable def o58_2 (P : Params) : Obj := di [k P "__module__" 240 (.str "joinload.errors" 231), k P "__firstlineno__" 244 (.int (18) 243), k P "__static_attributes__" 245 (.ref 57), k P "__weakref__" 247 (.ref 60), k P "__doc__" 248 .none] 3
noncomputable def o59_2 : Obj := ⟨(.type "type"), none, (.cls ⟨"JoinError", [(.type "ValueError")], [(.ref 59), (.type "ValueError"), (.type "Exception"), (.type "BaseException"), (.type "object")], 58, "JoinError", true, [], [(.ref 72), (.ref 91)], false, none, false⟩), #[(some (.ref 50)), none, (some (.str "JoinError" 233)), (some (.str "JoinError" 241)), (some (.builtin "ValueError.__new__")), (some (.bool true))]⟩
noncomputable def o60_2 : Obj := ⟨(.type "getset_descriptor"), none, (.fields #[(.str "__weakref__" 246), (.ref 59), (.builtin "ExceptionGroup.__weakref__"), .none]), #[]⟩
noncomputable def o61_2 : Obj := su 59
noncomputable def o62_2 : Obj := bs 59
noncomputable def o63_2 : Obj := tu #[(.ref 59)]
noncomputable def o64_2 : Obj := bp
noncomputable def o65_2 (P : Params) : Obj := di [k P "__module__" 258 (.str "joinload.errors" 231), k P "__qualname__" 260 (.str "NoRule" 259), k P "__firstlineno__" 262 (.int (20) 261), k P "__static_attributes__" 263 (.ref 70)] 4
noncomputable def o66_2 : Obj := e1
noncomputable def o67_2 : Obj := e2
noncomputable def o68_2 : Obj := co "NoRule" "NoRule" 253 20 0 0 66 false 67 .none 256
noncomputable def o69_2 : Obj := fm 68 65 (.str "joinload.errors" 231)
noncomputable def o70_2 : Obj := e1
noncomputable def o71_2 (P : Params) : Obj := di [k P "__module__" 258 (.str "joinload.errors" 231), k P "__firstlineno__" 262 (.int (20) 261), k P "__static_attributes__" 263 (.ref 70), k P "__doc__" 264 .none] 2
noncomputable def o72_2 : Obj := ⟨(.type "type"), none, (.cls ⟨"NoRule", [(.ref 59)], [(.ref 72), (.ref 59), (.type "ValueError"), (.type "Exception"), (.type "BaseException"), (.type "object")], 71, "NoRule", true, [], [], false, none, false⟩), #[(some (.ref 63)), none, (some (.str "NoRule" 251)), (some (.str "NoRule" 259)), (some (.builtin "ValueError.__new__")), (some (.bool true))]⟩
noncomputable def o73_2 : Obj := su 72
noncomputable def o74_2 : Obj := bs 72
noncomputable def o75_2 : Obj := tu #[(.ref 59)]
noncomputable def o76_2 : Obj := bp
noncomputable def o77_2 (P : Params) : Obj := di [k P "__module__" 274 (.str "joinload.errors" 231), k P "__qualname__" 276 (.str "NoPiece" 275), k P "__firstlineno__" 278 (.int (22) 277), k P "__init__" 286 (.ref 88), k P "__static_attributes__" 288 (.ref 89)] 5
noncomputable def o78_2 : Obj := e1
noncomputable def o79_2 : Obj := nf #[(.int (24) 0), (.int (4) 0), (.ref 87)]
noncomputable def o80_2 : Obj := co "NoPiece" "NoPiece" 269 22 0 0 78 false 79 .none 272
noncomputable def o81_2 : Obj := fm 80 77 (.str "joinload.errors" 231)
noncomputable def o82_2 : Obj := e1
noncomputable def o83_2 : Obj := e2
noncomputable def o84_2 : Obj := tu #[(.str "self" 282), (.str "row" 283)]
noncomputable def o85_2 : Obj := e1
noncomputable def o86_2 : Obj := ft (C 10 0) "__init__" "NoPiece.__init__"
noncomputable def o87_2 : Obj := ⟨(.type "code"), none, (.fields #[(.str "__init__" 279), (.str "NoPiece.__init__" 280), (.str "/claim/cut.py" 281), (.int (24) 0), (.int (2) 0), (.int (0) 0), (.int (0) 0), (.int (3) 0), (.ref 82), (.bool true), (.int (181) 0), (.ref 83), .none, (.ref 84), (.ref 85), (.ref 86), (.int (284) 0), (.int (24) 0), (.str "/claim/cut.py" 285)]), #[]⟩
noncomputable def o88_2 : Obj := fo (C 10 0) "__init__" "NoPiece.__init__" "joinload.errors" 231 87
noncomputable def o89_2 : Obj := tu #[(.str "row" 287)]
noncomputable def o90_2 (P : Params) : Obj := di [k P "__module__" 274 (.str "joinload.errors" 231), k P "__firstlineno__" 278 (.int (22) 277), k P "__init__" 286 (.ref 88), k P "__static_attributes__" 288 (.ref 89), k P "__doc__" 289 .none] 2
noncomputable def o91_2 : Obj := ⟨(.type "type"), none, (.cls ⟨"NoPiece", [(.ref 59)], [(.ref 91), (.ref 59), (.type "ValueError"), (.type "Exception"), (.type "BaseException"), (.type "object")], 90, "NoPiece", true, [], [], false, none, false⟩), #[(some (.ref 75)), none, (some (.str "NoPiece" 267)), (some (.str "NoPiece" 275)), (some (.builtin "ValueError.__new__")), (some (.bool true))]⟩
noncomputable def o92_2 : Obj := su 91
noncomputable def o93_2 : Obj := bs 91
noncomputable def d1_0 (P : Params) (r : List (Nat × Obj)) : List (Nat × Obj) := (3, o3_2 P) :: (12, o12_2) :: (15, o15_2) :: (16, o16_2) :: (17, o17_2) :: (18, o18_2) :: (19, o19_2) :: (20, o20_2) :: (21, o21_2) :: (22, o22_2) :: (23, o23_2) :: (24, o24_2) :: (25, o25_2) :: (26, o26_2) :: (27, o27_2) :: (28, o28_2) :: (29, o29_2) :: (30, o30_2) :: (31, o31_2) :: (32, o32_2) :: (33, o33_2) :: (34, o34_2) :: (35, o35_2) :: (36, o36_2) :: r
noncomputable def d1_1 (P : Params) (r : List (Nat × Obj)) : List (Nat × Obj) := (37, o37_2) :: (38, o38_2) :: (39, o39_2) :: (40, o40_2) :: (41, o41_2) :: (42, o42_2) :: (43, o43_2) :: (44, o44_2) :: (45, o45_2) :: (46, o46_2) :: (47, o47_2) :: (48, o48_2) :: (49, o49_2) :: (50, o50_2) :: (51, o51_2) :: (52, o52_2 P) :: (53, o53_2) :: (54, o54_2) :: (55, o55_2) :: (56, o56_2) :: (57, o57_2) :: (58, o58_2 P) :: (59, o59_2) :: (60, o60_2) :: r
noncomputable def d1_2 (P : Params) (r : List (Nat × Obj)) : List (Nat × Obj) := (61, o61_2) :: (62, o62_2) :: (63, o63_2) :: (64, o64_2) :: (65, o65_2 P) :: (66, o66_2) :: (67, o67_2) :: (68, o68_2) :: (69, o69_2) :: (70, o70_2) :: (71, o71_2 P) :: (72, o72_2) :: (73, o73_2) :: (74, o74_2) :: (75, o75_2) :: (76, o76_2) :: (77, o77_2 P) :: (78, o78_2) :: (79, o79_2) :: (80, o80_2) :: (81, o81_2) :: (82, o82_2) :: (83, o83_2) :: (84, o84_2) :: r
noncomputable def d1_3 (P : Params) (r : List (Nat × Obj)) : List (Nat × Obj) := (85, o85_2) :: (86, o86_2) :: (87, o87_2) :: (88, o88_2) :: (89, o89_2) :: (90, o90_2 P) :: (91, o91_2) :: (92, o92_2) :: (93, o93_2) :: r
noncomputable def T1 (P : Params) : BT := mg 14 (T0 P) (d1_0 P (d1_1 P (d1_2 P (d1_3 P ([])))))
noncomputable def S1T (w : World) : OsState → SharedT := sT (T1 w.params) 94 292
noncomputable def L0 : List Stmt := My.top 0 :: My.top 1 :: My.top 2 :: My.top 3 :: My.top 4 :: My.top 5 :: My.top 6 :: My.top 7 :: My.top 8 :: My.top 9 :: My.top 10 :: []
noncomputable def P0 (w : World) : Prop := sR w 822 S0T S1T L0 ⟨0, 0, 0, 0⟩ ⟨22, 0, 26, 22⟩
noncomputable def g3_3 (P : Params) : List DictEntry := g3_2 P ++ [k P "Twice" 320 (.ref 110), k P "SameName" 345 (.ref 129), k P "Unmet" 372 (.ref 148)]
noncomputable def o3_3 (P : Params) : Obj := ⟨(.type "dict"), none, .dict (g3_3 P).toArray 21, #[]⟩
noncomputable def o12_3 : Obj := nf #[(.int (1) 0), (.int (0) 0), (.ref 20), (.int (6) 0), (.int (0) 0), (.ref 27), (.int (8) 0), (.int (0) 0), (.ref 34), (.int (11) 0), (.int (0) 0), (.ref 41), (.int (13) 0), (.int (0) 0), (.ref 48), (.int (18) 0), (.int (0) 0), (.ref 55), (.int (20) 0), (.int (0) 0), (.ref 68), (.int (22) 0), (.int (0) 0), (.ref 80), (.int (27) 0), (.int (0) 0), (.ref 99), (.int (34) 0), (.int (0) 0), (.ref 118), (.int (39) 0), (.int (0) 0), (.ref 137)]
noncomputable def o59_3 : Obj := ⟨(.type "type"), none, (.cls ⟨"JoinError", [(.type "ValueError")], [(.ref 59), (.type "ValueError"), (.type "Exception"), (.type "BaseException"), (.type "object")], 58, "JoinError", true, [], [(.ref 72), (.ref 91), (.ref 110), (.ref 129), (.ref 148)], false, none, false⟩), #[(some (.ref 50)), none, (some (.str "JoinError" 233)), (some (.str "JoinError" 241)), (some (.builtin "ValueError.__new__")), (some (.bool true))]⟩
noncomputable def o94_3 : Obj := tu #[(.ref 59)]
noncomputable def o95_3 : Obj := bp
noncomputable def o96_3 (P : Params) : Obj := di [k P "__module__" 299 (.str "joinload.errors" 231), k P "__qualname__" 301 (.str "Twice" 300), k P "__firstlineno__" 303 (.int (27) 302), k P "__init__" 313 (.ref 107), k P "__static_attributes__" 317 (.ref 108)] 5
noncomputable def o97_3 : Obj := e1
noncomputable def o98_3 : Obj := nf #[(.int (29) 0), (.int (4) 0), (.ref 106)]
noncomputable def o99_3 : Obj := co "Twice" "Twice" 294 27 0 0 97 false 98 .none 297
noncomputable def o100_3 : Obj := fm 99 96 (.str "joinload.errors" 231)
noncomputable def o101_3 : Obj := e1
noncomputable def o102_3 : Obj := e2
noncomputable def o103_3 : Obj := tu #[(.str "self" 307), (.str "name" 308), (.str "one" 309), (.str "other" 310)]
noncomputable def o104_3 : Obj := e1
noncomputable def o105_3 : Obj := ft (C 11 0) "__init__" "Twice.__init__"
noncomputable def o106_3 : Obj := ⟨(.type "code"), none, (.fields #[(.str "__init__" 304), (.str "Twice.__init__" 305), (.str "/claim/cut.py" 306), (.int (29) 0), (.int (4) 0), (.int (0) 0), (.int (0) 0), (.int (3) 0), (.ref 101), (.bool true), (.int (181) 0), (.ref 102), .none, (.ref 103), (.ref 104), (.ref 105), (.int (311) 0), (.int (29) 0), (.str "/claim/cut.py" 312)]), #[]⟩
noncomputable def o107_3 : Obj := fo (C 11 0) "__init__" "Twice.__init__" "joinload.errors" 231 106
noncomputable def o108_3 : Obj := tu #[(.str "name" 314), (.str "one" 315), (.str "other" 316)]
noncomputable def o109_3 (P : Params) : Obj := di [k P "__module__" 299 (.str "joinload.errors" 231), k P "__firstlineno__" 303 (.int (27) 302), k P "__init__" 313 (.ref 107), k P "__static_attributes__" 317 (.ref 108), k P "__doc__" 318 .none] 2
noncomputable def o110_3 : Obj := ⟨(.type "type"), none, (.cls ⟨"Twice", [(.ref 59)], [(.ref 110), (.ref 59), (.type "ValueError"), (.type "Exception"), (.type "BaseException"), (.type "object")], 109, "Twice", true, [], [], false, none, false⟩), #[(some (.ref 94)), none, (some (.str "Twice" 292)), (some (.str "Twice" 300)), (some (.builtin "ValueError.__new__")), (some (.bool true))]⟩
noncomputable def o111_3 : Obj := su 110
noncomputable def o112_3 : Obj := bs 110
noncomputable def o113_3 : Obj := tu #[(.ref 59)]
noncomputable def o114_3 : Obj := bp
noncomputable def o115_3 (P : Params) : Obj := di [k P "__module__" 328 (.str "joinload.errors" 231), k P "__qualname__" 330 (.str "SameName" 329), k P "__firstlineno__" 332 (.int (34) 331), k P "__init__" 340 (.ref 126), k P "__static_attributes__" 342 (.ref 127)] 5
noncomputable def o116_3 : Obj := e1
noncomputable def o117_3 : Obj := nf #[(.int (36) 0), (.int (4) 0), (.ref 125)]
noncomputable def o118_3 : Obj := co "SameName" "SameName" 323 34 0 0 116 false 117 .none 326
noncomputable def o119_3 : Obj := fm 118 115 (.str "joinload.errors" 231)
noncomputable def o120_3 : Obj := e1
noncomputable def o121_3 : Obj := e2
noncomputable def o122_3 : Obj := tu #[(.str "self" 336), (.str "name" 337)]
noncomputable def o123_3 : Obj := e1
noncomputable def o124_3 : Obj := ft (C 12 0) "__init__" "SameName.__init__"
noncomputable def o125_3 : Obj := ⟨(.type "code"), none, (.fields #[(.str "__init__" 333), (.str "SameName.__init__" 334), (.str "/claim/cut.py" 335), (.int (36) 0), (.int (2) 0), (.int (0) 0), (.int (0) 0), (.int (3) 0), (.ref 120), (.bool true), (.int (181) 0), (.ref 121), .none, (.ref 122), (.ref 123), (.ref 124), (.int (338) 0), (.int (36) 0), (.str "/claim/cut.py" 339)]), #[]⟩
noncomputable def o126_3 : Obj := fo (C 12 0) "__init__" "SameName.__init__" "joinload.errors" 231 125
noncomputable def o127_3 : Obj := tu #[(.str "name" 341)]
noncomputable def o128_3 (P : Params) : Obj := di [k P "__module__" 328 (.str "joinload.errors" 231), k P "__firstlineno__" 332 (.int (34) 331), k P "__init__" 340 (.ref 126), k P "__static_attributes__" 342 (.ref 127), k P "__doc__" 343 .none] 2
noncomputable def o129_3 : Obj := ⟨(.type "type"), none, (.cls ⟨"SameName", [(.ref 59)], [(.ref 129), (.ref 59), (.type "ValueError"), (.type "Exception"), (.type "BaseException"), (.type "object")], 128, "SameName", true, [], [], false, none, false⟩), #[(some (.ref 113)), none, (some (.str "SameName" 321)), (some (.str "SameName" 329)), (some (.builtin "ValueError.__new__")), (some (.bool true))]⟩
noncomputable def o130_3 : Obj := su 129
noncomputable def o131_3 : Obj := bs 129
noncomputable def o132_3 : Obj := tu #[(.ref 59)]
noncomputable def o133_3 : Obj := bp
noncomputable def o134_3 (P : Params) : Obj := di [k P "__module__" 353 (.str "joinload.errors" 231), k P "__qualname__" 355 (.str "Unmet" 354), k P "__firstlineno__" 357 (.int (39) 356), k P "__init__" 366 (.ref 145), k P "__static_attributes__" 369 (.ref 146)] 5
noncomputable def o135_3 : Obj := e1
noncomputable def o136_3 : Obj := nf #[(.int (41) 0), (.int (4) 0), (.ref 144)]
noncomputable def o137_3 : Obj := co "Unmet" "Unmet" 348 39 0 0 135 false 136 .none 351
noncomputable def o138_3 : Obj := fm 137 134 (.str "joinload.errors" 231)
noncomputable def o139_3 : Obj := e1
noncomputable def o140_3 : Obj := e2
noncomputable def o141_3 : Obj := tu #[(.str "self" 361), (.str "name" 362), (.str "piece" 363)]
noncomputable def o142_3 : Obj := e1
noncomputable def o143_3 : Obj := ft (C 13 0) "__init__" "Unmet.__init__"
noncomputable def o144_3 : Obj := ⟨(.type "code"), none, (.fields #[(.str "__init__" 358), (.str "Unmet.__init__" 359), (.str "/claim/cut.py" 360), (.int (41) 0), (.int (3) 0), (.int (0) 0), (.int (0) 0), (.int (3) 0), (.ref 139), (.bool true), (.int (181) 0), (.ref 140), .none, (.ref 141), (.ref 142), (.ref 143), (.int (364) 0), (.int (41) 0), (.str "/claim/cut.py" 365)]), #[]⟩
noncomputable def o145_3 : Obj := fo (C 13 0) "__init__" "Unmet.__init__" "joinload.errors" 231 144
noncomputable def o146_3 : Obj := tu #[(.str "name" 367), (.str "piece" 368)]
noncomputable def o147_3 (P : Params) : Obj := di [k P "__module__" 353 (.str "joinload.errors" 231), k P "__firstlineno__" 357 (.int (39) 356), k P "__init__" 366 (.ref 145), k P "__static_attributes__" 369 (.ref 146), k P "__doc__" 370 .none] 2
noncomputable def o148_3 : Obj := ⟨(.type "type"), none, (.cls ⟨"Unmet", [(.ref 59)], [(.ref 148), (.ref 59), (.type "ValueError"), (.type "Exception"), (.type "BaseException"), (.type "object")], 147, "Unmet", true, [], [], false, none, false⟩), #[(some (.ref 132)), none, (some (.str "Unmet" 346)), (some (.str "Unmet" 354)), (some (.builtin "ValueError.__new__")), (some (.bool true))]⟩
noncomputable def o149_3 : Obj := su 148
noncomputable def o150_3 : Obj := bs 148
noncomputable def d2_0 (P : Params) (r : List (Nat × Obj)) : List (Nat × Obj) := (3, o3_3 P) :: (12, o12_3) :: (59, o59_3) :: (94, o94_3) :: (95, o95_3) :: (96, o96_3 P) :: (97, o97_3) :: (98, o98_3) :: (99, o99_3) :: (100, o100_3) :: (101, o101_3) :: (102, o102_3) :: (103, o103_3) :: (104, o104_3) :: (105, o105_3) :: (106, o106_3) :: (107, o107_3) :: (108, o108_3) :: (109, o109_3 P) :: (110, o110_3) :: (111, o111_3) :: (112, o112_3) :: (113, o113_3) :: (114, o114_3) :: r
noncomputable def d2_1 (P : Params) (r : List (Nat × Obj)) : List (Nat × Obj) := (115, o115_3 P) :: (116, o116_3) :: (117, o117_3) :: (118, o118_3) :: (119, o119_3) :: (120, o120_3) :: (121, o121_3) :: (122, o122_3) :: (123, o123_3) :: (124, o124_3) :: (125, o125_3) :: (126, o126_3) :: (127, o127_3) :: (128, o128_3 P) :: (129, o129_3) :: (130, o130_3) :: (131, o131_3) :: (132, o132_3) :: (133, o133_3) :: (134, o134_3 P) :: (135, o135_3) :: (136, o136_3) :: (137, o137_3) :: (138, o138_3) :: r
noncomputable def d2_2 (P : Params) (r : List (Nat × Obj)) : List (Nat × Obj) := (139, o139_3) :: (140, o140_3) :: (141, o141_3) :: (142, o142_3) :: (143, o143_3) :: (144, o144_3) :: (145, o145_3) :: (146, o146_3) :: (147, o147_3 P) :: (148, o148_3) :: (149, o149_3) :: (150, o150_3) :: r
noncomputable def T2 (P : Params) : BT := mg 14 (T1 P) (d2_0 P (d2_1 P (d2_2 P ([]))))
noncomputable def S2T (w : World) : OsState → SharedT := sT (T2 w.params) 151 373
noncomputable def L1 : List Stmt := My.top 11 :: My.top 12 :: My.top 13 :: []
noncomputable def P1 (w : World) : Prop := sR w 742 S1T S2T L1 ⟨22, 0, 26, 22⟩ ⟨39, 0, 44, 26⟩
noncomputable def g3_4 (P : Params) : List DictEntry := g3_3 P ++ [k P "TooFar" 403 (.ref 167), k P "NoWhole" 428 (.ref 186), k P "NoBase" 453 (.ref 205)]
noncomputable def o3_4 (P : Params) : Obj := ⟨(.type "dict"), none, .dict (g3_4 P).toArray 24, #[]⟩
noncomputable def o12_4 : Obj := nf #[(.int (1) 0), (.int (0) 0), (.ref 20), (.int (6) 0), (.int (0) 0), (.ref 27), (.int (8) 0), (.int (0) 0), (.ref 34), (.int (11) 0), (.int (0) 0), (.ref 41), (.int (13) 0), (.int (0) 0), (.ref 48), (.int (18) 0), (.int (0) 0), (.ref 55), (.int (20) 0), (.int (0) 0), (.ref 68), (.int (22) 0), (.int (0) 0), (.ref 80), (.int (27) 0), (.int (0) 0), (.ref 99), (.int (34) 0), (.int (0) 0), (.ref 118), (.int (39) 0), (.int (0) 0), (.ref 137), (.int (45) 0), (.int (0) 0), (.ref 156), (.int (53) 0), (.int (0) 0), (.ref 175), (.int (58) 0), (.int (0) 0), (.ref 194)]
noncomputable def o59_4 : Obj := ⟨(.type "type"), none, (.cls ⟨"JoinError", [(.type "ValueError")], [(.ref 59), (.type "ValueError"), (.type "Exception"), (.type "BaseException"), (.type "object")], 58, "JoinError", true, [], [(.ref 72), (.ref 91), (.ref 110), (.ref 129), (.ref 148), (.ref 167), (.ref 186), (.ref 205)], false, none, false⟩), #[(some (.ref 50)), none, (some (.str "JoinError" 233)), (some (.str "JoinError" 241)), (some (.builtin "ValueError.__new__")), (some (.bool true))]⟩
noncomputable def o151_4 : Obj := tu #[(.ref 59)]
noncomputable def o152_4 : Obj := bp
noncomputable def o153_4 (P : Params) : Obj := di [k P "__module__" 380 (.str "joinload.errors" 231), k P "__qualname__" 382 (.str "TooFar" 381), k P "__firstlineno__" 384 (.int (45) 383), k P "__init__" 395 (.ref 164), k P "__static_attributes__" 400 (.ref 165)] 5
noncomputable def o154_4 : Obj := e1
noncomputable def o155_4 : Obj := nf #[(.int (47) 0), (.int (4) 0), (.ref 163)]
noncomputable def o156_4 : Obj := co "TooFar" "TooFar" 375 45 0 0 154 false 155 .none 378
noncomputable def o157_4 : Obj := fm 156 153 (.str "joinload.errors" 231)
noncomputable def o158_4 : Obj := e1
noncomputable def o159_4 : Obj := e2
noncomputable def o160_4 : Obj := tu #[(.str "self" 388), (.str "name" 389), (.str "piece" 390), (.str "stretch" 391), (.str "at" 392)]
noncomputable def o161_4 : Obj := e1
noncomputable def o162_4 : Obj := ft (C 14 0) "__init__" "TooFar.__init__"
noncomputable def o163_4 : Obj := ⟨(.type "code"), none, (.fields #[(.str "__init__" 385), (.str "TooFar.__init__" 386), (.str "/claim/cut.py" 387), (.int (47) 0), (.int (5) 0), (.int (0) 0), (.int (0) 0), (.int (3) 0), (.ref 158), (.bool true), (.int (181) 0), (.ref 159), .none, (.ref 160), (.ref 161), (.ref 162), (.int (393) 0), (.int (47) 0), (.str "/claim/cut.py" 394)]), #[]⟩
noncomputable def o164_4 : Obj := fo (C 14 0) "__init__" "TooFar.__init__" "joinload.errors" 231 163
noncomputable def o165_4 : Obj := tu #[(.str "at" 396), (.str "name" 397), (.str "piece" 398), (.str "stretch" 399)]
noncomputable def o166_4 (P : Params) : Obj := di [k P "__module__" 380 (.str "joinload.errors" 231), k P "__firstlineno__" 384 (.int (45) 383), k P "__init__" 395 (.ref 164), k P "__static_attributes__" 400 (.ref 165), k P "__doc__" 401 .none] 2
noncomputable def o167_4 : Obj := ⟨(.type "type"), none, (.cls ⟨"TooFar", [(.ref 59)], [(.ref 167), (.ref 59), (.type "ValueError"), (.type "Exception"), (.type "BaseException"), (.type "object")], 166, "TooFar", true, [], [], false, none, false⟩), #[(some (.ref 151)), none, (some (.str "TooFar" 373)), (some (.str "TooFar" 381)), (some (.builtin "ValueError.__new__")), (some (.bool true))]⟩
noncomputable def o168_4 : Obj := su 167
noncomputable def o169_4 : Obj := bs 167
noncomputable def o170_4 : Obj := tu #[(.ref 59)]
noncomputable def o171_4 : Obj := bp
noncomputable def o172_4 (P : Params) : Obj := di [k P "__module__" 411 (.str "joinload.errors" 231), k P "__qualname__" 413 (.str "NoWhole" 412), k P "__firstlineno__" 415 (.int (53) 414), k P "__init__" 423 (.ref 183), k P "__static_attributes__" 425 (.ref 184)] 5
noncomputable def o173_4 : Obj := e1
noncomputable def o174_4 : Obj := nf #[(.int (55) 0), (.int (4) 0), (.ref 182)]
noncomputable def o175_4 : Obj := co "NoWhole" "NoWhole" 406 53 0 0 173 false 174 .none 409
noncomputable def o176_4 : Obj := fm 175 172 (.str "joinload.errors" 231)
noncomputable def o177_4 : Obj := e1
noncomputable def o178_4 : Obj := e2
noncomputable def o179_4 : Obj := tu #[(.str "self" 419), (.str "row" 420)]
noncomputable def o180_4 : Obj := e1
noncomputable def o181_4 : Obj := ft (C 15 0) "__init__" "NoWhole.__init__"
noncomputable def o182_4 : Obj := ⟨(.type "code"), none, (.fields #[(.str "__init__" 416), (.str "NoWhole.__init__" 417), (.str "/claim/cut.py" 418), (.int (55) 0), (.int (2) 0), (.int (0) 0), (.int (0) 0), (.int (3) 0), (.ref 177), (.bool true), (.int (181) 0), (.ref 178), .none, (.ref 179), (.ref 180), (.ref 181), (.int (421) 0), (.int (55) 0), (.str "/claim/cut.py" 422)]), #[]⟩
noncomputable def o183_4 : Obj := fo (C 15 0) "__init__" "NoWhole.__init__" "joinload.errors" 231 182
noncomputable def o184_4 : Obj := tu #[(.str "row" 424)]
noncomputable def o185_4 (P : Params) : Obj := di [k P "__module__" 411 (.str "joinload.errors" 231), k P "__firstlineno__" 415 (.int (53) 414), k P "__init__" 423 (.ref 183), k P "__static_attributes__" 425 (.ref 184), k P "__doc__" 426 .none] 2
noncomputable def o186_4 : Obj := ⟨(.type "type"), none, (.cls ⟨"NoWhole", [(.ref 59)], [(.ref 186), (.ref 59), (.type "ValueError"), (.type "Exception"), (.type "BaseException"), (.type "object")], 185, "NoWhole", true, [], [], false, none, false⟩), #[(some (.ref 170)), none, (some (.str "NoWhole" 404)), (some (.str "NoWhole" 412)), (some (.builtin "ValueError.__new__")), (some (.bool true))]⟩
noncomputable def o187_4 : Obj := su 186
noncomputable def o188_4 : Obj := bs 186
noncomputable def o189_4 : Obj := tu #[(.ref 59)]
noncomputable def o190_4 : Obj := bp
noncomputable def o191_4 (P : Params) : Obj := di [k P "__module__" 436 (.str "joinload.errors" 231), k P "__qualname__" 438 (.str "NoBase" 437), k P "__firstlineno__" 440 (.int (58) 439), k P "__init__" 448 (.ref 202), k P "__static_attributes__" 450 (.ref 203)] 5
noncomputable def o192_4 : Obj := e1
noncomputable def o193_4 : Obj := nf #[(.int (60) 0), (.int (4) 0), (.ref 201)]
noncomputable def o194_4 : Obj := co "NoBase" "NoBase" 431 58 0 0 192 false 193 .none 434
noncomputable def o195_4 : Obj := fm 194 191 (.str "joinload.errors" 231)
noncomputable def o196_4 : Obj := e1
noncomputable def o197_4 : Obj := e2
noncomputable def o198_4 : Obj := tu #[(.str "self" 444), (.str "base" 445)]
noncomputable def o199_4 : Obj := e1
noncomputable def o200_4 : Obj := ft (C 16 0) "__init__" "NoBase.__init__"
noncomputable def o201_4 : Obj := ⟨(.type "code"), none, (.fields #[(.str "__init__" 441), (.str "NoBase.__init__" 442), (.str "/claim/cut.py" 443), (.int (60) 0), (.int (2) 0), (.int (0) 0), (.int (0) 0), (.int (3) 0), (.ref 196), (.bool true), (.int (181) 0), (.ref 197), .none, (.ref 198), (.ref 199), (.ref 200), (.int (446) 0), (.int (60) 0), (.str "/claim/cut.py" 447)]), #[]⟩
noncomputable def o202_4 : Obj := fo (C 16 0) "__init__" "NoBase.__init__" "joinload.errors" 231 201
noncomputable def o203_4 : Obj := tu #[(.str "base" 449)]
noncomputable def o204_4 (P : Params) : Obj := di [k P "__module__" 436 (.str "joinload.errors" 231), k P "__firstlineno__" 440 (.int (58) 439), k P "__init__" 448 (.ref 202), k P "__static_attributes__" 450 (.ref 203), k P "__doc__" 451 .none] 2
noncomputable def o205_4 : Obj := ⟨(.type "type"), none, (.cls ⟨"NoBase", [(.ref 59)], [(.ref 205), (.ref 59), (.type "ValueError"), (.type "Exception"), (.type "BaseException"), (.type "object")], 204, "NoBase", true, [], [], false, none, false⟩), #[(some (.ref 189)), none, (some (.str "NoBase" 429)), (some (.str "NoBase" 437)), (some (.builtin "ValueError.__new__")), (some (.bool true))]⟩
noncomputable def o206_4 : Obj := su 205
noncomputable def o207_4 : Obj := bs 205
noncomputable def d3_0 (P : Params) (r : List (Nat × Obj)) : List (Nat × Obj) := (3, o3_4 P) :: (12, o12_4) :: (59, o59_4) :: (151, o151_4) :: (152, o152_4) :: (153, o153_4 P) :: (154, o154_4) :: (155, o155_4) :: (156, o156_4) :: (157, o157_4) :: (158, o158_4) :: (159, o159_4) :: (160, o160_4) :: (161, o161_4) :: (162, o162_4) :: (163, o163_4) :: (164, o164_4) :: (165, o165_4) :: (166, o166_4 P) :: (167, o167_4) :: (168, o168_4) :: (169, o169_4) :: (170, o170_4) :: (171, o171_4) :: r
noncomputable def d3_1 (P : Params) (r : List (Nat × Obj)) : List (Nat × Obj) := (172, o172_4 P) :: (173, o173_4) :: (174, o174_4) :: (175, o175_4) :: (176, o176_4) :: (177, o177_4) :: (178, o178_4) :: (179, o179_4) :: (180, o180_4) :: (181, o181_4) :: (182, o182_4) :: (183, o183_4) :: (184, o184_4) :: (185, o185_4 P) :: (186, o186_4) :: (187, o187_4) :: (188, o188_4) :: (189, o189_4) :: (190, o190_4) :: (191, o191_4 P) :: (192, o192_4) :: (193, o193_4) :: (194, o194_4) :: (195, o195_4) :: r
noncomputable def d3_2 (P : Params) (r : List (Nat × Obj)) : List (Nat × Obj) := (196, o196_4) :: (197, o197_4) :: (198, o198_4) :: (199, o199_4) :: (200, o200_4) :: (201, o201_4) :: (202, o202_4) :: (203, o203_4) :: (204, o204_4 P) :: (205, o205_4) :: (206, o206_4) :: (207, o207_4) :: r
noncomputable def T3 (P : Params) : BT := mg 14 (T2 P) (d3_0 P (d3_1 P (d3_2 P ([]))))
noncomputable def S3T (w : World) : OsState → SharedT := sT (T3 w.params) 208 454
noncomputable def L2 : List Stmt := My.top 14 :: My.top 15 :: My.top 16 :: []
noncomputable def P2 (w : World) : Prop := sR w 742 S2T S3T L2 ⟨39, 0, 44, 26⟩ ⟨58, 0, 62, 24⟩
noncomputable def g3_5 (P : Params) : List DictEntry := sv (g3_4 P) 0 (.str "joinload.rules" 495) ++ [k P "Lost" 478 (.ref 224), k P "NoSense" 494 (.ref 236), k P "rule_of" 503 (.ref 245), k P "Rule" 567 (.ref 290)]
noncomputable def o3_5 (P : Params) : Obj := ⟨(.type "dict"), none, .dict (g3_5 P).toArray 28, #[]⟩
noncomputable def o12_5 : Obj := nf #[(.int (1) 0), (.int (0) 0), (.ref 20), (.int (6) 0), (.int (0) 0), (.ref 27), (.int (8) 0), (.int (0) 0), (.ref 34), (.int (11) 0), (.int (0) 0), (.ref 41), (.int (13) 0), (.int (0) 0), (.ref 48), (.int (18) 0), (.int (0) 0), (.ref 55), (.int (20) 0), (.int (0) 0), (.ref 68), (.int (22) 0), (.int (0) 0), (.ref 80), (.int (27) 0), (.int (0) 0), (.ref 99), (.int (34) 0), (.int (0) 0), (.ref 118), (.int (39) 0), (.int (0) 0), (.ref 137), (.int (45) 0), (.int (0) 0), (.ref 156), (.int (53) 0), (.int (0) 0), (.ref 175), (.int (58) 0), (.int (0) 0), (.ref 194), (.int (63) 0), (.int (0) 0), (.ref 213), (.int (68) 0), (.int (0) 0), (.ref 232), (.int (71) 0), (.int (0) 0), (.ref 244), (.int (83) 0), (.int (0) 0), (.ref 251)]
noncomputable def o59_5 : Obj := ⟨(.type "type"), none, (.cls ⟨"JoinError", [(.type "ValueError")], [(.ref 59), (.type "ValueError"), (.type "Exception"), (.type "BaseException"), (.type "object")], 58, "JoinError", true, [], [(.ref 72), (.ref 91), (.ref 110), (.ref 129), (.ref 148), (.ref 167), (.ref 186), (.ref 205), (.ref 224), (.ref 236)], false, none, false⟩), #[(some (.ref 50)), none, (some (.str "JoinError" 233)), (some (.str "JoinError" 241)), (some (.builtin "ValueError.__new__")), (some (.bool true))]⟩
noncomputable def o208_5 : Obj := tu #[(.ref 59)]
noncomputable def o209_5 : Obj := bp
noncomputable def o210_5 (P : Params) : Obj := di [k P "__module__" 461 (.str "joinload.errors" 231), k P "__qualname__" 463 (.str "Lost" 462), k P "__firstlineno__" 465 (.int (63) 464), k P "__init__" 473 (.ref 221), k P "__static_attributes__" 475 (.ref 222)] 5
noncomputable def o211_5 : Obj := e1
noncomputable def o212_5 : Obj := nf #[(.int (65) 0), (.int (4) 0), (.ref 220)]
noncomputable def o213_5 : Obj := co "Lost" "Lost" 456 63 0 0 211 false 212 .none 459
noncomputable def o214_5 : Obj := fm 213 210 (.str "joinload.errors" 231)
noncomputable def o215_5 : Obj := e1
noncomputable def o216_5 : Obj := e2
noncomputable def o217_5 : Obj := tu #[(.str "self" 469), (.str "place" 470)]
noncomputable def o218_5 : Obj := e1
noncomputable def o219_5 : Obj := ft (C 17 0) "__init__" "Lost.__init__"
noncomputable def o220_5 : Obj := ⟨(.type "code"), none, (.fields #[(.str "__init__" 466), (.str "Lost.__init__" 467), (.str "/claim/cut.py" 468), (.int (65) 0), (.int (2) 0), (.int (0) 0), (.int (0) 0), (.int (3) 0), (.ref 215), (.bool true), (.int (181) 0), (.ref 216), .none, (.ref 217), (.ref 218), (.ref 219), (.int (471) 0), (.int (65) 0), (.str "/claim/cut.py" 472)]), #[]⟩
noncomputable def o221_5 : Obj := fo (C 17 0) "__init__" "Lost.__init__" "joinload.errors" 231 220
noncomputable def o222_5 : Obj := tu #[(.str "place" 474)]
noncomputable def o223_5 (P : Params) : Obj := di [k P "__module__" 461 (.str "joinload.errors" 231), k P "__firstlineno__" 465 (.int (63) 464), k P "__init__" 473 (.ref 221), k P "__static_attributes__" 475 (.ref 222), k P "__doc__" 476 .none] 2
noncomputable def o224_5 : Obj := ⟨(.type "type"), none, (.cls ⟨"Lost", [(.ref 59)], [(.ref 224), (.ref 59), (.type "ValueError"), (.type "Exception"), (.type "BaseException"), (.type "object")], 223, "Lost", true, [], [], false, none, false⟩), #[(some (.ref 208)), none, (some (.str "Lost" 454)), (some (.str "Lost" 462)), (some (.builtin "ValueError.__new__")), (some (.bool true))]⟩
noncomputable def o225_5 : Obj := su 224
noncomputable def o226_5 : Obj := bs 224
noncomputable def o227_5 : Obj := tu #[(.ref 59)]
noncomputable def o228_5 : Obj := bp
noncomputable def o229_5 (P : Params) : Obj := di [k P "__module__" 486 (.str "joinload.errors" 231), k P "__qualname__" 488 (.str "NoSense" 487), k P "__firstlineno__" 490 (.int (68) 489), k P "__static_attributes__" 491 (.ref 234)] 4
noncomputable def o230_5 : Obj := e1
noncomputable def o231_5 : Obj := e2
noncomputable def o232_5 : Obj := co "NoSense" "NoSense" 481 68 0 0 230 false 231 .none 484
noncomputable def o233_5 : Obj := fm 232 229 (.str "joinload.errors" 231)
noncomputable def o234_5 : Obj := e1
noncomputable def o235_5 (P : Params) : Obj := di [k P "__module__" 486 (.str "joinload.errors" 231), k P "__firstlineno__" 490 (.int (68) 489), k P "__static_attributes__" 491 (.ref 234), k P "__doc__" 492 .none] 2
noncomputable def o236_5 : Obj := ⟨(.type "type"), none, (.cls ⟨"NoSense", [(.ref 59)], [(.ref 236), (.ref 59), (.type "ValueError"), (.type "Exception"), (.type "BaseException"), (.type "object")], 235, "NoSense", true, [], [], false, none, false⟩), #[(some (.ref 227)), none, (some (.str "NoSense" 479)), (some (.str "NoSense" 487)), (some (.builtin "ValueError.__new__")), (some (.bool true))]⟩
noncomputable def o237_5 : Obj := su 236
noncomputable def o238_5 : Obj := bs 236
noncomputable def o239_5 : Obj := e1
noncomputable def o240_5 : Obj := e2
noncomputable def o241_5 : Obj := tu #[(.str "title" 500)]
noncomputable def o242_5 : Obj := e1
noncomputable def o243_5 : Obj := ft (T 20) "rule_of" "rule_of"
noncomputable def o244_5 : Obj := ⟨(.type "code"), none, (.fields #[(.str "rule_of" 497), (.str "rule_of" 498), (.str "/claim/cut.py" 499), (.int (71) 0), (.int (1) 0), (.int (0) 0), (.int (0) 0), (.int (3) 0), (.ref 239), (.bool true), (.int (181) 0), (.ref 240), .none, (.ref 241), (.ref 242), (.ref 243), (.int (501) 0), (.int (71) 0), (.str "/claim/cut.py" 502)]), #[]⟩
noncomputable def o245_5 : Obj := fo (T 20) "rule_of" "rule_of" "joinload.rules" 495 244
noncomputable def o246_5 : Obj := e1
noncomputable def o247_5 : Obj := bp
noncomputable def g248_5 (P : Params) : List DictEntry := [k P "__module__" 511 (.str "joinload.rules" 495), k P "__qualname__" 513 (.str "Rule" 512), k P "__firstlineno__" 515 (.int (83) 514), k P "__init__" 523 (.ref 259), k P "fits" 532 (.ref 266), k P "filled" 542 (.ref 273), k P "read_back" 551 (.ref 280), k P "leans" 558 (.ref 287), k P "__static_attributes__" 560 (.ref 288)]
noncomputable def o248_5 (P : Params) : Obj := ⟨(.type "dict"), none, .dict (g248_5 P).toArray 9, #[]⟩
noncomputable def o249_5 : Obj := e1
noncomputable def o250_5 : Obj := nf #[(.int (85) 0), (.int (4) 0), (.ref 258), (.int (88) 0), (.int (4) 0), (.ref 265), (.int (91) 0), (.int (4) 0), (.ref 272), (.int (94) 0), (.int (4) 0), (.ref 279), (.int (97) 0), (.int (4) 0), (.ref 286)]
noncomputable def o251_5 : Obj := co "Rule" "Rule" 506 83 0 0 249 false 250 .none 509
noncomputable def o252_5 : Obj := fm 251 248 (.str "joinload.rules" 495)
noncomputable def o253_5 : Obj := e1
noncomputable def o254_5 : Obj := e2
noncomputable def o255_5 : Obj := tu #[(.str "self" 519), (.str "title" 520)]
noncomputable def o256_5 : Obj := e1
noncomputable def o257_5 : Obj := ft (C 21 0) "__init__" "Rule.__init__"
noncomputable def o258_5 : Obj := ⟨(.type "code"), none, (.fields #[(.str "__init__" 516), (.str "Rule.__init__" 517), (.str "/claim/cut.py" 518), (.int (85) 0), (.int (2) 0), (.int (0) 0), (.int (0) 0), (.int (3) 0), (.ref 253), (.bool true), (.int (181) 0), (.ref 254), .none, (.ref 255), (.ref 256), (.ref 257), (.int (521) 0), (.int (85) 0), (.str "/claim/cut.py" 522)]), #[]⟩
noncomputable def o259_5 : Obj := fo (C 21 0) "__init__" "Rule.__init__" "joinload.rules" 495 258
noncomputable def o260_5 : Obj := e1
noncomputable def o261_5 : Obj := e2
noncomputable def o262_5 : Obj := tu #[(.str "self" 527), (.str "here" 528), (.str "there" 529)]
noncomputable def o263_5 : Obj := e1
noncomputable def o264_5 : Obj := ft (C 21 1) "fits" "Rule.fits"
noncomputable def o265_5 : Obj := ⟨(.type "code"), none, (.fields #[(.str "fits" 524), (.str "Rule.fits" 525), (.str "/claim/cut.py" 526), (.int (88) 0), (.int (3) 0), (.int (0) 0), (.int (0) 0), (.int (3) 0), (.ref 260), (.bool true), (.int (181) 0), (.ref 261), .none, (.ref 262), (.ref 263), (.ref 264), (.int (530) 0), (.int (88) 0), (.str "/claim/cut.py" 531)]), #[]⟩
noncomputable def o266_5 : Obj := fo (C 21 1) "fits" "Rule.fits" "joinload.rules" 495 265
noncomputable def o267_5 : Obj := e1
noncomputable def o268_5 : Obj := e2
noncomputable def o269_5 : Obj := tu #[(.str "self" 536), (.str "word" 537), (.str "here" 538), (.str "there" 539)]
noncomputable def o270_5 : Obj := e1
noncomputable def o271_5 : Obj := ft (C 21 2) "filled" "Rule.filled"
noncomputable def o272_5 : Obj := ⟨(.type "code"), none, (.fields #[(.str "filled" 533), (.str "Rule.filled" 534), (.str "/claim/cut.py" 535), (.int (91) 0), (.int (4) 0), (.int (0) 0), (.int (0) 0), (.int (3) 0), (.ref 267), (.bool true), (.int (181) 0), (.ref 268), .none, (.ref 269), (.ref 270), (.ref 271), (.int (540) 0), (.int (91) 0), (.str "/claim/cut.py" 541)]), #[]⟩
noncomputable def o273_5 : Obj := fo (C 21 2) "filled" "Rule.filled" "joinload.rules" 495 272
noncomputable def o274_5 : Obj := e1
noncomputable def o275_5 : Obj := e2
noncomputable def o276_5 : Obj := tu #[(.str "self" 546), (.str "word" 547), (.str "here" 548)]
noncomputable def o277_5 : Obj := e1
noncomputable def o278_5 : Obj := ft (C 21 3) "read_back" "Rule.read_back"
noncomputable def o279_5 : Obj := ⟨(.type "code"), none, (.fields #[(.str "read_back" 543), (.str "Rule.read_back" 544), (.str "/claim/cut.py" 545), (.int (94) 0), (.int (3) 0), (.int (0) 0), (.int (0) 0), (.int (3) 0), (.ref 274), (.bool true), (.int (181) 0), (.ref 275), .none, (.ref 276), (.ref 277), (.ref 278), (.int (549) 0), (.int (94) 0), (.str "/claim/cut.py" 550)]), #[]⟩
noncomputable def o280_5 : Obj := fo (C 21 3) "read_back" "Rule.read_back" "joinload.rules" 495 279
noncomputable def o281_5 : Obj := e1
noncomputable def o282_5 : Obj := e2
noncomputable def o283_5 : Obj := tu #[(.str "self" 555)]
noncomputable def o284_5 : Obj := e1
noncomputable def o285_5 : Obj := ft (C 21 4) "leans" "Rule.leans"
noncomputable def o286_5 : Obj := ⟨(.type "code"), none, (.fields #[(.str "leans" 552), (.str "Rule.leans" 553), (.str "/claim/cut.py" 554), (.int (97) 0), (.int (1) 0), (.int (0) 0), (.int (0) 0), (.int (3) 0), (.ref 281), (.bool true), (.int (181) 0), (.ref 282), .none, (.ref 283), (.ref 284), (.ref 285), (.int (556) 0), (.int (97) 0), (.str "/claim/cut.py" 557)]), #[]⟩
noncomputable def o287_5 : Obj := fo (C 21 4) "leans" "Rule.leans" "joinload.rules" 495 286
noncomputable def o288_5 : Obj := tu #[(.str "title" 559)]
noncomputable def g289_5 (P : Params) : List DictEntry := [k P "__module__" 511 (.str "joinload.rules" 495), k P "__firstlineno__" 515 (.int (83) 514), k P "__init__" 523 (.ref 259), k P "fits" 532 (.ref 266), k P "filled" 542 (.ref 273), k P "read_back" 551 (.ref 280), k P "leans" 558 (.ref 287), k P "__static_attributes__" 560 (.ref 288), k P "__dict__" 562 (.ref 291), k P "__weakref__" 564 (.ref 292), k P "__doc__" 565 .none]
noncomputable def o289_5 (P : Params) : Obj := ⟨(.type "dict"), none, .dict (g289_5 P).toArray 4, #[]⟩
noncomputable def o290_5 : Obj := ⟨(.type "type"), none, (.cls ⟨"Rule", [(.type "object")], [(.ref 290), (.type "object")], 289, "Rule", true, [], [], false, none, false⟩), #[none, none, (some (.str "Rule" 504)), (some (.str "Rule" 512)), (some (.builtin "object.__new__")), (some (.bool true))]⟩
noncomputable def o291_5 : Obj := ⟨(.type "getset_descriptor"), none, (.fields #[(.str "__dict__" 561), (.ref 290), (.builtin "function.__dict__"), (.builtin "function.__dict__#set")]), #[]⟩
noncomputable def o292_5 : Obj := ⟨(.type "getset_descriptor"), none, (.fields #[(.str "__weakref__" 563), (.ref 290), (.builtin "ExceptionGroup.__weakref__"), .none]), #[]⟩
noncomputable def o293_5 : Obj := su 290
noncomputable def o294_5 : Obj := bs 290
noncomputable def d4_0 (P : Params) (r : List (Nat × Obj)) : List (Nat × Obj) := (3, o3_5 P) :: (12, o12_5) :: (59, o59_5) :: (208, o208_5) :: (209, o209_5) :: (210, o210_5 P) :: (211, o211_5) :: (212, o212_5) :: (213, o213_5) :: (214, o214_5) :: (215, o215_5) :: (216, o216_5) :: (217, o217_5) :: (218, o218_5) :: (219, o219_5) :: (220, o220_5) :: (221, o221_5) :: (222, o222_5) :: (223, o223_5 P) :: (224, o224_5) :: (225, o225_5) :: (226, o226_5) :: (227, o227_5) :: (228, o228_5) :: r
noncomputable def d4_1 (P : Params) (r : List (Nat × Obj)) : List (Nat × Obj) := (229, o229_5 P) :: (230, o230_5) :: (231, o231_5) :: (232, o232_5) :: (233, o233_5) :: (234, o234_5) :: (235, o235_5 P) :: (236, o236_5) :: (237, o237_5) :: (238, o238_5) :: (239, o239_5) :: (240, o240_5) :: (241, o241_5) :: (242, o242_5) :: (243, o243_5) :: (244, o244_5) :: (245, o245_5) :: (246, o246_5) :: (247, o247_5) :: (248, o248_5 P) :: (249, o249_5) :: (250, o250_5) :: (251, o251_5) :: (252, o252_5) :: r
noncomputable def d4_2 (P : Params) (r : List (Nat × Obj)) : List (Nat × Obj) := (253, o253_5) :: (254, o254_5) :: (255, o255_5) :: (256, o256_5) :: (257, o257_5) :: (258, o258_5) :: (259, o259_5) :: (260, o260_5) :: (261, o261_5) :: (262, o262_5) :: (263, o263_5) :: (264, o264_5) :: (265, o265_5) :: (266, o266_5) :: (267, o267_5) :: (268, o268_5) :: (269, o269_5) :: (270, o270_5) :: (271, o271_5) :: (272, o272_5) :: (273, o273_5) :: (274, o274_5) :: (275, o275_5) :: (276, o276_5) :: r
noncomputable def d4_3 (P : Params) (r : List (Nat × Obj)) : List (Nat × Obj) := (277, o277_5) :: (278, o278_5) :: (279, o279_5) :: (280, o280_5) :: (281, o281_5) :: (282, o282_5) :: (283, o283_5) :: (284, o284_5) :: (285, o285_5) :: (286, o286_5) :: (287, o287_5) :: (288, o288_5) :: (289, o289_5 P) :: (290, o290_5) :: (291, o291_5) :: (292, o292_5) :: (293, o293_5) :: (294, o294_5) :: r
noncomputable def T4 (P : Params) : BT := mg 14 (T3 P) (d4_0 P (d4_1 P (d4_2 P (d4_3 P ([])))))
noncomputable def S4T (w : World) : OsState → SharedT := sT (T4 w.params) 295 568
noncomputable def L3 : List Stmt := My.top 17 :: My.top 18 :: My.top 19 :: My.top 20 :: My.top 21 :: []
noncomputable def P3 (w : World) : Prop := sR w 850 S3T S4T L3 ⟨58, 0, 62, 24⟩ ⟨83, 0, 98, 19⟩
noncomputable def g3_6 (P : Params) : List DictEntry := g3_5 P ++ [k P "Whole" 602 (.ref 318), k P "High" 637 (.ref 344), k P "Low" 672 (.ref 370)]
noncomputable def o3_6 (P : Params) : Obj := ⟨(.type "dict"), none, .dict (g3_6 P).toArray 31, #[]⟩
noncomputable def o12_6 : Obj := nf #[(.int (1) 0), (.int (0) 0), (.ref 20), (.int (6) 0), (.int (0) 0), (.ref 27), (.int (8) 0), (.int (0) 0), (.ref 34), (.int (11) 0), (.int (0) 0), (.ref 41), (.int (13) 0), (.int (0) 0), (.ref 48), (.int (18) 0), (.int (0) 0), (.ref 55), (.int (20) 0), (.int (0) 0), (.ref 68), (.int (22) 0), (.int (0) 0), (.ref 80), (.int (27) 0), (.int (0) 0), (.ref 99), (.int (34) 0), (.int (0) 0), (.ref 118), (.int (39) 0), (.int (0) 0), (.ref 137), (.int (45) 0), (.int (0) 0), (.ref 156), (.int (53) 0), (.int (0) 0), (.ref 175), (.int (58) 0), (.int (0) 0), (.ref 194), (.int (63) 0), (.int (0) 0), (.ref 213), (.int (68) 0), (.int (0) 0), (.ref 232), (.int (71) 0), (.int (0) 0), (.ref 244), (.int (83) 0), (.int (0) 0), (.ref 251), (.int (99) 0), (.int (0) 0), (.ref 300), (.int (106) 0), (.int (0) 0), (.ref 326), (.int (113) 0), (.int (0) 0), (.ref 352)]
noncomputable def o290_6 : Obj := ⟨(.type "type"), none, (.cls ⟨"Rule", [(.type "object")], [(.ref 290), (.type "object")], 289, "Rule", true, [], [(.ref 318), (.ref 344), (.ref 370)], false, none, false⟩), #[none, none, (some (.str "Rule" 504)), (some (.str "Rule" 512)), (some (.builtin "object.__new__")), (some (.bool true))]⟩
noncomputable def o295_6 : Obj := tu #[(.ref 290)]
noncomputable def o296_6 : Obj := bp
noncomputable def o297_6 (P : Params) : Obj := di [k P "__module__" 575 (.str "joinload.rules" 495), k P "__qualname__" 577 (.str "Whole" 576), k P "__firstlineno__" 579 (.int (99) 578), k P "filled" 589 (.ref 308), k P "read_back" 598 (.ref 315), k P "__static_attributes__" 599 (.ref 316)] 6
noncomputable def o298_6 : Obj := e1
noncomputable def o299_6 : Obj := nf #[(.int (101) 0), (.int (4) 0), (.ref 307), (.int (104) 0), (.int (4) 0), (.ref 314)]
noncomputable def o300_6 : Obj := co "Whole" "Whole" 570 99 0 0 298 false 299 .none 573
noncomputable def o301_6 : Obj := fm 300 297 (.str "joinload.rules" 495)
noncomputable def o302_6 : Obj := e1
noncomputable def o303_6 : Obj := e2
noncomputable def o304_6 : Obj := tu #[(.str "self" 583), (.str "word" 584), (.str "here" 585), (.str "there" 586)]
noncomputable def o305_6 : Obj := e1
noncomputable def o306_6 : Obj := ft (C 22 0) "filled" "Whole.filled"
noncomputable def o307_6 : Obj := ⟨(.type "code"), none, (.fields #[(.str "filled" 580), (.str "Whole.filled" 581), (.str "/claim/cut.py" 582), (.int (101) 0), (.int (4) 0), (.int (0) 0), (.int (0) 0), (.int (3) 0), (.ref 302), (.bool true), (.int (181) 0), (.ref 303), .none, (.ref 304), (.ref 305), (.ref 306), (.int (587) 0), (.int (101) 0), (.str "/claim/cut.py" 588)]), #[]⟩
noncomputable def o308_6 : Obj := fo (C 22 0) "filled" "Whole.filled" "joinload.rules" 495 307
noncomputable def o309_6 : Obj := e1
noncomputable def o310_6 : Obj := e2
noncomputable def o311_6 : Obj := tu #[(.str "self" 593), (.str "word" 594), (.str "here" 595)]
noncomputable def o312_6 : Obj := e1
noncomputable def o313_6 : Obj := ft (C 22 1) "read_back" "Whole.read_back"
noncomputable def o314_6 : Obj := ⟨(.type "code"), none, (.fields #[(.str "read_back" 590), (.str "Whole.read_back" 591), (.str "/claim/cut.py" 592), (.int (104) 0), (.int (3) 0), (.int (0) 0), (.int (0) 0), (.int (3) 0), (.ref 309), (.bool true), (.int (181) 0), (.ref 310), .none, (.ref 311), (.ref 312), (.ref 313), (.int (596) 0), (.int (104) 0), (.str "/claim/cut.py" 597)]), #[]⟩
noncomputable def o315_6 : Obj := fo (C 22 1) "read_back" "Whole.read_back" "joinload.rules" 495 314
noncomputable def o316_6 : Obj := e1
noncomputable def o317_6 (P : Params) : Obj := di [k P "__module__" 575 (.str "joinload.rules" 495), k P "__firstlineno__" 579 (.int (99) 578), k P "filled" 589 (.ref 308), k P "read_back" 598 (.ref 315), k P "__static_attributes__" 599 (.ref 316), k P "__doc__" 600 .none] 2
noncomputable def o318_6 : Obj := ⟨(.type "type"), none, (.cls ⟨"Whole", [(.ref 290)], [(.ref 318), (.ref 290), (.type "object")], 317, "Whole", true, [], [], false, none, false⟩), #[(some (.ref 295)), none, (some (.str "Whole" 568)), (some (.str "Whole" 576)), (some (.builtin "object.__new__")), (some (.bool true))]⟩
noncomputable def o319_6 : Obj := su 318
noncomputable def o320_6 : Obj := bs 318
noncomputable def o321_6 : Obj := tu #[(.ref 290)]
noncomputable def o322_6 : Obj := bp
noncomputable def o323_6 (P : Params) : Obj := di [k P "__module__" 610 (.str "joinload.rules" 495), k P "__qualname__" 612 (.str "High" 611), k P "__firstlineno__" 614 (.int (106) 613), k P "filled" 624 (.ref 334), k P "read_back" 633 (.ref 341), k P "__static_attributes__" 634 (.ref 342)] 6
noncomputable def o324_6 : Obj := e1
noncomputable def o325_6 : Obj := nf #[(.int (108) 0), (.int (4) 0), (.ref 333), (.int (111) 0), (.int (4) 0), (.ref 340)]
noncomputable def o326_6 : Obj := co "High" "High" 605 106 0 0 324 false 325 .none 608
noncomputable def o327_6 : Obj := fm 326 323 (.str "joinload.rules" 495)
noncomputable def o328_6 : Obj := e1
noncomputable def o329_6 : Obj := e2
noncomputable def o330_6 : Obj := tu #[(.str "self" 618), (.str "word" 619), (.str "here" 620), (.str "there" 621)]
noncomputable def o331_6 : Obj := e1
noncomputable def o332_6 : Obj := ft (C 23 0) "filled" "High.filled"
noncomputable def o333_6 : Obj := ⟨(.type "code"), none, (.fields #[(.str "filled" 615), (.str "High.filled" 616), (.str "/claim/cut.py" 617), (.int (108) 0), (.int (4) 0), (.int (0) 0), (.int (0) 0), (.int (3) 0), (.ref 328), (.bool true), (.int (181) 0), (.ref 329), .none, (.ref 330), (.ref 331), (.ref 332), (.int (622) 0), (.int (108) 0), (.str "/claim/cut.py" 623)]), #[]⟩
noncomputable def o334_6 : Obj := fo (C 23 0) "filled" "High.filled" "joinload.rules" 495 333
noncomputable def o335_6 : Obj := e1
noncomputable def o336_6 : Obj := e2
noncomputable def o337_6 : Obj := tu #[(.str "self" 628), (.str "word" 629), (.str "here" 630)]
noncomputable def o338_6 : Obj := e1
noncomputable def o339_6 : Obj := ft (C 23 1) "read_back" "High.read_back"
noncomputable def o340_6 : Obj := ⟨(.type "code"), none, (.fields #[(.str "read_back" 625), (.str "High.read_back" 626), (.str "/claim/cut.py" 627), (.int (111) 0), (.int (3) 0), (.int (0) 0), (.int (0) 0), (.int (3) 0), (.ref 335), (.bool true), (.int (181) 0), (.ref 336), .none, (.ref 337), (.ref 338), (.ref 339), (.int (631) 0), (.int (111) 0), (.str "/claim/cut.py" 632)]), #[]⟩
noncomputable def o341_6 : Obj := fo (C 23 1) "read_back" "High.read_back" "joinload.rules" 495 340
noncomputable def o342_6 : Obj := e1
noncomputable def o343_6 (P : Params) : Obj := di [k P "__module__" 610 (.str "joinload.rules" 495), k P "__firstlineno__" 614 (.int (106) 613), k P "filled" 624 (.ref 334), k P "read_back" 633 (.ref 341), k P "__static_attributes__" 634 (.ref 342), k P "__doc__" 635 .none] 2
noncomputable def o344_6 : Obj := ⟨(.type "type"), none, (.cls ⟨"High", [(.ref 290)], [(.ref 344), (.ref 290), (.type "object")], 343, "High", true, [], [], false, none, false⟩), #[(some (.ref 321)), none, (some (.str "High" 603)), (some (.str "High" 611)), (some (.builtin "object.__new__")), (some (.bool true))]⟩
noncomputable def o345_6 : Obj := su 344
noncomputable def o346_6 : Obj := bs 344
noncomputable def o347_6 : Obj := tu #[(.ref 290)]
noncomputable def o348_6 : Obj := bp
noncomputable def o349_6 (P : Params) : Obj := di [k P "__module__" 645 (.str "joinload.rules" 495), k P "__qualname__" 647 (.str "Low" 646), k P "__firstlineno__" 649 (.int (113) 648), k P "filled" 659 (.ref 360), k P "read_back" 668 (.ref 367), k P "__static_attributes__" 669 (.ref 368)] 6
noncomputable def o350_6 : Obj := e1
noncomputable def o351_6 : Obj := nf #[(.int (115) 0), (.int (4) 0), (.ref 359), (.int (118) 0), (.int (4) 0), (.ref 366)]
noncomputable def o352_6 : Obj := co "Low" "Low" 640 113 0 0 350 false 351 .none 643
noncomputable def o353_6 : Obj := fm 352 349 (.str "joinload.rules" 495)
noncomputable def o354_6 : Obj := e1
noncomputable def o355_6 : Obj := e2
noncomputable def o356_6 : Obj := tu #[(.str "self" 653), (.str "word" 654), (.str "here" 655), (.str "there" 656)]
noncomputable def o357_6 : Obj := e1
noncomputable def o358_6 : Obj := ft (C 24 0) "filled" "Low.filled"
noncomputable def o359_6 : Obj := ⟨(.type "code"), none, (.fields #[(.str "filled" 650), (.str "Low.filled" 651), (.str "/claim/cut.py" 652), (.int (115) 0), (.int (4) 0), (.int (0) 0), (.int (0) 0), (.int (3) 0), (.ref 354), (.bool true), (.int (181) 0), (.ref 355), .none, (.ref 356), (.ref 357), (.ref 358), (.int (657) 0), (.int (115) 0), (.str "/claim/cut.py" 658)]), #[]⟩
noncomputable def o360_6 : Obj := fo (C 24 0) "filled" "Low.filled" "joinload.rules" 495 359
noncomputable def o361_6 : Obj := e1
noncomputable def o362_6 : Obj := e2
noncomputable def o363_6 : Obj := tu #[(.str "self" 663), (.str "word" 664), (.str "here" 665)]
noncomputable def o364_6 : Obj := e1
noncomputable def o365_6 : Obj := ft (C 24 1) "read_back" "Low.read_back"
noncomputable def o366_6 : Obj := ⟨(.type "code"), none, (.fields #[(.str "read_back" 660), (.str "Low.read_back" 661), (.str "/claim/cut.py" 662), (.int (118) 0), (.int (3) 0), (.int (0) 0), (.int (0) 0), (.int (3) 0), (.ref 361), (.bool true), (.int (181) 0), (.ref 362), .none, (.ref 363), (.ref 364), (.ref 365), (.int (666) 0), (.int (118) 0), (.str "/claim/cut.py" 667)]), #[]⟩
noncomputable def o367_6 : Obj := fo (C 24 1) "read_back" "Low.read_back" "joinload.rules" 495 366
noncomputable def o368_6 : Obj := e1
noncomputable def o369_6 (P : Params) : Obj := di [k P "__module__" 645 (.str "joinload.rules" 495), k P "__firstlineno__" 649 (.int (113) 648), k P "filled" 659 (.ref 360), k P "read_back" 668 (.ref 367), k P "__static_attributes__" 669 (.ref 368), k P "__doc__" 670 .none] 2
noncomputable def o370_6 : Obj := ⟨(.type "type"), none, (.cls ⟨"Low", [(.ref 290)], [(.ref 370), (.ref 290), (.type "object")], 369, "Low", true, [], [], false, none, false⟩), #[(some (.ref 347)), none, (some (.str "Low" 638)), (some (.str "Low" 646)), (some (.builtin "object.__new__")), (some (.bool true))]⟩
noncomputable def o371_6 : Obj := su 370
noncomputable def o372_6 : Obj := bs 370
noncomputable def d5_0 (P : Params) (r : List (Nat × Obj)) : List (Nat × Obj) := (3, o3_6 P) :: (12, o12_6) :: (290, o290_6) :: (295, o295_6) :: (296, o296_6) :: (297, o297_6 P) :: (298, o298_6) :: (299, o299_6) :: (300, o300_6) :: (301, o301_6) :: (302, o302_6) :: (303, o303_6) :: (304, o304_6) :: (305, o305_6) :: (306, o306_6) :: (307, o307_6) :: (308, o308_6) :: (309, o309_6) :: (310, o310_6) :: (311, o311_6) :: (312, o312_6) :: (313, o313_6) :: (314, o314_6) :: (315, o315_6) :: r
noncomputable def d5_1 (P : Params) (r : List (Nat × Obj)) : List (Nat × Obj) := (316, o316_6) :: (317, o317_6 P) :: (318, o318_6) :: (319, o319_6) :: (320, o320_6) :: (321, o321_6) :: (322, o322_6) :: (323, o323_6 P) :: (324, o324_6) :: (325, o325_6) :: (326, o326_6) :: (327, o327_6) :: (328, o328_6) :: (329, o329_6) :: (330, o330_6) :: (331, o331_6) :: (332, o332_6) :: (333, o333_6) :: (334, o334_6) :: (335, o335_6) :: (336, o336_6) :: (337, o337_6) :: (338, o338_6) :: (339, o339_6) :: r
noncomputable def d5_2 (P : Params) (r : List (Nat × Obj)) : List (Nat × Obj) := (340, o340_6) :: (341, o341_6) :: (342, o342_6) :: (343, o343_6 P) :: (344, o344_6) :: (345, o345_6) :: (346, o346_6) :: (347, o347_6) :: (348, o348_6) :: (349, o349_6 P) :: (350, o350_6) :: (351, o351_6) :: (352, o352_6) :: (353, o353_6) :: (354, o354_6) :: (355, o355_6) :: (356, o356_6) :: (357, o357_6) :: (358, o358_6) :: (359, o359_6) :: (360, o360_6) :: (361, o361_6) :: (362, o362_6) :: (363, o363_6) :: r
noncomputable def d5_3 (P : Params) (r : List (Nat × Obj)) : List (Nat × Obj) := (364, o364_6) :: (365, o365_6) :: (366, o366_6) :: (367, o367_6) :: (368, o368_6) :: (369, o369_6 P) :: (370, o370_6) :: (371, o371_6) :: (372, o372_6) :: r
noncomputable def T5 (P : Params) : BT := mg 14 (T4 P) (d5_0 P (d5_1 P (d5_2 P (d5_3 P ([])))))
noncomputable def S5T (w : World) : OsState → SharedT := sT (T5 w.params) 373 673
noncomputable def L4 : List Stmt := My.top 22 :: My.top 23 :: My.top 24 :: []
noncomputable def P4 (w : World) : Prop := sR w 838 S4T S5T L4 ⟨83, 0, 98, 19⟩ ⟨113, 0, 119, 16⟩
noncomputable def g3_7 (P : Params) : List DictEntry := sv (g3_6 P) 0 (.str "law_joinload_k09_rules_by_titles" 784) ++ [k P "Near" 723 (.ref 410), k P "Split" 775 (.ref 450), k P "way" 783 (.ref 459), k P "_law_sign_by" 793 (.ref 466), k P "_law_title" 800 (.ref 473), k P "_law_text_by" 806 (.ref 478), k P "_law_told_of" 815 (.ref 485), k P "_law_refused" 822 (.ref 492)]
noncomputable def o3_7 (P : Params) : Obj := ⟨(.type "dict"), none, .dict (g3_7 P).toArray 39, #[]⟩
noncomputable def o12_7 : Obj := nf #[(.int (1) 0), (.int (0) 0), (.ref 20), (.int (6) 0), (.int (0) 0), (.ref 27), (.int (8) 0), (.int (0) 0), (.ref 34), (.int (11) 0), (.int (0) 0), (.ref 41), (.int (13) 0), (.int (0) 0), (.ref 48), (.int (18) 0), (.int (0) 0), (.ref 55), (.int (20) 0), (.int (0) 0), (.ref 68), (.int (22) 0), (.int (0) 0), (.ref 80), (.int (27) 0), (.int (0) 0), (.ref 99), (.int (34) 0), (.int (0) 0), (.ref 118), (.int (39) 0), (.int (0) 0), (.ref 137), (.int (45) 0), (.int (0) 0), (.ref 156), (.int (53) 0), (.int (0) 0), (.ref 175), (.int (58) 0), (.int (0) 0), (.ref 194), (.int (63) 0), (.int (0) 0), (.ref 213), (.int (68) 0), (.int (0) 0), (.ref 232), (.int (71) 0), (.int (0) 0), (.ref 244), (.int (83) 0), (.int (0) 0), (.ref 251), (.int (99) 0), (.int (0) 0), (.ref 300), (.int (106) 0), (.int (0) 0), (.ref 326), (.int (113) 0), (.int (0) 0), (.ref 352), (.int (120) 0), (.int (0) 0), (.ref 378), (.int (133) 0), (.int (0) 0), (.ref 418), (.int (147) 0), (.int (0) 0), (.ref 458), (.int (150) 0), (.int (0) 0), (.ref 465), (.int (154) 0), (.int (0) 0), (.ref 472), (.int (156) 0), (.int (0) 0), (.ref 477), (.int (172) 0), (.int (0) 0), (.ref 484), (.int (179) 0), (.int (0) 0), (.ref 491)]
noncomputable def o290_7 : Obj := ⟨(.type "type"), none, (.cls ⟨"Rule", [(.type "object")], [(.ref 290), (.type "object")], 289, "Rule", true, [], [(.ref 318), (.ref 344), (.ref 370), (.ref 410), (.ref 450)], false, none, false⟩), #[none, none, (some (.str "Rule" 504)), (some (.str "Rule" 512)), (some (.builtin "object.__new__")), (some (.bool true))]⟩
noncomputable def o373_7 : Obj := tu #[(.ref 290)]
noncomputable def o374_7 : Obj := bp
noncomputable def o375_7 (P : Params) : Obj := di [k P "__module__" 680 (.str "joinload.rules" 495), k P "__qualname__" 682 (.str "Near" 681), k P "__firstlineno__" 684 (.int (120) 683), k P "fits" 693 (.ref 386), k P "filled" 703 (.ref 393), k P "read_back" 712 (.ref 400), k P "leans" 719 (.ref 407), k P "__static_attributes__" 720 (.ref 408)] 8
noncomputable def o376_7 : Obj := e1
noncomputable def o377_7 : Obj := nf #[(.int (122) 0), (.int (4) 0), (.ref 385), (.int (125) 0), (.int (4) 0), (.ref 392), (.int (128) 0), (.int (4) 0), (.ref 399), (.int (131) 0), (.int (4) 0), (.ref 406)]
noncomputable def o378_7 : Obj := co "Near" "Near" 675 120 0 0 376 false 377 .none 678
noncomputable def o379_7 : Obj := fm 378 375 (.str "joinload.rules" 495)
noncomputable def o380_7 : Obj := e1
noncomputable def o381_7 : Obj := e2
noncomputable def o382_7 : Obj := tu #[(.str "self" 688), (.str "here" 689), (.str "there" 690)]
noncomputable def o383_7 : Obj := e1
noncomputable def o384_7 : Obj := ft (C 25 0) "fits" "Near.fits"
noncomputable def o385_7 : Obj := ⟨(.type "code"), none, (.fields #[(.str "fits" 685), (.str "Near.fits" 686), (.str "/claim/cut.py" 687), (.int (122) 0), (.int (3) 0), (.int (0) 0), (.int (0) 0), (.int (3) 0), (.ref 380), (.bool true), (.int (181) 0), (.ref 381), .none, (.ref 382), (.ref 383), (.ref 384), (.int (691) 0), (.int (122) 0), (.str "/claim/cut.py" 692)]), #[]⟩
noncomputable def o386_7 : Obj := fo (C 25 0) "fits" "Near.fits" "joinload.rules" 495 385
noncomputable def o387_7 : Obj := e1
noncomputable def o388_7 : Obj := e2
noncomputable def o389_7 : Obj := tu #[(.str "self" 697), (.str "word" 698), (.str "here" 699), (.str "there" 700)]
noncomputable def o390_7 : Obj := e1
noncomputable def o391_7 : Obj := ft (C 25 1) "filled" "Near.filled"
noncomputable def o392_7 : Obj := ⟨(.type "code"), none, (.fields #[(.str "filled" 694), (.str "Near.filled" 695), (.str "/claim/cut.py" 696), (.int (125) 0), (.int (4) 0), (.int (0) 0), (.int (0) 0), (.int (3) 0), (.ref 387), (.bool true), (.int (181) 0), (.ref 388), .none, (.ref 389), (.ref 390), (.ref 391), (.int (701) 0), (.int (125) 0), (.str "/claim/cut.py" 702)]), #[]⟩
noncomputable def o393_7 : Obj := fo (C 25 1) "filled" "Near.filled" "joinload.rules" 495 392
noncomputable def o394_7 : Obj := e1
noncomputable def o395_7 : Obj := e2
noncomputable def o396_7 : Obj := tu #[(.str "self" 707), (.str "word" 708), (.str "here" 709)]
noncomputable def o397_7 : Obj := e1
noncomputable def o398_7 : Obj := ft (C 25 2) "read_back" "Near.read_back"
noncomputable def o399_7 : Obj := ⟨(.type "code"), none, (.fields #[(.str "read_back" 704), (.str "Near.read_back" 705), (.str "/claim/cut.py" 706), (.int (128) 0), (.int (3) 0), (.int (0) 0), (.int (0) 0), (.int (3) 0), (.ref 394), (.bool true), (.int (181) 0), (.ref 395), .none, (.ref 396), (.ref 397), (.ref 398), (.int (710) 0), (.int (128) 0), (.str "/claim/cut.py" 711)]), #[]⟩
noncomputable def o400_7 : Obj := fo (C 25 2) "read_back" "Near.read_back" "joinload.rules" 495 399
noncomputable def o401_7 : Obj := e1
noncomputable def o402_7 : Obj := e2
noncomputable def o403_7 : Obj := tu #[(.str "self" 716)]
noncomputable def o404_7 : Obj := e1
noncomputable def o405_7 : Obj := ft (C 25 3) "leans" "Near.leans"
noncomputable def o406_7 : Obj := ⟨(.type "code"), none, (.fields #[(.str "leans" 713), (.str "Near.leans" 714), (.str "/claim/cut.py" 715), (.int (131) 0), (.int (1) 0), (.int (0) 0), (.int (0) 0), (.int (3) 0), (.ref 401), (.bool true), (.int (181) 0), (.ref 402), .none, (.ref 403), (.ref 404), (.ref 405), (.int (717) 0), (.int (131) 0), (.str "/claim/cut.py" 718)]), #[]⟩
noncomputable def o407_7 : Obj := fo (C 25 3) "leans" "Near.leans" "joinload.rules" 495 406
noncomputable def o408_7 : Obj := e1
noncomputable def o409_7 (P : Params) : Obj := di [k P "__module__" 680 (.str "joinload.rules" 495), k P "__firstlineno__" 684 (.int (120) 683), k P "fits" 693 (.ref 386), k P "filled" 703 (.ref 393), k P "read_back" 712 (.ref 400), k P "leans" 719 (.ref 407), k P "__static_attributes__" 720 (.ref 408), k P "__doc__" 721 .none] 2
noncomputable def o410_7 : Obj := ⟨(.type "type"), none, (.cls ⟨"Near", [(.ref 290)], [(.ref 410), (.ref 290), (.type "object")], 409, "Near", true, [], [], false, none, false⟩), #[(some (.ref 373)), none, (some (.str "Near" 673)), (some (.str "Near" 681)), (some (.builtin "object.__new__")), (some (.bool true))]⟩
noncomputable def o411_7 : Obj := su 410
noncomputable def o412_7 : Obj := bs 410
noncomputable def o413_7 : Obj := tu #[(.ref 290)]
noncomputable def o414_7 : Obj := bp
noncomputable def o415_7 (P : Params) : Obj := di [k P "__module__" 731 (.str "joinload.rules" 495), k P "__qualname__" 733 (.str "Split" 732), k P "__firstlineno__" 735 (.int (133) 734), k P "fits" 744 (.ref 426), k P "filled" 755 (.ref 433), k P "read_back" 764 (.ref 440), k P "leans" 771 (.ref 447), k P "__static_attributes__" 772 (.ref 448)] 8
noncomputable def o416_7 : Obj := e1
noncomputable def o417_7 : Obj := nf #[(.int (135) 0), (.int (4) 0), (.ref 425), (.int (138) 0), (.int (4) 0), (.ref 432), (.int (142) 0), (.int (4) 0), (.ref 439), (.int (145) 0), (.int (4) 0), (.ref 446)]
noncomputable def o418_7 : Obj := co "Split" "Split" 726 133 0 0 416 false 417 .none 729
noncomputable def o419_7 : Obj := fm 418 415 (.str "joinload.rules" 495)
noncomputable def o420_7 : Obj := e1
noncomputable def o421_7 : Obj := e2
noncomputable def o422_7 : Obj := tu #[(.str "self" 739), (.str "here" 740), (.str "there" 741)]
noncomputable def o423_7 : Obj := e1
noncomputable def o424_7 : Obj := ft (C 26 0) "fits" "Split.fits"
noncomputable def o425_7 : Obj := ⟨(.type "code"), none, (.fields #[(.str "fits" 736), (.str "Split.fits" 737), (.str "/claim/cut.py" 738), (.int (135) 0), (.int (3) 0), (.int (0) 0), (.int (0) 0), (.int (3) 0), (.ref 420), (.bool true), (.int (181) 0), (.ref 421), .none, (.ref 422), (.ref 423), (.ref 424), (.int (742) 0), (.int (135) 0), (.str "/claim/cut.py" 743)]), #[]⟩
noncomputable def o426_7 : Obj := fo (C 26 0) "fits" "Split.fits" "joinload.rules" 495 425
noncomputable def o427_7 : Obj := e1
noncomputable def o428_7 : Obj := e2
noncomputable def o429_7 : Obj := tu #[(.str "self" 748), (.str "word" 749), (.str "here" 750), (.str "there" 751), (.str "lower" 752)]
noncomputable def o430_7 : Obj := e1
noncomputable def o431_7 : Obj := ft (C 26 1) "filled" "Split.filled"
noncomputable def o432_7 : Obj := ⟨(.type "code"), none, (.fields #[(.str "filled" 745), (.str "Split.filled" 746), (.str "/claim/cut.py" 747), (.int (138) 0), (.int (4) 0), (.int (0) 0), (.int (0) 0), (.int (3) 0), (.ref 427), (.bool true), (.int (181) 0), (.ref 428), .none, (.ref 429), (.ref 430), (.ref 431), (.int (753) 0), (.int (138) 0), (.str "/claim/cut.py" 754)]), #[]⟩
noncomputable def o433_7 : Obj := fo (C 26 1) "filled" "Split.filled" "joinload.rules" 495 432
noncomputable def o434_7 : Obj := e1
noncomputable def o435_7 : Obj := e2
noncomputable def o436_7 : Obj := tu #[(.str "self" 759), (.str "word" 760), (.str "here" 761)]
noncomputable def o437_7 : Obj := e1
noncomputable def o438_7 : Obj := ft (C 26 2) "read_back" "Split.read_back"
noncomputable def o439_7 : Obj := ⟨(.type "code"), none, (.fields #[(.str "read_back" 756), (.str "Split.read_back" 757), (.str "/claim/cut.py" 758), (.int (142) 0), (.int (3) 0), (.int (0) 0), (.int (0) 0), (.int (3) 0), (.ref 434), (.bool true), (.int (181) 0), (.ref 435), .none, (.ref 436), (.ref 437), (.ref 438), (.int (762) 0), (.int (142) 0), (.str "/claim/cut.py" 763)]), #[]⟩
noncomputable def o440_7 : Obj := fo (C 26 2) "read_back" "Split.read_back" "joinload.rules" 495 439
noncomputable def o441_7 : Obj := e1
noncomputable def o442_7 : Obj := e2
noncomputable def o443_7 : Obj := tu #[(.str "self" 768)]
noncomputable def o444_7 : Obj := e1
noncomputable def o445_7 : Obj := ft (C 26 3) "leans" "Split.leans"
noncomputable def o446_7 : Obj := ⟨(.type "code"), none, (.fields #[(.str "leans" 765), (.str "Split.leans" 766), (.str "/claim/cut.py" 767), (.int (145) 0), (.int (1) 0), (.int (0) 0), (.int (0) 0), (.int (3) 0), (.ref 441), (.bool true), (.int (181) 0), (.ref 442), .none, (.ref 443), (.ref 444), (.ref 445), (.int (769) 0), (.int (145) 0), (.str "/claim/cut.py" 770)]), #[]⟩
noncomputable def o447_7 : Obj := fo (C 26 3) "leans" "Split.leans" "joinload.rules" 495 446
noncomputable def o448_7 : Obj := e1
noncomputable def o449_7 (P : Params) : Obj := di [k P "__module__" 731 (.str "joinload.rules" 495), k P "__firstlineno__" 735 (.int (133) 734), k P "fits" 744 (.ref 426), k P "filled" 755 (.ref 433), k P "read_back" 764 (.ref 440), k P "leans" 771 (.ref 447), k P "__static_attributes__" 772 (.ref 448), k P "__doc__" 773 .none] 2
noncomputable def o450_7 : Obj := ⟨(.type "type"), none, (.cls ⟨"Split", [(.ref 290)], [(.ref 450), (.ref 290), (.type "object")], 449, "Split", true, [], [], false, none, false⟩), #[(some (.ref 413)), none, (some (.str "Split" 724)), (some (.str "Split" 732)), (some (.builtin "object.__new__")), (some (.bool true))]⟩
noncomputable def o451_7 : Obj := su 450
noncomputable def o452_7 : Obj := bs 450
noncomputable def o453_7 : Obj := e1
noncomputable def o454_7 : Obj := e2
noncomputable def o455_7 : Obj := tu #[(.str "here" 779), (.str "there" 780)]
noncomputable def o456_7 : Obj := e1
noncomputable def o457_7 : Obj := ft (T 27) "way" "way"
noncomputable def o458_7 : Obj := ⟨(.type "code"), none, (.fields #[(.str "way" 776), (.str "way" 777), (.str "/claim/cut.py" 778), (.int (147) 0), (.int (2) 0), (.int (0) 0), (.int (0) 0), (.int (3) 0), (.ref 453), (.bool true), (.int (181) 0), (.ref 454), .none, (.ref 455), (.ref 456), (.ref 457), (.int (781) 0), (.int (147) 0), (.str "/claim/cut.py" 782)]), #[]⟩
noncomputable def o459_7 : Obj := fo (T 27) "way" "way" "joinload.rules" 495 458
noncomputable def o460_7 : Obj := e1
noncomputable def o461_7 : Obj := e2
noncomputable def o462_7 : Obj := tu #[(.str "_law_cell" 789), (.str "_law_some" 790)]
noncomputable def o463_7 : Obj := e1
noncomputable def o464_7 : Obj := ft (T 29) "_law_sign_by" "_law_sign_by"
noncomputable def o465_7 : Obj := ⟨(.type "code"), none, (.fields #[(.str "_law_sign_by" 786), (.str "_law_sign_by" 787), (.str "/claim/cut.py" 788), (.int (150) 0), (.int (1) 0), (.int (0) 0), (.int (0) 0), (.int (3) 0), (.ref 460), (.bool true), (.int (181) 0), (.ref 461), .none, (.ref 462), (.ref 463), (.ref 464), (.int (791) 0), (.int (150) 0), (.str "/claim/cut.py" 792)]), #[]⟩
noncomputable def o466_7 : Obj := fo (T 29) "_law_sign_by" "_law_sign_by" "law_joinload_k09_rules_by_titles" 784 465
noncomputable def o467_7 : Obj := e1
noncomputable def o468_7 : Obj := e2
noncomputable def o469_7 : Obj := tu #[(.str "_law_cell" 797)]
noncomputable def o470_7 : Obj := e1
noncomputable def o471_7 : Obj := ft (T 30) "_law_title" "_law_title"
noncomputable def o472_7 : Obj := ⟨(.type "code"), none, (.fields #[(.str "_law_title" 794), (.str "_law_title" 795), (.str "/claim/cut.py" 796), (.int (154) 0), (.int (1) 0), (.int (0) 0), (.int (0) 0), (.int (3) 0), (.ref 467), (.bool true), (.int (181) 0), (.ref 468), .none, (.ref 469), (.ref 470), (.ref 471), (.int (798) 0), (.int (154) 0), (.str "/claim/cut.py" 799)]), #[]⟩
noncomputable def o473_7 : Obj := fo (T 30) "_law_title" "_law_title" "law_joinload_k09_rules_by_titles" 784 472
noncomputable def o474_7 : Obj := e1
noncomputable def o475_7 : Obj := e2
noncomputable def o476_7 : Obj := ft (T 31) "_law_text_by" "_law_text_by"
noncomputable def o477_7 : Obj := co "_law_text_by" "_law_text_by" 801 156 2 3 474 true 475 (.ref 476) 804
noncomputable def o478_7 : Obj := fo (T 31) "_law_text_by" "_law_text_by" "law_joinload_k09_rules_by_titles" 784 477
noncomputable def o479_7 : Obj := e1
noncomputable def o480_7 : Obj := e2
noncomputable def o481_7 : Obj := tu #[(.str "_law_text" 810), (.str "_law_told" 811), (.str "e" 812)]
noncomputable def o482_7 : Obj := e1
noncomputable def o483_7 : Obj := ft (T 32) "_law_told_of" "_law_told_of"
noncomputable def o484_7 : Obj := ⟨(.type "code"), none, (.fields #[(.str "_law_told_of" 807), (.str "_law_told_of" 808), (.str "/claim/cut.py" 809), (.int (172) 0), (.int (1) 0), (.int (0) 0), (.int (0) 0), (.int (3) 0), (.ref 479), (.bool true), (.int (181) 0), (.ref 480), .none, (.ref 481), (.ref 482), (.ref 483), (.int (813) 0), (.int (172) 0), (.str "/claim/cut.py" 814)]), #[]⟩
noncomputable def o485_7 : Obj := fo (T 32) "_law_told_of" "_law_told_of" "law_joinload_k09_rules_by_titles" 784 484
noncomputable def o486_7 : Obj := e1
noncomputable def o487_7 : Obj := e2
noncomputable def o488_7 : Obj := tu #[(.str "_law_told" 819)]
noncomputable def o489_7 : Obj := e1
noncomputable def o490_7 : Obj := ft (T 33) "_law_refused" "_law_refused"
noncomputable def o491_7 : Obj := ⟨(.type "code"), none, (.fields #[(.str "_law_refused" 816), (.str "_law_refused" 817), (.str "/claim/cut.py" 818), (.int (179) 0), (.int (1) 0), (.int (0) 0), (.int (0) 0), (.int (3) 0), (.ref 486), (.bool true), (.int (181) 0), (.ref 487), .none, (.ref 488), (.ref 489), (.ref 490), (.int (820) 0), (.int (179) 0), (.str "/claim/cut.py" 821)]), #[]⟩
noncomputable def o492_7 : Obj := fo (T 33) "_law_refused" "_law_refused" "law_joinload_k09_rules_by_titles" 784 491
noncomputable def d6_0 (P : Params) (r : List (Nat × Obj)) : List (Nat × Obj) := (3, o3_7 P) :: (12, o12_7) :: (290, o290_7) :: (373, o373_7) :: (374, o374_7) :: (375, o375_7 P) :: (376, o376_7) :: (377, o377_7) :: (378, o378_7) :: (379, o379_7) :: (380, o380_7) :: (381, o381_7) :: (382, o382_7) :: (383, o383_7) :: (384, o384_7) :: (385, o385_7) :: (386, o386_7) :: (387, o387_7) :: (388, o388_7) :: (389, o389_7) :: (390, o390_7) :: (391, o391_7) :: (392, o392_7) :: (393, o393_7) :: r
noncomputable def d6_1 (P : Params) (r : List (Nat × Obj)) : List (Nat × Obj) := (394, o394_7) :: (395, o395_7) :: (396, o396_7) :: (397, o397_7) :: (398, o398_7) :: (399, o399_7) :: (400, o400_7) :: (401, o401_7) :: (402, o402_7) :: (403, o403_7) :: (404, o404_7) :: (405, o405_7) :: (406, o406_7) :: (407, o407_7) :: (408, o408_7) :: (409, o409_7 P) :: (410, o410_7) :: (411, o411_7) :: (412, o412_7) :: (413, o413_7) :: (414, o414_7) :: (415, o415_7 P) :: (416, o416_7) :: (417, o417_7) :: r
noncomputable def d6_2 (P : Params) (r : List (Nat × Obj)) : List (Nat × Obj) := (418, o418_7) :: (419, o419_7) :: (420, o420_7) :: (421, o421_7) :: (422, o422_7) :: (423, o423_7) :: (424, o424_7) :: (425, o425_7) :: (426, o426_7) :: (427, o427_7) :: (428, o428_7) :: (429, o429_7) :: (430, o430_7) :: (431, o431_7) :: (432, o432_7) :: (433, o433_7) :: (434, o434_7) :: (435, o435_7) :: (436, o436_7) :: (437, o437_7) :: (438, o438_7) :: (439, o439_7) :: (440, o440_7) :: (441, o441_7) :: r
noncomputable def d6_3 (P : Params) (r : List (Nat × Obj)) : List (Nat × Obj) := (442, o442_7) :: (443, o443_7) :: (444, o444_7) :: (445, o445_7) :: (446, o446_7) :: (447, o447_7) :: (448, o448_7) :: (449, o449_7 P) :: (450, o450_7) :: (451, o451_7) :: (452, o452_7) :: (453, o453_7) :: (454, o454_7) :: (455, o455_7) :: (456, o456_7) :: (457, o457_7) :: (458, o458_7) :: (459, o459_7) :: (460, o460_7) :: (461, o461_7) :: (462, o462_7) :: (463, o463_7) :: (464, o464_7) :: (465, o465_7) :: r
noncomputable def d6_4 (P : Params) (r : List (Nat × Obj)) : List (Nat × Obj) := (466, o466_7) :: (467, o467_7) :: (468, o468_7) :: (469, o469_7) :: (470, o470_7) :: (471, o471_7) :: (472, o472_7) :: (473, o473_7) :: (474, o474_7) :: (475, o475_7) :: (476, o476_7) :: (477, o477_7) :: (478, o478_7) :: (479, o479_7) :: (480, o480_7) :: (481, o481_7) :: (482, o482_7) :: (483, o483_7) :: (484, o484_7) :: (485, o485_7) :: (486, o486_7) :: (487, o487_7) :: (488, o488_7) :: (489, o489_7) :: r
noncomputable def d6_5 (P : Params) (r : List (Nat × Obj)) : List (Nat × Obj) := (490, o490_7) :: (491, o491_7) :: (492, o492_7) :: r
noncomputable def T6 (P : Params) : BT := mg 14 (T5 P) (d6_0 P (d6_1 P (d6_2 P (d6_3 P (d6_4 P (d6_5 P ([])))))))
noncomputable def S6T (w : World) : OsState → SharedT := sT (T6 w.params) 493 823
noncomputable def L5 : List Stmt := My.top 25 :: My.top 26 :: My.top 27 :: My.top 28 :: My.top 29 :: My.top 30 :: My.top 31 :: My.top 32 :: My.top 33 :: []
noncomputable def P5 (w : World) : Prop := sR w 872 S5T S6T L5 ⟨113, 0, 119, 16⟩ ⟨179, 0, 182, 111⟩
noncomputable def g3_8 (P : Params) : List DictEntry := g3_7 P ++ [k P "_law_holds" 832 (.ref 499), k P "law" 841 (.ref 506)]
noncomputable def o3_8 (P : Params) : Obj := ⟨(.type "dict"), none, .dict (g3_8 P).toArray 41, #[]⟩
noncomputable def o12_8 : Obj := nf #[(.int (1) 0), (.int (0) 0), (.ref 20), (.int (6) 0), (.int (0) 0), (.ref 27), (.int (8) 0), (.int (0) 0), (.ref 34), (.int (11) 0), (.int (0) 0), (.ref 41), (.int (13) 0), (.int (0) 0), (.ref 48), (.int (18) 0), (.int (0) 0), (.ref 55), (.int (20) 0), (.int (0) 0), (.ref 68), (.int (22) 0), (.int (0) 0), (.ref 80), (.int (27) 0), (.int (0) 0), (.ref 99), (.int (34) 0), (.int (0) 0), (.ref 118), (.int (39) 0), (.int (0) 0), (.ref 137), (.int (45) 0), (.int (0) 0), (.ref 156), (.int (53) 0), (.int (0) 0), (.ref 175), (.int (58) 0), (.int (0) 0), (.ref 194), (.int (63) 0), (.int (0) 0), (.ref 213), (.int (68) 0), (.int (0) 0), (.ref 232), (.int (71) 0), (.int (0) 0), (.ref 244), (.int (83) 0), (.int (0) 0), (.ref 251), (.int (99) 0), (.int (0) 0), (.ref 300), (.int (106) 0), (.int (0) 0), (.ref 326), (.int (113) 0), (.int (0) 0), (.ref 352), (.int (120) 0), (.int (0) 0), (.ref 378), (.int (133) 0), (.int (0) 0), (.ref 418), (.int (147) 0), (.int (0) 0), (.ref 458), (.int (150) 0), (.int (0) 0), (.ref 465), (.int (154) 0), (.int (0) 0), (.ref 472), (.int (156) 0), (.int (0) 0), (.ref 477), (.int (172) 0), (.int (0) 0), (.ref 484), (.int (179) 0), (.int (0) 0), (.ref 491), (.int (183) 0), (.int (0) 0), (.ref 498), (.int (195) 0), (.int (0) 0), (.ref 505)]
noncomputable def o493_8 : Obj := e1
noncomputable def o494_8 : Obj := e2
noncomputable def o495_8 : Obj := tu #[(.str "_law_cell" 826), (.str "_law_other" 827), (.str "_law_text" 828), (.str "_law_rule" 829)]
noncomputable def o496_8 : Obj := e1
noncomputable def o497_8 : Obj := ft (T 34) "_law_holds" "_law_holds"
noncomputable def o498_8 : Obj := ⟨(.type "code"), none, (.fields #[(.str "_law_holds" 823), (.str "_law_holds" 824), (.str "/claim/cut.py" 825), (.int (183) 0), (.int (2) 0), (.int (0) 0), (.int (0) 0), (.int (3) 0), (.ref 493), (.bool true), (.int (181) 0), (.ref 494), .none, (.ref 495), (.ref 496), (.ref 497), (.int (830) 0), (.int (183) 0), (.str "/claim/cut.py" 831)]), #[]⟩
noncomputable def o499_8 : Obj := fo (T 34) "_law_holds" "_law_holds" "law_joinload_k09_rules_by_titles" 784 498
noncomputable def o500_8 : Obj := e1
noncomputable def o501_8 : Obj := e2
noncomputable def o502_8 : Obj := tu #[(.str "_law_script" 836), (.str "_law_cells" 837), (.str "_law_k" 838)]
noncomputable def o503_8 : Obj := e1
noncomputable def o504_8 : Obj := ft (T 35) "law" "law"
noncomputable def o505_8 : Obj := ⟨(.type "code"), none, (.fields #[(.str "law" 833), (.str "law" 834), (.str "/claim/cut.py" 835), (.int (195) 0), (.int (1) 0), (.int (0) 0), (.int (0) 0), (.int (3) 0), (.ref 500), (.bool true), (.int (181) 0), (.ref 501), .none, (.ref 502), (.ref 503), (.ref 504), (.int (839) 0), (.int (195) 0), (.str "/claim/cut.py" 840)]), #[]⟩
noncomputable def o506_8 : Obj := fo (T 35) "law" "law" "law_joinload_k09_rules_by_titles" 784 505
noncomputable def d7_0 (P : Params) (r : List (Nat × Obj)) : List (Nat × Obj) := (3, o3_8 P) :: (12, o12_8) :: (493, o493_8) :: (494, o494_8) :: (495, o495_8) :: (496, o496_8) :: (497, o497_8) :: (498, o498_8) :: (499, o499_8) :: (500, o500_8) :: (501, o501_8) :: (502, o502_8) :: (503, o503_8) :: (504, o504_8) :: (505, o505_8) :: (506, o506_8) :: r
noncomputable def T7 (P : Params) : BT := mg 14 (T6 P) (d7_0 P ([]))
noncomputable def S7T (w : World) : OsState → SharedT := sT (T7 w.params) 507 842
noncomputable def L6 : List Stmt := My.top 34 :: My.top 35 :: []
noncomputable def P6 (w : World) : Prop := sR w 64 S6T S7T L6 ⟨179, 0, 182, 111⟩ ⟨195, 0, 200, 15⟩
noncomputable def h_0 (P : Params) (r : List Obj) : List Obj := boot_o_0 P :: boot_o_1 P :: boot_o_2 P :: o3_8 P :: boot_o_4 P :: boot_o_5 P :: boot_o_6 P :: boot_o_7 P :: boot_o_8 P :: boot_o_9 P :: boot_o_10 P :: o11_0 :: o12_8 :: o13_0 :: o14_0 :: o15_2 :: o16_2 :: o17_2 :: o18_2 :: o19_2 :: o20_2 :: o21_2 :: o22_2 :: o23_2 :: r
noncomputable def h_1 (P : Params) (r : List Obj) : List Obj := o24_2 :: o25_2 :: o26_2 :: o27_2 :: o28_2 :: o29_2 :: o30_2 :: o31_2 :: o32_2 :: o33_2 :: o34_2 :: o35_2 :: o36_2 :: o37_2 :: o38_2 :: o39_2 :: o40_2 :: o41_2 :: o42_2 :: o43_2 :: o44_2 :: o45_2 :: o46_2 :: o47_2 :: r
noncomputable def h_2 (P : Params) (r : List Obj) : List Obj := o48_2 :: o49_2 :: o50_2 :: o51_2 :: o52_2 P :: o53_2 :: o54_2 :: o55_2 :: o56_2 :: o57_2 :: o58_2 P :: o59_5 :: o60_2 :: o61_2 :: o62_2 :: o63_2 :: o64_2 :: o65_2 P :: o66_2 :: o67_2 :: o68_2 :: o69_2 :: o70_2 :: o71_2 P :: r
noncomputable def h_3 (P : Params) (r : List Obj) : List Obj := o72_2 :: o73_2 :: o74_2 :: o75_2 :: o76_2 :: o77_2 P :: o78_2 :: o79_2 :: o80_2 :: o81_2 :: o82_2 :: o83_2 :: o84_2 :: o85_2 :: o86_2 :: o87_2 :: o88_2 :: o89_2 :: o90_2 P :: o91_2 :: o92_2 :: o93_2 :: o94_3 :: o95_3 :: r
noncomputable def h_4 (P : Params) (r : List Obj) : List Obj := o96_3 P :: o97_3 :: o98_3 :: o99_3 :: o100_3 :: o101_3 :: o102_3 :: o103_3 :: o104_3 :: o105_3 :: o106_3 :: o107_3 :: o108_3 :: o109_3 P :: o110_3 :: o111_3 :: o112_3 :: o113_3 :: o114_3 :: o115_3 P :: o116_3 :: o117_3 :: o118_3 :: o119_3 :: r
noncomputable def h_5 (P : Params) (r : List Obj) : List Obj := o120_3 :: o121_3 :: o122_3 :: o123_3 :: o124_3 :: o125_3 :: o126_3 :: o127_3 :: o128_3 P :: o129_3 :: o130_3 :: o131_3 :: o132_3 :: o133_3 :: o134_3 P :: o135_3 :: o136_3 :: o137_3 :: o138_3 :: o139_3 :: o140_3 :: o141_3 :: o142_3 :: o143_3 :: r
noncomputable def h_6 (P : Params) (r : List Obj) : List Obj := o144_3 :: o145_3 :: o146_3 :: o147_3 P :: o148_3 :: o149_3 :: o150_3 :: o151_4 :: o152_4 :: o153_4 P :: o154_4 :: o155_4 :: o156_4 :: o157_4 :: o158_4 :: o159_4 :: o160_4 :: o161_4 :: o162_4 :: o163_4 :: o164_4 :: o165_4 :: o166_4 P :: o167_4 :: r
noncomputable def h_7 (P : Params) (r : List Obj) : List Obj := o168_4 :: o169_4 :: o170_4 :: o171_4 :: o172_4 P :: o173_4 :: o174_4 :: o175_4 :: o176_4 :: o177_4 :: o178_4 :: o179_4 :: o180_4 :: o181_4 :: o182_4 :: o183_4 :: o184_4 :: o185_4 P :: o186_4 :: o187_4 :: o188_4 :: o189_4 :: o190_4 :: o191_4 P :: r
noncomputable def h_8 (P : Params) (r : List Obj) : List Obj := o192_4 :: o193_4 :: o194_4 :: o195_4 :: o196_4 :: o197_4 :: o198_4 :: o199_4 :: o200_4 :: o201_4 :: o202_4 :: o203_4 :: o204_4 P :: o205_4 :: o206_4 :: o207_4 :: o208_5 :: o209_5 :: o210_5 P :: o211_5 :: o212_5 :: o213_5 :: o214_5 :: o215_5 :: r
noncomputable def h_9 (P : Params) (r : List Obj) : List Obj := o216_5 :: o217_5 :: o218_5 :: o219_5 :: o220_5 :: o221_5 :: o222_5 :: o223_5 P :: o224_5 :: o225_5 :: o226_5 :: o227_5 :: o228_5 :: o229_5 P :: o230_5 :: o231_5 :: o232_5 :: o233_5 :: o234_5 :: o235_5 P :: o236_5 :: o237_5 :: o238_5 :: o239_5 :: r
noncomputable def h_10 (P : Params) (r : List Obj) : List Obj := o240_5 :: o241_5 :: o242_5 :: o243_5 :: o244_5 :: o245_5 :: o246_5 :: o247_5 :: o248_5 P :: o249_5 :: o250_5 :: o251_5 :: o252_5 :: o253_5 :: o254_5 :: o255_5 :: o256_5 :: o257_5 :: o258_5 :: o259_5 :: o260_5 :: o261_5 :: o262_5 :: o263_5 :: r
noncomputable def h_11 (P : Params) (r : List Obj) : List Obj := o264_5 :: o265_5 :: o266_5 :: o267_5 :: o268_5 :: o269_5 :: o270_5 :: o271_5 :: o272_5 :: o273_5 :: o274_5 :: o275_5 :: o276_5 :: o277_5 :: o278_5 :: o279_5 :: o280_5 :: o281_5 :: o282_5 :: o283_5 :: o284_5 :: o285_5 :: o286_5 :: o287_5 :: r
noncomputable def h_12 (P : Params) (r : List Obj) : List Obj := o288_5 :: o289_5 P :: o290_7 :: o291_5 :: o292_5 :: o293_5 :: o294_5 :: o295_6 :: o296_6 :: o297_6 P :: o298_6 :: o299_6 :: o300_6 :: o301_6 :: o302_6 :: o303_6 :: o304_6 :: o305_6 :: o306_6 :: o307_6 :: o308_6 :: o309_6 :: o310_6 :: o311_6 :: r
noncomputable def h_13 (P : Params) (r : List Obj) : List Obj := o312_6 :: o313_6 :: o314_6 :: o315_6 :: o316_6 :: o317_6 P :: o318_6 :: o319_6 :: o320_6 :: o321_6 :: o322_6 :: o323_6 P :: o324_6 :: o325_6 :: o326_6 :: o327_6 :: o328_6 :: o329_6 :: o330_6 :: o331_6 :: o332_6 :: o333_6 :: o334_6 :: o335_6 :: r
noncomputable def h_14 (P : Params) (r : List Obj) : List Obj := o336_6 :: o337_6 :: o338_6 :: o339_6 :: o340_6 :: o341_6 :: o342_6 :: o343_6 P :: o344_6 :: o345_6 :: o346_6 :: o347_6 :: o348_6 :: o349_6 P :: o350_6 :: o351_6 :: o352_6 :: o353_6 :: o354_6 :: o355_6 :: o356_6 :: o357_6 :: o358_6 :: o359_6 :: r
noncomputable def h_15 (P : Params) (r : List Obj) : List Obj := o360_6 :: o361_6 :: o362_6 :: o363_6 :: o364_6 :: o365_6 :: o366_6 :: o367_6 :: o368_6 :: o369_6 P :: o370_6 :: o371_6 :: o372_6 :: o373_7 :: o374_7 :: o375_7 P :: o376_7 :: o377_7 :: o378_7 :: o379_7 :: o380_7 :: o381_7 :: o382_7 :: o383_7 :: r
noncomputable def h_16 (P : Params) (r : List Obj) : List Obj := o384_7 :: o385_7 :: o386_7 :: o387_7 :: o388_7 :: o389_7 :: o390_7 :: o391_7 :: o392_7 :: o393_7 :: o394_7 :: o395_7 :: o396_7 :: o397_7 :: o398_7 :: o399_7 :: o400_7 :: o401_7 :: o402_7 :: o403_7 :: o404_7 :: o405_7 :: o406_7 :: o407_7 :: r
noncomputable def h_17 (P : Params) (r : List Obj) : List Obj := o408_7 :: o409_7 P :: o410_7 :: o411_7 :: o412_7 :: o413_7 :: o414_7 :: o415_7 P :: o416_7 :: o417_7 :: o418_7 :: o419_7 :: o420_7 :: o421_7 :: o422_7 :: o423_7 :: o424_7 :: o425_7 :: o426_7 :: o427_7 :: o428_7 :: o429_7 :: o430_7 :: o431_7 :: r
noncomputable def h_18 (P : Params) (r : List Obj) : List Obj := o432_7 :: o433_7 :: o434_7 :: o435_7 :: o436_7 :: o437_7 :: o438_7 :: o439_7 :: o440_7 :: o441_7 :: o442_7 :: o443_7 :: o444_7 :: o445_7 :: o446_7 :: o447_7 :: o448_7 :: o449_7 P :: o450_7 :: o451_7 :: o452_7 :: o453_7 :: o454_7 :: o455_7 :: r
noncomputable def h_19 (P : Params) (r : List Obj) : List Obj := o456_7 :: o457_7 :: o458_7 :: o459_7 :: o460_7 :: o461_7 :: o462_7 :: o463_7 :: o464_7 :: o465_7 :: o466_7 :: o467_7 :: o468_7 :: o469_7 :: o470_7 :: o471_7 :: o472_7 :: o473_7 :: o474_7 :: o475_7 :: o476_7 :: o477_7 :: o478_7 :: o479_7 :: r
noncomputable def h_20 (P : Params) (r : List Obj) : List Obj := o480_7 :: o481_7 :: o482_7 :: o483_7 :: o484_7 :: o485_7 :: o486_7 :: o487_7 :: o488_7 :: o489_7 :: o490_7 :: o491_7 :: o492_7 :: o493_8 :: o494_8 :: o495_8 :: o496_8 :: o497_8 :: o498_8 :: o499_8 :: o500_8 :: o501_8 :: o502_8 :: o503_8 :: r
noncomputable def h_21 (P : Params) (r : List Obj) : List Obj := o504_8 :: o505_8 :: o506_8 :: r
noncomputable def Hf (P : Params) : Heap := ⟨⟨h_0 P (h_1 P (h_2 P (h_3 P (h_4 P (h_5 P (h_6 P (h_7 P (h_8 P (h_9 P (h_10 P (h_11 P (h_12 P (h_13 P (h_14 P (h_15 P (h_16 P (h_17 P (h_18 P (h_19 P (h_20 P (h_21 P ([]))))))))))))))))))))))⟩, li⟩
noncomputable def Sf (w : World) (os : OsState) : Shared := ⟨Hf w.params, ⟨[]⟩, boot_drawn, 842, os⟩
noncomputable def Fin (w : World) : Prop := (fun os => topRun treeTable pw w 11 an 2 (S7T w os).abs ⟨doneF .next, cE, ⟨195, 0, 200, 15⟩, B⟩) = fun os => some (Sf w os)
noncomputable def q : Program := { pw with main := { pw.main with body := My.top 0 :: My.top 2 :: My.top 3 :: My.top 4 :: My.top 5 :: My.top 6 :: My.top 8 :: My.top 9 :: My.top 10 :: My.top 11 :: My.top 12 :: My.top 13 :: My.top 14 :: My.top 15 :: My.top 16 :: My.top 17 :: My.top 18 :: My.top 20 :: My.top 21 :: My.top 22 :: My.top 23 :: My.top 24 :: My.top 25 :: My.top 26 :: My.top 27 :: My.top 29 :: My.top 30 :: My.top 31 :: My.top 32 :: My.top 33 :: My.top 34 :: My.top 35 :: [] } }
noncomputable def K (P : Params) : Frag := (nat_lit 2, boot_o_2 P) :: (nat_lit 3, o3_8 P) :: (nat_lit 15, o15_2) :: (nat_lit 17, o17_2) :: (nat_lit 18, o18_2) :: (nat_lit 20, o20_2) :: (nat_lit 21, o21_2) :: (nat_lit 22, o22_2) :: (nat_lit 24, o24_2) :: (nat_lit 25, o25_2) :: (nat_lit 27, o27_2) :: (nat_lit 28, o28_2) :: (nat_lit 29, o29_2) :: (nat_lit 31, o31_2) :: (nat_lit 32, o32_2) :: (nat_lit 34, o34_2) :: (nat_lit 35, o35_2) :: (nat_lit 36, o36_2) :: (nat_lit 38, o38_2) :: (nat_lit 39, o39_2) :: (nat_lit 41, o41_2) :: (nat_lit 42, o42_2) :: (nat_lit 43, o43_2) :: (nat_lit 45, o45_2) :: (nat_lit 46, o46_2) :: (nat_lit 48, o48_2) :: (nat_lit 49, o49_2) :: (nat_lit 50, o50_2) :: (nat_lit 57, o57_2) :: (nat_lit 58, o58_2 P) :: (nat_lit 59, o59_5) :: (nat_lit 60, o60_2) :: (nat_lit 63, o63_2) :: (nat_lit 70, o70_2) :: (nat_lit 71, o71_2 P) :: (nat_lit 72, o72_2) :: (nat_lit 75, o75_2) :: (nat_lit 82, o82_2) :: (nat_lit 84, o84_2) :: (nat_lit 85, o85_2) :: (nat_lit 87, o87_2) :: (nat_lit 88, o88_2) :: (nat_lit 89, o89_2) :: (nat_lit 90, o90_2 P) :: (nat_lit 91, o91_2) :: (nat_lit 94, o94_3) :: (nat_lit 101, o101_3) :: (nat_lit 103, o103_3) :: (nat_lit 104, o104_3) :: (nat_lit 106, o106_3) :: (nat_lit 107, o107_3) :: (nat_lit 108, o108_3) :: (nat_lit 109, o109_3 P) :: (nat_lit 110, o110_3) :: (nat_lit 113, o113_3) :: (nat_lit 120, o120_3) :: (nat_lit 122, o122_3) :: (nat_lit 123, o123_3) :: (nat_lit 125, o125_3) :: (nat_lit 126, o126_3) :: (nat_lit 127, o127_3) :: (nat_lit 128, o128_3 P) :: (nat_lit 129, o129_3) :: (nat_lit 132, o132_3) :: (nat_lit 139, o139_3) :: (nat_lit 141, o141_3) :: (nat_lit 142, o142_3) :: (nat_lit 144, o144_3) :: (nat_lit 145, o145_3) :: (nat_lit 146, o146_3) :: (nat_lit 147, o147_3 P) :: (nat_lit 148, o148_3) :: (nat_lit 151, o151_4) :: (nat_lit 158, o158_4) :: (nat_lit 160, o160_4) :: (nat_lit 161, o161_4) :: (nat_lit 163, o163_4) :: (nat_lit 164, o164_4) :: (nat_lit 165, o165_4) :: (nat_lit 166, o166_4 P) :: (nat_lit 167, o167_4) :: (nat_lit 170, o170_4) :: (nat_lit 177, o177_4) :: (nat_lit 179, o179_4) :: (nat_lit 180, o180_4) :: (nat_lit 182, o182_4) :: (nat_lit 183, o183_4) :: (nat_lit 184, o184_4) :: (nat_lit 185, o185_4 P) :: (nat_lit 186, o186_4) :: (nat_lit 189, o189_4) :: (nat_lit 196, o196_4) :: (nat_lit 198, o198_4) :: (nat_lit 199, o199_4) :: (nat_lit 201, o201_4) :: (nat_lit 202, o202_4) :: (nat_lit 203, o203_4) :: (nat_lit 204, o204_4 P) :: (nat_lit 205, o205_4) :: (nat_lit 208, o208_5) :: (nat_lit 215, o215_5) :: (nat_lit 217, o217_5) :: (nat_lit 218, o218_5) :: (nat_lit 220, o220_5) :: (nat_lit 221, o221_5) :: (nat_lit 222, o222_5) :: (nat_lit 223, o223_5 P) :: (nat_lit 224, o224_5) :: (nat_lit 227, o227_5) :: (nat_lit 234, o234_5) :: (nat_lit 235, o235_5 P) :: (nat_lit 236, o236_5) :: (nat_lit 239, o239_5) :: (nat_lit 241, o241_5) :: (nat_lit 242, o242_5) :: (nat_lit 244, o244_5) :: (nat_lit 245, o245_5) :: (nat_lit 253, o253_5) :: (nat_lit 255, o255_5) :: (nat_lit 256, o256_5) :: (nat_lit 258, o258_5) :: (nat_lit 259, o259_5) :: (nat_lit 260, o260_5) :: (nat_lit 262, o262_5) :: (nat_lit 263, o263_5) :: (nat_lit 265, o265_5) :: (nat_lit 266, o266_5) :: (nat_lit 267, o267_5) :: (nat_lit 269, o269_5) :: (nat_lit 270, o270_5) :: (nat_lit 272, o272_5) :: (nat_lit 273, o273_5) :: (nat_lit 274, o274_5) :: (nat_lit 276, o276_5) :: (nat_lit 277, o277_5) :: (nat_lit 279, o279_5) :: (nat_lit 280, o280_5) :: (nat_lit 281, o281_5) :: (nat_lit 283, o283_5) :: (nat_lit 284, o284_5) :: (nat_lit 286, o286_5) :: (nat_lit 287, o287_5) :: (nat_lit 288, o288_5) :: (nat_lit 289, o289_5 P) :: (nat_lit 290, o290_7) :: (nat_lit 291, o291_5) :: (nat_lit 292, o292_5) :: (nat_lit 295, o295_6) :: (nat_lit 302, o302_6) :: (nat_lit 304, o304_6) :: (nat_lit 305, o305_6) :: (nat_lit 307, o307_6) :: (nat_lit 308, o308_6) :: (nat_lit 309, o309_6) :: (nat_lit 311, o311_6) :: (nat_lit 312, o312_6) :: (nat_lit 314, o314_6) :: (nat_lit 315, o315_6) :: (nat_lit 316, o316_6) :: (nat_lit 317, o317_6 P) :: (nat_lit 318, o318_6) :: (nat_lit 321, o321_6) :: (nat_lit 328, o328_6) :: (nat_lit 330, o330_6) :: (nat_lit 331, o331_6) :: (nat_lit 333, o333_6) :: (nat_lit 334, o334_6) :: (nat_lit 335, o335_6) :: (nat_lit 337, o337_6) :: (nat_lit 338, o338_6) :: (nat_lit 340, o340_6) :: (nat_lit 341, o341_6) :: (nat_lit 342, o342_6) :: (nat_lit 343, o343_6 P) :: (nat_lit 344, o344_6) :: (nat_lit 347, o347_6) :: (nat_lit 354, o354_6) :: (nat_lit 356, o356_6) :: (nat_lit 357, o357_6) :: (nat_lit 359, o359_6) :: (nat_lit 360, o360_6) :: (nat_lit 361, o361_6) :: (nat_lit 363, o363_6) :: (nat_lit 364, o364_6) :: (nat_lit 366, o366_6) :: (nat_lit 367, o367_6) :: (nat_lit 368, o368_6) :: (nat_lit 369, o369_6 P) :: (nat_lit 370, o370_6) :: (nat_lit 373, o373_7) :: (nat_lit 380, o380_7) :: (nat_lit 382, o382_7) :: (nat_lit 383, o383_7) :: (nat_lit 385, o385_7) :: (nat_lit 386, o386_7) :: (nat_lit 387, o387_7) :: (nat_lit 389, o389_7) :: (nat_lit 390, o390_7) :: (nat_lit 392, o392_7) :: (nat_lit 393, o393_7) :: (nat_lit 394, o394_7) :: (nat_lit 396, o396_7) :: (nat_lit 397, o397_7) :: (nat_lit 399, o399_7) :: (nat_lit 400, o400_7) :: (nat_lit 401, o401_7) :: (nat_lit 403, o403_7) :: (nat_lit 404, o404_7) :: (nat_lit 406, o406_7) :: (nat_lit 407, o407_7) :: (nat_lit 408, o408_7) :: (nat_lit 409, o409_7 P) :: (nat_lit 410, o410_7) :: (nat_lit 413, o413_7) :: (nat_lit 420, o420_7) :: (nat_lit 422, o422_7) :: (nat_lit 423, o423_7) :: (nat_lit 425, o425_7) :: (nat_lit 426, o426_7) :: (nat_lit 427, o427_7) :: (nat_lit 429, o429_7) :: (nat_lit 430, o430_7) :: (nat_lit 432, o432_7) :: (nat_lit 433, o433_7) :: (nat_lit 434, o434_7) :: (nat_lit 436, o436_7) :: (nat_lit 437, o437_7) :: (nat_lit 439, o439_7) :: (nat_lit 440, o440_7) :: (nat_lit 441, o441_7) :: (nat_lit 443, o443_7) :: (nat_lit 444, o444_7) :: (nat_lit 446, o446_7) :: (nat_lit 447, o447_7) :: (nat_lit 448, o448_7) :: (nat_lit 449, o449_7 P) :: (nat_lit 450, o450_7) :: (nat_lit 453, o453_7) :: (nat_lit 455, o455_7) :: (nat_lit 456, o456_7) :: (nat_lit 458, o458_7) :: (nat_lit 459, o459_7) :: (nat_lit 460, o460_7) :: (nat_lit 462, o462_7) :: (nat_lit 463, o463_7) :: (nat_lit 465, o465_7) :: (nat_lit 466, o466_7) :: (nat_lit 467, o467_7) :: (nat_lit 469, o469_7) :: (nat_lit 470, o470_7) :: (nat_lit 472, o472_7) :: (nat_lit 473, o473_7) :: (nat_lit 474, o474_7) :: (nat_lit 477, o477_7) :: (nat_lit 478, o478_7) :: (nat_lit 479, o479_7) :: (nat_lit 481, o481_7) :: (nat_lit 482, o482_7) :: (nat_lit 484, o484_7) :: (nat_lit 485, o485_7) :: (nat_lit 486, o486_7) :: (nat_lit 488, o488_7) :: (nat_lit 489, o489_7) :: (nat_lit 491, o491_7) :: (nat_lit 492, o492_7) :: (nat_lit 493, o493_8) :: (nat_lit 495, o495_8) :: (nat_lit 496, o496_8) :: (nat_lit 498, o498_8) :: (nat_lit 499, o499_8) :: (nat_lit 500, o500_8) :: (nat_lit 502, o502_8) :: (nat_lit 503, o503_8) :: (nat_lit 505, o505_8) :: (nat_lit 506, o506_8) :: []
noncomputable def f_0 (P : Params) (r : List (Nat × Obj)) : List (Nat × Obj) := (2, boot_o_2 P) :: (3, o3_8 P) :: (15, o15_2) :: (17, o17_2) :: (18, o18_2) :: (20, o20_2) :: (21, o21_2) :: (22, o22_2) :: (24, o24_2) :: (25, o25_2) :: (27, o27_2) :: (28, o28_2) :: (29, o29_2) :: (31, o31_2) :: (32, o32_2) :: (34, o34_2) :: (35, o35_2) :: (36, o36_2) :: (38, o38_2) :: (39, o39_2) :: (41, o41_2) :: (42, o42_2) :: (43, o43_2) :: (45, o45_2) :: r
noncomputable def f_1 (P : Params) (r : List (Nat × Obj)) : List (Nat × Obj) := (46, o46_2) :: (48, o48_2) :: (49, o49_2) :: (50, o50_2) :: (57, o57_2) :: (58, o58_2 P) :: (59, o59_5) :: (60, o60_2) :: (63, o63_2) :: (70, o70_2) :: (71, o71_2 P) :: (72, o72_2) :: (75, o75_2) :: (82, o82_2) :: (84, o84_2) :: (85, o85_2) :: (87, o87_2) :: (88, o88_2) :: (89, o89_2) :: (90, o90_2 P) :: (91, o91_2) :: (94, o94_3) :: (101, o101_3) :: (103, o103_3) :: r
noncomputable def f_2 (P : Params) (r : List (Nat × Obj)) : List (Nat × Obj) := (104, o104_3) :: (106, o106_3) :: (107, o107_3) :: (108, o108_3) :: (109, o109_3 P) :: (110, o110_3) :: (113, o113_3) :: (120, o120_3) :: (122, o122_3) :: (123, o123_3) :: (125, o125_3) :: (126, o126_3) :: (127, o127_3) :: (128, o128_3 P) :: (129, o129_3) :: (132, o132_3) :: (139, o139_3) :: (141, o141_3) :: (142, o142_3) :: (144, o144_3) :: (145, o145_3) :: (146, o146_3) :: (147, o147_3 P) :: (148, o148_3) :: r
noncomputable def f_3 (P : Params) (r : List (Nat × Obj)) : List (Nat × Obj) := (151, o151_4) :: (158, o158_4) :: (160, o160_4) :: (161, o161_4) :: (163, o163_4) :: (164, o164_4) :: (165, o165_4) :: (166, o166_4 P) :: (167, o167_4) :: (170, o170_4) :: (177, o177_4) :: (179, o179_4) :: (180, o180_4) :: (182, o182_4) :: (183, o183_4) :: (184, o184_4) :: (185, o185_4 P) :: (186, o186_4) :: (189, o189_4) :: (196, o196_4) :: (198, o198_4) :: (199, o199_4) :: (201, o201_4) :: (202, o202_4) :: r
noncomputable def f_4 (P : Params) (r : List (Nat × Obj)) : List (Nat × Obj) := (203, o203_4) :: (204, o204_4 P) :: (205, o205_4) :: (208, o208_5) :: (215, o215_5) :: (217, o217_5) :: (218, o218_5) :: (220, o220_5) :: (221, o221_5) :: (222, o222_5) :: (223, o223_5 P) :: (224, o224_5) :: (227, o227_5) :: (234, o234_5) :: (235, o235_5 P) :: (236, o236_5) :: (239, o239_5) :: (241, o241_5) :: (242, o242_5) :: (244, o244_5) :: (245, o245_5) :: (253, o253_5) :: (255, o255_5) :: (256, o256_5) :: r
noncomputable def f_5 (P : Params) (r : List (Nat × Obj)) : List (Nat × Obj) := (258, o258_5) :: (259, o259_5) :: (260, o260_5) :: (262, o262_5) :: (263, o263_5) :: (265, o265_5) :: (266, o266_5) :: (267, o267_5) :: (269, o269_5) :: (270, o270_5) :: (272, o272_5) :: (273, o273_5) :: (274, o274_5) :: (276, o276_5) :: (277, o277_5) :: (279, o279_5) :: (280, o280_5) :: (281, o281_5) :: (283, o283_5) :: (284, o284_5) :: (286, o286_5) :: (287, o287_5) :: (288, o288_5) :: (289, o289_5 P) :: r
noncomputable def f_6 (P : Params) (r : List (Nat × Obj)) : List (Nat × Obj) := (290, o290_7) :: (291, o291_5) :: (292, o292_5) :: (295, o295_6) :: (302, o302_6) :: (304, o304_6) :: (305, o305_6) :: (307, o307_6) :: (308, o308_6) :: (309, o309_6) :: (311, o311_6) :: (312, o312_6) :: (314, o314_6) :: (315, o315_6) :: (316, o316_6) :: (317, o317_6 P) :: (318, o318_6) :: (321, o321_6) :: (328, o328_6) :: (330, o330_6) :: (331, o331_6) :: (333, o333_6) :: (334, o334_6) :: (335, o335_6) :: r
noncomputable def f_7 (P : Params) (r : List (Nat × Obj)) : List (Nat × Obj) := (337, o337_6) :: (338, o338_6) :: (340, o340_6) :: (341, o341_6) :: (342, o342_6) :: (343, o343_6 P) :: (344, o344_6) :: (347, o347_6) :: (354, o354_6) :: (356, o356_6) :: (357, o357_6) :: (359, o359_6) :: (360, o360_6) :: (361, o361_6) :: (363, o363_6) :: (364, o364_6) :: (366, o366_6) :: (367, o367_6) :: (368, o368_6) :: (369, o369_6 P) :: (370, o370_6) :: (373, o373_7) :: (380, o380_7) :: (382, o382_7) :: r
noncomputable def f_8 (P : Params) (r : List (Nat × Obj)) : List (Nat × Obj) := (383, o383_7) :: (385, o385_7) :: (386, o386_7) :: (387, o387_7) :: (389, o389_7) :: (390, o390_7) :: (392, o392_7) :: (393, o393_7) :: (394, o394_7) :: (396, o396_7) :: (397, o397_7) :: (399, o399_7) :: (400, o400_7) :: (401, o401_7) :: (403, o403_7) :: (404, o404_7) :: (406, o406_7) :: (407, o407_7) :: (408, o408_7) :: (409, o409_7 P) :: (410, o410_7) :: (413, o413_7) :: (420, o420_7) :: (422, o422_7) :: r
noncomputable def f_9 (P : Params) (r : List (Nat × Obj)) : List (Nat × Obj) := (423, o423_7) :: (425, o425_7) :: (426, o426_7) :: (427, o427_7) :: (429, o429_7) :: (430, o430_7) :: (432, o432_7) :: (433, o433_7) :: (434, o434_7) :: (436, o436_7) :: (437, o437_7) :: (439, o439_7) :: (440, o440_7) :: (441, o441_7) :: (443, o443_7) :: (444, o444_7) :: (446, o446_7) :: (447, o447_7) :: (448, o448_7) :: (449, o449_7 P) :: (450, o450_7) :: (453, o453_7) :: (455, o455_7) :: (456, o456_7) :: r
noncomputable def f_10 (P : Params) (r : List (Nat × Obj)) : List (Nat × Obj) := (458, o458_7) :: (459, o459_7) :: (460, o460_7) :: (462, o462_7) :: (463, o463_7) :: (465, o465_7) :: (466, o466_7) :: (467, o467_7) :: (469, o469_7) :: (470, o470_7) :: (472, o472_7) :: (473, o473_7) :: (474, o474_7) :: (477, o477_7) :: (478, o478_7) :: (479, o479_7) :: (481, o481_7) :: (482, o482_7) :: (484, o484_7) :: (485, o485_7) :: (486, o486_7) :: (488, o488_7) :: (489, o489_7) :: (491, o491_7) :: r
noncomputable def f_11 (P : Params) (r : List (Nat × Obj)) : List (Nat × Obj) := (492, o492_7) :: (493, o493_8) :: (495, o495_8) :: (496, o496_8) :: (498, o498_8) :: (499, o499_8) :: (500, o500_8) :: (502, o502_8) :: (503, o503_8) :: (505, o505_8) :: (506, o506_8) :: r
noncomputable def K2 (P : Params) : Frag := f_0 P (f_1 P (f_2 P (f_3 P (f_4 P (f_5 P (f_6 P (f_7 P (f_8 P (f_9 P (f_10 P (f_11 P ([]))))))))))))
noncomputable def as : List Addr := nat_lit 2 :: nat_lit 3 :: nat_lit 15 :: nat_lit 17 :: nat_lit 18 :: nat_lit 20 :: nat_lit 21 :: nat_lit 22 :: nat_lit 24 :: nat_lit 25 :: nat_lit 27 :: nat_lit 28 :: nat_lit 29 :: nat_lit 31 :: nat_lit 32 :: nat_lit 34 :: nat_lit 35 :: nat_lit 36 :: nat_lit 38 :: nat_lit 39 :: nat_lit 41 :: nat_lit 42 :: nat_lit 43 :: nat_lit 45 :: nat_lit 46 :: nat_lit 48 :: nat_lit 49 :: nat_lit 50 :: nat_lit 57 :: nat_lit 58 :: nat_lit 59 :: nat_lit 60 :: nat_lit 63 :: nat_lit 70 :: nat_lit 71 :: nat_lit 72 :: nat_lit 75 :: nat_lit 82 :: nat_lit 84 :: nat_lit 85 :: nat_lit 87 :: nat_lit 88 :: nat_lit 89 :: nat_lit 90 :: nat_lit 91 :: nat_lit 94 :: nat_lit 101 :: nat_lit 103 :: nat_lit 104 :: nat_lit 106 :: nat_lit 107 :: nat_lit 108 :: nat_lit 109 :: nat_lit 110 :: nat_lit 113 :: nat_lit 120 :: nat_lit 122 :: nat_lit 123 :: nat_lit 125 :: nat_lit 126 :: nat_lit 127 :: nat_lit 128 :: nat_lit 129 :: nat_lit 132 :: nat_lit 139 :: nat_lit 141 :: nat_lit 142 :: nat_lit 144 :: nat_lit 145 :: nat_lit 146 :: nat_lit 147 :: nat_lit 148 :: nat_lit 151 :: nat_lit 158 :: nat_lit 160 :: nat_lit 161 :: nat_lit 163 :: nat_lit 164 :: nat_lit 165 :: nat_lit 166 :: nat_lit 167 :: nat_lit 170 :: nat_lit 177 :: nat_lit 179 :: nat_lit 180 :: nat_lit 182 :: nat_lit 183 :: nat_lit 184 :: nat_lit 185 :: nat_lit 186 :: nat_lit 189 :: nat_lit 196 :: nat_lit 198 :: nat_lit 199 :: nat_lit 201 :: nat_lit 202 :: nat_lit 203 :: nat_lit 204 :: nat_lit 205 :: nat_lit 208 :: nat_lit 215 :: nat_lit 217 :: nat_lit 218 :: nat_lit 220 :: nat_lit 221 :: nat_lit 222 :: nat_lit 223 :: nat_lit 224 :: nat_lit 227 :: nat_lit 234 :: nat_lit 235 :: nat_lit 236 :: nat_lit 239 :: nat_lit 241 :: nat_lit 242 :: nat_lit 244 :: nat_lit 245 :: nat_lit 253 :: nat_lit 255 :: nat_lit 256 :: nat_lit 258 :: nat_lit 259 :: nat_lit 260 :: nat_lit 262 :: nat_lit 263 :: nat_lit 265 :: nat_lit 266 :: nat_lit 267 :: nat_lit 269 :: nat_lit 270 :: nat_lit 272 :: nat_lit 273 :: nat_lit 274 :: nat_lit 276 :: nat_lit 277 :: nat_lit 279 :: nat_lit 280 :: nat_lit 281 :: nat_lit 283 :: nat_lit 284 :: nat_lit 286 :: nat_lit 287 :: nat_lit 288 :: nat_lit 289 :: nat_lit 290 :: nat_lit 291 :: nat_lit 292 :: nat_lit 295 :: nat_lit 302 :: nat_lit 304 :: nat_lit 305 :: nat_lit 307 :: nat_lit 308 :: nat_lit 309 :: nat_lit 311 :: nat_lit 312 :: nat_lit 314 :: nat_lit 315 :: nat_lit 316 :: nat_lit 317 :: nat_lit 318 :: nat_lit 321 :: nat_lit 328 :: nat_lit 330 :: nat_lit 331 :: nat_lit 333 :: nat_lit 334 :: nat_lit 335 :: nat_lit 337 :: nat_lit 338 :: nat_lit 340 :: nat_lit 341 :: nat_lit 342 :: nat_lit 343 :: nat_lit 344 :: nat_lit 347 :: nat_lit 354 :: nat_lit 356 :: nat_lit 357 :: nat_lit 359 :: nat_lit 360 :: nat_lit 361 :: nat_lit 363 :: nat_lit 364 :: nat_lit 366 :: nat_lit 367 :: nat_lit 368 :: nat_lit 369 :: nat_lit 370 :: nat_lit 373 :: nat_lit 380 :: nat_lit 382 :: nat_lit 383 :: nat_lit 385 :: nat_lit 386 :: nat_lit 387 :: nat_lit 389 :: nat_lit 390 :: nat_lit 392 :: nat_lit 393 :: nat_lit 394 :: nat_lit 396 :: nat_lit 397 :: nat_lit 399 :: nat_lit 400 :: nat_lit 401 :: nat_lit 403 :: nat_lit 404 :: nat_lit 406 :: nat_lit 407 :: nat_lit 408 :: nat_lit 409 :: nat_lit 410 :: nat_lit 413 :: nat_lit 420 :: nat_lit 422 :: nat_lit 423 :: nat_lit 425 :: nat_lit 426 :: nat_lit 427 :: nat_lit 429 :: nat_lit 430 :: nat_lit 432 :: nat_lit 433 :: nat_lit 434 :: nat_lit 436 :: nat_lit 437 :: nat_lit 439 :: nat_lit 440 :: nat_lit 441 :: nat_lit 443 :: nat_lit 444 :: nat_lit 446 :: nat_lit 447 :: nat_lit 448 :: nat_lit 449 :: nat_lit 450 :: nat_lit 453 :: nat_lit 455 :: nat_lit 456 :: nat_lit 458 :: nat_lit 459 :: nat_lit 460 :: nat_lit 462 :: nat_lit 463 :: nat_lit 465 :: nat_lit 466 :: nat_lit 467 :: nat_lit 469 :: nat_lit 470 :: nat_lit 472 :: nat_lit 473 :: nat_lit 474 :: nat_lit 477 :: nat_lit 478 :: nat_lit 479 :: nat_lit 481 :: nat_lit 482 :: nat_lit 484 :: nat_lit 485 :: nat_lit 486 :: nat_lit 488 :: nat_lit 489 :: nat_lit 491 :: nat_lit 492 :: nat_lit 493 :: nat_lit 495 :: nat_lit 496 :: nat_lit 498 :: nat_lit 499 :: nat_lit 500 :: nat_lit 502 :: nat_lit 503 :: nat_lit 505 :: nat_lit 506 :: []
noncomputable def H : Hook := kHook K as (fun _ => by kernel_rfl)
noncomputable abbrev R : WRecords := RowW.records (OpenRow.toRowW (OpenLaw.row PySem.Challenge.rw_joinload_k09_rules_by_titles))
noncomputable abbrev Xt (s : Shared) : Bool := xlAt q [] s && recOk R s
noncomputable def Size (w : World) : Prop := ((boot_heap w.params).isNs mainGlobals && (⟨[]⟩ : Array GenState).size == 0, (boot_heap w.params).objs.size, (boot_heap w.params).nsMap mainGlobals "__annotations__") = (true, 11, an)
noncomputable def LA (w : World) : Prop := (fun os => staticsOk (importedModules pw.main.body) (boot_heap w.params) (Hf w.params) && namesBound pw (Hf w.params) && gensDone (Sf w os) && laidKept (boot_heap w.params) (Hf w.params)) = fun _ => true
noncomputable def Ls1 (w : World) : Prop := (fun os => seen ((recsOf q).map (·.name)) (ownsOf q) [] { Sf w os with gens := #[] }) = fun _ => expectedOf q
noncomputable def Ls2 (w : World) : Prop := (fun os => (Sf w os).heap.bltView) = fun _ => bltViewBooted
noncomputable def Ls3 (w : World) : Prop := (fun os => (Sf w os).heap.keysOk (looseW q []) ((recsOf q).map (·.name)) ((litsOf q).map (·.1)) ((clssOf q (looseW q [])).map (·.name)) && (Sf w os).heap.accountedOkI (importedModules pw.main.body) && (Sf w os).heap.isNs mainGlobals && (Sf w os).heap.isNs builtinsNs && tablesOk q (Sf w os).heap && Xt (Sf w os) && (if true then (Sf w os).gens.size == 0 else !leftWithCleanup (Sf w os).gens)) = fun _ => true
noncomputable def Ls4 (w : World) : Prop := (fun os => tabsOk q (Sf w os)) = fun _ => true
noncomputable def Ls5 (w : World) : Prop := (fun os => pinSeenD q (drecsOf q) (Sf w os)) = fun _ => pinGoodD (drecsOf q)
noncomputable def Ls6 (w : World) : Prop := (fun os => plainSeenE q (looseW q []) (Sf w os)) = fun _ => plainGoodE q (looseW q [])
noncomputable def Ls7 (w : World) : Prop := (fun os => plainSeenD q [] (Sf w os)) = fun _ => plainGoodD q []
noncomputable def Ls8 (w : World) : Prop := (fun os => wideSeen q (Sf w os)) = fun _ => wideGood q
noncomputable def Ls9 (w : World) : Prop := (fun os => clsSeenW q [] (Sf w os)) = fun _ => clsGoodW q []
noncomputable def Yk (w : World) : Prop := (fun os => as.map (Sf w os).heap.get?) = fun _ => (K2 w.params).map fun p => some p.2
theorem K_is : K = K2 := by kernel_rfl
theorem Pre_r : Pre = Pre := rfl
theorem Blk_r : Blk = Blk := rfl
theorem P0_r : P0 = P0 := rfl
theorem P1_r : P1 = P1 := rfl
theorem P2_r : P2 = P2 := rfl
theorem P3_r : P3 = P3 := rfl
theorem P4_r : P4 = P4 := rfl
theorem P5_r : P5 = P5 := rfl
theorem P6_r : P6 = P6 := rfl
theorem Fin_r : Fin = Fin := rfl
theorem Size_r : Size = Size := rfl
theorem LA_r : LA = LA := rfl
theorem Ls1_r : Ls1 = Ls1 := rfl
theorem Ls2_r : Ls2 = Ls2 := rfl
theorem Ls3_r : Ls3 = Ls3 := rfl
theorem Ls4_r : Ls4 = Ls4 := rfl
theorem Ls5_r : Ls5 = Ls5 := rfl
theorem Ls6_r : Ls6 = Ls6 := rfl
theorem Ls7_r : Ls7 = Ls7 := rfl
theorem Ls8_r : Ls8 = Ls8 := rfl
theorem Ls9_r : Ls9 = Ls9 := rfl
theorem Yk_r : Yk = Yk := rfl
end Hd
name_quick hdPre for Hd.Pre by Hd.Pre_r
name_quick hdBlk for Hd.Blk by Hd.Blk_r
name_quick hdP0 for Hd.P0 by Hd.P0_r
name_quick hdP1 for Hd.P1 by Hd.P1_r
name_quick hdP2 for Hd.P2 by Hd.P2_r
name_quick hdP3 for Hd.P3 by Hd.P3_r
name_quick hdP4 for Hd.P4 by Hd.P4_r
name_quick hdP5 for Hd.P5 by Hd.P5_r
name_quick hdP6 for Hd.P6 by Hd.P6_r
name_quick hdFin for Hd.Fin by Hd.Fin_r
name_quick hdSize for Hd.Size by Hd.Size_r
name_quick hdLA for Hd.LA by Hd.LA_r
name_quick hdLs1 for Hd.Ls1 by Hd.Ls1_r
name_quick hdLs2 for Hd.Ls2 by Hd.Ls2_r
name_quick hdLs3 for Hd.Ls3 by Hd.Ls3_r
name_quick hdLs4 for Hd.Ls4 by Hd.Ls4_r
name_quick hdLs5 for Hd.Ls5 by Hd.Ls5_r
name_quick hdLs6 for Hd.Ls6 by Hd.Ls6_r
name_quick hdLs7 for Hd.Ls7 by Hd.Ls7_r
name_quick hdLs8 for Hd.Ls8 by Hd.Ls8_r
name_quick hdLs9 for Hd.Ls9 by Hd.Ls9_r
name_quick hdYk for Hd.Yk by Hd.Yk_r
namespace Hd
open PySem PySem.W PySem.Calls PyProof.Rows
theorem Pre_h (w : World) : Pre w := by
  rw [show Pre w = PySem.W.Fast.hdPre w from congrFun PySem.W.Fast.hdPre_eq w]
  delta PySem.W.Fast.hdPre PySem.W.Fast.tw7651035101826984186
  kernel_rfl
theorem Blk_h (w : World) : Blk w := by
  rw [show Blk w = PySem.W.Fast.hdBlk w from congrFun PySem.W.Fast.hdBlk_eq w]
  delta PySem.W.Fast.hdBlk PySem.W.Fast.tw10272554187927912860
  kernel_rfl
theorem P0_h (w : World) : P0 w := by
  rw [show P0 w = PySem.W.Fast.hdP0 w from congrFun PySem.W.Fast.hdP0_eq w]
  delta PySem.W.Fast.hdP0 PySem.W.Fast.tw2223480372460268926 PySem.W.Fast.tw16301345103801407739
  kernel_rfl
theorem P1_h (w : World) : P1 w := by
  rw [show P1 w = PySem.W.Fast.hdP1 w from congrFun PySem.W.Fast.hdP1_eq w]
  delta PySem.W.Fast.hdP1 PySem.W.Fast.tw14855786421978465553 PySem.W.Fast.tw16301345103801407739
  kernel_rfl
theorem P2_h (w : World) : P2 w := by
  rw [show P2 w = PySem.W.Fast.hdP2 w from congrFun PySem.W.Fast.hdP2_eq w]
  delta PySem.W.Fast.hdP2 PySem.W.Fast.tw6117723192894798286 PySem.W.Fast.tw16301345103801407739
  kernel_rfl
theorem P3_h (w : World) : P3 w := by
  rw [show P3 w = PySem.W.Fast.hdP3 w from congrFun PySem.W.Fast.hdP3_eq w]
  delta PySem.W.Fast.hdP3 PySem.W.Fast.tw4020557457582994402 PySem.W.Fast.tw16301345103801407739
  kernel_rfl
theorem P4_h (w : World) : P4 w := by
  rw [show P4 w = PySem.W.Fast.hdP4 w from congrFun PySem.W.Fast.hdP4_eq w]
  delta PySem.W.Fast.hdP4 PySem.W.Fast.tw16968994527078285662 PySem.W.Fast.tw16301345103801407739
  kernel_rfl
theorem P5_h (w : World) : P5 w := by
  rw [show P5 w = PySem.W.Fast.hdP5 w from congrFun PySem.W.Fast.hdP5_eq w]
  delta PySem.W.Fast.hdP5 PySem.W.Fast.tw18047075776830140373 PySem.W.Fast.tw16301345103801407739
  kernel_rfl
theorem P6_h (w : World) : P6 w := by
  rw [show P6 w = PySem.W.Fast.hdP6 w from congrFun PySem.W.Fast.hdP6_eq w]
  delta PySem.W.Fast.hdP6 PySem.W.Fast.tw5004932457486282805 PySem.W.Fast.tw16301345103801407739
  kernel_rfl
theorem Fin_h (w : World) : Fin w := by
  rw [show Fin w = PySem.W.Fast.hdFin w from congrFun PySem.W.Fast.hdFin_eq w]
  delta PySem.W.Fast.hdFin PySem.W.Fast.tw4976735305809376593
  kernel_rfl
theorem Size_h (w : World) : Size w := by
  rw [show Size w = PySem.W.Fast.hdSize w from congrFun PySem.W.Fast.hdSize_eq w]
  delta PySem.W.Fast.hdSize PySem.W.Fast.tw14461627914784175761
  kernel_rfl
theorem LA_h (w : World) : LA w := by
  rw [show LA w = PySem.W.Fast.hdLA w from congrFun PySem.W.Fast.hdLA_eq w]
  delta PySem.W.Fast.hdLA PySem.W.Fast.tw11134583137455730433
  kernel_rfl
theorem Ls1_h (w : World) : Ls1 w := by
  rw [show Ls1 w = PySem.W.Fast.hdLs1 w from congrFun PySem.W.Fast.hdLs1_eq w]
  delta PySem.W.Fast.hdLs1 PySem.W.Fast.tw14098396552713008135
  kernel_rfl
theorem Ls2_h (w : World) : Ls2 w := by
  rw [show Ls2 w = PySem.W.Fast.hdLs2 w from congrFun PySem.W.Fast.hdLs2_eq w]
  delta PySem.W.Fast.hdLs2 PySem.W.Fast.tw6547580189001637342
  kernel_rfl
theorem Ls3_h (w : World) : Ls3 w := by
  rw [show Ls3 w = PySem.W.Fast.hdLs3 w from congrFun PySem.W.Fast.hdLs3_eq w]
  delta PySem.W.Fast.hdLs3 PySem.W.Fast.tw10934468223134025866
  kernel_rfl
theorem Ls4_h (w : World) : Ls4 w := by
  rw [show Ls4 w = PySem.W.Fast.hdLs4 w from congrFun PySem.W.Fast.hdLs4_eq w]
  delta PySem.W.Fast.hdLs4 PySem.W.Fast.tw13894289833044730176
  kernel_rfl
theorem Ls5_h (w : World) : Ls5 w := by
  rw [show Ls5 w = PySem.W.Fast.hdLs5 w from congrFun PySem.W.Fast.hdLs5_eq w]
  delta PySem.W.Fast.hdLs5 PySem.W.Fast.tw11162159950934395656
  kernel_rfl
theorem Ls6_h (w : World) : Ls6 w := by
  rw [show Ls6 w = PySem.W.Fast.hdLs6 w from congrFun PySem.W.Fast.hdLs6_eq w]
  delta PySem.W.Fast.hdLs6 PySem.W.Fast.tw9014929701734557122
  kernel_rfl
theorem Ls7_h (w : World) : Ls7 w := by
  rw [show Ls7 w = PySem.W.Fast.hdLs7 w from congrFun PySem.W.Fast.hdLs7_eq w]
  delta PySem.W.Fast.hdLs7 PySem.W.Fast.tw16695146034332369646
  kernel_rfl
theorem Ls8_h (w : World) : Ls8 w := by
  rw [show Ls8 w = PySem.W.Fast.hdLs8 w from congrFun PySem.W.Fast.hdLs8_eq w]
  delta PySem.W.Fast.hdLs8 PySem.W.Fast.tw13045354483572663336
  kernel_rfl
theorem Ls9_h (w : World) : Ls9 w := by
  rw [show Ls9 w = PySem.W.Fast.hdLs9 w from congrFun PySem.W.Fast.hdLs9_eq w]
  delta PySem.W.Fast.hdLs9 PySem.W.Fast.tw9459536174771691377
  kernel_rfl
theorem Yk_h (w : World) : Yk w := by
  rw [show Yk w = PySem.W.Fast.hdYk w from congrFun PySem.W.Fast.hdYk_eq w]
  delta PySem.W.Fast.hdYk PySem.W.Fast.tw3491827284470035837
  kernel_rfl
noncomputable def R6 : List Stmt := L6 ++ []
noncomputable def R5 : List Stmt := L5 ++ R6
noncomputable def R4 : List Stmt := L4 ++ R5
noncomputable def R3 : List Stmt := L3 ++ R4
noncomputable def R2 : List Stmt := L2 ++ R3
noncomputable def R1 : List Stmt := L1 ++ R2
noncomputable def R0 : List Stmt := L0 ++ R1
theorem bd_is : bd = R0 := by kernel_rfl
theorem rest_h (w : World) (os : OsState) : topRun treeTable pw w 11 an (822 + (742 + (742 + (850 + (838 + (872 + (64 + 2))))))) (S0T w os).abs (restOf R0 en cE ⟨0, 0, 0, 0⟩ B) = some (Sf w os) :=
  (piece_app (l := L0) (segRun_of (congrFun (P0_h w) os)) (piece_app (l := L1) (segRun_of (congrFun (P1_h w) os)) (piece_app (l := L2) (segRun_of (congrFun (P2_h w) os)) (piece_app (l := L3) (segRun_of (congrFun (P3_h w) os)) (piece_app (l := L4) (segRun_of (congrFun (P4_h w) os)) (piece_app (l := L5) (segRun_of (congrFun (P5_h w) os)) (piece_app (l := L6) (segRun_of (congrFun (P6_h w) os)) (congrFun (Fin_h w) os))))))))
theorem run_h (w : World) (os : OsState) : topRun treeTable pw w 11 an (12 + (1 + (822 + (742 + (742 + (850 + (838 + (872 + (64 + 2))))))))) (S0 w os) (topStub pw) = some (Sf w os) :=
  go_top (congrFun (Pre_h w) os) (piece_block (congrFun (Blk_h w) os) (by
    rw [show restOf bd en cE ⟨0, 0, 0, 0⟩ B = restOf R0 en cE ⟨0, 0, 0, 0⟩ B from congrArg (fun l => restOf l en cE ⟨0, 0, 0, 0⟩ B) bd_is]
    exact rest_h w os))
theorem Yk_k (w : World) (os : OsState) : Hook.obs H (Sf w os) = Hook.val H w := by
  show as.map (Sf w os).heap.get? = (K w.params).map fun p => some p.2
  rw [K_is]; exact congrFun (Yk_h w) os
theorem left_h : LeftO pw q [] Xt (Hook.obs H) (Hook.val H) 9972 :=
  LeftO.of_pieces (H₀ := boot_heap) (H₁ := Hf) (m₀ := 11) (ann := an) (boot_open rfl rfl (fun _ => rfl)) Size_h run_h (by decide +kernel) fun w => funext fun os =>
    looks_pair (congrFun (LA_h w) os) (looks_pair
      (show openSeen q [] (importedModules pw.main.body) Xt true (Sf w os) = openGood q [] from
        looks_pair (congrFun (Ls1_h w) os) (looks_pair (congrFun (Ls2_h w) os) (looks_pair (congrFun (Ls3_h w) os) (looks_pair (congrFun (Ls4_h w) os) (looks_pair (congrFun (Ls5_h w) os) (looks_pair (congrFun (Ls6_h w) os) (looks_pair (congrFun (Ls7_h w) os) (looks_pair (congrFun (Ls8_h w) os) (congrFun (Ls9_h w) os)))))))))
      (Yk_k w os))
end Hd
open PySem PySem.W PyProof.Rows
set_option maxRecDepth 100000 in
set_option maxHeartbeats 0 in
theorem PySem.Challenge.cw_joinload_k09_rules_by_titles_holds : PySem.Challenge.rw_joinload_k09_rules_by_titles.Holds := by
  w_on; o_law
  refine holds_open (q := Hd.q) (loose := []) (Xt := Hd.Xt) (XP := XL Hd.q []) (Yf := Hook.obs Hd.H) (Ya := Hook.val Hd.H) (YP := InK Hd.K) Hd.left_h (Hook.of Hd.H) (Hook.keeps Hd.H) (fun s e => xl_of s (Bool.and_eq_true_iff.mp e).1) XL.keeps (by rfl) (by rfl) (by rfl) (fun s e => recFacts_of (Bool.and_eq_true_iff.mp e).2) (by rfl) (by first | assumption | decide +kernel) (by decide +kernel) ⟨rfl, rfl, rfl, rfl, rfl, by decide +kernel⟩ ?hw ?hc
  (case hw => w_witness2)
  k_fill
  refine My.walk (l := PySem.Challenge.rw_joinload_k09_rules_by_titles) (K := Hd.K) rfl rfl (fun w h Y => Y) ?F
  case F =>
    intro w mg fa h KX G hmg
    refine' My.all_mk KX G hmg ?ac_High ?ac_JoinError ?ac_Lost ?ac_Low ?ac_Near ?ac_NoBase ?ac_NoPiece ?ac_NoRule ?ac_NoSense ?ac_NoWhole ?ac_Rule ?ac_SameName ?ac_Split ?ac_TooFar ?ac_Twice ?ac_Unmet ?ac_Whole ?a_rule_of ?l_rule_of ?e_rule_of ?k_rule_of ?a_Rule___init__ ?i_Rule___init__ ?l_Rule___init__ ?e_Rule___init__ ?k_Rule___init__ ?a_Rule_leans ?i_Rule_leans ?l_Rule_leans ?e_Rule_leans ?k_Rule_leans ?a_Near_leans ?i_Near_leans ?l_Near_leans ?e_Near_leans ?k_Near_leans ?a_Split_leans ?i_Split_leans ?l_Split_leans ?e_Split_leans ?k_Split_leans ?a__law_sign_by ?l__law_sign_by ?e__law_sign_by ?k__law_sign_by ?a__law_title ?l__law_title ?e__law_title ?k__law_title ?a__law_text_by ?l__law_text_by ?e__law_text_by ?k__law_text_by ?a__law_told_of ?l__law_told_of ?e__law_told_of ?k__law_told_of ?a__law_refused ?l__law_refused ?e__law_refused ?k__law_refused ?a__law_holds ?l__law_holds ?e__law_holds ?k__law_holds ?a_law ?l_law ?e_law ?k_law ?fi_Low ?fi_Near ?fi_Split ?fi_Whole ?fm_Low_leans ?fm_Whole_leans ?pg_High ?hd_High ?po_High ?sa_High ?mm_High ?kc_High ?pg_Low ?hd_Low ?po_Low ?sa_Low ?mm_Low ?kc_Low ?pg_Near ?hd_Near ?po_Near ?sa_Near ?mm_Near ?kc_Near ?pg_Rule ?hd_Rule ?po_Rule ?sa_Rule ?pg_Split ?hd_Split ?po_Split ?sa_Split ?mm_Split ?kc_Split ?pg_Whole ?hd_Whole ?po_Whole ?sa_Whole ?mm_Whole ?kc_Whole ?kv ?ka ?kj ?kr_Whole ?kr_High ?kr_Low ?kr_Near ?kr_Split ?kc_l_Whole ?kc_l_High ?kc_l_Low ?kc_l_Near ?kc_l_Split ?ko_Whole ?ko_High ?ko_Low ?ko_Near ?ko_Split ?xg_NoRule ?xn_NoRule ?xl_NoRule ?xo_NoRule ?xb_NoRule ?sp_cl ?tk_cl ?xi_NoRule ?ct_JoinError ?cb_JoinError ?no_Whole_title ?no_High_title ?no_Low_title ?no_Near_title ?no_Split_title ?n_ValueError ?n_isinstance ?n_len ?n_range ?n_str
    (case ac_High => k_is)
    (case ac_JoinError => k_is)
    (case ac_Lost => k_is)
    (case ac_Low => k_is)
    (case ac_Near => k_is)
    (case ac_NoBase => k_is)
    (case ac_NoPiece => k_is)
    (case ac_NoRule => k_is)
    (case ac_NoSense => k_is)
    (case ac_NoWhole => k_is)
    (case ac_Rule => k_is)
    (case ac_SameName => k_is)
    (case ac_Split => k_is)
    (case ac_TooFar => k_is)
    (case ac_Twice => k_is)
    (case ac_Unmet => k_is)
    (case ac_Whole => k_is)
    (case a_rule_of => k_is)
    (case l_rule_of => k_is)
    (case e_rule_of => k_is)
    (case k_rule_of => k_is)
    (case a_Rule___init__ => k_is)
    (case i_Rule___init__ => k_is)
    (case l_Rule___init__ => k_is)
    (case e_Rule___init__ => k_is)
    (case k_Rule___init__ => k_is)
    (case a_Rule_leans => k_is)
    (case i_Rule_leans => k_is)
    (case l_Rule_leans => k_is)
    (case e_Rule_leans => k_is)
    (case k_Rule_leans => k_is)
    (case a_Near_leans => k_is)
    (case i_Near_leans => k_is)
    (case l_Near_leans => k_is)
    (case e_Near_leans => k_is)
    (case k_Near_leans => k_is)
    (case a_Split_leans => k_is)
    (case i_Split_leans => k_is)
    (case l_Split_leans => k_is)
    (case e_Split_leans => k_is)
    (case k_Split_leans => k_is)
    (case a__law_sign_by => k_is)
    (case l__law_sign_by => k_is)
    (case e__law_sign_by => k_is)
    (case k__law_sign_by => k_is)
    (case a__law_title => k_is)
    (case l__law_title => k_is)
    (case e__law_title => k_is)
    (case k__law_title => k_is)
    (case a__law_text_by => k_is)
    (case l__law_text_by => k_is)
    (case e__law_text_by => k_is)
    (case k__law_text_by => k_is)
    (case a__law_told_of => k_is)
    (case l__law_told_of => k_is)
    (case e__law_told_of => k_is)
    (case k__law_told_of => k_is)
    (case a__law_refused => k_is)
    (case l__law_refused => k_is)
    (case e__law_refused => k_is)
    (case k__law_refused => k_is)
    (case a__law_holds => k_is)
    (case l__law_holds => k_is)
    (case e__law_holds => k_is)
    (case k__law_holds => k_is)
    (case a_law => k_is)
    (case l_law => k_is)
    (case e_law => k_is)
    (case k_law => k_is)
    (case fi_Low => k_is)
    (case fi_Near => k_is)
    (case fi_Split => k_is)
    (case fi_Whole => k_is)
    (case fm_Low_leans => k_is)
    (case fm_Whole_leans => k_is)
    (case pg_High => k_is)
    (case hd_High => k_is)
    (case po_High => k_is)
    (case sa_High => k_is)
    (case mm_High => k_is)
    (case kc_High => k_is)
    (case pg_Low => k_is)
    (case hd_Low => k_is)
    (case po_Low => k_is)
    (case sa_Low => k_is)
    (case mm_Low => k_is)
    (case kc_Low => k_is)
    (case pg_Near => k_is)
    (case hd_Near => k_is)
    (case po_Near => k_is)
    (case sa_Near => k_is)
    (case mm_Near => k_is)
    (case kc_Near => k_is)
    (case pg_Rule => k_is)
    (case hd_Rule => k_is)
    (case po_Rule => k_is)
    (case sa_Rule => k_is)
    (case pg_Split => k_is)
    (case hd_Split => k_is)
    (case po_Split => k_is)
    (case sa_Split => k_is)
    (case mm_Split => k_is)
    (case kc_Split => k_is)
    (case pg_Whole => k_is)
    (case hd_Whole => k_is)
    (case po_Whole => k_is)
    (case sa_Whole => k_is)
    (case mm_Whole => k_is)
    (case kc_Whole => k_is)
    (case kv => kit_is)
    (case ka => kit_is)
    (case kj => k_is)
    (case kr_Whole => kit_is)
    (case kr_High => kit_is)
    (case kr_Low => kit_is)
    (case kr_Near => kit_is)
    (case kr_Split => kit_is)
    (case kc_l_Whole => k_is)
    (case kc_l_High => k_is)
    (case kc_l_Low => k_is)
    (case kc_l_Near => k_is)
    (case kc_l_Split => k_is)
    (case ko_Whole => k_is)
    (case ko_High => k_is)
    (case ko_Low => k_is)
    (case ko_Near => k_is)
    (case ko_Split => k_is)
    (case xg_NoRule => k_is)
    (case xn_NoRule => k_is)
    (case xl_NoRule => k_is)
    (case xo_NoRule => k_is)
    (case xb_NoRule => k_is)
    (case sp_cl => k_is)
    (case tk_cl => k_is)
    (case xi_NoRule => k_exc)
    (case ct_JoinError => k_is)
    (case cb_JoinError => k_is)
    (case no_Whole_title => k_is)
    (case no_High_title => k_is)
    (case no_Low_title => k_is)
    (case no_Near_title => k_is)
    (case no_Split_title => k_is)
    (case n_ValueError => k_is)
    (case n_isinstance => k_is)
    (case n_len => k_is)
    (case n_range => k_is)
    (case n_str => k_is)
#print axioms PySem.Challenge.cw_joinload_k09_rules_by_titles_holds
