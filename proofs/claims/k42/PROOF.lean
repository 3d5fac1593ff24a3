import PyProof.Rows.All
import Wide.All
import OpenK.AllK
import Wide.FinOn
import Lean
import PyProof.EqAt
import PyProof.EqKinds
import PyProof.TupleCall
import PyProof.StationsW
import PyProof.ExcAttrAll.ValueError
import KE.KIsAll
import PyProof.RulesAs
import PyProof.NsDelKeeps
import PyProof.FString
import PyProof.FString4
import PyProof.Rows.FStr
import PyProof.Rows.FStrParts
import PyProof.StrCalls2
import PyProof.StrLawsRepr
import PyProof.StrLawsJoin
import PyProof.StrLaws
import PyProof.Rows.ReprOcc
import PyProof.ExcInit
import PyProof.InstStoreFacts
import KE.KDictOf
import PyProof.AttrMissHeap
import PyProof.AttrMissSeq
import PyProof.WalksS
import PyProof.Walks
import PyProof.Seq
import PyProof.DictList
import PyProof.DictUpdate
import PyProof.MakeMany
import PyProof.Rows.SetFrom
import PyProof.ZipIter
import PyProof.Rows.TupDisplay
import PyProof.EnumFor
import PyProof.EnumMake
import PyProof.EnumStmt
import PyProof.SeqI3
import PyProof.Rows.SumAny
import KE.KDictIter
import PyProof.DictWalks
import PyProof.StrLawsChain
import PyProof.StrLawsTight
import KE.KIntText
import PyProof.CallType
import PyProof.Rows.CallKwBuiltin
import PyProof.Draws
import PyProof.DefCall
import PySem.Challenge.RW_joinload_k42_the_first_bad_row_of_a_whol
set_option Elab.async false
set_option linter.all false
set_option maxRecDepth 100000
set_option genSizeOfSpec false
namespace L2
open PySem PySem.Spec PyProof.Rows
noncomputable abbrev Key := Sum Int Str
noncomputable def keyIs : Key → Value → Bool
 | .inl k, v => Value.isInt k v
 | .inr x, v => Value.isStrOf x v
noncomputable def keyH (w : World) : Key → Int
 | .inl k => hashInt k
 | .inr x => hashStr w x
theorem zz22 : ∀ {k : Key} {v : Value}, keyIs k v = true → (∃ i t, k = Sum.inl i ∧ v = Value.int i t) ∨ (∃ x t, k = Sum.inr x ∧ v = Value.str x t)
 | .inl i, v, h => by
   obtain ⟨t, e⟩ := Value.isInt_shape (k := i) (v := v) h
   exact .inl ⟨i, t, rfl, e⟩
 | .inr x, v, h => by
   obtain ⟨t, e⟩ := Value.isStrOf_shape (x := x) (v := v) h
   exact .inr ⟨x, t, rfl, e⟩
theorem keyIs_int (i : Int) (t : Tok) : keyIs (.inl i) (.int i t) = true := by simp [keyIs, Value.isInt]
theorem keyIs_str (x : Str) (t : Tok) : keyIs (.inr x) (.str x t) = true := by simp [keyIs, Value.isStrOf]
theorem key_ll (a b : Int) : decide ((Sum.inl a : Key) = Sum.inl b) = (a == b) := by
 by_cases e : a = b
 · subst e; simp
 · have h : ¬ (Sum.inl a : Key) = Sum.inl b := fun q => e (Sum.inl.inj q)
   rw [decide_eq_false h]
   exact (beq_eq_false_iff_ne.mpr e).symm
theorem key_rr (a b : Str) : decide ((Sum.inr a : Key) = Sum.inr b) = decide (a = b) := by
 by_cases e : a = b
 · subst e; simp
 · have h : ¬ (Sum.inr a : Key) = Sum.inr b := fun q => e (Sum.inr.inj q)
   rw [decide_eq_false h, decide_eq_false e]
theorem key_lr (a : Int) (b : Str) : decide ((Sum.inl a : Key) = Sum.inr b) = false := decide_eq_false (fun q => nomatch q)
theorem key_rl (a : Str) (b : Int) : decide ((Sum.inr a : Key) = Sum.inl b) = false := decide_eq_false (fun q => nomatch q)
noncomputable def mixKind (prog : Program) (w : World) : PySem.KeyKind prog w Key where
 is := keyIs
 hash := keyH w
 inj := fun v a b ha hb => by
   rcases zz22 ha with ⟨i, t, rfl, rfl⟩ | ⟨x, t, rfl, rfl⟩
   · rcases zz22 hb with ⟨j, u, rfl, e⟩ | ⟨y, u, rfl, e⟩
     · injection e with e1 _; rw [e1]
     · exact nomatch e
   · rcases zz22 hb with ⟨j, u, rfl, e⟩ | ⟨y, u, rfl, e⟩
     · exact nomatch e
     · injection e with e1 _; rw [e1]
 byValue := fun k v h => by
   rcases zz22 h with ⟨i, t, rfl, rfl⟩ | ⟨x, t, rfl, rfl⟩ <;> rfl
 pyHash := fun hv h => by
   rcases zz22 hv with ⟨i, t, rfl, rfl⟩ | ⟨x, t, rfl, rfl⟩
   · exact wpAny_pyHash_int h
   · exact wpAny_pyHash_str h
 eqBool := fun hu hv h => by
   rcases zz22 hu with ⟨i, t, rfl, rfl⟩ | ⟨x, t, rfl, rfl⟩
   · rcases zz22 hv with ⟨j, u, rfl, rfl⟩ | ⟨y, u, rfl, rfl⟩
     · rw [key_ll] at h; exact wpAny_eqBool_int h
     · rw [key_lr] at h; exact SeqAt.EqAt.int_str i t y u _ _ _ _ h
   · rcases zz22 hv with ⟨j, u, rfl, rfl⟩ | ⟨y, u, rfl, rfl⟩
     · rw [key_rl] at h; exact SeqAt.EqAt.str_int x t j u _ _ _ _ h
     · rw [key_rr] at h; exact wpAny_eqBool_str h
 «strs» := fun k x t v h => by
   rcases zz22 h with ⟨i, u, rfl, e⟩ | ⟨y, u, rfl, e⟩
   · exact nomatch e
   · injection e with e1 _
     subst e1
     cases v <;> rfl
theorem mixKind_int (prog : Program) (w : World) (i : Int) (t : Tok) : (mixKind prog w).is (.inl i) (.int i t) = true := keyIs_int i t
theorem mixKind_str (prog : Program) (w : World) (x : Str) (t : Tok) : (mixKind prog w).is (.inr x) (.str x t) = true := keyIs_str x t
end L2
namespace L2
open PySem PySem.Spec PyProof.Rows
inductive V where
 | non | bl (b : Bool) | int (i : Int) | str (x : Str) | byt (b : Array UInt8) | flt (b : UInt64) | ref (a : Addr) | ty (n : String)
 deriving DecidableEq
noncomputable def RelV : V → Value → Prop
 | .non, u => u = Value.none
 | .bl b, u => u = Value.bool b
 | .int i, u => ∃ t, u = Value.int i t
 | .str x, u => ∃ t, u = Value.str x t
 | .byt b, u => ∃ t, u = Value.bytes b t
 | .flt b, u => ∃ t, u = Value.float b t
 | .ref a, u => u = Value.ref a
 | .ty n, u => u = Value.type n
noncomputable abbrev Vals : List V → List Value → Prop := Paired RelV
theorem Vals.length {xs : List V} {us : List Value} (r : Vals xs us) : xs.length = us.length := Paired.length r
theorem Vals.get : ∀ {xs : List V} {us : List Value} {i : Nat} {x : V}, Vals xs us → xs[i]? = some x → ∃ u, us[i]? = some u ∧ RelV x u
 | _, _, _, _, .nil, e => by simp at e
 | _, _, 0, _, .cons r _, e => by simp at e; subst e; exact ⟨_, rfl, r⟩
 | _, _, i + 1, x, .cons _ t, e => by
   obtain ⟨u, h1, h2⟩ := Vals.get (i := i) (x := x) t (by simpa using e)
   exact ⟨u, by simpa using h1, h2⟩
theorem Vals.append : ∀ {xs ys : List V} {us ws : List Value}, Vals xs us → Vals ys ws → Vals (xs ++ ys) (us ++ ws)
 | _, _, _, _, .nil, s => s
 | _, _, _, _, .cons r t, s => .cons r (Vals.append t s)
theorem Vals.take : ∀ {xs : List V} {us : List Value} (n : Nat), Vals xs us → Vals (xs.take n) (us.take n)
 | _, _, 0, _ => .nil
 | _, _, _ + 1, .nil => .nil
 | _, _, n + 1, .cons r t => .cons r (Vals.take n t)
theorem Vals.drop : ∀ {xs : List V} {us : List Value} (n : Nat), Vals xs us → Vals (xs.drop n) (us.drop n)
 | _, _, 0, r => r
 | _, _, _ + 1, .nil => .nil
 | _, _, n + 1, .cons _ t => Vals.drop n t
noncomputable def RelO : Option V → Option Value → Prop
 | some v, some u => RelV v u
 | none, none => True
 | _, _ => False
noncomputable def KV {κ : Type} : List (κ × V) → List (κ × Value) → Prop := Paired fun (p : κ × V) (q : κ × Value) => p.1 = q.1 ∧ RelV p.2 q.2
noncomputable def kV : Key → V
 | .inl i => .int i
 | .inr x => .str x
inductive HO where
   | lst (xs : List V)
   | tup (xs : List V)
   | dK (kvs : List (Key × V)) | dT (kvs : List (List Key × V))
   | set (S : Int → Bool) (n : Nat)
   | ins (C dx : Addr) (fs : List (Str × V))
   | own (x : Addr)
   | xd (fs : List (Str × V))
   | met (f x : Addr)
   | rng (lo hi : Int)
   | frz (o : Obj) (u : HO)
   | tbl (ps : Array Value)
   | ext (φ : Heap → Prop)
noncomputable abbrev Hp := Addr → Option HO
noncomputable def upd (H : Hp) (a : Addr) (o : HO) : Hp := fun b => if b = a then some o else H b
theorem zz1 {H : Hp} {a : Addr} {o : HO} : upd H a o a = some o := by unfold upd; rw [if_pos rfl]
theorem upd_ne {H : Hp} {a b : Addr} {o : HO} (h : b ≠ a) : upd H a o b = H b := by unfold upd; rw [if_neg h]
theorem upd_upd {H : Hp} {a : Addr} {o u : HO} : upd (upd H a o) a u = upd H a u := by
 funext b; unfold upd; split <;> rfl
theorem ne_of {H : Hp} {a b : Addr} {o u : HO} (h : H a = some o) (h' : H b = some u) (d : o ≠ u) : a ≠ b := by
 intro e; subst e; rw [h] at h'; exact d (Option.some.inj h')
theorem zz4 {H : Hp} {a b : Addr} {o : HO} (h : H a = some o) (h' : H b = none) : a ≠ b := by
 intro e; subst e; rw [h] at h'; cases h'
section
variable (P : Program) (w : World)
noncomputable def ObjOk (H : Hp) (h : Heap) (a : Addr) : HO → Prop
 | .lst xs => xs.length ≤ sizeLine ∧ ∃ (its : List Value) (n : Nat), Vals xs its ∧ h.get? a = some { cls := .type "list", data := .seq its.toArray n }
 | .tup xs => xs.length ≤ sizeLine ∧ ∃ its : List Value, Vals xs its ∧ IsTup h a its.toArray
 | .dK kvs => kvs.length ≤ sizeLine ∧ (a == sysModules) = false ∧ ∃ vs, KV kvs vs ∧ h.DictOf (mixKind P w) a vs
 | .dT kvs => kvs.length ≤ sizeLine ∧ (a == sysModules) = false ∧ ∃ xs : List (List Key × Addr × Value),
     Paired (fun (p : List Key × V) (q : List Key × Addr × Value) => p.1 = q.1 ∧ H q.2.1 = some (.tup (p.1.map kV)) ∧ RelV p.2 q.2.2) kvs xs ∧
     ∃ o es ep, h.get? a = some o ∧ o.ExactDict ∧ o.data = .dict es ep ∧ es.toList = xs.map (entryOfKey (tupleKind (mixKind P w))) ∧ (xs.map (·.1)).Nodup
 | .set S n => h.SetOf (intKind P w) a S n
 | .ins C dx fs => H dx = some (.own a) ∧ fs.length ≤ 1000 ∧ dx ≠ a ∧ h.get? a = some (PySem.W.instObj C dx) ∧
     ∃ mA, h.Ns1 dx mA ∧ (∀ f, RelO (fs.lookup f) (mA f)) ∧ PySem.Within mA (fs.map (·.1))
 | .own _ => ∃ o, h.get? a = some o
 | .xd fs => ∃ mA, h.Ns1 a mA ∧ ∀ f, RelO (fs.lookup f) (mA f)
 | .rng lo hi => ∃ t u v, h.get? a = some { cls := .type "range", data := .fields #[.int lo t, .int hi u, .int 1 v] }
 | .frz o u => h.get? a = some o ∧ ObjOk H h a u
 | .tbl ps => h.get? a = some { cls := .none, data := .fields ps }
 | .met f x => h.get? a = some (PySem.W.methodObj (.ref f) (.ref x))
 | .ext φ => φ h ∧ (∃ o, h.get? a = some o) ∧ ∀ h1 h2 : Heap, φ h1 → (∀ o, h1.get? a = some o → h2.get? a = some o) → φ h2
def HOk (H : Hp) (h : Heap) : Prop := ∀ a o, H a = some o → ObjOk P w H h a o
end
section
variable {P : Program} {w : World} {H H' : Hp} {h h' : Heap} {a : Addr} {o : HO}
theorem ObjOk.lt (x : ObjOk P w H h a o) : a < h.objs.size := by
 cases o with
 | lst xs => obtain ⟨_, _, _, _, e⟩ := x; exact Heap.lt_size e
 | tup xs => obtain ⟨_, _, _, p⟩ := x; exact p.lt
 | dK kvs => obtain ⟨_, _, _, _, o, _, _, e, _⟩ := x; exact Heap.lt_size e
 | dT kvs => obtain ⟨_, _, _, _, o, _, _, e, _⟩ := x; exact Heap.lt_size e
 | set S n => obtain ⟨o, _, _, _, e, _⟩ := x; exact Heap.lt_size e
 | ins C dx fs => obtain ⟨_, _, _, e, _⟩ := x; exact Heap.lt_size e
 | own y => obtain ⟨_, e⟩ := x; exact Heap.lt_size e
 | xd fs => obtain ⟨_, ⟨_, _, _, e, _⟩, _⟩ := x; exact Heap.lt_size e
 | rng lo hi => obtain ⟨_, _, _, e⟩ := x; exact Heap.lt_size e
 | frz ob u => obtain ⟨e, _⟩ := x; exact Heap.lt_size e
 | tbl ps => exact Heap.lt_size (show h.get? a = some _ from x)
 | met f y => exact Heap.lt_size (show h.get? a = some _ from x)
 | ext φ => obtain ⟨_, ⟨_, e⟩, _⟩ := x; exact Heap.lt_size e
theorem Paired.mapP {α β : Type} {F G : α → β → Prop} : ∀ {l₁ : List α} {l₂ : List β}, Paired F l₁ l₂ → (∀ a b, F a b → G a b) → Paired G l₁ l₂
 | _, _, .nil, _ => .nil
 | _, _, .cons r t, f => .cons (f _ _ r) (Paired.mapP t f)
theorem ObjOk.stay (x : ObjOk P w H h a o) (k : ∀ b u, (b = a ∨ H b = some (.own a)) → h.get? b = some u → h'.get? b = some u)
   (ho : ∀ b, H b = some (.own a) → H' b = some (.own a)) (ht : ∀ b xs, H b = some (.tup xs) → H' b = some (.tup xs)) : ObjOk P w H' h' a o := by
 induction o with
 | lst xs => obtain ⟨z, its, n, r, e⟩ := x; exact ⟨z, its, n, r, k _ _ (.inl rfl) e⟩
 | tup xs => obtain ⟨z, its, r, ob, e, c⟩ := x; exact ⟨z, its, r, ob, k _ _ (.inl rfl) e, c⟩
 | dK kvs => obtain ⟨z, y, vs, r, ob, es, ep, e, c⟩ := x; exact ⟨z, y, vs, r, ob, es, ep, k _ _ (.inl rfl) e, c⟩
 | dT kvs =>
   obtain ⟨z, y, xs, r, ob, es, ep, e, c⟩ := x
   exact ⟨z, y, xs, Paired.mapP r fun p q z => ⟨z.1, ht _ _ z.2.1, z.2.2⟩, ob, es, ep, k _ _ (.inl rfl) e, c⟩
 | set S n => obtain ⟨ob, es, ep, t, e, c⟩ := x; exact ⟨ob, es, ep, t, k _ _ (.inl rfl) e, c⟩
 | ins C dx fs =>
   obtain ⟨d, z, ne, e, mA, ⟨od, es, ep, e2, c⟩, r⟩ := x
   exact ⟨ho _ d, z, ne, k _ _ (.inl rfl) e, mA, ⟨od, es, ep, k _ _ (.inr d) e2, c⟩, r⟩
 | own y => obtain ⟨ob, e⟩ := x; exact ⟨ob, k _ _ (.inl rfl) e⟩
 | xd fs => obtain ⟨mA, ⟨od, es, ep, e, c⟩, r⟩ := x; exact ⟨mA, ⟨od, es, ep, k _ _ (.inl rfl) e, c⟩, r⟩
 | rng lo hi => obtain ⟨t, u, v, e⟩ := x; exact ⟨t, u, v, k _ _ (.inl rfl) e⟩
 | frz ob u ih => obtain ⟨e, q⟩ := x; exact ⟨k _ _ (.inl rfl) e, ih q⟩
 | tbl ps =>
   have e : h.get? a = some { cls := .none, data := .fields ps } := x
   show h'.get? a = some { cls := .none, data := .fields ps }
   exact k a _ (.inl rfl) e
 | met f y =>
   have e : h.get? a = some (PySem.W.methodObj (.ref f) (.ref y)) := x
   show h'.get? a = some (PySem.W.methodObj (.ref f) (.ref y))
   exact k a _ (.inl rfl) e
 | ext φ => obtain ⟨p, ⟨o, e⟩, st⟩ := x; exact ⟨st _ _ p fun o q => k _ _ (.inl rfl) q, ⟨o, k _ _ (.inl rfl) e⟩, st⟩
theorem HOk.lt (x : HOk P w H h) (e : H a = some o) : a < h.objs.size := (x a o e).lt
theorem HOk.fresh (x : HOk P w H h) (e : h.objs.size ≤ a) : H a = none := by
 cases q : H a with
 | none => rfl
 | some u => exact absurd (Nat.lt_of_lt_of_le (x.lt q) e) (Nat.lt_irrefl _)
theorem HOk.kept (x : HOk P w H h) (k : ∀ b u, h.get? b = some u → h'.get? b = some u) : HOk P w H h' := fun a o e =>
 (x a o e).stay (fun b u _ q => k b u q) (fun _ q => q) fun _ _ q => q
theorem HOk.laid (x : HOk P w H h) (k : ∀ b u, h.get? b = some u → h'.get? b = some u) (hp : h.objs.size ≤ a) (new : ObjOk P w (upd H a o) h' a o) : HOk P w (upd H a o) h' := fun b u e => by
 have hn := x.fresh hp
 by_cases hb : b = a
 · subst hb; rw [zz1] at e; cases e; exact new
 · rw [upd_ne hb] at e
   exact (x b u e).stay (fun c v _ q => k c v q) (fun c q => by rw [upd_ne (zz4 q hn)]; exact q) fun c xs q => by rw [upd_ne (zz4 q hn)]; exact q
end
def Rd (H : Hp) (a : Addr) (u : HO) : Prop := H a = some u ∨ ∃ o, H a = some (.frz o u)
theorem Rd.ok {P : Program} {w : World} {H : Hp} {h : Heap} {a : Addr} {u : HO} (r : Rd H a u) (x : HOk P w H h) : ObjOk P w H h a u := by
 rcases r with r | ⟨o, r⟩
 · exact x a u r
 · obtain ⟨_, q⟩ := x a _ r
   exact q
noncomputable def Mut : Option HO → Prop
 | some (.lst _) => True
 | some (.dK _) => True
 | some (.dT _) => True
 | some (.set _ _) => True
 | some (.ins _ _ _) => True
 | some (.ext _) => True
 | _ => False
section
variable {P : Program} {w : World} {H : Hp} {h h' : Heap} {x e : Addr} {o' : HO}
theorem HOk.write (ok : HOk P w H h) (mu : Mut (H x)) (he : e = x ∨ H e = some (.own x)) (k : ∀ b u, b ≠ e → h.get? b = some u → h'.get? b = some u) (heo : ∃ u, h'.get? e = some u)
   (new : ObjOk P w (upd H x o') h' x o') : HOk P w (upd H x o') h' := fun b u q => by
 have nown : ∀ c y, H c = some (.own y) → c ≠ x := fun c y r z => by subst z; rw [r] at mu; exact mu
 have ntup : ∀ c xs, H c = some (.tup xs) → c ≠ x := fun c xs r z => by subst z; rw [r] at mu; exact mu
 by_cases hb : b = x
 · subst hb; rw [zz1] at q; cases q; exact new
 · rw [upd_ne hb] at q
   by_cases hbe : b = e
   · have q' : H b = some (.own x) := by
       rcases he with z | z
       · exact absurd (hbe.trans z) hb
       · rw [hbe]; exact z
     rw [q] at q'; cases q'
     obtain ⟨v, hv⟩ := heo
     exact ⟨v, by rw [hbe]; exact hv⟩
   · refine (ok b u q).stay (fun c v hc r => k c v ?_ r) (fun c r => by rw [upd_ne (nown c b r)]; exact r) fun c xs r => by rw [upd_ne (ntup c xs r)]; exact r
     rcases hc with rfl | hc
     · exact hbe
     · rintro rfl
       rcases he with z | z
       · exact nown c b hc z
       · rw [hc] at z; cases z; exact hb rfl
end
set_option genInjectivity false in
structure Un (fs ex : List Addr) (H H' : Hp) (h h' : Heap) : Prop where
 keep : ∀ b o, h.get? b = some o → H b = none → b ∉ fs → b ∉ ex → h'.get? b = some o
 slot : ∀ b o, h.get? b = some o → H b = none → b ∈ fs → b ∉ ex → ∃ sl, h'.get? b = some { o with slots := sl }
 free : ∀ b o, h.get? b = some o → H b = none → b ∉ ex → H' b = none
 there : ∀ b o, h.get? b = some o → b ∉ ex → ∃ o', h'.get? b = some o'
 tups : ∀ b xs, H b = some (.tup xs) → H' b = some (.tup xs)
 frzs : ∀ b o u, H b = some (.frz o u) → H' b = some (.frz o u)
 tbls : ∀ b ps, H b = some (.tbl ps) → ∃ more, H' b = some (.tbl (ps ++ more))
section
variable {fs fs' ex ex' : List Addr} {H H1 H2 : Hp} {h h1 h2 h' : Heap} {a x e : Addr} {o : HO}
theorem Un.any (u : Un fs ex H H1 h h1) {b : Addr} {ob : Obj} (q : h.get? b = some ob) (n : H b = none) (hx : b ∉ ex) : ∃ sl, h1.get? b = some { ob with slots := sl } := by
 by_cases hb : b ∈ fs
 · exact u.slot b ob q n hb hx
 · exact ⟨ob.slots, u.keep b ob q n hb hx⟩
theorem Un.kept (k : ∀ b u, h.get? b = some u → h'.get? b = some u) : Un fs ex H H h h' :=
 ⟨fun b ob q _ _ _ => k b ob q, fun b ob q _ _ _ => ⟨ob.slots, k b ob q⟩, fun _ _ _ n _ => n, fun b ob q _ => ⟨ob, k b ob q⟩, fun _ _ q => q, fun _ _ _ q => q, fun _ ps q => ⟨#[], by rw [q]; simp⟩⟩
theorem Un.refl : Un fs ex H H h h := Un.kept fun _ _ q => q
theorem Un.laid (k : ∀ b u, h.get? b = some u → h'.get? b = some u) (hp : h.objs.size ≤ a) (hn : H a = none) : Un fs ex H (upd H a o) h h' where
 keep := fun b u q _ _ _ => k b u q
 slot := fun b u q _ _ _ => ⟨u.slots, k b u q⟩
 free := fun b u q n _ => by rw [upd_ne (Nat.ne_of_lt (Nat.lt_of_lt_of_le (Heap.lt_size q) hp))]; exact n
 there := fun b u q _ => ⟨u, k b u q⟩
 tups := fun b xs q => by rw [upd_ne (zz4 q hn)]; exact q
 frzs := fun b u xs q => by rw [upd_ne (zz4 q hn)]; exact q
 tbls := fun b ps q => ⟨#[], by rw [upd_ne (zz4 q hn), q]; simp⟩
theorem Un.write (mu : Mut (H x)) (he : e = x ∨ H e = some (.own x)) (k : ∀ b u, b ≠ e → h.get? b = some u → h'.get? b = some u) (heo : ∃ u, h'.get? e = some u) : Un fs ex H (upd H x o) h h' := by
 have hx : ∀ b, H b = none → b ≠ x := fun b n z => by subst z; rw [n] at mu; exact mu
 have hb : ∀ b, H b = none → b ≠ e := fun b n z => by
   subst z
   rcases he with r | r
   · exact hx b n r
   · rw [n] at r; cases r
 have hm : ∀ b u, H b = some u → ¬ Mut (some u) → b ≠ x := fun b u q nm z => by subst z; rw [q] at mu; exact nm mu
 refine ⟨fun b u q n _ _ => k b u (hb b n) q, fun b u q n _ _ => ⟨u.slots, k b u (hb b n) q⟩, fun b u q n _ => by rw [upd_ne (hx b n)]; exact n, fun b u q _ => ?_,
   fun b xs q => by rw [upd_ne (hm b _ q fun z => z)]; exact q, fun b u xs q => by rw [upd_ne (hm b _ q fun z => z)]; exact q, fun b ps q => ⟨#[], by rw [upd_ne (hm b _ q fun z => z), q]; simp⟩⟩
 by_cases hbe : b = e
 · subst hbe; exact heo
 · exact ⟨u, k b u hbe q⟩
end
noncomputable def trk (h : Heap) (H : Hp) : List Addr := (List.range h.objs.size).filter fun a => (H a).isSome
noncomputable def hidT (h : Heap) (H : Hp) : Heap := PySem.W.hideAll h (trk h H)
theorem hidT_size (h : Heap) (H : Hp) : (hidT h H).objs.size = h.objs.size := PySem.W.hideAll_size _ _
theorem hidT_get {h : Heap} {H : Hp} {b : Addr} {o : Obj} (e : h.get? b = some o) (n : H b = none) : (hidT h H).get? b = some o :=
 PySem.W.hideAll_get _ e fun hm => by
   have q : (H b).isSome = true := (List.mem_filter.mp hm).2
   rw [n] at q; simp at q
theorem of_hidT {h : Heap} {H : Hp} {b : Addr} {o : Obj} (e : (hidT h H).get? b = some o) : h.get? b = some o ∧ H b = none := by
 have e' : h.get? b = some o := PySem.W.of_hideAll (trk h H) e
 refine ⟨e', ?_⟩
 cases q : H b with
 | none => rfl
 | some x =>
   have hm : b ∈ trk h H := List.mem_filter.mpr ⟨List.mem_range.mpr (Heap.lt_size e'), by simp [q]⟩
   have z : (hidT h H).get? b = none := PySem.W.hideAll_none (trk h H) hm
   rw [z] at e; cases e
noncomputable def allNews (g h : Heap) (L : Addr) : List (Addr × Obj) := (List.range h.objs.size).filterMap fun a => if a = L ∨ (g.get? a).isSome = true then none else (h.get? a).map fun o => (a, o)
noncomputable def rest (g h : Heap) (L d : Addr) : List (Addr × Obj) := (allNews g h L).filter fun p => decide (p.1 ≠ d)
end L2
namespace L2
open PySem PySem.Spec PyProof.Rows
set_option genInjectivity false in
structure Mod (K : PySem.W.Frag) (mg : Str → Option Value) (base : Heap) : Prop where
 kin : K.In base
 glob : base.Ns mainGlobals mg
 blt : ∃ mb, base.Ns builtinsNs mb ∧ ∀ x : Str, x ≠ "__name__" → mb x = bootBuiltins x
 nolimit : base.NoLimit
set_option genInjectivity false in
structure Cx where
 prog : Program
 w : World
 K : PySem.W.Frag
 mg : Str → Option Value
 base : Heap
 A : Around
 N : List Str
 s₀ : Shared
 H₀ : Hp
 env : Env
 outer : List Env
 stack : List Env
 ex : List Addr
 fn : Str → Bool
 calm : Bool
 pn : List (Addr × Obj)
 xe : Value → Shared → Prop
noncomputable def frs (l : List Env) : List Addr := l.filterMap (·.frame)
noncomputable abbrev Cx.fs (X : Cx) : List Addr := frs X.outer
def Vis (sc : Scope) (x : Str) : Prop := sc.names.lookup x = some .local ∨ sc.names.lookup x = some .cell ∨ sc.names.lookup x = some .free
def Loc (sc : Scope) (x : Str) : Prop := sc.names.lookup x = some .local ∨ sc.names.lookup x = some .cell
def Look (env : Env) (h : Heap) (m : Str → Option Value) (x : Str) (u : Value) : Prop :=
 (env.kindOf x = some .local ∧ m x = some u) ∨ ((env.kindOf x = some .cell ∨ env.kindOf x = some .free) ∧ ∃ c, env.cells.lookup x = some c ∧ h.IsCell c (some u))
set_option genInjectivity false in
structure Cx.Ok (X : Cx) : Prop where
 mod : Mod X.K X.mg X.base
 kind : X.env.scope.kind = .function
 glob : X.env.globals = mainGlobals
 blt : X.env.builtins = builtinsNs
 above : X.s₀.heap.objs.size ≤ X.env.locals
 inj : ∀ x y c, X.env.cells.lookup x = some c → X.env.cells.lookup y = some c → x = y
 has : ∀ x, (X.env.kindOf x = some .cell ∨ X.env.kindOf x = some .free) → ∃ c, X.env.cells.lookup x = some c
 cab : ∀ x c, X.fn x = true → X.env.cells.lookup x = some c → X.s₀.heap.objs.size ≤ c
 hd : X.calm = true → X.A.handled = none
 frames : X.A.frames = some X.stack
 stk : X.stack = X.outer ∨ (X.stack = X.env :: X.outer ∧ X.env.frame = some X.env.locals)
 exf : ∀ b ∈ X.ex, b ≠ X.env.locals ∧ ∀ x c, X.env.cells.lookup x = some c → c ≠ b
 bs : ∀ b o, X.base.get? b = some o → X.s₀.heap.get? b = some o ∧ X.H₀ b = none
 bsz : X.base.objs.size ≤ X.s₀.heap.objs.size
 noex : ∀ b o, X.base.get? b = some o → b ∉ X.ex
 exfs : ∀ b ∈ X.ex, b ∉ X.fs
 funs : X.s₀.heap.FunFrames X.base X.outer
 frf : ∀ b ∈ X.fs, X.H₀ b = none
set_option genInjectivity false in
structure Inv (X : Cx) (pins : List (Addr × Obj)) (σ : List (Option V)) (H : Hp) (s : Shared) : Prop where
 ok : X.Ok
 os : s.os = X.s₀.os
 bare : AllBare s.gens
 base : Un X.fs X.ex X.H₀ H X.s₀.heap s.heap
 loc : ∃ m, s.heap.Ns X.env.locals m ∧ ∀ (i : Nat) (x : Str) (v : V), X.N[i]? = some x → σ[i]? = some (some v) → Vis X.env.scope x → ∃ u, RelV v u ∧ Look X.env s.heap m x u
 cell : ∀ x c, X.env.cells.lookup x = some c → ∃ v, s.heap.IsCell c v
 free : H X.env.locals = none
 freeC : ∀ x c, X.env.cells.lookup x = some c → H c = none
 pin : ∀ p ∈ X.pn ++ pins, s.heap.get? p.1 = some p.2 ∧ H p.1 = none ∧ p.1 ≠ X.env.locals ∧ p.1 ∉ X.fs ∧ ∀ v, p.2.data ≠ .cell v
 hok : HOk X.prog X.w H s.heap
 len : σ.length = X.N.length
section
variable {X : Cx} {pins : List (Addr × Obj)} {σ : List (Option V)} {H H' : Hp} {s : Shared} {h' : Heap}
theorem Cx.Ok.nofr (ok : X.Ok) {b : Addr} {o : Obj} (e : X.base.get? b = some o) : b ∉ X.fs := fun hb => by
 have := (ok.funs.mem hb).1
 rw [e] at this; cases this
theorem Inv.bs (I : Inv X pins σ H s) : ∀ b o, X.base.get? b = some o → s.heap.get? b = some o ∧ H b = none := fun b o e =>
 ⟨I.base.keep b o (I.ok.bs b o e).1 (I.ok.bs b o e).2 (I.ok.nofr e) (I.ok.noex b o e), I.base.free b o (I.ok.bs b o e).1 (I.ok.bs b o e).2 (I.ok.noex b o e)⟩
theorem Inv.bk (I : Inv X pins σ H s) : ∀ b o, X.base.get? b = some o → s.heap.get? b = some o := fun b o e => (I.bs b o e).1
theorem Inv.mod (I : Inv X pins σ H s) : Mod X.K X.mg X.base := I.ok.mod
theorem Inv.kIn (I : Inv X pins σ H s) : X.K.In s.heap := I.ok.mod.kin.keeps I.bk
theorem Inv.fr (I : Inv X pins σ H s) : ∃ m, Fr X.base X.env.locals s.heap m :=
 let ⟨m, hn, _⟩ := I.loc
 ⟨m, hn, I.bk, Nat.le_trans I.ok.bsz I.ok.above⟩
theorem Inv.lt (I : Inv X pins σ H s) : X.env.locals < s.heap.objs.size := let ⟨_, hn, _⟩ := I.loc; hn.lt
theorem Inv.sz (I : Inv X pins σ H s) : X.s₀.heap.objs.size ≤ s.heap.objs.size := Nat.le_trans I.ok.above (Nat.le_of_lt I.lt)
theorem Inv.nofs (I : Inv X pins σ H s) {a : Addr} (h : s.heap.objs.size ≤ a) : a ∉ X.fs := fun hb => by
 obtain ⟨_, o, ho, _⟩ := I.ok.funs.mem hb
 exact absurd (Nat.lt_of_lt_of_le (Heap.lt_size ho) (Nat.le_trans I.sz h)) (Nat.lt_irrefl _)
theorem Inv.cne (I : Inv X pins σ H s) : ∀ x c, X.env.cells.lookup x = some c → c ≠ X.env.locals := fun x c e z => by
 obtain ⟨v, o, ho, hd⟩ := I.cell x c e
 obtain ⟨m, ⟨o', es, ep, ho', hd', _⟩, _⟩ := I.loc
 rw [z, ho'] at ho; cases ho; rw [hd'] at hd; cases hd
theorem Inv.funs (I : Inv X pins σ H s) : s.heap.FunFrames X.base X.outer := by
 have all : ∀ (l : List Env), (∀ b ∈ frs l, b ∈ X.fs) → X.s₀.heap.FunFrames X.base l → s.heap.FunFrames X.base l := by
   intro l
   induction l with
   | nil => intro _ _; trivial
   | cons env r ih =>
     intro hs hl
     obtain ⟨hk, ⟨L, o, hf, hn, ho, hd⟩, hr⟩ := hl
     have hL : L ∈ X.fs := hs L (by unfold frs; rw [List.filterMap_cons, hf]; exact List.mem_cons_self)
     obtain ⟨sl, e⟩ := I.base.slot L o ho (I.ok.frf L hL) hL fun z => I.ok.exfs L z hL
     exact ⟨hk, ⟨L, _, hf, hn, e, hd⟩, ih (fun b hb => hs b (by unfold frs; rw [List.filterMap_cons, hf]; exact List.mem_cons_of_mem _ hb)) hr⟩
 exact all X.outer (fun _ hb => hb) I.ok.funs
theorem Inv.stack (I : Inv X pins σ H s) : s.heap.FunFrames X.base X.stack := by
 rcases I.ok.stk with e | ⟨e, hf⟩
 · rw [e]; exact I.funs
 · rw [e]
   obtain ⟨m, hn, _⟩ := I.loc
   refine .cons (by rw [I.ok.kind]; decide) hf hn ?_ I.funs
   exact Heap.get?_none_of_le (Nat.le_trans I.ok.bsz I.ok.above)
theorem Inv.stkSub (I : Inv X pins σ H s) : ∀ b ∈ frs X.stack, b ∈ X.env.locals :: X.fs := fun b hb => by
 rcases I.ok.stk with e | ⟨e, hf⟩
 · rw [e] at hb; exact List.mem_cons_of_mem _ hb
 · rw [e] at hb
   unfold frs at hb
   rw [List.filterMap_cons, hf] at hb
   exact hb
theorem Inv.stkFree (I : Inv X pins σ H s) : ∀ b ∈ frs X.stack, H b = none := fun b hb => by
 rcases List.mem_cons.mp (I.stkSub b hb) with e | hb
 · rw [e]; exact I.free
 · obtain ⟨_, o, ho, _⟩ := I.ok.funs.mem hb
   exact I.base.free b o ho (I.ok.frf b hb) fun z => I.ok.exfs b z hb
theorem Inv.step {g' : Array GenState} {t' : Nat} {d' : Drawn} {ch : List Addr} (I : Inv X pins σ H s)
   (hch : ∀ b ∈ ch, (b ∈ X.ex ∨ X.s₀.heap.objs.size ≤ b) ∧ b ≠ X.env.locals ∧ (∀ x c, X.env.cells.lookup x = some c → c ≠ b) ∧ ∀ p ∈ X.pn ++ pins, p.1 ≠ b)
   (keep : ∀ b o, b ≠ X.env.locals → b ∉ X.fs → b ∉ ch → s.heap.get? b = some o → H b = none → h'.get? b = some o)
   (slot : ∀ b o, b ≠ X.env.locals → b ∈ X.fs → b ∉ ch → s.heap.get? b = some o → H b = none → ∃ sl, h'.get? b = some { o with slots := sl }) (free : ∀ b o, b ∉ ch → s.heap.get? b = some o → H b = none → H' b = none)
   (there : ∀ b o, b ∉ ch → s.heap.get? b = some o → ∃ o', h'.get? b = some o')
   (tups : ∀ b xs, H b = some (.tup xs) → H' b = some (.tup xs)) (frzs : ∀ b o u, H b = some (.frz o u) → H' b = some (.frz o u)) (tbls : ∀ b ps, H b = some (.tbl ps) → ∃ more, H' b = some (.tbl (ps ++ more)))
   (ns : ∀ m, s.heap.Ns X.env.locals m → h'.Ns X.env.locals m) (hok : HOk X.prog X.w H' h') (hg : AllBare g') :
   Inv X pins σ H' { s with heap := h', gens := g', drawn := d', toks := t' } := by
 have neL : ∀ b o, X.s₀.heap.get? b = some o → b ≠ X.env.locals := fun b o e => Nat.ne_of_lt (Nat.lt_of_lt_of_le (Heap.lt_size e) I.ok.above)
 have neC : ∀ b o, X.s₀.heap.get? b = some o → b ∉ X.ex → b ∉ ch := fun b o e hx hb => by
   rcases (hch b hb).1 with z | z
   · exact hx z
   · exact absurd (Nat.lt_of_lt_of_le (Heap.lt_size e) z) (Nat.lt_irrefl _)
 have cellK : ∀ x c, X.env.cells.lookup x = some c → ∀ v, s.heap.IsCell c v → h'.IsCell c v := fun x c e v ⟨o, ho, hd⟩ => by
   have nch : c ∉ ch := fun z => (hch c z).2.2.1 x c e rfl
   by_cases hc : c ∈ X.fs
   · obtain ⟨sl, q⟩ := slot c o (I.cne x c e) hc nch ho (I.freeC x c e)
     exact ⟨_, q, hd⟩
   · exact ⟨o, keep c o (I.cne x c e) hc nch ho (I.freeC x c e), hd⟩
 refine ⟨I.ok, I.os, hg, ⟨fun b o e n hb hx => ?_, fun b o e n hb hx => ?_, fun b o e n hx => ?_, fun b o e hx => ?_, fun b xs e => tups b xs (I.base.tups b xs e), fun b o xs e => frzs b o xs (I.base.frzs b o xs e), fun b ps e => ?_⟩, ?_, fun x c e => ?_, ?_, fun x c e => ?_, fun p hp => ?_, hok, I.len⟩
 · exact keep b o (neL b o e) hb (neC b o e hx) (I.base.keep b o e n hb hx) (I.base.free b o e n hx)
 · obtain ⟨sl, e1⟩ := I.base.slot b o e n hb hx
   obtain ⟨sl', e2⟩ := slot b _ (neL b o e) hb (neC b o e hx) e1 (I.base.free b o e n hx)
   exact ⟨sl', e2⟩
 · obtain ⟨o', e1⟩ := I.base.there b o e hx
   exact free b o' (neC b o e hx) e1 (I.base.free b o e n hx)
 · obtain ⟨o', e1⟩ := I.base.there b o e hx
   exact there b o' (neC b o e hx) e1
 · obtain ⟨m1, e1⟩ := I.base.tbls b ps e
   obtain ⟨m2, e2⟩ := tbls b _ e1
   exact ⟨m1 ++ m2, by rw [e2, Array.append_assoc]⟩
 · obtain ⟨m, hn, hl⟩ := I.loc
   refine ⟨m, ns m hn, fun i x v e1 e2 e3 => ?_⟩
   obtain ⟨u, r, l⟩ := hl i x v e1 e2 e3
   refine ⟨u, r, ?_⟩
   rcases l with l | ⟨k, c, e, z⟩
   · exact .inl l
   · exact .inr ⟨k, c, e, cellK x c e _ z⟩
 · obtain ⟨v, z⟩ := I.cell x c e
   exact ⟨v, cellK x c e v z⟩
 · obtain ⟨m, ⟨o, _, _, ho, _⟩, _⟩ := I.loc
   exact free _ o (fun z => (hch _ z).2.1 rfl) ho I.free
 · obtain ⟨v, o, ho, hd⟩ := I.cell x c e
   exact free c o (fun z => (hch c z).2.2.1 x c e rfl) ho (I.freeC x c e)
 · obtain ⟨e, n, ne, nf, d⟩ := I.pin p hp
   have nch : p.1 ∉ ch := fun z => (hch p.1 z).2.2.2 p hp rfl
   exact ⟨keep p.1 p.2 ne nf nch e n, free p.1 p.2 nch e n, ne, nf, d⟩
theorem Inv.un {t' : Nat} (I : Inv X pins σ H s) (u : Un X.fs [] H H' s.heap h') (hok : HOk X.prog X.w H' h') : Inv X pins σ H' { s with heap := h', toks := t' } := by
 obtain ⟨m, ⟨o, es, ep, ho, r⟩, _⟩ := id I.loc
 obtain ⟨sl, hL⟩ := u.any ho I.free (by simp)
 exact I.step (g' := s.gens) (d' := s.drawn) (ch := []) (fun _ z => nomatch z) (fun b o _ hb _ e n => u.keep b o e n hb (by simp)) (fun b o _ hb _ e n => u.slot b o e n hb (by simp)) (fun b o _ e n => u.free b o e n (by simp)) (fun b o _ e => u.there b o e (by simp)) u.tups u.frzs u.tbls (fun m' hm => by
   obtain ⟨o', es', ep', ho', r'⟩ := hm
   rw [ho] at ho'; cases ho'
   exact ⟨_, es', ep', hL, r'⟩) hok I.bare
theorem Inv.call {g' : Array GenState} {t' : Nat} {d' : Drawn} {ch : List Addr} (I : Inv X pins σ H s) (u : Un (frs X.stack) ch H H' s.heap h') (hok : HOk X.prog X.w H' h') (hg : AllBare g')
   (hch : ∀ b ∈ ch, (b ∈ X.ex ∨ X.s₀.heap.objs.size ≤ b) ∧ b ≠ X.env.locals ∧ (∀ x c, X.env.cells.lookup x = some c → c ≠ b) ∧ ∀ p ∈ X.pn ++ pins, p.1 ≠ b) :
   Inv X pins σ H' { s with heap := h', gens := g', drawn := d', toks := t' } := by
 obtain ⟨m, ⟨o, es, ep, ho, r⟩, _⟩ := id I.loc
 obtain ⟨sl, hL⟩ := u.any ho I.free fun z => (hch _ z).2.1 rfl
 exact I.step (ch := ch) hch (fun b o hL hb hc e n => u.keep b o e n (fun z => (List.mem_cons.mp (I.stkSub b z)).elim hL hb) hc) (fun b o _ _ hc e n => u.any e n hc) (fun b o hc e n => u.free b o e n hc) (fun b o hc e => u.there b o e hc) u.tups u.frzs u.tbls (fun m' hm => by
   obtain ⟨o', es', ep', ho', r'⟩ := hm
   rw [ho] at ho'; cases ho'
   exact ⟨_, es', ep', hL, r'⟩) hok hg
theorem Inv.turned {t' : Nat} {it : Addr} (I : Inv X pins σ H s) (k : ∀ b o, b ≠ it → s.heap.get? b = some o → h'.get? b = some o) (hn : H it = none) (hL : it ≠ X.env.locals)
   (h1 : it ∈ X.ex ∨ X.s₀.heap.objs.size ≤ it) (h2 : ∀ x c, X.env.cells.lookup x = some c → c ≠ it) (h3 : ∀ p ∈ X.pn ++ pins, p.1 ≠ it) : Inv X pins σ H { s with heap := h', toks := t' } := by
 have nit : ∀ b u, H b = some u → b ≠ it := fun b u e z => by rw [z, hn] at e; cases e
 refine I.step (g' := s.gens) (d' := s.drawn) (ch := [it]) (fun b hb => ?_) (fun b o _ _ hc e _ => k b o (fun z => hc (by simp [z])) e) (fun b o _ _ hc e _ => ⟨o.slots, k b o (fun z => hc (by simp [z])) e⟩) (fun _ _ _ _ n => n)
   (fun b o hc e => ⟨o, k b o (fun z => hc (by simp [z])) e⟩) (fun _ _ e => e) (fun _ _ _ e => e) (fun b ps e => ⟨#[], by rw [e]; simp⟩) (fun m hm => ?_) (fun b u e => ?_) I.bare
 · have e : b = it := by simpa using hb
   subst e
   exact ⟨h1, hL, h2, h3⟩
 · obtain ⟨o, es, ep, ho, r⟩ := hm
   exact ⟨o, es, ep, k _ o (Ne.symm hL) ho, r⟩
 · refine (I.hok b u e).stay (fun c v hc q => k c v ?_ q) (fun _ q => q) fun _ _ q => q
   rcases hc with z | z
   · rw [z]; exact nit b u e
   · exact nit c _ z
theorem Inv.tok (I : Inv X pins σ H s) (t : Nat) : Inv X pins σ H { s with toks := t } := I.un (h' := s.heap) (t' := t) Un.refl I.hok
theorem Inv.kept {t' : Nat} (I : Inv X pins σ H s) (k : ∀ b u, s.heap.get? b = some u → h'.get? b = some u) : Inv X pins σ H { s with heap := h', toks := t' } := I.un (Un.kept k) (I.hok.kept k)
theorem Inv.laid {a : Addr} {o : HO} {t' : Nat} (I : Inv X pins σ H s) (k : ∀ b u, s.heap.get? b = some u → h'.get? b = some u) (hp : s.heap.objs.size ≤ a) (new : ObjOk X.prog X.w (upd H a o) h' a o) :
   Inv X pins σ (upd H a o) { s with heap := h', toks := t' } := I.un (Un.laid k hp (I.hok.fresh hp)) (I.hok.laid k hp new)
theorem Inv.write {x e : Addr} {o : HO} {t' : Nat} (I : Inv X pins σ H s) (mu : Mut (H x)) (he : e = x ∨ H e = some (.own x)) (k : ∀ b u, b ≠ e → s.heap.get? b = some u → h'.get? b = some u) (heo : ∃ u, h'.get? e = some u)
   (new : ObjOk X.prog X.w (upd H x o) h' x o) : Inv X pins σ (upd H x o) { s with heap := h', toks := t' } := I.un (Un.write mu he k heo) (I.hok.write mu he k heo new)
theorem Inv.weak {σ' : List (Option V)} (I : Inv X pins σ H s) (hl : σ'.length = σ.length) (w : ∀ (i : Nat) v, σ'[i]? = some (some v) → σ[i]? = some (some v)) : Inv X pins σ' H s :=
 ⟨I.ok, I.os, I.bare, I.base, let ⟨m, hn, hl'⟩ := I.loc; ⟨m, hn, fun i x v e1 e2 e3 => hl' i x v e1 (w i v e2) e3⟩, I.cell, I.free, I.freeC, I.pin, I.hok, hl.trans I.len⟩
theorem Inv.pins_of {pins' : List (Addr × Obj)} (I : Inv X pins σ H s) (h : ∀ p ∈ pins', s.heap.get? p.1 = some p.2 ∧ H p.1 = none ∧ p.1 ≠ X.env.locals ∧ p.1 ∉ X.fs ∧ ∀ v, p.2.data ≠ .cell v) : Inv X pins' σ H s :=
 ⟨I.ok, I.os, I.bare, I.base, I.loc, I.cell, I.free, I.freeC, fun p hp => (List.mem_append.mp hp).elim (fun z => I.pin p (List.mem_append_left _ z)) (h p), I.hok, I.len⟩
theorem nodup_ix {N : List Str} (hN : N.Nodup) {i j : Nat} {x : Str} (a : N[i]? = some x) (b : N[j]? = some x) : i = j := by
 obtain ⟨h1, e1⟩ := List.getElem?_eq_some_iff.mp a
 obtain ⟨h2, e2⟩ := List.getElem?_eq_some_iff.mp b
 exact (List.getElem_inj hN).mp (e1.trans e2.symm)
theorem store_ok2 {M : Model} {A : Around} {E : Value → Shared → Prop} {i : Nat} {x : Str} {v : V} {u : Value} {Q : Unit → Shared → Prop} (I : Inv X pins σ H s) (hN : X.N.Nodup) (hi : X.N[i]? = some x) (hx : Loc X.env.scope x) (r : RelV v u)
   (h : ∀ s', Inv X pins (σ.set i (some v)) H s' → (∃ a, Heap.SameBut a s.heap s'.heap ∧ (a = X.env.locals ∨ X.env.cells.lookup x = some a)) → Q () s') (hf : X.fn x = true ∨ X.env.scope.names.lookup x = some .local := by first | exact .inl rfl | exact .inr rfl | assumption) : wpAny M A (storeName X.env x u) Q E s := by
 obtain ⟨m, hn, hl⟩ := id I.loc
 have hcls : (X.env.scope.kind == .class || (X.env.scope.kind == .module && X.env.locals != X.env.globals)) = false := by rw [I.ok.kind]; rfl
 have hiσ : i < σ.length := by rw [I.len]; exact (List.getElem?_eq_some_iff.mp hi).1
 have cne := I.cne
 have tracked : ∀ {a : Addr} {h' : Heap}, (∃ o, s.heap.get? a = some o ∧ H a = none) → Heap.SameBut a s.heap h' → HOk X.prog X.w H h' := fun {a h'} ha hs b ob e => by
   obtain ⟨_, _, hfree⟩ := ha
   refine (I.hok b ob e).stay (fun c w' hc q => (hs.2 c ?_).trans q) (fun _ q => q) fun _ _ q => q
   rintro rfl
   rcases hc with rfl | hc
   · rw [hfree] at e; cases e
   · rw [hfree] at hc; cases hc
 rcases hx with hk | hk
 · refine wpAny_storeName_local hk hn (fun h' hn' hs => ?_) hcls
   obtain ⟨oL, _, _, hoL, _⟩ := id hn
   refine h _ ⟨I.ok, I.os, I.bare, ⟨fun b o e n hb hx => ?_, fun b o e n hb hx => ?_, I.base.free, fun b o e hx => ?_, I.base.tups, I.base.frzs, I.base.tbls⟩, ⟨_, hn', fun j y v' e1 e2 e3 => ?_⟩, fun y c e => ?_, I.free, I.freeC, fun p hp => ?_, tracked ⟨oL, hoL, I.free⟩ hs, by simpa using I.len⟩ ⟨_, hs, .inl rfl⟩
   · exact (hs.2 b (Nat.ne_of_lt (Nat.lt_of_lt_of_le (Heap.lt_size e) I.ok.above))).trans (I.base.keep b o e n hb hx)
   · obtain ⟨sl, e1⟩ := I.base.slot b o e n hb hx
     exact ⟨sl, (hs.2 b (Nat.ne_of_lt (Nat.lt_of_lt_of_le (Heap.lt_size e) I.ok.above))).trans e1⟩
   · obtain ⟨o', e1⟩ := I.base.there b o e hx
     exact ⟨o', (hs.2 b (Nat.ne_of_lt (Nat.lt_of_lt_of_le (Heap.lt_size e) I.ok.above))).trans e1⟩
   · by_cases hj : j = i
     · subst hj
       rw [hi] at e1; cases e1
       rw [List.getElem?_set_self hiσ] at e2
       cases e2
       exact ⟨u, r, .inl ⟨hk, by simp⟩⟩
     · rw [List.getElem?_set_ne (Ne.symm hj)] at e2
       obtain ⟨u', r', q⟩ := hl j y v' e1 e2 e3
       refine ⟨u', r', ?_⟩
       rcases q with ⟨k, e⟩ | ⟨k, c, e, z⟩
       · refine .inl ⟨k, ?_⟩
         have : y ≠ x := fun e => hj (nodup_ix hN e1 (e ▸ hi))
         simp [this, e]
       · exact .inr ⟨k, c, e, z.sameBut hs (cne y c e)⟩
   · obtain ⟨w', z⟩ := I.cell y c e
     exact ⟨w', z.sameBut hs (cne y c e)⟩
   · obtain ⟨e, n, ne, nf, d⟩ := I.pin p hp
     exact ⟨(hs.2 p.1 ne).trans e, n, ne, nf, d⟩
 · have hfn : X.fn x = true := by
     rcases hf with z | z
     · exact z
     · rw [z] at hk; cases hk
   obtain ⟨c, hc⟩ := I.ok.has x (.inl hk)
   obtain ⟨w', z⟩ := I.cell x c hc
   refine wpAny_storeName_cell I.ok.kind hk hc z (fun h' hc' hs => ?_)
   obtain ⟨oc, hoc, hocd⟩ := id z
   refine h { s with heap := h' } ⟨I.ok, I.os, I.bare, ⟨fun b o e n hb hx => ?_, fun b o e n hb hx => ?_, I.base.free, fun b o e hx => ?_, I.base.tups, I.base.frzs, I.base.tbls⟩, ⟨m, hn.sameBut hs (Ne.symm (cne x c hc)), fun j y v' e1 e2 e3 => ?_⟩, fun y c' e => ?_, I.free, I.freeC, fun p hp => ?_, tracked ⟨oc, hoc, I.freeC x c hc⟩ hs, by simpa using I.len⟩ ⟨c, hs, .inr hc⟩
   · exact (hs.2 b (Nat.ne_of_lt (Nat.lt_of_lt_of_le (Heap.lt_size e) (I.ok.cab x c hfn hc)))).trans (I.base.keep b o e n hb hx)
   · obtain ⟨sl, e1⟩ := I.base.slot b o e n hb hx
     exact ⟨sl, (hs.2 b (Nat.ne_of_lt (Nat.lt_of_lt_of_le (Heap.lt_size e) (I.ok.cab x c hfn hc)))).trans e1⟩
   · obtain ⟨o', e1⟩ := I.base.there b o e hx
     exact ⟨o', (hs.2 b (Nat.ne_of_lt (Nat.lt_of_lt_of_le (Heap.lt_size e) (I.ok.cab x c hfn hc)))).trans e1⟩
   · by_cases hj : j = i
     · subst hj
       rw [hi] at e1; cases e1
       rw [List.getElem?_set_self hiσ] at e2
       cases e2
       exact ⟨u, r, .inr ⟨.inl hk, c, hc, hc'⟩⟩
     · rw [List.getElem?_set_ne (Ne.symm hj)] at e2
       obtain ⟨u', r', q⟩ := hl j y v' e1 e2 e3
       refine ⟨u', r', ?_⟩
       rcases q with q | ⟨k, c', e, z'⟩
       · exact .inl q
       · refine .inr ⟨k, c', e, z'.sameBut hs ?_⟩
         rintro rfl
         exact hj (nodup_ix hN e1 (I.ok.inj _ _ _ e hc ▸ hi))
   · by_cases hcc : c' = c
     · subst hcc; exact ⟨_, hc'⟩
     · obtain ⟨w2, z2⟩ := I.cell y c' e
       exact ⟨w2, z2.sameBut hs hcc⟩
   · obtain ⟨e, n, ne, nf, d⟩ := I.pin p hp
     refine ⟨(hs.2 p.1 ?_).trans e, n, ne, nf, d⟩
     intro q
     rw [q, hoc] at e
     have q' : oc = p.2 := Option.some.inj e
     exact d w' (by rw [← q']; exact hocd)
theorem store_ok {M : Model} {A : Around} {E : Value → Shared → Prop} {i : Nat} {x : Str} {v : V} {u : Value} {Q : Unit → Shared → Prop} (I : Inv X pins σ H s) (hN : X.N.Nodup) (hi : X.N[i]? = some x) (hx : Loc X.env.scope x) (r : RelV v u)
   (h : ∀ s', Inv X pins (σ.set i (some v)) H s' → Q () s') (hf : X.fn x = true ∨ X.env.scope.names.lookup x = some .local := by first | exact .inl rfl | exact .inr rfl | assumption) : wpAny M A (storeName X.env x u) Q E s :=
 store_ok2 I hN hi hx r (fun s' I' _ => h s' I') hf
theorem Inv.call' {s' : Shared} {ch : List Addr} (I : Inv X pins σ H s) (ho : s'.os = s.os) (u : Un (frs X.stack) ch H H' s.heap s'.heap) (hok : HOk X.prog X.w H' s'.heap) (hg : AllBare s'.gens)
   (hch : ∀ b ∈ ch, (b ∈ X.ex ∨ X.s₀.heap.objs.size ≤ b) ∧ b ≠ X.env.locals ∧ (∀ x c, X.env.cells.lookup x = some c → c ≠ b) ∧ ∀ p ∈ X.pn ++ pins, p.1 ≠ b) : Inv X pins σ H' s' := by
 obtain ⟨h', g', d', t', o'⟩ := s'
 have e : o' = s.os := ho
 subst e
 exact I.call (g' := g') (t' := t') (d' := d') u hok hg hch
end
noncomputable abbrev XK := Value → Option Addr → Hp → Prop
noncomputable abbrev St := List (Option V)
noncomputable abbrev VK := V → Hp → Prop
noncomputable abbrev TE := St → Hp → VK → Prop
noncomputable abbrev TT := St → Hp → (Bool → Hp → Prop) → Prop
noncomputable abbrev TA := St → Hp → (List V → Hp → Prop) → Prop
set_option genInjectivity false in
structure Ends where
 nx : St → Hp → Prop
 rt : VK
 bk : St → Hp → Prop := fun _ _ => False
 ct : St → Hp → Prop := fun _ _ => False
noncomputable abbrev TS := Ends → St → Hp → Prop
def EP (X : Cx) (pins : List (Addr × Obj)) (σ : St) (Q : VK) (u : Value) (s' : Shared) : Prop := ∃ v H', Inv X pins σ H' s' ∧ RelV v u ∧ Q v H'
def TP (X : Cx) (pins : List (Addr × Obj)) (σ : St) (Q : Bool → Hp → Prop) (b : Bool) (s' : Shared) : Prop := ∃ H', Inv X pins σ H' s' ∧ Q b H'
def AP (X : Cx) (pins : List (Addr × Obj)) (σ : St) (Q : List V → Hp → Prop) (us : List Value) (s' : Shared) : Prop := ∃ vs H', Inv X pins σ H' s' ∧ Vals vs us ∧ Q vs H'
def SP (X : Cx) (pins : List (Addr × Obj)) (D : Ends) (f : Flow) (s' : Shared) : Prop :=
 match f with
 | .next => ∃ σ' H', Inv X pins σ' H' s' ∧ D.nx σ' H'
 | .brk => ∃ σ' H', Inv X pins σ' H' s' ∧ D.bk σ' H'
 | .cont => ∃ σ' H', Inv X pins σ' H' s' ∧ D.ct σ' H'
 | .ret u => ∃ v σ' H', Inv X pins σ' H' s' ∧ RelV v u ∧ D.rt v H'
def PE (X : Cx) (e : Expr) (t : TE) : Prop :=
 ∀ (pins : List (Addr × Obj)) (s : Shared) (σ : St) (H : Hp) (Q : VK), Inv X pins σ H s → t σ H Q → wpAny (model X.prog X.w) X.A (eval e X.env) (EP X pins σ Q) X.xe s
def PT (X : Cx) (e : Expr) (t : TT) : Prop :=
 ∀ (pins : List (Addr × Obj)) (s : Shared) (σ : St) (H : Hp) (Q : Bool → Hp → Prop), Inv X pins σ H s → t σ H Q → wpAny (model X.prog X.w) X.A (isTrue e X.env (eval e X.env)) (TP X pins σ Q) X.xe s
def PW (X : Cx) (e : Expr) (t : TT) : Prop :=
 ∀ (whole : Sem Value) (pins : List (Addr × Obj)) (s : Shared) (σ : St) (H : Hp) (Q : Bool → Hp → Prop), Inv X pins σ H s → t σ H Q → wpAny (model X.prog X.w) X.A (isTrue e X.env whole) (TP X pins σ Q) X.xe s
theorem PW.pt {X : Cx} {e : Expr} {t : TT} (h : PW X e t) : PT X e t := h _
def PA (X : Cx) (es : List Expr) (t : TA) : Prop :=
 ∀ (pos : Pos) (pins : List (Addr × Obj)) (s : Shared) (σ : St) (H : Hp) (Q : List V → Hp → Prop), Inv X pins σ H s → t σ H Q → wpAny (model X.prog X.w) X.A (spliced (backTo pos (starEach es X.env))) (AP X pins σ Q) X.xe s
def PS (X : Cx) (st : Stmt) (t : TS) : Prop :=
 ∀ (pins : List (Addr × Obj)) (s : Shared) (σ : St) (H : Hp) (D : Ends), Inv X pins σ H s → t D σ H → wpAny (model X.prog X.w) X.A (exec st X.env) (SP X pins D) X.xe s
def PSs (X : Cx) (st : List Stmt) (t : TS) : Prop :=
 ∀ (pins : List (Addr × Obj)) (s : Shared) (σ : St) (H : Hp) (D : Ends), Inv X pins σ H s → t D σ H → wpAny (model X.prog X.w) X.A (execs st X.env) (SP X pins D) X.xe s
theorem thn {α : Type} {t : Sem α} {Q Q' : α → Shared → Prop} {M : Model} {A : Around} {E : Value → Shared → Prop} {s : Shared} (h : wpAny M A t Q E s) (hQ : ∀ a s, Q a s → Q' a s) : wpAny M A t Q' E s := wpAny_mono h hQ fun _ _ x => x
end L2
namespace L2
open PySem PySem.Spec PyProof.Rows
section
variable {X : Cx}
theorem bin {a b : Expr} {ta tb : TE} (ha : PE X a ta) (hb : PE X b tb) {pins : List (Addr × Obj)} {s : Shared} {σ : St} {H : Hp} {R : V → V → Hp → Prop} (I : Inv X pins σ H s) (h : ta σ H fun x H1 => tb σ H1 fun y H2 => R x y H2)
   {α : Type} {Q : α → Shared → Prop} {f : Value → Value → Sem α}
   (hf : ∀ v u s2 x y H2, Inv X pins σ H2 s2 → RelV x v → RelV y u → R x y H2 → wpAny (model X.prog X.w) X.A (f v u) Q X.xe s2) :
   wpAny (model X.prog X.w) X.A (eval a X.env) (fun v s₁ => wpAny (model X.prog X.w) X.A (eval b X.env) (fun u s₂ => wpAny (model X.prog X.w) X.A (f v u) Q X.xe s₂) X.xe s₁) X.xe s := by
 refine thn (ha pins s σ H _ I h) fun v s1 ⟨x, H1, I1, r1, q1⟩ => ?_
 refine thn (hb pins s1 σ H1 _ I1 q1) fun u s2 ⟨y, H2, I2, r2, q2⟩ => ?_
 exact hf v u s2 x y H2 I2 r1 r2 q2
def tVar (i : Nat) : TE := fun σ H Q => ∃ v, σ[i]? = some (some v) ∧ Q v H
def tC (v : V) : TE := fun _ H Q => Q v H
theorem pe_var {i : Nat} {x : Str} {pos : Pos} (hN : X.N[i]? = some x) (hv : Vis X.env.scope x) (hd : (x == ("__debug__" : Str)) = false := by decide) (hcd : (x == ("__classdict__" : Str)) = false := by decide) : PE X (.Name x pos) (tVar i) := by
 intro pins s σ H Q I h
 obtain ⟨v, e, h⟩ := h
 obtain ⟨m, hn, hl⟩ := I.loc
 obtain ⟨u, r, l⟩ := hl i x v hN e hv
 have fin : EP X pins σ Q u s := ⟨v, H, I, r, h⟩
 rcases l with ⟨hk, hm⟩ | ⟨hk, c, hc, hcell⟩
 · exact wpAny_Name (wpAny_loadName_local I.ok.kind hk hn hm fin) hd
 · rcases hk with hk | hk
   · exact wpAny_Name (wpAny_loadName_cell I.ok.kind hk hc hcell fin) hd
   · exact wpAny_Name (wpAny_loadName_free I.ok.kind hk hc hcell fin hcd) hd
theorem pe_int {i j pos} : PE X (.Constant (.int i) j pos) (tC (.int i)) := fun _ _ _ H _ I h => wpAny_Constant_int ⟨.int i, H, I.tok _, ⟨_, rfl⟩, h⟩
theorem pe_bl {b j pos} : PE X (.Constant (.bool b) j pos) (tC (.bl b)) := fun _ _ _ H _ I h => Constant_bool ⟨.bl b, H, I, rfl, h⟩
theorem pe_non {j pos} : PE X (.Constant .none j pos) (tC .non) := fun _ _ _ H _ I h => Constant_none ⟨.non, H, I, rfl, h⟩
theorem pe_str {x j pos} : PE X (.Constant (.str x) j pos) (tC (.str x)) := fun _ _ _ H _ I h => Calls.Constant_str ⟨.str x, H, I.tok _, ⟨_, rfl⟩, h⟩
def Gl (X : Cx) (x : Str) : Prop := X.env.kindOf x = some .globalImplicit
theorem ld_glob {E : Value → Shared → Prop} {pins : List (Addr × Obj)} {s : Shared} {σ : St} {H : Hp} {x : Str} {u : Value} {pos : Pos} {Q : Value → Shared → Prop} (I : Inv X pins σ H s) (hg : Gl X x) (hm : X.mg x = some u) (h : Q u s)
   (hd : (x == ("__debug__" : Str)) = false := by decide) : wpAny (model X.prog X.w) X.A (eval (.Name x pos) X.env) Q E s :=
 Calls.Name_function_global I.ok.kind hg (Calls.loadGlobal_global (by rw [I.ok.glob]; exact I.mod.glob.keeps I.bk) hm h) hd
theorem ld_blt {E : Value → Shared → Prop} {pins : List (Addr × Obj)} {s : Shared} {σ : St} {H : Hp} {x : Str} {u : Value} {pos : Pos} {Q : Value → Shared → Prop} (I : Inv X pins σ H s) (hg : Gl X x) (hm : X.mg x = none) (hv : bootBuiltins x = some u) (h : Q u s)
   (hn : x ≠ "__name__" := by decide) (hd : (x == ("__debug__" : Str)) = false := by decide) : wpAny (model X.prog X.w) X.A (eval (.Name x pos) X.env) Q E s := by
 obtain ⟨mb, h1, h2⟩ := I.mod.blt
 exact Calls.Name_function_global I.ok.kind hg (Calls.loadGlobal_builtin (by rw [I.ok.glob]; exact I.mod.glob.keeps I.bk) hm (by rw [I.ok.blt]; exact h1.keeps I.bk) ((h2 x hn).trans hv) h) hd
theorem pe_glob {x : Str} {v : V} {u : Value} {pos : Pos} (hg : Gl X x) (hm : X.mg x = some u) (r : RelV v u) (hd : (x == ("__debug__" : Str)) = false := by decide) : PE X (.Name x pos) (tC v) :=
 fun _ _ _ H _ I h => ld_glob I hg hm ⟨v, H, I, r, h⟩ hd
theorem pe_bltn {x : Str} {v : V} {u : Value} {pos : Pos} (hg : Gl X x) (hm : X.mg x = none) (hv : bootBuiltins x = some u) (r : RelV v u) (hn : x ≠ "__name__" := by decide) (hd : (x == ("__debug__" : Str)) = false := by decide) : PE X (.Name x pos) (tC v) :=
 fun _ _ _ H _ I h => ld_blt I hg hm hv ⟨v, H, I, r, h⟩ hn hd
variable {a b : Expr} {ta tb : TE} {pos : Pos}
def PC (X : Cx) (op : CmpOp) (a b : Expr) (t : TE) : Prop :=
 ∀ (pins : List (Addr × Obj)) (s : Shared) (σ : St) (H : Hp) (Q : VK), Inv X pins σ H s → t σ H Q →
   wpAny (model X.prog X.w) X.A (eval a X.env) (fun v s₁ => wpAny (model X.prog X.w) X.A (eval b X.env) (fun u s₂ => wpAny (model X.prog X.w) X.A (compareOp op v u) (EP X pins σ Q) X.xe s₂) X.xe s₁) X.xe s
theorem nobehind (b : Expr) {op : CmpOp} (h : op ≠ .In) (h2 : op ≠ .NotIn) : behindInMarks op b = false := by
 have e1 : (op == CmpOp.In) = false := by cases op <;> first | rfl | exact absurd rfl h
 have e2 : (op == CmpOp.NotIn) = false := by cases op <;> first | rfl | exact absurd rfl h2
 cases b <;> simp [behindInMarks, e1, e2]
def tB (t : TE) : TT := fun σ H Q => t σ H fun x H1 => ∃ c, x = .bl c ∧ Q c H1
theorem pt_cmp {op : CmpOp} {t : TE} (h : PC X op a b t) (h1 : behindInMarks op b = false := by first | exact nobehind _ (by decide) (by decide) | rfl) : PT X (.Compare a [op] [b] pos) (tB t) := by
 intro pins s σ H Q I hw
 refine wpAny_isTrue_Compare1 (thn (h pins s σ H _ I hw) fun v s1 h1 => thn h1 fun u s2 h2 => thn h2 fun c s3 ⟨x, H1, I1, r1, q1⟩ => ?_) h1
 obtain ⟨d, rfl, q⟩ := q1
 cases r1
 exact wpAny_truthy_bool ⟨H1, I1, q⟩
theorem pt_val {e : Expr} {t : TE} (h : PE X e t) (he : ∀ whole, isTrue e X.env whole = (do let v ← whole; standAt e.pos; holding [v] (truthy v)) := by intro _; rfl) : PT X e (tB t) := by
 intro pins s σ H Q I hw
 refine isTrue_plain (thn (h pins s σ H _ I hw) fun v s1 ⟨x, H1, I1, r1, q1⟩ => ?_) (he _)
 obtain ⟨d, rfl, q⟩ := q1
 cases r1
 exact wpAny_truthy_bool ⟨H1, I1, q⟩
variable {tA tB' : TT} {rest : List Expr}
def tAnd (t u : TT) : TT := fun σ H Q => t σ H fun c H1 => if c = true then u σ H1 Q else Q false H1
def tOr (t u : TT) : TT := fun σ H Q => t σ H fun c H1 => if c = true then Q true H1 else u σ H1 Q
def tNot (t : TT) : TT := fun σ H Q => t σ H fun c H1 => Q (!c) H1
theorem pw_and1 (ha : PT X a tA) : PW X (.BoolOp .And [a] pos) tA := by
 intro wh pins s σ H Q I h
 refine isTrue_and (thn (ha pins s σ H Q I h) fun c s1 e => ?_)
 cases c with
 | true => exact isTrue_and_nil e
 | false => exact e
theorem pw_or1 (ha : PT X a tA) : PW X (.BoolOp .Or [a] pos) tA := by
 intro wh pins s σ H Q I h
 refine isTrue_or (thn (ha pins s σ H Q I h) fun c s1 e => ?_)
 cases c with
 | false => exact isTrue_or_nil e
 | true => exact e
theorem pw_and (ha : PT X a tA) (hb : PW X (.BoolOp .And (b :: rest) pos) tB') : PW X (.BoolOp .And (a :: b :: rest) pos) (tAnd tA tB') := by
 intro wh pins s σ H Q I h
 refine isTrue_and (thn (ha pins s σ H _ I h) fun c s1 ⟨H1, I1, q1⟩ => ?_)
 cases c with
 | true => exact hb wh pins s1 σ H1 Q I1 q1
 | false => exact ⟨H1, I1, q1⟩
theorem pw_or (ha : PT X a tA) (hb : PW X (.BoolOp .Or (b :: rest) pos) tB') : PW X (.BoolOp .Or (a :: b :: rest) pos) (tOr tA tB') := by
 intro wh pins s σ H Q I h
 refine isTrue_or (thn (ha pins s σ H _ I h) fun c s1 ⟨H1, I1, q1⟩ => ?_)
 cases c with
 | true => exact ⟨H1, I1, q1⟩
 | false => exact hb wh pins s1 σ H1 Q I1 q1
theorem pt_not (ha : PT X a tA) : PT X (.UnaryOp .Not a pos) (tNot tA) := by
 intro pins s σ H Q I h
 exact isTrue_not (ha pins s σ H (fun c H1 => Q (!c) H1) I h)
def tAndV (ta tb : TE) : TE := fun σ H Q => ta σ H fun x H1 => ∃ c, x = .bl c ∧ if c = true then tb σ H1 Q else Q (.bl false) H1
def tOrV (ta tb : TE) : TE := fun σ H Q => ta σ H fun x H1 => ∃ c, x = .bl c ∧ if c = true then Q (.bl true) H1 else tb σ H1 Q
def tNotV (ta : TE) : TE := fun σ H Q => ta σ H fun x H1 => ∃ c, x = .bl c ∧ Q (.bl (!c)) H1
theorem pe_one {op} {t : TE} (h : PE X a t) : PE X (.BoolOp op [a] pos) t := fun pins s σ H Q I hw => BoolOp_one (h pins s σ H Q I hw)
theorem pe_and (ha : PE X a ta) (hb : PE X (.BoolOp .And (b :: rest) pos) tb) : PE X (.BoolOp .And (a :: b :: rest) pos) (tAndV ta tb) := by
 intro pins s σ H Q I h
 refine BoolOp_and (thn (ha pins s σ H _ I h) fun v s1 ⟨x, H1, I1, r1, q1⟩ => ?_)
 obtain ⟨c, rfl, q1⟩ := q1
 cases r1
 refine wpAny_truthy_bool ?_
 cases c with
 | true => exact hb pins s1 σ H1 Q I1 q1
 | false => exact ⟨.bl false, H1, I1, rfl, q1⟩
theorem pe_not (ha : PE X a ta) : PE X (.UnaryOp .Not a pos) (tNotV ta) := by
 intro pins s σ H Q I h
 refine UnaryOp_ (thn (ha pins s σ H _ I h) fun v s1 ⟨x, H1, I1, r1, q1⟩ => ?_)
 obtain ⟨c, rfl, q1⟩ := q1
 cases r1
 exact not_of (wpAny_truthy_bool ⟨.bl (!c), H1, I1, rfl, q1⟩)
def tIf (t : TT) (ta tb : TE) : TE := fun σ H Q => t σ H fun c H1 => if c = true then ta σ H1 Q else tb σ H1 Q
theorem pe_ifExp {c : Expr} (hc : PT X c tA) (ha : PE X a ta) (hb : PE X b tb) : PE X (.IfExp c a b pos) (tIf tA ta tb) := by
 intro pins s σ H Q I h
 refine wpAny_IfExp (thn (hc pins s σ H _ I h) fun d s1 ⟨H1, I1, q1⟩ => ?_)
 cases d with
 | true => exact ha pins s1 σ H1 Q I1 q1
 | false => exact hb pins s1 σ H1 Q I1 q1
end
end L2
namespace L2
open PySem PySem.Spec PyProof.Rows
def SqL (K : PySem.W.Frag) (H : Hp) (a : Addr) (xs : List V) : Prop :=
 Rd H a (.lst xs) ∨
   ∃ (o : Obj) (its : Array Value) (n : Nat), K.lookup a = some o ∧ o.cls = .type "list" ∧ o.dict = none ∧ o.data = .seq its n ∧ its.size ≤ sizeLine ∧ Vals xs its.toList
def SqT (K : PySem.W.Frag) (H : Hp) (a : Addr) (xs : List V) : Prop :=
 Rd H a (.tup xs) ∨
   ∃ (o : Obj) (its : Array Value) (n : Nat), K.lookup a = some o ∧ o.cls = .type "tuple" ∧ o.data = .seq its n ∧ its.size ≤ sizeLine ∧ Vals xs its.toList
noncomputable def absV : Value → Option V
 | .none => some .non
 | .bool b => some (.bl b)
 | .int i _ => some (.int i)
 | .str x _ => some (.str x)
 | .bytes b _ => some (.byt b)
 | .float b _ => some (.flt b)
 | .ref a => some (.ref a)
 | .type n => some (.ty n)
 | _ => none
theorem RelV.abs {x : V} {u : Value} (r : RelV x u) : absV u = some x := by
 cases x with
 | non => cases r; rfl
 | bl _ => cases r; rfl
 | int _ => obtain ⟨t, rfl⟩ := r; rfl
 | str _ => obtain ⟨t, rfl⟩ := r; rfl
 | byt _ => obtain ⟨t, rfl⟩ := r; rfl
 | flt _ => obtain ⟨t, rfl⟩ := r; rfl
 | ref _ => cases r; rfl
 | ty _ => cases r; rfl
theorem RelV.inj {x y : V} {u : Value} (r : RelV x u) (q : RelV y u) : x = y := Option.some.inj (r.abs.symm.trans q.abs)
theorem Vals.inj : ∀ {xs ys : List V} {us : List Value}, Vals xs us → Vals ys us → xs = ys
 | _, _, _, .nil, .nil => rfl
 | _, _, _, .cons r t, .cons r' t' => by rw [r.inj r', Vals.inj t t']
section
variable {X : Cx} {pins : List (Addr × Obj)} {σ : St} {H : Hp} {s : Shared} {a : Addr} {xs ys : List V}
theorem SqL.of {K : PySem.W.Frag} (h : H a = some (.lst xs)) : SqL K H a xs := .inl (.inl h)
theorem SqT.of {K : PySem.W.Frag} (h : H a = some (.tup xs)) : SqT K H a xs := .inl (.inl h)
theorem Inv.list (I : Inv X pins σ H s) (h : SqL X.K H a xs) : ∃ its : List Value, Vals xs its ∧ PlainL s.heap a its.toArray ∧ xs.length ≤ sizeLine := by
 rcases h with h | ⟨o, its, n, hk, hc, hd, hs, hz, r⟩
 · obtain ⟨z, its, n, r, e⟩ := h.ok I.hok
   exact ⟨its, r, ⟨_, n, e, rfl, rfl, rfl⟩, z⟩
 · refine ⟨its.toList, r, ⟨o, n, I.kIn a o hk, hc, hd, by simpa using hs⟩, ?_⟩
   have e := r.length
   simp only [Array.length_toList] at e
   omega
theorem Inv.tuple (I : Inv X pins σ H s) (h : SqT X.K H a xs) : ∃ its : List Value, Vals xs its ∧ IsTup s.heap a its.toArray ∧ xs.length ≤ sizeLine := by
 rcases h with h | ⟨o, its, n, hk, hc, hs, hz, r⟩
 · obtain ⟨z, its, r, p⟩ := h.ok I.hok
   exact ⟨its, r, p, z⟩
 · refine ⟨its.toList, r, ⟨o, I.kIn a o hk, hc, n, by simpa using hs⟩, ?_⟩
   have e := r.length
   simp only [Array.length_toList] at e
   omega
theorem Inv.list_inj (I : Inv X pins σ H s) (h : SqL X.K H a xs) (h' : SqL X.K H a ys) : xs = ys := by
 obtain ⟨its, r, ⟨o, n, e, _, _, d⟩, _⟩ := I.list h
 obtain ⟨its', r', ⟨o', n', e', _, _, d'⟩, _⟩ := I.list h'
 rw [e] at e'; cases e'
 rw [d] at d'
 injection d' with d1 _
 have : its = its' := by simpa using congrArg Array.toList d1
 subst this
 exact r.inj r'
theorem Inv.tuple_inj (I : Inv X pins σ H s) (h : SqT X.K H a xs) (h' : SqT X.K H a ys) : xs = ys := by
 obtain ⟨its, r, ⟨o, e, _, n, d⟩, _⟩ := I.tuple h
 obtain ⟨its', r', ⟨o', e', _, n', d'⟩, _⟩ := I.tuple h'
 rw [e] at e'; cases e'
 rw [d] at d'
 injection d' with d1 _
 have : its = its' := by simpa using congrArg Array.toList d1
 subst this
 exact r.inj r'
end
noncomputable abbrev Cx.wish (X : Cx) (E : Value → Shared → Prop) : Cx := { X with xe := E }
noncomputable abbrev Cx.nox (X : Cx) : Cx := X.wish fun _ _ => False
theorem Cx.Ok.wish {X : Cx} (ok : X.Ok) (E : Value → Shared → Prop) : (X.wish E).Ok :=
 ⟨ok.mod, ok.kind, ok.glob, ok.blt, ok.above, ok.inj, ok.has, ok.cab, ok.hd, ok.frames, ok.stk, ok.exf, ok.bs, ok.bsz, ok.noex, ok.exfs, ok.funs, ok.frf⟩
theorem Cx.Ok.unwish {X : Cx} {E : Value → Shared → Prop} (ok : (X.wish E).Ok) : X.Ok :=
 ⟨ok.mod, ok.kind, ok.glob, ok.blt, ok.above, ok.inj, ok.has, ok.cab, ok.hd, ok.frames, ok.stk, ok.exf, ok.bs, ok.bsz, ok.noex, ok.exfs, ok.funs, ok.frf⟩
section
variable {X : Cx} {pins : List (Addr × Obj)} {σ : St} {H : Hp} {s : Shared} {E : Value → Shared → Prop}
theorem Inv.wish (I : Inv X pins σ H s) (E : Value → Shared → Prop) : Inv (X.wish E) pins σ H s := ⟨I.ok.wish E, I.os, I.bare, I.base, I.loc, I.cell, I.free, I.freeC, I.pin, I.hok, I.len⟩
theorem Inv.unwish (I : Inv (X.wish E) pins σ H s) : Inv X pins σ H s := ⟨I.ok.unwish, I.os, I.bare, I.base, I.loc, I.cell, I.free, I.freeC, I.pin, I.hok, I.len⟩
theorem SP.unwish {D : Ends} {f : Flow} {s' : Shared} (h : SP (X.wish E) pins D f s') : SP X pins D f s' := by
 cases f with
 | next => obtain ⟨σ', H', I, q⟩ := h; exact ⟨σ', H', I.unwish, q⟩
 | brk => obtain ⟨σ', H', I, q⟩ := h; exact ⟨σ', H', I.unwish, q⟩
 | cont => obtain ⟨σ', H', I, q⟩ := h; exact ⟨σ', H', I.unwish, q⟩
 | ret u => obtain ⟨v, σ', H', I, r, q⟩ := h; exact ⟨v, σ', H', I.unwish, r, q⟩
theorem PSs.nox {st : List Stmt} {t : TS} (h : PSs X.nox st t) : PSs X st t := fun pins s σ H D I hw =>
 wpAny_mono (h pins s σ H D (I.wish _) hw) (fun _ _ q => q.unwish) fun _ _ z => False.elim z
end
section
variable {X : Cx} {st : Stmt} {rest : List Stmt} {t u : TS} {e : Expr} {te : TE} {pos : Pos}
def tNext : TS := fun D σ H => D.nx σ H
def tSeq (t u : TS) : TS := fun D σ H => t { D with nx := u D } σ H
theorem zz8 : PSs X [] tNext := fun _ _ σ H _ I h => wpAny_execs_nil ⟨σ, H, I, h⟩
theorem zz3 (h1 : PS X st t) (h2 : PSs X rest u) : PSs X (st :: rest) (tSeq t u) := by
 intro pins s σ H D I h
 refine wpAny_execs_cons (thn (h1 pins s σ H { D with nx := u D } I h) fun f s1 q => ?_)
 cases f with
 | next =>
   obtain ⟨σ', H', I', q⟩ := q
   exact h2 pins s1 σ' H' D I' q
 | ret v => exact q
 | brk => exact q
 | cont => exact q
theorem zz5 (h1 : PS X st t) : PSs X [st] t := by
 intro pins s σ H D I h
 refine wpAny_execs_cons (thn (h1 pins s σ H D I h) fun f s1 q => ?_)
 cases f with
 | next => exact wpAny_execs_nil q
 | ret v => exact q
 | brk => exact q
 | cont => exact q
theorem Inv.quiet {pins : List (Addr × Obj)} {σ : St} {H : Hp} {s : Shared} (I : Inv X pins σ H s) : interactive X.env = false := by simp [interactive, I.ok.kind]
def tDrop (te : TE) : TS := fun D σ H => te σ H fun _ H1 => D.nx σ H1
theorem ps_expr (he : PE X e te) (hs : swapsWith e none pos.line X.env = pure false := by rfl) : PS X (.Expr e pos) (tDrop te) := by
 intro pins s σ H D I h
 exact wpAny_Expr_any (thn (he pins s σ H _ I h) fun v s1 ⟨x, H1, I1, r1, q1⟩ => ⟨σ, H1, I1, q1⟩) I.quiet hs
def tRet (te : TE) : TS := fun D σ H => te σ H D.rt
theorem ps_ret (he : PE X e te) : PS X (.Return (some e) pos) (tRet te) := by
 intro pins s σ H D I h
 exact wpAny_Return_some (thn (he pins s σ H _ I h) fun v s1 ⟨x, H1, I1, r1, q1⟩ => ⟨x, σ, H1, I1, r1, q1⟩)
def tRetN : TS := fun D _ H => D.rt .non H
def tIfS (c : TT) (t u : TS) : TS := fun D σ H => c σ H fun b H1 => if b = true then t D σ H1 else u D σ H1
theorem ps_if {c : Expr} {a b : List Stmt} {tc : TT} (hc : PT X c tc) (ha : PSs X a t) (hb : PSs X b u) : PS X (.If c a b pos) (tIfS tc t u) := by
 intro pins s σ H D I h
 refine wpAny_If (thn (hc pins s σ H _ I h) fun d s1 ⟨H1, I1, q1⟩ => ?_)
 cases d with
 | true => exact ha pins s1 σ H1 D I1 q1
 | false => exact hb pins s1 σ H1 D I1 q1
end
noncomputable abbrev TG := V → St → Hp → (St → Hp → Prop) → Prop
noncomputable abbrev TGs := List V → St → Hp → (St → Hp → Prop) → Prop
def PG (X : Cx) (target : Expr) (t : TG) : Prop :=
 ∀ (pins : List (Addr × Obj)) (s : Shared) (σ : St) (H : Hp) (v : V) (u : Value) (Q : St → Hp → Prop), Inv X pins σ H s → RelV v u → t v σ H Q →
   wpAny (model X.prog X.w) X.A (assign target X.env u) (fun _ s' => ∃ σ' H', Inv X pins σ' H' s' ∧ Q σ' H') X.xe s
def PGs (X : Cx) (ts : List Expr) (t : TGs) : Prop :=
 ∀ (pins : List (Addr × Obj)) (s : Shared) (σ : St) (H : Hp) (vs : List V) (us : List Value) (Q : St → Hp → Prop), Inv X pins σ H s → Vals vs us → t vs σ H Q →
   wpAny (model X.prog X.w) X.A (assignInOrder ((assignEach ts X.env).map (·.2)) us) (fun _ s' => ∃ σ' H', Inv X pins σ' H' s' ∧ Q σ' H') X.xe s
noncomputable abbrev TSet := V → V → V → Hp → (Hp → Prop) → Prop
section
variable {X : Cx} {pos : Pos}
def gName (i : Nat) : TG := fun v σ H Q => Q (σ.set i (some v)) H
theorem pg_name {i : Nat} {x : Str} (hN : X.N.Nodup) (hi : X.N[i]? = some x) (hx : Loc X.env.scope x) (hf : X.fn x = true ∨ X.env.scope.names.lookup x = some .local := by first | exact .inl rfl | exact .inr rfl | assumption) : PG X (.Name x pos) (gName i) := by
 intro pins s σ H v u Q I r h
 exact wpAny_assign_Name (store_ok I hN hi hx r (fun s' I' => ⟨_, H, I', h⟩) hf)
noncomputable def gNil : TGs := fun vs σ H Q => vs = [] ∧ Q σ H
noncomputable def gCons (t : TG) (u : TGs) : TGs := fun vs σ H Q => ∃ v r, vs = v :: r ∧ t v σ H fun σ' H' => u r σ' H' Q
theorem pgs_nil : PGs X [] gNil := by
 intro pins s σ H vs us Q I r h
 obtain ⟨e, h⟩ := h
 subst e
 cases r
 exact assignInOrder_nil ⟨σ, H, I, h⟩
theorem pgs_cons {e : Expr} {es : List Expr} {t : TG} {u : TGs} (h1 : PG X e t) (h2 : PGs X es u)
   (hs : (assignEach (e :: es) X.env).map (·.2) = assign e X.env :: (assignEach es X.env).map (·.2) := by rfl) : PGs X (e :: es) (gCons t u) := by
 intro pins s σ H vs us Q I r h
 obtain ⟨v, vr, e1, h⟩ := h
 subst e1
 cases r with
 | cons r rr =>
   rw [hs]
   refine assignInOrder_cons (thn (h1 pins s σ H _ _ _ I r h) fun _ s1 ⟨σ1, H1, I1, q1⟩ => ?_)
   exact h2 pins s1 σ1 H1 _ _ Q I1 rr q1
def gTup (K : PySem.W.Frag) (n : Nat) (t : TGs) : TG := fun v σ H Q => ∃ a xs, v = .ref a ∧ SqT K H a xs ∧ xs.length = n ∧ t xs σ H Q
theorem pg_tup {es : List Expr} {k : Nat} {t : TGs} {n : Nat} (hc : X.calm = true) (h : PGs X es t)
   (hn : (assignEach es X.env).length = n := by rfl) (hst : (assignEach es X.env).findIdx? (·.1) = none := by rfl) : PG X (.Tuple es k pos) (gTup X.K n t) := by
 intro pins s σ H v u Q I r hw
 obtain ⟨a, xs, e1, hq, hl, hw⟩ := hw
 subst e1
 cases r
 obtain ⟨its, rv, ht, hz⟩ := I.tuple hq
 refine assign_Tuple_tuple (I.ok.hd hc) ht (by simp [hn, ← hl, rv.length]) hst fun h' hx => ?_
 have I1 : Inv X pins σ H { s with heap := h' } := I.kept (t' := s.toks) fun b o e => hx b o (Nat.ne_of_lt (Heap.lt_size e)) e
 exact h pins _ σ H xs _ Q I1 (by simpa using rv) hw
def gSub (to ti : TE) (t : TSet) : TG := fun v σ H Q => to σ H fun o H1 => ti σ H1 fun i H2 => t o i v H2 fun H3 => Q σ H3
def tAsg (te : TE) (g : TG) : TS := fun D σ H => te σ H fun x H1 => g x σ H1 D.nx
theorem ps_asg {tg e : Expr} {te : TE} {g : TG} (he : PE X e te) (hg : PG X tg g) (hs : swapsWithSole [tg] e pos.line X.env = pure false := by rfl) (hw : swappedStores [tg] e X.env = pure none := by rfl)
   (h1 : (assignEach [tg] X.env).map (·.2) = [assign tg X.env] := by rfl) : PS X (.Assign [tg] e pos) (tAsg te g) := by
 intro pins s σ H D I h
 refine wpAny_Assign_stores (thn (he pins s σ H _ I h) fun v s1 ⟨x, H1, I1, r1, q1⟩ => ?_) hs hw
 rw [h1]
 exact thn (hg pins s1 σ H1 x v _ I1 r1 q1) fun _ s2 q => q
theorem ps_set {i : Nat} {x : Str} {e : Expr} {te : TE} {pos' : Pos} (hN : X.N.Nodup) (hi : X.N[i]? = some x) (hx : Loc X.env.scope x) (he : PE X e te) (hs : swapsWith e (some (.Name x pos')) pos.line X.env = pure false := by rfl) (hf : X.fn x = true ∨ X.env.scope.names.lookup x = some .local := by first | exact .inl rfl | exact .inr rfl | assumption) :
   PS X (.Assign [.Name x pos'] e pos) (tAsg te (gName i)) := by
 intro pins s σ H D I h
 refine wpAny_Assign_Name (thn (he pins s σ H _ I h) fun v s1 ⟨y, H1, I1, r1, q1⟩ => ?_) hs
 exact store_ok I1 hN hi hx r1 (fun s2 I2 => ⟨_, H1, I2, q1⟩) hf
end
section
variable {X : Cx} {pos : Pos}
end
set_option genInjectivity false in
structure It where
 go : Nat → Hp → Prop
 yld : Nat → Hp → V → Hp → Prop
 stop : Nat → Hp → Prop
def FpOk (X : Cx) (pins : List (Addr × Obj)) (H : Hp) (b : Addr) : Prop :=
 H b = none ∧ b ≠ X.env.locals ∧ b ∉ X.fs ∧ (b ∈ X.ex ∨ X.s₀.heap.objs.size ≤ b) ∧ (∀ x c, X.env.cells.lookup x = some c → c ≠ b) ∧ ∀ p ∈ X.pn ++ pins, p.1 ≠ b
theorem Inv.fpOk {X : Cx} {pins : List (Addr × Obj)} {σ : St} {H H' : Hp} {s : Shared} {b : Addr} (I : Inv X pins σ H s) (hb : s.heap.objs.size ≤ b) (hn : H' b = none) : FpOk X pins H' b := by
 refine ⟨hn, Nat.ne_of_gt (Nat.lt_of_lt_of_le I.lt hb), I.nofs hb, .inr (Nat.le_trans I.sz hb), fun x c e z => ?_, fun p hp z => ?_⟩
 · obtain ⟨v, q⟩ := I.cell x c e
   exact absurd (Nat.lt_of_lt_of_le q.lt (by rw [z]; exact hb)) (Nat.lt_irrefl _)
 · exact absurd (Nat.lt_of_lt_of_le (Heap.lt_size (I.pin p hp).1) (by rw [z]; exact hb)) (Nat.lt_irrefl _)
set_option genInjectivity false in
structure Turn (P : Program) (w : World) (K : PySem.W.Frag) (tg : Expr) (J : It) (fp : List Addr) (it : Addr) (tn : Nat → Heap → Prop) : Prop where
 mem : it ∈ fp
 obj : ∀ i h, tn i h → ∀ b ∈ fp, ∃ o, h.get? b = some o ∧ ∀ v, o.data ≠ .cell v
 keep : ∀ i h h', tn i h → (∀ b ∈ fp, ∀ o, h.get? b = some o → h'.get? b = some o) → tn i h'
 item : ∀ (X : Cx), X.prog = P → X.w = w → X.K = K → X.calm = true → ∀ (i : Nat) (pins : List (Addr × Obj)) (s : Shared) (σ : St) (H : Hp) (E : Value → Shared → Prop), Inv X pins σ H s → (∀ b ∈ fp, FpOk X pins H b) → tn i s.heap → J.go i H →
   wpAny (model P w) X.A (pyNext (.ref it)) (fun r s1 => ∃ u, r = some u ∧
     wpAny (model P w) X.A (letOwnedTupleGo tg (.ref it) u) (fun _ s2 => ∃ x H', Inv X pins σ H' s2 ∧ RelV x u ∧ J.yld i H x H' ∧ tn (i + 1) s2.heap ∧ ∀ b ∈ fp, H' b = none) E s1) E s
 done : ∀ (X : Cx), X.prog = P → X.w = w → X.K = K → X.calm = true → ∀ (i : Nat) (pins : List (Addr × Obj)) (s : Shared) (σ : St) (H : Hp) (E : Value → Shared → Prop), Inv X pins σ H s → (∀ b ∈ fp, FpOk X pins H b) → tn i s.heap → J.stop i H →
   wpAny (model P w) X.A (pyNext (.ref it)) (fun r s1 => r = none ∧ Inv X pins σ H s1) E s
 self : ∀ (A : Around) (i : Nat) (s : Shared) (Q : Value → Shared → Prop) (E : Value → Shared → Prop), tn i s.heap → Q (.ref it) s → wpAny (model P w) A (pyIter (.ref it)) Q E s
noncomputable abbrev TI := St → Hp → (It → Hp → Prop) → Prop
def PIE (X : Cx) (pins : List (Addr × Obj)) (σ : St) (tg : Expr) (R : It → Hp → Prop) (itv : Value) (s2 : Shared) : Prop :=
 ∃ (it : Addr) (fp : List Addr) (tn : Nat → Heap → Prop) (J : It) (H' : Hp), itv = .ref it ∧ Inv X pins σ H' s2 ∧ Turn X.prog X.w X.K tg J fp it tn ∧ tn 0 s2.heap ∧ (∀ b ∈ fp, FpOk X pins H' b) ∧ R J H'
def PI (X : Cx) (tg iter : Expr) (wi : TI) : Prop :=
 ∀ (pins : List (Addr × Obj)) (s : Shared) (σ : St) (H : Hp) (R : It → Hp → Prop), Inv X pins σ H s → wi σ H R →
   wpAny (model X.prog X.w) X.A (eval iter X.env) (fun v s1 => wpAny (model X.prog X.w) X.A (pyIter v) (PIE X pins σ tg R) X.xe s1) X.xe s
theorem go_of {M : Model} {A : Around} {E : Value → Shared → Prop} {s : Shared} {tg : Expr} {it : Addr} {u : Value} {o : Obj} {n : String} {vs : Array Value} {Q : Unit → Shared → Prop} (ho : s.heap.get? it = some o) (hc : o.cls = .type n) (hd : o.data = .fields vs)
   (hn : ["enumerate", "zip", "dict_itemiterator", "dict_reverseitemiterator", "odict_iterator", "itertools.zip_longest", "itertools.pairwise"].contains n = false) (hQ : Q () s) : wpAny M A (letOwnedTupleGo tg (.ref it) u) Q E s := by
 unfold letOwnedTupleGo
 cases tg <;> first
   | exact wpAny_pure hQ
   | (cases u <;> first
       | exact wpAny_pure hQ
       | (refine wpAny_bind (wpAny_load ho ?_)
          rw [hc, hd]
          show wpAny M A (if (["enumerate", "zip", "dict_itemiterator", "dict_reverseitemiterator", "odict_iterator", "itertools.zip_longest", "itertools.pairwise"].contains n && vs[0]? == some (rawInt _)) = true then _ else _) Q E s
          rw [if_neg (by intro h; rw [hn, Bool.false_and] at h; cases h)]
          exact wpAny_pure hQ))
noncomputable def Itl (K : PySem.W.Frag) (a : Addr) : It :=
 ⟨fun i H => ∃ xs x, SqL K H a xs ∧ xs[i]? = some x, fun i H x H' => H' = H ∧ ∀ xs, SqL K H a xs → xs[i]? = some x, fun i H => ∃ xs, SqL K H a xs ∧ xs.length ≤ i⟩
noncomputable def Itt (K : PySem.W.Frag) (a : Addr) : It :=
 ⟨fun i H => ∃ xs x, SqT K H a xs ∧ xs[i]? = some x, fun i H x H' => H' = H ∧ ∀ xs, SqT K H a xs → xs[i]? = some x, fun i H => ∃ xs, SqT K H a xs ∧ xs.length ≤ i⟩
noncomputable def Itr (lo : Int) (n : Nat) : It := ⟨fun i _ => i < n, fun i H x H' => H' = H ∧ x = .int (lo + i), fun i _ => n ≤ i⟩
theorem turn_list {P : Program} {w : World} {K : PySem.W.Frag} {tg : Expr} (a it : Addr) : Turn P w K tg (Itl K a) [it] it (fun i h => h.IsListIter it a i) where
 mem := by simp
 obj := fun i h st b hb => by
   have e : b = it := by simpa using hb
   subst e
   obtain ⟨o, e, c, d⟩ := st
   exact ⟨o, e, fun v z => by rw [d] at z; cases z⟩
 keep := fun i h h' st k => st.at fun o e => k it (by simp) o e
 item := by
   intro X hP hw hK hc i pins s σ H E I hf st hg
   subst hP hw hK
   obtain ⟨xs, x, hq, hx⟩ := hg
   obtain ⟨its, rv, p, hz⟩ := I.list hq
   obtain ⟨u, hu, ru⟩ := rv.get hx
   obtain ⟨f0, f1, f2, f3, f4, f5⟩ := hf it (by simp)
   refine wpAny_pyNext_list_item st p.isList (x := u) (by simpa using hu) fun h' st' sb => ?_
   have I1 : Inv X pins σ H { s with heap := h' } := I.turned (t' := s.toks) (fun b o hb e => (sb.2 b hb).trans e) f0 f1 f3 f4 f5
   obtain ⟨o, e, c, d⟩ := id st'
   exact ⟨u, rfl, go_of (s := { s with heap := h' }) e c d (by decide) ⟨x, H, I1, ru, ⟨rfl, fun ys hy => by rw [I.list_inj hy hq]; exact hx⟩, st', fun b hb => (hf b hb).1⟩⟩
 done := by
   intro X hP hw hK hc i pins s σ H E I hf st hg
   subst hP hw hK
   obtain ⟨xs, hq, hx⟩ := hg
   obtain ⟨its, rv, p, hz⟩ := I.list hq
   obtain ⟨f0, f1, f2, f3, f4, f5⟩ := hf it (by simp)
   have hl := rv.length
   exact wpAny_pyNext_list_end (I.ok.hd hc) st p.isList (by simp; omega) fun h' eb => ⟨rfl, I.turned (t' := s.toks) (fun b o hb e => eb b o hb e) f0 f1 f3 f4 f5⟩
 self := fun _ _ _ _ _ st h => wpAny_pyIter_listiter st h
theorem turn_range {P : Program} {w : World} {K : PySem.W.Frag} {tg : Expr} (it : Addr) (lo : Int) (n : Nat) : Turn P w K tg (Itr lo n) [it] it (fun i h => IsRangeIter h it (lo + (i : Nat) * 1) ((n : Int) - (i : Nat)) 1) where
 mem := by simp
 obj := fun i h st b hb => by
   have e : b = it := by simpa using hb
   subst e
   exact ⟨_, st, fun v z => by
     have z' : Data.fields _ = Data.cell v := z
     cases z'⟩
 keep := fun i h h' st k => k it (by simp) _ st
 item := by
   intro X hP hw hK hc i pins s σ H E I hf st hg
   subst hP hw hK
   obtain ⟨f0, f1, f2, f3, f4, f5⟩ := hf it (by simp)
   have W := Walks.range (prog := X.prog) (w := X.w) (I.ok.hd hc) it lo 1 n
   refine W.item i s _ _ hg st fun v h' tk hv st' kk => ?_
   obtain ⟨t, rfl⟩ := hv
   have I1 : Inv X pins σ H { s with heap := h', toks := tk } := I.turned (fun b o hb e => kk b o (by simpa using hb) e) f0 f1 f3 f4 f5
   refine ⟨_, rfl, go_of (s := { s with heap := h', toks := tk }) (n := "range_iterator") st' rfl rfl (by decide) ⟨.int (lo + i), H, I1, ⟨t, ?_⟩, ⟨rfl, rfl⟩, st', fun b hb => (hf b hb).1⟩⟩
   rw [Int.mul_one]
 done := by
   intro X hP hw hK hc i pins s σ H E I hf st hg
   subst hP hw hK
   obtain ⟨f0, f1, f2, f3, f4, f5⟩ := hf it (by simp)
   exact wpAny_pyNext_range_end (I.ok.hd hc) st (by have : n ≤ i := hg; omega) fun h' eb => ⟨rfl, I.turned (t' := s.toks) (fun b o hb e => eb b o hb e) f0 f1 f3 f4 f5⟩
 self := fun _ _ _ _ _ st h => wpAny_pyIter_rangeiter st h
end L2
namespace L2
open PySem PySem.Spec PyProof.Rows
section
variable {X : Cx} {tg : Expr}
def iList (K : PySem.W.Frag) (tl : TE) : TI := fun σ H R => tl σ H fun x H1 => ∃ a, x = .ref a ∧ (∃ xs, SqL K H1 a xs) ∧ R (Itl K a) H1
def iTup (K : PySem.W.Frag) (tl : TE) : TI := fun σ H R => tl σ H fun x H1 => ∃ a, x = .ref a ∧ (∃ xs, SqT K H1 a xs) ∧ R (Itt K a) H1
theorem pi_list {l : Expr} {tl : TE} (hl : PE X l tl) : PI X tg l (iList X.K tl) := by
 intro pins s σ H R I h
 refine thn (hl pins s σ H _ I h) fun v s1 ⟨x, H1, I1, r1, q1⟩ => ?_
 obtain ⟨a, e, ⟨xs, hq⟩, q⟩ := q1
 subst e
 cases r1
 obtain ⟨its, rv, p, hz⟩ := I1.list hq
 refine wpAny_pyIter_list p.isList ?_
 refine ⟨s1.heap.objs.size, [s1.heap.objs.size], _, _, H1, rfl, I1.kept (t' := s1.toks) fun b o e => Heap.get?_push_of_some _ e, turn_list a _, ⟨_, Heap.get?_push_size _ rfl, rfl, rfl⟩, fun b hb => ?_, q⟩
 have e : b = s1.heap.objs.size := by simpa using hb
 subst e
 exact I1.fpOk (Nat.le_refl _) (I1.hok.fresh (Nat.le_refl _))
theorem range_it {pins : List (Addr × Obj)} {σ : St} {H : Hp} {s : Shared} {R : It → Hp → Prop} {E : Value → Shared → Prop} {lo hi : Int} {t u v : Tok} {tk : Nat} (I : Inv X pins σ H s) (h1 : -(2 ^ 62) ≤ lo) (h2 : lo < 2 ^ 62) (h3 : -(2 ^ 62) ≤ hi) (h4 : hi < 2 ^ 62)
   (q : R (Itr lo (hi - lo).toNat) H) : wpAny (model X.prog X.w) X.A (pyIter (.ref s.heap.objs.size)) (PIE X pins σ tg R) E { s with heap := s.heap.push { cls := .type "range", data := .fields #[.int lo t, .int hi u, .int 1 v] }, toks := tk } := by
 refine wpAny_pyIter_range (IsRange.new ..) (small_one h1 h2 h3 h4) ?_
 have I1 : Inv X pins σ H { s with heap := s.heap.push { cls := .type "range", data := .fields #[.int lo t, .int hi u, .int 1 v] }, toks := tk } := I.kept fun b o e => Heap.get?_push_of_some _ e
 refine ⟨(s.heap.push { cls := .type "range", data := .fields #[.int lo t, .int hi u, .int 1 v] }).objs.size, [(s.heap.push { cls := .type "range", data := .fields #[.int lo t, .int hi u, .int 1 v] }).objs.size], _, _, H, rfl,
   I1.kept (t' := tk) fun b o e => Heap.get?_push_of_some _ e, turn_range _ lo (hi - lo).toNat, ?_, fun b hb => ?_, q⟩
 · have e1 : lo + ((0 : Nat) : Int) * 1 = lo := by simp
   have e2 : (((hi - lo).toNat : Nat) : Int) - ((0 : Nat) : Int) = Builtin.Range.rangeSize lo hi 1 := by rw [rangeSize_one]; split <;> omega
   show IsRangeIter _ _ (lo + ((0 : Nat) : Int) * 1) ((((hi - lo).toNat : Nat) : Int) - ((0 : Nat) : Int)) 1
   rw [e1, e2]
   exact Heap.get?_push_size _ rfl
 · have e : b = (s.heap.push { cls := .type "range", data := .fields #[.int lo t, .int hi u, .int 1 v] }).objs.size := by simpa using hb
   subst e
   exact I1.fpOk (Nat.le_refl _) (I1.hok.fresh (Nat.le_refl _))
def iRng1 (ta : TA) : TI := fun σ H R => ta σ H fun vs H1 => ∃ j : Int, vs = [.int j] ∧ -(2 ^ 62) ≤ j ∧ j < 2 ^ 62 ∧ R (Itr 0 j.toNat) H1
def iRng2 (ta : TA) : TI := fun σ H R => ta σ H fun vs H1 => ∃ i j : Int, vs = [.int i, .int j] ∧ (-(2 ^ 62) ≤ i ∧ i < 2 ^ 62 ∧ -(2 ^ 62) ≤ j ∧ j < 2 ^ 62) ∧ R (Itr i (j - i).toNat) H1
theorem pi_range1 {a : Expr} {ta : TA} {p pos : Pos} (hg : Gl X "range") (hm : X.mg "range" = none) (ha : PA X [a] ta) (hs : starEach [a] X.env = [(false, eval a X.env)] := by rfl) : PI X tg (.Call (.Name "range" p) [a] [] pos) (iRng1 ta) := by
 intro pins s σ H R I h
 refine Call_ (ld_blt I hg hm boot_range (PyProof.Rows.callWith_type1 (thn (ha pos pins s σ H _ I h) fun us s1 ⟨vs, H1, I1, r1, q1⟩ => ?_) hs rfl))
 obtain ⟨j, e, q1, q2, q⟩ := q1
 subst e
 cases r1 with
 | cons r rr =>
   cases rr
   obtain ⟨t, rfl⟩ := r
   exact call_range_1 (range_it I1 (by omega) (by omega) q1 q2 (by simpa using q))
def tFor (wi : TI) (g : TG) (tb : TS) : TS := fun D σ H => wi σ H fun J H1 => ∃ W : Nat → Nat → St → Hp → Prop, (∃ m, W 0 m σ H1) ∧ ∀ i m σ H, W i m σ H →
 (J.stop i H ∧ D.nx σ H) ∨ (J.go i H ∧ ∃ N : St → Hp → Prop, (∀ σ' H', N σ' H' → ∃ m', m' < m ∧ W (i + 1) m' σ' H') ∧ ∀ x H', J.yld i H x H' → g x σ H' fun σ2 H2 => tb { D with nx := N, ct := N, bk := D.nx } σ2 H2)
noncomputable def pinsAt (fp : List Addr) (h : Heap) : List (Addr × Obj) := fp.filterMap fun b => (h.get? b).map fun o => (b, o)
theorem mem_pinsAt {fp : List Addr} {h : Heap} {b : Addr} {o : Obj} (hb : b ∈ fp) (e : h.get? b = some o) : (b, o) ∈ pinsAt fp h := List.mem_filterMap.mpr ⟨b, hb, by rw [e]; rfl⟩
theorem of_pinsAt {fp : List Addr} {h : Heap} {p : Addr × Obj} (hp : p ∈ pinsAt fp h) : p.1 ∈ fp ∧ h.get? p.1 = some p.2 := by
 obtain ⟨b, hb, e⟩ := List.mem_filterMap.mp hp
 cases q : h.get? b with
 | none => rw [q] at e; cases e
 | some o =>
   rw [q] at e
   have e' : (b, o) = p := Option.some.inj e
   subst e'
   exact ⟨hb, q⟩
theorem Inv.pinned {pins : List (Addr × Obj)} {σ : St} {H : Hp} {s : Shared} {fp : List Addr} (I : Inv X pins σ H s) (hf : ∀ b ∈ fp, FpOk X pins H b) (ho : ∀ b ∈ fp, ∃ o, s.heap.get? b = some o ∧ ∀ v, o.data ≠ .cell v) : Inv X (pins ++ pinsAt fp s.heap) σ H s :=
 I.pins_of fun p hp => (List.mem_append.mp hp).elim (fun z => I.pin p (List.mem_append_right _ z)) fun z => by
   obtain ⟨hb, e⟩ := of_pinsAt z
   obtain ⟨f0, f1, f2, _⟩ := hf p.1 hb
   obtain ⟨o, e', d⟩ := ho p.1 hb
   rw [e] at e'; cases e'
   exact ⟨e, f0, f1, f2, d⟩
theorem Inv.unpinned {pins pl : List (Addr × Obj)} {σ : St} {H : Hp} {s : Shared} (I : Inv X (pins ++ pl) σ H s) : Inv X pins σ H s := I.pins_of fun p hp => I.pin p (List.mem_append_right _ (List.mem_append_left _ hp))
theorem ps_for {iter : Expr} {body : List Stmt} {wi : TI} {g : TG} {tb : TS} {pos : Pos} (hp : PassesOwn (model X.prog X.w) X.A X.env X.xe) (hc : X.calm = true) (hi : PI X tg iter wi) (hg : PG X tg g) (hb : PSs X body tb)
   (hs : ∀ x, foldedSetIterable iter X.env x = pure x := by intro _; rfl) : PS X (.For tg iter body [] pos) (tFor wi g tb) := by
 intro pins s σ H D I h
 refine wpAny_For (thn (hi pins s σ H _ I h) fun v s1 h1 => thn h1 fun itv s2 h2 => ?_) hs
 obtain ⟨it, fp, tn, J, H2, e, I2, T, st2, f2, W, ⟨m0, w0⟩, turn⟩ := h2
 subst e
 have stat : ∀ {H' : Hp}, (∀ b ∈ fp, H' b = none) → ∀ b ∈ fp, FpOk X pins H' b := fun hn b hb => ⟨hn b hb, (f2 b hb).2⟩
 refine codeAny_forLoop_any (fun n s' => ∃ i σ' H', Inv X pins σ' H' s' ∧ tn i s'.heap ∧ (∀ b ∈ fp, H' b = none) ∧ W i n σ' H') ?_ m0 ⟨0, σ, H2, I2, st2, fun b hb => (f2 b hb).1, w0⟩
 rintro n s3 ⟨i, σ3, H3, I3, st3, fr3, w3⟩
 rcases turn i n σ3 H3 w3 with ⟨stop, qn⟩ | ⟨go, N, hN, step⟩
 · refine wpAny_passesOwn hp (thn (T.done X rfl rfl rfl hc i pins s3 σ3 H3 X.xe I3 (stat fr3) st3 stop) fun r s4 ⟨hr, I4⟩ => ?_)
   subst hr
   exact wpAny_execs_nil ⟨σ3, H3, I4, qn⟩
 · refine wpAny_passesOwn hp (thn (T.item X rfl rfl rfl hc i pins s3 σ3 H3 X.xe I3 (stat fr3) st3 go) fun r s4 ⟨u, hr, h4⟩ => ?_)
   subst hr
   refine wpAny_passesOwn hp (thn h4 fun _ s5 ⟨x, H5, I5, r5, y5, st5, fr5⟩ => ?_)
   have I5' := I5.pinned (stat fr5) (T.obj _ _ st5)
   refine wpAny_passesOwn hp (thn (hg _ s5 σ3 H5 x u _ I5' r5 (step x H5 y5)) fun _ s6 ⟨σ6, H6, I6, q6⟩ => ?_)
   refine wpAny_passesOwn hp (thn (hb _ s6 σ6 H6 _ I6 q6) fun f s7 q7 => ?_)
   have again : ∀ {σ7 : St} {H7 : Hp}, Inv X (pins ++ pinsAt fp s5.heap) σ7 H7 s7 → N σ7 H7 → ∃ m, m < n ∧ ∃ i σ' H', Inv X pins σ' H' s7 ∧ tn i s7.heap ∧ (∀ b ∈ fp, H' b = none) ∧ W i m σ' H' := fun {σ7 H7} I7 n7 => by
     obtain ⟨m', hm, w7⟩ := hN σ7 H7 n7
     refine ⟨m', hm, i + 1, σ7, H7, I7.unpinned, T.keep _ _ _ st5 fun b hb o e => (I7.pin (b, o) (List.mem_append_right _ (List.mem_append_right _ (mem_pinsAt hb e)))).1, fun b hb => ?_, w7⟩
     obtain ⟨o, e, d⟩ := T.obj _ _ st5 b hb
     exact (I7.pin (b, o) (List.mem_append_right _ (List.mem_append_right _ (mem_pinsAt hb e)))).2.1
   cases f with
   | next => obtain ⟨σ7, H7, I7, n7⟩ := q7; exact again I7 n7
   | cont => obtain ⟨σ7, H7, I7, n7⟩ := q7; exact again I7 n7
   | brk => obtain ⟨σ7, H7, I7, q7⟩ := q7; exact ⟨σ7, H7, I7.unpinned, q7⟩
   | ret v => obtain ⟨x7, σ7, H7, I7, r7, q7⟩ := q7; exact ⟨x7, σ7, H7, I7.unpinned, r7, q7⟩
end
theorem for_list {K : PySem.W.Frag} {a : Addr} {xs : List V} {g : TG} {tb : TS} {D : Ends} {σ : St} {H : Hp} (Pv : Nat → St → Hp → Prop) (h0 : Pv 0 σ H) (hl : ∀ i σ H, i ≤ xs.length → Pv i σ H → SqL K H a xs)
   (hs : ∀ i x σ H, xs[i]? = some x → Pv i σ H → g x σ H fun σ2 H2 => tb { D with nx := Pv (i + 1), ct := Pv (i + 1), bk := D.nx } σ2 H2) (hd : ∀ σ H, Pv xs.length σ H → D.nx σ H) :
   ∃ W : Nat → Nat → St → Hp → Prop, (∃ m, W 0 m σ H) ∧ ∀ i m σ H, W i m σ H →
     ((Itl K a).stop i H ∧ D.nx σ H) ∨ ((Itl K a).go i H ∧ ∃ N : St → Hp → Prop, (∀ σ' H', N σ' H' → ∃ m', m' < m ∧ W (i + 1) m' σ' H') ∧ ∀ x H', (Itl K a).yld i H x H' → g x σ H' fun σ2 H2 => tb { D with nx := N, ct := N, bk := D.nx } σ2 H2) := by
 refine ⟨fun i m σ H => m = xs.length - i ∧ i ≤ xs.length ∧ Pv i σ H, ⟨xs.length, by simp, Nat.zero_le _, h0⟩, ?_⟩
 rintro i m σ H ⟨rfl, hi, p⟩
 have q := hl i σ H hi p
 by_cases hlt : i < xs.length
 · refine .inr ⟨⟨xs, xs[i], q, by simp [hlt]⟩, Pv (i + 1), fun σ' H' p' => ⟨xs.length - (i + 1), by omega, rfl, hlt, p'⟩, fun x H' y => ?_⟩
   obtain ⟨e, y⟩ := y
   subst e
   exact hs i x σ _ (y xs q) p
 · have e : i = xs.length := by omega
   subst e
   exact .inl ⟨⟨xs, q, Nat.le_refl _⟩, hd σ H p⟩
theorem for_range {lo : Int} {n : Nat} {g : TG} {tb : TS} {D : Ends} {σ : St} {H : Hp} (Pv : Nat → St → Hp → Prop) (h0 : Pv 0 σ H)
   (hs : ∀ i σ H, i < n → Pv i σ H → g (.int (lo + i)) σ H fun σ2 H2 => tb { D with nx := Pv (i + 1), ct := Pv (i + 1), bk := D.nx } σ2 H2) (hd : ∀ σ H, Pv n σ H → D.nx σ H) :
   ∃ W : Nat → Nat → St → Hp → Prop, (∃ m, W 0 m σ H) ∧ ∀ i m σ H, W i m σ H →
     ((Itr lo n).stop i H ∧ D.nx σ H) ∨ ((Itr lo n).go i H ∧ ∃ N : St → Hp → Prop, (∀ σ' H', N σ' H' → ∃ m', m' < m ∧ W (i + 1) m' σ' H') ∧ ∀ x H', (Itr lo n).yld i H x H' → g x σ H' fun σ2 H2 => tb { D with nx := N, ct := N, bk := D.nx } σ2 H2) := by
 refine ⟨fun i m σ H => m = n - i ∧ i ≤ n ∧ Pv i σ H, ⟨n, by simp, Nat.zero_le _, h0⟩, ?_⟩
 rintro i m σ H ⟨rfl, hi, p⟩
 by_cases hlt : i < n
 · refine .inr ⟨hlt, Pv (i + 1), fun σ' H' p' => ⟨n - (i + 1), by omega, rfl, hlt, p'⟩, fun x H' y => ?_⟩
   obtain ⟨e, y⟩ := y
   subst e y
   exact hs i σ _ hlt p
 · have e : i = n := by omega
   subst e
   exact .inl ⟨Nat.le_refl _, hd σ H p⟩
end L2
namespace L2
open PySem PySem.Spec PyProof.Rows
noncomputable abbrev R2 := V → V → Hp → VK → Prop
def OpR (X : Cx) (f : Value → Value → Sem Value) (r : R2) : Prop :=
 ∀ (pins : List (Addr × Obj)) (s : Shared) (σ : St) (H : Hp) (x y : V) (v u : Value) (Q : VK), Inv X pins σ H s → RelV x v → RelV y u → r x y H Q →
   wpAny (model X.prog X.w) X.A (f v u) (EP X pins σ Q) X.xe s
def UnR (X : Cx) (f : Value → Sem Value) (r : V → Hp → VK → Prop) : Prop :=
 ∀ (pins : List (Addr × Obj)) (s : Shared) (σ : St) (H : Hp) (x : V) (v : Value) (Q : VK), Inv X pins σ H s → RelV x v → r x H Q →
   wpAny (model X.prog X.w) X.A (f v) (EP X pins σ Q) X.xe s
def CallR (X : Cx) (f : Value) (r : List V → Hp → VK → Prop) : Prop :=
 ∀ (pins : List (Addr × Obj)) (s : Shared) (σ : St) (H : Hp) (xs : List V) (us : List Value) (Q : VK), Inv X pins σ H s → Vals xs us → r xs H Q →
   wpAny (model X.prog X.w) X.A (call f us) (EP X pins σ Q) X.xe s
def TruR (X : Cx) (r : V → Hp → (Bool → Hp → Prop) → Prop) : Prop :=
 ∀ (pins : List (Addr × Obj)) (s : Shared) (σ : St) (H : Hp) (x : V) (v : Value) (Q : Bool → Hp → Prop), Inv X pins σ H s → RelV x v → r x H Q →
   wpAny (model X.prog X.w) X.A (truthy v) (TP X pins σ Q) X.xe s
def tOp (r : R2) (ta tb : TE) : TE := fun σ H Q => ta σ H fun x H1 => tb σ H1 fun y H2 => r x y H2 Q
def tUn (r : V → Hp → VK → Prop) (ta : TE) : TE := fun σ H Q => ta σ H fun x H1 => r x H1 Q
def rI (C : Int → Int → Prop) (g : Int → Int → V) : R2 := fun x y H Q => ∃ i j, x = .int i ∧ y = .int j ∧ C i j ∧ Q (g i j) H
def rI0 (g : Int → Int → V) : R2 := fun x y H Q => ∃ i j, x = .int i ∧ y = .int j ∧ Q (g i j) H
noncomputable def rU (g : Int → V) : V → Hp → VK → Prop := fun x H Q => ∃ i, x = .int i ∧ Q (g i) H
section
variable {X : Cx} {a b c : Expr} {ta tb tc : TE} {pos : Pos}
theorem binT (ha : PE X a ta) (hb : PE X b tb) {pins : List (Addr × Obj)} {s : Shared} {σ : St} {H : Hp} {R : V → V → Hp → Prop} (I : Inv X pins σ H s)
   (h : ta σ H fun x H1 => tb σ H1 fun y H2 => R x y H2) {Q : Value → Shared → Prop} {f : Value → Value → Sem Value}
   (hf : ∀ v u s2 x y H2, Inv X pins σ H2 s2 → RelV x v → RelV y u → R x y H2 → wpAny (model X.prog X.w) X.A (f v u) Q X.xe s2) :
   wpAny (model X.prog X.w) X.A (eval a X.env) (fun v s₁ => wpAny (model X.prog X.w) X.A (eval b X.env) (fun u s₂ => wpAny (model X.prog X.w) X.A (f v u) Q X.xe s₂) X.xe s₁) X.xe s := by
 refine thn (ha pins s σ H _ I h) fun v s1 ⟨x, H1, I1, r1, q1⟩ => ?_
 refine thn (hb pins s1 σ H1 _ I1 q1) fun u s2 ⟨y, H2, I2, r2, q2⟩ => ?_
 exact hf v u s2 x y H2 I2 r1 r2 q2
theorem pe_op {op : Operator} {r : R2} (ho : OpR X (binaryOp op) r) (ha : PE X a ta) (hb : PE X b tb) : PE X (.BinOp a op b pos) (tOp r ta tb) := by
 intro pins s σ H Q I h
 exact wpAny_BinOp (binT ha hb I h fun v u s2 x y H2 I2 rx ry q => ho pins s2 σ H2 x y v u Q I2 rx ry q)
theorem pe_un {op : UnaryOp} {r : V → Hp → VK → Prop} (ho : UnR X (unaryOp op) r) (ha : PE X a ta) : PE X (.UnaryOp op a pos) (tUn r ta) := by
 intro pins s σ H Q I h
 exact UnaryOp_ (thn (ha pins s σ H _ I h) fun v s1 ⟨x, H1, I1, r1, q1⟩ => ho pins s1 σ H1 x v Q I1 r1 q1)
theorem opI {f : Value → Value → Sem Value} {C : Int → Int → Prop} {g : Int → Int → Int}
   (rule : ∀ (i j : Int) (t u : Tok) (s : Shared) (Q : Value → Shared → Prop) (E : Value → Shared → Prop), C i j → Q (.int (g i j) s.toks) { s with toks := s.toks + 1 } → wpAny (model X.prog X.w) X.A (f (.int i t) (.int j u)) Q E s) :
   OpR X f (rI C fun i j => .int (g i j)) := by
 intro pins s σ H x y v u Q I rx ry h
 obtain ⟨i, j, rfl, rfl, hc, q⟩ := h
 obtain ⟨t, rfl⟩ := rx
 obtain ⟨t', rfl⟩ := ry
 exact rule i j t t' s _ _ hc ⟨.int (g i j), H, I.tok _, ⟨_, rfl⟩, q⟩
theorem opI0 {f : Value → Value → Sem Value} {g : Int → Int → Int}
   (rule : ∀ (i j : Int) (t u : Tok) (s : Shared) (Q : Value → Shared → Prop) (E : Value → Shared → Prop), Q (.int (g i j) s.toks) { s with toks := s.toks + 1 } → wpAny (model X.prog X.w) X.A (f (.int i t) (.int j u)) Q E s) :
   OpR X f (rI0 fun i j => .int (g i j)) := by
 intro pins s σ H x y v u Q I rx ry h
 obtain ⟨i, j, rfl, rfl, q⟩ := h
 obtain ⟨t, rfl⟩ := rx
 obtain ⟨t', rfl⟩ := ry
 exact rule i j t t' s _ _ ⟨.int (g i j), H, I.tok _, ⟨_, rfl⟩, q⟩
theorem opB0 {f : Value → Value → Sem Value} {g : Int → Int → Bool}
   (rule : ∀ (i j : Int) (t u : Tok) (s : Shared) (Q : Value → Shared → Prop) (E : Value → Shared → Prop), Q (.bool (g i j)) s → wpAny (model X.prog X.w) X.A (f (.int i t) (.int j u)) Q E s) :
   OpR X f (rI0 fun i j => .bl (g i j)) := by
 intro pins s σ H x y v u Q I rx ry h
 obtain ⟨i, j, rfl, rfl, q⟩ := h
 obtain ⟨t, rfl⟩ := rx
 obtain ⟨t', rfl⟩ := ry
 exact rule i j t t' s _ _ ⟨.bl (g i j), H, I, rfl, q⟩
def CDiv (i j : Int) : Prop := 0 < j ∧ j < 1073741824
def CPow (i j : Int) : Prop := 0 ≤ j ∧ j ≤ 1000000 ∧ i.natAbs < 2 ^ 64
def CMul (i j : Int) : Prop := (-(2 ^ 64) < i ∧ i < 2 ^ 64) ∨ (-(2 ^ 64) < j ∧ j < 2 ^ 64)
theorem CMul.ok {i j : Int} (h : CMul i j) : IntMulOk i j := by
 rcases h with ⟨h1, h2⟩ | ⟨h1, h2⟩
 · exact .of_left (intBits_le_64 h1 h2)
 · exact .of_right (intBits_le_64 h1 h2)
theorem op_add : OpR X (binaryOp .Add) (rI0 fun i j => .int (i + j)) := opI0 fun _ _ _ _ _ _ _ q => add_int q
theorem op_sub : OpR X (binaryOp .Sub) (rI0 fun i j => .int (i - j)) := opI0 fun _ _ _ _ _ _ _ q => sub_int q
theorem op_mul : OpR X (binaryOp .Mult) (rI CMul fun i j => .int (i * j)) := opI fun _ _ _ _ _ _ _ hc q => mul_int q hc.ok
theorem op_fdiv : OpR X (binaryOp .FloorDiv) (rI CDiv fun i j => .int (i / j)) := opI fun i j _ _ _ _ _ hc q => by
 have h1 : (0 : Int) < j := hc.1
 have h2 : j < 1073741824 := hc.2
 exact floordiv_int (by omega) (by rw [Int.fdiv_eq_ediv_of_nonneg i (by omega)]; exact q) (.inl (PyProof.noPylong_small (by omega)))
theorem op_mod : OpR X (binaryOp .Mod) (rI (fun _ j => 0 < j) fun i j => .int (i % j)) := opI fun i j _ _ _ _ _ hc q => by
 have h1 : (0 : Int) < j := hc
 exact mod_int' (by omega) (by rw [Int.fmod_eq_emod_of_nonneg i (by omega)]; exact q)
theorem op_pow : OpR X (binaryOp .Pow) (rI CPow fun i j => .int (i ^ j.toNat)) := opI fun _ _ _ _ _ _ _ hc q => pow_int_small hc.1 hc.2.1 hc.2.2 q
theorem op_shl : OpR X (binaryOp .LShift) (rI CPow fun i j => .int (i * 2 ^ j.toNat)) := opI fun _ _ _ _ _ _ _ hc q => lshift_int_small hc.1 hc.2.1 hc.2.2 q
theorem op_and : OpR X (binaryOp .BitAnd) (rI0 fun i j => .int (Builtin.bitAnd i j)) := opI0 fun _ _ _ _ _ _ _ q => and_int q
theorem unI {f : Value → Sem Value} {g : Int → Int}
   (rule : ∀ (i : Int) (t : Tok) (s : Shared) (Q : Value → Shared → Prop) (E : Value → Shared → Prop), Q (.int (g i) s.toks) { s with toks := s.toks + 1 } → wpAny (model X.prog X.w) X.A (f (.int i t)) Q E s) :
   UnR X f (rU fun i => .int (g i)) := by
 intro pins s σ H x v Q I rx h
 obtain ⟨i, rfl, q⟩ := h
 obtain ⟨t, rfl⟩ := rx
 exact rule i t s _ _ ⟨.int (g i), H, I.tok _, ⟨_, rfl⟩, q⟩
theorem un_neg : UnR X (unaryOp .USub) (rU fun i => .int (-i)) := unI fun _ _ _ _ _ q => neg_int q
end
noncomputable def scal : V → V → Bool
 | .non, .non => true | .non, .int _ => true | .int _, .non => true | .non, .bl _ => true | .bl _, .non => true | .non, .str _ => true | .str _, .non => true
 | .int _, .int _ => true | .bl _, .bl _ => true | .str _, .str _ => true | .byt _, .byt _ => true
 | .int _, .str _ => true | .str _, .int _ => true | .bl _, .str _ => true | .str _, .bl _ => true
 | _, _ => false
theorem sc0 : scal .non .non = true := rfl
theorem sc1 {i : Int} : scal .non (.int i) = true := rfl
theorem sc2 {i : Int} : scal (.int i) .non = true := rfl
theorem sc3 {i : Bool} : scal .non (.bl i) = true := rfl
theorem sc4 {i : Bool} : scal (.bl i) .non = true := rfl
theorem sc5 {i : Str} : scal .non (.str i) = true := rfl
theorem sc6 {i : Str} : scal (.str i) .non = true := rfl
theorem sc7 {i : Int} {j : Int} : scal (.int i) (.int j) = true := rfl
theorem sc8 {i : Bool} {j : Bool} : scal (.bl i) (.bl j) = true := rfl
theorem sc9 {i : Str} {j : Str} : scal (.str i) (.str j) = true := rfl
theorem sc10 {i : Int} {j : Str} : scal (.int i) (.str j) = true := rfl
theorem sc11 {i : Str} {j : Int} : scal (.str i) (.int j) = true := rfl
theorem sc12 {i : Bool} {j : Str} : scal (.bl i) (.str j) = true := rfl
theorem sc13 {i : Str} {j : Bool} : scal (.str i) (.bl j) = true := rfl
def rEq : R2 := fun x y H Q => scal x y = true ∧ Q (.bl (decide (x = y))) H
def rNe : R2 := fun x y H Q => scal x y = true ∧ Q (.bl (!decide (x = y))) H
theorem dec_int {i j : Int} : decide (V.int i = V.int j) = (i == j) := by
 rw [Bool.eq_iff_iff]
 simp
theorem dec_bl {i j : Bool} : decide (V.bl i = V.bl j) = (i == j) := by
 rw [Bool.eq_iff_iff]
 simp
theorem dec_str {i j : Str} : decide (V.str i = V.str j) = (i == j) := by
 rw [Bool.eq_iff_iff]
 simp
theorem dec_byt {i j : Array UInt8} : decide (V.byt i = V.byt j) = (i.toList == j.toList) := by
 rw [Bool.eq_iff_iff]
 cases i
 cases j
 simp
section
variable {X : Cx} {a b c : Expr} {ta tb tc : TE} {pos : Pos}
theorem fin_bl {pins : List (Addr × Obj)} {σ : St} {H : Hp} {s : Shared} {Q : VK} {k k' : Bool} (I : Inv X pins σ H s) (q : Q (.bl k) H) (e : k = k') : EP X pins σ Q (.bool k') s := by
 subst e
 exact ⟨.bl k, H, I, rfl, q⟩
theorem op_eq : OpR X (compareOp .Eq) rEq := by
 intro pins s σ H x y v u Q I rx ry h
 obtain ⟨hs, q⟩ := h
 cases x with
 | non =>
   cases rx
   cases y with
   | non => cases ry; exact PySem.EqNone.eq_none_none (fin_bl I q (by simp))
   | bl j => cases ry; exact PySem.EqNone.eq_none_bool (fin_bl I q (by simp))
   | int j => obtain ⟨t', rfl⟩ := ry; exact PySem.EqNone.eq_none_int (fin_bl I q (by simp))
   | str j => obtain ⟨t', rfl⟩ := ry; exact PySem.EqNone.eq_none_str (fin_bl I q (by simp))
   | _ => exact absurd (show false = true from hs) Bool.false_ne_true
 | bl i =>
   cases rx
   cases y with
   | non => cases ry; exact PySem.EqNone.eq_bool_none (fin_bl I q (by simp))
   | bl j => cases ry; exact eq_bool (fin_bl I q dec_bl)
   | str j => obtain ⟨t', rfl⟩ := ry; exact PySem.EqMixed.eq_bool_str (fin_bl I q (by simp))
   | _ => exact absurd (show false = true from hs) Bool.false_ne_true
 | int i =>
   obtain ⟨t, rfl⟩ := rx
   cases y with
   | non => cases ry; exact PySem.EqNone.eq_int_none (fin_bl I q (by simp))
   | int j => obtain ⟨t', rfl⟩ := ry; exact eq_int (fin_bl I q dec_int)
   | str j => obtain ⟨t', rfl⟩ := ry; exact PySem.EqMixed.eq_int_str (fin_bl I q (by simp))
   | _ => exact absurd (show false = true from hs) Bool.false_ne_true
 | str i =>
   obtain ⟨t, rfl⟩ := rx
   cases y with
   | non => cases ry; exact PySem.EqNone.eq_str_none (fin_bl I q (by simp))
   | bl j => cases ry; exact PySem.EqMixed.eq_str_bool (fin_bl I q (by simp))
   | int j => obtain ⟨t', rfl⟩ := ry; exact PySem.EqMixed.eq_str_int (fin_bl I q (by simp))
   | str j => obtain ⟨t', rfl⟩ := ry; exact eq_str (fin_bl I q dec_str)
   | _ => exact absurd (show false = true from hs) Bool.false_ne_true
 | byt i =>
   obtain ⟨t, rfl⟩ := rx
   cases y with
   | byt j => obtain ⟨t', rfl⟩ := ry; exact PySem.W.eq_bytes (fin_bl I q dec_byt)
   | _ => exact absurd (show false = true from hs) Bool.false_ne_true
 | _ => cases y <;> exact absurd (show false = true from hs) Bool.false_ne_true
theorem op_ne : OpR X (compareOp .NotEq) rNe := by
 intro pins s σ H x y v u Q I rx ry h
 obtain ⟨hs, q⟩ := h
 cases x with
 | non =>
   cases rx
   cases y with
   | non => cases ry; exact PySem.EqNone.ne_none_none (fin_bl I q (by simp))
   | bl j => cases ry; exact PySem.EqNone.ne_none_bool (fin_bl I q (by simp))
   | int j => obtain ⟨t', rfl⟩ := ry; exact PySem.EqNone.ne_none_int (fin_bl I q (by simp))
   | str j => obtain ⟨t', rfl⟩ := ry; exact PySem.EqNone.ne_none_str (fin_bl I q (by simp))
   | _ => exact absurd (show false = true from hs) Bool.false_ne_true
 | bl i =>
   cases rx
   cases y with
   | non => cases ry; exact PySem.EqNone.ne_bool_none (fin_bl I q (by simp))
   | bl j => cases ry; exact ne_bool (fin_bl I q (congrArg not dec_bl))
   | str j => obtain ⟨t', rfl⟩ := ry; exact PySem.EqMixed.ne_bool_str (fin_bl I q (by simp))
   | _ => exact absurd (show false = true from hs) Bool.false_ne_true
 | int i =>
   obtain ⟨t, rfl⟩ := rx
   cases y with
   | non => cases ry; exact PySem.EqNone.ne_int_none (fin_bl I q (by simp))
   | int j => obtain ⟨t', rfl⟩ := ry; exact ne_int (fin_bl I q (congrArg not dec_int))
   | str j => obtain ⟨t', rfl⟩ := ry; exact PySem.EqMixed.ne_int_str (fin_bl I q (by simp))
   | _ => exact absurd (show false = true from hs) Bool.false_ne_true
 | str i =>
   obtain ⟨t, rfl⟩ := rx
   cases y with
   | non => cases ry; exact PySem.EqNone.ne_str_none (fin_bl I q (by simp))
   | bl j => cases ry; exact PySem.EqMixed.ne_str_bool (fin_bl I q (by simp))
   | int j => obtain ⟨t', rfl⟩ := ry; exact PySem.EqMixed.ne_str_int (fin_bl I q (by simp))
   | str j => obtain ⟨t', rfl⟩ := ry; exact ne_str (fin_bl I q (congrArg not dec_str))
   | _ => exact absurd (show false = true from hs) Bool.false_ne_true
 | byt i =>
   obtain ⟨t, rfl⟩ := rx
   cases y with
   | byt j => obtain ⟨t', rfl⟩ := ry; exact PySem.W.ne_bytes (fin_bl I q (congrArg not dec_byt))
   | _ => exact absurd (show false = true from hs) Bool.false_ne_true
 | _ => cases y <;> exact absurd (show false = true from hs) Bool.false_ne_true
theorem op_lt : OpR X (compareOp .Lt) (rI0 fun i j => .bl (decide (i < j))) := opB0 fun _ _ _ _ _ _ _ q => lt_int q
theorem op_le : OpR X (compareOp .LtE) (rI0 fun i j => .bl (decide (i ≤ j))) := opB0 fun _ _ _ _ _ _ _ q => le_int q
theorem op_gt : OpR X (compareOp .Gt) (rI0 fun i j => .bl (decide (j < i))) := opB0 fun _ _ _ _ _ _ _ q => gt_int q
theorem op_ge : OpR X (compareOp .GtE) (rI0 fun i j => .bl (decide (j ≤ i))) := opB0 fun _ _ _ _ _ _ _ q => ge_int q
theorem op_in_str : OpR X (compareOp .In) (fun x y H Q => ∃ i j, x = .str i ∧ y = .str j ∧ Q (.bl (!(Builtin.Str.occurrences j i 0 j.length 1).isEmpty)) H) := by
 intro pins s σ H x y v u Q I rx ry h
 obtain ⟨i, j, rfl, rfl, q⟩ := h
 obtain ⟨t, rfl⟩ := rx
 obtain ⟨t', rfl⟩ := ry
 exact in_str (fin_bl I q rfl)
theorem op_isN : OpR X (compareOp .Is) (fun x y H Q => y = .non ∧ Q (.bl (decide (x = .non))) H) := by
 intro pins s σ H x y v u Q I rx ry h
 obtain ⟨rfl, q⟩ := h
 cases ry
 refine is_none_gen (fin_bl I q ?_)
 cases x <;> first
   | (cases rx; rfl)
   | (obtain ⟨t, rfl⟩ := rx; rfl)
theorem op_notN : OpR X (compareOp .IsNot) (fun x y H Q => y = .non ∧ Q (.bl (!decide (x = .non))) H) := by
 intro pins s σ H x y v u Q I rx ry h
 obtain ⟨rfl, q⟩ := h
 cases ry
 refine isnot_none_gen (fin_bl I q ?_)
 cases x <;> first
   | (cases rx; rfl)
   | (obtain ⟨t, rfl⟩ := rx; rfl)
theorem op_notin_str : OpR X (compareOp .NotIn) (fun x y H Q => ∃ i j, x = .str i ∧ y = .str j ∧ Q (.bl (!(!(Builtin.Str.occurrences j i 0 j.length 1).isEmpty))) H) := by
 intro pins s σ H x y v u Q I rx ry h
 obtain ⟨i, j, rfl, rfl, q⟩ := h
 obtain ⟨t, rfl⟩ := rx
 obtain ⟨t', rfl⟩ := ry
 exact notIn_str (fin_bl I q rfl)
theorem OpR.or {f : Value → Value → Sem Value} {r r' : R2} (h : OpR X f r) (h' : OpR X f r') : OpR X f (fun x y H Q => r x y H Q ∨ r' x y H Q) := by
 intro pins s σ H x y v u Q I rx ry q
 rcases q with q | q
 · exact h pins s σ H x y v u Q I rx ry q
 · exact h' pins s σ H x y v u Q I rx ry q
theorem nomark (b : Expr) {op : CmpOp} (h : op ≠ .In := by decide) (h2 : op ≠ .NotIn := by decide) : behindInMarks op b = false := by
 have e1 : (op == CmpOp.In) = false := by cases op <;> first | rfl | exact absurd rfl h
 have e2 : (op == CmpOp.NotIn) = false := by cases op <;> first | rfl | exact absurd rfl h2
 cases b <;> simp [behindInMarks, e1, e2]
theorem pe_cmpR {op : CmpOp} {r : R2} (ho : OpR X (compareOp op) r) (ha : PE X a ta) (hb : PE X b tb) (hm : behindInMarks op b = false) : PE X (.Compare a [op] [b] pos) (tOp r ta tb) := by
 intro pins s σ H Q I h
 exact wpAny_Compare1 (binT ha hb I h fun v u s2 x y H2 I2 rx ry q => ho pins s2 σ H2 x y v u Q I2 rx ry q) hm
def tTest (t : TE) : TT := fun σ H Q => t σ H fun x H' => ∃ k, x = .bl k ∧ Q k H'
theorem zz6 {op : CmpOp} {r : R2} (ho : OpR X (compareOp op) r) (ha : PE X a ta) (hb : PE X b tb) (hm : behindInMarks op b = false) : PT X (.Compare a [op] [b] pos) (tTest (tOp r ta tb)) := by
 intro pins s σ H Q I h
 refine wpAny_isTrue_Compare1 (thn (ha pins s σ H _ I h) fun v s1 ⟨x, H1, I1, r1, q1⟩ => thn (hb pins s1 σ H1 _ I1 q1) fun u s2 ⟨y, H2, I2, r2, q2⟩ =>
   thn (ho pins s2 σ H2 x y v u _ I2 r1 r2 q2) fun c s3 ⟨z, H3, I3, r3, k, e, q3⟩ => ?_) hm
 subst e
 cases r3
 exact wpAny_truthy_bool ⟨H3, I3, q3⟩
def tChain (r r' : R2) (ta tb tc : TE) : TE := fun σ H Q => ta σ H fun x H1 => tb σ H1 fun y H2 => r x y H2 fun z H3 => ∃ k, z = .bl k ∧
 (if k = true then tc σ H3 fun w' H4 => r' y w' H4 Q else Q (.bl false) H3)
theorem pt_chain {op op' : CmpOp} {r r' : R2} (ho : OpR X (compareOp op) r) (ho' : OpR X (compareOp op') r') (ha : PE X a ta) (hb : PE X b tb) (hc : PE X c tc)
   (hm : lastMarks [op, op'] [b, c] = false := by with_unfolding_all rfl) : PT X (.Compare a [op, op'] [b, c] pos) (tTest (tChain r r' ta tb tc)) := by
 intro pins s σ H Q I h
 refine isTrue_chain (thn (ha pins s σ H _ I h) fun v s1 ⟨x, H1, I1, r1, q1⟩ => test_link (thn (hb pins s1 σ H1 _ I1 q1) fun u s2 ⟨y, H2, I2, r2, q2⟩ =>
   thn (ho pins s2 σ H2 x y v u _ I2 r1 r2 q2) fun d s3 ⟨z, H3, I3, r3, k, e, q3⟩ => ?_)) hm
 subst e
 cases r3
 refine wpAny_truthy_bool ?_
 cases k with
 | false =>
   obtain ⟨k', e', q'⟩ := q3
   cases e'
   exact ite_ff ⟨H3, I3, q'⟩
 | true =>
   refine ite_tt (test_last (thn (hc pins s3 σ H3 _ I3 q3) fun w' s4 ⟨z', H4, I4, r4, q4⟩ => thn (ho' pins s4 σ H4 y z' u w' _ I4 r2 r4 q4) fun d' s5 ⟨z2, H5, I5, r5, k2, e2, q5⟩ => ?_))
   subst e2
   cases r5
   exact wpAny_truthy_bool ⟨H5, I5, q5⟩
def TruV (K : PySem.W.Frag) (x : V) (H : Hp) (k : Bool) : Prop :=
 match x with
 | .non => k = false
 | .bl b => k = b
 | .int i => k = (i != 0)
 | .str y => y.length ≤ sizeLine ∧ k = ((y.length : Int) != 0)
 | .byt y => y.size ≤ sizeLine ∧ k = ((y.size : Int) != 0)
 | .ref p => (∃ xs, SqL K H p xs ∧ k = !xs.isEmpty) ∨ (∃ xs, SqT K H p xs ∧ k = !xs.isEmpty) ∨ ∃ kvs, H p = some (.dK kvs) ∧ k = !kvs.isEmpty
 | _ => False
theorem isEmpty_kv {κ : Type} {kvs : List (κ × V)} {vs : List (κ × Value)} (r : KV kvs vs) : (!vs.isEmpty) = !kvs.isEmpty := by
 cases r <;> rfl
theorem isEmpty_of {xs : List V} {its : List Value} (r : Vals xs its) : (!its.toArray.isEmpty) = !xs.isEmpty := by
 cases r <;> simp
theorem line63 : (sizeLine : Nat) < 2 ^ 63 := by rw [sizeLine_eq]; decide
theorem tru_ok : TruR X (fun x H Q => ∃ k, TruV X.K x H k ∧ Q k H) := by
 intro pins s σ H x v Q I rx h
 obtain ⟨k, e, q⟩ := h
 have hl := line63
 have hs : sizeLine = 16777216 := sizeLine_eq
 cases x with
 | non =>
   cases rx
   have e' : k = false := e
   subst e'
   exact truthy_none ⟨H, I, q⟩
 | bl b =>
   cases rx
   have e' : k = b := e
   subst e'
   exact wpAny_truthy_bool ⟨H, I, q⟩
 | int i =>
   obtain ⟨t, rfl⟩ := rx
   have e' : k = (i != 0) := e
   subst e'
   exact PySem.P.truthy_int ⟨H, I, q⟩
 | str y =>
   obtain ⟨t, rfl⟩ := rx
   obtain ⟨hy, e'⟩ : y.length ≤ sizeLine ∧ k = ((y.length : Int) != 0) := e
   subst e'
   exact PySem.P.truthy_str (by omega) ⟨H, I.tok _, q⟩
 | byt y =>
   obtain ⟨t, rfl⟩ := rx
   obtain ⟨hy, e'⟩ : y.size ≤ sizeLine ∧ k = ((y.size : Int) != 0) := e
   subst e'
   exact PySem.W.truthy_bytes (by omega) ⟨H, I.tok _, q⟩
 | ref p =>
   cases rx
   have e' : (∃ xs, SqL X.K H p xs ∧ k = !xs.isEmpty) ∨ (∃ xs, SqT X.K H p xs ∧ k = !xs.isEmpty) ∨ ∃ kvs, H p = some (.dK kvs) ∧ k = !kvs.isEmpty := e
   rcases e' with ⟨xs, hx, e'⟩ | ⟨xs, hx, e'⟩ | ⟨kvs, hx, e'⟩
   · subst e'
     obtain ⟨its, r, pl, hz⟩ := I.list hx
     have hlen := r.length
     exact wpAny_truthy_list pl.isList (by simp only [List.size_toArray]; omega) ⟨H, I.tok _, by rw [isEmpty_of r]; exact q⟩
   · subst e'
     obtain ⟨its, r, pl, hz⟩ := I.tuple hx
     have hlen := r.length
     exact truthy_tuple pl (by simp only [List.size_toArray]; omega) ⟨H, I.tok _, by rw [isEmpty_of r]; exact q⟩
   · subst e'
     obtain ⟨hz, hS, vs, r, m⟩ : kvs.length ≤ sizeLine ∧ (p == sysModules) = false ∧ ∃ vs, KV kvs vs ∧ s.heap.DictOf (mixKind X.prog X.w) p vs := I.hok p _ hx
     have hlen : kvs.length = vs.length := Paired.length r
     exact wpAny_truthy_dict hS m (by omega) ⟨H, I.tok _, by rw [isEmpty_kv r]; exact q⟩
 | _ => exact (show False from e).elim
theorem zz7 : OpR X (binaryOp .Add) (fun x y H Q => ∃ i j, x = .str i ∧ y = .str j ∧ i.length + j.length ≤ sizeLine ∧ Q (.str (i ++ j)) H) := by
 intro pins s σ H x y v u Q I rx ry h
 obtain ⟨i, j, rfl, rfl, hz, q⟩ := h
 obtain ⟨t, rfl⟩ := rx
 obtain ⟨t', rfl⟩ := ry
 exact add_str (fun t' tk => ⟨.str (i ++ j), H, I.tok _, ⟨_, rfl⟩, q⟩) hz
theorem vals1 {x : V} {us : List Value} (r : Vals [x] us) : ∃ u, us = [u] ∧ RelV x u := by
 cases r with
 | cons r1 r2 => cases r2; exact ⟨_, rfl, r1⟩
theorem vals2 {x y : V} {us : List Value} (r : Vals [x, y] us) : ∃ u w', us = [u, w'] ∧ RelV x u ∧ RelV y w' := by
 cases r with
 | cons r1 r2 =>
   cases r2 with
   | cons r3 r4 => cases r4; exact ⟨_, _, rfl, r1, r3⟩
theorem call_max2 (hc : X.calm = true) : CallR X (.builtin "max") (fun xs H Q => ∃ i j, xs = [.int i, .int j] ∧ Q (.int (if j > i then j else i)) H) := by
 intro pins s σ H xs us Q I r h
 obtain ⟨i, j, rfl, q⟩ := h
 obtain ⟨u, w', rfl, ⟨t, rfl⟩, ⟨t', rfl⟩⟩ := vals2 r
 refine max_two_ints (I.ok.hd hc) fun h' tk k => ⟨_, H, I.kept k, ?_, q⟩
 by_cases hj : j > i
 · rw [if_pos hj, if_pos hj]; exact ⟨_, rfl⟩
 · rw [if_neg hj, if_neg hj]; exact ⟨_, rfl⟩
theorem zz10 : CallR X (.type "str") (fun xs H Q => ∃ i, xs = [.int i] ∧ i.natAbs.log2 < 1920 ∧ Q (.str (toString i)) H) := by
 intro pins s σ H xs us Q I r h
 obtain ⟨i, rfl, hz, q⟩ := h
 obtain ⟨u, rfl, t, rfl⟩ := vals1 r
 exact PySem.P.str_of_int hz ⟨.str _, H, I.tok _, ⟨_, rfl⟩, q⟩
def LenV (K : PySem.W.Frag) (x : V) (H : Hp) (n : Nat) : Prop :=
 match x with
 | .str y => y.length ≤ sizeLine ∧ n = y.length
 | .byt y => y.size ≤ sizeLine ∧ n = y.size
 | .ref p => (∃ xs, SqL K H p xs ∧ n = xs.length) ∨ ∃ xs, SqT K H p xs ∧ n = xs.length
 | _ => False
theorem call_len : CallR X (.builtin "len") (fun xs H Q => ∃ x n, xs = [x] ∧ LenV X.K x H n ∧ Q (.int n) H) := by
 intro pins s σ H xs us Q I r h
 obtain ⟨x, n, rfl, e, q⟩ := h
 obtain ⟨u, rfl, rx⟩ := vals1 r
 have hl := line63
 have hs : sizeLine = 16777216 := sizeLine_eq
 cases x with
 | str y =>
   obtain ⟨t, rfl⟩ := rx
   obtain ⟨hy, e'⟩ : y.length ≤ sizeLine ∧ n = y.length := e
   subst e'
   exact len_str (by omega) ⟨.int _, H, I.tok _, ⟨_, rfl⟩, q⟩
 | byt y =>
   obtain ⟨t, rfl⟩ := rx
   obtain ⟨hy, e'⟩ : y.size ≤ sizeLine ∧ n = y.size := e
   subst e'
   exact PySem.W.len_bytes (by omega) ⟨.int _, H, I.tok _, ⟨_, rfl⟩, q⟩
 | ref p =>
   cases rx
   have e' : (∃ xs, SqL X.K H p xs ∧ n = xs.length) ∨ ∃ xs, SqT X.K H p xs ∧ n = xs.length := e
   rcases e' with ⟨xs, hx, e'⟩ | ⟨xs, hx, e'⟩
   · subst e'
     obtain ⟨its, r', pl, hz⟩ := I.list hx
     have hlen := r'.length
     exact Calls.call_len_list pl.isList (by simp only [List.size_toArray]; omega) ⟨.int xs.length, H, I.tok _, ⟨_, by simp only [List.size_toArray]; rw [hlen]⟩, q⟩
   · subst e'
     obtain ⟨its, r', pl, hz⟩ := I.tuple hx
     have hlen := r'.length
     exact len_tuple pl (by simp only [List.size_toArray]; omega) ⟨.int xs.length, H, I.tok _, ⟨_, by simp only [List.size_toArray]; rw [hlen]⟩, q⟩
 | _ => exact (show False from e).elim
end
end L2
namespace L2
open PySem PySem.Spec PyProof.Rows
set_option genInjectivity false in
structure ObjM (h : Heap) (x dx C : Addr) (mA : Str → Option Value) : Prop where
 obj : h.get? x = some (PySem.W.instObj C dx)
 ns : h.Ns1 dx mA
 ne : dx ≠ x
theorem lookIn_ns {h : Heap} {dx : Addr} {mA : Str → Option Value} (n : h.Ns1 dx mA) : ∃ od, h.get? dx = some od ∧ ∀ name, PySem.W.lookIn name od = some (mA name) := by
 obtain ⟨o, es, ep, ho, hd, hk, _, hm⟩ := n
 refine ⟨o, ho, fun name => ?_⟩
 have e := hm name
 unfold nsFind findBy at e
 rw [← Array.find?_toList] at e
 unfold PySem.W.lookIn
 rw [hd]
 dsimp only
 split
 · rename_i y q
   rw [q] at e
   exact congrArg some e
 · rename_i q
   rw [q] at e
   have a : es.toList.any (·.refKey) = false := by
     rw [List.any_eq_false]
     intro y hy
     obtain ⟨z, t, hkey⟩ := hk y (Array.mem_toList_iff.mp hy)
     simp [DictEntry.refKey, hkey]
   have a' : ¬ es.toList.any (·.refKey) = true := by rw [a]; exact Bool.false_ne_true
   rw [if_neg a']
   exact congrArg some e
theorem ObjM.look {h : Heap} {x dx C : Addr} {mA : Str → Option Value} (I : ObjM h x dx C mA) : ∃ od, PySem.W.InstAt h x (PySem.W.instObj C dx) C (some od) ∧ ∀ name, PySem.W.lookIn name od = some (mA name) :=
 let ⟨od, ho, hl⟩ := lookIn_ns I.ns
 ⟨od, ⟨I.obj, rfl, rfl, ho⟩, hl⟩
section
variable {prog : Program} {w : World} {A : Around} {E : Value → Shared → Prop} {s : Shared} {K : PySem.W.Frag} {x dx C f : Addr} {mA : Str → Option Value} {name : Str} {v : Value}
theorem get_map {expr : Bool} {Q : Value → Shared → Prop} (X : K.In s.heap) (I : ObjM s.heap x dx C mA) (hg : PySem.W.plainGet K C name = true) (hh : PySem.W.hasDictIn K C = true)
   (ha : PySem.W.findIn K (.ref C) name = some none) (hv : mA name = some v) (hv' : PySem.W.handedIn v = true) (h : Q v { s with toks := s.toks + 1 }) :
   wpAny (model prog w) A (getAttr (.ref x) name expr) Q E s := by
 obtain ⟨od, J, hl⟩ := I.look
 exact PySem.W.get_value X J (PySem.W.plainGet_of hg).1 (PySem.W.findObj_own hh ha rfl (by rw [hl, hv])) hv' h
theorem get_meth {pl : Sem Bool} {Q : Value × List Value → Shared → Prop} (X : K.In s.heap) (I : ObjM s.heap x dx C mA) (hg : PySem.W.plainGet K C name = true)
   (hf : PySem.W.findIn K (.ref C) name = some (some (.ref f))) (ht : PySem.W.isFn K (.ref f) = true) (hv : mA name = none) (h : Q (.ref f, [.ref x]) s) :
   wpAny (model prog w) A (getMethod (.ref x) name pl) Q E s := by
 obtain ⟨od, J, hl⟩ := I.look
 exact PySem.W.method_fn X J (PySem.W.plainGet_of hg).1 (PySem.W.plainGet_of hg).2 hf (beq_iff_eq.mp ht) (by show (PySem.W.lookIn name od).map (·.isSome) = some false; rw [hl, hv]; rfl) h
theorem set_map {ns : List Str} {Q : Unit → Shared → Prop} (X : K.In s.heap) (I : ObjM s.heap x dx C mA)
   (hs : PySem.W.findIn K (.ref C) "__setattr__" = some (some (.builtin "object.__setattr__"))) (hp : PySem.W.plainOver K C = true) (ht : PySem.W.takerIn K C name = some none) (hh : PySem.W.hasDictIn K C = true)
   (hw : PySem.Within mA ns) (hsz : ns.length ≤ sizeLine)
   (h : ∀ h', ObjM h' x dx C (fun y => if y = name then some v else mA y) → Heap.SameBut dx s.heap h' → Q () { s with heap := h', toks := s.toks + 2 }) :
   wpAny (model prog w) A (setAttr (.ref x) name v) Q E s := by
 obtain ⟨od, J, hl⟩ := I.look
 refine PySem.W.set_plain X J hs (PySem.W.osa_open (s := { s with toks := s.toks + 1 }) (r := none) X J hp ht fun b => ?_)
 obtain ⟨cd, hc, hd'⟩ := PySem.W.any_some hh
 have hx : s.heap.get? x = some ⟨.ref C, some dx, .plain, #[]⟩ := I.obj
 refine wpAny_bind (wpAny_pure (wpAny_bind (wpAny_bind (wpAny_loadPart hx (wpAny_bind (PySem.W.Looks.here (s := { s with toks := s.toks + 1 }) (PySem.W.looks_clsIn X hc) ?_))))))
 rw [hd']
 refine wpAny_pure (a := some dx) (wpAny_bind (wpAny_pure (wpAny_bind ?_)))
 refine wpAny_nsSet1 (s := { s with toks := s.toks + 1 }) I.ns fun h' hn2 hs2 => ?_
 obtain ⟨oD, esD, epD, hoD, hdD, hcD⟩ := hn2.count (PySem.Within.cons name v hw)
 refine wpAny_bind (wpAny_lookBehind hoD (by rw [hdD]; exact pastItsLine_dict (Nat.le_trans hcD (by rw [List.length_cons]; omega))) ?_)
 exact wpAny_pure (h _ ⟨(hs2.2 _ (Ne.symm I.ne)).trans I.obj, hn2, I.ne⟩ hs2)
theorem make_map {R : Result → Shared → Prop} {vs : List Value} {kw : List (Str × Value)} (X : K.In s.heap) (hm : PySem.W.makesIn K C = true)
   (hi : PySem.W.findIn K (.ref C) "__init__" = some (some (.ref f))) (hf : PySem.W.typeIn K (.ref f) = some (.type "function"))
   (h : codeAny (model prog w) (A.under (.builtin "type.__call__" ⟨.ref C :: vs, kw⟩)) (.call (.ref f) ⟨.ref (s.heap.objs.size + 1) :: vs, kw⟩) (PySem.W.InitBack (s.heap.objs.size + 1) R)
     { s with heap := (s.heap.push PySem.W.emptyDict).push (PySem.W.instObj C s.heap.objs.size) }) :
   codeAny (model prog w) A (.call (.ref C) ⟨vs, kw⟩) R s := by
 obtain ⟨hh, g, d, t, os⟩ := s
 exact PySem.W.make_core (PySem.W.makes_of X hm) (PySem.W.looks_findIn X hi) (fun self => PySem.W.bind_fn X self hf) (.inl rfl) h
end
noncomputable def putF (f : Str) (v : V) : List (Str × V) → List (Str × V)
 | [] => [(f, v)]
 | (g, x) :: r => if g = f then (g, v) :: r else (g, x) :: putF f v r
theorem lookup_putF (f g : Str) (v : V) : ∀ fs : List (Str × V), (putF f v fs).lookup g = if g = f then some v else fs.lookup g
 | [] => by
   show List.lookup g [(f, v)] = _
   by_cases h : g = f
   · have hb : (g == f) = true := beq_iff_eq.mpr h
     simp only [List.lookup, hb, if_pos h]
   · have hb : (g == f) = false := beq_eq_false_iff_ne.mpr h
     simp only [List.lookup, hb, if_neg h]
 | (k, x) :: r => by
   have ih := lookup_putF f g v r
   rw [show putF f v ((k, x) :: r) = (if k = f then (k, v) :: r else (k, x) :: putF f v r) from rfl]
   by_cases hk : k = f
   · rw [if_pos hk]
     by_cases h : g = k
     · have hb : (g == k) = true := beq_iff_eq.mpr h
       simp only [List.lookup, hb, if_pos (h.trans hk)]
     · have hb : (g == k) = false := beq_eq_false_iff_ne.mpr h
       simp only [List.lookup, hb, if_neg (fun e : g = f => h (e.trans hk.symm))]
   · rw [if_neg hk]
     by_cases h : g = k
     · have hb : (g == k) = true := beq_iff_eq.mpr h
       simp only [List.lookup, hb, if_neg (fun e : g = f => hk (h.symm.trans e))]
     · have hb : (g == k) = false := beq_eq_false_iff_ne.mpr h
       simp only [List.lookup, hb]
       exact ih
theorem keys_putF (f : Str) (v : V) : ∀ fs : List (Str × V), f ∈ (putF f v fs).map (·.1) ∧ ∀ g, g ∈ fs.map (·.1) → g ∈ (putF f v fs).map (·.1)
 | [] => ⟨by simp [putF], fun g h => by simp at h⟩
 | (k, x) :: r => by
   obtain ⟨i1, i2⟩ := keys_putF f v r
   rw [show putF f v ((k, x) :: r) = (if k = f then (k, v) :: r else (k, x) :: putF f v r) from rfl]
   by_cases hk : k = f
   · rw [if_pos hk]
     subst hk
     exact ⟨by simp, fun g h => by simpa using h⟩
   · rw [if_neg hk]
     refine ⟨?_, fun g h => ?_⟩
     · rw [List.map_cons]
       exact List.mem_cons_of_mem _ i1
     · rw [List.map_cons] at h ⊢
       rcases List.mem_cons.mp h with e | e
       · exact List.mem_cons.mpr (.inl e)
       · exact List.mem_cons_of_mem _ (i2 g e)
theorem length_putF (f : Str) (v : V) : ∀ fs : List (Str × V), (putF f v fs).length ≤ fs.length + 1
 | [] => by simp [putF]
 | (k, x) :: r => by
   have ih := length_putF f v r
   rw [show putF f v ((k, x) :: r) = (if k = f then (k, v) :: r else (k, x) :: putF f v r) from rfl]
   by_cases hk : k = f
   · rw [if_pos hk, List.length_cons, List.length_cons]; omega
   · rw [if_neg hk, List.length_cons, List.length_cons]; omega
theorem RelO.some_of {v : V} {o : Option Value} (r : RelO (some v) o) : ∃ u, o = some u ∧ RelV v u := by
 cases o with
 | none => exact (show False from r).elim
 | some u => exact ⟨u, rfl, r⟩
theorem RelO.none_of {o : Option Value} (r : RelO none o) : o = none := by
 cases o with
 | none => rfl
 | some u => exact (show False from r).elim
theorem handed_of {v : V} {u : Value} (r : RelV v u) : PySem.W.handedIn u = true := by
 cases v with
 | non => cases (show u = Value.none from r); rfl
 | bl b => cases (show u = Value.bool b from r); rfl
 | int i => obtain ⟨t, e⟩ := (show ∃ t, u = Value.int i t from r); cases e; rfl
 | str x => obtain ⟨t, e⟩ := (show ∃ t, u = Value.str x t from r); cases e; rfl
 | byt b => obtain ⟨t, e⟩ := (show ∃ t, u = Value.bytes b t from r); cases e; rfl
 | flt b => obtain ⟨t, e⟩ := (show ∃ t, u = Value.float b t from r); cases e; rfl
 | ref a => cases (show u = Value.ref a from r); rfl
 | ty n => cases (show u = Value.type n from r); rfl
section
variable {P : Program} {w : World} {H H' : Hp} {h h' : Heap} {a C dx : Addr} {fs fs' : List (Str × V)}
theorem ins_get (hok : HOk P w H h) (e : H a = some (.ins C dx fs)) : ∃ mA, ObjM h a dx C mA ∧ (∀ f, RelO (fs.lookup f) (mA f)) ∧ PySem.Within mA (fs.map (·.1)) ∧ fs.length ≤ 1000 ∧ H dx = some (.own a) := by
 obtain ⟨d, z, ne, ob, mA, n, r, q⟩ := (show ObjOk P w H h a (.ins C dx fs) from hok a _ e)
 exact ⟨mA, ⟨ob, n, ne⟩, r, q, z, d⟩
end
set_option genInjectivity false in
structure Cls (K : PySem.W.Frag) (C : Addr) : Prop where
 pg : PySem.W.plainGet K C Str.empty = true
 hd : PySem.W.hasDictIn K C = true
 po : PySem.W.plainOver K C = true
 sa : PySem.W.findIn K (.ref C) "__setattr__" = some (some (.builtin "object.__setattr__"))
theorem Cls.get {K : PySem.W.Frag} {C : Addr} (c : Cls K C) (f : Str) : PySem.W.plainGet K C f = true := c.pg
def NoAttr (K : PySem.W.Frag) (C : Addr) (f : Str) : Prop := PySem.W.findIn K (.ref C) f = some none
theorem NoAttr.taker {K : PySem.W.Frag} {C : Addr} {f : Str} (n : NoAttr K C f) : PySem.W.takerIn K C f = some none := by
 unfold PySem.W.takerIn
 rw [show PySem.W.findIn K (.ref C) f = some none from n]
 rfl
set_option genInjectivity false in
structure Meth (K : PySem.W.Frag) (C : Addr) (m : Str) (f : Addr) : Prop where
 at_ : PySem.W.findIn K (.ref C) m = some (some (.ref f))
 fn : PySem.W.isFn K (.ref f) = true
 kp : PySem.W.keepIn K (.ref f) = true
section
variable {X : Cx} {pins : List (Addr × Obj)} {σ : St} {H : Hp} {s : Shared} {a C dx : Addr} {fs : List (Str × V)} {f : Str} {v : V} {A : Around} {E : Value → Shared → Prop}
theorem getattr_ok {b : Bool} {Q : Value → Shared → Prop} (I : Inv X pins σ H s) (e : H a = some (.ins C dx fs)) (c : Cls X.K C) (n : NoAttr X.K C f) (l : fs.lookup f = some v)
   (h : ∀ u s', Inv X pins σ H s' → RelV v u → Q u s') : wpAny (model X.prog X.w) A (getAttr (.ref a) f b) Q E s := by
 obtain ⟨mA, O, r, _, _, _⟩ := ins_get I.hok e
 obtain ⟨u, hu, ru⟩ := RelO.some_of (v := v) (o := mA f) (by rw [← l]; exact r f)
 exact get_map I.kIn O (c.get f) c.hd n hu (handed_of ru) (h u _ (I.tok _) ru)
theorem getmeth_ok {m : Str} {g : Addr} {pl : Sem Bool} {Q : Value × List Value → Shared → Prop} (I : Inv X pins σ H s) (e : H a = some (.ins C dx fs)) (c : Cls X.K C) (k : Meth X.K C m g) (l : fs.lookup m = none)
   (h : Q (.ref g, [.ref a]) s) : wpAny (model X.prog X.w) A (getMethod (.ref a) m pl) Q E s := by
 obtain ⟨mA, O, r, _, _, _⟩ := ins_get I.hok e
 have hn : mA m = none := RelO.none_of (by rw [← l]; exact r m)
 exact get_meth I.kIn O (c.get m) k.at_ k.fn hn h
theorem setattr_ok {y : V} {u : Value} {Q : Unit → Shared → Prop} (I : Inv X pins σ H s) (e : H a = some (.ins C dx fs)) (c : Cls X.K C) (n : NoAttr X.K C f) (hl : fs.length < 1000) (ry : RelV y u)
   (h : ∀ s', Inv X pins σ (upd H a (.ins C dx (putF f y fs))) s' → Q () s') : wpAny (model X.prog X.w) A (setAttr (.ref a) f u) Q E s := by
 obtain ⟨mA, O, r, wi, _, ho⟩ := ins_get I.hok e
 have hz : (fs.map (·.1)).length ≤ sizeLine := by rw [List.length_map, sizeLine_eq]; omega
 refine set_map I.kIn O c.sa c.po n.taker c.hd wi hz fun h' O' sb => h _ ?_
 have hd : ∃ o, h'.get? dx = some o := let ⟨o, _, _, e', _⟩ := O'.ns; ⟨o, e'⟩
 refine I.write (x := a) (e := dx) (by rw [e]; exact True.intro) (.inr ho) (fun b q hb z => (sb.2 b hb).trans z) hd ?_
 refine ⟨by rw [upd_ne O.ne]; exact ho, ?_, O.ne, O'.obj, _, O'.ns, fun g => ?_, fun g hg => ?_⟩
 · have := length_putF f y fs; omega
 · show RelO ((putF f y fs).lookup g) (if g = f then some u else mA g)
   rw [lookup_putF]
   by_cases q : g = f
   · rw [if_pos q, if_pos q]; exact ry
   · rw [if_neg q, if_neg q]; exact r g
 · by_cases q : g = f
   · rw [q]; exact (keys_putF f y fs).1
   · refine (keys_putF f y fs).2 g (wi g fun z => hg ?_)
     show (if g = f then some u else mA g) = none
     rw [if_neg q]; exact z
theorem Inv.made (I : Inv X pins σ H s) : Inv X pins σ (upd (upd H s.heap.objs.size (.own (s.heap.objs.size + 1))) (s.heap.objs.size + 1) (.ins C s.heap.objs.size []))
   { s with heap := (s.heap.push PySem.W.emptyDict).push (PySem.W.instObj C s.heap.objs.size) } := by
 have e1 : (s.heap.push PySem.W.emptyDict).get? s.heap.objs.size = some PySem.W.emptyDict := Heap.get?_push_size s.heap rfl
 have e2 : ((s.heap.push PySem.W.emptyDict).push (PySem.W.instObj C s.heap.objs.size)).get? (s.heap.objs.size + 1) = some (PySem.W.instObj C s.heap.objs.size) := by
   have := Heap.get?_push_size (s.heap.push PySem.W.emptyDict) (o := PySem.W.instObj C s.heap.objs.size) rfl
   rwa [Heap.size_push] at this
 have e3 : (s.heap.push PySem.W.emptyDict).Ns s.heap.objs.size (fun _ => none) := ⟨PySem.W.emptyDict, #[], _, e1, rfl, (fun e he => absurd he (by simp)), fun _ => rfl⟩
 have I1 := I.laid (a := s.heap.objs.size) (o := .own (s.heap.objs.size + 1)) (h' := s.heap.push PySem.W.emptyDict) (t' := s.toks) (fun b u q => Heap.get?_push_of_some _ q) (Nat.le_refl _) ⟨_, e1⟩
 refine I1.laid (a := s.heap.objs.size + 1) (o := .ins C s.heap.objs.size []) (t' := s.toks) (fun b u q => Heap.get?_push_of_some _ q) (Nat.le_of_eq (Heap.size_push _ _)) ?_
 have ne : s.heap.objs.size ≠ s.heap.objs.size + 1 := Nat.ne_of_lt (Nat.lt_succ_self _)
 refine ⟨by rw [upd_ne ne, zz1], Nat.zero_le _, ne, e2, fun _ => none, (Heap.Ns1.of_empty e3).at fun o q => Heap.get?_push_of_some _ q, fun _ => True.intro, fun y hy => absurd rfl hy⟩
theorem attr_of {prog : Program} {w : World} {env : Env} {e : Expr} {f : Str} {pos : Pos} {s : Shared} {Q : Value → Shared → Prop} (hb : attributeBase e f env (eval e env) = eval e env)
   (h : wpAny (model prog w) A (eval e env) (fun o s₁ => wpAny (model prog w) A (getAttr o f true) Q E s₁) E s) : wpAny (model prog w) A (eval (.Attribute e f pos) env) Q E s :=
 Attribute_any_ h (by rw [arm_eval_Attribute, hb])
end
def tFld (K : PySem.W.Frag) (ta : TE) (f : Str) : TE := fun σ H Q => ta σ H fun x H1 => ∃ a C dx fs v, x = .ref a ∧ H1 a = some (.ins C dx fs) ∧ Cls K C ∧ NoAttr K C f ∧ fs.lookup f = some v ∧ Q v H1
def sFld (K : PySem.W.Frag) (ta tv : TE) (f : Str) : TS := fun D σ H => tv σ H fun y H1 => ta σ H1 fun x H2 => ∃ a C dx fs, x = .ref a ∧ H2 a = some (.ins C dx fs) ∧ Cls K C ∧ NoAttr K C f ∧ fs.length < 1000 ∧
 D.nx σ (upd H2 a (.ins C dx (putF f y fs)))
def InOp (X : Cx) (op : Operator) (rd : V → V → Hp → VK → Prop) : Prop :=
 ∀ (pins : List (Addr × Obj)) (s : Shared) (σ : St) (H : Hp) (x y : V) (u v : Value) (Q : VK), Inv X pins σ H s → RelV x u → RelV y v → rd x y H Q → wpAny (model X.prog X.w) X.A (inplaceOp op u v) (EP X pins σ Q) X.xe s
def sFldAug (K : PySem.W.Frag) (ta tv : TE) (rd : V → V → Hp → VK → Prop) (f : Str) : TS := fun D σ H => ta σ H fun x H1 => ∃ a C dx fs v, x = .ref a ∧ H1 a = some (.ins C dx fs) ∧ Cls K C ∧ NoAttr K C f ∧ fs.lookup f = some v ∧
 tv σ H1 fun y H2 => rd v y H2 fun z H3 => ∃ dx' fs', H3 a = some (.ins C dx' fs') ∧ fs'.length < 1000 ∧ D.nx σ (upd H3 a (.ins C dx' (putF f z fs')))
section
variable {X : Cx} {o e value : Expr} {f : Str} {pos pos' tpos : Pos} {ta tv : TE}
theorem pe_fld (he : PE X e ta) (hb : attributeBase e f X.env (eval e X.env) = eval e X.env) : PE X (.Attribute e f pos) (tFld X.K ta f) := by
 intro pins s σ H Q I h
 refine attr_of hb (thn (he pins s σ H _ I h) fun u s1 ⟨x, H1, I1, rx, a, C, dx, fs, v, ex, ea, c, n, l, q⟩ => ?_)
 subst ex
 obtain rfl : u = Value.ref a := rx
 exact getattr_ok I1 ea c n l fun u' s2 I2 ru => ⟨v, H1, I2, ru, q⟩
theorem ps_fld (ha : PE X o ta) (hv : PE X value tv) (hs : swapsWith value (some (.Attribute o f pos')) pos.line X.env = pure false) : PS X (.Assign [.Attribute o f pos'] value pos) (sFld X.K ta tv f) := by
 intro pins s σ H D I h
 refine plainObj_wpAny_Assign_Attribute (thn (hv pins s σ H _ I h) fun u s1 ⟨y, H1, I1, ry, q⟩ => thn (ha pins s1 σ H1 _ I1 q) fun ov s2 ⟨x, H2, I2, rx, a, C, dx, fs, ex, ea, c, n, l, q2⟩ => ?_) hs
 subst ex
 obtain rfl : ov = Value.ref a := rx
 exact setattr_ok I2 ea c n l ry fun s3 I3 => ⟨σ, _, I3, q2⟩
theorem ps_fldaug {op : Operator} {rd : V → V → Hp → VK → Prop} (ha : PE X o ta) (hv : PE X value tv) (hop : InOp X op rd) : PS X (.AugAssign (.Attribute o f tpos) op value pos) (sFldAug X.K ta tv rd f) := by
 intro pins s σ H D I h
 refine wpAny_AugAssign_AttributeAny (thn (ha pins s σ H _ I h) fun ov s1 ⟨x, H1, I1, rx, a, C, dx, fs, v, ex, ea, c, n, l, q⟩ => ?_)
 subst ex
 obtain rfl : ov = Value.ref a := rx
 refine getattr_ok I1 ea c n l fun u s2 I2 ru => thn (hv pins s2 σ H1 _ I2 q) fun w3 s3 ⟨y, H2, I3, ry, q3⟩ => thn (hop pins s3 σ H2 v y u w3 _ I3 ru ry q3) fun w4 s4 ⟨z, H3, I4, rz, dx', fs', ea', l', q4⟩ => ?_
 exact setattr_ok I4 ea' c n l' rz fun s5 I5 => ⟨σ, _, I5, q4⟩
noncomputable def rAdd : V → V → Hp → VK → Prop := fun x y H Q => ∃ i j, x = .int i ∧ y = .int j ∧ Q (.int (i + j)) H
theorem in_add : InOp X .Add rAdd := by
 rintro pins s σ H x y u v Q I rx ry ⟨i, j, rfl, rfl, q⟩
 obtain ⟨t, rfl⟩ := (show ∃ t, u = Value.int i t from rx)
 obtain ⟨t', rfl⟩ := (show ∃ t', v = Value.int j t' from ry)
 exact PyProof.Rows.iadd_int ⟨.int (i + j), H, I.tok _, ⟨_, rfl⟩, q⟩
theorem methcall_of {pl : Sem Bool} {m : Str} {apos : Pos} {args : List Expr} {pins : List (Addr × Obj)} {s : Shared} {σ : St} {H : Hp} {Q : Value → Shared → Prop} {te : TE} (he : PE X e te) (I : Inv X pins σ H s)
   (h : te σ H fun x H1 => ∃ a C dx fs g, x = .ref a ∧ H1 a = some (.ins C dx fs) ∧ Cls X.K C ∧ Meth X.K C m g ∧ fs.lookup m = none ∧
     ∀ s1, Inv X pins σ H1 s1 → wpAny (model X.prog X.w) X.A (callWith pos (.ref g) [.ref a] (backTo pos (starEach args X.env)) (backToKw pos (keywordEach [] X.env))) Q X.xe s1)
   (ht : eval (.Call (.Attribute e m apos) args [] pos) X.env = (do
     let ov ← eval e X.env
     standAt apos.atName
     let (f, first) ← holding [ov] (getMethod ov m pl)
     callWith pos f first (backTo pos (starEach args X.env)) (backToKw pos (keywordEach [] X.env)))) :
   wpAny (model X.prog X.w) X.A (eval (.Call (.Attribute e m apos) args [] pos) X.env) Q X.xe s := by
 refine PySem.W.methodCall_KW (pl := pl) (thn (he pins s σ H _ I h) fun u s1 ⟨x, H1, I1, rx, a, C, dx, fs, g, ex, ea, c, k, l, q⟩ => ?_) ht
 subst ex
 obtain rfl : u = Value.ref a := rx
 exact getmeth_ok I1 ea c k l (q s1 I1)
end
section
variable {X : Cx} {pins : List (Addr × Obj)} {σ : St} {H : Hp} {s : Shared} {A : Around} {E : Value → Shared → Prop} {Q : Value → Shared → Prop} {c : Value} {b : Bool}
inductive TyOf (K : PySem.W.Frag) (H : Hp) : V → Value → Prop where
 | non : TyOf K H .non (.type "NoneType")
 | bl (x : Bool) : TyOf K H (.bl x) (.type "bool")
 | int (i : Int) : TyOf K H (.int i) (.type "int")
 | str (x : Str) : TyOf K H (.str x) (.type "str")
 | flt (x : UInt64) : TyOf K H (.flt x) (.type "float")
 | lst {a : Addr} {xs : List V} (e : H a = some (.lst xs)) : TyOf K H (.ref a) (.type "list")
 | frz {a : Addr} {o : Obj} {xs : List V} (e : H a = some (.frz o (.lst xs))) : TyOf K H (.ref a) (.type "list")
 | tup {a : Addr} {xs : List V} (e : H a = some (.tup xs)) : TyOf K H (.ref a) (.type "tuple")
 | dK {a : Addr} {kvs : List (Key × V)} (e : H a = some (.dK kvs)) : TyOf K H (.ref a) (.type "dict")
 | dT {a : Addr} {kvs : List (List Key × V)} (e : H a = some (.dT kvs)) : TyOf K H (.ref a) (.type "dict")
 | ins {a C dx : Addr} {fs : List (Str × V)} (e : H a = some (.ins C dx fs)) (cl : Cls K C) (ha : PySem.W.findIn K (.ref C) "__class__" = some (some (.builtin "object.__class__")))
     (hn : PySem.W.specialIn K (.builtin "object.__class__") "__get__" = some (some (.builtin "getset_descriptor.__get__"))) (htk : PySem.W.takesIn K (.builtin "object.__class__") = some true)
     (hm : PySem.W.mroIn K C (.type "object") = some true) : TyOf K H (.ref a) (.ref C)
theorem isinst_ok {x : V} {u t : Value} (I : Inv X pins σ H s) (rx : RelV x u) (ty : TyOf X.K H x t) (e : PySem.W.kitOne X.K t c = some b) (h : ∀ tk, Q (.bool b) { s with toks := tk }) :
   wpAny (model X.prog X.w) A (call (.builtin "isinstance") [u, c]) Q E s := by
 cases ty with
 | non => cases (show u = Value.none from rx); exact PySem.W.kia_one PySem.W.kitx_none I.kIn True.intro e (fun z => nomatch z) h
 | bl y => cases (show u = Value.bool y from rx); exact PySem.W.kia_one PySem.W.kitx_bool I.kIn True.intro e (fun z => nomatch z) h
 | int i => obtain ⟨t, q⟩ := (show ∃ t, u = Value.int i t from rx); cases q; exact PySem.W.kia_one PySem.W.kitx_int I.kIn True.intro e (fun z => nomatch z) h
 | str y => obtain ⟨t, q⟩ := (show ∃ t, u = Value.str y t from rx); cases q; exact PySem.W.kia_one PySem.W.kitx_str I.kIn True.intro e (fun z => nomatch z) h
 | flt y => obtain ⟨t, q⟩ := (show ∃ t, u = Value.float y t from rx); cases q; exact PySem.W.kia_one PySem.W.kitx_float I.kIn True.intro e (fun z => nomatch z) h
 | @lst a xs ea =>
   cases (show u = Value.ref a from rx)
   obtain ⟨_, _, n, _, h1⟩ := (show ObjOk X.prog X.w H s.heap a (.lst xs) from I.hok a _ ea)
   exact PySem.W.kia_one PySem.W.kitx_list I.kIn ⟨_, h1, rfl⟩ e (fun z => nomatch z) h
 | @frz a ob xs ea =>
   cases (show u = Value.ref a from rx)
   obtain ⟨_, _, _, n, _, h1⟩ := (show ObjOk X.prog X.w H s.heap a (.frz ob (.lst xs)) from I.hok a _ ea)
   exact PySem.W.kia_one PySem.W.kitx_list I.kIn ⟨_, h1, rfl⟩ e (fun z => nomatch z) h
 | @tup a xs ea =>
   cases (show u = Value.ref a from rx)
   obtain ⟨_, _, _, p⟩ := (show ObjOk X.prog X.w H s.heap a (.tup xs) from I.hok a _ ea)
   obtain ⟨o, h1, h2, _⟩ := p
   exact PySem.W.kia_one PySem.W.kitx_tuple I.kIn ⟨o, h1, h2⟩ e (fun z => nomatch z) h
 | @dK a kvs ea =>
   cases (show u = Value.ref a from rx)
   obtain ⟨_, _, vs, _, p⟩ := (show ObjOk X.prog X.w H s.heap a (.dK kvs) from I.hok a _ ea)
   obtain ⟨o, es, ep, h1, h2, _⟩ := p
   exact PySem.W.kia_one PySem.W.kitx_dict I.kIn ⟨o, h1, h2.1⟩ e (fun z => nomatch z) h
 | @dT a kvs ea =>
   cases (show u = Value.ref a from rx)
   obtain ⟨_, _, xs, _, o, es, ep, h1, h2, _⟩ := (show ObjOk X.prog X.w H s.heap a (.dT kvs) from I.hok a _ ea)
   exact PySem.W.kia_one PySem.W.kitx_dict I.kIn ⟨o, h1, h2.1⟩ e (fun z => nomatch z) h
 | @ins a C dx fs ea cl ha hn htk hm =>
   cases (show u = Value.ref a from rx)
   obtain ⟨mA, O, _⟩ := ins_get I.hok ea
   obtain ⟨od, J, _⟩ := O.look
   exact PySem.W.kia_one (PySem.W.kitx_own (cl.get _) cl.hd ha hn htk hm) I.kIn J e (fun z => nomatch z) h
end
end L2
namespace L2
open PySem PySem.Spec PyProof.Rows
set_option genInjectivity false in
structure Room (k : Nat) (A : Around) : Prop where
 hd : A.handled = none
 dp : A.depth + 3 * k + 5 < recursionLimit
 un : A.units + 16 * k + 200 < cLine
theorem Room.mono {j k : Nat} {A : Around} (r : Room k A) (h : j ≤ k) : Room j A := ⟨r.hd, by have := r.dp; omega, by have := r.un; omega⟩
theorem Room.deeper {k : Nat} {A : Around} (r : Room (k + 1) A) (env : Env) : Room k (A.deeper env) :=
 ⟨r.hd, by have := r.dp; show A.depth + 1 + 3 * k + 5 < _; omega, by have := r.un; show A.units + 3 + 16 * k + 200 < _; omega⟩
theorem make_depth {A : Around} {C : Addr} {us : List Value} {kw : List (Str × Value)} : (A.under (.builtin "type.__call__" ⟨.ref C :: us, kw⟩)).depth = A.depth + 1 := by
 first | rfl | simp [Around.under, Code.weight, Code.isCreation, Code.isGuard, Code.isCaller, Code.frames, Code.isFrame, guardIds]
theorem make_units {A : Around} {C : Addr} {us : List Value} {kw : List (Str × Value)} : (A.under (.builtin "type.__call__" ⟨.ref C :: us, kw⟩)).units = A.units + 1 := by
 first | rfl | simp [Around.under, Code.cUnits, Code.frames, Code.isFrame]
theorem Room.make {k : Nat} {A : Around} (r : Room (k + 1) A) (C : Addr) (us : List Value) (kw : List (Str × Value)) : Room k (A.under (.builtin "type.__call__" ⟨.ref C :: us, kw⟩)) :=
 ⟨r.hd, by have := r.dp; rw [make_depth]; omega, by have := r.un; rw [make_units]; omega⟩
theorem Room.depth {k : Nat} {A : Around} (r : Room k A) : A.depth < recursionLimit := by have := r.dp; omega
theorem Room.units {k : Nat} {A : Around} (r : Room k A) : A.units + 64 < cLine := by have := r.un; omega
def tNil : TA := fun _ H Q => Q [] H
def tCons (ta : TE) (tr : TA) : TA := fun σ H Q => ta σ H fun x H1 => tr σ H1 fun xs H2 => Q (x :: xs) H2
section
variable {X : Cx} {e : Expr} {es : List Expr} {te : TE} {t : TA} {pos : Pos}
theorem pa_nil : PA X [] tNil := fun _ _ _ _ H Q I h => Calls.spliced_nil ⟨[], H, I, .nil, h⟩
theorem zz0 (ha : PE X e te) (hr : PA X es t) (hs : starEach (e :: es) X.env = (false, eval e X.env) :: starEach es X.env := by rfl) : PA X (e :: es) (tCons te t) := by
 intro pos pins s σ H Q I h
 rw [hs]
 show wpAny _ _ (spliced ((false, eval e X.env) :: backTo pos (starEach es X.env))) _ _ s
 refine Calls.spliced_cons (thn (ha pins s σ H _ I h) fun u s1 ⟨x, H1, I1, r1, q1⟩ => ?_)
 exact thn (hr pos pins s1 σ H1 _ I1 q1) fun us s2 ⟨xs, H2, I2, r2, q2⟩ => ⟨x :: xs, H2, I2, .cons r1 r2, q2⟩
def tTup (t : TA) : TE := fun σ H Q => t σ H fun xs H1 => xs.length ≤ sizeLine ∧ ∀ p, H1 p = none → Q (.ref p) (upd H1 p (.tup xs))
def tLst (t : TA) : TE := fun σ H Q => t σ H fun xs H1 => xs.length ≤ sizeLine ∧ ∀ p, H1 p = none → Q (.ref p) (upd H1 p (.lst xs))
theorem pe_tup {x1} (h : PA X es t) : PE X (.Tuple es x1 pos) (tTup t) := by
 intro pins s σ H Q I hq
 refine wpAny_Tuple_spliced (thn (h pos pins s σ H _ I hq) fun us s1 ⟨xs, H1, I1, r, z, q⟩ => ⟨by rw [← r.length]; exact z, ?_⟩)
 have hf : H1 s1.heap.objs.size = none := I1.hok.fresh (Nat.le_refl _)
 refine ⟨.ref s1.heap.objs.size, upd H1 s1.heap.objs.size (.tup xs), I1.laid (t' := s1.toks) (fun b u e => Heap.get?_push_of_some _ e) (Nat.le_refl _) ?_, rfl, q _ hf⟩
 exact ⟨z, us, r, ⟨_, Heap.get?_push_size _ rfl, rfl, _, rfl⟩⟩
theorem pe_lst (h : PA X es t) : PE X (.List es pos) (tLst t) := by
 intro pins s σ H Q I hq
 refine wpAny_List_spliced (thn (h pos pins s σ H _ I hq) fun us s1 ⟨xs, H1, I1, r, z, q⟩ => ⟨by rw [← r.length]; exact z, ?_⟩)
 have hf : H1 s1.heap.objs.size = none := I1.hok.fresh (Nat.le_refl _)
 refine ⟨.ref s1.heap.objs.size, upd H1 s1.heap.objs.size (.lst xs), I1.laid (t' := s1.toks) (fun b u e => Heap.get?_push_of_some _ e) (Nat.le_refl _) ?_, rfl, q _ hf⟩
 exact ⟨z, us, 0, r, Heap.get?_push_size _ rfl⟩
end
noncomputable abbrev Sp := List V → Hp → VK → XK → Prop
noncomputable abbrev CXT := List Env → Hp → Shared → XK → Value → Shared → Prop
set_option genInjectivity false in
structure Env0 (P : Program) (w : World) (K : PySem.W.Frag) (mg : Str → Option Value) (base : Heap) (A : Around) (outer : List Env) (s : Shared) (H : Hp) : Prop where
 frames : A.frames = some outer
 mod : Mod K mg base
 bs : ∀ b o, base.get? b = some o → s.heap.get? b = some o ∧ H b = none
 bsz : base.objs.size ≤ s.heap.objs.size
 funs : s.heap.FunFrames base outer
 frf : ∀ b ∈ frs outer, H b = none
 hok : HOk P w H s.heap
 bare : AllBare s.gens
def CE (outer : List Env) (P : Program) (w : World) (H : Hp) (s : Shared) (Q : VK) (u : Value) (s' : Shared) : Prop :=
 ∃ v H', s'.os = s.os ∧ AllBare s'.gens ∧ Un (frs outer) [] H H' s.heap s'.heap ∧ HOk P w H' s'.heap ∧ RelV v u ∧ Q v H'
def CR (CX : CXT) (outer : List Env) (P : Program) (w : World) (H : Hp) (s : Shared) (Q : VK) (E : XK) (r : Result) (s' : Shared) : Prop :=
 match r with
 | .ok (.ret u) => CE outer P w H s Q u s'
 | .ok _ => False
 | .error e => CX outer H s E e s'
set_option genInjectivity false in
structure FnOk (P : Program) (w : World) (K : PySem.W.Frag) (mg : Str → Option Value) (base : Heap) (CX : CXT) (k : Nat) (f : Addr) (fd : FuncData) (ps : List Str) (sp : Sp) : Prop where
 len : ∀ vs H Q E, sp vs H Q E → vs.length = ps.length
 run : ∀ (A : Around) (outer : List Env) (s : Shared) (H : Hp) (args : Args) (us : List Value) (vs : List V) (Q : VK) (E : XK), Room k A → Env0 P w K mg base A outer s H → BindsTo s fd args (ps.zip us) → Vals vs us → sp vs H Q E →
   codeAny (model P w) A (.call (.ref f) args) (CR CX outer P w H s Q E) s
theorem Env0.make {P : Program} {w : World} {K : PySem.W.Frag} {mg : Str → Option Value} {base : Heap} {A : Around} {outer : List Env} {s : Shared} {H : Hp} (e : Env0 P w K mg base A outer s H) (C : Addr) (us : List Value) (kw : List (Str × Value)) :
   Env0 P w K mg base (A.under (.builtin "type.__call__" ⟨.ref C :: us, kw⟩)) outer s H := ⟨by first | exact e.frames | (simpa [Around.under, Code.envs, Code.isFrame, pushEnvs] using e.frames), e.mod, e.bs, e.bsz, e.funs, e.frf, e.hok, e.bare⟩
section
variable {X : Cx} {pins : List (Addr × Obj)} {σ : St} {H : Hp} {s s' : Shared}
theorem Inv.env0 (I : Inv X pins σ H s) : Env0 X.prog X.w X.K X.mg X.base X.A X.stack s H :=
 ⟨I.ok.frames, I.ok.mod, I.bs, Nat.le_trans I.ok.bsz I.sz, I.stack, I.stkFree, I.hok, I.bare⟩
theorem Inv.after {Q : VK} {u : Value} (I : Inv X pins σ H s) (h : CE X.stack X.prog X.w H s Q u s') : EP X pins σ Q u s' := by
 obtain ⟨v, H', os, bare, un, hok, r, q⟩ := h
 obtain ⟨hh, g, d, t, os'⟩ := s'
 obtain rfl : os' = s.os := os
 exact ⟨v, H', I.call (h' := hh) (g' := g) (d' := d) (t' := t) (ch := []) un hok bare (fun b z => absurd z (by simp)), r, q⟩
end
def tCall (sp : Sp) (dvs : List V) (E : XK) (t : TA) : TE := fun σ H Q => t σ H fun vs H1 => sp (vs ++ dvs) H1 Q E
def tMeth (C : Addr) (m : Str) (sp : Sp) (dvs : List V) (E : XK) (ta : TE) (t : TA) : TE := fun σ H Q => ta σ H fun x H1 => ∃ a dx fs, x = .ref a ∧ H1 a = some (.ins C dx fs) ∧ fs.lookup m = none ∧
 t σ H1 fun vs H2 => sp (x :: (vs ++ dvs)) H2 Q E
def tMake (C : Addr) (sp : Sp) (dvs : List V) (E : XK) (t : TA) : TE := fun σ H Q => t σ H fun vs H1 => ∀ x dx, H1 x = none → H1 dx = none → dx ≠ x →
 sp (.ref x :: (vs ++ dvs)) (upd (upd H1 dx (.own x)) x (.ins C dx [])) (fun v H2 => v = .non ∧ Q (.ref x) H2) E
def Binds (K : PySem.W.Frag) (fd : FuncData) (ps : List Str) (ds : List Value) : Prop :=
 ∀ (s : Shared) (us : List Value), K.In s.heap → (us ++ ds).length = ps.length → BindsTo s fd ⟨us, []⟩ (ps.zip (us ++ ds))
theorem Binds.all {K : PySem.W.Frag} {fd : FuncData} {ps : List Str} (h : ∀ us : List Value, us.length = ps.length → bindArgs fd ⟨us, []⟩ = pure (ps.zip us)) : Binds K fd ps [] := fun s us _ hl => by
 rw [List.append_nil] at hl ⊢
 exact .of_eq (h us hl)
def Passes (CX : CXT) (X : Cx) (E : XK) : Prop := ∀ (pins : List (Addr × Obj)) (σ : St) (H : Hp) (s : Shared) (e : Value) (s' : Shared), Inv X pins σ H s → CX X.stack H s E e s' → X.xe e s'
section
variable {X : Cx} {CX : CXT} {k : Nat} {f C : Addr} {fd : FuncData} {ps : List Str} {sp : Sp} {dvs : List V} {ds : List Value} {E : XK} {x m : Str} {p pos apos : Pos} {e o : Expr} {es : List Expr} {ta : TE} {t : TA}
theorem run_fn {pins : List (Addr × Obj)} {σ : St} {H : Hp} {s : Shared} {Q : VK} {us : List Value} {vs : List V} (F : FnOk X.prog X.w X.K X.mg X.base CX k f fd ps sp) (hr : Room k X.A) (hb : Binds X.K fd ps ds) (hd : Vals dvs ds) (hx : Passes CX X E)
   (I : Inv X pins σ H s) (r : Vals vs us) (h : sp (vs ++ dvs) H Q E) : wpAny (model X.prog X.w) X.A (call (.ref f) us) (EP X pins σ Q) X.xe s := by
 have r2 : Vals (vs ++ dvs) (us ++ ds) := r.append hd
 have hl : (us ++ ds).length = ps.length := by rw [← r2.length]; exact F.len _ _ _ _ h
 refine wpAny_call (codeAny_mono (F.run X.A X.stack s H ⟨us, []⟩ (us ++ ds) (vs ++ dvs) Q E hr I.env0 (hb s us I.kIn hl) r2 h) fun r s' hq => ?_)
 cases r with
 | error e => exact hx pins σ H s e s' I hq
 | ok fl =>
   cases fl with
   | ret u => exact I.after hq
   | next => exact False.elim hq
   | brk => exact False.elim hq
   | cont => exact False.elim hq
theorem zz12 (F : FnOk X.prog X.w X.K X.mg X.base CX k f fd ps sp) (hr : Room k X.A) (hg : Gl X x) (hm : X.mg x = some (.ref f)) (hk : PySem.W.keepIn X.K (.ref f) = true) (hb : Binds X.K fd ps ds) (hd : Vals dvs ds) (hx : Passes CX X E)
   (ha : PA X (e :: es) t) (hdb : (x == ("__debug__" : Str)) = false := by decide) (he : starEach (e :: es) X.env = (false, eval e X.env) :: starEach es X.env := by rfl) (hpl : (backTo pos (starEach es X.env)).any (·.1) = false := by rfl) :
   PE X (.Call (.Name x p) (e :: es) [] pos) (tCall sp dvs E t) := by
 intro pins s σ H Q I h
 refine wpAny_Call_Name_kw (ld_glob I hg hm ?_ hdb)
 refine PySem.W.callWith_K (h₀ := X.base) I.ok.mod.kin hk (thn (ha pos pins s σ H _ I h) fun us s1 ⟨vs, H1, I1, r, q⟩ => ⟨I1.kIn, ?_⟩) he hpl
 exact run_fn F hr hb hd hx I1 r q
theorem pe_meth {pl : Sem Bool} (he : PE X o ta) (c : Cls X.K C) (hm : Meth X.K C m f) (F : FnOk X.prog X.w X.K X.mg X.base CX k f fd ps sp) (hr : Room k X.A) (hb : Binds X.K fd ps ds) (hd : Vals dvs ds) (hx : Passes CX X E) (ha : PA X (e :: es) t)
   (hst : starEach (e :: es) X.env = (false, eval e X.env) :: starEach es X.env := by rfl) (hpl : (backTo pos (starEach es X.env)).any (·.1) = false := by rfl)
   (ht : eval (.Call (.Attribute o m apos) (e :: es) [] pos) X.env = (do
     let ov ← eval o X.env
     standAt apos.atName
     let (f, first) ← holding [ov] (getMethod ov m pl)
     callWith pos f first (backTo pos (starEach (e :: es) X.env)) (backToKw pos (keywordEach [] X.env))) := by rfl) :
   PE X (.Call (.Attribute o m apos) (e :: es) [] pos) (tMeth C m sp dvs E ta t) := by
 intro pins s σ H Q I h
 refine PySem.W.methodCall_KW (pl := pl) (thn (he pins s σ H _ I h) fun u s1 ⟨x, H1, I1, rx, a, dx, fs, ex, ea, l, q⟩ => ?_) ht
 subst ex
 obtain rfl : u = Value.ref a := rx
 refine getmeth_ok I1 ea c hm l ?_
 refine PySem.W.callWith_K (first := [.ref a]) (h₀ := X.base) I.ok.mod.kin hm.kp (thn (ha pos pins s1 σ H1 _ I1 q) fun us s2 ⟨vs, H2, I2, r, q2⟩ => ⟨I2.kIn, ?_⟩) hst hpl
 exact run_fn (us := .ref a :: us) (vs := .ref a :: vs) F hr hb hd hx I2 (.cons rfl r) q2
set_option genInjectivity false in
structure Mk (K : PySem.W.Frag) (C f : Addr) : Prop where
 makes : PySem.W.makesIn K C = true
 init : PySem.W.findIn K (.ref C) "__init__" = some (some (.ref f))
 fn : PySem.W.isFn K (.ref f) = true
 kp : PySem.W.keepIn K (.ref C) = true
theorem run_make {pins : List (Addr × Obj)} {σ : St} {H : Hp} {s : Shared} {Q : VK} {us : List Value} {vs : List V} (M : Mk X.K C f) (F : FnOk X.prog X.w X.K X.mg X.base CX k f fd ps sp) (hr : Room (k + 1) X.A) (hb : Binds X.K fd ps ds) (hd : Vals dvs ds)
   (hx : Passes CX X E) (I : Inv X pins σ H s) (r : Vals vs us)
   (h : ∀ x dx, H x = none → H dx = none → dx ≠ x → sp (.ref x :: (vs ++ dvs)) (upd (upd H dx (.own x)) x (.ins C dx [])) (fun v H2 => v = .non ∧ Q (.ref x) H2) E) :
   wpAny (model X.prog X.w) X.A (call (.ref C) us) (EP X pins σ Q) X.xe s := by
 have hq := h (s.heap.objs.size + 1) s.heap.objs.size (I.hok.fresh (Nat.le_succ _)) (I.hok.fresh (Nat.le_refl _)) (Nat.ne_of_lt (Nat.lt_succ_self _))
 have I2 := Inv.made (C := C) I
 have r2 : Vals (V.ref (s.heap.objs.size + 1) :: (vs ++ dvs)) (Value.ref (s.heap.objs.size + 1) :: (us ++ ds)) := .cons rfl (r.append hd)
 have hl : (Value.ref (s.heap.objs.size + 1) :: us ++ ds).length = ps.length := by
   have e := r2.length
   rw [F.len _ _ _ _ hq] at e
   exact e.symm
 refine wpAny_call (make_map (f := f) I.kIn M.makes M.init (beq_iff_eq.mp M.fn) (codeAny_mono (F.run _ X.stack _ _ ⟨Value.ref (s.heap.objs.size + 1) :: us, []⟩ (Value.ref (s.heap.objs.size + 1) :: (us ++ ds)) _ _ E (hr.make C us [])
   (I2.env0.make C us []) (hb _ (Value.ref (s.heap.objs.size + 1) :: us) I2.kIn hl) r2 hq) fun r s' hq' => ?_))
 cases r with
 | error e => exact hx pins σ _ _ e s' I2 hq'
 | ok fl =>
   cases fl with
   | ret u =>
     obtain ⟨v, H', I3, rv, ev, q3⟩ := I2.after hq'
     subst ev
     exact ⟨rv, ⟨V.ref (s.heap.objs.size + 1), H', I3, rfl, q3⟩⟩
   | next => exact False.elim hq'
   | brk => exact False.elim hq'
   | cont => exact False.elim hq'
theorem pe_make0 (M : Mk X.K C f) (F : FnOk X.prog X.w X.K X.mg X.base CX k f fd ps sp) (hr : Room (k + 1) X.A) (hg : Gl X x) (hm : X.mg x = some (.ref C)) (hb : Binds X.K fd ps ds) (hd : Vals dvs ds) (hx : Passes CX X E)
   (hdb : (x == ("__debug__" : Str)) = false := by decide) : PE X (.Call (.Name x p) [] [] pos) (tMake C sp dvs E tNil) := by
 intro pins s σ H Q I h
 refine wpAny_Call_Name_kw (ld_glob I hg hm ?_ hdb)
 exact PySem.W.callWith_K0 I.kIn M.kp (run_make (us := []) M F hr hb hd hx I .nil h)
end
section
variable {X : Cx} {CX : CXT} {k : Nat} {f C : Addr} {fd : FuncData} {ps ks : List Str} {sp : Sp} {E : XK} {x m : Str} {p pos apos kpos : Pos} {e o : Expr} {es : List Expr} {kws : List Keyword} {te ta : TE} {t tk : TA} {nm : Option Str}
variable {g : List Value → List Value → List Value} {gV : List V → List V → List V}
end
set_option genInjectivity false in
structure FnScope (N P : List Str) (sc : Scope) : Prop where
 kind : sc.kind = .function
 co : sc.isCoroutine = false
 gen : sc.isGenerator = false
 nd : N.Nodup
 pre : N.take P.length = P
 par : ∀ x ∈ P, sc.names.lookup x = some .local ∨ sc.names.lookup x = some .cell
 nofree : ∀ y ∈ sc.names, y.2 ≠ .free
theorem bindL_out {kindOf : Str → Option NameKind} {x : Str} : ∀ {binds : List (Str × Value)} {m : Str → Option Value}, (∀ v, (x, v) ∉ binds) → bindL kindOf binds m x = m x
 | [], _, _ => rfl
 | (n, v) :: r, m, h => by
   unfold bindL
   rw [bindL_out fun w hw => h w (List.mem_cons_of_mem _ hw)]
   split
   · have : x ≠ n := by rintro rfl; exact h v List.mem_cons_self
     simp [this]
   · rfl
theorem bindC_out {kindOf : Str → Option NameKind} {x : Str} : ∀ {binds : List (Str × Value)} {m : Str → Option Value}, (∀ v, (x, v) ∉ binds) → bindC kindOf binds m x = m x
 | [], _, _ => rfl
 | (n, v) :: r, m, h => by
   unfold bindC
   rw [bindC_out fun w hw => h w (List.mem_cons_of_mem _ hw)]
   split
   · rfl
   · have : x ≠ n := by rintro rfl; exact h v List.mem_cons_self
     simp [this]
theorem bindL_get {kindOf : Str → Option NameKind} {x : Str} {v : Value} : ∀ {P : List Str} {vs : List Value} {i : Nat} {m : Str → Option Value}, P.Nodup → P[i]? = some x → vs[i]? = some v → kindOf x = some .local →
   bindL kindOf (P.zip vs) m x = some v
 | [], _, _, _, _, h, _, _ => by simp at h
 | _ :: _, [], _, _, _, _, h, _ => by simp at h
 | p :: P, w :: vs, 0, m, nd, h1, h2, hk => by
   simp at h1 h2; subst h1; subst h2
   show bindL kindOf ((p, w) :: P.zip vs) m p = _
   unfold bindL
   rw [bindL_out fun v hv => (List.nodup_cons.mp nd).1 (List.of_mem_zip hv).1, if_pos hk]
   simp
 | p :: P, w :: vs, i + 1, m, nd, h1, h2, hk => by
   show bindL kindOf ((p, w) :: P.zip vs) m x = _
   unfold bindL
   exact bindL_get (i := i) (List.nodup_cons.mp nd).2 (by simpa using h1) (by simpa using h2) hk
theorem bindC_get {kindOf : Str → Option NameKind} {x : Str} {v : Value} : ∀ {P : List Str} {vs : List Value} {i : Nat} {m : Str → Option Value}, P.Nodup → P[i]? = some x → vs[i]? = some v → kindOf x ≠ some .local →
   bindC kindOf (P.zip vs) m x = some v
 | [], _, _, _, _, h, _, _ => by simp at h
 | _ :: _, [], _, _, _, _, h, _ => by simp at h
 | p :: P, w :: vs, 0, m, nd, h1, h2, hk => by
   simp at h1 h2; subst h1; subst h2
   show bindC kindOf ((p, w) :: P.zip vs) m p = _
   unfold bindC
   rw [bindC_out fun v hv => (List.nodup_cons.mp nd).1 (List.of_mem_zip hv).1, if_neg hk]
   simp
 | p :: P, w :: vs, i + 1, m, nd, h1, h2, hk => by
   show bindC kindOf ((p, w) :: P.zip vs) m x = _
   unfold bindC
   exact bindC_get (i := i) (List.nodup_cons.mp nd).2 (by simpa using h1) (by simpa using h2) hk
noncomputable def start (N : List Str) (vs : List V) : St := vs.map some ++ List.replicate (N.length - vs.length) none
noncomputable def cxOf (CX : CXT) (P : Program) (w : World) (K : PySem.W.Frag) (mg : Str → Option Value) (base : Heap) (N : List Str) (qual : Str) (scope : Scope) (f : Addr) (cd : Value) (A : Around) (outer : List Env) (s : Shared) (H : Hp) (E : XK) : Cx where
 prog := P
 w := w
 K := K
 mg := mg
 base := base
 A := A.deeper (envOfC qual scope s.heap.objs.size f cd)
 N := N
 s₀ := s
 H₀ := H
 env := envOfC qual scope s.heap.objs.size f cd
 outer := outer
 stack := envOfC qual scope s.heap.objs.size f cd :: outer
 ex := []
 calm := true
 fn := fun _ => true
 pn := []
 xe := fun e s' => wpAny (model P w) (A.deeper (envOfC qual scope s.heap.objs.size f cd)) (leaving (envOfC qual scope s.heap.objs.size f cd) e) (fun _ s'' => CX outer H s E e s'') (fun e' s'' => CX outer H s E e' s'') s'
theorem cell_has {sc : Scope} {n : Nat} {x : Str} (h : sc.names.lookup x = some .cell) : ∃ c, (cellsFrom n sc.names []).lookup x = some c := by
 have q := PySem.W.cellsFrom_some sc.names n [] (.inl h)
 exact Option.isSome_iff_exists.mp q
theorem inv_start {CX : CXT} {P : Program} {w : World} {K : PySem.W.Frag} {mg : Str → Option Value} {base : Heap} {N ps : List Str} {qual : Str} {scope : Scope} {f : Addr} {cd : Value} {A : Around} {outer : List Env} {s s1 : Shared} {H : Hp} {E : XK} {us : List Value} {vs : List V}
   (S : FnScope N ps scope) (hd : A.handled = none) (e0 : Env0 P w K mg base A outer s H) (hl : vs.length = ps.length) (r : Vals vs us)
   (x : InCallC s s.heap.objs.size (bindL (envOfC qual scope s.heap.objs.size f cd).kindOf (ps.zip us) fun _ => none) (cellsFrom (s.heap.objs.size + 1) scope.names []) (bindC (envOfC qual scope s.heap.objs.size f cd).kindOf (ps.zip us) fun _ => none) s1) :
   Inv (cxOf CX P w K mg base N qual scope f cd A outer s H E) [] (start N vs) H s1 := by
 have hpl : ps.length ≤ N.length := by have := congrArg List.length S.pre; rw [List.length_take] at this; omega
 obtain ⟨h1, tk, rfl, hk⟩ := x.done
 have noA : ∀ b : Addr, b ∉ (cxOf CX P w K mg base N qual scope f cd A outer s H E).ex := fun b z => absurd (show b ∈ ([] : List Addr) from z) (by simp)
 refine ⟨⟨e0.mod, S.kind, rfl, rfl, Nat.le_refl _, fun y z c h1 h2 => ?_, fun y hy => ?_, fun y c _ h => ?_, fun _ => hd, Around.frames_deeper e0.frames, .inr ⟨rfl, rfl⟩, fun b z => absurd z (noA b), e0.bs, e0.bsz, fun b _ _ => noA b, fun b z => absurd z (noA b), e0.funs, e0.frf⟩,
   rfl, e0.bare, Un.kept hk, ⟨_, x.toInCall.ns, fun i y v h1 h2 h3 => ?_⟩, fun y c h => ⟨_, x.cell y c h⟩, e0.hok.fresh (Nat.le_refl _), fun y c h => ?_, fun p hp => absurd (show p ∈ ([] : List (Addr × Obj)) from hp) (by simp), e0.hok.kept hk, ?_⟩
 · exact name_of_addr x.apart (PySem.mem_of_lookup h1) (PySem.mem_of_lookup h2)
 · have hy : scope.names.lookup y = some .cell ∨ scope.names.lookup y = some .free := hy
   rcases hy with hy | hy
   · exact cell_has hy
   · exact absurd rfl (S.nofree _ (PySem.mem_of_lookup hy))
 · exact Nat.le_of_lt (x.above y c (PySem.mem_of_lookup h))
 · have hi : i < vs.length := by
     unfold start at h2
     by_cases hi : i < vs.length
     · exact hi
     · rw [List.getElem?_append_right (by simpa using hi)] at h2
       rw [List.getElem?_replicate] at h2
       split at h2 <;> cases h2
   have ha : vs[i]? = some v := by
     unfold start at h2
     rw [List.getElem?_append_left (by simpa using hi), List.getElem?_map] at h2
     cases e : vs[i]? with
     | none => rw [e] at h2; cases h2
     | some a => rw [e] at h2; cases h2; rfl
   obtain ⟨u, hu, rv⟩ := r.get ha
   have hp : ps[i]? = some y := by
     rw [← S.pre, List.getElem?_take_of_lt (by omega)]; exact h1
   have ndP : ps.Nodup := by rw [← S.pre]; exact S.nd.sublist (List.take_sublist _ _)
   refine ⟨u, rv, ?_⟩
   rcases S.par y (List.mem_of_getElem? hp) with k | k
   · exact .inl ⟨k, bindL_get ndP hp hu k⟩
   · obtain ⟨c, e⟩ := cell_has (n := s.heap.objs.size + 1) k
     refine .inr ⟨.inl k, c, e, ?_⟩
     have q := x.cell y c e
     rw [bindC_get ndP hp hu (by show scope.names.lookup y ≠ _; rw [k]; decide)] at q
     exact q
 · exact e0.hok.fresh (Nat.le_of_lt (x.above y c (PySem.mem_of_lookup h)))
 · unfold start
   show _ = N.length
   rw [List.length_append, List.length_map, List.length_replicate]
   omega
theorem fn_of {CX : CXT} {P : Program} {w : World} {K : PySem.W.Frag} {mg : Str → Option Value} {base : Heap} {k : Nat} {f : Addr} {name qual : Str} {params : Arguments} {body : List Stmt} {scope : Scope} {dV kV doc pm cdv ct oc : Value} {an od : Option Addr}
   {osl : Array (Option Value)} {N ps : List Str} {sp : Sp} (lk : K.lookup f = some ⟨oc, od, .func (PySem.W.fnOf name qual params body scope dV kV doc pm an cdv ct), osl⟩) (hcd : PySem.W.codeIn K cdv qual = true) (S : FnScope N ps scope)
   (len : ∀ vs H Q E, sp vs H Q E → vs.length = ps.length)
   (hbody : ∀ (A : Around) (outer : List Env) (s : Shared) (H : Hp) (vs : List V) (Q : VK) (E : XK), Room k (A.deeper (envOfC qual scope s.heap.objs.size f cdv)) → sp vs H Q E →
     ∃ t, PSs (cxOf CX P w K mg base N qual scope f cdv A outer s H E) body t ∧ t { nx := fun _ H' => Q .non H', rt := Q } (start N vs) H) :
   FnOk P w K mg base CX (k + 1) f (PySem.W.fnOf name qual params body scope dV kV doc pm an cdv ct) ps sp := by
 refine ⟨len, fun A outer s H args us vs Q E hr e0 hb r hsp => ?_⟩
 have hl := len _ _ _ _ hsp
 have KX : K.In s.heap := e0.mod.kin.keeps fun b o e => (e0.bs b o e).1
 have lim : s.heap.NoLimit := e0.mod.nolimit.keeps fun b o e => (e0.bs b o e).1
 have hkind : ∀ y ∈ ps.zip us, scope.names.lookup y.1 = some .local ∨ (scope.names.lookup y.1 = some .cell ∧ ((cellsFrom (s.heap.objs.size + 1) scope.names []).lookup y.1).isSome = true) := fun ⟨n, v⟩ hy => by
   rcases S.par n (List.of_mem_zip hy).1 with q | q
   · exact .inl q
   · exact .inr ⟨q, PySem.W.cellsFrom_some _ _ _ (.inl q)⟩
 refine codeAny_call_function hr.depth (KX _ _ lk) rfl S.co S.gen rfl (PySem.W.codeRec_of KX hcd) (hb _ _ _ _ ?_)
 refine wpAny_newFunctionEnv_cells S.kind hkind fun env he s1 x => ?_
 subst he
 refine ⟨lim.keeps x.toInCall.keep, codeAny_func ?_⟩
 obtain ⟨t, ht, hq⟩ := hbody A outer s H vs Q E (hr.deeper _) hsp
 have I : Inv (cxOf CX P w K mg base N qual scope f cdv A outer s H E) [] (start N vs) H s1 := inv_start S hr.hd e0 hl r x
 refine wpAny_mono (ht [] s1 (start N vs) H _ I hq) (fun fl s' hs => ?_) fun e s' hs => hs
 have fin : ∀ {σ' : St} {H' : Hp} {v : V} {u : Value}, Inv (cxOf CX P w K mg base N qual scope f cdv A outer s H E) [] σ' H' s' → RelV v u → Q v H' → CE outer P w H s Q u s' :=
   fun {σ' H' v u} J rv q => ⟨v, H', J.os, J.bare, J.base, J.hok, rv, q⟩
 cases fl with
 | ret u =>
   obtain ⟨v, σ', H', J, rv, q⟩ := hs
   exact fin J rv q
 | next =>
   obtain ⟨σ', H', J, q⟩ := hs
   exact fin (v := V.non) (u := Value.none) J rfl q
 | brk =>
   obtain ⟨_, _, _, q⟩ := hs
   exact False.elim q
 | cont =>
   obtain ⟨_, _, _, q⟩ := hs
   exact False.elim q
end L2
namespace L2
open PySem PySem.Spec PyProof.Rows
section
variable {X : Cx} {x : Str} {p pos : Pos} {e : Expr} {es : List Expr} {t : TA} {id T : String} {r : List V → Hp → VK → Prop}
def tCB (r : List V → Hp → VK → Prop) (t : TA) : TE := fun σ H Q => t σ H fun vs H1 => r vs H1 Q
theorem zz21 (hc : CallR X (.builtin id) r) (hg : Gl X x) (hm : X.mg x = none) (hv : bootBuiltins x = some (.builtin id)) (ha : PA X (e :: es) t) (hn : x ≠ "__name__" := by decide) (hdb : (x == ("__debug__" : Str)) = false := by decide)
   (he : starEach (e :: es) X.env = (false, eval e X.env) :: starEach es X.env := by rfl) (hpl : (backTo pos (starEach es X.env)).any (·.1) = false := by rfl) : PE X (.Call (.Name x p) (e :: es) [] pos) (tCB r t) := by
 intro pins s σ H Q I h
 refine wpAny_Call_Name_kw (ld_blt I hg hm hv ?_ hn hdb)
 exact PyProof.Rows.callWith_builtin1 (thn (ha pos pins s σ H _ I h) fun us s1 ⟨vs, H1, I1, r1, q1⟩ => hc pins s1 σ H1 vs us Q I1 r1 q1) he hpl
theorem zz14 (hc : CallR X (.type T) r) (hg : Gl X x) (hm : X.mg x = none) (hv : bootBuiltins x = some (.type T)) (ha : PA X (e :: es) t) (hn : x ≠ "__name__" := by decide) (hdb : (x == ("__debug__" : Str)) = false := by decide)
   (he : starEach (e :: es) X.env = (false, eval e X.env) :: starEach es X.env := by rfl) (hpl : (backTo pos (starEach es X.env)).any (·.1) = false := by rfl) : PE X (.Call (.Name x p) (e :: es) [] pos) (tCB r t) := by
 intro pins s σ H Q I h
 refine wpAny_Call_Name_kw (ld_blt I hg hm hv ?_ hn hdb)
 exact PyProof.Rows.callWith_type1 (thn (ha pos pins s σ H _ I h) fun us s1 ⟨vs, H1, I1, r1, q1⟩ => hc pins s1 σ H1 vs us Q I1 r1 q1) he hpl
end
end L2
namespace HT
open PySem PyProof.Rows
section
open PySem.SeqAt
open PySem.AutoSeq1 (wpAny_loadPart')
open PySem.MeetsSeq PySem.MeetsSeq2 PySem.MeetsSeq3
end
section
variable {prog : Program} {w : World} {A : Around} {E : Value → Shared → Prop} {s : Shared}
noncomputable def sIx (n d : Nat) : Option Int → Nat
 | none => d
 | some v => if v < 0 then (v + (n : Int)).toNat else min v.toNat n
theorem sIx_nat (n d k : Nat) : sIx n d (some (k : Int)) = min k n := by
 show (if (k : Int) < 0 then ((k : Int) + (n : Int)).toNat else min (k : Int).toNat n) = min k n
 rw [if_neg (by omega), Int.toNat_natCast]
theorem sIx_le (n d : Nat) (hd : d ≤ n) (o : Option Int) : sIx n d o ≤ n := by
 cases o with
 | none => exact hd
 | some v =>
   show (if v < 0 then (v + (n : Int)).toNat else min v.toNat n) ≤ n
   by_cases hv : v < 0
   · rw [if_pos hv]; omega
   · rw [if_neg hv]; exact Nat.min_le_right _ _
theorem clip_eq (v : Int) (n d : Nat) : (if v < 0 then max (v + (n : Int)) 0 else min v (n : Int)) = ((sIx n d (some v) : Nat) : Int) := by
 show (if v < 0 then max (v + (n : Int)) 0 else min v (n : Int)) = (((if v < 0 then (v + (n : Int)).toNat else min v.toNat n) : Nat) : Int)
 by_cases hv : v < 0
 · simp only [if_pos hv]; omega
 · simp only [if_neg hv]; omega
theorem adjust_gen (lo hi : Option Int) (n : Nat) : Builtin.Slice.sliceAdjust lo hi 1 (n : Int) = (((sIx n 0 lo : Nat) : Int), ((sIx n n hi : Nat) : Int)) := by
 have h1 : ¬ ((1 : Int) < 0) := by omega
 unfold Builtin.Slice.sliceAdjust
 simp only [h1, if_false]
 refine Prod.ext ?_ ?_
 · cases lo with
   | none => rfl
   | some v => exact clip_eq v n 0
 · cases hi with
   | none => rfl
   | some v => exact clip_eq v n n
theorem places_gen (i j : Nat) : Builtin.Slice.slicePlaces (i : Int) (j : Int) 1 = j - i := by
 unfold Builtin.Slice.slicePlaces
 have h1 : (1 : Int) > 0 := by omega
 simp only [h1, if_true, Int.ediv_one]
 split <;> omega
theorem slicePart_ {v : Value} {o : Option Int} {Q : Option Int → Shared → Prop} (p : IsPart v o) (h : Q o s) : wpAny (model prog w) A (Builtin.Slice.slicePartIndex v) Q E s := by
 cases p with
 | none => exact slicePart_none h
 | int i t => exact slicePart_int h
theorem sliceApplied_gen {sl : Addr} {vl vu : Value} {lo hi : Option Int} {n : Nat} {Q : Int × Int × Nat → Shared → Prop} (hs : s.heap.IsSliceOf sl vl vu .none) (pl : IsPart vl lo) (pu : IsPart vu hi)
   (h : Q (((sIx n 0 lo : Nat) : Int), 1, sIx n n hi - sIx n 0 lo) s) : wpAny (model prog w) A (Builtin.Slice.sliceApplied (.ref sl) (pure (n : Int))) Q E s := by
 obtain ⟨os, hos, hcs, hds⟩ := id hs
 unfold Builtin.Slice.sliceApplied Builtin.Slice.sliceFields
 refine wpAny_bind (wpAny_bind (wpAny_field hos hds (x := vl) rfl (wpAny_bind (wpAny_field hos hds (x := vu) rfl (wpAny_bind (wpAny_field hos hds (x := .none) rfl (wpAny_pure ?_)))))))
 refine wpAny_bind (slicePart_none ?_)
 show wpAny _ _ (if ((1 : Int) == 0) = true then _ else _) _ _ s
 rw [if_neg (by decide)]
 refine wpAny_bind (slicePart_ pl (wpAny_bind (slicePart_ pu (wpAny_bind (wpAny_pure ?_)))))
 show wpAny _ _ (match Builtin.Slice.sliceAdjust lo hi 1 (n : Int) with | (lo, hi) => pure (lo, (1 : Int), Builtin.Slice.slicePlaces lo hi 1)) _ _ s
 rw [adjust_gen lo hi n]
 show wpAny _ _ (pure (((sIx n 0 lo : Nat) : Int), (1 : Int), Builtin.Slice.slicePlaces ((sIx n 0 lo : Nat) : Int) ((sIx n n hi : Nat) : Int) 1)) _ _ s
 rw [places_gen]
 exact wpAny_pure h
theorem pick_gen (xs : Array Value) (i k : Nat) : ((List.range k).filterMap fun (m : Nat) => xs[((i : Int) + (m : Int) * 1).toNat]?).toArray = ((xs.toList.drop i).take k).toArray := by
 have e : (fun (m : Nat) => xs[((i : Int) + (m : Int) * 1).toNat]?) = fun m => xs[i + m]? := by
   funext m
   have : ((i : Int) + (m : Int) * 1).toNat = i + m := by omega
   rw [this]
 rw [e]
 have := pick_run xs i k
 rw [List.filterMap_map] at this
 have e2 : ((fun x => xs[x]?) ∘ fun x => i + x) = fun m => xs[i + m]? := rfl
 rw [e2] at this
 rw [this]
theorem getItem_tuple_cut {t sl : Addr} {items : Array Value} {vl vu : Value} {lo hi : Option Int} {Q : Value → Shared → Prop} (ht : IsTup s.heap t items) (hs : s.heap.IsSliceOf sl vl vu .none) (pl : IsPart vl lo) (pu : IsPart vu hi)
   (hw : ¬ (sIx items.size 0 lo = 0 ∧ sIx items.size items.size hi = items.size))
   (h : Q (.ref s.heap.objs.size) { s with heap := s.heap.push { cls := .type "tuple", data := .seq ((items.toList.drop (sIx items.size 0 lo)).take (sIx items.size items.size hi - sIx items.size 0 lo)).toArray } })
   (hsz : items.size ≤ sizeLine) : wpAny (model prog w) A (getItem (.ref t) (.ref sl)) Q E s := by
 have htake : sizeOk (.seq ((items.toList.drop (sIx items.size 0 lo)).take (sIx items.size items.size hi - sIx items.size 0 lo)).toArray) := by
   show ((items.toList.drop (sIx items.size 0 lo)).take (sIx items.size items.size hi - sIx items.size 0 lo)).toArray.size ≤ sizeLine
   rw [List.size_toArray, List.length_take, List.length_drop, Array.length_toList]
   omega
 have hj : sIx items.size items.size hi ≤ items.size := sIx_le _ _ (Nat.le_refl _) hi
 obtain ⟨os, hos, hcs, hds⟩ := id hs
 have hTs : s.TypeIs (.ref sl) "slice" := ⟨os, hos, hcs⟩
 unfold getItem
 try with_reducible refine wpAny_holding ?_
 first | refine wpAny_bind (wpAny_pure ?_) | skip
 refine wpAny_bind (wpAny_sequenceKey ht.typeIs (by decide) ?_)
 refine wpAny_bind (wpAny_callSpecial?_slot (name := Str.ofString "__getitem__") ht.typeIs PyProof.Rows.slot_tuple_getitem
   (wpAny_call_entry PyProof.Rows.slot_tuple_getitem ht.typeIs entry_tuple_getitem ?_ (args_tuple_getitem _ _)))
 show wpAny _ _ (Builtin.Tuple.tupleItemsOf (.ref t) >>= _) _ _ s
 refine wpAny_bind (tupleItemsOf_ ht ?_)
 refine wpAny_bind (wpAny_typeOf hTs ?_)
 rw [if_pos (by decide)]
 refine wpAny_bind (sliceApplied_gen hs pl pu ?_)
 have hno : ¬ ((((sIx items.size 0 lo : Nat) : Int) == 0 && (1 : Int) == 1 && (sIx items.size items.size hi - sIx items.size 0 lo) == items.size) = true) := by
   intro q
   rw [Bool.and_eq_true, Bool.and_eq_true] at q
   have q1 : ((sIx items.size 0 lo : Nat) : Int) = 0 := eq_of_beq q.1.1
   have q2 : sIx items.size items.size hi - sIx items.size 0 lo = items.size := eq_of_beq q.2
   exact hw ⟨by omega, by omega⟩
 show wpAny _ _ (if (((sIx items.size 0 lo : Nat) : Int) == 0 && (1 : Int) == 1 && (sIx items.size items.size hi - sIx items.size 0 lo) == items.size) = true then _ else _) _ _ s
 rw [if_neg hno, pick_gen]
 first
   | exact wpAny_bind (m := Builtin.Tuple.tupleExact _) (wpAny_newObj_type (wpAny_pure ⟨_, rfl, wpAny_pure h⟩) htake)
   | exact wpAny_bind (m := Builtin.Tuple.tupleExact _) (wpAny_newObj_type (wpAny_bind (wpAny_pure (wpAny_pure ⟨_, rfl, wpAny_pure h⟩))) htake)
   | exact wpAny_bind (wpAny_bind (m := Builtin.Tuple.tupleExact _) (wpAny_newObj_type (wpAny_pure (wpAny_pure ⟨_, rfl, wpAny_pure h⟩)) htake))
   | exact wpAny_bind (wpAny_bind (m := Builtin.Tuple.tupleExact _) (wpAny_newObj_type (wpAny_pure ⟨_, rfl, wpAny_pure h⟩) htake))
end
end HT
namespace L2
open PySem PySem.Spec PyProof.Rows
noncomputable abbrev TO := St → Hp → (Option Int → Hp → Prop) → Prop
def PO (X : Cx) (e : Option Expr) (t : TO) : Prop :=
 ∀ (pins : List (Addr × Obj)) (s : Shared) (σ : St) (H : Hp) (Q : Option Int → Hp → Prop), Inv X pins σ H s → t σ H Q →
   wpAny (model X.prog X.w) X.A (evalPart e X.env) (fun u s' => ∃ o H', Inv X pins σ H' s' ∧ IsPart u o ∧ Q o H') X.xe s
noncomputable def tNoPart : TO := fun _ H Q => Q none H
noncomputable def tPart (t : TE) : TO := fun σ H Q => t σ H fun x H1 => ∃ i, x = .int i ∧ Q (some i) H1
section
variable {X : Cx} {e : Expr} {te : TE} {lo hi : Option Expr} {tl th : TO} {pos p2 : Pos}
theorem zz18 : PO X none tNoPart := by
 intro pins s σ H Q I h
 rw [evalPart_none]
 exact wpAny_pure ⟨none, H, I, .none, h⟩
theorem zz15 (h : PE X e te) : PO X (some e) (tPart te) := by
 intro pins s σ H Q I hw
 rw [evalPart_some]
 refine thn (h pins s σ H _ I hw) fun u s1 ⟨x, H1, I1, r1, q1⟩ => ?_
 obtain ⟨i, rfl, q⟩ := q1
 obtain ⟨t, rfl⟩ := r1
 exact ⟨some i, H1, I1, .int i t, q⟩
def SlR (X : Cx) (r : V → Option Int → Option Int → Hp → VK → Prop) : Prop :=
 ∀ (pins : List (Addr × Obj)) (s : Shared) (σ : St) (H : Hp) (x : V) (v vl vu : Value) (lo hi : Option Int) (sl : Addr) (Q : VK), Inv X pins σ H s → RelV x v → s.heap.IsSliceOf sl vl vu .none → IsPart vl lo → IsPart vu hi → r x lo hi H Q →
   ∃ T id, typeLookup (.type T) "__getitem__" = pure (some (.builtin id)) ∧ s.TypeIs v T ∧ wpAny (model X.prog X.w) X.A (getItem v (.ref sl)) (EP X pins σ Q) X.xe s
theorem SlR.or {r r' : V → Option Int → Option Int → Hp → VK → Prop} (h : SlR X r) (h' : SlR X r') : SlR X (fun x lo hi H Q => r x lo hi H Q ∨ r' x lo hi H Q) := by
 intro pins s σ H x v vl vu lo hi sl Q I rx hs pl pu q
 rcases q with q | q
 · exact h pins s σ H x v vl vu lo hi sl Q I rx hs pl pu q
 · exact h' pins s σ H x v vl vu lo hi sl Q I rx hs pl pu q
def tSl (r : V → Option Int → Option Int → Hp → VK → Prop) (te : TE) (tl th : TO) : TE := fun σ H Q => te σ H fun x H1 => tl σ H1 fun l H2 => th σ H2 fun u H3 => r x l u H3 Q
theorem zz13 {r : V → Option Int → Option Int → Hp → VK → Prop} (hr : SlR X r) (he : PE X e te) (hl : PO X lo tl) (hu : PO X hi th) : PE X (.Subscript e (.Slice lo hi none p2) pos) (tSl r te tl th) := by
 intro pins s σ H Q I h
 refine Subscript_ (thn (he pins s σ H _ I h) fun v s1 ⟨x, H1, I1, r1, q1⟩ => ?_)
 refine wpAny_Slice (thn (hl pins s1 σ H1 _ I1 q1) fun vl s2 ⟨l, H2, I2, pl, q2⟩ => thn (hu pins s2 σ H2 _ I2 q2) fun vu s3 ⟨u, H3, I3, pu, q3⟩ => ?_)
 rw [evalPart_none]
 refine wpAny_pure ?_
 have I4 : Inv X pins σ H3 { s3 with heap := s3.heap.push { cls := .type "slice", data := .fields #[vl, vu, .none] } } := I3.kept (t' := s3.toks) fun b ob q => Heap.get?_push_of_some _ q
 obtain ⟨T, id, hT, ht, hg⟩ := hr pins { s3 with heap := s3.heap.push { cls := .type "slice", data := .fields #[vl, vu, .none] } } σ H3 x v vl vu l u s3.heap.objs.size Q I4 r1 (Heap.IsSliceOf.new ..) pl pu q3
 show wpAny (model X.prog X.w) X.A (subscriptTail e (.Slice lo hi none p2) v (.ref s3.heap.objs.size)) (EP X pins σ Q) X.xe { s3 with heap := s3.heap.push { cls := .type "slice", data := .fields #[vl, vu, .none] } }
 exact tail_any (ops := [.ref s3.heap.objs.size, v]) ht hT hg (by with_unfolding_all rfl)
noncomputable def cutV (xs : List V) (lo hi : Option Int) : List V := (xs.drop (HT.sIx xs.length 0 lo)).take (HT.sIx xs.length xs.length hi - HT.sIx xs.length 0 lo)
theorem zz16 (xs : List V) (lo hi : Option Int) : (cutV xs lo hi).length ≤ xs.length := by
 unfold cutV
 rw [List.length_take, List.length_drop]
 omega
noncomputable def rSlT (K : PySem.W.Frag) : V → Option Int → Option Int → Hp → VK → Prop := fun x lo hi H Q => ∃ a xs, x = .ref a ∧ SqT K H a xs ∧
 ¬ (HT.sIx xs.length 0 lo = 0 ∧ HT.sIx xs.length xs.length hi = xs.length) ∧ ∀ p, H p = none → Q (.ref p) (upd H p (.tup (cutV xs lo hi)))
theorem sl_tup : SlR X (rSlT X.K) := by
 intro pins s σ H x v vl vu lo hi sl Q I rx hs pl pu h
 obtain ⟨a, xs, rfl, hx, hw, q⟩ := h
 cases rx
 obtain ⟨its, r, ht, hz⟩ := I.tuple hx
 have hlen : its.toArray.size = xs.length := by rw [List.size_toArray]; exact r.length.symm
 refine ⟨"tuple", _, PyProof.Rows.slot_tuple_getitem.lookup, ht.typeIs, ?_⟩
 refine HT.getItem_tuple_cut ht hs pl pu (by rw [hlen]; exact hw) ?_ (by rw [hlen]; exact hz)
 rw [hlen]
 refine ⟨.ref s.heap.objs.size, _, I.laid (t' := s.toks) (o := .tup (cutV xs lo hi)) (fun b ob q => Heap.get?_push_of_some _ q) (Nat.le_refl _) ?_, rfl, q _ (I.hok.fresh (Nat.le_refl _))⟩
 exact ⟨Nat.le_trans (zz16 xs lo hi) hz, _, (r.drop (HT.sIx xs.length 0 lo)).take (HT.sIx xs.length xs.length hi - HT.sIx xs.length 0 lo), IsTup.new _ _⟩
def rCatT (K : PySem.W.Frag) : R2 := fun x y H Q => ∃ a b xs ys, x = .ref a ∧ y = .ref b ∧ SqT K H a xs ∧ SqT K H b ys ∧ xs ≠ [] ∧ xs.length + ys.length ≤ sizeLine ∧
 (ys = [] → Q (.ref a) H) ∧ (ys ≠ [] → ∀ p, H p = none → Q (.ref p) (upd H p (.tup (xs ++ ys))))
end
end L2
namespace L2
open PySem PySem.Spec PyProof.Rows
noncomputable def ixN (n : Nat) (i : Int) : Option Nat := if 0 ≤ i then (if i < n then some i.toNat else none) else if -(n : Int) ≤ i then some (i + n).toNat else none
noncomputable def atI {α : Type} (xs : List α) (i : Int) : Option α := (ixN xs.length i).bind fun j => xs[j]?
theorem ixN_seq {n : Nat} {i : Int} {j : Nat} (h : ixN n i = some j) : seqIndex? i n = some j ∧ j < n ∧ -(n : Int) ≤ i ∧ i < n := by
 unfold ixN at h
 by_cases h0 : 0 ≤ i
 · rw [if_pos h0] at h
   by_cases h1 : i < n
   · rw [if_pos h1] at h
     have e : i.toNat = j := Option.some.inj h
     exact ⟨by rw [seqIndex_of h0 h1, e], by omega, by omega, h1⟩
   · rw [if_neg h1] at h; cases h
 · rw [if_neg h0] at h
   by_cases h1 : -(n : Int) ≤ i
   · rw [if_pos h1] at h
     have e : (i + n).toNat = j := Option.some.inj h
     exact ⟨by rw [seqIndex_neg (by omega) h1, e], by omega, h1, by omega⟩
   · rw [if_neg h1] at h; cases h
theorem atI_get {α : Type} {xs : List α} {i : Int} {v : α} (h : atI xs i = some v) : ∃ j, seqIndex? i xs.length = some j ∧ xs[j]? = some v ∧ j < xs.length ∧ -(xs.length : Int) ≤ i ∧ i < xs.length := by
 unfold atI at h
 cases e : ixN xs.length i with
 | none => rw [e] at h; cases h
 | some j =>
   rw [e] at h
   obtain ⟨h1, h2, h3, h4⟩ := ixN_seq e
   exact ⟨j, h1, h, h2, h3, h4⟩
theorem atI_nat {α : Type} {xs : List α} {j : Nat} {v : α} (h : xs[j]? = some v) : atI xs (j : Int) = some v := by
 have hj : j < xs.length := (List.getElem?_eq_some_iff.mp h).1
 have e : ixN xs.length (j : Int) = some j := by
   unfold ixN
   rw [if_pos (by omega), if_pos (by omega)]; simp
 unfold atI; rw [e]; exact h
theorem atI_last {α : Type} (xs : List α) (v : α) : atI (xs ++ [v]) (-1) = some v := by
 have hl : (xs ++ [v]).length = xs.length + 1 := by simp
 have e : ixN (xs ++ [v]).length (-1) = some xs.length := by
   unfold ixN
   rw [hl, if_neg (by decide), if_pos (by omega)]
   congr 1
   omega
 unfold atI
 rw [e]
 show (xs ++ [v])[xs.length]? = some v
 simp
def PlainIx (b : Expr) : Prop := ∀ o i, subscripted b false o i = operate [o, i] (getItem o i)
def IxR (X : Cx) (r : R2) : Prop :=
 ∀ (value slice : Expr) (pins : List (Addr × Obj)) (s : Shared) (σ : St) (H : Hp) (x y : V) (v u : Value) (Q : VK), Inv X pins σ H s → RelV x v → RelV y u → r x y H Q →
   subscripted slice false v u = operate [v, u] (getItem v u) → wpAny (model X.prog X.w) X.A (subscriptTail value slice v u) (EP X pins σ Q) X.xe s
def MtR (X : Cx) (id : String) (r : V → List V → Hp → VK → Prop) : Prop :=
 ∀ (pins : List (Addr × Obj)) (s : Shared) (σ : St) (H : Hp) (x : V) (xs : List V) (v : Value) (us : List Value) (Q : VK), Inv X pins σ H s → RelV x v → Vals xs us → r x xs H Q →
   wpAny (model X.prog X.w) X.A (call (.builtin id) (v :: us)) (EP X pins σ Q) X.xe s
section
variable {X : Cx} {a b : Expr} {ta tb : TE} {pos : Pos}
theorem pe_ix {r : R2} (hr : IxR X r) (ha : PE X a ta) (hb : PE X b tb) (hs : PlainIx b) : PE X (.Subscript a b pos) (tOp r ta tb) := by
 intro pins s σ H Q I h
 exact Subscript_ (binT ha hb I h fun v u s2 x y H2 I2 rx ry q => hr a b pins s2 σ H2 x y v u Q I2 rx ry q (hs _ _))
def rIxL (K : PySem.W.Frag) : R2 := fun x y H Q => ∃ p xs i v, x = .ref p ∧ y = .int i ∧ SqL K H p xs ∧ atI xs i = some v ∧ Q v H
def rIxT (K : PySem.W.Frag) : R2 := fun x y H Q => ∃ p xs i v, x = .ref p ∧ y = .int i ∧ SqT K H p xs ∧ atI xs i = some v ∧ Q v H
def rIxS : R2 := fun x y H Q => ∃ z i c, x = .str z ∧ y = .int i ∧ z.length ≤ sizeLine ∧ atI z.cps.toList i = some c ∧ Q (.str ⟨#[c]⟩) H
theorem ix_list : IxR X (rIxL X.K) := by
 intro value slice pins s σ H x y v u Q I rx ry h hs
 obtain ⟨p, xs, i, z, rfl, rfl, hq, he, q⟩ := h
 cases rx
 obtain ⟨t, rfl⟩ := ry
 obtain ⟨its, r, pl, hz⟩ := I.list hq
 obtain ⟨j, h1, h2, h3, h4, h5⟩ := atI_get he
 obtain ⟨w, ew, rw'⟩ := r.get h2
 have hl := r.length
 have hn := line63
 have fin : EP X pins σ Q w s := ⟨z, H, I, rw', q⟩
 by_cases h0 : 0 ≤ i
 · have hj : i.toNat = j := by
     rw [seqIndex_of h0 h5] at h1
     exact Option.some.inj h1
   exact item_listR pl.isList h0 (by omega) (by rw [hj]; simpa using ew) fin hs
 · have hj : (i + (its.toArray.size : Int)).toNat = j := by
     rw [seqIndex_neg (by omega) h4] at h1
     rw [List.size_toArray, ← hl]
     exact Option.some.inj h1
   exact subscriptTail_builtinR (x := w) pl.isList.typeIs slot_list_getitem.lookup
     (wpAny_getItem_list_neg (Q := fun r s' => r = w ∧ EP X pins σ Q r s') pl.isList (by omega) (by rw [List.size_toArray] <;> omega) (by omega) (by rw [hj]; simpa using ew) ⟨rfl, fin⟩) hs
theorem ix_tup : IxR X (rIxT X.K) := by
 intro value slice pins s σ H x y v u Q I rx ry h hs
 obtain ⟨p, xs, i, z, rfl, rfl, hq, he, q⟩ := h
 cases rx
 obtain ⟨t, rfl⟩ := ry
 obtain ⟨its, r, pl, hz⟩ := I.tuple hq
 obtain ⟨j, h1, h2, h3, h4, h5⟩ := atI_get he
 obtain ⟨w, ew, rw'⟩ := r.get h2
 have hl := r.length
 have hn := line63
 have fin : EP X pins σ Q w s := ⟨z, H, I, rw', q⟩
 exact subscriptTail_builtinR (x := w) pl.typeIs slot_tuple_getitem.lookup
   (getItem_tuple (j := j) (Q := fun r s' => r = w ∧ EP X pins σ Q r s') pl (by omega) (by omega) (by rw [List.size_toArray, ← hl]; exact h1) (by simpa using ew) ⟨rfl, fin⟩) hs
theorem ix_str : IxR X rIxS := by
 intro value slice pins s σ H x y v u Q I rx ry h hs
 obtain ⟨z, i, c, rfl, rfl, hz, he, q⟩ := h
 obtain ⟨t, rfl⟩ := rx
 obtain ⟨t', rfl⟩ := ry
 obtain ⟨j, h1, h2, h3, h4, h5⟩ := atI_get he
 have hl : z.cps.toList.length = z.length := by simp [Str.length]
 rw [hl] at h1 h4 h5
 have hn := line63
 exact tail_any (typeIs_str s z t) slot_str_getitem.lookup (getItem_str (c := c) (by
   have e1 : decide (i < -(2 ^ 63 : Int)) = false := decide_eq_false (by omega)
   have e2 : decide (i ≥ 2 ^ 63) = false := decide_eq_false (by omega)
   rw [e1, e2, Bool.or_false]) (by rw [h1]; simpa using h2) ⟨.str ⟨#[c]⟩, H, I.tok _, ⟨_, rfl⟩, q⟩) hs
noncomputable def rSetL : V → V → V → Hp → (Hp → Prop) → Prop := fun o i v H Q => ∃ p xs k j, o = .ref p ∧ i = .int k ∧ H p = some (.lst xs) ∧ ixN xs.length k = some j ∧ Q (upd H p (.lst (xs.set j v)))
theorem slice_bounds (lo hi : Option Int) (n : Nat) : (sliceBounds lo hi none n).1 = ((HT.sIx n 0 lo : Nat) : Int) ∧ (sliceBounds lo hi none n).2.1 = ((HT.sIx n n hi : Nat) : Int) ∧ (sliceBounds lo hi none n).2.2 = 1 := by
 refine ⟨?_, ?_, rfl⟩
 · cases lo with
   | none => simp [sliceBounds, HT.sIx]
   | some i =>
     simp only [sliceBounds, HT.sIx, Option.getD_none, show (1 : Int) > 0 by decide, if_true]
     by_cases h : i < 0
     · simp only [h, if_true] <;> omega
     · simp only [h, if_false] <;> omega
 · cases hi with
   | none => simp [sliceBounds, HT.sIx]
   | some i =>
     simp only [sliceBounds, HT.sIx, Option.getD_none, show (1 : Int) > 0 by decide, if_true]
     by_cases h : i < 0
     · simp only [h, if_true] <;> omega
     · simp only [h, if_false] <;> omega
theorem slicePick_cut (its : List Value) (lo hi : Option Int) : slicePick its.toArray lo hi none = ((its.drop (HT.sIx its.length 0 lo)).take (HT.sIx its.length its.length hi - HT.sIx its.length 0 lo)).toArray := by
 obtain ⟨h1, h2, h3⟩ := slice_bounds lo hi its.toArray.size
 unfold slicePick
 rw [h1, h2, h3]
 simp only [sliceRange_one, pick_run, List.size_toArray] <;> rfl
noncomputable def rSlL (K : PySem.W.Frag) : V → Option Int → Option Int → Hp → VK → Prop := fun x lo hi H Q => ∃ a xs, x = .ref a ∧ SqL K H a xs ∧ ∀ p, H p = none → Q (.ref p) (upd H p (.lst (cutV xs lo hi)))
theorem sl_list : SlR X (rSlL X.K) := by
 intro pins s σ H x v vl vu lo hi sl Q I rx hs pl pu h
 obtain ⟨a, xs, rfl, hx, q⟩ := h
 cases rx
 obtain ⟨its, r, ht, hz⟩ := I.list hx
 have hlen := r.length
 refine ⟨"list", _, slot_list_getitem.lookup, ht.isList.typeIs, ?_⟩
 refine wpAny_getItem_list_slice ht.isList hs pl pu .none (by simp) ?_ (by rw [List.size_toArray] <;> omega)
 rw [slicePick_cut, ← hlen]
 refine ⟨.ref s.heap.objs.size, _, I.laid (t' := s.toks) (o := .lst (cutV xs lo hi)) (fun b ob q => Heap.get?_push_of_some _ q) (Nat.le_refl _) ?_, rfl, q _ (I.hok.fresh (Nat.le_refl _))⟩
 exact ⟨Nat.le_trans (zz16 xs lo hi) hz, _, 0, (r.drop (HT.sIx xs.length 0 lo)).take (HT.sIx xs.length xs.length hi - HT.sIx xs.length 0 lo), Heap.get?_push_size _ rfl⟩
noncomputable def flatV : V → Bool
 | .non => true
 | .bl _ => true
 | .int _ => true
 | .str _ => true
 | _ => false
noncomputable def eqV : V → V → Bool
 | .non, .non => true
 | .bl a, .bl b => a == b
 | .bl a, .int b => (if a then 1 else 0) == b
 | .int a, .bl b => a == (if b then 1 else 0)
 | .int a, .int b => a == b
 | .str a, .str b => a == b
 | _, _ => false
theorem eqAt_V {A : Around} {s : Shared} {y x : V} {u v : Value} (ry : RelV y u) (rx : RelV x v) (fy : flatV y = true) (fx : flatV x = true) : SeqAt.EqAt A s u v (eqV y x) := by
 cases y with
 | non =>
   cases ry
   cases x with
   | non => cases rx; exact SeqAt.EqAt.same _
   | bl b => cases rx; exact SeqAt.EqAt.none_bool b
   | int b => obtain ⟨t, rfl⟩ := rx; exact SeqAt.EqAt.none_int b t
   | str b => obtain ⟨t, rfl⟩ := rx; exact SeqAt.EqAt.none_str b t
   | _ => exact absurd (show false = true from fx) Bool.false_ne_true
 | bl a =>
   cases ry
   cases x with
   | non => cases rx; exact SeqAt.EqAt.bool_none a
   | bl b => cases rx; exact SeqAt.EqAt.bool_bool a b
   | int b => obtain ⟨t, rfl⟩ := rx; exact SeqAt.EqAt.bool_int a b t
   | str b => obtain ⟨t, rfl⟩ := rx; exact SeqAt.EqAt.bool_str a b t
   | _ => exact absurd (show false = true from fx) Bool.false_ne_true
 | int a =>
   obtain ⟨t', rfl⟩ := ry
   cases x with
   | non => cases rx; exact SeqAt.EqAt.int_none a t'
   | bl b => cases rx; exact SeqAt.EqAt.int_bool a t' b
   | int b => obtain ⟨t, rfl⟩ := rx; exact SeqAt.EqAt.int_int a t' b t
   | str b => obtain ⟨t, rfl⟩ := rx; exact SeqAt.EqAt.int_str a t' b t
   | _ => exact absurd (show false = true from fx) Bool.false_ne_true
 | str a =>
   obtain ⟨t', rfl⟩ := ry
   cases x with
   | non => cases rx; exact SeqAt.EqAt.str_none a t'
   | bl b => cases rx; exact SeqAt.EqAt.str_bool a t' b
   | int b => obtain ⟨t, rfl⟩ := rx; exact SeqAt.EqAt.str_int a t' b t
   | str b => obtain ⟨t, rfl⟩ := rx; exact SeqAt.EqAt.str_str a t' b t
   | _ => exact absurd (show false = true from fx) Bool.false_ne_true
 | _ => exact absurd (show false = true from fy) Bool.false_ne_true
noncomputable def eqU (x : V) (u : Value) : Bool := match u with
 | .none => eqV .non x
 | .bool b => eqV (.bl b) x
 | .int i _ => eqV (.int i) x
 | .str z _ => eqV (.str z) x
 | _ => false
theorem eqU_of {x y : V} {u : Value} (r : RelV y u) (f : flatV y = true) : eqU x u = eqV y x := by
 cases y with
 | non => cases r; rfl
 | bl b => cases r; rfl
 | int i => obtain ⟨t, rfl⟩ := r; rfl
 | str z => obtain ⟨t, rfl⟩ := r; rfl
 | _ => exact absurd (show false = true from f) Bool.false_ne_true
theorem any_eqU {x : V} : ∀ {xs : List V} {us : List Value}, Vals xs us → xs.all flatV = true → us.any (eqU x) = xs.any fun y => eqV y x
 | _, _, .nil, _ => rfl
 | y :: xs, u :: us, .cons r t, f => by
   rw [List.all_cons, Bool.and_eq_true] at f
   rw [List.any_cons, List.any_cons, eqU_of r f.1, any_eqU t f.2]
theorem mem_eqAt {A : Around} {s : Shared} {x : V} {v : Value} (rx : RelV x v) (fx : flatV x = true) : ∀ {xs : List V} {us : List Value}, Vals xs us → xs.all flatV = true → ∀ u ∈ us, SeqAt.EqAt A s u v (eqU x u)
 | _, _, .nil, _ => fun u hu => by cases hu
 | y :: xs, u :: us, .cons r t, f => fun u' hu => by
   rw [List.all_cons, Bool.and_eq_true] at f
   rcases List.mem_cons.mp hu with rfl | hu
   · rw [eqU_of r f.1]; exact eqAt_V r rx f.1 fx
   · exact mem_eqAt rx fx t f.2 u' hu
noncomputable def inV (x : V) (xs : List V) : Bool := xs.any fun y => eqV y x
def rIn (K : PySem.W.Frag) (neg : Bool) : R2 := fun x y H Q => ∃ p xs, y = .ref p ∧ (SqL K H p xs ∨ SqT K H p xs) ∧ flatV x = true ∧ xs.all flatV = true ∧ Q (.bl (if neg then !inV x xs else inV x xs)) H
theorem op_notIn_seq : OpR X (compareOp .NotIn) (rIn X.K true) := by
 intro pins s σ H x y v u Q I rx ry h
 obtain ⟨p, xs, rfl, hq, fx, fs, q⟩ := h
 cases ry
 rcases hq with hq | hq
 · obtain ⟨its, r, pl, hz⟩ := I.list hq
   refine SeqAt.notIn_listAt (eqU x) pl.isList (fun w hw => mem_eqAt rx fx r fs w (by simpa using hw)) ⟨.bl _, H, I, rfl, ?_⟩
   rw [show its.toArray.any (eqU x) = its.any (eqU x) by simp, any_eqU r fs]
   exact q
 · obtain ⟨its, r, pl, hz⟩ := I.tuple hq
   refine SeqAt.notIn_tupleAt (eqU x) pl (fun w hw => mem_eqAt rx fx r fs w (by simpa using hw)) ⟨.bl _, H, I, rfl, ?_⟩
   rw [show its.toArray.any (eqU x) = its.any (eqU x) by simp, any_eqU r fs]
   exact q
def tyV (K : PySem.W.Frag) (T : String) (x : V) (H : Hp) : Prop := match x with
 | .str _ => T = "str"
 | .int _ => T = "int"
 | .ref p => (T = "list" ∧ ∃ xs, SqL K H p xs) ∨ (T = "tuple" ∧ ∃ o, K.lookup p = some o ∧ o.cls = .type "tuple" ∧ o.dict = none) ∨
     (T = "dict" ∧ ((∃ kvs, H p = some (.dK kvs)) ∨ ∃ kvs, H p = some (.dT kvs))) ∨ (T = "set" ∧ ∃ S n, H p = some (.set S n))
 | _ => False
theorem tyV_is {pins : List (Addr × Obj)} {σ : St} {H : Hp} {s : Shared} {T : String} {x : V} {v : Value} (I : Inv X pins σ H s) (r : RelV x v) (ty : tyV X.K T x H) :
   s.TypeIs v T ∧ ∀ a, v = .ref a → ∃ ob, s.heap.get? a = some ob ∧ ob.dict = none := by
 cases x with
 | str z =>
   obtain ⟨t, rfl⟩ := r
   cases (show T = "str" from ty)
   exact ⟨typeIs_str s z t, fun _ e => nomatch e⟩
 | int i =>
   obtain ⟨t, rfl⟩ := r
   cases (show T = "int" from ty)
   exact ⟨typeIs_int s i t, fun _ e => nomatch e⟩
 | ref p =>
   cases r
   rcases ty with ⟨rfl, xs, hq⟩ | ⟨rfl, o, hk, hc, hd⟩ | ⟨rfl, hk⟩ | ⟨rfl, S, n, hk⟩
   · obtain ⟨its, _, pl, _⟩ := I.list hq
     refine ⟨pl.isList.typeIs, fun a e => ?_⟩
     cases e
     obtain ⟨o, n, e, c, hd, _⟩ := pl
     exact ⟨o, e, hd⟩
   · refine ⟨⟨o, I.kIn p o hk, hc⟩, fun a e => ?_⟩
     cases e
     exact ⟨o, I.kIn _ o hk, hd⟩
   · have z : ∃ o, s.heap.get? p = some o ∧ o.ExactDict := by
       rcases hk with ⟨kvs, hk⟩ | ⟨kvs, hk⟩
       · obtain ⟨_, _, _, _, o, _, _, e, ex, _⟩ := I.hok p _ hk
         exact ⟨o, e, ex⟩
       · obtain ⟨_, _, _, _, o, _, _, e, ex, _⟩ := I.hok p _ hk
         exact ⟨o, e, ex⟩
     obtain ⟨o, e, ex⟩ := z
     refine ⟨⟨o, e, ex.1⟩, fun a e2 => ?_⟩
     cases e2
     exact ⟨o, e, ex.2.1⟩
   · obtain ⟨o, _, _, _, e, ex, _⟩ := I.hok p _ hk
     refine ⟨⟨o, e, ex.1⟩, fun a e2 => ?_⟩
     cases e2
     exact ⟨o, e, ex.2.1⟩
 | _ => exact False.elim ty
def tBM0 (K : PySem.W.Frag) (T : String) (r : V → List V → Hp → VK → Prop) (to : TE) : TE := fun σ H Q => to σ H fun x H1 => tyV K T x H1 ∧ r x [] H1 Q
def tBM (K : PySem.W.Frag) (T : String) (r : V → List V → Hp → VK → Prop) (to : TE) (t : TA) : TE := fun σ H Q => to σ H fun x H1 => tyV K T x H1 ∧ t σ H1 fun xs H2 => r x xs H2 Q
variable {o e : Expr} {es : List Expr} {to : TE} {t : TA} {name : Str} {apos cpos : Pos} {T id : String} {r : V → List V → Hp → VK → Prop}
theorem pe_bm (pa : PlainAttrs T) (slot : Slot T name id) (hty : typeOf (.builtin id) = pure (.type "method_descriptor")) (hm : MtR X id r) (ho : PE X o to) (ha : PA X (e :: es) t)
   (hbase : attributeBase o name X.env (eval o X.env) = eval o X.env := by rfl)
   (hfew : ((backTo cpos (starEach (e :: es) X.env)).all (fun x => !x.1) && (backToKw cpos (keywordEach [] X.env)).all (fun x => x.1.isSome)
     && decide ((e :: es).length + ([] : List Keyword).length + (if ([] : List Keyword).isEmpty then 0 else 1) < 30)) = true := by rfl)
   (hline : (apos.endLine == cpos.line) = true := by rfl) (hs : starEach (e :: es) X.env = (false, eval e X.env) :: starEach es X.env := by rfl) (hplain : (backTo cpos (starEach es X.env)).any (·.1) = false := by rfl) :
   PE X (.Call (.Attribute o name apos) (e :: es) [] cpos) (tBM X.K T r to t) := by
 intro pins s σ H Q I h
 refine wpAny_Call_method_late hbase hfew hline rfl (thn (ho pins s σ H _ I h) fun v s1 ⟨x, H1, I1, r1, ty, q1⟩ => ?_)
 obtain ⟨h1, h2⟩ := tyV_is I1 r1 ty
 refine ⟨T, id, pa, slot, hty, h1, h2, ?_⟩
 have hA := ha cpos pins s1 σ H1 _ I1 q1
 rw [hs] at hA ⊢
 refine Calls.callWith_builtin (by show (false || (backTo cpos (starEach es X.env)).any (·.1)) = false; rw [hplain] <;> rfl) (Calls.evalArgs_plain ?_)
 exact thn hA fun us s2 ⟨vs, H2, I2, r2, q2⟩ => hm pins s2 σ H2 x vs v us Q I2 r1 r2 q2
/- xs.append(e), list.index on a module's tuple .. are MtR facts of 06m -/
end
end L2
namespace L2
open PySem PySem.Spec PyProof.Rows
def MtM (X : Cx) (id : String) (r : V → List V → Hp → VK → Prop) : Prop :=
 ∀ (pins : List (Addr × Obj)) (s : Shared) (σ : St) (H : Hp) (x : V) (xs : List V) (v : Value) (us : List Value) (Q : VK), Inv X pins σ H s → RelV x v → Vals xs us → r x xs H Q →
   wpAny (model X.prog X.w) X.A (call (.builtin id) (v :: us)) (EP X pins σ Q) X.xe s
theorem Vals.one : ∀ {x : V} {us : List Value}, Vals [x] us → ∃ u, us = [u] ∧ RelV x u
 | _, _, .cons r .nil => ⟨_, rfl, r⟩
section
variable {X : Cx} {pins : List (Addr × Obj)} {σ : St} {H : Hp} {s : Shared} {l b : Addr} {xs ys zs : List V}
theorem Inv.lset {its its' : List Value} {n : Nat} {f : Array Value → Array Value} {t' : Nat} (I : Inv X pins σ H s) (hH : H l = some (.lst xs))
   (e : s.heap.get? l = some { cls := .type "list", data := .seq its.toArray n }) (hf : f its.toArray = its'.toArray) (hv : Vals ys its') (hz : ys.length ≤ sizeLine) :
   Inv X pins σ (upd H l (.lst ys)) { s with heap := s.heap.update l (Obj.mapSeq f), toks := t' } := by
 have q := PySem.IsL.update e f
 rw [hf] at q
 refine I.write (x := l) (e := l) (by rw [hH]; exact trivial) (.inl rfl) (fun b' u hb hu => (Heap.get?_update_other s.heap (Obj.mapSeq f) (Ne.symm hb)).trans hu) ⟨_, q⟩ ?_
 exact ⟨hz, its', _, hv, q⟩
theorem Inv.lnew {its : List Value} {t' : Nat} (I : Inv X pins σ H s) (hv : Vals ys its) (hz : ys.length ≤ sizeLine) :
   Inv X pins σ (upd H s.heap.objs.size (.lst ys)) { s with heap := s.heap.push { cls := .type "list", data := .seq its.toArray }, toks := t' } :=
 I.laid (fun _ _ q => Heap.get?_push_of_some _ q) (Nat.le_refl _) ⟨hz, its, 0, hv, Heap.get?_push_size _ rfl⟩
theorem Inv.fresh (I : Inv X pins σ H s) : H s.heap.objs.size = none := I.hok.fresh (Nat.le_refl _)
theorem Inv.lstM (I : Inv X pins σ H s) (hH : H l = some (.lst xs)) : xs.length ≤ sizeLine ∧ ∃ (its : List Value) (n : Nat), Vals xs its ∧ xs.length = its.length ∧ s.heap.get? l = some { cls := .type "list", data := .seq its.toArray n } := by
 obtain ⟨z, its, n, r, e⟩ := I.hok l _ hH
 exact ⟨z, its, n, r, r.length, e⟩
theorem notLongL {n : Nat} (h : n ≤ sizeLine) : Builtin.List.listTooLong n = false := by
 unfold Builtin.List.listTooLong
 exact decide_eq_false (by omega)
end
section
variable {X : Cx}
noncomputable def rAppend : V → List V → Hp → VK → Prop := fun x vs H Q => ∃ l xs y, x = .ref l ∧ vs = [y] ∧ H l = some (.lst xs) ∧ xs.length < sizeLine ∧ Q .non (upd H l (.lst (xs ++ [y])))
theorem mt_append : MtM X "list.append" rAppend := by
 intro pins s σ H x vs v us Q I rx rv h
 obtain ⟨l, xs, y, rfl, rfl, hH, hz, q⟩ := h
 cases rx
 obtain ⟨u, rfl, ru⟩ := rv.one
 obtain ⟨z, its, n, r, hl, e⟩ := I.lstM hH
 refine call_meets F.slot_list_append ⟨_, e, rfl⟩ F.entry_list_append (F.args_list_append_2 _ _) (PySem.list_append l its.toArray n u (by rw [List.size_toArray]; omega)) ⟨e, ?_⟩
 refine ⟨.non, _, I.lset (its' := its ++ [u]) hH e (by simp) (r.append (.cons ru .nil)) ?_, rfl, q⟩
 rw [List.length_append, List.length_singleton]
 omega
noncomputable def rExtend : V → List V → Hp → VK → Prop := fun x vs H Q => ∃ l b xs zs, x = .ref l ∧ vs = [.ref b] ∧ H l = some (.lst xs) ∧ H b = some (.lst zs) ∧ xs.length + zs.length ≤ sizeLine ∧ Q .non (upd H l (.lst (xs ++ zs)))
theorem mt_extend : MtM X "list.extend" rExtend := by
 intro pins s σ H x vs v us Q I rx rv h
 obtain ⟨l, b, xs, zs, rfl, rfl, hH, hB, hz, q⟩ := h
 cases rx
 obtain ⟨u, rfl, ru⟩ := rv.one
 cases ru
 obtain ⟨z, its, n, r, hl, e⟩ := I.lstM hH
 obtain ⟨z2, its2, n2, r2, hl2, e2⟩ := I.lstM hB
 have hsz : its.toArray.size + its2.toArray.size ≤ sizeLine := by rw [List.size_toArray, List.size_toArray]; omega
 have hlong : ¬ (!its.toArray.isEmpty && Builtin.List.listTooLong (its.toArray.size + its2.toArray.size)) = true := by
   rw [notLongL hsz, Bool.and_false]
   exact Bool.false_ne_true
 refine call_meets F.slot_list_extend ⟨_, e, rfl⟩ F.entry_list_extend (F.args_list_extend_2 _ _)
   (AutoSeq1.list_extend_list_list_0 l its.toArray n b its2.toArray n2 hlong (by rw [List.size_toArray]; omega) (by omega)) ⟨e, e2, ?_⟩
 refine ⟨.non, _, I.lset (its' := its ++ its2) hH e (by simp) (r.append r2) ?_, rfl, q⟩
 rw [List.length_append]
 omega
noncomputable def rClear : V → List V → Hp → VK → Prop := fun x vs H Q => ∃ l xs, x = .ref l ∧ vs = [] ∧ H l = some (.lst xs) ∧ Q .non (upd H l (.lst []))
end
section
variable {prog : Program} {w : World} {A : Around} {E : Value → Shared → Prop} {s : Shared}
set_option maxRecDepth 100000 in
end
section
variable {X : Cx}
end
end L2
namespace L2
open PySem PySem.Spec PyProof.Rows
section
variable {κ : Type} [DecidableEq κ]
noncomputable def valV (kvs : List (κ × V)) (k : κ) : Option V := (kvs.find? fun kv => decide (kv.1 = k)).map (·.2)
noncomputable def putK (kvs : List (κ × V)) (k : κ) (v : V) : List (κ × V) :=
 if (kvs.any fun kv => decide (kv.1 = k)) = true then kvs.map (fun kv => if kv.1 = k then (kv.1, v) else kv) else kvs ++ [(k, v)]
theorem valV_pos {p : κ × V} {r : List (κ × V)} {k : κ} (e : p.1 = k) : valV (p :: r) k = some p.2 := by simp [valV, List.find?_cons, e]
theorem valV_neg {p : κ × V} {r : List (κ × V)} {k : κ} (e : ¬ p.1 = k) : valV (p :: r) k = valV r k := by simp [valV, List.find?_cons, e]
theorem valV_any (k : κ) : ∀ kvs : List (κ × V), (kvs.any fun kv => decide (kv.1 = k)) = (valV kvs k).isSome
 | [] => rfl
 | p :: r => by
   rw [List.any_cons]
   by_cases e : p.1 = k
   · simp only [valV_pos e, decide_eq_true e, Bool.true_or, Option.isSome_some]
   · rw [valV_neg e, decide_eq_false e, Bool.false_or]; exact valV_any k r
theorem valV_map (k j : κ) (y : V) : ∀ kvs : List (κ × V), valV (kvs.map fun kv => if kv.1 = k then (kv.1, y) else kv) j = (valV kvs j).map fun x => if j = k then y else x
 | [] => rfl
 | p :: r => by
   have ih := valV_map k j y r
   rw [List.map_cons]
   by_cases h : p.1 = k
   · rw [if_pos h]
     by_cases e : p.1 = j
     · rw [valV_pos (p := (p.1, y)) e, valV_pos e, Option.map_some, if_pos (e.symm.trans h)]
     · rw [valV_neg (p := (p.1, y)) e, valV_neg e, ih]
   · rw [if_neg h]
     by_cases e : p.1 = j
     · rw [valV_pos (p := p) e, valV_pos e, Option.map_some, if_neg (fun z => h (e.trans z))]
     · rw [valV_neg (p := p) e, valV_neg e, ih]
theorem valV_snoc (k j : κ) (y : V) : ∀ kvs : List (κ × V), valV kvs k = none → valV (kvs ++ [(k, y)]) j = if j = k then some y else valV kvs j
 | [], _ => by
   by_cases e : k = j
   · rw [if_pos e.symm]; exact valV_pos (p := (k, y)) e
   · rw [if_neg (fun z => e z.symm)]; exact valV_neg (p := (k, y)) e
 | p :: r, hn => by
   rw [List.cons_append]
   have hk : ¬ p.1 = k := fun z => by rw [valV_pos z] at hn; cases hn
   rw [valV_neg hk] at hn
   have ih := valV_snoc k j y r hn
   by_cases e : p.1 = j
   · rw [valV_pos e, valV_pos e, if_neg (fun z => hk (e.trans z))]
   · rw [valV_neg e, valV_neg e, ih]
theorem valV_put (kvs : List (κ × V)) (k j : κ) (y : V) : valV (putK kvs k y) j = if j = k then some y else valV kvs j := by
 unfold putK
 by_cases a : (kvs.any fun kv => decide (kv.1 = k)) = true
 · rw [if_pos a, valV_map]
   rw [valV_any] at a
   by_cases e : j = k
   · obtain ⟨x, hx⟩ := Option.isSome_iff_exists.mp a
     rw [if_pos e, e, hx, Option.map_some, if_pos rfl]
   · rw [if_neg e]
     cases valV kvs j with
     | none => rfl
     | some x => rw [Option.map_some, if_neg e]
 · rw [if_neg a]
   refine valV_snoc k j y kvs ?_
   rw [valV_any] at a
   cases q : valV kvs k with
   | none => rfl
   | some x => rw [q] at a; exact (a rfl).elim
theorem length_putK (kvs : List (κ × V)) (k : κ) (v : V) : (putK kvs k v).length ≤ kvs.length + 1 := by
 unfold putK
 split
 · rw [List.length_map]; omega
 · rw [List.length_append, List.length_cons, List.length_nil]; omega
theorem RelO.isSome_eq {o : Option V} {u : Option Value} (r : RelO o u) : o.isSome = u.isSome := by
 cases o with
 | none => cases u with
   | none => rfl
   | some _ => exact (show False from r).elim
 | some _ => cases u with
   | none => exact (show False from r).elim
   | some _ => rfl
theorem RelO.getD {o : Option V} {u : Option Value} {d : V} {d' : Value} (r : RelO o u) (rd : RelV d d') : RelV (o.getD d) (u.getD d') := by
 cases o with
 | none => cases u with
   | none => exact rd
   | some _ => exact (show False from r).elim
 | some _ => cases u with
   | none => exact (show False from r).elim
   | some _ => exact r
theorem KV.val {kvs : List (κ × V)} {vs : List (κ × Value)} (r : KV kvs vs) (k : κ) : RelO (valV kvs k) (valueAt vs k) := by
 unfold KV at r
 induction r with
 | nil => exact True.intro
 | @cons p q ps qs h t ih =>
   obtain ⟨h1, h2⟩ := h
   by_cases e : p.1 = k
   · have e' : q.1 = k := h1.symm.trans e
     have b : valueAt (q :: qs) k = some q.2 := by simp [valueAt, List.find?_cons, e']
     rw [valV_pos e, b]; exact h2
   · have e' : ¬ q.1 = k := fun z => e (h1.trans z)
     have b : valueAt (q :: qs) k = valueAt qs k := by simp [valueAt, List.find?_cons, e']
     rw [valV_neg e, b]; exact ih
theorem KV.any {kvs : List (κ × V)} {vs : List (κ × Value)} (r : KV kvs vs) (k : κ) : (kvs.any fun kv => decide (kv.1 = k)) = vs.any fun kv => decide (kv.1 = k) := by
 unfold KV at r
 induction r with
 | nil => rfl
 | cons h t ih => rw [List.any_cons, List.any_cons, ih, h.1]
theorem KV.repl {kvs : List (κ × V)} {vs : List (κ × Value)} (r : KV kvs vs) (k : κ) {y : V} {u : Value} (ry : RelV y u) :
   KV (kvs.map fun kv => if kv.1 = k then (kv.1, y) else kv) (vs.map fun kv => if kv.1 = k then (kv.1, u) else kv) := by
 unfold KV at r ⊢
 induction r with
 | nil => exact .nil
 | @cons p q ps qs h t ih =>
   rw [List.map_cons, List.map_cons]
   refine .cons ?_ ih
   obtain ⟨h1, h2⟩ := h
   by_cases e : p.1 = k
   · rw [if_pos e, if_pos (h1.symm.trans e)]; exact ⟨h1, ry⟩
   · rw [if_neg e, if_neg (fun z => e (h1.trans z))]; exact ⟨h1, h2⟩
theorem KV.put {kvs : List (κ × V)} {vs : List (κ × Value)} (r : KV kvs vs) (k : κ) {y : V} {u : Value} (ry : RelV y u) : KV (putK kvs k y) (stored vs k u) := by
 unfold putK stored
 rw [r.any k]
 by_cases e : (vs.any fun kv => decide (kv.1 = k)) = true
 · rw [if_pos e, if_pos e]; exact r.repl k ry
 · rw [if_neg e, if_neg e]; exact Paired.snoc r ⟨rfl, ry⟩
theorem KV.length {kvs : List (κ × V)} {vs : List (κ × Value)} (r : KV kvs vs) : kvs.length = vs.length := Paired.length r
end
theorem kV_is {P : Program} {w : World} {k : Key} {u : Value} (r : RelV (kV k) u) : (mixKind P w).is k u = true := by
 cases k with
 | inl i => obtain ⟨t, e⟩ := (show ∃ t, u = Value.int i t from r); subst e; exact mixKind_int P w i t
 | inr x => obtain ⟨t, e⟩ := (show ∃ t, u = Value.str x t from r); subst e; exact mixKind_str P w x t
theorem items_are {P : Program} {w : World} : ∀ {ks : List Key} {us : List Value}, Vals (ks.map kV) us → ItemsAre (mixKind P w) ks us
 | [], _, r => by rw [List.map_nil] at r; cases r; exact .nil
 | k :: ks, _, r => by
   rw [List.map_cons] at r
   cases r with
   | cons h t => exact .cons (kV_is h) (items_are t)
noncomputable abbrev KT (H : Hp) : List (List Key × V) → List (List Key × Addr × Value) → Prop := Paired fun p q => p.1 = q.1 ∧ H q.2.1 = some (.tup (p.1.map kV)) ∧ RelV p.2 q.2.2
theorem KT.val {H : Hp} {kvs : List (List Key × V)} {xs : List (List Key × Addr × Value)} (r : KT H kvs xs) (k : List Key) : RelO (valV kvs k) ((atKey xs k).map (·.2)) := by
 induction r with
 | nil => exact True.intro
 | @cons p q ps qs h t ih =>
   obtain ⟨h1, _, h2⟩ := h
   by_cases e : p.1 = k
   · have e' : q.1 = k := h1.symm.trans e
     have b : atKey (q :: qs) k = some q.2 := by simp [atKey, List.find?_cons, e']
     rw [valV_pos e, b]; exact h2
   · have e' : ¬ q.1 = k := fun z => e (h1.trans z)
     have b : atKey (q :: qs) k = atKey qs k := by simp [atKey, List.find?_cons, e']
     rw [valV_neg e, b]; exact ih
theorem KT.repl {H : Hp} {kvs : List (List Key × V)} {xs : List (List Key × Addr × Value)} (r : KT H kvs xs) (k : List Key) {y : V} {u : Value} (ry : RelV y u) :
   KT H (kvs.map fun kv => if kv.1 = k then (kv.1, y) else kv) (xs.map (putAt k u)) := by
 induction r with
 | nil => exact .nil
 | @cons p q ps qs h t ih =>
   rw [List.map_cons, List.map_cons]
   refine .cons ?_ ih
   obtain ⟨h1, h2, h3⟩ := h
   unfold putAt
   by_cases e : p.1 = k
   · rw [if_pos e, if_pos (h1.symm.trans e)]; exact ⟨h1, h2, ry⟩
   · rw [if_neg e, if_neg (fun z => e (h1.trans z))]; exact ⟨h1, h2, h3⟩
theorem KT.put {H : Hp} {kvs : List (List Key × V)} {xs : List (List Key × Addr × Value)} (r : KT H kvs xs) (k : List Key) {b : Addr} {y : V} {u : Value} (hb : H b = some (.tup (k.map kV))) (ry : RelV y u) :
   KT H (putK kvs k y) (storedH xs k b u) := by
 have e : (kvs.any fun kv => decide (kv.1 = k)) = (atKey xs k).isSome := by
   rw [valV_any, (r.val k).isSome_eq, Option.isSome_map]
 unfold putK storedH
 rw [e]
 by_cases q : (atKey xs k).isSome = true
 · rw [if_pos q, if_pos q]; exact r.repl k ry
 · rw [if_neg q, if_neg q]; exact Paired.snoc r ⟨rfl, hb, ry⟩
theorem KT.keeps {H H' : Hp} {kvs : List (List Key × V)} {xs : List (List Key × Addr × Value)} (r : KT H kvs xs) (ht : ∀ b ys, H b = some (.tup ys) → H' b = some (.tup ys)) : KT H' kvs xs :=
 Paired.mapP r fun _ _ z => ⟨z.1, ht _ _ z.2.1, z.2.2⟩
section
variable {P : Program} {w : World} {H : Hp} {h : Heap} {a : Addr}
theorem rd_of {u : HO} (ok : HOk P w H h) (e : Rd H a u) : ObjOk P w H h a u := e.ok ok
theorem dk_rd {kvs : List (Key × V)} (ok : HOk P w H h) (e : Rd H a (.dK kvs)) : kvs.length ≤ sizeLine ∧ (a == sysModules) = false ∧ ∃ vs, KV kvs vs ∧ h.DictOf (mixKind P w) a vs :=
 show ObjOk P w H h a (.dK kvs) from rd_of ok e
theorem dk_of {kvs : List (Key × V)} (ok : HOk P w H h) (e : H a = some (.dK kvs)) : kvs.length ≤ sizeLine ∧ (a == sysModules) = false ∧ ∃ vs, KV kvs vs ∧ h.DictOf (mixKind P w) a vs := dk_rd ok (.inl e)
theorem key_of {ks : List Key} (ok : HOk P w H h) (e : H a = some (.tup (ks.map kV))) : (tupleKind (mixKind P w)).is h ks a := by
 obtain ⟨_, its, r, o, h1, h2, n, h3⟩ := (show ObjOk P w H h a (.tup (ks.map kV)) from ok a _ e)
 exact ⟨o, its.toArray, n, h1, h2, h3, by simpa using items_are r⟩
theorem dt_rd {kvs : List (List Key × V)} (ok : HOk P w H h) (e : Rd H a (.dT kvs)) : kvs.length ≤ sizeLine ∧ (a == sysModules) = false ∧
   ∃ xs, KT H kvs xs ∧ h.DictOfH (tupleKind (mixKind P w)) a xs := by
 obtain ⟨z, y, xs, r, o, es, ep, h1, h2, h3, h4, h5⟩ := (show ObjOk P w H h a (.dT kvs) from rd_of ok e)
 refine ⟨z, y, xs, r, o, es, ep, h1, h2, h3, h4, fun x hx => ?_, h5⟩
 have all : ∀ {l : List (List Key × V)} {m : List (List Key × Addr × Value)}, KT H l m → ∀ x ∈ m, (tupleKind (mixKind P w)).is h x.1 x.2.1 := by
   intro l m q
   induction q with
   | nil => intro x hx; exact nomatch hx
   | @cons p q ps qs hq t ih =>
     intro x hx
     rcases List.mem_cons.mp hx with e | hx
     · subst e
       exact key_of ok (by rw [← hq.1]; exact hq.2.1)
     · exact ih x hx
 exact all r x hx
theorem dt_of {kvs : List (List Key × V)} (ok : HOk P w H h) (e : H a = some (.dT kvs)) : kvs.length ≤ sizeLine ∧ (a == sysModules) = false ∧
   ∃ xs, KT H kvs xs ∧ h.DictOfH (tupleKind (mixKind P w)) a xs := dt_rd ok (.inl e)
end
def DGet (H : Hp) (a : Addr) (y : V) (r : Option V) : Prop :=
 (∃ kvs k, Rd H a (.dK kvs) ∧ y = kV k ∧ r = valV kvs k) ∨ ∃ kvs k b, Rd H a (.dT kvs) ∧ y = .ref b ∧ H b = some (.tup (k.map kV)) ∧ r = valV kvs k
def DPut (H : Hp) (a : Addr) (y v : V) (H' : Hp) : Prop :=
 (∃ kvs k, H a = some (.dK kvs) ∧ y = kV k ∧ kvs.length < sizeLine ∧ H' = upd H a (.dK (putK kvs k v))) ∨
 ∃ kvs k b, H a = some (.dT kvs) ∧ y = .ref b ∧ H b = some (.tup (k.map kV)) ∧ kvs.length < sizeLine ∧ H' = upd H a (.dT (putK kvs k v))
theorem DGet.k {H : Hp} {a : Addr} {kvs : List (Key × V)} {k : Key} (e : H a = some (.dK kvs)) : DGet H a (kV k) (valV kvs k) := .inl ⟨kvs, k, .inl e, rfl, rfl⟩
theorem DPut.k {H : Hp} {a : Addr} {kvs : List (Key × V)} {k : Key} {v : V} (e : H a = some (.dK kvs)) (hl : kvs.length < sizeLine) : DPut H a (kV k) v (upd H a (.dK (putK kvs k v))) := .inl ⟨kvs, k, e, rfl, hl, rfl⟩
section
variable {X : Cx} {pins : List (Addr × Obj)} {σ : St} {H : Hp} {s : Shared} {a : Addr} {y v : V} {u r : Value} {o : Option V} {A : Around} {E : Value → Shared → Prop}
theorem Inv.big (I : Inv X pins σ H s) : sysModules < s.heap.objs.size := by
 have h : mainGlobals < s.heap.objs.size := (I.mod.glob.keeps I.bk).lt
 exact Nat.lt_trans (by decide) h
theorem d_write {h' : Heap} {t' : Nat} {ob : HO} (I : Inv X pins σ H s) (mu : Mut (H a)) (hs : Heap.SameBut a s.heap h') (he : ∃ q, h'.get? a = some q) (new : ObjOk X.prog X.w (upd H a ob) h' a ob) :
   Inv X pins σ (upd H a ob) { s with heap := h', toks := t' } :=
 I.write (x := a) (e := a) mu (.inl rfl) (fun b q hb z => (hs.2 b hb).trans z) he new
theorem dk_new {P : Program} {w : World} {H' : Hp} {h' : Heap} {kvs : List (Key × V)} {vs : List (Key × Value)} (z : kvs.length ≤ sizeLine) (hd : (a == sysModules) = false) (rel : KV kvs vs) (dd : h'.DictOf (mixKind P w) a vs) :
   ObjOk P w H' h' a (.dK kvs) := ⟨z, hd, vs, rel, dd⟩
theorem d_setItem {H' : Hp} {Q : Unit → Shared → Prop} (hu : A.units + 1 < cLine) (I : Inv X pins σ H s) (g : DPut H a y v H') (ry : RelV y u) (rv : RelV v r) (h : ∀ s', Inv X pins σ H' s' → Q () s') :
   wpAny (model X.prog X.w) A (setItem (.ref a) u r) Q E s := by
 rcases g with ⟨kvs, k, e, ey, l, eH⟩ | ⟨kvs, k, b, e, ey, eb, l, eH⟩
 · subst ey eH
   obtain ⟨z, hd, vs, rel, dd⟩ := dk_of I.hok e
   have hz : vs.length ≤ sizeLine := by rw [← rel.length]; exact z
   have hl : (putK kvs k v).length ≤ sizeLine := by have := length_putK kvs k v; omega
   refine wpAny_setItem_pairs (hsz := hz) (kV_is ry) dd fun h' dd' hs => h _ ?_
   have he : ∃ q, h'.get? a = some q := let ⟨q, _, _, hq, _⟩ := dd'; ⟨q, hq⟩
   exact d_write I (by rw [e]; exact True.intro) hs he (dk_new hl hd (rel.put k rv) dd')
 · subst ey eH
   cases (show u = Value.ref b from ry)
   obtain ⟨z, hd, xs, rel, dd⟩ := dt_of I.hok e
   have hz : xs.length ≤ sizeLine := by rw [← Paired.length rel]; exact z
   have hl : (putK kvs k v).length ≤ sizeLine := by have := length_putK kvs k v; omega
   refine wpAny_setItem_heap (hsz := hz) (tupleKind_room_in1 hu) (key_of I.hok eb) dd fun h' dd' hs => h _ ?_
   obtain ⟨q, es, ep, hq, h2, h3, h4, _, h5⟩ := dd'
   refine d_write I (by rw [e]; exact True.intro) hs ⟨q, hq⟩ ⟨hl, hd, _, (rel.put k eb rv).keeps fun c ys ec => ?_, q, es, ep, hq, h2, h3, h4, h5⟩
   rw [upd_ne (ne_of ec e (fun z => nomatch z))]
   exact ec
end
section
variable {X : Cx} {pins : List (Addr × Obj)} {σ : St} {H : Hp} {s : Shared} {a : Addr} {kvs : List (Key × V)} {k : Key} {u : Value} {A : Around} {E : Value → Shared → Prop}
end
def tDGet (td ty : TE) : TE := fun σ H Q => td σ H fun x H1 => ty σ H1 fun y H2 => ∃ a v, x = .ref a ∧ DGet H2 a y (some v) ∧ Q v H2
def tDIn (ty td : TE) : TE := fun σ H Q => ty σ H fun y H1 => td σ H1 fun x H2 => ∃ a o, x = .ref a ∧ DGet H2 a y o ∧ Q (.bl o.isSome) H2
def tDNotIn (ty td : TE) : TE := fun σ H Q => ty σ H fun y H1 => td σ H1 fun x H2 => ∃ a o, x = .ref a ∧ DGet H2 a y o ∧ Q (.bl (!o.isSome)) H2
def sDPut (td ty tv : TE) : TS := fun D σ H => tv σ H fun v H1 => td σ H1 fun x H2 => ty σ H2 fun y H3 => ∃ a H4, x = .ref a ∧ DPut H3 a y v H4 ∧ D.nx σ H4
section
variable {X : Cx} {o i e value : Expr} {pos pos' tpos : Pos} {td ty tv : TE}
theorem ps_dput (hu : X.A.units + 1 < cLine) (ho : PE X o td) (hi : PE X i ty) (hv : PE X value tv) (hs : swapsWith value (some (.Subscript o i pos')) pos.line X.env = pure false) :
   PS X (.Assign [.Subscript o i pos'] value pos) (sDPut td ty tv) := by
 intro pins s σ H D I h
 refine wpAny_Assign_Subscript (thn (hv pins s σ H _ I h) fun r s1 ⟨v, H1, I1, rv, q1⟩ => thn (ho pins s1 σ H1 _ I1 q1) fun u s2 ⟨x, H2, I2, rx, q2⟩ => thn (hi pins s2 σ H2 _ I2 q2) fun iv s3 ⟨y, H3, I3, ry, a, H4, ex, g, q3⟩ => ?_) hs
 subst ex
 obtain rfl : u = Value.ref a := rx
 exact d_setItem hu I3 g ry rv fun s4 I4 => ⟨σ, H4, I4, q3⟩
end
theorem dk_empty {P : Program} {w : World} {H : Hp} (h : Heap) (hb : sysModules < h.objs.size) : ObjOk P w H (h.push { cls := .type "dict", data := .dict #[] }) h.objs.size (.dK []) :=
 ⟨Nat.zero_le _, beq_eq_false_iff_ne.mpr (Ne.symm (Nat.ne_of_lt hb)), [], .nil, Heap.DictOf.new h⟩
def tDNewK : TE := fun _ H Q => ∀ p, H p = none → Q (.ref p) (upd H p (.dK []))
section
variable {X : Cx} {pos : Pos}
theorem pe_dnewK : PE X (.Dict [] [] pos) tDNewK := fun pins s σ H Q I h =>
 wpAny_Dict_empty ⟨.ref s.heap.objs.size, _, I.laid (a := s.heap.objs.size) (o := .dK []) (t' := s.toks) (fun _ _ q => Heap.get?_push_of_some _ q) (Nat.le_refl _) (dk_empty s.heap I.big), rfl, h _ (I.hok.fresh (Nat.le_refl _))⟩
end
set_option genInjectivity false in
structure M1 (X : Cx) (o : Expr) (m : Str) (apos : Pos) (e : Expr) (cpos : Pos) : Prop where
 base : attributeBase o m X.env (eval o X.env) = eval o X.env
 few : ((backTo cpos (starEach [e] X.env)).all (fun x => !x.1) && (backToKw cpos (keywordEach [] X.env)).all (fun x => x.1.isSome)
   && decide (([e] : List Expr).length + ([] : List Keyword).length + (if ([] : List Keyword).isEmpty then 0 else 1) < 30)) = true
 line : (apos.endLine == cpos.line) = true
 trees : backTo cpos (starEach [e] X.env) = [(false, eval e X.env)]
set_option genInjectivity false in
structure M2 (X : Cx) (o : Expr) (m : Str) (apos : Pos) (e f : Expr) (cpos : Pos) : Prop where
 base : attributeBase o m X.env (eval o X.env) = eval o X.env
 few : ((backTo cpos (starEach [e, f] X.env)).all (fun x => !x.1) && (backToKw cpos (keywordEach [] X.env)).all (fun x => x.1.isSome)
   && decide (([e, f] : List Expr).length + ([] : List Keyword).length + (if ([] : List Keyword).isEmpty then 0 else 1) < 30)) = true
 line : (apos.endLine == cpos.line) = true
 trees : backTo cpos (starEach [e, f] X.env) = [(false, eval e X.env), (false, eval f X.env)]
def IsD (H : Hp) (a : Addr) : Prop := (∃ kvs, Rd H a (.dK kvs)) ∨ ∃ kvs, Rd H a (.dT kvs)
theorem isD_at {X : Cx} {pins : List (Addr × Obj)} {σ : St} {H : Hp} {s : Shared} {a : Addr} (I : Inv X pins σ H s) (d : IsD H a) :
   s.TypeIs (.ref a) "dict" ∧ (∀ b, Value.ref a = .ref b → ∃ ob, s.heap.get? b = some ob ∧ ob.dict = none) ∧ (a == sysModules) = false := by
 rcases d with ⟨kvs, e⟩ | ⟨kvs, e⟩
 · obtain ⟨_, hd, vs, _, dd⟩ := dk_rd I.hok e
   refine ⟨dd.typeIs, fun b q => ?_, hd⟩
   cases q
   obtain ⟨ob, _, _, h1, h2, _⟩ := dd
   exact ⟨ob, h1, h2.2.1⟩
 · obtain ⟨_, hd, xs, _, dd⟩ := dt_rd I.hok e
   refine ⟨dd.typeIs, fun b q => ?_, hd⟩
   cases q
   obtain ⟨ob, _, _, h1, h2, _⟩ := dd
   exact ⟨ob, h1, h2.2.1⟩
section
variable {X : Cx} {pins : List (Addr × Obj)} {σ : St} {H : Hp} {s : Shared} {a : Addr} {y d : V} {u r : Value} {o : Option V} {A : Around} {E : Value → Shared → Prop}
theorem d_get2 {Q : Value → Shared → Prop} (hu : A.units + 1 < cLine) (I : Inv X pins σ H s) (g : DGet H a y o) (ry : RelV y u) (rd : RelV d r) (h : ∀ w' s', Inv X pins σ H s' → RelV (o.getD d) w' → Q w' s') :
   wpAny (model X.prog X.w) A (call (.builtin "dict.get") [.ref a, u, r]) Q E s := by
 rcases g with ⟨kvs, k, e, ey, l⟩ | ⟨kvs, k, b, e, ey, eb, l⟩
 · subst ey
   obtain ⟨z, hd, vs, rel, dd⟩ := dk_rd I.hok e
   refine call_meetsIn PySem.F.slot_dict_get dd.typeIs PySem.F.entry_dict_get (PySem.F.args_dict_get_3 _ _ _) (meets_dict_get_default (mixKind X.prog X.w) a (kV_is ry) hd r) ⟨_, dd.mapOf, h _ _ (I.tok _) ?_⟩
   rw [l]
   exact (rel.val k).getD rd
 · subst ey
   cases (show u = Value.ref b from ry)
   obtain ⟨z, hd, xs, rel, dd⟩ := dt_rd I.hok e
   refine call_meetsIn PySem.F.slot_dict_get dd.typeIs PySem.F.entry_dict_get (PySem.F.args_dict_get_3 _ _ _) (meetsH_dict_get_default (tupleKind (mixKind X.prog X.w)) a b hd r) ⟨tupleKind_room_in1 hu, k, xs, key_of I.hok eb, dd, h _ _ (I.tok _) ?_⟩
   rw [l]
   exact (rel.val k).getD rd
end
def tDGet1 (td ty : TE) : TE := fun σ H Q => td σ H fun x H1 => ∃ a, x = .ref a ∧ IsD H1 a ∧ ty σ H1 fun y H2 => ∃ o, DGet H2 a y o ∧ Q (o.getD .non) H2
def tDGet2 (td ty tx : TE) : TE := fun σ H Q => td σ H fun x H1 => ∃ a, x = .ref a ∧ IsD H1 a ∧ ty σ H1 fun y H2 => tx σ H2 fun z H3 => ∃ o, DGet H3 a y o ∧ Q (o.getD z) H3
section
variable {X : Cx} {o e f : Expr} {apos cpos : Pos} {td ty tx : TE}
theorem pe_dget2 (hu : X.A.units + 1 < cLine) (ho : PE X o td) (he : PE X e ty) (hf : PE X f tx) (m : M2 X o "get" apos e f cpos) : PE X (.Call (.Attribute o "get" apos) [e, f] [] cpos) (tDGet2 td ty tx) := by
 intro pins s σ H Q I h
 refine wpAny_Call_method m.base m.few m.line PySem.F.plainAttrs_dict PySem.F.slot_dict_get PySem.F.type_dict_get (thn (ho pins s σ H _ I h) fun u s1 ⟨x, H1, I1, rx, a, ex, d, q1⟩ => ?_)
 subst ex
 obtain rfl : u = Value.ref a := rx
 obtain ⟨t1, t2, _⟩ := isD_at I1 d
 refine ⟨t1, t2, ?_⟩
 rw [m.trees]
 refine Calls.callWith_builtin rfl (Calls.evalArgs_plain (Calls.spliced_cons (thn (he pins s1 σ H1 _ I1 q1) fun iv s2 ⟨y, H2, I2, ry, q2⟩ =>
   Calls.spliced_cons (thn (hf pins s2 σ H2 _ I2 q2) fun fv s3 ⟨z, H3, I3, rz, ov, g, q3⟩ => Calls.spliced_nil ?_))))
 exact d_get2 hu I3 g ry rz fun w' s4 I4 rw' => ⟨_, H3, I4, rw', q3⟩
end
section
variable {X : Cx} {pins : List (Addr × Obj)} {σ : St} {H : Hp} {s : Shared} {a : Addr} {kvs : List (Key × V)} {A : Around} {E : Value → Shared → Prop}
end
section
variable {X : Cx} {pins : List (Addr × Obj)} {σ : St} {H : Hp} {s : Shared} {a : Addr} {y : V} {u : Value} {A : Around} {E : Value → Shared → Prop}
end
end L2
namespace Att
open PySem PySem.W PySem.Calls PyProof.Rows
theorem ints_of_wellAll {P : Params} {h : Heap} : ∀ (ns : List Int) (vs : List Value), WellAll P h vs (ns.map WData.int) → IntsAre vs ns := by
 intro ns
 induction ns with
 | nil =>
   intro vs w
   rw [List.map_nil] at w
   cases w
   exact .nil
 | cons n ns ih =>
   intro vs w
   rw [List.map_cons] at w
   cases w with
   | cons a b =>
     cases a
     exact .cons _ _ (ih _ b)
theorem script_of {l : OpenLaw} {n : Nat} (hn : l.most = some n) {P : Params} {h : Heap} {args : List WData} {vals : List Value}
   (hpre : l.row.toRowW.claim.pre args = true) (hwl : WellAll P h vals args) :
   ∃ a vs ns, vals = [Value.ref a] ∧ args = [WData.list (ns.map WData.int)] ∧ h.get? a = some { cls := .type "list", data := .seq vs.toArray } ∧ IntsAre vs ns ∧ ns.length ≤ n := by
 have hsh : WShape.hasAll [] args [.list .int] = true := (pre_splitW hpre).1
 have hc : l.pre.holds [] { args := args } = true := (pre_splitW hpre).2
 obtain ⟨d, r, rfl, h1, h2⟩ := hasAllW_cons hsh
 obtain rfl := hasAllW_nil h2
 obtain ⟨xs, rfl, h3⟩ := hasW_list h1
 obtain ⟨ns, rfl⟩ := items_int h3
 have hlen : ns.length ≤ n := by
   unfold OpenLaw.pre at hc
   have h4 : (WTm.not (.lt (.lit (.int (n : Int))) (.len (.arg 0)))).holds [] { args := [.list (ns.map .int)] } = true := by
     have h4 := (holds_andW hc).1
     rw [hn] at h4
     exact h4
   have h5 := condW_of h4 (w_not (w_lt w_lit (w_len_list (w_arg rfl))))
   rw [List.length_map] at h5
   refine Nat.le_of_not_lt fun q => ?_
   have q' : (n : Int) < ((ns.length : Nat) : Int) := by omega
   first
     | (rw [decide_eq_true q'] at h5; exact absurd h5 (by decide))
     | (simp at h5; omega)
 cases hwl with
 | cons w1 w2 =>
   cases w2
   cases w1 with
   | list ho hall => exact ⟨_, _, ns, rfl, rfl, ho, ints_of_wellAll ns _ hall, hlen⟩
theorem post_true (l : OpenLaw) (args : List WData) : l.row.toRowW.claim.post args (.bool true) args = true :=
 postW_of (r := l.row.toRowW) (X := (true == true))
   (show WShape.has [] (.bool true) .bool = true by first | rfl | decide | simp [WShape.has, WShape.arms, WShape.armsAll])
   (show (WTm.eq .res (.lit (.bool true))).value [] { args := args, res := some (.bool true), after := args } = some (.bool (true == true)) from w_eq_bool (w_res rfl) w_lit) rfl
theorem attach_call {l : OpenLaw} {n : Nat} {q : Program} {loose : List Str} {XP : (Str → Option Value) → Heap → Prop} {YP : World → Heap → Prop} {d : DefRec}
   (hn : l.most = some n) (hdf : d.params.defaults = [])
   (call : ∀ (w : World) (s₀ s₁ : Shared) (mg mb : Str → Option Value) (fa : Addr) (o : Obj) (pm cd doc : Value) (a : Addr) (vs : List Value) (ns : List Int),
     Ground q loose [] XP w s₀ mg mb s₁.heap → YP w s₁.heap →
     s₁.heap.get? fa = some o → o.data = .func (docDef d.name d.params d.body d.scope pm cd doc) → s₁.heap.CodeRec cd d.name → mg d.name = some (.ref fa) →
     s₁.heap.get? a = some { cls := .type "list", data := .seq vs.toArray } → IntsAre vs ns → ns.length ≤ n → s₁.gens = #[] →
     codeAny (model l.prog w) callerA (.call (.ref fa) ⟨[.ref a], []⟩) (fun r s' => r = .ok (.ret (.bool true)) ∧ OldK s₁.heap s'.heap ∧ s'.os = s₁.os ∧ AllBare s'.gens) s₁) :
   WalkO q loose XP YP l.row.toRowW d [] (fun f vs => PySem.call f vs) := by
 intro w s₀ s₁ mg mb G Y fa o pm cd doc dV kV ho hd hcd hD hmg hg args vals as hpre hlay hrd hwl hlo
 obtain rfl : dV = .none := Dflts.none hD hdf
 obtain rfl : kV = .none := Dflts.noKw hD
 obtain ⟨a, vs, ns, rfl, rfl, hobj, hints, hlen⟩ := script_of hn hpre hwl
 refine enter_call (codeAny_mono (call w s₀ s₁ mg mb fa o pm cd doc a vs ns G Y ho (fd_plain hd) hcd hmg hobj hints hlen hg) fun r s' hq => ?_)
 obtain ⟨rfl, h2, h3, h4⟩ := hq
 exact ⟨.inl ⟨.bool true, .bool true, [], rfl, fun _ => rfl, .bool true, post_true l _, fun _ => ⟨List.Pairwise.nil, fun _ hm => (nomatch hm)⟩⟩, h2, h3, h4⟩
section
variable {prog : Program} {w : World} {A : Around} {E : Value → Shared → Prop} {s : Shared} {K : Frag}
noncomputable def ledger (h : Heap) (L d : Addr) : List (Addr × Obj) := (List.range h.objs.size).filterMap fun a => if a = L ∨ a = d then none else (h.get? a).map fun o => (a, o)
end
end Att
namespace L2
open PySem PySem.Spec PyProof.Rows
theorem vals_ints : ∀ {vs : List Value} {ns : List Int}, IntsAre vs ns → Vals (ns.map V.int) vs
 | _, _, .nil => .nil
 | _, _, .cons n t h => .cons ⟨t, rfl⟩ (vals_ints h)
def Only (H : Hp) : Prop := ∀ b, H b = none ∨ ∃ o xs, H b = some (.frz o (.lst xs))
theorem law_call {P : Program} {w : World} {K : PySem.W.Frag} {mg mb : Str → Option Value} {CX : CXT} {k : Nat} {fa a : Addr} {fd : FuncData} {x : Str} {sp : Sp} {s₁ : Shared} {vs : List Value} {ns : List Int}
   (KX : K.In s₁.heap) (hns : s₁.heap.Ns mainGlobals mg) (hb : s₁.heap.Ns builtinsNs mb) (hbb : ∀ x : Str, x ≠ "__name__" → mb x = bootBuiltins x) (hlim : s₁.heap.NoLimit) (hg : s₁.gens = #[])
   (ha : s₁.heap.get? a = some { cls := .type "list", data := .seq vs.toArray }) (hi : IntsAre vs ns) (hl : ns.length ≤ sizeLine) (hr : Room k callerA)
   (F : ∀ base : Heap, K.In base → base.Ns mainGlobals mg → FnOk P w K mg base CX k fa fd [x] sp) (hbind : ∀ (s : Shared) (u : Value), BindsTo s fd ⟨[u], []⟩ [(x, u)])
   (hsp : ∀ H : Hp, Only H → SqL K H a (ns.map V.int) → sp [.ref a] H (fun v _ => v = .bl true) fun _ _ _ => False)
   (hCX : ∀ H e s', CX [] H s₁ (fun _ _ _ => False) e s' → False) :
   codeAny (model P w) callerA (.call (.ref fa) ⟨[.ref a], []⟩) (fun r s' => r = .ok (.ret (.bool true)) ∧ OldK s₁.heap s'.heap ∧ s'.os = s₁.os ∧ AllBare s'.gens) s₁ := by
 have rv := vals_ints hi
 have lenV := hi.length
 have core : ∀ H : Hp, Only H → SqL K H a (ns.map V.int) → HOk P w H s₁.heap → (∀ b, H b ≠ none → b = a) → (H a ≠ none → K.lookup a = none) →
     codeAny (model P w) callerA (.call (.ref fa) ⟨[.ref a], []⟩) (fun r s' => r = .ok (.ret (.bool true)) ∧ OldK s₁.heap s'.heap ∧ s'.os = s₁.os ∧ AllBare s'.gens) s₁ := by
   intro H hO hS hok hA hK
   have base_of : ∀ {b : Addr} {o : Obj}, s₁.heap.get? b = some o → H b = none → (hidT s₁.heap H).get? b = some o := fun e n => hidT_get e n
   have noA : ∀ {b : Addr} {o : Obj} {es : Array DictEntry} {ep : Nat}, s₁.heap.get? b = some o → o.data = .dict es ep → H b = none := fun {b o es ep} e d => by
     cases q : H b with
     | none => rfl
     | some u =>
       have e' : b = a := hA b (by rw [q]; simp)
       subst e'
       rw [ha] at e; cases e
       have d' : Data.seq vs.toArray _ = Data.dict es ep := d
       cases d'
   have nsK : ∀ {b : Addr} {m : Str → Option Value}, s₁.heap.Ns b m → (hidT s₁.heap H).Ns b m := fun {b m} ⟨o, es, ep, e, d, r⟩ => ⟨o, es, ep, base_of e (noA e d), d, r⟩
   have hKb : K.In (hidT s₁.heap H) := fun b o e => base_of (KX b o e) (by
     cases q : H b with
     | none => rfl
     | some u =>
       have e' : b = a := hA b (by rw [q]; simp)
       subst e'
       rw [hK (by rw [q]; simp)] at e; cases e)
   have hM : Mod K mg (hidT s₁.heap H) := ⟨hKb, nsK hns, ⟨mb, nsK hb, hbb⟩, let ⟨mc, h1, h2⟩ := hlim; ⟨mc, nsK h1, h2⟩⟩
   have e0 : Env0 P w K mg (hidT s₁.heap H) callerA [] s₁ H := ⟨rfl, hM, fun b o e => of_hidT e, Nat.le_of_eq (hidT_size _ _), trivial, fun b hb => absurd (show b ∈ ([] : List Addr) from hb) (by simp), hok, .of_eq hg⟩
   refine codeAny_mono ((F _ hKb (nsK hns)).run callerA [] s₁ H ⟨[.ref a], []⟩ [.ref a] [.ref a] _ _ hr e0 (hbind s₁ (.ref a)) (.cons rfl .nil) (hsp H hO hS)) fun r s' h => ?_
   cases r with
   | error e => exact (hCX H e s' h).elim
   | ok fl =>
     cases fl with
     | next => exact False.elim h
     | brk => exact False.elim h
     | cont => exact False.elim h
     | ret u =>
       obtain ⟨v, H', os, bare, un, hok', r', q⟩ := h
       have q' : v = .bl true := q
       subst q'
       obtain rfl : u = Value.bool true := r'
       refine ⟨rfl, OldK.of_keep fun b o e => ?_, os, bare⟩
       cases q : H b with
       | none => exact un.keep b o e q (by intro z; exact absurd (show b ∈ ([] : List Addr) from z) (by simp)) (by simp)
       | some u =>
         rcases hO b with z | ⟨ob, xs, z⟩
         · rw [q] at z; cases z
         · have z2 := un.frzs b ob _ z
           obtain ⟨e1, _⟩ := hok b _ z
           obtain ⟨e2, _⟩ := hok' b _ z2
           rw [e] at e1; cases e1
           exact e2
 cases hk : K.lookup a with
 | some o =>
   have e := KX a o hk
   rw [ha] at e
   cases e
   refine core (fun _ => none) (fun _ => .inl rfl) (.inr ⟨_, vs.toArray, _, hk, rfl, rfl, rfl, by rw [List.size_toArray, lenV]; exact hl, by simpa using rv⟩) (fun b u z => by have z' : (none : Option HO) = some u := z; cases z') (fun b z => absurd rfl z) fun z => absurd rfl z
 | none =>
   refine core (fun b => if b = a then some (.frz { cls := .type "list", data := .seq vs.toArray } (.lst (ns.map V.int))) else none) (fun b => ?_) (.inl (.inr ⟨{ cls := .type "list", data := .seq vs.toArray }, if_pos rfl⟩)) (fun b u z => ?_) (fun b z => ?_) fun _ => hk
   · by_cases hb : b = a
     · exact .inr ⟨_, _, if_pos hb⟩
     · exact .inl (if_neg hb)
   · by_cases hb : b = a
     · have z' := (if_pos hb).symm.trans z
       cases z'
       subst hb
       exact ⟨ha, by rw [List.length_map]; exact hl, vs, _, rv, ha⟩
     · have z' := (if_neg hb).symm.trans z
       cases z'
   · by_cases hb : b = a
     · exact hb
     · exact absurd (if_neg hb) z
end L2
namespace L2
open PySem PySem.Spec PyProof.Rows
theorem walk_of {l : PySem.W.OpenLaw} {n k : Nat} {q : Program} {loose : List Str} {XP : (Str → Option Value) → Heap → Prop} {YP : World → Heap → Prop} {d : DefRec} {K : Params → PySem.W.Frag} {CX : World → CXT} {sp : World → Sp} {x : Str}
   (hn : l.most = some n) (hn2 : n ≤ sizeLine) (hdf : d.params.defaults = []) (hr : Room k callerA)
   (hY : ∀ (w : World) (h : Heap), YP w h → (K w.params).In h)
   (F : ∀ (w : World) (mg : Str → Option Value) (fa : Addr) (h : Heap), (K w.params).In h → h.Ns mainGlobals mg → mg d.name = some (.ref fa) →
     ∃ fd : FuncData, (∀ (s : Shared) (u : Value), BindsTo s fd ⟨[u], []⟩ [(x, u)]) ∧
       ∀ base : Heap, (K w.params).In base → base.Ns mainGlobals mg → FnOk l.prog w (K w.params) mg base (CX w) k fa fd [x] (sp w))
   (hsp : ∀ (w : World) (H : Hp) (a : Addr) (ns : List Int), ns.length ≤ n → Only H → SqL (K w.params) H a (ns.map V.int) → sp w [.ref a] H (fun v _ => v = .bl true) fun _ _ _ => False)
   (hCX : ∀ (w : World) (H : Hp) (s : Shared) (e : Value) (s' : Shared), CX w [] H s (fun _ _ _ => False) e s' → False) :
   PySem.W.WalkO q loose XP YP l.row.toRowW d [] (fun f vs => PySem.call f vs) := by
 refine Att.attach_call hn hdf fun w s₀ s₁ mg mb fa o pm cd doc a vs ns G Y ho hd hcd hmg hobj hints hlen hg => ?_
 have KX := hY w _ Y
 obtain ⟨fd, hb, hF⟩ := F w mg fa _ KX G.T.g hmg
 exact law_call KX G.T.g G.T.b G.T.builtins G.T.nolimit hg hobj hints (Nat.le_trans hlen hn2) hr hF hb (fun H hO hS => hsp w H a ns hlen hO hS) fun H e s' => hCX w H s₁ e s'
end L2
namespace L2
open PySem PySem.Spec PyProof.Rows
noncomputable def inClass (s : Stmt) (j : Nat) : Stmt := match s with
 | .ClassDef _ _ _ body _ _ _ _ _ _ _ => body.getD j (.Pass ⟨0, 0, 0, 0⟩)
 | _ => .Pass ⟨0, 0, 0, 0⟩
noncomputable def defArgs (s : Stmt) : Arguments := match s with
 | .FunctionDef _ a _ _ _ _ _ _ _ _ => a
 | _ => { posonlyargs := [], args := [], vararg := none, kwonlyargs := [], kw_defaults := [], kwarg := none, defaults := [] }
noncomputable def defBody (s : Stmt) : List Stmt := match s with
 | .FunctionDef _ _ b _ _ _ _ _ _ _ => b
 | _ => []
noncomputable def defScope (s : Stmt) : Scope := match s with
 | .FunctionDef _ _ _ _ _ _ sc _ _ _ => sc
 | _ => { kind := .function, names := [], isGenerator := false, isCoroutine := false }
noncomputable abbrev CX0 : CXT := fun _ _ _ _ _ _ => False
noncomputable abbrev E0 : XK := fun _ _ _ => False
theorem pass0 {X : Cx} : Passes CX0 X E0 := fun _ _ _ _ _ _ _ h => h.elim
set_option genInjectivity false in
structure Fun (K : PySem.W.Frag) (x qual : Str) (st : Stmt) (f : Addr) (fd : FuncData) : Prop where
 ex : ∃ (oc : Value) (od : Option Addr) (kV doc pm : Value) (an : Option Addr) (cdv ct : Value) (osl : Array (Option Value)),
   fd = PySem.W.fnOf x qual (defArgs st) (defBody st) (defScope st) .none kV doc pm an cdv ct ∧ K.lookup f = some ⟨oc, od, .func fd, osl⟩ ∧ PySem.W.codeIn K cdv qual = true
 kp : PySem.W.keepIn K (.ref f) = true
section
variable {P : Program} {w : World} {K : PySem.W.Frag} {mg : Str → Option Value} {base : Heap}
theorem Fun.ok {x qual : Str} {st : Stmt} {f : Addr} {fd : FuncData} {N ps : List Str} {k : Nat} {sp : Sp} (F : Fun K x qual st f fd) (S : FnScope N ps (defScope st)) (len : ∀ vs H Q E, sp vs H Q E → vs.length = ps.length)
   (hbody : ∀ (cdv : Value) (A : Around) (outer : List Env) (s : Shared) (H : Hp) (vs : List V) (Q : VK) (E : XK), Room k (A.deeper (envOfC qual (defScope st) s.heap.objs.size f cdv)) → sp vs H Q E →
     ∃ t, PSs (cxOf CX0 P w K mg base N qual (defScope st) f cdv A outer s H E).nox (defBody st) t ∧ t { nx := fun _ H' => Q .non H', rt := Q } (start N vs) H) : FnOk P w K mg base CX0 (k + 1) f fd ps sp := by
 obtain ⟨oc, od, kV, doc, pm, an, cdv, ct, osl, rfl, lk, hcd⟩ := F.ex
 refine fn_of lk hcd S len fun A outer s H vs Q E hr hsp => ?_
 obtain ⟨t, h, q⟩ := hbody cdv A outer s H vs Q E hr hsp
 exact ⟨t, h.nox, q⟩
theorem Fun.binds {x qual : Str} {st : Stmt} {f : Addr} {fd : FuncData} {ps : List Str} (F : Fun K x qual st f fd)
   (h : ∀ (kV doc pm : Value) (an : Option Addr) (cdv ct : Value) (us : List Value), us.length = ps.length → bindArgs (PySem.W.fnOf x qual (defArgs st) (defBody st) (defScope st) .none kV doc pm an cdv ct) ⟨us, []⟩ = pure (ps.zip us)) : Binds K fd ps [] := by
 obtain ⟨oc, od, kV, doc, pm, an, cdv, ct, osl, rfl, lk, hcd⟩ := F.ex
 exact .all (h kV doc pm an cdv ct)
theorem fun_mk {x qual : Str} {st : Stmt} {f : Addr} {oc : Value} {od an : Option Addr} {osl : Array (Option Value)} {kV doc pm cdv ct : Value} (l : K.lookup f = some ⟨oc, od, .func (PySem.W.fnOf x qual (defArgs st) (defBody st) (defScope st) .none kV doc pm an cdv ct), osl⟩)
   (c : PySem.W.codeIn K cdv qual = true) (k : PySem.W.keepIn K (.ref f) = true) : Fun K x qual st f (PySem.W.fnOf x qual (defArgs st) (defBody st) (defScope st) .none kV doc pm an cdv ct) := ⟨⟨oc, od, kV, doc, pm, an, cdv, ct, osl, rfl, l, c⟩, k⟩
end
theorem hu_of {A : Around} {k : Nat} (hr : Room k A) : A.units + 1 < cLine := Nat.lt_of_le_of_lt (Nat.add_le_add_left (by decide : 1 ≤ 64) _) hr.units
section
variable {X : Cx}
theorem pv (i : Nat) {x : Str} {pos : Pos} (hN : X.N[i]? = some x := by rfl) (hv : Vis X.env.scope x := by first | exact Or.inl rfl | exact Or.inr (Or.inl rfl) | exact Or.inr (Or.inr rfl)) (hd : (x == ("__debug__" : Str)) = false := by decide)
   (hcd : (x == ("__classdict__" : Str)) = false := by decide) : PE X (.Name x pos) (tVar i) := pe_var hN hv hd hcd
end
theorem iteF {A B : Prop} (h : B) : if false = true then A else B := by
 rw [if_neg Bool.false_ne_true]
 exact h
theorem iteT {A B : Prop} (h : A) : if true = true then A else B := by
 rw [if_pos rfl]
 exact h
theorem ite2 {c A B : Prop} [Decidable c] (h1 : c → A) (h2 : ¬ c → B) : if c then A else B := by
 by_cases h : c
 · rw [if_pos h]
   exact h1 h
 · rw [if_neg h]
   exact h2 h
def Same (H H' : Hp) : Prop := ∀ b o, H b = some o → H' b = some o
theorem Same.refl (H : Hp) : Same H H := fun _ _ h => h
theorem Same.trans {H H1 H2 : Hp} (a : Same H H1) (b : Same H1 H2) : Same H H2 := fun c o h => b c o (a c o h)
theorem Same.seq {K : PySem.W.Frag} {H H' : Hp} {a : Addr} {xs : List V} (e : Same H H') (h : SqL K H a xs) : SqL K H' a xs := by
 rcases h with (h | ⟨o, h⟩) | h
 · exact .inl (.inl (e _ _ h))
 · exact .inl (.inr ⟨o, e _ _ h⟩)
 · exact .inr h
end L2
namespace L2
open PySem PySem.Spec PyProof.Rows
section
variable {X : Cx}
end
section
variable {κ : Type} [DecidableEq κ]
end
end L2
namespace L2
open PySem PySem.Spec PyProof.Rows
noncomputable def clOf (env : Env) : List (Str × NameKind) → List (Str × Addr) → List (Str × Addr)
 | [], acc => acc
 | (n, k) :: r, acc => clOf env r (if (k == NameKind.free) = true then (n, (env.cells.lookup n).getD 0) :: acc else acc)
theorem clOf_ok {env : Env} : ∀ (ns : List (Str × NameKind)) (acc : List (Str × Addr)), (∀ x ∈ ns, x.2 = .free → ∃ c, env.cells.lookup x.1 = some c) →
   (∀ x c, acc.lookup x = some c → env.cells.lookup x = some c) → ∀ x c, (clOf env ns acc).lookup x = some c → env.cells.lookup x = some c
 | [], acc, _, ha => ha
 | (n, k) :: r, acc, hn, ha => by
   refine clOf_ok r _ (fun x hx => hn x (List.mem_cons_of_mem _ hx)) ?_
   intro x c e
   by_cases hk : (k == NameKind.free) = true
   · rw [if_pos hk] at e
     have hk' : k = .free := by simpa using hk
     obtain ⟨c', ec⟩ := hn (n, k) List.mem_cons_self hk'
     rw [List.lookup_cons] at e
     cases hx : x == n with
     | true =>
       rw [hx] at e
       have : x = n := by simpa using hx
       subst this
       have ec' : List.lookup x env.cells = some c' := ec
       rw [ec'] at e
       simp at e
       rw [← e]; exact ec'
     | false => rw [hx] at e; exact ha x c e
   · rw [if_neg hk] at e; exact ha x c e
theorem clOf_keep {env : Env} : ∀ (ns : List (Str × NameKind)) (acc : List (Str × Addr)) (x : Str), (∃ c, acc.lookup x = some c) → ∃ c, (clOf env ns acc).lookup x = some c
 | [], acc, x, h => h
 | (n, k) :: r, acc, x, h => by
   refine clOf_keep r _ x ?_
   by_cases hk : (k == NameKind.free) = true
   · rw [if_pos hk, List.lookup_cons]
     cases hx : x == n with
     | true => exact ⟨_, rfl⟩
     | false => exact h
   · rw [if_neg hk]; exact h
theorem clOf_has {env : Env} : ∀ (ns : List (Str × NameKind)) (acc : List (Str × Addr)) (x : Str), (x, NameKind.free) ∈ ns → ∃ c, (clOf env ns acc).lookup x = some c
 | [], acc, x, h => absurd h (by simp)
 | (n, k) :: r, acc, x, h => by
   rcases List.mem_cons.mp h with e | e
   · injection e with e1 e2
     subst e1 e2
     refine clOf_keep r _ x ⟨(env.cells.lookup x).getD 0, ?_⟩
     rw [if_pos (by decide)]
     simp
   · exact clOf_has r _ x e
theorem closureFor_eq {scope : Scope} {env : Env} (h : ∀ x ∈ scope.names, x.2 = .free → ∃ c, env.cells.lookup x.1 = some c) : closureFor scope env = pure (clOf env scope.names []) := by
 have key : ∀ (ns : List (Str × NameKind)) (acc : List (Str × Addr)), (∀ x ∈ ns, x.2 = .free → ∃ c, env.cells.lookup x.1 = some c) →
     (do let r ← forIn (m := Sem) ns acc (fun x r => if (x.2 == NameKind.free) = true then do let c ← cellOf env x.1; pure (ForInStep.yield ((x.1, c) :: r)) else pure (ForInStep.yield r)); pure r : Sem (List (Str × Addr))) = pure (clOf env ns acc) := by
   intro ns
   induction ns with
   | nil => intro acc _; rfl
   | cons y r ih =>
     intro acc hy
     obtain ⟨n, k⟩ := y
     rw [List.forIn_cons]
     by_cases hk : (k == NameKind.free) = true
     · have hk' : k = .free := by simpa using hk
       obtain ⟨c, ec⟩ := hy (n, k) List.mem_cons_self hk'
       have ec' : List.lookup n env.cells = some c := ec
       have e1 : cellOf env n = pure c := by unfold cellOf; rw [ec']
       simp only [hk, if_true, e1]
       have := ih ((n, c) :: acc) fun x hx => hy x (List.mem_cons_of_mem _ hx)
       show _ = pure (clOf env r (if (k == NameKind.free) = true then (n, (List.lookup n env.cells).getD 0) :: acc else acc))
       rw [if_pos hk, ec']
       exact this
     · simp only [hk]
       have := ih acc fun x hx => hy x (List.mem_cons_of_mem _ hx)
       show _ = pure (clOf env r (if (k == NameKind.free) = true then (n, (List.lookup n env.cells).getD 0) :: acc else acc))
       rw [if_neg hk]
       exact this
 simp only [closureFor]
 rw [key scope.names [] h]
 rfl
section
variable {prog : Program} {w : World} {A : Around} {R : Result → Shared → Prop} {s : Shared}
theorem compLoop_any {elt target iter : Expr} {ifs : List Expr} {scope : Scope} {pos : Pos} {it acc : Value} {env : Env} (I : Nat → Shared → Prop)
   (turn : ∀ n s, I n s → wpAny (model prog w) A (pyNext it) (fun r s₁ => match r with
     | none => R (.ok .next) s₁
     | some v => wpAny (model prog w) A (letOwnedTupleGo target it v) (fun _ s₁' => wpAny (model prog w) A (assign target env v) (fun _ s₂ =>
         wpAny (model prog w) A (forIn ifs true fun c r => if r = true then do let ok ← isTrue c env (eval c env); pure (ForInStep.yield ok) else pure (ForInStep.yield r)) (fun ok s₃ =>
           if ok = true then wpAny (model prog w) A (eval elt env) (fun x s₄ =>
             wpAny (model prog w) A (call (.builtin "list.append") [acc, x]) (fun _ s₅ => ∃ m, m < n ∧ I m s₅) (fun _ _ => False) s₄) (fun _ _ => False) s₃
           else ∃ m, m < n ∧ I m s₃) (fun _ _ => False) s₂) (fun _ _ => False) s₁') (fun _ _ => False) s₁) (fun _ _ => False) s)
   (n : Nat) (h : I n s) :
   codeAny (model prog w) A (.compLoop (.ListComp elt [⟨target, iter, ifs, 0⟩] scope pos) 0 it acc env) R s := by
 refine codeAny_loop rfl I (fun n s hI => ?_) n h
 show wpAny _ A ((compTurn (.ListComp elt [⟨target, iter, ifs, 0⟩] scope pos) 0 it acc env).onRaise (fun x => do noteFrame x env; theTreesLotGoes x)) _ _ s
 refine wpAny_noted ?_
 rw [compTurn_list]
 refine wpAny_bind (wpAny_standAt (wpAny_bind (wpAny_mono (turn n s hI) (fun r s₁ h₁ => ?_) fun _ _ h' => h'.elim)))
 cases r with
 | none => exact wpAny_pure h₁
 | some v =>
   refine wpAny_bind (wpAny_mono h₁ (fun _ s₁' h₁' => ?_) fun _ _ h' => h'.elim)
   refine wpAny_bind (wpAny_mono h₁' (fun _ s₂ h₂ => wpAny_bind (wpAny_mono h₂ (fun ok s₃ h₃ => ?_) fun _ _ h' => h'.elim)) fun _ _ h' => h'.elim)
   cases ok with
   | false => exact wpAny_pure ⟨rfl, h₃⟩
   | true =>
     exact wpAny_bind (wpAny_bind (wpAny_mono h₃ (fun x s₄ h₄ => wpAny_bind (wpAny_mono h₄ (fun _ s₅ h₅ => wpAny_pure (wpAny_pure ⟨rfl, h₅⟩)) fun _ _ h' => h'.elim)) fun _ _ h' => h'.elim))
end
noncomputable def blk (X : Cx) (N' : List Str) (scope : Scope) (fp : List Addr) (s : Shared) (H : Hp) : Cx :=
 { X with N := N', s₀ := s, H₀ := H, env := compEnvC scope (clOf X.env scope.names []) s.heap.objs.size X.env, outer := X.stack, stack := X.stack, ex := fp, fn := fun _ => false, xe := fun _ _ => False }
def PTs (X : Cx) (ifs : List Expr) (t : TT) : Prop :=
 ∀ (pins : List (Addr × Obj)) (s : Shared) (σ : St) (H : Hp) (Q : Bool → Hp → Prop), Inv X pins σ H s → t σ H Q →
   wpAny (model X.prog X.w) X.A (forIn ifs true fun c r => if r = true then do let ok ← isTrue c X.env (eval c X.env); pure (ForInStep.yield ok) else pure (ForInStep.yield r)) (TP X pins σ Q) X.xe s
def tYes : TT := fun _ H Q => Q true H
theorem pts_nil {X : Cx} : PTs X [] tYes := fun _ _ _ H _ I h => wpAny_tests_nil ⟨H, I, h⟩
inductive Ext : St → St → Prop
 | nil : Ext [] []
 | no {σ τ : St} {a : Option V} : Ext σ τ → Ext (none :: σ) (a :: τ)
 | yes {σ τ : St} {v : V} : Ext σ τ → Ext (some v :: σ) (some v :: τ)
theorem Ext.len : ∀ {σ τ : St}, Ext σ τ → σ.length = τ.length
 | _, _, .nil => rfl
 | _, _, .no h => by simp [h.len]
 | _, _, .yes h => by simp [h.len]
theorem Ext.get : ∀ {σ τ : St}, Ext σ τ → ∀ (i : Nat) (v : V), σ[i]? = some (some v) → τ[i]? = some (some v)
 | _, _, .nil, i, v, e => e
 | _, _, .no h, 0, v, e => by simp at e
 | _, _, .no h, i + 1, v, e => by simpa using h.get i v (by simpa using e)
 | _, _, .yes h, 0, v, e => by simpa using e
 | _, _, .yes h, i + 1, v, e => by simpa using h.get i v (by simpa using e)
noncomputable def blkSt (k : Nat) (fm : List Nat) (σ : St) : St := List.replicate k none ++ fm.map fun j => (σ[j]?).join
def tComp (k : Nat) (fm : List Nat) (wi : TI) (g : TG) (tt : TT) (te : TE) : TE := fun σ H Q => wi σ H fun J H1 => ∀ D, H1 D = none → ∃ W : Nat → Nat → List V → Hp → Prop,
 (∃ m, W 0 m [] (upd H1 D (.lst []))) ∧ ∀ i m ys H2, W i m ys H2 → H2 D = some (.lst ys) ∧ ys.length < sizeLine ∧ ((J.stop i H2 ∧ Q (.ref D) H2) ∨ (J.go i H2 ∧ ∃ N : List V → Hp → Prop, (∀ ys' H', N ys' H' → ∃ m', m' < m ∧ W (i + 1) m' ys' H') ∧ ∀ x H3, J.yld i H2 x H3 →
   g x (blkSt k fm σ) H3 fun σ3 H4 => Ext (blkSt k fm σ) σ3 ∧ tt σ3 H4 fun b H5 => if b = true then te σ3 H5 fun y H6 => H6 D = some (.lst ys) ∧ N (ys ++ [y]) (upd H6 D (.lst (ys ++ [y]))) else N ys H5))
theorem Un.tail {fs ex : List Addr} {H H' : Hp} {h h1 h2 : Heap} {C : Addr} (u : Un fs ex H H' h h1) (k : ∀ b o, b ≠ C → h1.get? b = some o → h2.get? b = some o) (hC : h.get? C = none) : Un fs ex H H' h h2 := by
 have ne : ∀ b o, h.get? b = some o → b ≠ C := fun b o e z => by rw [z, hC] at e; cases e
 exact ⟨fun b o e n hf hx => k b o (ne b o e) (u.keep b o e n hf hx), fun b o e n hf hx => let ⟨sl, q⟩ := u.slot b o e n hf hx; ⟨sl, k b _ (ne b o e) q⟩, u.free,
   fun b o e hx => let ⟨o', q⟩ := u.there b o e hx; ⟨o', k b _ (ne b o e) q⟩, u.tups, u.frzs, u.tbls⟩
theorem HOk.tail {P : Program} {w : World} {H : Hp} {h1 h2 : Heap} {C : Addr} (ok : HOk P w H h1) (k : ∀ b o, b ≠ C → h1.get? b = some o → h2.get? b = some o) (hC : H C = none) : HOk P w H h2 := fun a o e => by
 have ne : ∀ b u, H b = some u → b ≠ C := fun b u q z => by rw [z, hC] at q; cases q
 refine (ok a o e).stay (fun b u hb q => k b u ?_ q) (fun _ q => q) fun _ _ q => q
 rcases hb with z | z
 · rw [z]; exact ne a o e
 · exact ne b _ z
theorem lookup_relabel {env : Env} : ∀ {names : List (Str × NameKind)} {x : Str} {k : NameKind},
   (names.map fun (n, k) => if (k == NameKind.free && env.scope.kind == .function && env.kindOf n == some .cell) then (n, NameKind.cell) else (n, k)).lookup x = some k → ∃ k', names.lookup x = some k' ∧ (k = k' ∨ (k' = .free ∧ k = .cell))
 | [], _, _, h => by simp at h
 | (n, k0) :: r, x, k, h => by
   have ih := @lookup_relabel env r x k
   have h : List.lookup x ((if (k0 == NameKind.free && env.scope.kind == .function && env.kindOf n == some .cell) = true then (n, NameKind.cell) else (n, k0)) :: (r.map fun (n, k) => if (k == NameKind.free && env.scope.kind == .function && env.kindOf n == some .cell) then (n, NameKind.cell) else (n, k))) = some k := h
   by_cases hc : (k0 == NameKind.free && env.scope.kind == .function && env.kindOf n == some .cell) = true
   · rw [if_pos hc, List.lookup_cons] at h
     have k0f : k0 = .free := by
       simp only [Bool.and_eq_true] at hc
       simpa using hc.1.1
     rw [List.lookup_cons]
     cases hx : x == n with
     | true => rw [hx] at h; injection h with h; exact ⟨k0, rfl, .inr ⟨k0f, h.symm⟩⟩
     | false => rw [hx] at h; exact ih h
   · rw [if_neg hc, List.lookup_cons] at h
     rw [List.lookup_cons]
     cases hx : x == n with
     | true => rw [hx] at h; injection h with h; exact ⟨k0, rfl, .inl h.symm⟩
     | false => rw [hx] at h; exact ih h
set_option genInjectivity false in
structure BlkScope (X : Cx) (N' : List Str) (k : Nat) (fm : List Nat) (scope : Scope) : Prop where
 kind : scope.kind = .function
 nocell : ∀ y ∈ scope.names, y.2 ≠ .cell
 names : ∀ y ∈ scope.names, y.2 = .local → scope.names.lookup y.1 = some .local
 free : ∀ y ∈ scope.names, y.2 = .free → X.env.kindOf y.1 = some .cell ∨ X.env.kindOf y.1 = some .free
 len : N'.length = k + fm.length
 slots : ∀ i x, k ≤ i → N'[i]? = some x → scope.names.lookup x = some .free ∧ ∃ j, fm[i - k]? = some j ∧ X.N[j]? = some x
section
variable {X : Cx} {pins : List (Addr × Obj)} {σ : St} {H : Hp} {s : Shared}
theorem Inv.block {N' : List Str} {k : Nat} {fm : List Nat} {scope : Scope} {fp : List Addr} {h' : Heap} {tk : Nat} (B : BlkScope X N' k fm scope) (I : Inv X pins σ H s) (hf : ∀ b ∈ fp, FpOk X pins H b) (ho : ∀ b ∈ fp, ∃ o, s.heap.get? b = some o)
   (ns : h'.Ns s.heap.objs.size (fun _ => none)) (kp : ∀ b o, s.heap.get? b = some o → h'.get? b = some o) : Inv (blk X N' scope fp s H) [] (blkSt k fm σ) H { s with heap := h', toks := tk } := by
 have hfree : ∀ x ∈ scope.names, x.2 = .free → ∃ c, X.env.cells.lookup x.1 = some c := fun x hx hk => I.ok.has x.1 (B.free x hx hk)
 have hcl : ∀ x c, (clOf X.env scope.names []).lookup x = some c → X.env.cells.lookup x = some c := clOf_ok scope.names [] hfree fun x c e => by simp at e
 have stk : ∀ b ∈ frs X.stack, b ∈ X.env.locals :: X.fs := I.stkSub
 have hC : H s.heap.objs.size = none := I.hok.fresh (Nat.le_refl _)
 have ok : (blk X N' scope fp s H).Ok := {
   mod := I.ok.mod
   kind := B.kind
   glob := I.ok.glob
   blt := I.ok.blt
   above := Nat.le_refl _
   inj := fun x y c h1 h2 => I.ok.inj x y c (hcl x c h1) (hcl y c h2)
   has := fun x hx => by
     have hx : (relabel scope X.env).names.lookup x = some .cell ∨ (relabel scope X.env).names.lookup x = some .free := hx
     have : scope.names.lookup x = some .free := by
       rcases hx with e | e
       · obtain ⟨k', e1, e2⟩ := lookup_relabel e
         rcases e2 with e2 | ⟨e2, _⟩
         · subst e2; exact absurd rfl (B.nocell _ (PySem.mem_of_lookup e1))
         · rw [e1, e2]
       · obtain ⟨k', e1, e2⟩ := lookup_relabel e
         rcases e2 with e2 | ⟨e2, e3⟩
         · rw [e1, e2]
         · rw [e1, e2]
     exact clOf_has scope.names [] x (PySem.mem_of_lookup this)
   cab := fun x c e => by cases e
   hd := I.ok.hd
   frames := I.ok.frames
   stk := .inl rfl
   exf := fun b hb => ⟨fun z => by
       obtain ⟨o, e⟩ := ho b hb
       have hlt := Heap.lt_size e
       rw [z] at hlt
       exact Nat.lt_irrefl _ hlt, fun x c e => (hf b hb).2.2.2.2.1 x c (hcl x c e)⟩
   bs := I.bs
   bsz := Nat.le_trans I.ok.bsz I.sz
   noex := fun b o e hb => by
     rcases (hf b hb).2.2.2.1 with z | z
     · exact I.ok.noex b o e z
     · exact absurd (Nat.lt_of_lt_of_le (Heap.lt_size e) (Nat.le_trans I.ok.bsz z)) (Nat.lt_irrefl _)
   exfs := fun b hb z => (List.mem_cons.mp (stk b z)).elim (hf b hb).2.1 (hf b hb).2.2.1
   funs := I.stack
   frf := I.stkFree }
 refine ⟨ok, rfl, I.bare, Un.kept kp, ⟨_, ns, fun i x v h1 h2 h3 => ?_⟩, fun x c e => ?_, hC, fun x c e => I.freeC x c (hcl x c e), fun p hp => ?_, I.hok.kept kp, ?_⟩
 · have hk : k ≤ i := by
     refine Nat.le_of_not_lt fun z => ?_
     unfold blkSt at h2
     rw [List.getElem?_append_left (by simpa using z), List.getElem?_replicate, if_pos z] at h2
     cases h2
   obtain ⟨e1, j, e2, e3⟩ := B.slots i x hk h1
   have e4 : σ[j]? = some (some v) := by
     unfold blkSt at h2
     rw [List.getElem?_append_right (by simpa using hk), List.length_replicate, List.getElem?_map, e2] at h2
     have h2 : some (σ[j]?).join = some (some v) := h2
     injection h2 with h2
     cases e : σ[j]? with
     | none => rw [e] at h2; cases h2
     | some o => rw [e] at h2; rw [show o = some v from h2]
   have kf := B.free (x, .free) (PySem.mem_of_lookup e1) rfl
   obtain ⟨m, hn, hl⟩ := I.loc
   obtain ⟨u, ru, lk⟩ := hl j x v e3 e4 (.inr kf)
   refine ⟨u, ru, .inr ⟨?_, ?_⟩⟩
   · have h3 : (relabel scope X.env).names.lookup x = some .local ∨ (relabel scope X.env).names.lookup x = some .cell ∨ (relabel scope X.env).names.lookup x = some .free := h3
     rcases h3 with z | z
     · obtain ⟨k', q1, q2⟩ := lookup_relabel z
       rw [e1] at q1
       injection q1 with q1
       subst q1
       rcases q2 with q2 | ⟨_, q2⟩ <;> cases q2
     · exact z
   · obtain ⟨c, hc⟩ := clOf_has (env := X.env) scope.names [] x (PySem.mem_of_lookup e1)
     refine ⟨c, hc, ?_⟩
     rcases lk with ⟨z, _⟩ | ⟨_, c', ec, ic⟩
     · rcases kf with y | y <;> (rw [z] at y; cases y)
     · rw [hcl x c hc] at ec
       injection ec with ec
       subst ec
       exact ic.keeps kp
 · obtain ⟨v, q⟩ := I.cell x c (hcl x c e)
   exact ⟨v, q.keeps kp⟩
 · obtain ⟨p1, p2, p3, p4, p5⟩ := I.pin p ((List.mem_append.mp hp).elim (fun z => List.mem_append_left _ z) fun z => absurd z (by simp))
   refine ⟨kp _ _ p1, p2, fun z => ?_, fun z => (List.mem_cons.mp (stk _ z)).elim p3 p4, p5⟩
   have hlt := Heap.lt_size p1
   rw [z] at hlt
   exact Nat.lt_irrefl _ hlt
 · show (blkSt k fm σ).length = N'.length
   unfold blkSt
   rw [List.length_append, List.length_replicate, List.length_map, B.len]
theorem blk_loop {X : Cx} {elt iter tg : Expr} {ifs : List Expr} {scope : Scope} {pos : Pos} {g : TG} {tt : TT} {te : TE} {J : It} {fp : List Addr} {it D : Addr} {tn : Nat → Heap → Prop} {σ0 : St} {H3 : Hp} {s4 : Shared} {Q : VK} {R : Result → Shared → Prop} {W : Nat → Nat → List V → Hp → Prop} {m0 : Nat}
   (hx : X.xe = fun _ _ => False) (hc : X.calm = true) (T : Turn X.prog X.w X.K tg J fp it tn) (stat : ∀ {H' : Hp}, (∀ b ∈ fp, H' b = none) → ∀ b ∈ fp, FpOk X [] H' b) (hg : PG X tg g) (ht : PTs X ifs tt) (he : PE X elt te)
   (turn : ∀ i m ys H2, W i m ys H2 → H2 D = some (.lst ys) ∧ ys.length < sizeLine ∧ ((J.stop i H2 ∧ Q (.ref D) H2) ∨ (J.go i H2 ∧ ∃ N : List V → Hp → Prop, (∀ ys' H', N ys' H' → ∃ m', m' < m ∧ W (i + 1) m' ys' H') ∧ ∀ x H3, J.yld i H2 x H3 →
     g x σ0 H3 fun σ3 H4 => Ext σ0 σ3 ∧ tt σ3 H4 fun b H5 => if b = true then te σ3 H5 fun y H6 => H6 D = some (.lst ys) ∧ N (ys ++ [y]) (upd H6 D (.lst (ys ++ [y]))) else N ys H5)))
   (I4 : Inv X [] σ0 H3 s4) (st4 : tn 0 s4.heap) (fr4 : ∀ b ∈ fp, H3 b = none) (w4 : W 0 m0 [] H3)
   (hR : ∀ H' s', Inv X [] σ0 H' s' → Q (.ref D) H' → R (.ok .next) s') :
   codeAny (model X.prog X.w) X.A (.compLoop (.ListComp elt [⟨tg, iter, ifs, 0⟩] scope pos) 0 (.ref it) (.ref D) X.env) R s4 := by
 refine compLoop_any (fun n s' => ∃ i ys H', Inv X [] σ0 H' s' ∧ tn i s'.heap ∧ (∀ b ∈ fp, H' b = none) ∧ W i n ys H') ?_ m0 ⟨0, [], H3, I4, st4, fr4, w4⟩
 rintro n s5 ⟨i, ys, H5, I5, st5, fr5, w5⟩
 obtain ⟨hD, hl, cs⟩ := turn i n ys H5 w5
 rcases cs with ⟨stop, q⟩ | ⟨go, N, hN, step⟩
 · refine thn (T.done X rfl rfl rfl hc i [] s5 σ0 H5 _ I5 (stat fr5) st5 stop) fun r s6 ⟨hr, I6⟩ => ?_
   subst hr
   exact hR H5 s6 I6 q
 · refine thn (T.item X rfl rfl rfl hc i [] s5 σ0 H5 _ I5 (stat fr5) st5 go) fun r s6 ⟨u, hr, h6⟩ => ?_
   subst hr
   refine thn h6 fun _ s7 ⟨x, H7, I7, r7, y7, st7, fr7⟩ => ?_
   have I7' := I7.pinned (stat fr7) (T.obj _ _ st7)
   have again : ∀ {σ' : St} {H' : Hp} {s' : Shared}, Ext σ0 σ' → Inv X ([] ++ pinsAt fp s7.heap) σ' H' s' → Inv X [] σ0 H' s' ∧ tn (i + 1) s'.heap ∧ ∀ b ∈ fp, H' b = none := fun {σ' H' s'} ex I' => by
     refine ⟨I'.unpinned.weak ex.len ex.get, T.keep _ _ _ st7 fun b hb o e => (I'.pin (b, o) (List.mem_append_right _ (List.mem_append_right _ (mem_pinsAt hb e)))).1, fun b hb => ?_⟩
     obtain ⟨o, e, d⟩ := T.obj _ _ st7 b hb
     exact (I'.pin (b, o) (List.mem_append_right _ (List.mem_append_right _ (mem_pinsAt hb e)))).2.1
   have w8 := hg _ s7 σ0 H7 x u _ I7' r7 (step x H7 y7)
   rw [hx] at w8
   refine thn w8 fun _ s8 ⟨σ8, H8, I8, ex8, q8⟩ => ?_
   have w9 := ht _ s8 σ8 H8 _ I8 q8
   rw [hx] at w9
   refine thn w9 fun ok s9 ⟨H9, I9, q9⟩ => ?_
   cases ok with
   | false =>
     obtain ⟨m', hm, w'⟩ := hN _ _ q9
     obtain ⟨a1, a2, a3⟩ := again ex8 I9
     exact ⟨m', hm, i + 1, ys, H9, a1, a2, a3, w'⟩
   | true =>
     have w10 := he _ s9 σ8 H9 _ I9 q9
     rw [hx] at w10
     refine thn w10 fun y s10 ⟨yv, H10, I10, r10, hD10, n10⟩ => ?_
     obtain ⟨m', hm, w'⟩ := hN _ _ n10
     have w11 := mt_append (X := X) _ s10 σ8 H10 (.ref D) [yv] (.ref D) [y] (fun v H' => v = .non ∧ H' = upd H10 D (.lst (ys ++ [yv]))) I10 rfl (.cons r10 .nil) ⟨D, ys, yv, rfl, rfl, hD10, hl, rfl, rfl⟩
     rw [hx] at w11
     refine thn w11 fun _ s11 ⟨_, H11, I11, _, _, e11⟩ => ?_
     subst e11
     obtain ⟨a1, a2, a3⟩ := again ex8 I11
     exact ⟨m', hm, i + 1, _, _, a1, a2, a3, w'⟩
theorem pe_comp {elt iter tg : Expr} {ifs : List Expr} {scope : Scope} {pos : Pos} {N' : List Str} {k : Nat} {fm : List Nat} {wi : TI} {g : TG} {tt : TT} {te : TE} (B : BlkScope X N' k fm scope) (hc : X.calm = true) (hi : PI X tg iter wi)
   (hb : ∀ fp s H, PG (blk X N' scope fp s H) tg g ∧ PTs (blk X N' scope fp s H) ifs tt ∧ PE (blk X N' scope fp s H) elt te)
   (hs : ∀ x, foldedSetIterable iter X.env x = pure x := by intro _; rfl) : PE X (.ListComp elt [⟨tg, iter, ifs, 0⟩] scope pos) (tComp k fm wi g tt te) := by
 intro pins s σ H Q I h
 have hfree : ∀ x ∈ scope.names, x.2 = .free → ∃ c, X.env.cells.lookup x.1 = some c := fun x hx hk => I.ok.has x.1 (B.free x hx hk)
 rw [eval_ListComp]
 refine wpAny_comprehension_free (use := none) rfl hs (closureFor_eq hfree) B.kind B.names (thn (hi pins s σ H _ I h) fun v s1 h1 => thn h1 fun itv s2 h2 => ?_)
 obtain ⟨it, fp, tn, J, H2, e, I2, T, st2, f2, h2⟩ := h2
 subst e
 obtain ⟨W, ⟨m0, w0⟩, turn⟩ := h2 s2.heap.objs.size I2.fresh
 refine wpAny_newObj_type (wpAny_newFunctionEnv B.nocell (by intro y hy; simp at hy) (fun h4 hns4 hsb4 => ?_) B.kind)
 have I3 := I2.lnew (its := []) (ys := []) (t' := s2.toks) .nil (Nat.zero_le _)
 have hf3 : ∀ b ∈ fp, FpOk X pins (upd H2 s2.heap.objs.size (.lst [])) b := fun b hb => by
   obtain ⟨o, e, _⟩ := T.obj _ _ st2 b hb
   refine ⟨?_, (f2 b hb).2⟩
   rw [upd_ne (fun z => Nat.lt_irrefl _ (z ▸ Heap.lt_size e))]
   exact (f2 b hb).1
 have ho3 : ∀ b ∈ fp, ∃ o, (s2.heap.push { cls := .type "list", data := .seq ([] : List Value).toArray }).get? b = some o := fun b hb => by
   obtain ⟨o, e, _⟩ := T.obj _ _ st2 b hb
   exact ⟨o, Heap.get?_push_of_some _ e⟩
 have kp4 : ∀ b o, (s2.heap.push { cls := .type "list", data := .seq ([] : List Value).toArray }).get? b = some o → h4.get? b = some o := fun b o e =>
   hsb4.extBut b o (fun z => Nat.lt_irrefl _ (z ▸ Heap.lt_size e)) (Heap.get?_push_of_some _ e)
 have I4 := I3.block (fp := fp) (h' := h4) (tk := s2.toks + ([] : List (Str × Value)).length) B hf3 ho3 hns4 kp4
 generalize hs3 : ({ s2 with heap := s2.heap.push { cls := .type "list", data := .seq ([] : List Value).toArray }, toks := s2.toks } : Shared) = s3 at *
 obtain ⟨hg, ht, he⟩ := hb fp s3 (upd H2 s2.heap.objs.size (.lst []))
 have st4 : tn 0 h4 := T.keep _ _ _ st2 fun b hb o e => kp4 b o (Heap.get?_push_of_some _ e)
 have stat : ∀ {H' : Hp}, (∀ b ∈ fp, H' b = none) → ∀ b ∈ fp, FpOk (blk X N' scope fp s3 (upd H2 s2.heap.objs.size (.lst []))) [] H' b := fun {H'} hn b hb => by
   obtain ⟨f0, f1, f3, f4, f5, f6⟩ := hf3 b hb
   obtain ⟨g1, g2⟩ := I4.ok.exf b hb
   exact ⟨hn b hb, g1, I4.ok.exfs b hb, .inl hb, g2, fun p hp => f6 p ((List.mem_append.mp hp).elim (fun z => List.mem_append_left _ z) fun z => absurd z (by simp))⟩
 have loop : codeAny (model X.prog X.w) X.A (.compLoop (.ListComp elt [⟨tg, iter, ifs, 0⟩] scope pos) 0 (.ref it) (.ref s2.heap.objs.size) (compEnvC scope (clOf X.env scope.names []) s3.heap.objs.size X.env))
     (compPost (model X.prog X.w) X.A X.xe none (EP X pins σ Q) (.ref s2.heap.objs.size) s3.heap.objs.size) { s3 with heap := h4, toks := s2.toks + ([] : List (Str × Value)).length } := by
   refine blk_loop (X := blk X N' scope fp s3 (upd H2 s2.heap.objs.size (.lst []))) (D := s2.heap.objs.size) (Q := Q) (W := W) (m0 := m0) rfl hc T stat hg ht he turn I4 st4 (fun b hb => (hf3 b hb).1) w0 ?_
   intro H' s' I' q
   obtain ⟨m, hn, _⟩ := I'.loc
   refine ⟨m, hn, fun h'' hs'' => ?_⟩
   have hC : s3.heap.get? s3.heap.objs.size = none := by
     cases e : s3.heap.get? s3.heap.objs.size with
     | none => rfl
     | some o => exact absurd (Heap.lt_size e) (Nat.lt_irrefl _)
   have u : Un (frs X.stack) fp (upd H2 s2.heap.objs.size (.lst [])) H' s3.heap h'' := Un.tail I'.base (fun b o hb e => hs''.extBut b o hb e) hC
   refine ⟨.ref s2.heap.objs.size, H', ?_, rfl, q⟩
   refine I3.call' (s' := { s' with heap := h'' }) (ch := fp) I'.os u (I'.hok.tail (fun b o hb e => hs''.extBut b o hb e) I'.free) I'.bare fun b hb => ?_
   obtain ⟨f0, f1, f3, f4, f5, f6⟩ := hf3 b hb
   exact ⟨f4, f1, f5, f6⟩
 subst hs3
 exact codeAny_compStart_list loop (T.self X.A 0 _ _ _ st4 loop)
end
end L2
namespace L2
open PySem PySem.Spec PyProof.Rows
noncomputable def Its (z : Str) : It := ⟨fun i _ => i < z.cps.size, fun i H x H' => H' = H ∧ ∃ c, z.cps[i]? = some c ∧ x = .str ⟨#[c]⟩, fun i _ => z.cps.size ≤ i⟩
theorem turn_str {P : Program} {w : World} {K : PySem.W.Frag} {tg : Expr} (it : Addr) (z : Str) (t : Tok) (n : String) (hn : n = "str_ascii_iterator" ∨ n = "str_iterator") :
   Turn P w K tg (Its z) [it] it (fun i h => h.IsStrIter it n z t i) where
 mem := by simp
 obj := fun i h st b hb => by
   have e : b = it := by simpa using hb
   subst e
   obtain ⟨o, ho, _, hd⟩ := st
   exact ⟨o, ho, fun v z => by rw [hd] at z; cases z⟩
 keep := fun i h h' st k => let ⟨o, ho, r⟩ := st; ⟨o, k it (by simp) o ho, r⟩
 item := by
   intro X hP hw hK hc i pins s σ H E I hf st hg
   subst hP hw hK
   obtain ⟨f0, f1, f2, f3, f4, f5⟩ := hf it (by simp)
   have main : ∀ (W : Walks X.prog X.w X.A it [it] [it] z.cps.size (SignAt z) (fun i h => h.IsStrIter it n z t i)),
     wpAny (model X.prog X.w) X.A (pyNext (.ref it)) (fun r s1 => ∃ u, r = some u ∧
       wpAny (model X.prog X.w) X.A (letOwnedTupleGo tg (.ref it) u) (fun _ s2 => ∃ x H', Inv X pins σ H' s2 ∧ RelV x u ∧ (Its z).yld i H x H' ∧ s2.heap.IsStrIter it n z t (i + 1) ∧ ∀ b ∈ [it], H' b = none) E s1) E s := by
     intro W
     refine W.item i s _ _ hg st fun v h' tk hv st' kk => ?_
     obtain ⟨c, u, hcx, rfl⟩ := hv
     have I1 : Inv X pins σ H { s with heap := h', toks := tk } := I.turned (fun b o hb e => kk b o (by simpa using hb) e) f0 f1 f3 f4 f5
     obtain ⟨o, ho, hcl, hd⟩ := id st'
     refine ⟨_, rfl, go_of (s := { s with heap := h', toks := tk }) (n := n) ho hcl hd (by rcases hn with e | e <;> subst e <;> decide) ⟨.str ⟨#[c]⟩, H, I1, ⟨u, rfl⟩, ⟨rfl, c, hcx, rfl⟩, st', fun b hb => (hf b hb).1⟩⟩
   rcases hn with e | e
   · subst e; exact main (Walks.strAscii (I.ok.hd hc) it z t)
   · subst e; exact main (Walks.strWide (I.ok.hd hc) it z t)
 done := by
   intro X hP hw hK hc i pins s σ H E I hf st hg
   subst hP hw hK
   obtain ⟨f0, f1, f2, f3, f4, f5⟩ := hf it (by simp)
   have hi : z.cps[i]? = none := Array.getElem?_eq_none hg
   rcases hn with e | e
   · subst e; exact wpAny_pyNext_ascii_end (I.ok.hd hc) st hi fun h' he' => ⟨rfl, I.turned (t' := s.toks) (fun b o hb e => he' b o hb e) f0 f1 f3 f4 f5⟩
   · subst e; exact wpAny_pyNext_wide_end (I.ok.hd hc) st hi fun h' he' => ⟨rfl, I.turned (t' := s.toks) (fun b o hb e => he' b o hb e) f0 f1 f3 f4 f5⟩
 self := fun _ _ _ _ _ st h => by
   rcases hn with e | e
   · subst e; exact wpAny_pyIter_striter_ascii st h
   · subst e; exact wpAny_pyIter_striter_wide st h
section
variable {X : Cx} {tg : Expr}
def iStr (tl : TE) : TI := fun σ H R => tl σ H fun x H1 => ∃ z, x = .str z ∧ R (Its z) H1
theorem pi_str {l : Expr} {tl : TE} (hl : PE X l tl) : PI X tg l (iStr tl) := by
 intro pins s σ H R I h
 refine thn (hl pins s σ H _ I h) fun v s1 ⟨x, H1, I1, r, z, ez, q⟩ => ?_
 subst ez
 obtain ⟨t, rfl⟩ := r
 have fin : ∀ (n : String) (hn : n = "str_ascii_iterator" ∨ n = "str_iterator"), PIE X pins σ tg R (.ref s1.heap.objs.size) { s1 with heap := s1.heap.push { cls := .type n, data := .fields #[.str z t, .int 0 0] } } := fun n hn =>
   ⟨s1.heap.objs.size, [s1.heap.objs.size], _, _, H1, rfl, I1.kept (t' := s1.toks) fun b o e => Heap.get?_push_of_some _ e, turn_str _ z t n hn, ⟨_, Heap.get?_push_size _ rfl, rfl, rfl⟩, fun b hb => by
     have e : b = s1.heap.objs.size := by simpa using hb
     subst e
     exact I1.fpOk (Nat.le_refl _) (I1.hok.fresh (Nat.le_refl _)), q⟩
 cases ha : z.cps.all (· < 128)
 · exact wpAny_pyIter_wide ha (fin _ (.inr rfl))
 · exact wpAny_pyIter_ascii ha (fin _ (.inl rfl))
end
section
variable {X : Cx}
noncomputable def rSlS : V → Option Int → Option Int → Hp → VK → Prop := fun x lo hi H Q => ∃ z, x = .str z ∧ z.length ≤ sizeLine ∧ Q (.str (Txt.slice z lo hi)) H
theorem sl_str : SlR X rSlS := by
 intro pins s σ H x v vl vu lo hi sl Q I rx hs pl pu h
 obtain ⟨z, rfl, hz, q⟩ := h
 obtain ⟨t, rfl⟩ := rx
 refine ⟨"str", _, F.slot_str_getitem.lookup, typeIs_str _ _ _, ?_⟩
 have fin : ∀ t' k, EP X pins σ Q (.str (Txt.slice z lo hi) t') { s with toks := k } := fun t' k => ⟨.str (Txt.slice z lo hi), H, I.tok k, ⟨t', rfl⟩, q⟩
 obtain ⟨o, ho, hc, hd⟩ := hs
 cases pl with
 | none =>
   cases pu with
   | none => exact wpAny_getItem_str_slice (l := none) (u := none) (st := none) ⟨o, ho, hc, hd⟩ rfl (post_val_or_str ⟨Nat.le_trans (Txt.slice_le z _ _) hz, fun t' k => fin t' k⟩)
   | int j uj => exact wpAny_getItem_str_slice (l := none) (u := some (j, uj)) (st := none) ⟨o, ho, hc, hd⟩ rfl (post_val_or_str ⟨Nat.le_trans (Txt.slice_le z _ _) hz, fun t' k => fin t' k⟩)
 | int i ui =>
   cases pu with
   | none => exact wpAny_getItem_str_slice (l := some (i, ui)) (u := none) (st := none) ⟨o, ho, hc, hd⟩ rfl (post_val_or_str ⟨Nat.le_trans (Txt.slice_le z _ _) hz, fun t' k => fin t' k⟩)
   | int j uj => exact wpAny_getItem_str_slice (l := some (i, ui)) (u := some (j, uj)) (st := none) ⟨o, ho, hc, hd⟩ rfl (post_val_or_str ⟨Nat.le_trans (Txt.slice_le z _ _) hz, fun t' k => fin t' k⟩)
noncomputable def rAll (K : PySem.W.Frag) : List V → Hp → VK → Prop := fun xs H Q => ∃ (a : Addr) (bs : List Bool), xs = [.ref a] ∧ SqL K H a (bs.map V.bl) ∧ Q (.bl (bs.all id)) H
theorem Vals.bl_get {bs : List Bool} {us : List Value} (r : Vals (bs.map V.bl) us) {i : Nat} {v : Value} (h : us[i]? = some v) : ∃ b, bs[i]? = some b ∧ v = .bool b := by
 have hi : i < us.length := (List.getElem?_eq_some_iff.mp h).1
 have hl := r.length
 rw [List.length_map] at hl
 have hb : bs[i]? = some bs[i] := List.getElem?_eq_getElem (by omega)
 obtain ⟨u, hu, ru⟩ := r.get (i := i) (x := .bl bs[i]) (by rw [List.getElem?_map, hb]; rfl)
 rw [h] at hu
 cases hu
 exact ⟨_, hb, ru⟩
theorem call_all (hc : X.calm = true) : CallR X (.builtin "all") (rAll X.K) := by
 intro pins s σ H xs us Q I r h
 obtain ⟨a, bs, rfl, hs, q⟩ := h
 obtain ⟨u, rfl, ru⟩ := vals1 r
 cases ru
 obtain ⟨its, rv, p, hz⟩ := I.list hs
 have hne : a ≠ s.heap.objs.size := fun z => by
   obtain ⟨o, n, e, _⟩ := p
   exact Nat.lt_irrefl _ (z ▸ Heap.lt_size e)
 have hh : (X.A.in1).handled = none := I.ok.hd hc
 refine call_all_walk (wpAny_pyIter_list p.isList ?_)
 refine ⟨s.heap.objs.size, _, _, _, _, _, fun i => (bs[i]?).getD true, rfl, Walks.list hh s.heap.objs.size a hne its.toArray, ⟨⟨_, Heap.get?_push_size _ rfl, rfl, rfl⟩, ?_⟩, ?_, ?_⟩
 · obtain ⟨o, n, e, e1, e2, e3⟩ := p
   exact ⟨o, Heap.get?_push_of_some _ e, e1, n, e3⟩
 · intro i v s' Q' E' hP hQ
   obtain ⟨b, hb, rfl⟩ := rv.bl_get (i := i) (v := v) (by simpa using hP)
   have hQ : Q' ((bs[i]?).getD true) s' := hQ
   rw [hb] at hQ
   exact wpAny_truthy_bool hQ
 · intro h' tk kk
   have e1 : (List.range its.toArray.size).all (fun i => (bs[i]?).getD true) = bs.all id := by
     have hl := rv.length
     rw [List.length_map] at hl
     rw [List.size_toArray, ← hl, Bool.eq_iff_iff, List.all_eq_true, List.all_eq_true]
     constructor
     · intro hall b hb
       obtain ⟨i, hi, e⟩ := List.getElem_of_mem hb
       have := hall i (by simpa using hi)
       rw [List.getElem?_eq_getElem hi] at this
       rw [← e]; exact this
     · intro hall i hi
       have hi' : i < bs.length := by simpa using hi
       show (bs[i]?).getD true = true
       rw [List.getElem?_eq_getElem hi']
       exact hall _ (List.getElem_mem hi')
   rw [e1]
   refine ⟨.bl (bs.all id), H, ?_, rfl, q⟩
   exact I.kept fun b o e => kk b o (by simpa using fun z => Nat.lt_irrefl _ (z ▸ Heap.lt_size e)) (Heap.get?_push_of_some _ e)
noncomputable def rIsi (K : PySem.W.Frag) : List V → Hp → VK → Prop := fun xs H Q => ∃ x n t b, xs = [x, .ty n] ∧ TyOf K H x t ∧ PySem.W.kitOne K t (.type n) = some b ∧ Q (.bl b) H
theorem call_isi : CallR X (.builtin "isinstance") (rIsi X.K) := by
 intro pins s σ H xs us Q I r h
 obtain ⟨x, n, t, b, rfl, ty, e, q⟩ := h
 obtain ⟨u, u2, rfl, ru, ru2⟩ := vals2 r
 cases ru2
 exact isinst_ok I ru ty e fun tk => ⟨.bl b, H, I.tok tk, rfl, q⟩
def rCatS (K : PySem.W.Frag) : R2 := fun x y H Q => ∃ l b xs zs, x = .ref l ∧ y = .ref b ∧ SqL K H l xs ∧ SqL K H b zs ∧ xs.length + zs.length ≤ sizeLine ∧ ∀ p, H p = none → Q (.ref p) (upd H p (.lst (xs ++ zs)))
theorem op_catS : OpR X (binaryOp .Add) (rCatS X.K) := by
 intro pins s σ H x y v u Q I rx ry h
 obtain ⟨l, b, xs, zs, rfl, rfl, hH, hB, hz, q⟩ := h
 cases rx
 cases ry
 obtain ⟨vs, r, p, z⟩ := I.list hH
 obtain ⟨ws, r2, p2, z2⟩ := I.list hB
 have l1 := r.length
 have l2 := r2.length
 obtain ⟨⟨cls, dd, data, sl⟩, n, ho, hc, hdd, hd⟩ := p
 obtain ⟨⟨cls2, dd2, data2, sl2⟩, n2, ho2, hc2, hdd2, hd2⟩ := p2
 simp only at hc hd hc2 hd2
 subst hc hd hc2 hd2
 have e : vs.toArray ++ ws.toArray = (vs ++ ws).toArray := by simp
 refine concat_meets ⟨_, ho, rfl⟩ ⟨_, ho2, rfl⟩ noFill_list_add seq_list_add PySem.F.slot_list_add PySem.F.entry_list_add (PySem.F.args_list_add_2 _ _) (list_addW l b vs.toArray ws.toArray n n2 dd dd2 sl sl2 (by simp; omega)) ⟨ho, ho2, ?_⟩
 rw [e]
 exact ⟨.ref _, _, I.lnew (t' := s.toks) (r.append r2) (by rw [List.length_append]; omega), rfl, q _ I.fresh⟩
end
end L2
namespace L2
open PySem PySem.Spec PyProof.Rows
inductive Slots (X : Cx) (scope : Scope) : List Str → List Nat → Prop
 | nil : Slots X scope [] []
 | cons {x : Str} {j : Nat} {xs : List Str} {js : List Nat} (h1 : scope.names.lookup x = some .free) (h2 : X.env.kindOf x = some .cell ∨ X.env.kindOf x = some .free) (h3 : X.N[j]? = some x) (r : Slots X scope xs js) : Slots X scope (x :: xs) (j :: js)
theorem Slots.len {X : Cx} {scope : Scope} : ∀ {xs : List Str} {js : List Nat}, Slots X scope xs js → xs.length = js.length
 | _, _, .nil => rfl
 | _, _, .cons _ _ _ r => by simp [r.len]
theorem Slots.kind {X : Cx} {scope : Scope} : ∀ {xs : List Str} {js : List Nat}, Slots X scope xs js → ∀ x ∈ xs, X.env.kindOf x = some .cell ∨ X.env.kindOf x = some .free
 | _, _, .nil, x, h => absurd h (by simp)
 | _, _, .cons _ h2 _ r, x, h => by
   rcases List.mem_cons.mp h with e | e
   · subst e; exact h2
   · exact r.kind x e
theorem Slots.get {X : Cx} {scope : Scope} : ∀ {xs : List Str} {js : List Nat}, Slots X scope xs js → ∀ (i : Nat) (x : Str), xs[i]? = some x → scope.names.lookup x = some .free ∧ ∃ j, js[i]? = some j ∧ X.N[j]? = some x
 | _, _, .nil, i, x, h => by simp at h
 | _, _, .cons h1 _ h3 r, 0, x, h => by
   simp only [List.getElem?_cons_zero, Option.some.injEq] at h
   subst h
   exact ⟨h1, _, by simp, h3⟩
 | _, _, .cons _ _ _ r, i + 1, x, h => by simpa using r.get i x (by simpa using h)
theorem blk_mk {X : Cx} {own fr : List Str} {fm : List Nat} {scope : Scope} (kind : scope.kind = .function) (h1 : ∀ y ∈ scope.names, y.2 ≠ .cell) (h2 : ∀ y ∈ scope.names, y.2 = .local → scope.names.lookup y.1 = some .local)
   (h3 : ∀ y ∈ scope.names, y.2 = .free → y.1 ∈ fr) (S : Slots X scope fr fm) : BlkScope X (own ++ fr) own.length fm scope :=
 ⟨kind, h1, h2, fun y hy hk => S.kind y.1 (h3 y hy hk), by rw [List.length_append, S.len], fun i x hi h => by
   rw [List.getElem?_append_right hi] at h
   exact S.get _ x h⟩
section
variable {X : Cx}
theorem op_notInA : OpR X (compareOp .NotIn) (fun x y H Q => (∃ i j, x = .str i ∧ y = .str j ∧ Q (.bl (!(!(Builtin.Str.occurrences j i 0 j.length 1).isEmpty))) H) ∨ rIn X.K true x y H Q) := op_notin_str.or op_notIn_seq
theorem sl_any : SlR X (fun x lo hi H Q => rSlL X.K x lo hi H Q ∨ rSlT X.K x lo hi H Q ∨ rSlS x lo hi H Q) := sl_list.or (sl_tup.or sl_str)
end
theorem comp_str {z : Str} {g : TG} {tt : TT} {te : TE} {σ0 : St} {H : Hp} {D : Addr} {Q : VK} (hz : z.cps.size < sizeLine) (Pv : Nat → List V → Hp → Prop) (h0 : Pv 0 [] (upd H D (.lst [])))
   (hl : ∀ i ys H, i ≤ z.cps.size → Pv i ys H → H D = some (.lst ys) ∧ ys.length ≤ i)
   (hs : ∀ i c ys H, z.cps[i]? = some c → Pv i ys H → g (.str ⟨#[c]⟩) σ0 H fun σ3 H4 => Ext σ0 σ3 ∧ tt σ3 H4 fun b H5 => if b = true then te σ3 H5 fun y H6 => H6 D = some (.lst ys) ∧ Pv (i + 1) (ys ++ [y]) (upd H6 D (.lst (ys ++ [y]))) else Pv (i + 1) ys H5)
   (hd : ∀ ys H, Pv z.cps.size ys H → Q (.ref D) H) :
   ∃ W : Nat → Nat → List V → Hp → Prop, (∃ m, W 0 m [] (upd H D (.lst []))) ∧ ∀ i m ys H2, W i m ys H2 → H2 D = some (.lst ys) ∧ ys.length < sizeLine ∧ (((Its z).stop i H2 ∧ Q (.ref D) H2) ∨ ((Its z).go i H2 ∧ ∃ N : List V → Hp → Prop, (∀ ys' H', N ys' H' → ∃ m', m' < m ∧ W (i + 1) m' ys' H') ∧ ∀ x H3, (Its z).yld i H2 x H3 →
     g x σ0 H3 fun σ3 H4 => Ext σ0 σ3 ∧ tt σ3 H4 fun b H5 => if b = true then te σ3 H5 fun y H6 => H6 D = some (.lst ys) ∧ N (ys ++ [y]) (upd H6 D (.lst (ys ++ [y]))) else N ys H5)) := by
 refine ⟨fun i m ys H => m = z.cps.size - i ∧ i ≤ z.cps.size ∧ Pv i ys H, ⟨z.cps.size, by simp, Nat.zero_le _, h0⟩, ?_⟩
 rintro i m ys H2 ⟨rfl, hi, p⟩
 obtain ⟨l1, l2⟩ := hl i ys H2 hi p
 refine ⟨l1, by omega, ?_⟩
 by_cases hlt : i < z.cps.size
 · refine .inr ⟨hlt, Pv (i + 1), fun ys' H' p' => ⟨_, (by omega : z.cps.size - (i + 1) < z.cps.size - i), rfl, hlt, p'⟩, fun x H3 y => ?_⟩
   obtain ⟨e, c, hc, ex⟩ := y
   subst e ex
   exact hs i c ys _ hc p
 · have e : i = z.cps.size := by omega
   subst e
   exact .inl ⟨Nat.le_refl _, hd ys H2 p⟩
def ForW (g : TG) (tb : TS) (D : Ends) (σ : St) (J : It) (H1 : Hp) : Prop := ∃ W : Nat → Nat → St → Hp → Prop, (∃ m, W 0 m σ H1) ∧ ∀ i m σ H, W i m σ H →
 (J.stop i H ∧ D.nx σ H) ∨ (J.go i H ∧ ∃ N : St → Hp → Prop, (∀ σ' H', N σ' H' → ∃ m', m' < m ∧ W (i + 1) m' σ' H') ∧ ∀ x H', J.yld i H x H' → g x σ H' fun σ2 H2 => tb { D with nx := N, ct := N, bk := D.nx } σ2 H2)
def ForL (K : PySem.W.Frag) (g : TG) (tb : TS) (D : Ends) (σ : St) : VK := fun x H1 => ∃ a, x = .ref a ∧ (∃ xs, SqL K H1 a xs) ∧ ForW g tb D σ (Itl K a) H1
def ForT (K : PySem.W.Frag) (g : TG) (tb : TS) (D : Ends) (σ : St) : VK := fun x H1 => ∃ a, x = .ref a ∧ (∃ xs, SqT K H1 a xs) ∧ ForW g tb D σ (Itt K a) H1
def ForS (g : TG) (tb : TS) (D : Ends) (σ : St) : VK := fun x H1 => ∃ z, x = .str z ∧ ForW g tb D σ (Its z) H1
noncomputable def ForR (g : TG) (tb : TS) (D : Ends) (σ : St) : List V → Hp → Prop := fun vs H1 => ∃ j : Int, vs = [.int j] ∧ -(2 ^ 62) ≤ j ∧ j < 2 ^ 62 ∧ ForW g tb D σ (Itr 0 j.toNat) H1
noncomputable def ForR2 (g : TG) (tb : TS) (D : Ends) (σ : St) : List V → Hp → Prop := fun vs H1 => ∃ i j : Int, vs = [.int i, .int j] ∧ (-(2 ^ 62) ≤ i ∧ i < 2 ^ 62 ∧ -(2 ^ 62) ≤ j ∧ j < 2 ^ 62) ∧ ForW g tb D σ (Itr i (j - i).toNat) H1
section
variable {K : PySem.W.Frag} {te : TE} {ta : TA} {g : TG} {tb : TS} {D : Ends} {σ : St} {H : Hp}
theorem tFor_list : tFor (iList K te) g tb D σ H = te σ H (ForL K g tb D σ) := rfl
theorem tFor_tup : tFor (iTup K te) g tb D σ H = te σ H (ForT K g tb D σ) := rfl
theorem tFor_str : tFor (iStr te) g tb D σ H = te σ H (ForS g tb D σ) := rfl
theorem tFor_rng1 : tFor (iRng1 ta) g tb D σ H = ta σ H (ForR g tb D σ) := rfl
theorem tFor_rng2 : tFor (iRng2 ta) g tb D σ H = ta σ H (ForR2 g tb D σ) := rfl
theorem ForL.of {a : Addr} {xs : List V} (Pv : Nat → St → Hp → Prop) (h0 : Pv 0 σ H) (hl : ∀ i σ H, i ≤ xs.length → Pv i σ H → SqL K H a xs)
   (hs : ∀ i x σ H, xs[i]? = some x → Pv i σ H → g x σ H fun σ2 H2 => tb { D with nx := Pv (i + 1), ct := Pv (i + 1), bk := D.nx } σ2 H2) (hd : ∀ σ H, Pv xs.length σ H → D.nx σ H) : ForL K g tb D σ (.ref a) H :=
 ⟨a, rfl, ⟨xs, hl 0 _ _ (Nat.zero_le _) h0⟩, for_list Pv h0 hl hs hd⟩
theorem ForR.of {n : Int} (h1 : n < 2 ^ 62) (h2 : -(2 ^ 62) ≤ n) (Pv : Nat → St → Hp → Prop) (h0 : Pv 0 σ H)
   (hs : ∀ i σ H, i < n.toNat → Pv i σ H → g (.int (i : Int)) σ H fun σ2 H2 => tb { D with nx := Pv (i + 1), ct := Pv (i + 1), bk := D.nx } σ2 H2) (hd : ∀ σ H, Pv n.toNat σ H → D.nx σ H) : ForR g tb D σ [.int n] H :=
 ⟨n, rfl, h2, h1, for_range (n := n.toNat) Pv h0 (fun i σ H hi p => by
   have e : (0 : Int) + (i : Int) = i := by omega
   rw [e]; exact hs i σ H hi p) hd⟩
end
def CompW (g : TG) (tt : TT) (te : TE) (σ0 : St) (Q : VK) (J : It) (H1 : Hp) : Prop := ∀ DD, H1 DD = none → ∃ W : Nat → Nat → List V → Hp → Prop,
 (∃ m, W 0 m [] (upd H1 DD (.lst []))) ∧ ∀ i m ys H2, W i m ys H2 → H2 DD = some (.lst ys) ∧ ys.length < sizeLine ∧ ((J.stop i H2 ∧ Q (.ref DD) H2) ∨ (J.go i H2 ∧ ∃ N : List V → Hp → Prop, (∀ ys' H', N ys' H' → ∃ m', m' < m ∧ W (i + 1) m' ys' H') ∧ ∀ x H3, J.yld i H2 x H3 →
   g x σ0 H3 fun σ3 H4 => Ext σ0 σ3 ∧ tt σ3 H4 fun b H5 => if b = true then te σ3 H5 fun y H6 => H6 DD = some (.lst ys) ∧ N (ys ++ [y]) (upd H6 DD (.lst (ys ++ [y]))) else N ys H5))
def CompL (K : PySem.W.Frag) (g : TG) (tt : TT) (te : TE) (σ0 : St) (Q : VK) : VK := fun x H1 => ∃ a, x = .ref a ∧ (∃ xs, SqL K H1 a xs) ∧ CompW g tt te σ0 Q (Itl K a) H1
def CompT (K : PySem.W.Frag) (g : TG) (tt : TT) (te : TE) (σ0 : St) (Q : VK) : VK := fun x H1 => ∃ a, x = .ref a ∧ (∃ xs, SqT K H1 a xs) ∧ CompW g tt te σ0 Q (Itt K a) H1
def CompS (g : TG) (tt : TT) (te : TE) (σ0 : St) (Q : VK) : VK := fun x H1 => ∃ z, x = .str z ∧ CompW g tt te σ0 Q (Its z) H1
noncomputable def CompR (g : TG) (tt : TT) (te : TE) (σ0 : St) (Q : VK) : List V → Hp → Prop := fun vs H1 => ∃ j : Int, vs = [.int j] ∧ -(2 ^ 62) ≤ j ∧ j < 2 ^ 62 ∧ CompW g tt te σ0 Q (Itr 0 j.toNat) H1
section
variable {K : PySem.W.Frag} {k : Nat} {fm : List Nat} {tl te : TE} {ta : TA} {g : TG} {tt : TT} {σ σ0 : St} {H H1 : Hp} {Q : VK}
theorem tComp_list : tComp k fm (iList K tl) g tt te σ H Q = tl σ H (CompL K g tt te (blkSt k fm σ) Q) := rfl
theorem tComp_tup : tComp k fm (iTup K tl) g tt te σ H Q = tl σ H (CompT K g tt te (blkSt k fm σ) Q) := rfl
theorem tComp_str : tComp k fm (iStr tl) g tt te σ H Q = tl σ H (CompS g tt te (blkSt k fm σ) Q) := rfl
theorem tComp_rng1 : tComp k fm (iRng1 ta) g tt te σ H Q = ta σ H (CompR g tt te (blkSt k fm σ) Q) := rfl
theorem CompS.of {z : Str} (hz : z.cps.size < sizeLine) (Pv : Addr → Nat → List V → Hp → Prop) (h0 : ∀ D, H1 D = none → Pv D 0 [] (upd H1 D (.lst [])))
   (hl : ∀ D i ys H', H1 D = none → i ≤ z.cps.size → Pv D i ys H' → H' D = some (.lst ys) ∧ ys.length ≤ i)
   (hs : ∀ D i c ys H', H1 D = none → z.cps[i]? = some c → Pv D i ys H' → g (.str ⟨#[c]⟩) σ0 H' fun σ3 H4 => Ext σ0 σ3 ∧ tt σ3 H4 fun b H5 => if b = true then te σ3 H5 fun y H6 => H6 D = some (.lst ys) ∧ Pv D (i + 1) (ys ++ [y]) (upd H6 D (.lst (ys ++ [y]))) else Pv D (i + 1) ys H5)
   (hd : ∀ D ys H', H1 D = none → Pv D z.cps.size ys H' → Q (.ref D) H') : CompS g tt te σ0 Q (.str z) H1 :=
 ⟨z, rfl, fun D hD => comp_str hz (Pv D) (h0 D hD) (fun i ys H' => hl D i ys H' hD) (fun i c ys H' => hs D i c ys H' hD) fun ys H' => hd D ys H' hD⟩
end
end L2
namespace L2
open PySem PySem.Spec PyProof.Rows
inductive D where
 | non | bl (b : Bool) | int (i : Int) | str (z : Str) | lst (xs : List D) | tup (xs : List D)
mutual
noncomputable def Rep (K : PySem.W.Frag) (H : Hp) : D → V → Prop
 | .non, v => v = .non
 | .bl b, v => v = .bl b
 | .int i, v => v = .int i
 | .str z, v => v = .str z
 | .lst ds, v => ∃ a xs, v = .ref a ∧ SqL K H a xs ∧ RepL K H ds xs
 | .tup ds, v => ∃ a xs, v = .ref a ∧ SqT K H a xs ∧ RepL K H ds xs
noncomputable def RepL (K : PySem.W.Frag) (H : Hp) : List D → List V → Prop
 | [], xs => xs = []
 | d :: ds, xs => ∃ y ys, xs = y :: ys ∧ Rep K H d y ∧ RepL K H ds ys
end
mutual
noncomputable def deq : D → D → Bool
 | .non, .non => true
 | .bl a, .bl b => a == b
 | .bl a, .int b => (if a then 1 else 0) == b
 | .int a, .bl b => a == (if b then 1 else 0)
 | .int a, .int b => a == b
 | .str a, .str b => a == b
 | .lst a, .lst b => deqL a b
 | .tup a, .tup b => deqL a b
 | _, _ => false
noncomputable def deqL : List D → List D → Bool
 | [], [] => true
 | a :: as, b :: bs => deq a b && deqL as bs
 | _, _ => false
end
mutual
noncomputable def dep : D → Nat
 | .lst ds => depL ds + 1
 | .tup ds => depL ds + 1
 | _ => 0
noncomputable def depL : List D → Nat
 | [] => 0
 | d :: ds => max (dep d) (depL ds)
end
mutual
theorem deq_refl : ∀ d : D, deq d d = true
 | .non => rfl
 | .bl a => by simp [deq]
 | .int a => by simp [deq]
 | .str a => by simp [deq]
 | .lst a => by simp only [deq]; exact deqL_refl a
 | .tup a => by simp only [deq]; exact deqL_refl a
theorem deqL_refl : ∀ ds : List D, deqL ds ds = true
 | [] => rfl
 | d :: ds => by simp only [deqL, deq_refl d, deqL_refl ds, Bool.and_self]
end
theorem RepL.len {K : PySem.W.Frag} {H : Hp} : ∀ {ds : List D} {xs : List V}, RepL K H ds xs → ds.length = xs.length
 | [], xs, h => by simp only [RepL] at h; subst h; rfl
 | d :: ds, xs, h => by
   simp only [RepL] at h
   obtain ⟨y, ys, rfl, _, r⟩ := h
   simp [r.len]
noncomputable def eAt (ds es : List D) (j : Nat) : Bool := match ds[j]?, es[j]? with
 | some d, some e => deq d e
 | _, _ => true
theorem eAt_all : ∀ (ds es : List D), ((List.range (min ds.length es.length)).all (eAt ds es) && ds.length == es.length) = deqL ds es
 | [], [] => by simp [deqL]
 | [], e :: es => by simp [deqL]
 | d :: ds, [] => by simp [deqL]
 | d :: ds, e :: es => by
   have ih := eAt_all ds es
   have h1 : min (d :: ds).length (e :: es).length = min ds.length es.length + 1 := by simp only [List.length_cons]; omega
   rw [h1, List.range_succ_eq_map, List.all_cons, List.all_map]
   have h2 : (eAt (d :: ds) (e :: es) ∘ Nat.succ) = eAt ds es := by funext j; simp [eAt]
   have h3 : eAt (d :: ds) (e :: es) 0 = deq d e := by simp [eAt]
   rw [h2, h3]
   simp only [deqL, ← ih, List.length_cons, Bool.and_assoc]
   congr 2
   simp
section
variable {X : Cx} {pins : List (Addr × Obj)} {σ : St} {H : Hp} {s : Shared}
mutual
theorem rep_inj (I : Inv X pins σ H s) : ∀ (d e : D) (x : V), Rep X.K H d x → Rep X.K H e x → d = e
 | d, e, x, hd, he => by
   cases d with
   | non =>
     simp only [Rep] at hd; subst hd
     cases e <;> simp only [Rep] at he <;> first | rfl | (obtain ⟨a, xs, z, _⟩ := he; cases z; done) | (cases he; done)
   | bl b =>
     simp only [Rep] at hd; subst hd
     cases e <;> simp only [Rep] at he <;> first | (obtain ⟨a, xs, z, _⟩ := he; cases z; done) | (cases he; rfl) | (cases he; done)
   | int b =>
     simp only [Rep] at hd; subst hd
     cases e <;> simp only [Rep] at he <;> first | (obtain ⟨a, xs, z, _⟩ := he; cases z; done) | (cases he; rfl) | (cases he; done)
   | str b =>
     simp only [Rep] at hd; subst hd
     cases e <;> simp only [Rep] at he <;> first | (obtain ⟨a, xs, z, _⟩ := he; cases z; done) | (cases he; rfl) | (cases he; done)
   | lst ds =>
     simp only [Rep] at hd
     obtain ⟨a, xs, rfl, hx, r⟩ := hd
     cases e with
     | lst es =>
       simp only [Rep] at he
       obtain ⟨a', xs', z, hx', r'⟩ := he
       cases z
       have := I.list_inj hx hx'
       subst this
       rw [repL_inj I ds es xs r r']
     | tup es =>
       simp only [Rep] at he
       obtain ⟨a', xs', z, hx', r'⟩ := he
       cases z
       exfalso
       obtain ⟨_, _, p, _⟩ := I.list hx
       obtain ⟨_, _, q, _⟩ := I.tuple hx'
       obtain ⟨o, n, e1, e2, _⟩ := p
       obtain ⟨o', e1', e2', _⟩ := q
       rw [e1] at e1'; cases e1'
       rw [e2] at e2'; exact absurd e2' (by decide)
     | _ => simp only [Rep] at he; cases he
   | tup ds =>
     simp only [Rep] at hd
     obtain ⟨a, xs, rfl, hx, r⟩ := hd
     cases e with
     | tup es =>
       simp only [Rep] at he
       obtain ⟨a', xs', z, hx', r'⟩ := he
       cases z
       have := I.tuple_inj hx hx'
       subst this
       rw [repL_inj I ds es xs r r']
     | lst es =>
       simp only [Rep] at he
       obtain ⟨a', xs', z, hx', r'⟩ := he
       cases z
       exfalso
       obtain ⟨_, _, p, _⟩ := I.list hx'
       obtain ⟨_, _, q, _⟩ := I.tuple hx
       obtain ⟨o, n, e1, e2, _⟩ := p
       obtain ⟨o', e1', e2', _⟩ := q
       rw [e1] at e1'; cases e1'
       rw [e2] at e2'; exact absurd e2' (by decide)
     | _ => simp only [Rep] at he; cases he
theorem repL_inj (I : Inv X pins σ H s) : ∀ (ds es : List D) (xs : List V), RepL X.K H ds xs → RepL X.K H es xs → ds = es
 | [], es, xs, hd, he => by
   simp only [RepL] at hd
   subst hd
   cases es with
   | nil => rfl
   | cons e es => simp only [RepL] at he; obtain ⟨y, ys, z, _⟩ := he; cases z
 | d :: ds, es, xs, hd, he => by
   simp only [RepL] at hd
   obtain ⟨y, ys, rfl, r, rs⟩ := hd
   cases es with
   | nil => simp only [RepL] at he; cases he
   | cons e es =>
     simp only [RepL] at he
     obtain ⟨y', ys', z, r', rs'⟩ := he
     cases z
     rw [rep_inj I d e y r r', repL_inj I ds es ys rs rs']
end
theorem zz20 {h : Heap} {a : Addr} {its : Array Value} (p : IsTup h a its) : h.IsTuple a its := by
 obtain ⟨o, e, c, n, d⟩ := p
 exact ⟨o, e, c, n, d⟩
mutual
theorem eq_deep (I : Inv X pins σ H s) : ∀ (d e : D) (x y : V) (u v : Value) (A : Around), A.units + dep d < cLine → Rep X.K H d x → Rep X.K H e y → RelV x u → RelV y v → SeqAt.EqAt A s u v (deq d e)
 | .non, e, x, y, u, v, A, hu, hd, he, rx, ry => by
   have hu : A.units < cLine := by omega
   simp only [Rep] at hd; subst hd; cases rx
   cases e <;> simp only [Rep] at he
   · subst he; cases ry; exact SeqAt.EqAt.same _
   · subst he; cases ry; exact SeqAt.EqAt.none_bool _
   · subst he; obtain ⟨t, rfl⟩ := ry; exact SeqAt.EqAt.none_int _ _
   · subst he; obtain ⟨t, rfl⟩ := ry; exact SeqAt.EqAt.none_str _ _
   · obtain ⟨a, xs, rfl, hx, _⟩ := he; cases ry; obtain ⟨_, _, p, _⟩ := I.list hx; exact SeqAt.EqAt.none_list p.isList hu
   · obtain ⟨a, xs, rfl, hx, _⟩ := he; cases ry; obtain ⟨_, _, p, _⟩ := I.tuple hx; exact SeqAt.EqAt.none_tuple (zz20 p) hu
 | .bl b, e, x, y, u, v, A, hu, hd, he, rx, ry => by
   have hu : A.units < cLine := by omega
   simp only [Rep] at hd; subst hd; cases rx
   cases e <;> simp only [Rep] at he
   · subst he; cases ry; exact SeqAt.EqAt.bool_none _
   · subst he; cases ry; exact SeqAt.EqAt.bool_bool _ _
   · subst he; obtain ⟨t, rfl⟩ := ry; exact SeqAt.EqAt.bool_int _ _ _
   · subst he; obtain ⟨t, rfl⟩ := ry; exact SeqAt.EqAt.bool_str _ _ _
   · obtain ⟨a, xs, rfl, hx, _⟩ := he; cases ry; obtain ⟨_, _, p, _⟩ := I.list hx; exact SeqAt.EqAt.bool_list _ p.isList hu
   · obtain ⟨a, xs, rfl, hx, _⟩ := he; cases ry; obtain ⟨_, _, p, _⟩ := I.tuple hx; exact SeqAt.EqAt.bool_tuple _ (zz20 p) hu
 | .int b, e, x, y, u, v, A, hu, hd, he, rx, ry => by
   have hu : A.units < cLine := by omega
   simp only [Rep] at hd; subst hd; obtain ⟨t0, rfl⟩ := rx
   cases e <;> simp only [Rep] at he
   · subst he; cases ry; exact SeqAt.EqAt.int_none _ _
   · subst he; cases ry; exact SeqAt.EqAt.int_bool _ _ _
   · subst he; obtain ⟨t, rfl⟩ := ry; exact SeqAt.EqAt.int_int _ _ _ _
   · subst he; obtain ⟨t, rfl⟩ := ry; exact SeqAt.EqAt.int_str _ _ _ _
   · obtain ⟨a, xs, rfl, hx, _⟩ := he; cases ry; obtain ⟨_, _, p, _⟩ := I.list hx; exact SeqAt.EqAt.int_list _ _ p.isList hu
   · obtain ⟨a, xs, rfl, hx, _⟩ := he; cases ry; obtain ⟨_, _, p, _⟩ := I.tuple hx; exact SeqAt.EqAt.int_tuple _ _ (zz20 p) hu
 | .str b, e, x, y, u, v, A, hu, hd, he, rx, ry => by
   have hu : A.units < cLine := by omega
   simp only [Rep] at hd; subst hd; obtain ⟨t0, rfl⟩ := rx
   cases e <;> simp only [Rep] at he
   · subst he; cases ry; exact SeqAt.EqAt.str_none _ _
   · subst he; cases ry; exact SeqAt.EqAt.str_bool _ _ _
   · subst he; obtain ⟨t, rfl⟩ := ry; exact SeqAt.EqAt.str_int _ _ _ _
   · subst he; obtain ⟨t, rfl⟩ := ry; exact SeqAt.EqAt.str_str _ _ _ _
   · obtain ⟨a, xs, rfl, hx, _⟩ := he; cases ry; obtain ⟨_, _, p, _⟩ := I.list hx; exact SeqAt.EqAt.str_list _ _ p.isList hu
   · obtain ⟨a, xs, rfl, hx, _⟩ := he; cases ry; obtain ⟨_, _, p, _⟩ := I.tuple hx; exact SeqAt.EqAt.str_tuple _ _ (zz20 p) hu
 | .lst ds, e, x, y, u, v, A, hu, hd, he, rx, ry => by
   have hu0 : A.units < cLine := by omega
   simp only [dep] at hu
   simp only [Rep] at hd; obtain ⟨a, xs, rfl, hx, r⟩ := hd; cases rx
   obtain ⟨its, rv, p, hz⟩ := I.list hx
   cases e <;> simp only [Rep] at he
   · subst he; cases ry; exact SeqAt.EqAt.list_none p.isList hu0
   · subst he; cases ry; exact SeqAt.EqAt.list_bool _ p.isList hu0
   · subst he; obtain ⟨t, rfl⟩ := ry; exact SeqAt.EqAt.list_int _ _ p.isList hu0
   · subst he; obtain ⟨t, rfl⟩ := ry; exact SeqAt.EqAt.list_str _ _ p.isList hu0
   · rename_i es
     obtain ⟨b, ys, rfl, hy, r'⟩ := he; cases ry
     obtain ⟨its', rv', p', hz'⟩ := I.list hy
     by_cases hab : a = b
     · subst hab
       have := I.list_inj hx hy
       subst this
       rw [repL_inj I ds es xs r r', deq_refl]
       exact SeqAt.EqAt.same _
     · have l1 := r.len
       have l2 := rv.length
       have l3 := r'.len
       have l4 := rv'.length
       have key := eAt_all ds es
       simp only [deq]
       rw [← key]
       by_cases hl : its.length = its'.length
       · have := SeqAt.EqAt.of_refs hab (SeqAt.RcAt.lists (e := eAt ds es) p.isList p'.isList (by simpa using hl) hu0 (fun j h1 h2 => by
           have q := eq_deepL I ds es xs ys its its' A.in1 (by show A.units + 1 + depL ds < cLine; omega) r r' rv rv' j (by simpa using h1) (by simpa using h2)
           simpa using q))
         have e1 : its.toArray.size = min ds.length es.length := by rw [List.size_toArray]; omega
         rw [e1] at this
         have e2 : (ds.length == es.length) = true := by simp; omega
         rw [e2, Bool.and_true]
         exact this
       · have e2 : (ds.length == es.length) = false := by simp; omega
         rw [e2, Bool.and_false]
         exact SeqAt.EqAt.of_refs hab (SeqAt.RcAt.lists_lengths p.isList p'.isList (by simpa using hl) hu0)
   · obtain ⟨b, ys, rfl, hy, r'⟩ := he; cases ry
     obtain ⟨_, _, q, _⟩ := I.tuple hy
     exact SeqAt.EqAt.list_tuple p.isList (zz20 q) hu0
 | .tup ds, e, x, y, u, v, A, hu, hd, he, rx, ry => by
   have hu0 : A.units < cLine := by omega
   simp only [dep] at hu
   simp only [Rep] at hd; obtain ⟨a, xs, rfl, hx, r⟩ := hd; cases rx
   obtain ⟨its, rv, p, hz⟩ := I.tuple hx
   cases e <;> simp only [Rep] at he
   · subst he; cases ry; exact SeqAt.EqAt.tuple_none (zz20 p) hu0
   · subst he; cases ry; exact SeqAt.EqAt.tuple_bool _ (zz20 p) hu0
   · subst he; obtain ⟨t, rfl⟩ := ry; exact SeqAt.EqAt.tuple_int _ _ (zz20 p) hu0
   · subst he; obtain ⟨t, rfl⟩ := ry; exact SeqAt.EqAt.tuple_str _ _ (zz20 p) hu0
   · obtain ⟨b, ys, rfl, hy, r'⟩ := he; cases ry
     obtain ⟨_, _, q, _⟩ := I.list hy
     exact SeqAt.EqAt.tuple_list (zz20 p) q.isList hu0
   · rename_i es
     obtain ⟨b, ys, rfl, hy, r'⟩ := he; cases ry
     obtain ⟨its', rv', p', hz'⟩ := I.tuple hy
     by_cases hab : a = b
     · subst hab
       have := I.tuple_inj hx hy
       subst this
       rw [repL_inj I ds es xs r r', deq_refl]
       exact SeqAt.EqAt.same _
     · have l1 := r.len
       have l2 := rv.length
       have l3 := r'.len
       have l4 := rv'.length
       have key := eAt_all ds es
       simp only [deq]
       rw [← key]
       have := SeqAt.EqAt.of_refs hab (SeqAt.RcAt.tuples (e := eAt ds es) (zz20 p) (zz20 p') hu0 (fun j h1 h2 => by
           have q := eq_deepL I ds es xs ys its its' A.in1 (by show A.units + 1 + depL ds < cLine; omega) r r' rv rv' j (by simpa using h1) (by simpa using h2)
           simpa using q))
       have e1 : its.toArray.size = ds.length := by rw [List.size_toArray]; omega
       have e2 : its'.toArray.size = es.length := by rw [List.size_toArray]; omega
       rw [e1, e2] at this
       exact this
theorem eq_deepL (I : Inv X pins σ H s) : ∀ (ds es : List D) (xs ys : List V) (us vs : List Value) (A : Around), A.units + depL ds < cLine → RepL X.K H ds xs → RepL X.K H es ys → Vals xs us → Vals ys vs →
   ∀ (j : Nat) (h1 : j < us.length) (h2 : j < vs.length), SeqAt.EqAt A s us[j] vs[j] (eAt ds es j)
 | [], es, xs, ys, us, vs, A, hu, hd, he, rx, ry, j, h1, h2 => by
   simp only [RepL] at hd
   subst hd
   cases rx
   exact absurd h1 (by simp)
 | d :: ds, es, xs, ys, us, vs, A, hu, hd, he, rx, ry, j, h1, h2 => by
   simp only [depL] at hu
   simp only [RepL] at hd
   obtain ⟨x, xs', rfl, rd, rds⟩ := hd
   cases rx with
   | cons r0 rr =>
     cases es with
     | nil =>
       simp only [RepL] at he
       subst he
       cases ry
       exact absurd h2 (by simp)
     | cons e es =>
       simp only [RepL] at he
       obtain ⟨y, ys', rfl, re, res⟩ := he
       cases ry with
       | cons q0 qr =>
         cases j with
         | zero =>
           have : eAt (d :: ds) (e :: es) 0 = deq d e := by simp [eAt]
           rw [this]
           exact eq_deep I d e x y _ _ A (by omega) rd re r0 q0
         | succ j =>
           have : eAt (d :: ds) (e :: es) (j + 1) = eAt ds es j := by simp [eAt]
           rw [this]
           exact eq_deepL I ds es xs' ys' _ _ A (by omega) rds res rr qr j (by simpa using h1) (by simpa using h2)
end
def rEqD (K : PySem.W.Frag) : R2 := fun x y H Q => ∃ ds es, ((Rep K H (.lst ds) x ∧ Rep K H (.lst es) y) ∨ (Rep K H (.tup ds) x ∧ Rep K H (.tup es) y)) ∧ depL ds ≤ 20 ∧ Q (.bl (deqL ds es)) H
theorem op_eqD (hu : X.A.units + 64 < cLine) : OpR X (compareOp .Eq) (rEqD X.K) := by
 intro pins s σ H x y v u Q I rx ry h
 obtain ⟨ds, es, h, hdep, q⟩ := h
 have hu0 : X.A.units < cLine := by omega
 have hin : X.A.in1.units + depL ds < cLine := by show X.A.units + 1 + depL ds < cLine; omega
 have key := eAt_all ds es
 rcases h with ⟨h1, h2⟩ | ⟨h1, h2⟩
 · simp only [Rep] at h1 h2
   obtain ⟨a, xs, rfl, hx, r⟩ := h1
   obtain ⟨b, ys, rfl, hy, r'⟩ := h2
   cases rx
   cases ry
   obtain ⟨its, rv, p, hz⟩ := I.list hx
   obtain ⟨its', rv', p', hz'⟩ := I.list hy
   have l1 := r.len
   have l2 := rv.length
   have l3 := r'.len
   have l4 := rv'.length
   by_cases hl : its.length = its'.length
   · refine SeqAt.eq_listAt (e := eAt ds es) p.isList p'.isList (by simpa using hl) hu0 (fun j h1 h2 => ?_) ?_
     · have q := eq_deepL I ds es xs ys its its' X.A.in1 hin r r' rv rv' j (by simpa using h1) (by simpa using h2)
       simpa using q
     · have e1 : its.toArray.size = min ds.length es.length := by rw [List.size_toArray]; omega
       have e2 : (ds.length == es.length) = true := by simp; omega
       rw [e2, Bool.and_true] at key
       rw [e1, key]
       exact ⟨.bl (deqL ds es), H, I, rfl, q⟩
   · have e2 : (ds.length == es.length) = false := by simp; omega
     rw [e2, Bool.and_false] at key
     rw [← key] at q
     exact SeqAt.eq_list_lengthsAt p.isList p'.isList (by simpa using hl) hu0 ⟨.bl false, H, I, rfl, q⟩
 · simp only [Rep] at h1 h2
   obtain ⟨a, xs, rfl, hx, r⟩ := h1
   obtain ⟨b, ys, rfl, hy, r'⟩ := h2
   cases rx
   cases ry
   obtain ⟨its, rv, p, hz⟩ := I.tuple hx
   obtain ⟨its', rv', p', hz'⟩ := I.tuple hy
   have l1 := r.len
   have l2 := rv.length
   have l3 := r'.len
   have l4 := rv'.length
   refine SeqAt.eq_tupleAt (e := eAt ds es) (zz20 p) (zz20 p') hu0 (fun j h1 h2 => ?_) ?_
   · have q := eq_deepL I ds es xs ys its its' X.A.in1 hin r r' rv rv' j (by simpa using h1) (by simpa using h2)
     simpa using q
   · have e1 : its.toArray.size = ds.length := by rw [List.size_toArray]; omega
     have e2 : its'.toArray.size = es.length := by rw [List.size_toArray]; omega
     rw [e1, e2, key]
     exact ⟨.bl (deqL ds es), H, I, rfl, q⟩
theorem RepL.ints {K : PySem.W.Frag} {H : Hp} : ∀ ns : List Int, RepL K H (ns.map D.int) (ns.map V.int)
 | [] => by simp only [List.map_nil, RepL]
 | n :: ns => by simp only [List.map_cons, RepL]; exact ⟨_, _, rfl, by simp only [Rep], RepL.ints ns⟩
end
section
variable {X : Cx} {K : PySem.W.Frag}
theorem zz17 (e : X.K = K) : IxR X (rIxL K) := e ▸ ix_list
theorem ix_tupK (e : X.K = K) : IxR X (rIxT K) := e ▸ ix_tup
theorem zz19 (e : X.K = K) : SlR X (rSlL K) := e ▸ sl_list
theorem sl_anyK (e : X.K = K) : SlR X (fun x lo hi H Q => rSlL K x lo hi H Q ∨ rSlT K x lo hi H Q ∨ rSlS x lo hi H Q) := e ▸ sl_any
theorem zz9 (e : X.K = K) : OpR X (binaryOp .Add) (rCatS K) := e ▸ op_catS
theorem op_notInAK (e : X.K = K) : OpR X (compareOp .NotIn) (fun x y H Q => (∃ i j, x = .str i ∧ y = .str j ∧ Q (.bl (!(!(Builtin.Str.occurrences j i 0 j.length 1).isEmpty))) H) ∨ rIn K true x y H Q) := e ▸ op_notInA
theorem op_eqDK (hu : X.A.units + 64 < cLine) (e : X.K = K) : OpR X (compareOp .Eq) (rEqD K) := e ▸ op_eqD hu
theorem call_lenK (e : X.K = K) : CallR X (.builtin "len") (fun xs H Q => ∃ x n, xs = [x] ∧ LenV K x H n ∧ Q (.int n) H) := e ▸ call_len
theorem call_allK (hc : X.calm = true) (e : X.K = K) : CallR X (.builtin "all") (rAll K) := e ▸ call_all hc
theorem call_isiK (e : X.K = K) : CallR X (.builtin "isinstance") (rIsi K) := e ▸ call_isi
theorem pi_listK {tg l : Expr} {tl : TE} (e : X.K = K) (hl : PE X l tl) : PI X tg l (iList K tl) := e ▸ pi_list hl
theorem pg_tupK {es : List Expr} {k : Nat} {t : TGs} {n : Nat} {pos : Pos} (e : X.K = K) (hc : X.calm = true) (h : PGs X es t)
   (hn : (assignEach es X.env).length = n := by rfl) (hst : (assignEach es X.env).findIdx? (·.1) = none := by rfl) : PG X (.Tuple es k pos) (gTup K n t) := e ▸ pg_tup hc h hn hst
end
end L2
namespace L2
open PySem PySem.Spec PyProof.Rows
section
variable {X : Cx}
noncomputable def rStarts : V → List V → Hp → VK → Prop := fun x vs H Q => ∃ z y, x = .str z ∧ vs = [.str y] ∧ Q (.bl (Txt.startswith z y)) H
theorem mt_starts : MtM X "str.startswith" rStarts := by
 intro pins s σ H x vs v us Q I rx rv h
 obtain ⟨z, y, rfl, rfl, q⟩ := h
 obtain ⟨t, rfl⟩ := rx
 obtain ⟨u, rfl, ru⟩ := rv.one
 obtain ⟨t', rfl⟩ := ru
 exact SC.startswith ⟨.bl (Txt.startswith z y), H, I, rfl, q⟩
noncomputable def rIndex : V → List V → Hp → VK → Prop := fun x vs H Q => ∃ z y i, x = .str z ∧ vs = [.str y] ∧ (∃ rest, Builtin.Str.occurrences z y 0 z.length 1 = i :: rest) ∧ Q (.int (i : Nat)) H
theorem call_intT : CallR X (.type "int") (fun xs H Q => ∃ z n, xs = [.str z] ∧ PySem.intText? z = some n ∧ z.length ≤ 640 ∧ Q (.int n) H) := by
 intro pins s σ H xs us Q I r h
 obtain ⟨z, n, rfl, hn, hl, q⟩ := h
 obtain ⟨u, rfl, ru⟩ := vals1 r
 obtain ⟨t, rfl⟩ := ru
 exact PySem.W.KIN.call_text hn hl ⟨.int n, H, I.tok _, ⟨_, rfl⟩, q⟩
end
end L2
namespace L2
open PySem PySem.Spec PyProof.Rows
def ExcIs (h : Heap) (e : Addr) (cls : Value) (dx : Option Addr) (fl : Value) (T : Addr) : Prop :=
 ∃ oe vs oT ts, h.get? e = some oe ∧ oe.cls = cls ∧ oe.dict = dx ∧ oe.data = .fields vs ∧ vs[1]? = some (.ref T) ∧ T ≠ e ∧ h.get? T = some oT ∧ oT.data = .fields ts ∧ ts[3]? = some fl
set_option genInjectivity false in
structure LeftX (fs : List Addr) (e T0 : Addr) (cls : Value) (dx : Option Addr) (fl : Value) (h h' : Heap) : Prop where
 keep : ∀ b o, b ∉ fs → b ≠ e → b ≠ T0 → h.get? b = some o → h'.get? b = some o
 slot : ∀ b o, b ∈ fs → b ≠ e → b ≠ T0 → h.get? b = some o → ∃ sl, h'.get? b = some { o with slots := sl }
 there : ∀ b o, h.get? b = some o → ∃ o', h'.get? b = some o'
 exc : ∃ T, h.objs.size ≤ T ∧ ExcIs h' e cls dx fl T
section
variable {M : Model} {A : Around} {E : Value → Shared → Prop} {s : Shared}
theorem cls_dict_mapFields (f : Array Value → Array Value) (o : Obj) : (Obj.mapFields f o).dict = o.dict := by
 obtain ⟨c, d, da, sl⟩ := o
 cases da <;> rfl
theorem newEntryX {base : Heap} {env : Env} {outer : List Env} {L e T0 : Addr} {oe : Obj} {vs : Array Value} {head : Value} {hadNext : Bool} {Q : Unit → Shared → Prop}
   (hfr : A.frames = some (env :: outer)) (hl : s.heap.FunFrames base (env :: outer)) (hf : env.frame = some L)
   (he : s.heap.get? e = some oe) (hd : oe.data = .fields vs) (hsz : 1 < vs.size)
   (h : ∀ h', LeftX (frs (env :: outer)) e T0 oe.cls oe.dict (rawInt L) s.heap h' → Q () { s with heap := h' }) :
   wpAny M A (do let a ← frameOf env; let pl ← entryPlaceOf L hadNext; let b ← EntryCells.newEntry head a .none (rawInt L) .none pl; setField (.ref e) 1 b) Q E s := by
 have hene : e ∉ (env :: outer).filterMap (·.frame) := fun hm => by
   obtain ⟨_, o, ho, hnf⟩ := hl.mem hm
   rw [he] at ho; injection ho with ho; subst ho; exact hnf vs hd
 refine wpAny_bind (wpAny_frameOf_fun hfr hl hf fun h₁ hs₁ => ?_)
 refine wpAny_bind (wpAny_entryPlaceOf fun pl hpl => ?_)
 unfold EntryCells.newEntry newFields
 refine wpAny_bind (wpAny_newObj_type ?_ (hpl.sizeOk5 _ _ _ _ _))
 have he₁ : h₁.get? e = some oe := (hs₁.2.1 e hene).trans he
 have he₂ := Heap.get?_push_of_some (h := h₁) { cls := .type "traceback", dict := none, data := .fields ([head, .ref L, .none, rawInt L, .none] ++ (if pl.isEmpty then List.replicate 6 Value.none else pl)).toArray } he₁
 refine wpAny_setField he₂ hd hsz (h _ ?_)
 have hTe : h₁.objs.size ≠ e := Nat.ne_of_gt (Heap.lt_size he₁)
 have hd₃ := Obj.data_mapFields hd (·.setIfInBounds 1 (Value.ref h₁.objs.size))
 have he₃ := Heap.get?_update_self (Obj.mapFields (·.setIfInBounds 1 (Value.ref h₁.objs.size))) he₂ (Obj.isFreed_of_fields hd₃)
 have hT₃ := (Heap.get?_update_other (h₁.push { cls := .type "traceback", dict := none, data := .fields ([head, .ref L, .none, rawInt L, .none] ++ (if pl.isEmpty then List.replicate 6 Value.none else pl)).toArray })
   (Obj.mapFields (·.setIfInBounds 1 (Value.ref h₁.objs.size))) (Ne.symm hTe)).trans (Heap.get?_push_size h₁ rfl)
 have keep : ∀ b o, b ≠ e → h₁.get? b = some o →
     ((h₁.push { cls := .type "traceback", dict := none, data := .fields ([head, .ref L, .none, rawInt L, .none] ++ (if pl.isEmpty then List.replicate 6 Value.none else pl)).toArray }).update e (Obj.mapFields (·.setIfInBounds 1 (Value.ref h₁.objs.size)))).get? b = some o :=
   fun b o hbe hb => by
     rw [Heap.get?_update_other _ _ (Ne.symm hbe)]
     exact Heap.get?_push_of_some _ hb
 have new : s.heap.objs.size ≤ h₁.objs.size := Nat.le_of_eq hs₁.1.symm
 refine ⟨fun b o hb hbe _ hbo => keep b o hbe ((hs₁.2.1 b hb).trans hbo), fun b o _ hbe _ hbo => ?_, fun b o hbo => ?_, h₁.objs.size, new, _, _, _, _, he₃, Obj.cls_mapFields _ _, cls_dict_mapFields _ _, hd₃, by simp [hsz], hTe, hT₃, rfl, ?_⟩
 · obtain ⟨sl, hs⟩ := hs₁.2.2 b o hbo
   exact ⟨sl, keep b _ hbe hs⟩
 · by_cases hbe : b = e
   · subst hbe; exact ⟨_, he₃⟩
   · obtain ⟨sl, hs⟩ := hs₁.2.2 b o hbo
     exact ⟨_, keep b _ hbe hs⟩
 · first | (simp; done) | (rcases hpl with rfl | ⟨_, _, _, _, _, _, _, rfl⟩ <;> simp)
def ExcNew (h : Heap) (e : Addr) (cls : Value) (dx : Option Addr) : Prop := ∃ oe vs, h.get? e = some oe ∧ oe.cls = cls ∧ oe.dict = dx ∧ oe.data = .fields vs ∧ vs[1]? = some .none
theorem note_new {base : Heap} {env : Env} {outer : List Env} {L e : Addr} {cls : Value} {dx : Option Addr} {Q : Unit → Shared → Prop}
   (hfr : A.frames = some (env :: outer)) (hl : s.heap.FunFrames base (env :: outer)) (hf : env.frame = some L) (hx : ExcNew s.heap e cls dx)
   (h : ∀ h', LeftX (frs (env :: outer)) e e cls dx (rawInt L) s.heap h' → Q () { s with heap := h' }) : wpAny M A (noteFrame (.ref e) env) Q E s := by
 obtain ⟨oe, vs, he, hc, hdx, hd, h1⟩ := hx
 subst hc hdx
 unfold noteFrame
 simp only [hf]
 refine wpAny_bind (wpAny_field he hd h1 ?_)
 rw [if_neg (by decide)]
 exact newEntryX hfr hl hf he hd (Array.getElem?_eq_some_iff.mp h1).1 h
theorem note_next {base : Heap} {env : Env} {outer : List Env} {L e T : Addr} {cls : Value} {dx : Option Addr} {Q : Unit → Shared → Prop}
   (hfr : A.frames = some (env :: outer)) (hl : s.heap.FunFrames base (env :: outer)) (hf : env.frame = some L) (hx : ExcIs s.heap e cls dx .none T)
   (h : ∀ h', LeftX (frs (env :: outer)) e T cls dx (rawInt L) s.heap h' → Q () { s with heap := h' }) : wpAny M A (noteFrame (.ref e) env) Q E s := by
 obtain ⟨oe, vs, oT, ts, he, hc, hdx, hd, h1, hTe, hT, hdT, h3⟩ := hx
 subst hc hdx
 unfold noteFrame
 simp only [hf]
 refine wpAny_bind (wpAny_field he hd h1 ?_)
 rw [if_pos (show (Value.ref T != Value.none) = true from by simp)]
 refine wpAny_bind (wpAny_field hT hdT h3 ?_)
 rw [if_neg (show ¬ ((Value.none == rawInt L) = true) from by simp [rawInt])]
 refine wpAny_bind (wpAny_setField hT hdT (Array.getElem?_eq_some_iff.mp h3).1 ?_)
 have other : ∀ b, b ≠ T → (s.heap.update T (Obj.mapFields (·.setIfInBounds 3 Value.none))).get? b = s.heap.get? b := fun b hb => Heap.get?_update_other _ _ (Ne.symm hb)
 have noRecord : ∀ b o, s.heap.get? b = some o → (∀ vs, o.data ≠ .fields vs) → b ≠ T := fun b o hb hnf q => by
   rw [q, hT] at hb; injection hb with hb; subst hb; exact hnf ts hdT
 have hT' := Heap.get?_update_self (Obj.mapFields (·.setIfInBounds 3 Value.none)) hT (Obj.isFreed_of_fields (Obj.data_mapFields hdT _))
 refine newEntryX (T0 := T) hfr (hl.of_keeps fun b o hb hnf => ⟨o, (other b (noRecord b o hb hnf)).trans hb, rfl⟩) hf ((other e (Ne.symm hTe)).trans he) hd (Array.getElem?_eq_some_iff.mp h1).1 fun h' x => h h' ?_
 refine ⟨fun b o hb hbe hbT hbo => x.keep b o hb hbe hbT ((other b hbT).trans hbo), fun b o hb hbe hbT hbo => x.slot b o hb hbe hbT ((other b hbT).trans hbo), fun b o hbo => ?_, ?_⟩
 · by_cases hb : b = T
   · subst hb; exact x.there b _ hT'
   · exact x.there b o ((other b hb).trans hbo)
 · obtain ⟨T', hn, y⟩ := x.exc
   exact ⟨T', by rw [Heap.size_update] at hn; exact hn, y⟩
theorem note_again {env : Env} {L e T : Addr} {cls : Value} {dx : Option Addr} {Q : Unit → Shared → Prop} (hf : env.frame = some L) (hx : ExcIs s.heap e cls dx (rawInt L) T) (h : Q () s) :
   wpAny M A (noteFrame (.ref e) env) Q E s := by
 obtain ⟨oe, vs, oT, ts, he, hc, hdx, hd, h1, hTe, hT, hdT, h3⟩ := hx
 unfold noteFrame
 simp only [hf]
 refine wpAny_bind (wpAny_field he hd h1 ?_)
 rw [if_pos (show (Value.ref T != Value.none) = true from by simp)]
 refine wpAny_bind (wpAny_field hT hdT h3 ?_)
 rw [if_pos (show (rawInt L == rawInt L) = true from by simp)]
 exact wpAny_pure h
theorem flight_off {e T : Addr} {cls : Value} {dx : Option Addr} {fl : Value} {Q : Unit → Shared → Prop} (hx : ExcIs s.heap e cls dx fl T)
   (h : ∀ h', (∀ b o, b ≠ T → s.heap.get? b = some o → h'.get? b = some o) → (∃ o, h'.get? T = some o) → ExcIs h' e cls dx .none T → Q () { s with heap := h' }) : wpAny M A (setFlight (.ref e) none) Q E s := by
 obtain ⟨oe, vs, oT, ts, he, hc, hdx, hd, h1, hTe, hT, hdT, h3⟩ := hx
 unfold setFlight
 refine wpAny_bind (wpAny_field he hd h1 ?_)
 rw [if_pos (show (Value.ref T != Value.none) = true from by simp)]
 have hs := (Array.getElem?_eq_some_iff.mp h3).1
 refine wpAny_setField hT hdT hs (h _ (fun b o hb hbo => ?_) ?_ ?_)
 · rw [Heap.get?_update_other _ _ (Ne.symm hb)]; exact hbo
 · exact ⟨_, Heap.get?_update_self _ hT (Obj.isFreed_of_fields (Obj.data_mapFields hdT _))⟩
 · refine ⟨oe, vs, _, _, ?_, hc, hdx, hd, h1, hTe, Heap.get?_update_self _ hT (Obj.isFreed_of_fields (Obj.data_mapFields hdT _)), Obj.data_mapFields hdT _, ?_⟩
   · rw [Heap.get?_update_other _ _ hTe]; exact he
   · simp [hs]
theorem LeftX.off {fs : List Addr} {e T0 T : Addr} {cls : Value} {dx : Option Addr} {fl : Value} {h h1 h2 : Heap} (x : LeftX fs e T0 cls dx fl h h1) (hT : h.objs.size ≤ T) (k : ∀ b o, b ≠ T → h1.get? b = some o → h2.get? b = some o)
   (hT2 : ∃ o, h2.get? T = some o) (y : ExcIs h2 e cls dx .none T) : LeftX fs e T0 cls dx .none h h2 := by
 have ne : ∀ b o, h.get? b = some o → b ≠ T := fun b o e z => by
   have := Heap.lt_size e
   rw [z] at this
   exact absurd (Nat.lt_of_lt_of_le this hT) (Nat.lt_irrefl _)
 refine ⟨fun b o hb hbe hb0 hbo => k b o (ne b o hbo) (x.keep b o hb hbe hb0 hbo), fun b o hb hbe hb0 hbo => ?_, fun b o hbo => ?_, T, hT, y⟩
 · obtain ⟨sl, q⟩ := x.slot b o hb hbe hb0 hbo
   exact ⟨sl, k b _ (ne b o hbo) q⟩
 · obtain ⟨o', q⟩ := x.there b o hbo
   exact ⟨o', k b _ (ne b o hbo) q⟩
end
noncomputable def CXE (P : Program) (w : World) : CXT := fun outer H s E e s' => ∃ (a T : Addr) (cls : Value) (dx : Option Addr) (H' : Hp), e = .ref a ∧ s'.os = s.os ∧ AllBare s'.gens ∧ Un (frs outer) [] H H' s.heap s'.heap ∧ HOk P w H' s'.heap ∧
 s.heap.get? a = none ∧ s.heap.get? T = none ∧ H' a = none ∧ H' T = none ∧ ExcIs s'.heap a cls dx .none T ∧ E cls dx H'
def ExcAt (X : Cx) (H : Hp) (h : Heap) (a : Addr) (cls : Value) (dx : Option Addr) : Prop :=
 X.s₀.heap.get? a = none ∧ H a = none ∧ (ExcNew h a cls dx ∨ ∃ T, X.s₀.heap.get? T = none ∧ H T = none ∧ ExcIs h a cls dx .none T)
def Xe (X : Cx) (E : XK) : Prop := ∀ (pins : List (Addr × Obj)) (σ : St) (H : Hp) (s : Shared) (a : Addr) (cls : Value) (dx : Option Addr), Inv X pins σ H s → ExcAt X H s.heap a cls dx → E cls dx H → X.xe (.ref a) s
theorem HOk.tracked {P : Program} {w : World} {H : Hp} {h h' : Heap} (ok : HOk P w H h) (k : ∀ b o u, H b = some u → h.get? b = some o → h'.get? b = some o) : HOk P w H h' := fun a o e =>
 (ok a o e).stay (fun b u hb q => by
   rcases hb with z | z
   · subst z; exact k b u o e q
   · exact k b u _ z q) (fun _ q => q) fun _ _ q => q
theorem Un.left {X : Cx} {pins : List (Addr × Obj)} {σ : St} {H : Hp} {s : Shared} {a T0 : Addr} {cls : Value} {dx : Option Addr} {h' : Heap} (I : Inv X pins σ H s) (hex : X.ex = []) (hst : X.stack = X.env :: X.outer) (hfr : X.env.frame = some X.env.locals)
   (ha : X.s₀.heap.get? a = none) (hT : X.s₀.heap.get? T0 = none) (x : LeftX (frs (X.env :: X.outer)) a T0 cls dx .none s.heap h') : Un X.fs [] X.H₀ H X.s₀.heap h' := by
 have hfs : frs (X.env :: X.outer) = X.env.locals :: X.fs := by simp [frs, hfr]
 have nl : ∀ b o, X.s₀.heap.get? b = some o → b ≠ X.env.locals := fun b o e z => by
   have := Heap.lt_size e
   rw [z] at this
   exact absurd (Nat.lt_of_lt_of_le this I.ok.above) (Nat.lt_irrefl _)
 have na : ∀ b o, X.s₀.heap.get? b = some o → b ≠ a := fun b o e z => by rw [z, ha] at e; cases e
 have nT : ∀ b o, X.s₀.heap.get? b = some o → b ≠ T0 := fun b o e z => by rw [z, hT] at e; cases e
 have nx : ∀ b : Addr, b ∉ X.ex := fun b => by rw [hex]; simp
 have B := I.base
 have nfs : ∀ b o, X.s₀.heap.get? b = some o → b ∉ X.fs → b ∉ frs (X.env :: X.outer) := fun b o e hb z => by
   rw [hfs] at z
   rcases List.mem_cons.mp z with q | q
   · exact nl b o e q
   · exact hb q
 refine ⟨fun b o e n hb _ => x.keep b o (nfs b o e hb) (na b o e) (nT b o e) (B.keep b o e n hb (nx b)), fun b o e n hb _ => ?_, fun b o e n _ => B.free b o e n (nx b), fun b o e _ => ?_, B.tups, B.frzs, B.tbls⟩
 · obtain ⟨sl, q⟩ := B.slot b o e n hb (nx b)
   obtain ⟨sl2, q2⟩ := x.slot b _ (by rw [hfs]; exact List.mem_cons_of_mem _ hb) (na b o e) (nT b o e) q
   exact ⟨sl2, q2⟩
 · obtain ⟨o', q⟩ := B.there b o e (nx b)
   exact x.there b o' q
end L2
namespace L2
open PySem PySem.Spec PyProof.Rows
theorem ObjOk.there {P : Program} {w : World} {H : Hp} {h : Heap} {a : Addr} {o : HO} (x : ObjOk P w H h a o) : ∃ ob, h.get? a = some ob := by
 cases o with
 | lst xs => obtain ⟨_, _, _, _, e⟩ := x; exact ⟨_, e⟩
 | tup xs => obtain ⟨_, _, _, o, e, _⟩ := x; exact ⟨_, e⟩
 | dK kvs => obtain ⟨_, _, _, _, o, _, _, e, _⟩ := x; exact ⟨_, e⟩
 | dT kvs => obtain ⟨_, _, _, _, o, _, _, e, _⟩ := x; exact ⟨_, e⟩
 | set S n => obtain ⟨o, _, _, _, e, _⟩ := x; exact ⟨_, e⟩
 | ins C dx fs => obtain ⟨_, _, _, e, _⟩ := x; exact ⟨_, e⟩
 | own y => obtain ⟨_, e⟩ := x; exact ⟨_, e⟩
 | xd fs => obtain ⟨_, ⟨_, _, _, e, _⟩, _⟩ := x; exact ⟨_, e⟩
 | rng lo hi => obtain ⟨_, _, _, e⟩ := x; exact ⟨_, e⟩
 | frz ob u => obtain ⟨e, _⟩ := x; exact ⟨_, e⟩
 | tbl ps => exact ⟨_, (show h.get? a = some _ from x)⟩
 | met f y => exact ⟨_, (show h.get? a = some _ from x)⟩
 | ext φ => obtain ⟨_, ⟨_, e⟩, _⟩ := x; exact ⟨_, e⟩
theorem own_obj {K : PySem.W.Frag} {h : Heap} {C : Addr} {bmB : List Value} {newId : String} (X : K.In h) (q : PySem.W.excIn K C bmB newId = true) :
   ∃ bm N nm q bs hdct sn sub ab col dd k0 k1 k2 k3 k5 mN, h.get? C = some (excClassObj nm q C N bs bm hdct sn sub ab col dd k0 k1 k2 k3 k5 newId) ∧ h.Ns N mN ∧ mN "__init__" = none ∧ OwnTail h bmB bm := by
 unfold PySem.W.excIn at q
 split at q
 · rename_i dd cd sl ho
   split at q
   · rename_i C' bm k0 k1 k2 k3 n k5 hm hs
     simp only [Bool.and_eq_true, beq_iff_eq, Bool.not_eq_true'] at q
     obtain ⟨⟨⟨⟨⟨rfl, rfl⟩, hdel⟩, ht⟩, hok⟩, hni⟩ := q
     obtain ⟨nm, bs, mro, ns, qn, hd, sn, sub, ab, col, del⟩ := cd
     dsimp only at hm hdel hok hni
     subst hm hdel
     have hsl : sl = #[k0, k1, k2, k3, some (.builtin n), k5] := by
       obtain ⟨l⟩ := sl
       simp only at hs
       rw [hs]
     subst hsl
     exact ⟨bm, ns, nm, qn, bs, hd, sn, sub, ab, col, dd, k0, k1, k2, k3, k5, _, X _ _ ho, .of_isNs (PySem.W.isNs_of_in X hok), PySem.W.nsMap_none_of_in X hok hni, PySem.W.tail_of_in X ht⟩
   · cases q
 · cases q
section
variable {X : Cx}
def tRaise (C : Addr) (E : XK) (t : TA) : TS := fun _ σ H => t σ H fun vs H1 => vs.length ≤ sizeLine ∧ E (.ref C) none H1
end
end L2
namespace L2
open PySem PySem.Spec PyProof.Rows PySem.W
set_option genInjectivity false in
structure XCls (K : Frag) (C : Addr) : Prop where
 ga : findIn K (.ref C) "__getattribute__" = some (some (.builtin "BaseException.__getattribute__"))
 gn : findIn K (.ref C) "__getattr__" = some none
 cl : findIn K (.ref C) "__class__" = some (some (.builtin "object.__class__"))
 sg : specialIn K (.builtin "object.__class__") "__get__" = some (some (.builtin "getset_descriptor.__get__"))
 tk : takesIn K (.builtin "object.__class__") = some true
 mo : mroIn K C (.type "object") = some true
 mb : mroIn K C (.type "BaseException") = some true
section
variable {prog : Program} {w : World} {A : Around} {E : Value → Shared → Prop} {s : Shared} {K : Frag} {x C : Addr} {ox : Obj} {od : Option Obj} {name : Str}
theorem xc_some {K : Frag} {C : Addr} {b : Value} {r : Bool} (e : mroIn K C b = some r) : ∃ cd, clsIn K C = some cd := by
 obtain ⟨cd, a, _⟩ := Option.bind_eq_some_iff.mp e
 exact ⟨cd, a⟩
theorem x_check {M : Model} {nameV : Value} {Q : Unit → Shared → Prop} (X : K.In s.heap) (c : XCls K C) (I : InstAt s.heap x ox C od) (q : Q () s) : wpAny M A (checkBuiltinCall "BaseException.__getattribute__" ⟨[.ref x, nameV], []⟩) Q E s :=
 @check_slot M A E s "BaseException.__getattribute__" "BaseException" "__getattribute__" (.ref x) [nameV] [] Q (by decide +kernel) (by decide +kernel) ((I.type).andThen (looks_mroIn X c.mb)) (F.args_bexc_ga _ _) q
theorem x_entry_value {v : Value} {tk : Tok} {Q : Fin → Shared → Prop} (X : K.In s.heap) (I : InstAt s.heap x ox C od) (hf : findObj K C od name = some (.value v)) (h : Q (.done (.ret v)) s) :
   wpAny (model prog w) A (Builtin.«object.__getattribute__» ⟨[.ref x, .str name tk], []⟩) Q E s := by
 have L0 := I.type (M := model prog w)
 have L1 := looks_find (M := model prog w) X I hf
 unfold Builtin.«object.__getattribute__»
 refine wpAny_bind (wpAny_pure ?_)
 refine wpAny_bind (wpAny_pure ?_)
 refine wpAny_bind (L0.here (wpAny_bind (L1.here ?_)))
 exact wpAny_pure h
theorem x_entry_class {tk : Tok} {Q : Fin → Shared → Prop} (X : K.In s.heap) (c : XCls K C) (I : InstAt s.heap x ox C od) (h : Q (.done (.ret (.ref C))) s) :
   wpAny (model prog w) A (Builtin.«object.__getattribute__» ⟨[.ref x, .str "__class__" tk], []⟩) Q E s := by
 obtain ⟨cd, hc⟩ := xc_some c.mo
 have hf : findObj K C od "__class__" = some (.bind (.builtin "getset_descriptor.__get__") (.builtin "object.__class__")) := by
   unfold findObj
   rw [hc, c.cl]
   simp only [Option.bind_some]
   rw [c.sg]
   simp only [Option.bind_some]
   rw [c.tk]
   rfl
 have L0 := I.type (M := model prog w)
 have L1 := looks_find (M := model prog w) X I hf
 unfold Builtin.«object.__getattribute__»
 refine wpAny_bind (wpAny_pure ?_)
 refine wpAny_bind (wpAny_pure ?_)
 refine wpAny_bind (L0.here (wpAny_bind (L1.here ?_)))
 show wpAny _ _ (holding [_] (call _ [_, .ref x, .ref C]) >>= ret) _ _ _
 exact wpAny_bind (wpAny_holding (wpAny_call (class_get X I c.mo (wpAny_pure h))))
theorem bind_bexc (self : Value) : bindSpecial (.builtin "BaseException.__getattribute__") self = pure (.builtin "BaseException.__getattribute__", [self]) := F.attr_ValueError.ga.bind self
theorem plain_bexc : plainId "BaseException.__getattribute__" = true := F.attr_ValueError.ga.plain
theorem x_by {v nameV : Value} {fill expr : Bool} {Q : Value → Shared → Prop} (X : K.In s.heap) (c : XCls K C) (I : InstAt s.heap x ox C od)
   (he : ∀ (A : Around) (E : Value → Shared → Prop) (Q : Fin → Shared → Prop), Q (.done (.ret v)) s → wpAny (model prog w) A (Builtin.«object.__getattribute__» ⟨[.ref x, nameV], []⟩) Q E s)
   (hv : handedIn v = true) (h : Q v s) : wpAny (model prog w) A (getAttrBy (.ref x) nameV fill expr) Q E s := by
 have L0 := I.type (M := model prog w)
 have L1 := looks_findIn (M := model prog w) X c.ga
 have L2 := looks_findIn (M := model prog w) X c.gn
 unfold getAttrBy
 refine wpAny_holding (wpAny_bind (L0.here (wpAny_bind (L1.here ?_))))
 have hne : (onTheHeap (Value.ref C) && Value.builtin "BaseException.__getattribute__" == Value.builtin "object.__getattribute__") = false := by
   show (true && _) = false
   decide +kernel
 show wpAny _ _ (if (onTheHeap (Value.ref C) && Value.builtin "BaseException.__getattribute__" == Value.builtin "object.__getattribute__") = true then _ else getAttrByItsOwn _ _ _ _ _ _) _ _ _
 rw [hne, if_neg Bool.false_ne_true]
 unfold getAttrByItsOwn
 refine wpAny_bind ?_
 show wpAny _ _ (typeLookup (.ref C) "__getattr__") _ _ _
 refine L2.here ?_
 refine wpAny_bind (wpAny_attempt (wpAny_holding ?_))
 have hcg : callGetattribute (.ref x) nameV (.builtin "BaseException.__getattribute__") expr = boundAndCalled (.builtin "BaseException.__getattribute__") (.ref x) nameV := by
   unfold callGetattribute
   rw [if_neg (by cases expr <;> decide)]
 rw [hcg]
 unfold boundAndCalled
 rw [bind_bexc]
 refine wpAny_bind (wpAny_pure ?_)
 refine wpAny_call (codeAny_call_builtin plain_bexc F.entry_bexc_ga (x_check X c I (he _ _ _ ?_)))
 show wpAny _ _ (handedOut v) _ _ _
 rw [handedOut_of hv]
 exact wpAny_pure h
theorem x_class {Q : Option Value → Shared → Prop} (X : K.In s.heap) (c : XCls K C) (I : InstAt s.heap x ox C od) (h : Q (some (.ref C)) { s with toks := s.toks + 1 }) : wpAny (model prog w) A (getAttr? (.ref x) "__class__") Q E s := by
 unfold getAttr? getAttrBy?
 refine wpAny_bind (wpAny_mkText (wpAny_bind (wpAny_attempt ?_)))
 exact x_by (s := { s with toks := s.toks + 1 }) X c I (fun A E Q q => x_entry_class (s := { s with toks := s.toks + 1 }) X c I q) rfl (wpAny_pure h)
theorem x_attr {v : Value} {expr : Bool} {Q : Value → Shared → Prop} (X : K.In s.heap) (c : XCls K C) (I : InstAt s.heap x ox C od) (hf : findObj K C od name = some (.value v)) (hv : handedIn v = true)
   (h : Q v { s with toks := s.toks + 1 }) : wpAny (model prog w) A (getAttr (.ref x) name expr) Q E s := by
 unfold getAttr
 refine wpAny_bind (wpAny_mkText ?_)
 exact x_by (s := { s with toks := s.toks + 1 }) X c I (fun A E Q q => x_entry_value (s := { s with toks := s.toks + 1 }) X I hf q) hv h
theorem kitx_exc {ox : Obj} {od : Option Obj} (c : XCls K C) : KitX K (.ref x) (.ref C) (fun h => InstAt h x ox C od) where
 ty := fun _ _ _ I => I.type
 it := fun _ _ X _ => by
   obtain ⟨cdD, hcD⟩ := xc_some c.mo
   unfold clsIn at hcD
   split at hcD
   · rename_i c' d' cd' sl' ho
     intro A' Q' E' s' k q
     unfold isType loadHead
     exact wpAny_bind (wpAny_loadPart (k _ _ (X _ _ ho)) (wpAny_pure q))
   · cases hcD
 ne := fun h tp dd its n sl X htp => by
   obtain ⟨cdD, hcD⟩ := xc_some c.mo
   refine Bool.eq_false_iff.mpr fun q => ?_
   have e : C = tp := Value.ref.inj (beq_iff_eq.mp q)
   subst e
   unfold clsIn at hcD
   split at hcD
   · rename_i c' d' cd' sl' ho
     have z := (X _ _ ho).symm.trans htp
     cases z
   · cases hcD
 ca := fun X I k => x_class X c I k
end
end L2
namespace L2
open PySem PySem.Spec PyProof.Rows
set_option genInjectivity false in
structure Catch (K : PySem.W.Frag) (B C : Addr) : Prop where
 ty : PySem.W.instIn K (.ref B) (.type "tuple") = some false
 bb : PySem.W.mroIn K B (.type "BaseException") = some true
 sub : PySem.W.mroIn K C (.ref B) = some true
theorem isType_of {K : PySem.W.Frag} {M : Model} {h : Heap} {C : Addr} {cd : ClassData} (X : K.In h) (hc : PySem.W.clsIn K C = some cd) : PySem.W.Looks M h (isType (.ref C)) true := by
 unfold PySem.W.clsIn at hc
 split at hc
 · rename_i c' d' cd' sl' ho
   intro A' Q' E' s' k q
   unfold isType loadHead
   exact wpAny_bind (wpAny_loadPart (k _ _ (X _ _ ho)) (wpAny_pure q))
 · cases hc
theorem excMatches_in {K : PySem.W.Frag} {M : Model} {A : Around} {E : Value → Shared → Prop} {s : Shared} {a B C : Addr} {ox : Obj} {od : Option Obj} {Q : Bool → Shared → Prop} (X : K.In s.heap) (I : PySem.W.InstAt s.heap a ox C od) (c : Catch K B C) (h : Q true s) :
   wpAny M A (excMatches (.ref a) (.ref B)) Q E s := by
 obtain ⟨cd, hcd⟩ := xc_some c.bb
 have L0 := PySem.W.looks_instIn (M := M) X c.ty
 have L1 := isType_of (M := M) X hcd
 have L2 := PySem.W.looks_mroIn (M := M) X c.bb
 have L3 := I.type (M := M)
 have L4 := PySem.W.looks_mroIn (M := M) X c.sub
 unfold excMatches
 refine wpAny_bind (L0.here ?_)
 simp only [Bool.false_eq_true, if_false]
 refine wpAny_bind (wpAny_pure ?_)
 rw [List.forIn_cons]
 refine wpAny_bind (wpAny_bind (wpAny_bind ?_))
 unfold isExcClass
 refine wpAny_bind (L1.here ?_)
 simp only [if_true]
 refine L2.here ?_
 simp only [Bool.not_true, Bool.false_eq_true, if_false]
 refine wpAny_pure ?_
 simp only [List.forIn_nil]
 refine wpAny_pure ?_
 refine wpAny_bind (L3.here ?_)
 rw [List.forIn_cons]
 refine wpAny_bind (wpAny_bind (wpAny_bind (L4.here ?_)))
 simp only [if_true]
 exact wpAny_pure (wpAny_pure (wpAny_pure h))
noncomputable abbrev Cx.hand (X : Cx) (a : Addr) : Cx := { X with A := X.A.mark (some (.ref a)), calm := false, xe := fun _ _ => False }
theorem Cx.Ok.hand {X : Cx} (ok : X.Ok) (a : Addr) : (X.hand a).Ok :=
 ⟨ok.mod, ok.kind, ok.glob, ok.blt, ok.above, ok.inj, ok.has, ok.cab, (fun z => by cases z), ok.frames, ok.stk, ok.exf, ok.bs, ok.bsz, ok.noex, ok.exfs, ok.funs, ok.frf⟩
section
variable {X : Cx} {pins : List (Addr × Obj)} {σ : St} {H : Hp} {s : Shared} {a : Addr}
theorem Inv.hand (I : Inv X pins σ H s) (a : Addr) : Inv (X.hand a) pins σ H s := ⟨I.ok.hand a, I.os, I.bare, I.base, I.loc, I.cell, I.free, I.freeC, I.pin, I.hok, I.len⟩
theorem Inv.unhand (ok : X.Ok) (I : Inv (X.hand a) pins σ H s) : Inv X pins σ H s := ⟨ok, I.os, I.bare, I.base, I.loc, I.cell, I.free, I.freeC, I.pin, I.hok, I.len⟩
end
noncomputable def XO (a C : Addr) (dx : Option Addr) : HO := .ext fun h => ∃ ob vs, h.get? a = some ob ∧ ob.cls = .ref C ∧ ob.dict = dx ∧ ob.data = .fields vs
theorem XO.ok {P : Program} {w : World} {H : Hp} {h : Heap} {a C : Addr} {dx : Option Addr} {fl : Value} {T : Addr} (x : ExcIs h a (.ref C) dx fl T) : ObjOk P w H h a (XO a C dx) := by
 obtain ⟨oe, vs, oT, ts, he, hc, hdx, hd, _⟩ := x
 exact ⟨⟨oe, vs, he, hc, hdx, hd⟩, ⟨oe, he⟩, fun h1 h2 ⟨ob, ws, q, r⟩ k => ⟨ob, ws, k _ q, r⟩⟩
noncomputable abbrev XS := St → XK
def XP (X : Cx) (pins : List (Addr × Obj)) (E : XS) (e : Value) (s' : Shared) : Prop := ∃ σ H s, Inv X pins σ H s ∧ CXE X.prog X.w X.stack H s (E σ) e s'
noncomputable abbrev TEX := St → Hp → VK → XK → Prop
noncomputable abbrev TSX := Ends → XS → St → Hp → Prop
def PEX (X : Cx) (e : Expr) (t : TEX) : Prop := ∀ (pins : List (Addr × Obj)) (s : Shared) (σ : St) (H : Hp) (Q : VK) (E : XS), Inv X pins σ H s → t σ H Q (E σ) →
 wpAny (model X.prog X.w) X.A (eval e X.env) (EP X pins σ Q) (XP X pins E) s
def PSX (X : Cx) (st : Stmt) (t : TSX) : Prop := ∀ (pins : List (Addr × Obj)) (s : Shared) (σ : St) (H : Hp) (D : Ends) (E : XS), Inv X pins σ H s → t D E σ H →
 wpAny (model X.prog X.w) X.A (exec st X.env) (SP X pins D) (XP X pins E) s
def PSsX (X : Cx) (st : List Stmt) (t : TSX) : Prop := ∀ (pins : List (Addr × Obj)) (s : Shared) (σ : St) (H : Hp) (D : Ends) (E : XS), Inv X pins σ H s → t D E σ H →
 wpAny (model X.prog X.w) X.A (execs st X.env) (SP X pins D) (XP X pins E) s
section
variable {X : Cx} {k : Nat} {f C : Addr} {fd : FuncData} {ps : List Str} {sp : Sp} {dvs : List V} {ds : List Value} {x m : Str} {p pos apos : Pos} {e o : Expr} {es : List Expr} {ta : TE} {t : TA}
theorem runX {pins : List (Addr × Obj)} {σ : St} {H : Hp} {s : Shared} {Q : VK} {E : XS} {us : List Value} {vs : List V} (F : FnOk X.prog X.w X.K X.mg X.base (CXE X.prog X.w) k f fd ps sp) (hr : Room k X.A) (hb : Binds X.K fd ps ds) (hd : Vals dvs ds)
   (I : Inv X pins σ H s) (r : Vals vs us) (h : sp (vs ++ dvs) H Q (E σ)) : wpAny (model X.prog X.w) X.A (call (.ref f) us) (EP X pins σ Q) (XP X pins E) s := by
 have r2 : Vals (vs ++ dvs) (us ++ ds) := r.append hd
 have hl : (us ++ ds).length = ps.length := by rw [← r2.length]; exact F.len _ _ _ _ h
 refine wpAny_call (codeAny_mono (F.run X.A X.stack s H ⟨us, []⟩ (us ++ ds) (vs ++ dvs) Q (E σ) hr I.env0 (hb s us I.kIn hl) r2 h) fun r s' hq => ?_)
 cases r with
 | error e => exact ⟨σ, H, s, I, hq⟩
 | ok fl =>
   cases fl with
   | ret u => exact I.after hq
   | next => exact False.elim hq
   | brk => exact False.elim hq
   | cont => exact False.elim hq
noncomputable def xCall (sp : Sp) (dvs : List V) (t : TA) : TEX := fun σ H Q E => t σ H fun vs H1 => sp (vs ++ dvs) H1 Q E
noncomputable def xMeth (C : Addr) (m : Str) (sp : Sp) (dvs : List V) (ta : TE) (t : TA) : TEX := fun σ H Q E => ta σ H fun x H1 => ∃ a dx fs, x = .ref a ∧ H1 a = some (.ins C dx fs) ∧ fs.lookup m = none ∧
 t σ H1 fun vs H2 => sp (x :: (vs ++ dvs)) H2 Q E
theorem noE {α : Type} {t : Sem α} {Q : α → Shared → Prop} {M : Model} {A : Around} {E : Value → Shared → Prop} {s : Shared} (h : wpAny M A t Q (fun _ _ => False) s) : wpAny M A t Q E s := wpAny_mono h (fun _ _ q => q) fun _ _ z => False.elim z
theorem pex_call (F : FnOk X.prog X.w X.K X.mg X.base (CXE X.prog X.w) k f fd ps sp) (hr : Room k X.A) (hg : Gl X x) (hm : X.mg x = some (.ref f)) (hk : PySem.W.keepIn X.K (.ref f) = true) (hb : Binds X.K fd ps ds) (hd : Vals dvs ds)
   (ha : PA X.nox (e :: es) t) (hdb : (x == ("__debug__" : Str)) = false := by decide) (he : starEach (e :: es) X.env = (false, eval e X.env) :: starEach es X.env := by rfl) (hpl : (backTo pos (starEach es X.env)).any (·.1) = false := by rfl) :
   PEX X (.Call (.Name x p) (e :: es) [] pos) (xCall sp dvs t) := by
 intro pins s σ H Q E I h
 refine wpAny_Call_Name_kw (ld_glob I hg hm ?_ hdb)
 refine PySem.W.callWith_K (h₀ := X.base) I.ok.mod.kin hk (noE (thn (ha pos pins s σ H _ (I.wish _) h) fun us s1 ⟨vs, H1, I1, r, q⟩ => ⟨I1.kIn, ?_⟩)) he hpl
 exact runX F hr hb hd I1.unwish r q
end
section
variable {X : Cx} {st : Stmt} {rest : List Stmt} {t : TS} {tx ux : TSX} {e : Expr} {te : TEX} {pos : Pos}
noncomputable def xDrop (te : TEX) : TSX := fun D E σ H => te σ H (fun _ H1 => D.nx σ H1) (E σ)
theorem psx_expr (he : PEX X e te) (hs : swapsWith e none pos.line X.env = pure false := by rfl) : PSX X (.Expr e pos) (xDrop te) := by
 intro pins s σ H D E I h
 exact wpAny_Expr_any (thn (he pins s σ H _ E I h) fun v s1 ⟨x, H1, I1, r1, q1⟩ => ⟨σ, H1, I1, q1⟩) I.quiet hs
noncomputable def xSet (i : Nat) (te : TEX) : TSX := fun D E σ H => te σ H (fun v H1 => D.nx (σ.set i (some v)) H1) (E σ)
noncomputable def xRet (te : TEX) : TSX := fun D E σ H => te σ H D.rt (E σ)
noncomputable def xOf (t : TS) : TSX := fun D _ σ H => t D σ H
noncomputable def xSeq (t u : TSX) : TSX := fun D E σ H => t { D with nx := u D E } E σ H
theorem pssx_one (h1 : PSX X st tx) : PSsX X [st] tx := by
 intro pins s σ H D E I h
 refine wpAny_execs_cons (thn (h1 pins s σ H D E I h) fun f s1 q => ?_)
 cases f with
 | next => exact wpAny_execs_nil q
 | ret v => exact q
 | brk => exact q
 | cont => exact q
end
set_option genInjectivity false in
structure Land (X : Cx) (H : Hp) (s : Shared) (a T : Addr) (cls : Value) (dx : Option Addr) (H' : Hp) (s' : Shared) : Prop where
 os : s'.os = s.os
 bare : AllBare s'.gens
 un : Un (frs X.stack) [] H H' s.heap s'.heap
 hok : HOk X.prog X.w H' s'.heap
 fa : s.heap.get? a = none
 fT : s.heap.get? T = none
 na : H' a = none
 nT : H' T = none
 ex : ExcIs s'.heap a cls dx .none T
section
variable {X : Cx} {pins : List (Addr × Obj)} {σ : St} {H H' : Hp} {s s' : Shared} {a T : Addr} {cls : Value} {dx : Option Addr} {M : Model} {A : Around} {E : Value → Shared → Prop}
theorem Land.inv (L : Land X H s a T cls dx H' s') (I : Inv X pins σ H s) : Inv X pins σ H' s' := I.call' (ch := []) L.os L.un L.hok L.bare fun b hb => absurd hb (by simp)
theorem Land.left {h' : Heap} (L : Land X H s a T cls dx H' s') (I : Inv X pins σ H s) (x : LeftX (frs X.stack) a T cls dx .none s'.heap h') : ∃ T', Land X H s a T' cls dx H' { s' with heap := h' } := by
 have J := L.inv I
 have na : ∀ b o, s.heap.get? b = some o → b ≠ a := fun b o e z => by rw [z, L.fa] at e; cases e
 have nT : ∀ b o, s.heap.get? b = some o → b ≠ T := fun b o e z => by rw [z, L.fT] at e; cases e
 obtain ⟨T', hT, y⟩ := x.exc
 have hT' : s.heap.get? T' = none := by
   cases q : s.heap.get? T' with
   | none => rfl
   | some o =>
     obtain ⟨o', q'⟩ := L.un.there T' o q (by simp)
     exact absurd (Nat.lt_of_lt_of_le (Heap.lt_size q') hT) (Nat.lt_irrefl _)
 refine ⟨T', L.os, L.bare, ⟨fun b o e n hb hx => x.keep b o hb (na b o e) (nT b o e) (L.un.keep b o e n hb hx), fun b o e n hb hx => ?_, L.un.free, fun b o e hx => ?_, L.un.tups, L.un.frzs, L.un.tbls⟩, ?_, L.fa, hT', L.na, L.hok.fresh hT, y⟩
 · obtain ⟨sl, q⟩ := L.un.slot b o e n hb hx
   obtain ⟨sl2, q2⟩ := x.slot b _ hb (na b o e) (nT b o e) q
   exact ⟨sl2, q2⟩
 · obtain ⟨o', q⟩ := L.un.there b o e hx
   exact x.there b o' q
 · refine L.hok.tracked fun b o u hb q => x.keep b o (fun z => ?_) (fun z => by rw [z, L.na] at hb; cases hb) (fun z => by rw [z, L.nT] at hb; cases hb) q
   have := J.stkFree b z
   rw [this] at hb; cases hb
theorem Land.off {h' : Heap} (L : Land X H s a T cls dx H' s') (k : ∀ b o, b ≠ T → s'.heap.get? b = some o → h'.get? b = some o) (hT : ∃ o, h'.get? T = some o) (y : ExcIs h' a cls dx .none T) : Land X H s a T cls dx H' { s' with heap := h' } := by
 have nT : ∀ b o, s.heap.get? b = some o → b ≠ T := fun b o e z => by rw [z, L.fT] at e; cases e
 refine ⟨L.os, L.bare, ⟨fun b o e n hb hx => k b o (nT b o e) (L.un.keep b o e n hb hx), fun b o e n hb hx => ?_, L.un.free, fun b o e hx => ?_, L.un.tups, L.un.frzs, L.un.tbls⟩, ?_, L.fa, L.fT, L.na, L.nT, y⟩
 · obtain ⟨sl, q⟩ := L.un.slot b o e n hb hx
   exact ⟨sl, k b _ (nT b o e) q⟩
 · obtain ⟨o', q⟩ := L.un.there b o e hx
   exact ⟨o', k b o' (nT b o e) q⟩
 · exact L.hok.tracked fun b o u hb q => k b o (fun z => by rw [z, L.nT] at hb; cases hb) q
theorem Land.track {C : Addr} (L : Land X H s a T (.ref C) dx H' s') (I : Inv X pins σ H s) : Inv X pins σ (upd H' a (XO a C dx)) s' := by
 have na : ∀ b o, s.heap.get? b = some o → b ≠ a := fun b o e z => by rw [z, L.fa] at e; cases e
 have up : ∀ b u, H' b = some u → upd H' a (XO a C dx) b = some u := fun b u q => by rw [upd_ne (zz4 q L.na)]; exact q
 refine I.call' (ch := []) L.os ⟨L.un.keep, L.un.slot, fun b o e n hx => ?_, L.un.there, fun b xs q => up b _ (L.un.tups b xs q), fun b o u q => up b _ (L.un.frzs b o u q), fun b ps q => ?_⟩ (fun b u q => ?_) L.bare fun b hb => absurd hb (by simp)
 · rw [upd_ne (na b o e)]; exact L.un.free b o e n hx
 · obtain ⟨m, z⟩ := L.un.tbls b ps q
   exact ⟨m, up b _ z⟩
 · by_cases hb : b = a
   · subst hb; rw [zz1] at q; cases q; exact XO.ok L.ex
   · rw [upd_ne hb] at q
     exact (L.hok b u q).stay (fun c v _ q => q) (fun c q => up c _ q) fun c xs q => up c _ q
def DxOk (dx : Option Addr) (H : Hp) : Prop := dx = none ∨ ∃ d fs, dx = some d ∧ H d = some (.xd fs)
theorem Land.inst {C : Addr} (L : Land X H s a T (.ref C) dx H' s') (hd : DxOk dx H') : ∃ ox od, PySem.W.InstAt s'.heap a ox C od := by
 obtain ⟨oe, vs, oT, ts, he, hc, hdx, hdt, _⟩ := L.ex
 rcases hd with e | ⟨d, fs, e, hd⟩
 · refine ⟨oe, none, he, hc, ?_, ?_⟩
   · unfold PySem.W.notCls; rw [hdt]
   · rw [hdx, e]; trivial
 · obtain ⟨o, q⟩ := (L.hok d _ hd).there
   refine ⟨oe, some o, he, hc, ?_, ?_⟩
   · unfold PySem.W.notCls; rw [hdt]
   · rw [hdx, e]; exact q
theorem land_note {R : Shared → Prop} (hst : X.stack = X.env :: X.outer) (hfr : X.env.frame = some X.env.locals) (L : Land X H s a T cls dx H' s') (I : Inv X pins σ H s)
   (h : ∀ T' s3, Land X H s a T' cls dx H' s3 → R s3) : wpAny M X.A (noteFrame (.ref a) X.env) (fun _ s2 => wpAny M X.A (setFlight (.ref a) none) (fun _ s3 => R s3) E s2) E s' := by
 have J := L.inv I
 refine note_next (base := X.base) (by rw [J.ok.frames, hst]) (by rw [← hst]; exact J.stack) hfr L.ex fun h1 x => ?_
 obtain ⟨T1, hT, y⟩ := x.exc
 refine flight_off (s := { s' with heap := h1 }) y fun h2 k hT2 z => ?_
 obtain ⟨T2, L2⟩ := L.left (h' := h2) I (by rw [hst]; exact x.off hT k hT2 z)
 exact h T2 _ L2
theorem name_gone {i : Nat} {n : Str} {pos : Pos} {Q : Unit → Shared → Prop} (I : Inv X pins σ H s) (hN : X.N.Nodup) (hi : X.N[i]? = some n) (hk : X.env.scope.names.lookup n = some .local) (h : ∀ s', Inv X pins (σ.set i none) H s' → Q () s') :
   wpAny M A (do bindName X.env n .none; unbindBehindTheSuite X.env n pos) Q E s := by
 obtain ⟨m, hn, hl⟩ := id I.loc
 have hcls : (X.env.scope.kind == .class || (X.env.scope.kind == .module && X.env.locals != X.env.globals)) = false := by rw [I.ok.kind]; rfl
 have hiσ : i < σ.length := by rw [I.len]; exact (List.getElem?_eq_some_iff.mp hi).1
 have cne := I.cne
 refine wpAny_nameGoes_keeps hk hn hcls fun h' v hn' hs => ?_
 obtain ⟨oL, _, _, hoL, _⟩ := id hn
 refine h _ ⟨I.ok, I.os, I.bare, ⟨fun b o e n hb hx => ?_, fun b o e n hb hx => ?_, I.base.free, fun b o e hx => ?_, I.base.tups, I.base.frzs, I.base.tbls⟩, ⟨_, hn', fun j y v' e1 e2 e3 => ?_⟩, fun y c e => ?_, I.free, I.freeC, fun p hp => ?_, fun b ob e => ?_, by simpa using I.len⟩
 · exact (hs.2 b (Nat.ne_of_lt (Nat.lt_of_lt_of_le (Heap.lt_size e) I.ok.above))).trans (I.base.keep b o e n hb hx)
 · obtain ⟨sl, e1⟩ := I.base.slot b o e n hb hx
   exact ⟨sl, (hs.2 b (Nat.ne_of_lt (Nat.lt_of_lt_of_le (Heap.lt_size e) I.ok.above))).trans e1⟩
 · obtain ⟨o', e1⟩ := I.base.there b o e hx
   exact ⟨o', (hs.2 b (Nat.ne_of_lt (Nat.lt_of_lt_of_le (Heap.lt_size e) I.ok.above))).trans e1⟩
 · by_cases hj : j = i
   · subst hj
     rw [List.getElem?_set_self hiσ] at e2
     cases e2
   · rw [List.getElem?_set_ne (Ne.symm hj)] at e2
     obtain ⟨u', r', q⟩ := hl j y v' e1 e2 e3
     refine ⟨u', r', ?_⟩
     rcases q with ⟨k, e⟩ | ⟨k, c, e, z⟩
     · refine .inl ⟨k, ?_⟩
       have : y ≠ n := fun e => hj (nodup_ix hN e1 (e ▸ hi))
       simp [this, e]
     · exact .inr ⟨k, c, e, z.sameBut hs (cne y c e)⟩
 · obtain ⟨w', z⟩ := I.cell y c e
   exact ⟨w', z.sameBut hs (cne y c e)⟩
 · obtain ⟨e, n, ne, nf, d⟩ := I.pin p hp
   exact ⟨(hs.2 p.1 ne).trans e, n, ne, nf, d⟩
 · refine (I.hok b ob e).stay (fun c w' hc q => (hs.2 c ?_).trans q) (fun _ q => q) fun _ _ q => q
   rintro rfl
   have fr := I.free
   rcases hc with rfl | hc
   · rw [fr] at e; cases e
   · rw [fr] at hc; cases hc
end
noncomputable def un1 (i : Nat) (D : Ends) : Ends := { nx := fun σ H => D.nx (σ.set i none) H, rt := D.rt, bk := fun σ H => D.bk (σ.set i none) H, ct := fun σ H => D.ct (σ.set i none) H }
def tTryAs (K : PySem.W.Frag) (B : Addr) (i : Nat) (tb : TSX) (th : TS) : TS := fun D σ H =>
 tb D (fun σ' cls dx H' => ∃ C, cls = .ref C ∧ Catch K B C ∧ DxOk dx H' ∧ ∀ a, H' a = none → th (un1 i D) (σ'.set i (some (.ref a))) (upd H' a (XO a C dx))) σ H
def tTry0 (K : PySem.W.Frag) (B : Addr) (tb : TSX) (th : TS) : TS := fun D σ H =>
 tb D (fun σ' cls dx H' => ∃ C, cls = .ref C ∧ Catch K B C ∧ DxOk dx H' ∧ th D σ' H') σ H
section
variable {X : Cx} {body suite : List Stmt} {b₀ : Stmt} {x n : Str} {B : Addr} {i : Nat} {np hpos pos : Pos} {tb : TSX} {th : TS}
theorem ps_tryAs (hst : X.stack = X.env :: X.outer) (hfr : X.env.frame = some X.env.locals) (hN : X.N.Nodup) (hi : X.N[i]? = some n) (hlo : X.env.scope.names.lookup n = some .local) (hg : Gl X x) (hm : X.mg x = some (.ref B)) (hb : PSsX X body tb)
   (hs : ∀ a, PSs (X.hand a) (b₀ :: suite) th) (hd : (x == ("__debug__" : Str)) = false := by decide) : PS X (.Try body [.ExceptHandler (some (.Name x np)) (some n) (b₀ :: suite) hpos] [] [] pos) (tTryAs X.K B i tb th) := by
 intro pins s σ H D I h
 refine wpAny_Try_except (wpAny_mono (hb pins s σ H D _ I h) (fun f s1 q => ?_) fun e s1 hx => ?_)
 · cases f with
   | next => exact wpAny_execs_nil q
   | ret v => exact q
   | brk => exact q
   | cont => exact q
 · obtain ⟨σ1, H1, s2, I1, a, T, cls, dx, H', rfl, ho, hg', u, hok, ha, hT, hHa, hHT, y, C, rfl, hcat, hdx, hth⟩ := hx
   have L : Land X H1 s2 a T (.ref C) dx H' s1 := ⟨ho, hg', u, hok, ha, hT, hHa, hHT, y⟩
   refine land_note hst hfr L I1 fun T3 s3 L3 => ?_
   have J := L3.inv I1
   obtain ⟨ox, od, ins⟩ := L3.inst hdx
   refine wpAny_handleBy_cons (codeAny_handlers_test (ld_glob (X := X.hand a) (J.hand a) hg hm ?_ hd)) (by intro q; cases q)
   refine excMatches_in J.kIn ins hcat ?_
   refine codeAny_handlers_suite_as ?_
   refine flight_off L3.ex fun h4 k4 hT4 y4 => ?_
   have J4 := (L3.off k4 hT4 y4).track I1
   refine store_ok (X := X.hand a) (J4.hand a) hN hi (.inl hlo) (v := .ref a) rfl (fun s5 I5 => ?_) (.inr hlo)
   refine noE (thn (hs a pins s5 _ _ (un1 i D) I5 (hth a hHa)) fun f s6 q => ?_)
   have ok := I.ok
   cases f with
   | next =>
     obtain ⟨σ', H2, I6, q⟩ := q
     exact name_gone (I6.unhand ok) hN hi hlo fun s7 I7 => ⟨_, H2, I7, q⟩
   | brk =>
     obtain ⟨σ', H2, I6, q⟩ := q
     exact name_gone (I6.unhand ok) hN hi hlo fun s7 I7 => ⟨_, H2, I7, q⟩
   | cont =>
     obtain ⟨σ', H2, I6, q⟩ := q
     exact name_gone (I6.unhand ok) hN hi hlo fun s7 I7 => ⟨_, H2, I7, q⟩
   | ret v =>
     obtain ⟨v', σ', H2, I6, r, q⟩ := q
     exact name_gone (I6.unhand ok) hN hi hlo fun s7 I7 => ⟨v', _, H2, I7, r, q⟩
theorem ps_tryAsK {K : PySem.W.Frag} (e : X.K = K) (hst : X.stack = X.env :: X.outer) (hfr : X.env.frame = some X.env.locals) (hN : X.N.Nodup) (hi : X.N[i]? = some n) (hlo : X.env.scope.names.lookup n = some .local) (hg : Gl X x) (hm : X.mg x = some (.ref B)) (hb : PSsX X body tb)
   (hs : ∀ a, PSs (X.hand a) (b₀ :: suite) th) (hd : (x == ("__debug__" : Str)) = false := by decide) : PS X (.Try body [.ExceptHandler (some (.Name x np)) (some n) (b₀ :: suite) hpos] [] [] pos) (tTryAs K B i tb th) := e ▸ ps_tryAs hst hfr hN hi hlo hg hm hb hs hd
end
end L2
namespace L2
open PySem PySem.Spec PyProof.Rows
section
variable {X : Cx}
def tRepr (t : TE) : TE := fun σ H Q => t σ H fun x H1 => ∃ z, x = .str z ∧ (reprText z).length ≤ sizeLine ∧ Q (.str (reprText z)) H1
def tFmt (t : TE) : TE := fun σ H Q => t σ H fun x H1 => (∃ z, x = .str z ∧ z.length ≤ sizeLine ∧ Q (.str z) H1) ∨ ∃ i : Int, x = .int i ∧ i.natAbs.log2 < 1920 ∧ Q (.str (toString i)) H1
theorem pe_fmt {e : Expr} {t : TE} {pos : Pos} (he : PE X e t) : PE X (.FormattedValue e (-1) none pos) (tFmt t) := by
 intro pins s σ H Q I h
 refine FormattedValue_plain (thn (he pins s σ H _ I h) fun v s1 ⟨x, H1, I1, r1, q⟩ => ?_)
 rcases q with ⟨z, rfl, hz, q⟩ | ⟨i, rfl, hi, q⟩
 · obtain ⟨t', rfl⟩ := r1
   exact formatField_str (fun t'' tk => ⟨.str z, H1, I1.tok tk, ⟨t'', rfl⟩, q⟩) hz
 · obtain ⟨t', rfl⟩ := r1
   exact formatField_int_small hi ⟨.str (toString i), H1, I1.tok _, ⟨_, rfl⟩, q⟩
noncomputable abbrev TJ := Str → St → Hp → VK → Prop
def PJ (X : Cx) (es : List Expr) (t : TJ) : Prop := ∀ (acc : Str) (pins : List (Addr × Obj)) (s : Shared) (σ : St) (H : Hp) (Q : VK), Inv X pins σ H s → t acc σ H Q →
 wpAny (model X.prog X.w) X.A (joinParts acc (evalEach es X.env)) (EP X pins σ Q) X.xe s
noncomputable def jNil : TJ := fun acc _ H Q => acc.length ≤ sizeLine ∧ Q (.str acc) H
noncomputable def jCons (t : TE) (u : TJ) : TJ := fun acc σ H Q => t σ H fun x H1 => ∃ y, x = .str y ∧ (acc ++ y).length ≤ sizeLine ∧ u (acc ++ y) σ H1 Q
theorem pj_nil : PJ X [] jNil := fun acc pins s σ H Q I h => joinParts_nilE (joinParts_nil ⟨.str acc, H, I.tok _, ⟨_, rfl⟩, h.2⟩ h.1)
theorem pj_cons {e : Expr} {es : List Expr} {t : TE} {u : TJ} (he : PE X e t) (hr : PJ X es u) : PJ X (e :: es) (jCons t u) := by
 intro acc pins s σ H Q I h
 refine joinParts_consE (joinParts_cons (thn (he pins s σ H _ I h) fun v s1 ⟨x, H1, I1, r1, y, ey, hy, q⟩ => ?_))
 subst ey
 obtain ⟨t', rfl⟩ := r1
 exact ⟨hy, hr (acc ++ y) pins s1 σ H1 Q I1 q⟩
def tJoined (t : TJ) : TE := fun σ H Q => t Str.empty σ H Q
theorem pe_joined {v₁ v₂ : Expr} {rest : List Expr} {pos : Pos} {t : TJ} (h : PJ X (v₁ :: v₂ :: rest) t) : PE X (.JoinedStr (v₁ :: v₂ :: rest) pos) (tJoined t) :=
 fun pins s σ H Q I hw => JoinedStr_many (h Str.empty pins s σ H Q I hw)
theorem strs_of : ∀ {zs : List Str} {us : List Value}, Vals (zs.map V.str) us → ∃ l : List (Str × Tok), us = strValues l ∧ l.map (·.1) = zs
 | [], _, .nil => ⟨[], rfl, rfl⟩
 | z :: zs, _, .cons ⟨t, e⟩ r => by
   obtain ⟨l, h1, h2⟩ := strs_of r
   subst e
   exact ⟨(z, t) :: l, by rw [h1]; rfl, by simp [h2]⟩
noncomputable def rJoin (K : PySem.W.Frag) : V → List V → Hp → VK → Prop := fun x vs H Q => ∃ z a zs, x = .str z ∧ vs = [.ref a] ∧ SqL K H a (zs.map V.str) ∧ JoinOk z zs = true ∧ Q (.str (Txt.join z zs)) H
theorem mt_join : MtM X "str.join" (rJoin X.K) := by
 intro pins s σ H x vs v us Q I rx rv h
 obtain ⟨z, a, zs, rfl, rfl, hS, hok, q⟩ := h
 obtain ⟨t, rfl⟩ := rx
 obtain ⟨u, rfl, ru⟩ := rv.one
 cases ru
 obtain ⟨its, r, p, _⟩ := I.list hS
 obtain ⟨l, e1, e2⟩ := strs_of r
 subst e1
 refine SC.join (l := l) p.isList e2 hok fun t' k => ⟨.str (Txt.join z zs), H, I.tok k, ⟨t', rfl⟩, q⟩
theorem mt_joinK {K : PySem.W.Frag} (e : X.K = K) : MtM X "str.join" (rJoin K) := e ▸ mt_join
def TyX (K : PySem.W.Frag) (H : Hp) (x : V) (t : Value) : Prop := TyOf K H x t ∨ ∃ a C dx, x = .ref a ∧ t = .ref C ∧ H a = some (XO a C dx) ∧ DxOk dx H ∧ XCls K C
noncomputable def vOf : V → Value
 | .ref a => .ref a
 | .ty n => .type n
 | _ => .none
noncomputable def isCl : V → Bool
 | .ref _ => true
 | .ty _ => true
 | _ => false
theorem xo_inst {pins : List (Addr × Obj)} {σ : St} {H : Hp} {s : Shared} {a C : Addr} {dx : Option Addr} (I : Inv X pins σ H s) (e : H a = some (XO a C dx)) (hd : DxOk dx H) : ∃ ox od, PySem.W.InstAt s.heap a ox C od := by
 obtain ⟨⟨ob, vs, he, hc, hdx, hdt⟩, _⟩ := I.hok a _ e
 rcases hd with e | ⟨d, fs, e, hd⟩
 · refine ⟨ob, none, he, hc, ?_, ?_⟩
   · unfold PySem.W.notCls; rw [hdt]
   · rw [hdx, e]; trivial
 · obtain ⟨o, q⟩ := (I.hok d _ hd).there
   refine ⟨ob, some o, he, hc, ?_, ?_⟩
   · unfold PySem.W.notCls; rw [hdt]
   · rw [hdx, e]; exact q
noncomputable def rIsx (K : PySem.W.Frag) : List V → Hp → VK → Prop := fun xs H Q => ∃ x c t b, xs = [x, c] ∧ isCl c = true ∧ TyX K H x t ∧ PySem.W.kitOne K t (vOf c) = some b ∧ Q (.bl b) H
theorem vOf_rel {c : V} {u : Value} (h : isCl c = true) (r : RelV c u) : u = vOf c := by
 cases c <;> first | exact r | cases h
theorem call_isx : CallR X (.builtin "isinstance") (rIsx X.K) := by
 intro pins s σ H xs us Q I r h
 obtain ⟨x, c, t, b, rfl, hc, ty, e, q⟩ := h
 obtain ⟨u, u2, rfl, ru, ru2⟩ := vals2 r
 have e2 := vOf_rel hc ru2
 subst e2
 rcases ty with ty | ⟨a, C, dx, rfl, rfl, ha, hd, xc⟩
 · exact isinst_ok I ru ty e fun tk => ⟨.bl b, H, I.tok tk, rfl, q⟩
 · cases ru
   obtain ⟨ox, od, J⟩ := xo_inst I ha hd
   exact PySem.W.kia_one (kitx_exc xc) I.kIn J e (fun z => nomatch z) fun tk => ⟨.bl b, H, I.tok tk, rfl, q⟩
theorem vals_cl : ∀ {cs : List V} {us : List Value}, cs.all isCl = true → Vals cs us → us = cs.map vOf
 | [], _, _, .nil => rfl
 | c :: cs, _, h, .cons r rs => by
   simp only [List.all_cons, Bool.and_eq_true] at h
   rw [vOf_rel h.1 r, vals_cl h.2 rs]; rfl
noncomputable def rIst (K : PySem.W.Frag) : List V → Hp → VK → Prop := fun xs H Q => ∃ x tp cs t b, xs = [x, .ref tp] ∧ H tp = some (.tup cs) ∧ cs.all isCl = true ∧ TyX K H x t ∧ PySem.W.kitAny K t (cs.map vOf) = some b ∧ Q (.bl b) H
theorem tyx_kit {pins : List (Addr × Obj)} {σ : St} {H : Hp} {s : Shared} {x : V} {u t : Value} (I : Inv X pins σ H s) (rx : RelV x u) (ty : TyX X.K H x t) : ∃ φ, PySem.W.KitX X.K u t φ ∧ φ s.heap ∧ u ≠ .builtin "__main__.__loader__#opaque" := by
 rcases ty with ty | ⟨a, C, dx, rfl, rfl, ha, hd, xc⟩
 · cases ty with
   | non => cases (show u = Value.none from rx); exact ⟨_, PySem.W.kitx_none, True.intro, fun z => nomatch z⟩
   | bl y => cases (show u = Value.bool y from rx); exact ⟨_, PySem.W.kitx_bool, True.intro, fun z => nomatch z⟩
   | int i => obtain ⟨t, q⟩ := (show ∃ t, u = Value.int i t from rx); cases q; exact ⟨_, PySem.W.kitx_int, True.intro, fun z => nomatch z⟩
   | str y => obtain ⟨t, q⟩ := (show ∃ t, u = Value.str y t from rx); cases q; exact ⟨_, PySem.W.kitx_str, True.intro, fun z => nomatch z⟩
   | flt y => obtain ⟨t, q⟩ := (show ∃ t, u = Value.float y t from rx); cases q; exact ⟨_, PySem.W.kitx_float, True.intro, fun z => nomatch z⟩
   | @lst a xs ea =>
     cases (show u = Value.ref a from rx)
     obtain ⟨_, _, n, _, h1⟩ := (show ObjOk X.prog X.w H s.heap a (.lst xs) from I.hok a _ ea)
     exact ⟨_, PySem.W.kitx_list, ⟨_, h1, rfl⟩, fun z => nomatch z⟩
   | @frz a ob xs ea =>
     cases (show u = Value.ref a from rx)
     obtain ⟨_, _, _, n, _, h1⟩ := (show ObjOk X.prog X.w H s.heap a (.frz ob (.lst xs)) from I.hok a _ ea)
     exact ⟨_, PySem.W.kitx_list, ⟨_, h1, rfl⟩, fun z => nomatch z⟩
   | @tup a xs ea =>
     cases (show u = Value.ref a from rx)
     obtain ⟨_, _, _, p⟩ := (show ObjOk X.prog X.w H s.heap a (.tup xs) from I.hok a _ ea)
     obtain ⟨o, h1, h2, _⟩ := p
     exact ⟨_, PySem.W.kitx_tuple, ⟨o, h1, h2⟩, fun z => nomatch z⟩
   | @dK a kvs ea =>
     cases (show u = Value.ref a from rx)
     obtain ⟨_, _, vs, _, p⟩ := (show ObjOk X.prog X.w H s.heap a (.dK kvs) from I.hok a _ ea)
     obtain ⟨o, es, ep, h1, h2, _⟩ := p
     exact ⟨_, PySem.W.kitx_dict, ⟨o, h1, h2.1⟩, fun z => nomatch z⟩
   | @dT a kvs ea =>
     cases (show u = Value.ref a from rx)
     obtain ⟨_, _, xs, _, o, es, ep, h1, h2, _⟩ := (show ObjOk X.prog X.w H s.heap a (.dT kvs) from I.hok a _ ea)
     exact ⟨_, PySem.W.kitx_dict, ⟨o, h1, h2.1⟩, fun z => nomatch z⟩
   | @ins a C dx fs ea cl ha hn htk hm =>
     cases (show u = Value.ref a from rx)
     obtain ⟨mA, O, _⟩ := ins_get I.hok ea
     obtain ⟨od, J, _⟩ := O.look
     exact ⟨_, PySem.W.kitx_own (cl.get _) cl.hd ha hn htk hm, J, fun z => nomatch z⟩
 · cases (show u = Value.ref a from rx)
   obtain ⟨ox, od, J⟩ := xo_inst I ha hd
   exact ⟨_, kitx_exc xc, J, fun z => nomatch z⟩
theorem call_ist : CallR X (.builtin "isinstance") (rIst X.K) := by
 intro pins s σ H xs us Q I r h
 obtain ⟨x, tp, cs, t, b, rfl, htp, hc, ty, e, q⟩ := h
 obtain ⟨u, u2, rfl, ru, ru2⟩ := vals2 r
 cases ru2
 obtain ⟨φ, Z, p, hx⟩ := tyx_kit I ru ty
 obtain ⟨_, its, rv, o, ho, hcl, n, hdt⟩ := I.hok tp _ htp
 have e2 := vals_cl hc rv
 subst e2
 obtain ⟨oc, od, oda, osl⟩ := o
 dsimp only at hcl hdt
 subst hcl hdt
 exact PySem.W.kia_tup Z I.kIn p ho e hx fun tk => ⟨.bl b, H, I.tok tk, rfl, q⟩
theorem call_isxK {K : PySem.W.Frag} (e : X.K = K) : CallR X (.builtin "isinstance") (rIsx K) := e ▸ call_isx
theorem call_istK {K : PySem.W.Frag} (e : X.K = K) : CallR X (.builtin "isinstance") (rIst K) := e ▸ call_ist
end
section
variable {P : Program} {w : World} {K : PySem.W.Frag} {mg : Str → Option Value} {base : Heap}
theorem Fun.okE {x qual : Str} {st : Stmt} {f : Addr} {fd : FuncData} {N ps : List Str} {k : Nat} {sp : Sp} (F : Fun K x qual st f fd) (S : FnScope N ps (defScope st)) (len : ∀ vs H Q E, sp vs H Q E → vs.length = ps.length)
   (hbody : ∀ (cdv : Value) (A : Around) (outer : List Env) (s : Shared) (H : Hp) (vs : List V) (Q : VK) (E : XK), Room k (A.deeper (envOfC qual (defScope st) s.heap.objs.size f cdv)) → sp vs H Q E →
     ∃ t, PSs (cxOf (CXE P w) P w K mg base N qual (defScope st) f cdv A outer s H E) (defBody st) t ∧ t { nx := fun _ H' => Q .non H', rt := Q } (start N vs) H) : FnOk P w K mg base (CXE P w) (k + 1) f fd ps sp := by
 obtain ⟨oc, od, kV, doc, pm, an, cdv, ct, osl, rfl, lk, hcd⟩ := F.ex
 refine fn_of lk hcd S len fun A outer s H vs Q E hr hsp => ?_
 obtain ⟨t, h, q⟩ := hbody cdv A outer s H vs Q E hr hsp
 exact ⟨t, h, q⟩
end
end L2
namespace L2
end L2
namespace L2
open PySem PySem.Spec PyProof.Rows
theorem pass0E {X : Cx} : Passes (CXE X.prog X.w) X E0 := fun _ _ _ _ _ _ _ h => by
 obtain ⟨_, _, _, _, _, _, _, _, _, _, _, _, _, _, _, z⟩ := h
 exact z.elim
theorem txt_join (sep : Str) (ts : List Str) : Txt.join sep ts = Str.join sep ts := StrLaws.glued_eq_join sep ts
theorem sum_le {ts : List Str} {B : Nat} : (∀ t ∈ ts, t.length ≤ B) → (ts.map (·.length)).sum ≤ ts.length * B := by
 induction ts with
 | nil => intro _; simp
 | cons a r ih =>
   intro h
   have h1 := h a (List.mem_cons_self ..)
   have h2 := ih fun t ht => h t (List.mem_cons_of_mem _ ht)
   simp only [List.map_cons, List.sum_cons, List.length_cons]
   rw [Nat.add_mul]; omega
theorem join_le {sep : Str} {ts : List Str} {B : Nat} (h : ∀ t ∈ ts, t.length ≤ B) : (Txt.join sep ts).length ≤ ts.length * B + ts.length * sep.length := by
 rw [txt_join]
 exact Nat.le_trans (StrLaws.join_length_le sep ts) (Nat.add_le_add_right (sum_le h) _)
theorem joinOk_of {sep : Str} {ts : List Str} {B : Nat} (h : ∀ t ∈ ts, t.length ≤ B) (hz : ts.length * B + ts.length * sep.length ≤ 16777216) : JoinOk sep ts = true := by
 unfold JoinOk
 rw [StrLaws.joinFits h hz]; rfl
end L2
namespace L2
open PySem PySem.Spec PyProof.Rows
set_option genInjectivity false in
structure FillM where
 a : Addr
 at_ : Int
 rule : Str
 name : Str
 add : Int
 soft : Bool
set_option genInjectivity false in
structure StM where
 t : Addr
 lw : Addr
 lf : Addr
 kind : Str
 step : Int
 words : List Int
 fills : List FillM
set_option genInjectivity false in
structure ToldM where
 a : Addr
 name : Str
 sort : Str
 st : Int
 off : Int
set_option genInjectivity false in
structure PcM where
 t : Addr
 ls : Addr
 ln : Addr
 name : Str
 sts : List StM
 nms : List ToldM
noncomputable abbrev FillM.v (f : FillM) : V := .ref f.a
noncomputable abbrev StM.v (s : StM) : V := .ref s.t
noncomputable abbrev ToldM.v (n : ToldM) : V := .ref n.a
noncomputable abbrev PcM.v (p : PcM) : V := .ref p.t
def FillM.At (H : Hp) (f : FillM) : Prop := H f.a = some (.tup [.int f.at_, .str f.rule, .str f.name, .int f.add, .bl f.soft])
def ToldM.At (H : Hp) (n : ToldM) : Prop := H n.a = some (.tup [.str n.name, .str n.sort, .int n.st, .int n.off])
set_option genInjectivity false in
structure StM.At (H : Hp) (s : StM) : Prop where
 top : H s.t = some (.tup [.str s.kind, .int s.step, .ref s.lw, .ref s.lf])
 wd : H s.lw = some (.lst (s.words.map V.int))
 fl : H s.lf = some (.lst (s.fills.map FillM.v))
 fs : ∀ f ∈ s.fills, f.At H
set_option genInjectivity false in
structure PcM.At (H : Hp) (p : PcM) : Prop where
 top : H p.t = some (.tup [.str p.name, .ref p.ls, .ref p.ln])
 sl : H p.ls = some (.lst (p.sts.map StM.v))
 nl : H p.ln = some (.lst (p.nms.map ToldM.v))
 ss : ∀ s ∈ p.sts, s.At H
 ns : ∀ n ∈ p.nms, n.At H
noncomputable def StM.lists (s : StM) : List Addr := [s.lw, s.lf]
noncomputable def PcM.lists (p : PcM) : List Addr := p.ls :: p.ln :: p.sts.flatMap StM.lists
noncomputable def listsOf (ps : List PcM) : List Addr := ps.flatMap PcM.lists
set_option genInjectivity false in
structure Pcs (H : Hp) (L : Addr) (ps : List PcM) : Prop where
 top : H L = some (.lst (ps.map PcM.v))
 at_ : ∀ p ∈ ps, p.At H
 nd : (L :: listsOf ps).Nodup
def But (H H' : Hp) (l : Addr) : Prop := (∃ xs, H l = some (.lst xs)) ∧ ∀ b o, H b = some o → b ≠ l → H' b = some o
theorem But.upd {H : Hp} {l : Addr} {xs : List V} {o : HO} (h : H l = some (.lst xs)) : But H (L2.upd H l o) l := ⟨⟨xs, h⟩, fun b u e n => by rw [upd_ne n]; exact e⟩
theorem But.tup {H H' : Hp} {l a : Addr} {xs : List V} (b : But H H' l) (h : H a = some (.tup xs)) : H' a = some (.tup xs) := by
 obtain ⟨ys, hl⟩ := b.1
 exact b.2 _ _ h fun e => by rw [e, hl] at h; cases h
theorem FillM.At.but {H H' : Hp} {l : Addr} {f : FillM} (h : f.At H) (b : But H H' l) : f.At H' := b.tup h
theorem ToldM.At.but {H H' : Hp} {l : Addr} {n : ToldM} (h : n.At H) (b : But H H' l) : n.At H' := b.tup h
theorem StM.At.but {H H' : Hp} {l : Addr} {s : StM} (h : s.At H) (b : But H H' l) (n : l ∉ s.lists) : s.At H' :=
 ⟨b.tup h.top, b.2 _ _ h.wd fun e => n (by simp [StM.lists, e]), b.2 _ _ h.fl fun e => n (by simp [StM.lists, e]), fun f hf => (h.fs f hf).but b⟩
theorem PcM.At.but {H H' : Hp} {l : Addr} {p : PcM} (h : p.At H) (b : But H H' l) (n : l ∉ p.lists) : p.At H' :=
 ⟨b.tup h.top, b.2 _ _ h.sl fun e => n (by simp [PcM.lists, e]), b.2 _ _ h.nl fun e => n (by simp [PcM.lists, e]),
   fun s hs => (h.ss s hs).but b fun z => n (by simp only [PcM.lists, List.mem_cons]; exact .inr (.inr (List.mem_flatMap.mpr ⟨s, hs, z⟩))), fun m hm => (h.ns m hm).but b⟩
theorem StM.At.list {H : Hp} {s : StM} (h : s.At H) {b : Addr} (hb : b ∈ s.lists) : ∃ xs, H b = some (.lst xs) := by
 simp only [StM.lists, List.mem_cons, List.not_mem_nil, or_false] at hb
 rcases hb with e | e
 · rw [e]; exact ⟨_, h.wd⟩
 · rw [e]; exact ⟨_, h.fl⟩
theorem PcM.At.list {H : Hp} {p : PcM} (h : p.At H) {b : Addr} (hb : b ∈ p.lists) : ∃ xs, H b = some (.lst xs) := by
 simp only [PcM.lists, List.mem_cons] at hb
 rcases hb with e | e | e
 · rw [e]; exact ⟨_, h.sl⟩
 · rw [e]; exact ⟨_, h.nl⟩
 · obtain ⟨s, hs, z⟩ := List.mem_flatMap.mp e
   exact (h.ss s hs).list z
theorem listsOf_snoc (ps : List PcM) (p : PcM) : listsOf (ps ++ [p]) = listsOf ps ++ p.lists := by simp [listsOf, List.flatMap_append]
theorem Pcs.apart {H : Hp} {L : Addr} {ps : List PcM} {p : PcM} (h : Pcs H L (ps ++ [p])) : (∀ q ∈ ps, ∀ b ∈ p.lists, b ∉ q.lists) ∧ p.lists.Nodup ∧ L ∉ p.lists ∧ ∀ q ∈ ps, L ∉ q.lists := by
 have n := h.nd
 rw [listsOf_snoc] at n
 obtain ⟨n1, n2⟩ := List.nodup_cons.mp n
 obtain ⟨n3, n4, n5⟩ := List.nodup_append.mp n2
 refine ⟨fun q hq b hb z => n5 b (List.mem_flatMap.mpr ⟨q, hq, z⟩) b hb rfl, n4, fun z => n1 (List.mem_append_right _ z), fun q hq z => n1 (List.mem_append_left _ (List.mem_flatMap.mpr ⟨q, hq, z⟩))⟩
theorem Pcs.last {H : Hp} {L l : Addr} {ps : List PcM} {p p' : PcM} {o : HO} (h : Pcs H L (ps ++ [p])) (hl : l ∈ p.lists) (ht : p'.t = p.t) (hp : p'.At (upd H l o)) (hn : (L :: listsOf (ps ++ [p'])).Nodup) : Pcs (upd H l o) L (ps ++ [p']) := by
 obtain ⟨a1, a2, a3, a4⟩ := h.apart
 obtain ⟨xs, hx⟩ := (h.at_ p (by simp)).list hl
 have b : But H (upd H l o) l := But.upd hx
 refine ⟨?_, fun q hq => ?_, hn⟩
 · rw [b.2 _ _ h.top fun e => a3 (by rw [e]; exact hl)]
   simp [PcM.v, ht]
 · rcases List.mem_append.mp hq with z | z
   · exact (h.at_ q (List.mem_append_left _ z)).but b (a1 q z l hl)
   · rw [List.mem_singleton.mp z]; exact hp
theorem Pcs.newStretch {H : Hp} {L t lw lf : Addr} {kind : Str} {step : Int} {ps : List PcM} {p : PcM} (h : Pcs H L (ps ++ [p])) (h1 : H t = some (.tup [.str kind, .int step, .ref lw, .ref lf])) (h2 : H lw = some (.lst [])) (h3 : H lf = some (.lst []))
   (n1 : lw ≠ lf) (n2 : lw ∉ L :: listsOf (ps ++ [p])) (n3 : lf ∉ L :: listsOf (ps ++ [p])) :
   Pcs (upd H p.ls (.lst (p.sts.map StM.v ++ [.ref t]))) L (ps ++ [{ p with sts := p.sts ++ [⟨t, lw, lf, kind, step, [], []⟩] }]) := by
 have hp := h.at_ p (by simp)
 obtain ⟨a1, a2, a3, a4⟩ := h.apart
 have b : But H (upd H p.ls (.lst (p.sts.map StM.v ++ [.ref t]))) p.ls := But.upd hp.sl
 have in1 : ∀ x, x ∈ p.lists → x ∈ L :: listsOf (ps ++ [p]) := fun x hx => List.mem_cons_of_mem _ (by rw [listsOf_snoc]; exact List.mem_append_right _ hx)
 have hls : p.ls ∈ p.lists := by simp [PcM.lists]
 have nd : p.ls ≠ p.ln ∧ p.ls ∉ p.sts.flatMap StM.lists := by
   have := a2
   simp only [PcM.lists, List.nodup_cons, List.mem_cons, not_or] at this
   exact this.1
 refine h.last hls rfl ⟨b.tup hp.top, by rw [zz1]; simp, b.2 _ _ hp.nl (Ne.symm nd.1), fun s hs => ?_, fun n hn => (hp.ns n hn).but b⟩ ?_
 · rcases List.mem_append.mp hs with z | z
   · exact (hp.ss s z).but b fun q => nd.2 (List.mem_flatMap.mpr ⟨s, z, q⟩)
   · have e := List.mem_singleton.mp z
     subst e
     exact ⟨b.tup h1, b.2 _ _ h2 fun (e : lw = p.ls) => n2 (in1 _ (e ▸ hls)), b.2 _ _ h3 fun (e : lf = p.ls) => n3 (in1 _ (e ▸ hls)), fun f hf => absurd hf (by simp)⟩
 · have e : L :: listsOf (ps ++ [{ p with sts := p.sts ++ [⟨t, lw, lf, kind, step, [], []⟩] }]) = (L :: listsOf (ps ++ [p])) ++ [lw, lf] := by
     rw [listsOf_snoc, listsOf_snoc]
     simp [PcM.lists, StM.lists, List.flatMap_append]
   rw [e]
   refine List.nodup_append.mpr ⟨h.nd, by simp [n1], fun x hx y hy e => ?_⟩
   subst e
   simp only [List.mem_cons, List.not_mem_nil, or_false] at hy
   rcases hy with e | e
   · subst e; exact n2 hx
   · subst e; exact n3 hx
end L2
namespace L2
open PySem PySem.Spec PyProof.Rows
theorem RepL.map {K : PySem.W.Frag} {H : Hp} {α : Type} {f : α → D} {g : α → V} : ∀ {xs : List α}, (∀ x ∈ xs, Rep K H (f x) (g x)) → RepL K H (xs.map f) (xs.map g)
 | [], _ => by simp [RepL]
 | x :: xs, h => by
   simp only [List.map_cons, RepL]
   exact ⟨_, _, rfl, h x (List.mem_cons_self ..), RepL.map fun y hy => h y (List.mem_cons_of_mem _ hy)⟩
theorem depL_le {α : Type} {f : α → D} {n : Nat} : ∀ {xs : List α}, (∀ x ∈ xs, dep (f x) ≤ n) → depL (xs.map f) ≤ n
 | [], _ => by simp [depL]
 | x :: xs, h => by
   simp only [List.map_cons, depL]
   exact Nat.max_le.mpr ⟨h x (List.mem_cons_self ..), depL_le fun y hy => h y (List.mem_cons_of_mem _ hy)⟩
theorem deqL_nil (ds : List D) : deqL ds [] = decide (ds = []) := by cases ds <;> simp [deqL]
end L2
namespace L2
open PySem PySem.Spec PyProof.Rows PySem.W
noncomputable abbrev VE : List Value := [.type "ValueError", .type "Exception", .type "BaseException", .type "object"]
noncomputable def ownInit (K : Frag) (C fI : Addr) : Bool :=
 match K.lookup C with
 | none => false
 | some ob =>
   match ob.cls, ob.data, ob.slots.toList with
   | .type "type", .cls cd, [_, _, _, _, some (.builtin n), _] =>
     (match cd.mro with
      | .ref C' :: bm => C' == C && (n == "ValueError.__new__" && (!cd.hasDel && (tailIn K VE bm && (nsOkIn K cd.ns && (cd.hasDict && nsIn K cd.ns "__init__" == some (some (.ref fI)))))))
      | _ => false)
   | _, _, _ => false
theorem ns_has {K : Frag} {h : Heap} {N : Addr} {m : Str → Option Value} {n : Str} {v : Value} (X : K.In h) (G : h.Ns N m) (e : nsIn K N n = some (some v)) : m n = some v := by
 obtain ⟨o, es, ep, ho, hd, _, hf⟩ := G
 unfold nsIn at e
 split at e
 · rename_i c d es' n' sl q
   have z := X _ _ q
   rw [ho] at z
   cases z
   cases hd
   split at e
   · rename_i en he
     cases e
     rw [← hf]
     unfold nsFind findBy
     rw [← Array.find?_toList, he]
     rfl
   · split at e <;> cases e
 · cases e
theorem init_obj {K : Frag} {h : Heap} {C fI : Addr} (X : K.In h) (q : ownInit K C fI = true) :
   ∃ bm N nm q bs sn sub ab col dd k0 k1 k2 k3 k5 mN, h.get? C = some (excClassObj nm q C N bs bm true sn sub ab col dd k0 k1 k2 k3 k5 "ValueError.__new__") ∧ h.Ns N mN ∧ mN "__init__" = some (.ref fI) ∧ OwnTail h VE bm := by
 unfold ownInit at q
 split at q
 · cases q
 · rename_i ob ho
   split at q
   · rename_i cd _ _ _ _ n _ hc hd hs
     split at q
     · rename_i C' bm hm
       simp only [Bool.and_eq_true, beq_iff_eq, Bool.not_eq_true'] at q
       obtain ⟨rfl, rfl, hdel, ht, hok, hdi, hni⟩ := q
       obtain ⟨oc, odi, oda, osl⟩ := ob
       dsimp only at hc hd hs
       subst hc hd
       obtain ⟨nm, bs, mro, ns, qn, hdd, sn, sub, ab, col, del⟩ := cd
       dsimp only at hm hdel hok hni hdi
       subst hm hdel hdi
       obtain ⟨l⟩ := osl
       simp only at hs
       subst hs
       refine ⟨bm, ns, nm, qn, bs, sn, sub, ab, col, odi, _, _, _, _, _, _, X _ _ ho, .of_isNs (PySem.W.isNs_of_in X hok), ?_, PySem.W.tail_of_in X ht⟩
       exact ns_has X (.of_isNs (PySem.W.isNs_of_in X hok)) hni
     · cases q
   · cases q
section
variable {prog : Program} {w : World} {A : Around} {E : Value → Shared → Prop} {h : Heap} {g : Array GenState} {d : Drawn} {t : Nat} {os : OsState}
variable {nm q : Str} {C N : Addr} {bs bm bmB : List Value} {hdct : Bool} {sn : List Str} {sub : List Value} {ab : Bool} {col : Option Bool} {dd : Option Addr} {k0 k1 k2 k3 k5 : Option Value} {B newId initId : String}
theorem type_call_init (F : ExcBaseFacts B newId initId bmB) (T : OwnTail h bmB bm) {mN : Str → Option Value} {rest : List Value} {fI : Addr} {oI : Obj} {Q : Fin → Shared → Prop}
   (hC : h.get? C = some (excClassObj nm q C N bs bm hdct sn sub ab col dd k0 k1 k2 k3 k5 newId)) (hn : h.Ns N mN) (hi : mN "__init__" = some (.ref fI))
   (hfI : h.get? fI = some oI) (hfc : oI.cls = .type "function")
   (hq : ∀ h' e, h.objs.size ≤ e → Heap.MadeExcOf h h' e (.ref C) rest →
     wpAny (model prog w) A (call (.ref fI) (.ref e :: rest)) (fun r s' => r = .none ∧ Q (.done (.ret (.ref e))) s') E ⟨h', g, d, t, os⟩) (hrest : rest.length ≤ sizeLine) :
   wpAny (model prog w) A (Builtin.«type.__call__» ⟨.ref C :: rest, []⟩) Q E ⟨h, g, d, t, os⟩ := by
 repeat (first | with_reducible refine wpAny_loadPart_at hC ?_ | with_reducible refine wpAny_madeBy_exc hC ?_ | wp_step)
 refine codeAny_call_builtin_code (Code.quiet_builtin _ F.quiet) (wpAny_check_new_subT F T hC ?_)
 refine codeAny_exc_new_subT F T hC ?_ hrest
 show wpAny _ _ _ _ _ _
 have up : ∀ b o, h.get? b = some o → ((h.push { cls := .type "tuple", data := .seq rest.toArray }).push { cls := .ref C, data := .fields #[.ref h.objs.size, .none, .none, .none, .bool false, .none] }).get? b = some o :=
   fun b o e => Heap.get?_push_of_some _ (Heap.get?_push_of_some _ e)
 have hC₁ := up _ _ hC
 have hfI₁ := up _ _ hfI
 have hn₁ := hn.keeps up
 have hget : ((h.push { cls := .type "tuple", data := .seq rest.toArray }).push
     { cls := .ref C, data := .fields #[.ref h.objs.size, .none, .none, .none, .bool false, .none] }).get? (h.objs.size + 1) = some
     { cls := .ref C, data := .fields #[.ref h.objs.size, .none, .none, .none, .bool false, .none] } := by heap_get
 have hcC : (Value.ref C :: bm).contains (.ref C) = true := by simp
 unfold isInstance
 repeat (first | with_reducible refine wpAny_loadPart_at hget ?_ | (with_reducible refine wpAny_isSubtype_exc hC₁ ?_; rw [hcC]) | wp_step)
 show wpAny _ _ (typeLookup (.ref C) _) _ _ _
 refine wpAny_typeLookup_tail hC₁ hn₁ (T.keeps up) F.mroIs F.init.lookup ?_
 rw [hi]
 refine wpAny_holding (wpAny_bind ?_)
 unfold bindSpecial
 refine wpAny_bind (wpAny_typeOf (T := "function") ⟨_, hfI₁, hfc⟩ ?_)
 rw [if_pos (by decide)]
 refine wpAny_pure (wpAny_bind (wpAny_mono (hq _ (h.objs.size + 1) (Nat.le_succ _) ⟨up, Heap.get?_none_of_le (Nat.le_succ _), h.objs.size, hget, Heap.get?_none_of_le (Nat.le_refl _), ?_⟩) (fun r s' hr => ?_) fun _ _ x => x))
 · exact Heap.get?_push_of_some _ (Heap.get?_push_at rfl rfl)
 · obtain ⟨rfl, hQ⟩ := hr
   wp_walk
   exact hQ
theorem call_init (F : ExcBaseFacts B newId initId bmB) (T : OwnTail h bmB bm) {mN : Str → Option Value} {rest : List Value} {fI : Addr} {oI : Obj} {Q : Value → Shared → Prop}
   (hC : h.get? C = some (excClassObj nm q C N bs bm hdct sn sub ab col dd k0 k1 k2 k3 k5 newId)) (hn : h.Ns N mN) (hi : mN "__init__" = some (.ref fI))
   (hfI : h.get? fI = some oI) (hfc : oI.cls = .type "function")
   (hq : ∀ h' e, h.objs.size ≤ e → Heap.MadeExcOf h h' e (.ref C) rest →
     wpAny (model prog w) (A.under (.builtin "type.__call__" ⟨.ref C :: rest, []⟩)) (call (.ref fI) (.ref e :: rest)) (fun r s' => r = .none ∧ Q (.ref e) s') E ⟨h', g, d, t, os⟩) (hrest : rest.length ≤ sizeLine) :
   wpAny (model prog w) A (call (.ref C) rest) Q E ⟨h, g, d, t, os⟩ := by
 have f1 := tc_lookup
 have f2 := tc_bind (.ref C)
 have hT : (⟨h, g, d, t, os⟩ : Shared).TypeIs (.ref C) "type" := ⟨_, hC, rfl⟩
 refine wpAny_call (codeAny_of_tree ?_)
 show wpAny _ _ (callAny (.ref C) _) _ _ _
 repeat (any_goals (first | assumption | with_reducible refine wpAny_loadPart_at hC ?_ | wp_step))
 refine ⟨rfl, ?_⟩
 refine codeAny_call_builtin_at (Code.quiet_builtin _ (by decide +kernel)) entry_typeCall (wpAny_check_type_call_sub hC (type_call_init (hrest := hrest) F T hC hn hi hfI hfc fun h' e hz hm => ?_))
 exact hq h' e hz hm
theorem base_init (F : ExcBaseFacts B newId initId bmB) (T : OwnTail h bmB bm) {e : Addr} {oe : Obj} {vs : Array Value} {v0 : Value} {rest : List Value} {Q : Value → Shared → Prop}
   (hC : h.get? C = some (excClassObj nm q C N bs bm hdct sn sub ab col dd k0 k1 k2 k3 k5 newId)) (he : h.get? e = some oe) (hcls : oe.cls = .ref C) (hd : oe.data = .fields vs) (h0 : vs[0]? = some v0)
   (hq : ∀ h' T, (∀ b o, b ≠ e → h.get? b = some o → h'.get? b = some o) → h'.get? e = some { oe with data := .fields (vs.setIfInBounds 0 T) } → Q .none ⟨h', g, d, t, os⟩) (hrest : rest.length ≤ sizeLine) :
   wpAny (model prog w) A (call (.builtin initId) (.ref e :: rest)) Q E ⟨h, g, d, t, os⟩ := by
 refine wpAny_call (codeAny_call_builtin F.init.plain F.initEntry (wpAny_check_init_subT F T hC he hcls ?_))
 have he1 := Heap.get?_push_of_some { cls := .type "tuple", data := .seq rest.toArray } he
 have hsz := (Array.getElem?_eq_some_iff.mp h0).1
 unfold Builtin.«BaseException.__init__»
 repeat (first | with_reducible refine wpAny_field he1 hd h0 ?_ | with_reducible refine wpAny_setField he1 hd hsz ?_ | wp_step)
 have hd3 : (Obj.mapFields (·.setIfInBounds 0 (Value.ref h.objs.size)) oe).data = .fields (vs.setIfInBounds 0 (Value.ref h.objs.size)) := Obj.data_mapFields hd _
 have e3 := Heap.get?_update_self (Obj.mapFields (·.setIfInBounds 0 (Value.ref h.objs.size))) he1 (Obj.isFreed_of_fields hd3)
 have e4 : Obj.mapFields (·.setIfInBounds 0 (Value.ref h.objs.size)) oe = { oe with data := .fields (vs.setIfInBounds 0 (Value.ref h.objs.size)) } := by
   obtain ⟨oc, od, oda, osl⟩ := oe
   dsimp only at hd
   subst hd
   rfl
 rw [e4] at e3
 have fin := hq _ (.ref h.objs.size) (fun b o hb ho => by rw [Heap.get?_update_other _ _ (Ne.symm hb)]; exact Heap.get?_push_of_some _ ho) e3
 cases v0 <;> repeat (first | exact fin | (unfold letGo; done) | with_reducible exact wpAny_holding (wpAny_point (wpAny_pure ?_)) | wp_step)
end
noncomputable def onlyErr : List Value → Bool
 | .ref _ :: r => onlyErr r
 | l => l == VE
noncomputable def errIn (K : Frag) (C : Addr) : Bool := (clsIn K C).any fun cd => cd.hasDict && onlyErr cd.mro
theorem refuse_err (self : Value) : ∀ {l : List Value}, onlyErr l = true → refuseLoop self "__setattr__" l = pure ()
 | .ref c :: r, e => by rw [refuseLoop_ref]; exact refuse_err self (l := r) e
 | [], e => by cases (show ([] : List Value) = VE from beq_iff_eq.mp e)
 | .type n :: r, e => by rw [show (Value.type n :: r) = VE from beq_iff_eq.mp e]; exact PySem.F.store_ValueError.passes self
 | .none :: r, e => nomatch (show (Value.none :: r) = VE from beq_iff_eq.mp e)
 | .bool b :: r, e => nomatch (show (Value.bool b :: r) = VE from beq_iff_eq.mp e)
 | .int b t :: r, e => nomatch (show (Value.int b t :: r) = VE from beq_iff_eq.mp e)
 | .str b t :: r, e => nomatch (show (Value.str b t :: r) = VE from beq_iff_eq.mp e)
 | .bytes b t :: r, e => nomatch (show (Value.bytes b t :: r) = VE from beq_iff_eq.mp e)
 | .float b t :: r, e => nomatch (show (Value.float b t :: r) = VE from beq_iff_eq.mp e)
 | .builtin b :: r, e => nomatch (show (Value.builtin b :: r) = VE from beq_iff_eq.mp e)
theorem err_has : ∀ {l : List Value}, onlyErr l = true → l.contains (.type "object") = true
 | .ref c :: r, e => by rw [List.contains_cons, err_has (l := r) e, Bool.or_true]
 | [], e => by cases (show ([] : List Value) = VE from beq_iff_eq.mp e)
 | .type n :: r, e => by rw [show (Value.type n :: r) = VE from beq_iff_eq.mp e]; decide
 | .none :: r, e => nomatch (show (Value.none :: r) = VE from beq_iff_eq.mp e)
section
variable {prog : Program} {w : World} {A : Around} {E : Value → Shared → Prop} {s : Shared} {K : Frag} {x C : Addr} {R : Result → Shared → Prop}
theorem osa_err {ox : Obj} {od : Option Obj} {name : Str} {tk : Tok} {v : Value} (X : K.In s.heap) (I : InstAt s.heap x ox C od) (hp : errIn K C = true) (hf : findIn K (.ref C) name = some none)
   (h : wpAny (model prog w) A.in1 (Builtin.ObjectAttr.storeInOwnDict (.ref x) (.ref C) (.str name tk) name v false)
     (fun fin s' => match fin with | .done f => R (.ok f) s' | .again c' => c'.quiet = true ∧ codeAny (model prog w) A c' R s') (fun e s' => R (.error e) s') s) :
   codeAny (model prog w) A (.call (.builtin "object.__setattr__") ⟨[.ref x, .str name tk, v], []⟩) R s := by
 have SF := PySem.F.store_object
 obtain ⟨cd, hc, ho⟩ := any_some hp
 rw [Bool.and_eq_true] at ho
 obtain ⟨_, ho⟩ := ho
 have ne : cd.mro.isEmpty = false := by cases q : cd.mro with | nil => rw [q] at ho; cases ho | cons _ _ => rfl
 have sub : Looks (model prog w) s.heap (isInstance (.ref x) (.type "object")) true := I.type.andThen (looks_mroIn X (by unfold mroIn; rw [hc, Option.bind_some, if_neg (by rw [ne]; decide), err_has ho]))
 refine codeAny_call_builtin SF.slot.plain SF.entry (@check_slot (model prog w) _ _ s "object.__setattr__" "object" "__setattr__" (.ref x) [.str name tk, v] [] _ SF.kind SF.split sub (SF.args (.ref x) (.str name tk) v) ?_)
 have hm : Looks (model prog w) s.heap (mroOf (.ref C)) cd.mro := (looks_clsIn X hc).andThen .now
 rw [osa_eq, refuse_eq]
 refine wpAny_bind (wpAny_bind (I.type.here (wpAny_bind (hm.here ?_))))
 rw [refuse_err _ ho]
 refine wpAny_pure (wpAny_bind (I.type.here (wpAny_bind ((looks_findIn X hf).here (wpAny_bind (wpAny_pure ?_))))))
 exact h
theorem set_err0 {ox : Obj} {vs : Array Value} {name : Str} {v : Value} {Q : Unit → Shared → Prop} (X : K.In s.heap) (hx : s.heap.get? x = some ox) (hcl : ox.cls = .ref C) (hdn : ox.dict = none) (hda : ox.data = .fields vs) (hp : errIn K C = true)
   (hs : findIn K (.ref C) "__setattr__" = some (some (.builtin "object.__setattr__"))) (hf : findIn K (.ref C) name = some none)
   (h : ∀ h' tk, h'.get? x = some { ox with dict := some s.heap.objs.size } → h'.Ns1 s.heap.objs.size (fun y => if y = name then some v else none) → (∀ b o, b ≠ x → s.heap.get? b = some o → h'.get? b = some o) → Q () { s with heap := h', toks := tk }) :
   wpAny (model prog w) A (setAttr (.ref x) name v) Q E s := by
 obtain ⟨hh, g, d, t, os⟩ := s
 have J : InstAt hh x ox C none := ⟨hx, hcl, by unfold notCls; rw [hda], by rw [hdn]; trivial⟩
 refine set_plain X J hs (osa_err (s := ⟨hh, g, d, t + 1, os⟩) X J hp hf ?_)
 obtain ⟨cd, hc, ho⟩ := any_some hp
 rw [Bool.and_eq_true] at ho
 refine wpAny_bind (wpAny_pure (wpAny_bind (wpAny_bind (wpAny_loadPart hx ?_))))
 rw [hcl]
 refine wpAny_bind (Looks.here (s := ⟨hh, g, d, t + 1, os⟩) (looks_clsIn X hc) ?_)
 rw [ho.1, hdn, hda]
 rw [if_neg (by decide)]
 dsimp only
 rw [if_neg (by simp [typeHasDict])]
 have hx₁ : (hh.push { cls := .type "dict", data := .dict #[] }).get? x = some ox := Heap.get?_push_of_some _ hx
 have hxs : x ≠ hh.objs.size := Nat.ne_of_lt (Heap.lt_size hx)
 refine wpAny_bind (wpAny_alloc' ?_)
 refine wpAny_bind (wpAny_update' hx₁ ?_)
 refine wpAny_pure ?_
 have hgd : ((hh.push { cls := .type "dict", data := .dict #[] }).update x fun o => { cls := o.cls, dict := some hh.objs.size, data := o.data, slots := o.slots }).get? hh.objs.size
     = some { cls := .type "dict", data := .dict #[] } := (Heap.get?_update_ne _ _ _ _ hxs.symm).trans (Heap.get?_push_at rfl rfl)
 have hnd : ((hh.push { cls := .type "dict", data := .dict #[] }).update x fun o => { cls := o.cls, dict := some hh.objs.size, data := o.data, slots := o.slots }).Ns hh.objs.size (fun _ => none) :=
   ⟨_, #[], _, hgd, rfl, fun e he => absurd he (by simp), fun _ => rfl⟩
 show wpAny _ _ (Builtin.ObjectAttr.storeInDict hh.objs.size (.str name t) name v) _ _ _
 unfold Builtin.ObjectAttr.storeInDict Builtin.ObjectAttr.newKeyGuard
 refine wpAny_bind (wpAny_pure (wpAny_bind (wpAny_nsSet1 (Heap.Ns1.of_empty hnd) fun h' hn' hs => ?_)))
 obtain ⟨oD, esD, epD, hoD, hdD, hcD⟩ := hn'.count (Within.cons name v Within.nil)
 refine wpAny_bind (wpAny_lookBehind hoD (by rw [hdD]; exact pastItsLine_dict (Nat.le_trans hcD (by rw [List.length_cons, List.length_nil, sizeLine_eq]; omega))) ?_)
 refine wpAny_pure (h h' _ ?_ hn' fun b o hb hbo => ?_)
 · refine (hs.2 x hxs).trans (Heap.get?_update_self _ hx₁ ?_)
   obtain ⟨oc, od, odt, osl⟩ := ox
   dsimp only at hda
   subst hda
   rfl
 · exact (hs.2 b (Nat.ne_of_lt (Heap.lt_size hbo))).trans ((Heap.get?_update_ne _ _ _ _ hb).trans (Heap.get?_push_of_some _ hbo))
theorem set_err1 {ox : Obj} {dx : Addr} {mA : Str → Option Value} {vs : Array Value} {name : Str} {v : Value} {ns : List Str} {Q : Unit → Shared → Prop} (X : K.In s.heap) (hx : s.heap.get? x = some ox) (hcl : ox.cls = .ref C) (hdn : ox.dict = some dx) (hda : ox.data = .fields vs)
   (hns : s.heap.Ns1 dx mA) (hp : errIn K C = true) (hs : findIn K (.ref C) "__setattr__" = some (some (.builtin "object.__setattr__"))) (hf : findIn K (.ref C) name = some none) (hw : Within mA ns) (hsz : ns.length ≤ sizeLine)
   (h : ∀ h' tk, h'.Ns1 dx (fun y => if y = name then some v else mA y) → Heap.SameBut dx s.heap h' → Q () { s with heap := h', toks := tk }) :
   wpAny (model prog w) A (setAttr (.ref x) name v) Q E s := by
 obtain ⟨hh, g, d, t, os⟩ := s
 obtain ⟨oD, _, _, hoD, _⟩ := id hns
 have J : InstAt hh x ox C (some oD) := ⟨hx, hcl, by unfold notCls; rw [hda], by rw [hdn]; exact hoD⟩
 refine set_plain X J hs (osa_err (s := ⟨hh, g, d, t + 1, os⟩) X J hp hf ?_)
 obtain ⟨cd, hc, ho⟩ := any_some hp
 rw [Bool.and_eq_true] at ho
 refine wpAny_bind (wpAny_pure (wpAny_bind (wpAny_bind (wpAny_loadPart hx ?_))))
 rw [hcl]
 refine wpAny_bind (Looks.here (s := ⟨hh, g, d, t + 1, os⟩) (looks_clsIn X hc) ?_)
 rw [ho.1, hdn]
 rw [if_neg (by decide)]
 refine wpAny_pure ?_
 show wpAny _ _ (Builtin.ObjectAttr.storeInDict dx (.str name t) name v) _ _ _
 unfold Builtin.ObjectAttr.storeInDict Builtin.ObjectAttr.newKeyGuard
 refine wpAny_bind (wpAny_pure (wpAny_bind (wpAny_nsSet1 hns fun h' hn' hs => ?_)))
 obtain ⟨oD, esD, epD, hoD, hdD, hcD⟩ := hn'.count (Within.cons name v hw)
 refine wpAny_bind (wpAny_lookBehind hoD (by rw [hdD]; exact pastItsLine_dict (Nat.le_trans hcD (by rw [List.length_cons]; omega))) ?_)
 exact wpAny_pure (h h' _ hn' hs)
end
end L2
namespace L2
open PySem PySem.Spec PyProof.Rows PySem.W
section
variable {M : Model} {A : Around} {E : Value → Shared → Prop} {env : Env}
variable {nm q : Str} {C N : Addr} {bs bm : List Value} {hdct : Bool} {sn : List Str} {sub : List Value} {ab : Bool} {col : Option Bool} {dd : Option Addr} {k0 k1 k2 k3 k5 : Option Value} {newId : String}
theorem raise_made {s : Shared} {x : Sem Value} {Q : Flow → Shared → Prop} (hbase : bm.contains (.type "BaseException") = true) (hh : A.handled = none)
   (h : wpAny M A x (fun v s₁ => ∃ e oe vs, v = .ref e ∧ s₁.heap.get? C = some (excClassObj nm q C N bs bm hdct sn sub ab col dd k0 k1 k2 k3 k5 newId) ∧
     s₁.heap.get? e = some oe ∧ oe.cls = .ref C ∧ oe.data = .fields vs ∧ vs[1]? = some .none ∧ E (.ref e) s₁) E s) :
   wpAny M A (raiseStmt env (some x) none) Q E s := by
 have hcB : (Value.ref C :: bm).contains (.type "BaseException") = true := by rw [List.contains_cons, hbase, Bool.or_true]
 unfold raiseStmt
 refine wpAny_bind (wpAny_mono h (fun v s₁ h₁ => ?_) fun _ _ x => x)
 obtain ⟨e, oe, vs, rfl, hC, he, hcls, hd, h1, hE⟩ := h₁
 obtain ⟨hp, g, d, tk, os⟩ := s₁
 obtain ⟨oc, odi, oda, osl⟩ := oe
 dsimp only at hcls hd
 subst hcls hd
 repeat (first | with_reducible refine wpAny_loadPart_at he ?_ | with_reducible refine wpAny_loadPart_at hC ?_ | (with_reducible refine wpAny_isSubtype_exc hC ?_; rw [hcB]) | with_reducible refine wpAny_field he rfl h1 ?_ | wp_step)
 exact wpAny_raiseNew_none hh hE
end
section
variable {prog : Program} {w : World} {A : Around} {E : Value → Shared → Prop} {s : Shared} {env : Env}
variable {nm q : Str} {C N : Addr} {bs bm bmB : List Value} {hdct : Bool} {sn : List Str} {sub : List Value} {ab : Bool} {col : Option Bool} {dd : Option Addr} {k0 k1 k2 k3 k5 : Option Value} {B newId initId : String}
theorem raise_init (F : ExcBaseFacts B newId initId bmB) {mN : Str → Option Value} {x : Str} {np cpos pos : Pos} {args : List Expr} {fI : Addr} {oI : Obj} {Q : Flow → Shared → Prop}
   (hbase : bm.contains (.type "BaseException") = true) (hh : A.handled = none) (hplain : (backTo cpos (starEach args env)).any (·.1) = false) (hi : mN "__init__" = some (.ref fI)) (hfc : oI.cls = .type "function")
   (h : wpAny (model prog w) A (eval (.Name x np) env) (fun f s₁ => f = .ref C ∧ wpAny (model prog w) A (evalArgs (.ref C) true (backTo cpos (starEach args env)) [])
     (fun a s₂ => a.kw = [] ∧ a.pos.length ≤ sizeLine ∧ s₂.heap.get? C = some (excClassObj nm q C N bs bm hdct sn sub ab col dd k0 k1 k2 k3 k5 newId) ∧ s₂.heap.Ns N mN ∧ OwnTail s₂.heap bmB bm ∧ s₂.heap.get? fI = some oI ∧
       ∀ h' e, s₂.heap.objs.size ≤ e → Heap.MadeExcOf s₂.heap h' e (.ref C) a.pos →
         wpAny (model prog w) (A.under (.builtin "type.__call__" ⟨.ref C :: a.pos, []⟩)) (call (.ref fI) (.ref e :: a.pos)) (fun r s' => r = .none ∧ ∃ oe vs, s'.heap.get? C = some (excClassObj nm q C N bs bm hdct sn sub ab col dd k0 k1 k2 k3 k5 newId) ∧
           s'.heap.get? e = some oe ∧ oe.cls = .ref C ∧ oe.data = .fields vs ∧ vs[1]? = some .none ∧ E (.ref e) s') E { s₂ with heap := h' }) E s₁) E s) :
   wpAny (model prog w) A (exec (.Raise (some (.Call (.Name x np) args [] cpos)) none pos) env) Q E s := by
 rw [arm_exec_Raise]
 refine wpAny_bind (wpAny_standAt (raise_made (C := C) (nm := nm) (q := q) (N := N) (bs := bs) (bm := bm) (hdct := hdct) (sn := sn) (sub := sub) (ab := ab) (col := col) (dd := dd) (k0 := k0) (k1 := k1) (k2 := k2) (k3 := k3) (k5 := k5) (newId := newId) hbase hh
   (wpAny_bind (wpAny_mono (wpAny_Call_ofName (wpAny_mono h (fun f s₁ h₁ => ?_) fun _ _ x => x)) (fun v s₃ h₃ => wpAny_bind (wpAny_standAt (wpAny_pure h₃))) fun _ _ x => x))))
 obtain ⟨rfl, h₁⟩ := h₁
 unfold callWith
 refine wpAny_bind (wpAny_holding (wpAny_mono h₁ (fun a s₂ h₂ => wpAny_bind (wpAny_standAt ?_)) fun _ _ x => x))
 obtain ⟨apos, akw⟩ := a
 obtain ⟨hkw, hlen, hC, hn, T, hfI, h₂⟩ := h₂
 obtain rfl : akw = [] := hkw
 obtain ⟨hp, g, d, tk, os⟩ := s₂
 simp only [hplain]
 refine wpAny_bind (wpAny_keeperOf_exc hC ?_)
 refine wpAny_bind (call_init (hrest := hlen) F T hC hn hi hfI hfc fun h' e hz hm => wpAny_mono (h₂ h' e hz hm) (fun r s' hr => ⟨hr.1, wpAny_bind (wpAny_holding (wpAny_point (wpAny_pure ?_)))⟩) fun _ _ x => x)
 obtain ⟨_, oe, vs, k1, k2, k3, k4, k5, k6⟩ := hr
 exact ⟨e, oe, vs, rfl, k1, k2, k3, k4, k5, k6⟩
end
noncomputable def XN (a C : Addr) (dx : Option Addr) : HO := .ext fun h => ∃ ob vs v0, h.get? a = some ob ∧ ob.cls = .ref C ∧ ob.dict = dx ∧ ob.data = .fields vs ∧ vs[0]? = some v0 ∧ vs[1]? = some .none
noncomputable def XD (d : Addr) (fs : List (Str × V)) : HO := .ext fun h => ∃ mA, h.Ns1 d mA ∧ (∀ f, RelO (fs.lookup f) (mA f)) ∧ PySem.Within mA (fs.map (·.1))
noncomputable def del (H : Hp) (a : Addr) : Hp := fun b => if b = a then none else H b
theorem del_ne {H : Hp} {a b : Addr} (h : b ≠ a) : del H a b = H b := by unfold del; rw [if_neg h]
theorem del_same {H : Hp} {a : Addr} : del H a a = none := by unfold del; rw [if_pos rfl]
theorem XN.get {P : Program} {w : World} {H : Hp} {h : Heap} {a C : Addr} {dx : Option Addr} (ok : HOk P w H h) (e : H a = some (XN a C dx)) : ∃ ob vs v0, h.get? a = some ob ∧ ob.cls = .ref C ∧ ob.dict = dx ∧ ob.data = .fields vs ∧ vs[0]? = some v0 ∧ vs[1]? = some .none := (ok a _ e).1
theorem XD.get {P : Program} {w : World} {H : Hp} {h : Heap} {d : Addr} {fs : List (Str × V)} (ok : HOk P w H h) (e : H d = some (XD d fs)) : ∃ mA, h.Ns1 d mA ∧ (∀ f, RelO (fs.lookup f) (mA f)) ∧ PySem.Within mA (fs.map (·.1)) := (ok d _ e).1
theorem XN.ok {P : Program} {w : World} {H : Hp} {h : Heap} {a C : Addr} {dx : Option Addr} (x : ∃ ob vs v0, h.get? a = some ob ∧ ob.cls = .ref C ∧ ob.dict = dx ∧ ob.data = .fields vs ∧ vs[0]? = some v0 ∧ vs[1]? = some .none) : ObjOk P w H h a (XN a C dx) := by
 obtain ⟨ob, vs, v0, he, r⟩ := x
 exact ⟨⟨ob, vs, v0, he, r⟩, ⟨ob, he⟩, fun h1 h2 ⟨ob, ws, v0, q, r⟩ k => ⟨ob, ws, v0, k _ q, r⟩⟩
theorem XD.ok {P : Program} {w : World} {H : Hp} {h : Heap} {d : Addr} {fs : List (Str × V)} (x : ∃ mA, h.Ns1 d mA ∧ (∀ f, RelO (fs.lookup f) (mA f)) ∧ PySem.Within mA (fs.map (·.1))) : ObjOk P w H h d (XD d fs) := by
 obtain ⟨mA, n, r⟩ := x
 obtain ⟨o, _, _, e, _⟩ := id n
 exact ⟨⟨mA, n, r⟩, ⟨o, e⟩, fun h1 h2 ⟨mA, n, r⟩ k => ⟨mA, n.at k, r⟩⟩
section
variable {X : Cx} {pins : List (Addr × Obj)} {σ : St} {H : Hp} {s : Shared} {a C : Addr} {φ : Heap → Prop}
theorem Inv.untrack (I : Inv X pins σ H s) (e : H a = some (.ext φ)) : Inv X pins σ (del H a) s := by
 have ne : ∀ b u, H b = some u → (∀ ψ, u ≠ .ext ψ) → b ≠ a := fun b u q n z => by rw [z, e] at q; exact n φ (Option.some.inj q).symm
 refine I.un (h' := s.heap) (t' := s.toks) ⟨fun b o q _ _ _ => q, fun b o q _ _ _ => ⟨o.slots, q⟩, fun b o q n _ => ?_, fun b o q _ => ⟨o, q⟩, fun b xs q => ?_, fun b o u q => ?_, fun b ps q => ⟨#[], ?_⟩⟩ fun b u q => ?_
 · by_cases hb : b = a
   · rw [hb]; exact del_same
   · rw [del_ne hb]; exact n
 · rw [del_ne (ne b _ q (by intro ψ z; cases z))]; exact q
 · rw [del_ne (ne b _ q (by intro ψ z; cases z))]; exact q
 · rw [del_ne (ne b _ q (by intro ψ z; cases z)), q]; simp
 · by_cases hb : b = a
   · rw [hb, del_same] at q; cases q
   · rw [del_ne hb] at q
     exact (I.hok b u q).stay (fun _ _ _ z => z) (fun c z => by rw [del_ne (ne c _ z (by intro ψ z; cases z))]; exact z) fun c xs z => by rw [del_ne (ne c _ z (by intro ψ z; cases z))]; exact z
theorem Inv.dictDone {d : Addr} {fs : List (Str × V)} (I : Inv X pins σ H s) (e : H d = some (XD d fs)) : Inv X pins σ (upd H d (.xd fs)) s := by
 obtain ⟨mA, n, r, _⟩ := XD.get I.hok e
 obtain ⟨o, _, _, q, _⟩ := id n
 exact I.write (h' := s.heap) (t' := s.toks) (x := d) (e := d) (by rw [e]; exact True.intro) (.inl rfl) (fun _ _ _ z => z) ⟨o, q⟩ ⟨mA, n, r⟩
end
end L2
namespace L2
open PySem PySem.Spec PyProof.Rows PySem.W
set_option genInjectivity false in
structure ErrC (K : Frag) (C f : Addr) : Prop where
 ini : ownInit K C f = true
 ei : errIn K C = true
 sa : findIn K (.ref C) "__setattr__" = some (some (.builtin "object.__setattr__"))
 fn : isFn K (.ref f) = true
set_option genInjectivity false in
structure BaseI (K : Frag) (B : Addr) : Prop where
 rd : readsIn K B (.type "type") = true
 fc : findCls K (.ref B) (.type "type") "__init__" = some (.val (.builtin "ValueError.__init__"))
 ga : specialIn K (.ref B) "__getattribute__" = some (some (.builtin "type.__getattribute__"))
theorem upd_id {H : Hp} {a : Addr} {o : HO} (e : H a = some o) : upd H a o = H := by
 funext b
 by_cases hb : b = a
 · subst hb; rw [zz1, e]
 · rw [upd_ne hb]
def tRaiseI (C : Addr) (sp : Sp) (E : XK) (t : TA) : TS := fun _ σ H => t σ H fun vs H1 => vs.length ≤ sizeLine ∧ ∀ x, H1 x = none → sp (.ref x :: vs) (upd H1 x (XN x C none)) (fun v H2 => v = .non ∧
 ((H2 x = some (XN x C none) ∧ E (.ref C) none (del H2 x)) ∨ ∃ d fs, d ≠ x ∧ H2 x = some (XN x C (some d)) ∧ H2 d = some (XD d fs) ∧ E (.ref C) (some d) (del (upd H2 d (.xd fs)) x))) E0
def tXInit (K : Frag) (t : TA) : TE := fun σ H Q => t σ H fun vs H1 => ∃ a C dx rest f, vs = .ref a :: rest ∧ H1 a = some (XN a C dx) ∧ ErrC K C f ∧ rest.length ≤ sizeLine ∧ Q .non H1
def sXFld (K : Frag) (ta tv : TE) (f : Str) : TS := fun D σ H => tv σ H fun y H1 => ta σ H1 fun x H2 => ∃ a C fI dx, x = .ref a ∧ H2 a = some (XN a C dx) ∧ ErrC K C fI ∧ NoAttr K C f ∧
 ((dx = none ∧ ∀ d, H2 d = none → D.nx σ (upd (upd H2 d (XD d [(f, y)])) a (XN a C (some d)))) ∨ ∃ d fs, dx = some d ∧ H2 d = some (XD d fs) ∧ fs.length < 1000 ∧ D.nx σ (upd H2 d (XD d (putF f y fs))))
def tXFld (K : Frag) (ta : TE) (f : Str) : TE := fun σ H Q => ta σ H fun x H1 => ∃ a C d fs v, x = .ref a ∧ H1 a = some (XO a C (some d)) ∧ H1 d = some (.xd fs) ∧ XCls K C ∧ hasDictIn K C = true ∧ NoAttr K C f ∧ fs.lookup f = some v ∧ Q v H1
section
variable {X : Cx} {x f : Str} {B C fI : Addr} {k : Nat} {fd : FuncData} {ps : List Str} {sp : Sp} {E : XK} {e o value : Expr} {es : List Expr} {p np apos cpos pos pos' : Pos} {t : TA} {ta tv : TE}
theorem ps_raiseI (F : FnOk X.prog X.w X.K X.mg X.base CX0 k fI fd ps sp) (hr : Room (k + 1) X.A) (hb : Binds X.K fd ps []) (M : ErrC X.K C fI) (hg : Gl X x) (hm : X.mg x = some (.ref C)) (hc : X.calm = true) (hX : Xe X E) (ha : PA X (e :: es) t) (hex : X.ex = [] := by rfl)
   (he : starEach (e :: es) X.env = (false, eval e X.env) :: starEach es X.env := by rfl) (hplain : (backTo cpos (starEach es X.env)).any (·.1) = false := by rfl) (hdb : (x == ("__debug__" : Str)) = false := by decide) :
   PS X (.Raise (some (.Call (.Name x np) (e :: es) [] cpos)) none pos) (tRaiseI C sp E t) := by
 intro pins s σ H D I h
 obtain ⟨tl, N, nm, qn, bs, sn, sub, ab, col, dd, k0, k1, k2, k3, k5, mN, hC, hN, hni, T⟩ := init_obj I.ok.mod.kin M.ini
 obtain ⟨oI, hoI, hfc⟩ : ∃ oI, X.K.lookup fI = some oI ∧ oI.cls = .type "function" := Option.map_eq_some_iff.mp (beq_iff_eq.mp M.fn)
 have hfI := I.ok.mod.kin _ _ hoI
 refine raise_init (C := C) (nm := nm) (q := qn) (N := N) (bs := bs) (bm := tl) (hdct := true) (sn := sn) (sub := sub) (ab := ab) (col := col) (dd := dd) (k0 := k0) (k1 := k1) (k2 := k2) (k3 := k3) (k5 := k5) (fI := fI) (oI := oI)
   PySem.F.excBase_ValueError (mN := mN) (T.hasType PySem.F.excBase_ValueError.hasBase) (I.ok.hd hc) (by rw [he]; show (false || (backTo cpos (starEach es X.env)).any (·.1)) = false; rw [hplain]; rfl) hni hfc (ld_glob I hg hm ⟨rfl, ?_⟩ hdb)
 have h1 := ha cpos pins s σ H _ I h
 rw [he] at h1 ⊢
 refine Calls.evalArgs_plain (wpAny_mono h1 (fun us s2 h2 => ?_) fun _ _ y => y)
 obtain ⟨vs, H2, I2, rv, hz, hE⟩ := h2
 refine ⟨rfl, by rw [← rv.length]; exact hz, I2.bk _ _ hC, hN.keeps I2.bk, T.keeps I2.bk, I2.bk _ _ hfI, fun h' e hsz me => ?_⟩
 obtain ⟨t', hx, _, _⟩ := me.there
 have I3 : Inv X pins σ (upd H2 e (XN e C none)) { s2 with heap := h' } := I2.laid (t' := s2.toks) me.keeps hsz (XN.ok ⟨_, _, _, hx, rfl, rfl, rfl, rfl, rfl⟩)
 have hq := hE e (I2.hok.fresh hsz)
 have r2 : Vals (V.ref e :: vs) (Value.ref e :: us) := .cons rfl rv
 have hl : (Value.ref e :: us ++ []).length = ps.length := by
   have z := r2.length
   rw [F.len _ _ _ _ hq] at z
   rw [List.append_nil]; exact z.symm
 have hbb := hb { s2 with heap := h' } (Value.ref e :: us) I3.kIn hl
 rw [List.append_nil] at hbb
 have hs0 : X.s₀.heap.get? e = none := by
   cases qq : X.s₀.heap.get? e with
   | none => rfl
   | some o =>
     obtain ⟨o', q'⟩ := I2.base.there e o qq (by rw [hex]; simp)
     rw [me.new] at q'; cases q'
 refine wpAny_call (codeAny_mono (F.run _ X.stack _ _ ⟨Value.ref e :: us, []⟩ (Value.ref e :: us) _ _ E0 (hr.make C us []) (I3.env0.make C us []) hbb r2 hq) fun r s' hq' => ?_)
 cases r with
 | error e => exact False.elim hq'
 | ok fl =>
   cases fl with
   | ret u =>
     obtain ⟨v, H', I4, rv', ev, alt⟩ := I3.after hq'
     subst ev
     rcases alt with ⟨e1, hE⟩ | ⟨d, fs, dne, e1, e2, hE⟩
     · obtain ⟨ob, ws, v0, g1, g2, g3, g4, g5, g6⟩ := XN.get I4.hok e1
       exact ⟨rv', ob, ws, I4.bk _ _ hC, g1, g2, g4, g6, hX pins σ _ _ e (.ref C) none (I4.untrack e1) ⟨hs0, del_same, .inl ⟨ob, ws, g1, g2, g3, g4, g6⟩⟩ hE⟩
     · obtain ⟨ob, ws, v0, g1, g2, g3, g4, g5, g6⟩ := XN.get I4.hok e1
       have I5 := I4.dictDone e2
       have e3 : upd H' d (.xd fs) e = some (XN e C (some d)) := by rw [upd_ne (Ne.symm dne)]; exact e1
       exact ⟨rv', ob, ws, I4.bk _ _ hC, g1, g2, g4, g6, hX pins σ _ _ e (.ref C) (some d) (I5.untrack e3) ⟨hs0, del_same, .inl ⟨ob, ws, g1, g2, g3, g4, g6⟩⟩ hE⟩
   | next => exact False.elim hq'
   | brk => exact False.elim hq'
   | cont => exact False.elim hq'
theorem pe_xinit {pl : Sem Bool} (hg : Gl X x) (hm : X.mg x = some (.ref B)) (b : BaseI X.K B) (ha : PA X (e :: es) t) (hdb : (x == ("__debug__" : Str)) = false := by decide)
   (hst : starEach (e :: es) X.env = (false, eval e X.env) :: starEach es X.env := by rfl) (hpl : (backTo pos (starEach es X.env)).any (·.1) = false := by rfl)
   (ht : eval (.Call (.Attribute (.Name x p) "__init__" apos) (e :: es) [] pos) X.env = (do
     let ov ← eval (.Name x p) X.env
     standAt apos.atName
     let (f, first) ← holding [ov] (getMethod ov "__init__" pl)
     callWith pos f first (backTo pos (starEach (e :: es) X.env)) (backToKw pos (keywordEach [] X.env))) := by rfl) :
   PE X (.Call (.Attribute (.Name x p) "__init__" apos) (e :: es) [] pos) (tXInit X.K t) := by
 intro pins s σ H Q I h
 refine methodCall_KW (pl := pl) (ld_glob I hg hm ?_ hdb) ht
 refine method_cls I.kIn b.ga (cls_value I.kIn b.rd b.fc (by rfl) ?_)
 refine callWith_builtin1 (thn (ha pos pins _ σ H _ (I.tok (s.toks + 1)) h) fun us s1 ⟨vs, H1, I2, r, q⟩ => ?_) hst hpl
 obtain ⟨a, C, dx, rest, f, rfl, e1, M, hz, q⟩ := q
 cases r with
 | cons ra rr =>
   rename_i u us _
   obtain rfl : u = Value.ref a := ra
   obtain ⟨tl, N, nm, qn, bs, sn, sub, ab, col, dd, k0, k1, k2, k3, k5, mN, hC, hN, hni, T⟩ := init_obj I2.kIn M.ini
   obtain ⟨ob, ws, v0, g1, g2, g3, g4, g5, g6⟩ := XN.get I2.hok e1
   obtain ⟨hh, g, d, tk, os⟩ := s1
   have h0 := (Array.getElem?_eq_some_iff.mp g5).1
   refine base_init PySem.F.excBase_ValueError T hC g1 g2 g4 g5 (fun h' T' kk e' => ?_) (by rw [← rr.length]; exact hz)
   have I3 := I2.write (h' := h') (t' := tk) (x := a) (e := a) (o := XN a C dx) (by rw [e1]; exact True.intro) (.inl rfl) kk ⟨_, e'⟩
     (XN.ok ⟨_, ws.setIfInBounds 0 T', T', e', g2, g3, rfl, by simp [h0], by rw [Array.getElem?_setIfInBounds_ne (by decide)]; exact g6⟩)
   rw [upd_id e1] at I3
   exact ⟨.non, H1, I3, rfl, q⟩
theorem ps_xfld (ha : PE X o ta) (hv : PE X value tv) (hs : swapsWith value (some (.Attribute o f pos')) pos.line X.env = pure false) : PS X (.Assign [.Attribute o f pos'] value pos) (sXFld X.K ta tv f) := by
 intro pins s σ H D I h
 refine plainObj_wpAny_Assign_Attribute (thn (hv pins s σ H _ I h) fun u s1 hz => ?_) hs
 obtain ⟨y, H1, I1, ry, q⟩ := hz
 refine thn (ha pins s1 σ H1 _ I1 q) fun ov s2 hz => ?_
 obtain ⟨x, H2, I2, rx, a, C, fI, dx, ex, ea, M, n, q2⟩ := hz
 subst ex
 obtain rfl : ov = Value.ref a := rx
 obtain ⟨ob, ws, v0, g1, g2, g3, g4, g5, g6⟩ := XN.get I2.hok ea
 rcases q2 with ⟨rfl, q2⟩ | ⟨d, fs, rfl, ed, hl, q2⟩
 · refine set_err0 I2.kIn g1 g2 g3 g4 M.ei M.sa n fun h' tk k1 k2 k3 => ?_
   have hne : s2.heap.objs.size ≠ a := Ne.symm (Nat.ne_of_lt (Heap.lt_size g1))
   have hn := I2.hok.fresh (Nat.le_refl s2.heap.objs.size)
   refine ⟨σ, _, ?_, q2 s2.heap.objs.size hn⟩
   have na : ∀ b u, H2 b = some u → (∀ ψ, u ≠ .ext ψ) → b ≠ a := fun b u q nx z => by rw [z, ea] at q; exact nx _ (Option.some.inj q).symm
   have nd : ∀ b u, H2 b = some u → b ≠ s2.heap.objs.size := fun b u q => zz4 q hn
   have n0 : ∀ b, H2 b = none → b ≠ a := fun b q z => by rw [z, ea] at q; cases q
   have up : ∀ b, b ≠ a → b ≠ s2.heap.objs.size → upd (upd H2 s2.heap.objs.size (XD s2.heap.objs.size [(f, y)])) a (XN a C (some s2.heap.objs.size)) b = H2 b := fun b z1 z2 => by rw [upd_ne z1, upd_ne z2]
   refine I2.un (h' := h') (t' := tk) ⟨fun b o q m _ _ => k3 b o (n0 b m) q, fun b o q m _ _ => ⟨o.slots, k3 b o (n0 b m) q⟩, fun b o q m _ => ?_, fun b o q _ => ?_, fun b xs q => ?_, fun b o u q => ?_, fun b ps q => ⟨#[], ?_⟩⟩ fun b u q => ?_
   · rw [up b (n0 b m) (Nat.ne_of_lt (Heap.lt_size q))]; exact m
   · by_cases hb : b = a
     · rw [hb]; exact ⟨_, k1⟩
     · exact ⟨o, k3 b o hb q⟩
   · rw [up b (na b _ q (by intro ψ z; cases z)) (nd b _ q)]; exact q
   · rw [up b (na b _ q (by intro ψ z; cases z)) (nd b _ q)]; exact q
   · rw [up b (na b _ q (by intro ψ z; cases z)) (nd b _ q), q]; simp
   · by_cases hb : b = a
     · subst hb
       rw [zz1] at q; cases q
       exact XN.ok ⟨_, ws, v0, k1, g2, rfl, g4, g5, g6⟩
     · by_cases hd : b = s2.heap.objs.size
       · subst hd
         rw [upd_ne hb, zz1] at q; cases q
         refine XD.ok ⟨_, k2, fun g => ?_, fun g hg => ?_⟩
         · by_cases z : g = f
           · rw [if_pos z, z]; simp [List.lookup]; exact ry
           · have zb : (g == f) = false := beq_eq_false_iff_ne.mpr z
             rw [if_neg z]; simp only [List.lookup, zb]; trivial
         · by_cases z : g = f
           · rw [z]; simp
           · exact absurd (if_neg z) hg
       · rw [up b hb hd] at q
         refine (I2.hok b u q).stay (fun c v hc z => k3 c v ?_ z) (fun c z => by rw [up c (na c _ z (by intro ψ z; cases z)) (nd c _ z)]; exact z) fun c xs z => by rw [up c (na c _ z (by intro ψ z; cases z)) (nd c _ z)]; exact z
         rcases hc with z | z
         · rw [z]; exact hb
         · exact na c _ z (by intro ψ z; cases z)
 · obtain ⟨mA, n1, r, wi⟩ := XD.get I2.hok ed
   have hz : (fs.map (·.1)).length ≤ sizeLine := by rw [List.length_map, sizeLine_eq]; omega
   refine set_err1 I2.kIn g1 g2 g3 g4 n1 M.ei M.sa n wi hz fun h' tk k1 sb => ?_
   refine ⟨σ, _, ?_, q2⟩
   obtain ⟨od, _, _, hod, _⟩ := id k1
   refine I2.write (x := d) (e := d) (by rw [ed]; exact True.intro) (.inl rfl) (fun b q hb z => (sb.2 b hb).trans z) ⟨od, hod⟩ (XD.ok ⟨_, k1, fun g => ?_, fun g hg => ?_⟩)
   · show RelO ((putF f y fs).lookup g) (if g = f then some u else mA g)
     rw [lookup_putF]
     by_cases q : g = f
     · rw [if_pos q, if_pos q]; exact ry
     · rw [if_neg q, if_neg q]; exact r g
   · by_cases q : g = f
     · rw [q]; exact (keys_putF f y fs).1
     · refine (keys_putF f y fs).2 g (wi g fun z => hg ?_)
       show (if g = f then some u else mA g) = none
       rw [if_neg q]; exact z
theorem pe_xfld (he : PE X o ta) (hb : attributeBase o f X.env (eval o X.env) = eval o X.env) : PE X (.Attribute o f pos) (tXFld X.K ta f) := by
 intro pins s σ H Q I h
 refine attr_of hb (thn (he pins s σ H _ I h) fun u s1 hz => ?_)
 obtain ⟨x, H1, I1, rx, a, C, d, fs, v, ex, ea, ed, c, hd, n, l, q⟩ := hz
 subst ex
 obtain rfl : u = Value.ref a := rx
 obtain ⟨⟨ob, ws, g1, g2, g3, g4⟩, _⟩ := (I1.hok a _ ea)
 obtain ⟨mA, n1, r⟩ := (show ∃ mA, s1.heap.Ns1 d mA ∧ ∀ f, RelO (fs.lookup f) (mA f) from I1.hok d _ ed)
 obtain ⟨od, ho, hl⟩ := lookIn_ns n1
 obtain ⟨u, hu, ru⟩ := RelO.some_of (v := v) (o := mA f) (by rw [← l]; exact r f)
 have J : InstAt s1.heap a ob C (some od) := ⟨g1, g2, by unfold notCls; rw [g4], by rw [g3]; exact ho⟩
 exact x_attr I1.kIn c J (findObj_own hd n rfl (by rw [hl, hu])) (handed_of ru) ⟨v, H1, I1.tok _, ru, q⟩
end
end L2
namespace L2
open PySem PySem.Spec PyProof.Rows
section
variable {X : Cx}
theorem zz11 {b : List Stmt} {t u : TS} (h : PSs X b t) (w : ∀ D σ H, u D σ H → t D σ H) : PSs X b u := fun pins s σ H D I q => h pins s σ H D I (w D σ H q)
end
end L2
namespace L2
open PySem PySem.Spec PyProof.Rows
section
variable {X : Cx}
end
end L2
namespace L2
open PySem PySem.Spec PyProof.Rows
section
variable {prog : Program} {w : World} {K : Type} [DecidableEq K] {knd : KeyKind prog w K} {A : Around} {E : Value → Shared → Prop} {s : Shared}
end
section
variable {X : Cx}
def rEqDict (K : PySem.W.Frag) : R2 := fun x y H Q => ∃ p q kvs, x = .ref p ∧ y = .ref q ∧ H p = some (.dK kvs) ∧ H q = some (.dK kvs) ∧ (∀ kv ∈ kvs, ∃ d, Rep K H d kv.2 ∧ dep d ≤ 20) ∧ Q (.bl true) H
noncomputable def rDictOf : List V → Hp → VK → Prop := fun xs H Q => ∃ p kvs, xs = [.ref p] ∧ H p = some (.dK kvs) ∧ ∀ q, H q = none → Q (.ref q) (upd H q (.dK kvs))
noncomputable def cntV (x : V) (xs : List V) : Nat := xs.countP fun y => eqV y x
noncomputable def rCount (K : PySem.W.Frag) : V → List V → Hp → VK → Prop := fun x vs H Q => ∃ p xs y, x = .ref p ∧ vs = [y] ∧ SqL K H p xs ∧ flatV y = true ∧ xs.all flatV = true ∧ Q (.int (cntV y xs : Nat)) H
end
end L2
namespace L2
open PySem PySem.Spec PyProof.Rows
section
variable {M : Model} {A : Around} {E : Value → Shared → Prop} {s : Shared}
end
section
variable {prog : Program} {w : World} {A : Around} {R : Result → Shared → Prop} {s : Shared}
end
section
variable {X : Cx}
def tCompX (E : XK) (k : Nat) (fm : List Nat) (wi : TI) (g : TG) (tt : TT) (te : TEX) : TE := fun σ H Q => wi σ H fun J H1 => ∀ D, H1 D = none → ∃ W : Nat → Nat → List V → Hp → Prop,
 (∃ m, W 0 m [] (upd H1 D (.lst []))) ∧ ∀ i m ys H2, W i m ys H2 → H2 D = some (.lst ys) ∧ ys.length < sizeLine ∧ ((J.stop i H2 ∧ Q (.ref D) H2) ∨ (J.go i H2 ∧ ∃ N : List V → Hp → Prop, (∀ ys' H', N ys' H' → ∃ m', m' < m ∧ W (i + 1) m' ys' H') ∧ ∀ x H3, J.yld i H2 x H3 →
   g x (blkSt k fm σ) H3 fun σ3 H4 => Ext (blkSt k fm σ) σ3 ∧ tt σ3 H4 fun b H5 => if b = true then te σ3 H5 (fun y H6 => H6 D = some (.lst ys) ∧ N (ys ++ [y]) (upd H6 D (.lst (ys ++ [y])))) E else N ys H5))
end
def CompWX (E : XK) (g : TG) (tt : TT) (te : TEX) (σ0 : St) (Q : VK) (J : It) (H1 : Hp) : Prop := ∀ DD, H1 DD = none → ∃ W : Nat → Nat → List V → Hp → Prop,
 (∃ m, W 0 m [] (upd H1 DD (.lst []))) ∧ ∀ i m ys H2, W i m ys H2 → H2 DD = some (.lst ys) ∧ ys.length < sizeLine ∧ ((J.stop i H2 ∧ Q (.ref DD) H2) ∨ (J.go i H2 ∧ ∃ N : List V → Hp → Prop, (∀ ys' H', N ys' H' → ∃ m', m' < m ∧ W (i + 1) m' ys' H') ∧ ∀ x H3, J.yld i H2 x H3 →
   g x σ0 H3 fun σ3 H4 => Ext σ0 σ3 ∧ tt σ3 H4 fun b H5 => if b = true then te σ3 H5 (fun y H6 => H6 DD = some (.lst ys) ∧ N (ys ++ [y]) (upd H6 DD (.lst (ys ++ [y])))) E else N ys H5))
def CompLX (K : PySem.W.Frag) (E : XK) (g : TG) (tt : TT) (te : TEX) (σ0 : St) (Q : VK) : VK := fun x H1 => ∃ a, x = .ref a ∧ (∃ xs, SqL K H1 a xs) ∧ CompWX E g tt te σ0 Q (Itl K a) H1
section
variable {K : PySem.W.Frag} {k : Nat} {fm : List Nat} {tl : TE} {te : TEX} {g : TG} {tt : TT} {σ σ0 : St} {H H1 : Hp} {Q : VK} {E : XK}
theorem tCompX_list : tCompX E k fm (iList K tl) g tt te σ H Q = tl σ H (CompLX K E g tt te (blkSt k fm σ) Q) := rfl
end
section
variable {M : Model} {A : Around} {E : Value → Shared → Prop} {s : Shared}
end
end L2
namespace L2
open PySem PySem.Spec PyProof.Rows
section
variable {X : Cx}
noncomputable def rClearD : V → List V → Hp → VK → Prop := fun x vs H Q => ∃ l kvs, x = .ref l ∧ vs = [] ∧ H l = some (.dK kvs) ∧ Q .non (upd H l (.dK []))
end
end L2
namespace L2
open PySem PySem.Spec PyProof.Rows
section
variable {X : Cx}
end
end L2
namespace L2
open PySem
section
variable {prog : Program} {w : World} {A : Around} {E : Value → Shared → Prop} {s : Shared}
set_option maxHeartbeats 3200000 in
set_option maxHeartbeats 3200000 in
set_option maxHeartbeats 3200000 in
end
section
open PyProof.Rows PySem.Spec
variable {X : Cx}
end
end L2
namespace L2
open PySem PySem.Spec PyProof.Rows
section
variable {X : Cx} {pins : List (Addr × Obj)} {σ : List (Option V)} {H H' : Hp} {s : Shared} {h' : Heap}
theorem Inv.turnedL {t' : Nat} {fp : List Addr} (I : Inv X pins σ H s) (k : ∀ b o, b ∉ fp → s.heap.get? b = some o → h'.get? b = some o) (hf : ∀ b ∈ fp, FpOk X pins H b) : Inv X pins σ H { s with heap := h', toks := t' } := by
 have nit : ∀ b u, H b = some u → b ∉ fp := fun b u e z => by rw [(hf b z).1] at e; cases e
 have hL : X.env.locals ∉ fp := fun z => (hf _ z).2.1 rfl
 refine I.step (g' := s.gens) (d' := s.drawn) (ch := fp) (fun b hb => ?_) (fun b o _ _ hc e _ => k b o hc e) (fun b o _ _ hc e _ => ⟨o.slots, k b o hc e⟩) (fun _ _ _ _ n => n)
   (fun b o hc e => ⟨o, k b o hc e⟩) (fun _ _ e => e) (fun _ _ _ e => e) (fun b ps e => ⟨#[], by rw [e]; simp⟩) (fun m hm => ?_) (fun b u e => ?_) I.bare
 · obtain ⟨_, a1, _, a2, a3, a4⟩ := hf b hb
   exact ⟨a2, a1, a3, a4⟩
 · obtain ⟨o, es, ep, ho, r⟩ := hm
   exact ⟨o, es, ep, k _ o hL ho, r⟩
 · refine (I.hok b u e).stay (fun c v hc q => k c v ?_ q) (fun _ q => q) fun _ _ q => q
   rcases hc with z | z
   · rw [z]; exact nit b u e
   · exact nit c _ z
theorem Inv.turnedT {t' : Nat} {fp : List Addr} {q : Addr} {xs : List V} (I : Inv X pins σ H s) (k : ∀ b o, b ∉ fp → s.heap.get? b = some o → h'.get? b = some o) (hf : ∀ b ∈ fp, FpOk X pins H b) (hq : s.heap.objs.size ≤ q) (new : ObjOk X.prog X.w (upd H q (.tup xs)) h' q (.tup xs)) :
   Inv X pins σ (upd H q (.tup xs)) { s with heap := h', toks := t' } := by
 have nit : ∀ b u, H b = some u → b ∉ fp := fun b u e z => by rw [(hf b z).1] at e; cases e
 have hL : X.env.locals ∉ fp := fun z => (hf _ z).2.1 rfl
 have fq : H q = none := I.hok.fresh hq
 have ne : ∀ b u, H b = some u → b ≠ q := fun b u e z => by rw [z, fq] at e; cases e
 have ne' : ∀ b (o : Obj), s.heap.get? b = some o → b ≠ q := fun b o e z => absurd (Heap.lt_size e) (by rw [z]; exact Nat.not_lt.mpr hq)
 refine I.step (g' := s.gens) (d' := s.drawn) (ch := fp) (fun b hb => ?_) (fun b o _ _ hc e _ => k b o hc e) (fun b o _ _ hc e _ => ⟨o.slots, k b o hc e⟩) (fun b o _ e n => by rw [upd_ne (ne' b o e)]; exact n)
   (fun b o hc e => ⟨o, k b o hc e⟩) (fun b _ e => by rw [upd_ne (ne b _ e)]; exact e) (fun b _ _ e => by rw [upd_ne (ne b _ e)]; exact e) (fun b ps e => ⟨#[], by rw [upd_ne (ne b _ e), e]; simp⟩) (fun m hm => ?_) (fun b u e => ?_) I.bare
 · obtain ⟨_, a1, _, a2, a3, a4⟩ := hf b hb
   exact ⟨a2, a1, a3, a4⟩
 · obtain ⟨o, es, ep, ho, r⟩ := hm
   exact ⟨o, es, ep, k _ o hL ho, r⟩
 · by_cases z : b = q
   · subst z
     rw [zz1] at e
     cases e
     exact new
   · rw [upd_ne z] at e
     refine (I.hok b u e).stay (fun c v hc q => k c v ?_ q) (fun c q => ?_) fun c o q => ?_
     · rcases hc with z | z
       · rw [z]; exact nit b u e
       · exact nit c _ z
     · rw [upd_ne (ne c _ q)]; exact q
     · rw [upd_ne (ne c _ q)]; exact q
end
section
variable {X : Cx}
end
section
variable {K : PySem.W.Frag} {k : Nat} {fm : List Nat} {te : TE} {ta : TA} {g : TG} {tt : TT} {σ σ0 : St} {H H1 : Hp} {Q : VK}
end
end L2
namespace L2
open PySem PySem.Spec PyProof.Rows
noncomputable def Ite (K : PySem.W.Frag) (a : Addr) : It :=
 ⟨fun i H => ∃ xs x, SqL K H a xs ∧ xs[i]? = some x,
  fun i H v H' => ∃ q x, v = .ref q ∧ H q = none ∧ (∀ xs, SqL K H a xs → xs[i]? = some x) ∧ H' = upd H q (.tup [.int i, x]),
  fun i H => ∃ xs, SqL K H a xs ∧ xs.length ≤ i⟩
def Te (e it l : Addr) (i : Nat) (h : Heap) : Prop := (∃ old, IsEnum h e it i old) ∧ h.IsListIter it l i
theorem turn_enum {P : Program} {w : World} {K : PySem.W.Frag} {elts : List Expr} {x1} {pos : Pos} {e it : Addr} (l : Addr) (f : e ≠ it) : Turn P w K (.Tuple elts x1 pos) (Ite K l) [e, it] e (Te e it l) where
 mem := by simp
 obj := fun i h st b hb => by
   obtain ⟨⟨old, t1⟩, ⟨o4, t4, c4, d4⟩⟩ := st
   simp only [List.mem_cons, List.not_mem_nil, or_false] at hb
   rcases hb with rfl | rfl
   · exact ⟨_, t1, fun v q => by cases q⟩
   · exact ⟨_, t4, fun v q => by rw [d4] at q; cases q⟩
 keep := fun i h h' st k => by
   obtain ⟨⟨old, t1⟩, t4⟩ := st
   exact ⟨⟨old, k e (by simp) _ t1⟩, t4.at fun o q => k it (by simp) o q⟩
 item := by
   intro X hP hw hK hc i pins s σ H E I hf st hg
   subst hP hw hK
   obtain ⟨xs, x, q1, hx⟩ := hg
   obtain ⟨its1, rv1, p1, _⟩ := I.list q1
   obtain ⟨u, hu, ru⟩ := rv1.get hx
   obtain ⟨⟨old, t1⟩, t4⟩ := id st
   have lt : ∀ b ∈ [e, it], b < s.heap.objs.size := fun b hb => by
     simp only [List.mem_cons, List.not_mem_nil, or_false] at hb
     rcases hb with rfl | rfl
     · exact Heap.lt_size t1
     · obtain ⟨_, q, _⟩ := t4; exact Heap.lt_size q
   refine wpAny_pyNext_enum_item t1 t4 p1.isList (x := u) (by simpa using hu) f fun h' z' i1' pr sz kp => ⟨.ref s.heap.objs.size, rfl, ?_⟩
   refine wpAny_letOwnedTupleGo_enum z' fun h'' z'' sb => ?_
   have nz : s.heap.objs.size ≠ e := Nat.ne_of_gt (lt e (by simp))
   have kk : ∀ b o, b ∉ [e, it] → s.heap.get? b = some o → h''.get? b = some o := fun b o nb q => by
     simp only [List.mem_cons, List.not_mem_nil, or_false, not_or] at nb
     exact (sb.2 b nb.1).trans (kp b o nb.1 nb.2 q)
   have new : IsTup h'' s.heap.objs.size #[.int i s.toks, u] := ⟨_, (sb.2 _ nz).trans pr, rfl, 0, rfl⟩
   refine ⟨.ref s.heap.objs.size, _, I.turnedT (q := s.heap.objs.size) (xs := [.int i, x]) (t' := s.toks + 1) kk hf (Nat.le_refl _) ⟨by rw [sizeLine_eq]; exact (by decide : (2 : Nat) ≤ 16777216), [_, u], .cons ⟨_, rfl⟩ (.cons ru .nil), new⟩, rfl, ⟨_, x, rfl, I.hok.fresh (Nat.le_refl _), fun zs hz => by rw [I.list_inj hz q1]; exact hx, rfl⟩, ?_, fun b hb => ?_⟩
   · exact ⟨⟨_, by have : ((i + 1 : Nat) : Int) = (i : Int) + 1 := by push_cast; rfl
                   rw [this]; exact z''⟩, i1'.at fun o q => (sb.2 _ (Ne.symm f)).trans q⟩
   · rw [upd_ne (Nat.ne_of_lt (lt b hb))]; exact (hf b hb).1
 done := by
   intro X hP hw hK hc i pins s σ H E I hf st hg
   subst hP hw hK
   obtain ⟨xs, q1, hx⟩ := hg
   obtain ⟨its1, rv1, p1, _⟩ := I.list q1
   obtain ⟨⟨old, t1⟩, t4⟩ := id st
   have e1 := rv1.length
   refine wpAny_pyNext_enum_end (I.ok.hd hc) t1 t4 p1.isList (by simp; omega) fun h' kp => ⟨rfl, I.turnedL (t' := s.toks) (fun b o nb q => ?_) hf⟩
   simp only [List.mem_cons, List.not_mem_nil, or_false, not_or] at nb
   exact kp b o nb.2 q
 self := fun _ _ _ _ _ st h => by
   obtain ⟨⟨old, t1⟩, _⟩ := st
   exact wpAny_pyIter_enum t1 h
section
variable {X : Cx}
theorem boot_enumerate : bootBuiltins "enumerate" = some (.type "enumerate") := by decide +kernel
def iEnum (K : PySem.W.Frag) (ta : TA) : TI := fun σ H R => ta σ H fun vs H1 => ∃ a xs, vs = [.ref a] ∧ SqL K H1 a xs ∧ R (Ite K a) H1
theorem pi_enum {K : PySem.W.Frag} (eK : X.K = K) {elts : List Expr} {x1} {tp : Pos} {a : Expr} {ta : TA} {p pos : Pos} (hg : Gl X "enumerate") (hm : X.mg "enumerate" = none) (ha : PA X [a] ta) (hs : starEach [a] X.env = [(false, eval a X.env)] := by rfl) :
   PI X (.Tuple elts x1 tp) (.Call (.Name "enumerate" p) [a] [] pos) (iEnum K ta) := by
 subst eK
 intro pins s σ H R I h
 refine Call_ (ld_blt I hg hm boot_enumerate (PyProof.Rows.callWith_type1 (thn (ha pos pins s σ H _ I h) fun us s1 ⟨vs, H1, I1, r1, q1⟩ => ?_) (by rw [hs]; rfl) (by rfl)))
 obtain ⟨l1, xs, e, h1, q⟩ := q1
 subst e
 cases r1 with
 | cons r rr =>
   cases rr
   cases r
   obtain ⟨its1, rv1, p1, _⟩ := I1.list h1
   refine call_enumerate_list p1.isList fun h' z j1 sz kp => ?_
   have I2 := I1.kept (h' := h') (t' := s1.toks) kp
   refine wpAny_pyIter_enum z ?_
   refine ⟨_, _, _, _, H1, rfl, I2, turn_enum l1 (Nat.succ_ne_self _), ⟨⟨_, z⟩, j1⟩, fun b hb => ?_, q⟩
   have lb : s1.heap.objs.size ≤ b := by
     simp only [List.mem_cons, List.not_mem_nil, or_false] at hb
     rcases hb with rfl | rfl
     · exact Nat.le_add_right _ 1
     · exact Nat.le_refl _
   exact I1.fpOk lb (I1.hok.fresh lb)
end
noncomputable def ForE (K : PySem.W.Frag) (g : TG) (tb : TS) (D : Ends) (σ : St) : List V → Hp → Prop := fun vs H1 => ∃ a xs, vs = [.ref a] ∧ SqL K H1 a xs ∧ ForW g tb D σ (Ite K a) H1
section
variable {K : PySem.W.Frag} {te : TE} {ta : TA} {g : TG} {tb : TS} {D : Ends} {σ : St} {H : Hp}
theorem tFor_enum : tFor (iEnum K ta) g tb D σ H = ta σ H (ForE K g tb D σ) := rfl
theorem ForE.of {a : Addr} {xs : List V} (Pv : Nat → St → Hp → Prop) (h0 : Pv 0 σ H) (hl : ∀ i σ H, i ≤ xs.length → Pv i σ H → SqL K H a xs)
   (hs : ∀ i x σ H q, xs[i]? = some x → Pv i σ H → H q = none → g (.ref q) σ (upd H q (.tup [.int i, x])) fun σ2 H2 => tb { D with nx := Pv (i + 1), ct := Pv (i + 1), bk := D.nx } σ2 H2) (hd : ∀ σ H, Pv xs.length σ H → D.nx σ H) : ForE K g tb D σ [.ref a] H := by
 refine ⟨a, xs, rfl, hl 0 _ _ (Nat.zero_le _) h0, fun i m σ H => m = xs.length - i ∧ i ≤ xs.length ∧ Pv i σ H, ⟨xs.length, by simp, Nat.zero_le _, h0⟩, ?_⟩
 rintro i m σ H ⟨rfl, hi, p⟩
 have q := hl i σ H hi p
 by_cases hlt : i < xs.length
 · refine .inr ⟨⟨xs, xs[i], q, by simp [hlt]⟩, Pv (i + 1), fun σ' H' p' => ⟨xs.length - (i + 1), by omega, rfl, hlt, p'⟩, fun x H' y => ?_⟩
   obtain ⟨b, u, rfl, nb, y, rfl⟩ := y
   exact hs i u σ H b (y xs q) p nb
 · have e : i = xs.length := by omega
   subst e
   exact .inl ⟨⟨xs, q, Nat.le_refl _⟩, hd σ H p⟩
end
end L2
namespace L2
open PySem PySem.Spec PyProof.Rows
section
variable {X : Cx}
end
section
variable {te : TE} {g : TG} {tb : TS} {D : Ends} {σ : St} {H : Hp}
end
end L2
namespace L2
open PySem PySem.Spec PyProof.Rows
theorem vals_strs : ∀ l : List (Str × Tok), Vals ((l.map (·.1)).map V.str) (strValues l)
 | [] => .nil
 | p :: r => .cons ⟨p.2, rfl⟩ (vals_strs r)
theorem join_len (sep : Str) : ∀ ps : List Str, (ps.length - 1) * sep.length ≤ (Str.join sep ps).length
 | [] => by simp
 | [x] => by simp
 | x :: y :: r => by
   have h := join_len sep (y :: r)
   show _ ≤ (x ++ sep ++ Str.join sep (y :: r)).length
   rw [Str.length_append, Str.length_append]
   simp only [List.length_cons, Nat.add_sub_cancel] at h ⊢
   rw [Nat.succ_mul]
   omega
theorem split_len (x y : Str) (hy : 1 ≤ y.length) : (Txt.split x y).length ≤ x.length + 1 := by
 have h := join_len y (Txt.split x y)
 rw [StrLaws.join_split] at h
 have : (Txt.split x y).length - 1 ≤ ((Txt.split x y).length - 1) * y.length := Nat.le_mul_of_pos_right _ hy
 omega
section
variable {X : Cx}
noncomputable def rSplit : V → List V → Hp → VK → Prop := fun x vs H Q => ∃ z y, x = .str z ∧ vs = [.str y] ∧ 1 ≤ y.length ∧ z.length < sizeLine ∧ ∀ l, H l = none → Q (.ref l) (upd H l (.lst ((Txt.split z y).map V.str)))
theorem mt_split : MtM X "str.split" rSplit := by
 intro pins s σ H x vs v us Q I rx rv h
 obtain ⟨z, y, rfl, rfl, hy1, hz, q⟩ := h
 obtain ⟨t, rfl⟩ := rx
 obtain ⟨u, rfl, ru⟩ := rv.one
 obtain ⟨u, rfl⟩ := ru
 have hy : (y.length == 0) = false := by simp; omega
 have hlen := split_len z y hy1
 have fin : ∀ (l : List (Str × Tok)) (k : Nat), l.map (·.1) = Txt.split z y → EP X pins σ Q (.ref s.heap.objs.size) { s with heap := s.heap.push { cls := .type "list", data := .seq (strValues l).toArray }, toks := k } := fun l k e => by
   have hv := vals_strs l
   rw [e] at hv
   exact ⟨.ref s.heap.objs.size, _, I.lnew hv (by rw [List.length_map]; omega), rfl, q _ I.fresh⟩
 cases h1 : (decide (z.length < y.length) || decide (Builtin.Str.strKind z < Builtin.Str.strKind y))
 · cases hf : (Builtin.Str.occurrences z y 0 z.length (z.length + 1)).isEmpty
   · have es : Txt.split z y = Builtin.Str.partsBetween z (Builtin.Str.occurrences z y 0 z.length (z.length + 1)) y.length := (if_neg (ne_true_of_eq_false h1)).trans (if_neg (ne_true_of_eq_false hf))
     refine call_meets F.slot_str_split (typeIs_str _ _ _) F.entry_str_split (F.args_str_split_2 _ _) (meets_str_split_sep z y t u h1 hy hf (by omega) (by rw [← es]; omega)) ?_
     show wants _ _ _ { s with toks := _, heap := s.heap.push { cls := .type "list", data := .seq (strsFrom s.toks (Builtin.Str.partsBetween z (Builtin.Str.occurrences z y 0 z.length (z.length + 1)) y.length)).toArray } }
     rw [strsFrom_eq]
     exact fin (numbered s.toks _) _ ((numbered_texts _ _).trans es.symm)
   · exact call_meets F.slot_str_split (typeIs_str _ _ _) F.entry_str_split (F.args_str_split_2 _ _) (meets_str_split_not_found z y t u h1 hy hf)
       (fin [(z, t)] s.toks ((if_neg (ne_true_of_eq_false h1)).trans (if_pos hf)).symm)
 · exact call_meets F.slot_str_split (typeIs_str _ _ _) F.entry_str_split (F.args_str_split_2 _ _) (meets_str_split_cannot_occur z y t u h1)
     (fin [(z, t)] s.toks (if_pos h1).symm)
end
theorem cut_one {c : Nat} : ∀ {a b u v : List Nat}, c ∉ a → c ∉ b → a ++ c :: u = b ++ c :: v → a = b ∧ u = v
 | [], [], _, _, _, _, h => ⟨rfl, (List.cons.inj h).2⟩
 | [], x :: b, _, _, _, hb, h => absurd (by rw [(List.cons.inj h).1]; exact List.mem_cons_self) hb
 | x :: a, [], _, _, ha, _, h => absurd (by rw [← (List.cons.inj h).1]; exact List.mem_cons_self) ha
 | x :: a, y :: b, _, _, ha, hb, h => by
   have h := List.cons.inj h
   obtain ⟨e1, e2⟩ := cut_one (fun z => ha (List.mem_cons_of_mem _ z)) (fun z => hb (List.mem_cons_of_mem _ z)) h.2
   exact ⟨by rw [h.1, e1], e2⟩
theorem str_ext {x y : Str} (h : x.cps.toList = y.cps.toList) : x = y :=
 PySem.Str.ext' (Array.toList_inj.mp h)
theorem join_cps (c : Nat) (x y : Str) (r : List Str) : (Str.join ⟨#[c]⟩ (x :: y :: r)).cps.toList = x.cps.toList ++ c :: (Str.join ⟨#[c]⟩ (y :: r)).cps.toList := by
 show (x.cps ++ #[c] ++ (Str.join ⟨#[c]⟩ (y :: r)).cps).toList = _
 simp
theorem join_inj {c : Nat} : ∀ {ps qs : List Str}, ps ≠ [] → qs ≠ [] → (∀ p ∈ ps, c ∉ p.cps.toList) → (∀ p ∈ qs, c ∉ p.cps.toList) → Str.join ⟨#[c]⟩ ps = Str.join ⟨#[c]⟩ qs → ps = qs
 | [], _, h, _, _, _, _ => absurd rfl h
 | _, [], _, h, _, _, _ => absurd rfl h
 | [x], [y], _, _, _, _, h => by rw [show x = y from h]
 | [x], y :: z :: r, _, _, hp, _, h => by
   have e : (Str.join ⟨#[c]⟩ [x]).cps.toList = (Str.join ⟨#[c]⟩ (y :: z :: r)).cps.toList := by rw [h]
   rw [join_cps] at e
   exact absurd (by rw [show x.cps.toList = _ from e]; simp) (hp x List.mem_cons_self)
 | x :: z :: r, [y], _, _, _, hq, h => by
   have e : (Str.join ⟨#[c]⟩ (x :: z :: r)).cps.toList = (Str.join ⟨#[c]⟩ [y]).cps.toList := by rw [h]
   rw [join_cps] at e
   exact absurd (by rw [← show _ = y.cps.toList from e]; simp) (hq y List.mem_cons_self)
 | x :: x2 :: r, y :: y2 :: q, _, _, hp, hq, h => by
   have e : (Str.join ⟨#[c]⟩ (x :: x2 :: r)).cps.toList = (Str.join ⟨#[c]⟩ (y :: y2 :: q)).cps.toList := by rw [h]
   rw [join_cps, join_cps] at e
   obtain ⟨e1, e2⟩ := cut_one (hp x List.mem_cons_self) (hq y List.mem_cons_self) e
   rw [str_ext e1, join_inj (ps := x2 :: r) (qs := y2 :: q) (by simp) (by simp) (fun p h => hp p (List.mem_cons_of_mem _ h)) (fun p h => hq p (List.mem_cons_of_mem _ h)) (str_ext e2)]
theorem split_join {c : Nat} {ps : List Str} (hn : ps ≠ []) (h : ∀ p ∈ ps, c ∉ p.cps.toList) : Txt.split (Txt.join ⟨#[c]⟩ ps) ⟨#[c]⟩ = ps := by
 show Txt.split (Builtin.Str.glued ⟨#[c]⟩ ps) ⟨#[c]⟩ = ps
 rw [StrLaws.glued_eq_join]
 refine join_inj ?_ hn (StrLaws.split_free _ c) h (StrLaws.join_split _ _)
 intro e
 unfold Txt.split at e
 split at e
 · cases e
 · split at e
   · cases e
   · unfold Builtin.Str.partsBetween at e
     simp at e
end L2
namespace L2
open PySem PySem.Spec PyProof.Rows
noncomputable def occ (j i : Str) : Bool := !(Builtin.Str.occurrences j i 0 j.length 1).isEmpty
noncomputable abbrev dig (c : Nat) : Bool := occ "0123456789" ⟨#[c]⟩
noncomputable def figs (z : Str) : List Nat := if Txt.startswith z "-" then z.cps.toList.drop 1 else z.cps.toList
noncomputable def valD (cs : List Nat) : Nat := cs.foldl (fun acc c => acc * 10 + (c - 48)) 0
noncomputable def numF (z : Str) (lo hi : Int) : V :=
 if (figs z).length = 0 ∨ 10 < (figs z).length ∨ (figs z).all dig = false ∨ ((figs z).take 1 = [48] ∧ z ≠ Str.ofString "0") then .non
 else if lo ≤ (if Txt.startswith z "-" then -((valD (figs z) : Nat) : Int) else ((valD (figs z) : Nat) : Int)) ∧ (if Txt.startswith z "-" then -((valD (figs z) : Nat) : Int) else ((valD (figs z) : Nat) : Int)) ≤ hi
 then .int (if Txt.startswith z "-" then -((valD (figs z) : Nat) : Int) else ((valD (figs z) : Nat) : Int)) else .non
theorem occNil {x y : Str} {lim : Nat} (h : ∀ i, i + y.length ≤ x.length → Builtin.Str.subAt x y i = false) : Builtin.Str.occurrences x y 0 x.length lim = [] := PySem.W.occ_nil_of_no x y lim h
theorem lenL (z : Str) : z.cps.toList.length = z.length := Array.length_toList
theorem strExt {a b : Str} (h : a.cps.toList = b.cps.toList) : a = b := PyProof.Rows.ext_toList h
theorem nilOf {z : Str} (h : z.length = 0) : z.cps.toList = [] := List.eq_nil_of_length_eq_zero (by rw [lenL]; exact h)
theorem sl_from1 (z : Str) : (Txt.slice z (some 1) none).cps.toList = z.cps.toList.drop 1 := by
 by_cases h : 1 ≤ z.length
 · have e := PyProof.Rows.slice_from_eq (x := z) (i := 1) (b := (z.length : Int)) (by decide) (by omega) rfl
   rw [e]
   show List.take ((z.length : Int) - 1).toNat (List.drop 1 z.cps.toList) = _
   exact List.take_of_length_le (by rw [List.length_drop, lenL]; omega)
 · have h1 := Txt.slice_le z (some 1) none
   rw [nilOf (z := Txt.slice z (some 1) none) (by omega), nilOf (z := z) (by omega)]; rfl
theorem dash_list : (Str.ofString "-").cps.toList = [45] := by decide +kernel
theorem zero_list : (Str.ofString "0").cps.toList = [48] := by decide +kernel
theorem starts_iff (z : Str) : Txt.startswith z (Str.ofString "-") = decide (z.cps.toList.take 1 = [45]) := by
 unfold Txt.startswith Builtin.Str.subAt
 have hl : (Str.ofString "-").length = 1 := by decide +kernel
 have hc : (Str.ofString "-").cps = #[45] := by decide +kernel
 rw [hl, hc]
 have e : z.cps.extract 0 (0 + 1) = (z.cps.toList.take 1).toArray := by
   refine Array.ext' ?_
   rw [Array.toList_extract]
   rfl
 rw [e]
 have e2 : ((z.cps.toList.take 1).toArray == #[45]) = decide (z.cps.toList.take 1 = [45]) := by
   by_cases h : z.cps.toList.take 1 = [45]
   · rw [h]; rfl
   · rw [decide_eq_false h]
     refine beq_eq_false_iff_ne.mpr fun q => h ?_
     have := congrArg Array.toList q
     simpa using this
 rw [e2]
 by_cases h : z.cps.toList.take 1 = [45]
 · have : 1 ≤ z.length := by
     have q := congrArg List.length h
     rw [List.length_take, lenL] at q
     simp at q; omega
   rw [decide_eq_true h]
   simp; omega
 · rw [decide_eq_false h]; simp
theorem occ_digit (c : Nat) (h : 48 ≤ c ∧ c ≤ 57) : Builtin.Str.occurrences (Str.ofString "0123456789") ⟨#[c]⟩ 0 (Str.ofString "0123456789").length 1 = [c - 48] := by
 have : c = 48 ∨ c = 49 ∨ c = 50 ∨ c = 51 ∨ c = 52 ∨ c = 53 ∨ c = 54 ∨ c = 55 ∨ c = 56 ∨ c = 57 := by omega
 rcases this with e | e | e | e | e | e | e | e | e | e <;> subst e <;> decide +kernel
theorem occ_other (c : Nat) (h : ¬ (48 ≤ c ∧ c ≤ 57)) : Builtin.Str.occurrences (Str.ofString "0123456789") ⟨#[c]⟩ 0 (Str.ofString "0123456789").length 1 = [] := by
 refine occNil fun i hi => ?_
 have hl : (Str.ofString "0123456789").length = 10 := by decide +kernel
 have h1 : (⟨#[c]⟩ : Str).length = 1 := rfl
 rw [hl, h1] at hi
 have hx : (Str.ofString "0123456789").cps = #[48, 49, 50, 51, 52, 53, 54, 55, 56, 57] := by decide +kernel
 unfold Builtin.Str.subAt
 rw [hx, h1]
 have : i = 0 ∨ i = 1 ∨ i = 2 ∨ i = 3 ∨ i = 4 ∨ i = 5 ∨ i = 6 ∨ i = 7 ∨ i = 8 ∨ i = 9 := by omega
 refine beq_eq_false_iff_ne.mpr fun q => h ?_
 rcases this with e | e | e | e | e | e | e | e | e | e <;> subst e <;> (
   have q2 := congrArg Array.toList q
   simp at q2
   omega)
theorem dig_iff (c : Nat) : dig c = decide (48 ≤ c ∧ c ≤ 57) := by
 unfold dig occ
 by_cases h : 48 ≤ c ∧ c ≤ 57
 · rw [occ_digit c h, decide_eq_true h]; rfl
 · rw [occ_other c h, decide_eq_false h]; rfl
theorem all_dig {cs : List Nat} (h : cs.all dig = true) : PySem.NumText.AllDigits cs := fun c hc => by
 have := List.all_eq_true.mp h c hc
 rw [dig_iff] at this
 exact of_decide_eq_true this
theorem sign_zero (x : Nat) : decide ((⟨#[x]⟩ : Str) = Str.ofString "0") = decide (x = 48) := by
 by_cases h : x = 48
 · subst h; decide +kernel
 · rw [decide_eq_false h, decide_eq_false]
   intro q
   have := congrArg (fun s : Str => s.cps.toList) q
   rw [zero_list] at this
   simp at this
   exact h this
theorem first_at {cs : List Nat} (h : cs ≠ []) : ∃ x, atI cs 0 = some x ∧ cs.take 1 = [x] := by
 cases cs with
 | nil => exact absurd rfl h
 | cons c r => exact ⟨c, atI_nat (j := 0) (by simp), by simp⟩
theorem nat_len (m : Nat) (h : m ≤ 20000000000) : (Nat.toDigits 10 m).length ≤ 11 := by
 refine (Nat.length_toDigits_le_iff (b := 10) (k := 11) (by decide) (by decide)).mpr ?_
 omega
theorem signsOf (t : String) : (Str.ofString t).cps.toList = List.map Char.toNat t.toList := by
 open PySem PySem.W PyProof.Rows in exact signs_ofString t
theorem ofS_len (t : String) : (Str.ofString t).length = t.length := by
 rw [← lenL, signsOf, List.length_map, String.length_toList]
theorem num_len {n : Int} (h1 : -20000000000 ≤ n) (h2 : n ≤ 20000000000) : (Str.ofString (toString n)).length ≤ 12 := by
 have key : ∀ m : Nat, m ≤ 20000000000 → (Nat.repr m).length ≤ 11 := fun m hm => by
   have := nat_len m hm
   have e : (Nat.repr m).toList = Nat.toDigits 10 m := Nat.toList_repr
   rw [← String.length_toList, e]; exact this
 rw [ofS_len]
 cases n with
 | ofNat m =>
   show (Nat.repr m).length ≤ 12
   have h2' : (m : Int) ≤ 20000000000 := h2
   have := key m (by omega)
   omega
 | negSucc m =>
   show ("-" ++ Nat.repr (m + 1)).length ≤ 12
   have := key (m + 1) (by omega)
   rw [String.length_append]
   have e : "-".length = 1 := by decide
   omega
theorem numF_non1 {z : Str} {lo hi : Int} (h : figs z = []) : numF z lo hi = .non := by unfold numF; rw [if_pos (Or.inl (by rw [h]; rfl))]
theorem numF_non2 {z : Str} {lo hi : Int} (h : 10 < (figs z).length) : numF z lo hi = .non := by unfold numF; rw [if_pos (Or.inr (Or.inl h))]
theorem numF_non3 {z : Str} {lo hi : Int} (h : (figs z).all dig = false) : numF z lo hi = .non := by unfold numF; rw [if_pos (Or.inr (Or.inr (Or.inl h)))]
theorem numF_non4 {z : Str} {lo hi : Int} (h : (figs z).take 1 = [48]) (h' : z ≠ Str.ofString "0") : numF z lo hi = .non := by unfold numF; rw [if_pos (Or.inr (Or.inr (Or.inr ⟨h, h'⟩)))]
noncomputable def valS (z : Str) : Int := if Txt.startswith z "-" then -((valD (figs z) : Nat) : Int) else ((valD (figs z) : Nat) : Int)
theorem numF_val {z : Str} {lo hi : Int} (h1 : figs z ≠ []) (h2 : (figs z).length ≤ 10) (h3 : (figs z).all dig = true) (h4 : ¬ ((figs z).take 1 = [48] ∧ z ≠ Str.ofString "0")) :
   numF z lo hi = if lo ≤ valS z ∧ valS z ≤ hi then .int (valS z) else .non := by
 unfold numF
 rw [if_neg]
 · rfl
 · rintro (h | h | h | h)
   · exact h1 (List.eq_nil_of_length_eq_zero h)
   · omega
   · rw [h3] at h; cases h
   · exact h4 h
theorem valD_snoc (cs : List Nat) (c : Nat) : valD (cs ++ [c]) = valD cs * 10 + (c - 48) := by
 unfold valD; rw [List.foldl_append]; rfl
theorem take_snocN {l : List Nat} {i : Nat} {c : Nat} (h : l[i]? = some c) : l.take (i + 1) = l.take i ++ [c] := by
 rw [List.take_succ, h]; rfl
theorem getL {z : Str} {i c : Nat} (h : z.cps[i]? = some c) : z.cps.toList[i]? = some c := by rw [Array.getElem?_toList]; exact h
theorem take_all (z : Str) : z.cps.toList.take z.cps.size = z.cps.toList := List.take_of_length_le (Nat.le_of_eq Array.length_toList)
theorem intDigits {x : Str} (h : PySem.NumText.AllDigits x.cps.toList) (h1 : x.cps.toList ≠ []) (h2 : x.length ≤ 4300) : PySem.intText? x = some ((valD x.cps.toList : Nat) : Int) := by
 open PySem PySem.W PySem.NumText in exact intText_digits h h1 h2
theorem int_text {z : Str} (hz : z.length ≤ 600) (hne : figs z ≠ []) (hv : (figs z).all dig = true) : PySem.intText? z = some (valS z) := by
 have ha := all_dig hv
 unfold valS
 cases hs : Txt.startswith z "-" with
 | true =>
   have ht : z.cps.toList.take 1 = [45] := by
     have := starts_iff z
     rw [show Txt.startswith z (Str.ofString "-") = true from hs] at this
     exact of_decide_eq_true this.symm
   have hf : figs z = z.cps.toList.drop 1 := by unfold figs; rw [hs, if_pos rfl]
   have hx : z.cps.toList = 45 :: figs z := by
     have := List.take_append_drop 1 z.cps.toList
     rw [ht, ← hf] at this
     exact this.symm
   have := PySem.intText_neg hx ha hne (by omega)
   rw [if_pos rfl]
   exact this
 | false =>
   have hf : figs z = z.cps.toList := by unfold figs; rw [hs, if_neg (by decide)]
   rw [hf] at ha hne
   have := intDigits ha hne (by omega)
   rw [if_neg (by decide), hf]
   exact this
theorem num_end {z : Str} {lo hi : Int} {H : Hp} {Q : VK} (hne : figs z ≠ []) (hle : (figs z).length ≤ 10) (hv : (figs z).all dig = true) (hq : ¬ ((figs z).take 1 = [48] ∧ z ≠ Str.ofString "0")) (k : Q (numF z lo hi) H) :
   if decide (lo ≤ valS z) = true then if decide (valS z ≤ hi) = true then Q (V.int (valS z)) H else Q V.non H else Q V.non H := by
 rw [numF_val hne hle hv hq] at k
 refine ite2 (fun a => ite2 (fun b => ?_) (fun b => ?_)) (fun a => ?_)
 · rw [if_pos ⟨of_decide_eq_true a, of_decide_eq_true b⟩] at k
   exact k
 · have b : ¬ valS z ≤ hi := of_decide_eq_false (by simpa using b)
   rw [if_neg (fun q => b q.2)] at k
   exact k
 · have a : ¬ lo ≤ valS z := of_decide_eq_false (by simpa using a)
   rw [if_neg (fun q => a q.1)] at k
   exact k
theorem numF_int {z : Str} {lo hi : Int} (h : numF z lo hi ≠ .non) : ∃ n, numF z lo hi = .int n := by
 have e : numF z lo hi = if (figs z).length = 0 ∨ 10 < (figs z).length ∨ (figs z).all dig = false ∨ ((figs z).take 1 = [48] ∧ z ≠ Str.ofString "0") then .non
   else if lo ≤ valS z ∧ valS z ≤ hi then .int (valS z) else .non := rfl
 rw [e] at h ⊢
 by_cases c1 : (figs z).length = 0 ∨ 10 < (figs z).length ∨ (figs z).all dig = false ∨ ((figs z).take 1 = [48] ∧ z ≠ Str.ofString "0")
 · rw [if_pos c1] at h; exact absurd rfl h
 · rw [if_neg c1] at h ⊢
   by_cases c2 : lo ≤ valS z ∧ valS z ≤ hi
   · rw [if_pos c2]; exact ⟨_, rfl⟩
   · rw [if_neg c2] at h; exact absurd rfl h
theorem figs_pos {z : Str} (h : z.cps.toList.take 1 ≠ [45]) : figs z = z.cps.toList ∧ valS z = ((valD z.cps.toList : Nat) : Int) := by
 have e : Txt.startswith z "-" = false := by
   have := starts_iff z
   rw [decide_eq_false h] at this
   exact this
 have e1 : figs z = z.cps.toList := by unfold figs; rw [e, if_neg (by decide)]
 exact ⟨e1, by unfold valS; rw [e, if_neg (by decide), e1]⟩
theorem figs_neg {z : Str} {cs : List Nat} (h : z.cps.toList = 45 :: cs) : figs z = cs ∧ valS z = -((valD cs : Nat) : Int) := by
 have e : Txt.startswith z "-" = true := by
   have := starts_iff z
   rw [h] at this
   exact this
 have e1 : figs z = cs := by unfold figs; rw [e, if_pos rfl, h]; rfl
 exact ⟨e1, by unfold valS; rw [e, if_pos rfl, e1]⟩
noncomputable def dgs (m : Nat) : List Nat := (Nat.toDigits 10 m).map Char.toNat
theorem dgs_val (m : Nat) : valD (dgs m) = m := PySem.W.KIN.val_back m
theorem dgs_ne (m : Nat) : dgs m ≠ [] := fun e => Nat.toDigits_ne_nil (List.map_eq_nil_iff.mp e)
theorem dgs_rng {m c : Nat} (h : c ∈ dgs m) : 48 ≤ c ∧ c ≤ 57 := by
 obtain ⟨ch, hch, e⟩ := List.mem_map.mp h
 have r := digit_range (Nat.isDigit_of_mem_toDigits (by decide) (by decide) hch)
 rw [← e]
 exact r
theorem dgs_dig (m : Nat) : (dgs m).all dig = true := List.all_eq_true.mpr fun c hc => by rw [dig_iff]; exact decide_eq_true (dgs_rng hc)
theorem dgs_len {m : Nat} (h : m < 10 ^ 10) : (dgs m).length ≤ 10 := by
 unfold dgs
 rw [List.length_map]
 exact (Nat.length_toDigits_le_iff (b := 10) (k := 10) (by decide) (by decide)).mpr h
theorem dgs_first {m : Nat} (h : 0 < m) : (dgs m).take 1 ≠ [48] := by
 induction m using Nat.strongRecOn with
 | _ m ih =>
   by_cases h10 : m < 10
   · have : ∀ d : Nat, d < 10 → 0 < d → ([Nat.digitChar d].map Char.toNat).take 1 ≠ [48] := by decide
     unfold dgs
     rw [Nat.toDigits_of_lt_base h10]
     exact this m h10 h
   · have e : dgs m = dgs (m / 10) ++ [(Nat.digitChar (m % 10)).toNat] := by
       unfold dgs
       rw [Nat.toDigits_of_base_le (by decide) (by omega), List.map_append]
       rfl
     have q := ih (m / 10) (by omega) (by omega)
     rw [e, List.take_append_of_le_length (by have := List.length_pos_iff.mpr (dgs_ne (m / 10)); omega)]
     exact q
theorem sgn_pos (m : Nat) : (Str.ofString (toString (m : Int))).cps.toList = dgs m := PySem.W.KIN.signs_num m
theorem sgn_neg (m : Nat) : (Str.ofString (toString (Int.negSucc m))).cps.toList = 45 :: dgs (m + 1) := by
 rw [signsOf]
 show ("-" ++ Nat.repr (m + 1)).toList.map Char.toNat = _
 rw [String.toList_append, List.map_append, Nat.toList_repr]
 rfl
theorem numF_str {n lo hi : Int} (h1 : -9999999999 ≤ n) (h2 : n ≤ 9999999999) : numF (Str.ofString (toString n)) lo hi = if lo ≤ n ∧ n ≤ hi then .int n else .non := by
 cases n with
 | ofNat m =>
   have em : (Str.ofString (toString (Int.ofNat m))).cps.toList = dgs m := sgn_pos m
   have h2' : (m : Int) ≤ 9999999999 := h2
   have hm : m < 10 ^ 10 := by omega
   obtain ⟨e1, e2⟩ := figs_pos (z := Str.ofString (toString (Int.ofNat m))) (by
     rw [em]
     cases hd : dgs m with
     | nil => simp
     | cons c r =>
       intro e
       have : c = 45 := by simpa using e
       have := dgs_rng (m := m) (c := c) (by rw [hd]; exact List.mem_cons_self)
       omega)
   rw [em] at e1 e2
   rw [dgs_val] at e2
   rw [numF_val (by rw [e1]; exact dgs_ne m) (by rw [e1]; exact dgs_len hm) (by rw [e1]; exact dgs_dig m) (by
     rw [e1]
     rintro ⟨z1, z2⟩
     by_cases z : 0 < m
     · exact dgs_first z z1
     · have : m = 0 := by omega
       rw [this] at z2
       exact z2 rfl), e2]
   rfl
 | negSucc m =>
   have em := sgn_neg m
   have hm : m + 1 < 10 ^ 10 := by omega
   obtain ⟨e1, e2⟩ := figs_neg em
   rw [dgs_val] at e2
   have e3 : valS (Str.ofString (toString (Int.negSucc m))) = Int.negSucc m := by rw [e2]; rfl
   rw [numF_val (by rw [e1]; exact dgs_ne _) (by rw [e1]; exact dgs_len hm) (by rw [e1]; exact dgs_dig _) (by
     rw [e1]
     rintro ⟨z1, _⟩
     exact dgs_first (Nat.succ_pos m) z1), e3]
end L2
namespace L2
open PySem PySem.Spec PyProof.Rows
section
variable {M : Model} {A : Around} {E : Value → Shared → Prop} {s : Shared} {env : Env}
theorem callWith_typeKw {pos : Pos} {T : String} {first : List Value} {args : List (Bool × Sem Value)} {kws : List (Option Str × Sem Value)} {Q : Value → Shared → Prop}
   (hp : args.any (·.1) = false) (hk : kws.any (·.1.isNone) = false)
   (h : wpAny M A (evalArgs (.type T) true args kws) (fun a s₁ => wpAny M A (call (.type T) (first ++ a.pos) a.kw) Q E s₁) E s) :
   wpAny M A (callWith pos (.type T) first args kws) Q E s := by
 unfold callWith
 refine wpAny_bind (wpAny_holding (wpAny_mono h (fun a s₁ h₁ => wpAny_bind (wpAny_standAt ?_)) fun _ _ x => x))
 simp only [hp, hk, Bool.or_false]
 refine wpAny_bind (wpAny_pure ?_)
 exact wpAny_bind (wpAny_mono h₁ (fun r s₂ hr => wpAny_bind (wpAny_holding (wpAny_point (wpAny_pure hr)))) fun _ _ x => x)
end
section
variable {prog : Program} {w : World} {A : Around} {E : Value → Shared → Prop} {s : Shared}
theorem objInitKw {T newId : String} {self : Value} {rest : List Value} {kw : List (Str × Value)} (hl : typeLookup (.type T) "__init__" = pure (some (.builtin "object.__init__")))
   (hm : Bind.madeBy (.type T) = pure (some newId)) (hne : (some newId != some "object.__new__") = true) (a : Value) :
   Meets (Builtin.«object.__init__» ⟨self :: a :: rest, kw⟩) (fun _ R s => s.TypeIs self T ∧ R (.ok (.ret .none)) s) := by
 refine Meets.of_wp fun prog w A R s hs => ?_
 obtain ⟨hT, hq⟩ := hs
 repeat (any_goals (first | assumption | wp_step))
 exact ⟨_, rfl, hq⟩
theorem callType_newKw {T newId : String} {Bn : Builtin} {a : Value} {args : List Value} {kw : List (Str × Value)} {S : PySem.Spec} {Q : Value → Shared → Prop} (ft : TypeCalled T newId "object.__init__")
   (hne : (some newId != some "object.__new__") = true) (hct : checkTypeCall T ⟨a :: args, kw⟩ = pure ()) (hcn : checkBuiltinCall newId ⟨.type T :: a :: args, kw⟩ = pure ())
   (hok : ∀ obj, argsOk "object.__init__" ⟨obj :: a :: args, kw⟩) (entryN : entryFor table newId = some Bn) (g : Meets (Bn ⟨.type T :: a :: args, kw⟩) S)
   (h : S A.in1 (wants (fun obj s₁ => s₁.TypeIs obj T ∧ Q obj s₁) E) s) : wpAny (model prog w) A (call (.type T) (a :: args) kw) Q E s := by
 obtain ⟨c, tl, hmro⟩ := ft.mro
 have hmade := ft.made
 have hsub := ft.sub
 refine wpAny_call (codeAny_of_tree ?_)
 show wpAny _ _ (callAny (.type T) _) _ _ _
 refine wpAny_pure ⟨Code.quiet_builtin _ (by decide +kernel), codeAny_builtin F.entry_type_call ?_⟩
 rw [Around.under_plain (weight_type_call_type T (a :: args) kw) (units_type_call_type T (a :: args) kw)]
 have h1 := ft.notType
 have h2 := ft.canCreate
 repeat (any_goals (first | assumption | wp_step))
 refine codeAny_mono (codeAny_call_builtin ft.plain entryN (wpAny_of_eq hcn (g prog w A.in1 _ s h))) fun r s₁ hr => ?_
 cases r with
 | error e => exact hr
 | ok fl =>
   cases fl with
   | ret obj =>
     obtain ⟨hT, hq⟩ := hr
     have hli := ft.init.lookup
     have hbi := ft.init.bind obj
     repeat (any_goals (first | assumption | wp_step))
     refine codeAny_mono (codeAny_call_builtin ft.init.plain F.entry_object_init (ft.init.check _ _ _ _ _ _ _ _ hT (hok obj) ((objInitKw (kw := kw) (rest := args) ft.init.lookup ft.made hne a) prog w A.in1 (wants (fun r s₂ => r = .none ∧ Q obj s₂) E) s₁ ⟨hT, rfl, hq⟩))) fun r₂ s₂ hr₂ => ?_
     cases r₂ with
     | error e => exact hr₂
     | ok fl₂ =>
       cases fl₂ with
       | ret r =>
         obtain ⟨rfl, hq⟩ := hr₂
         repeat (any_goals (first | assumption | wp_step))
       | _ => exact hr₂.elim
   | _ => exact hr.elim
theorem typeCall_enumS (a b : Value) : checkTypeCall "enumerate" ⟨[a], [("start", b)]⟩ = pure () := by kernel_rfl
theorem newCall_enumS (a b : Value) : checkBuiltinCall "enumerate.__new__" ⟨[.type "enumerate", a], [("start", b)]⟩ = pure () := by kernel_rfl
theorem meets_enumS (l : Addr) (items : Array Value) (n : Nat) (dct : Option Addr) (sl : Array (Option Value)) (t : Tok) :
   Meets (Builtin.«enumerate.__new__» ⟨[.type "enumerate", .ref l], [("start", .int 1 t)]⟩) (fun _ R s => s.heap.get? l = some { cls := .type "list", dict := dct, data := .seq items n, slots := sl } ∧
     R (.ok (.ret (.ref (s.heap.push { cls := .type "list_iterator", data := .fields #[.ref l, .int 0 0] }).objs.size)))
       { s with heap := (s.heap.push { cls := .type "list_iterator", data := .fields #[.ref l, .int 0 0] }).push { cls := .type "enumerate", data := .fields #[.none, .bool false, .ref s.heap.objs.size, rawInt 1, .none, .none] } }) :=
 .of_wp fun prog w A R s h => by
   obtain ⟨hp, g, d, tk, os⟩ := s; obtain ⟨hl, h⟩ := h
   have hsub := sub_enumerate
   have hL : Heap.IsList (Shared.heap ⟨hp, g, d, tk, os⟩) l items := ⟨_, hl, rfl, n, rfl⟩
   wp_walk using AutoSeq1.wpAny_loadPart' hl
   refine wpAny_stack_any fun st => wpAny_pure ?_
   split
   · rename_i c _ _ _ _ _
     cases (c == Value.type "enumerate")
     · wp_walk using AutoSeq1.wpAny_loadPart' hl, wpAny_pyIter_list hL
       exact ⟨_, rfl, h⟩
     · wp_walk using AutoSeq1.wpAny_loadPart' hl, wpAny_pyIter_list hL
       exact ⟨_, rfl, h⟩
   · wp_walk using AutoSeq1.wpAny_loadPart' hl, wpAny_pyIter_list hL
     exact ⟨_, rfl, h⟩
end
end L2
namespace L2
open PySem PySem.Spec PyProof.Rows
section
variable {prog : Program} {w : World} {A : Around} {E : Value → Shared → Prop} {s : Shared}
theorem args_objInitS (a b c : Value) : argsOk "object.__init__" ⟨[a, b], [("start", c)]⟩ := by
 unfold argsOk; rw [signature?_of (id := "object.__init__") (n := ['_', '_', 't', 'i', 'n', 'i', '_', '_']) (o := ['t', 'c', 'e', 'j', 'b', 'o']) (by kernel_rfl) F.owner_object]; kernel_rfl
theorem call_enumS {l : Addr} {items : Array Value} {t : Tok} {Q : Value → Shared → Prop} (hL : s.heap.IsList l items)
   (h : ∀ h', IsEnum h' (s.heap.objs.size + 1) s.heap.objs.size 1 .none → h'.IsListIter s.heap.objs.size l 0 → (∀ b o, s.heap.get? b = some o → h'.get? b = some o) → Q (.ref (s.heap.objs.size + 1)) { s with heap := h' }) :
   wpAny (model prog w) A (call (.type "enumerate") [.ref l] [("start", .int 1 t)]) Q E s := by
 obtain ⟨⟨c, dct, dt, sl⟩, hl, hc, n, hd⟩ := hL
 replace hc : c = .type "list" := hc
 replace hd : dt = .seq items n := hd
 subst hc hd
 refine callType_newKw F.called_enumerate (by decide) (typeCall_enumS _ _) (newCall_enumS _ _) (fun obj => args_objInitS obj _ _) F.entry_enumerate_new (meets_enumS l items n dct sl t) ⟨hl, ?_⟩
 have hz : (s.heap.push { cls := .type "list_iterator", data := .fields #[.ref l, .int 0 0] }).objs.size = s.heap.objs.size + 1 := Heap.size_push ..
 show _ ∧ _
 rw [hz]
 have he : IsEnum ((s.heap.push { cls := .type "list_iterator", data := .fields #[.ref l, .int 0 0] }).push
     { cls := .type "enumerate", data := .fields #[.none, .bool false, .ref s.heap.objs.size, rawInt 1, .none, .none] }) (s.heap.objs.size + 1) s.heap.objs.size 1 .none := by
   have := Heap.get?_push_size (s.heap.push { cls := .type "list_iterator", data := .fields #[.ref l, .int 0 0] })
     (o := { cls := .type "enumerate", data := .fields #[.none, .bool false, .ref s.heap.objs.size, rawInt 1, .none, .none] }) rfl
   rw [hz] at this; exact this
 exact ⟨⟨_, he, rfl⟩, h _ he ⟨_, Heap.get?_push_of_some _ (Heap.get?_push_size _ rfl), rfl, rfl⟩ fun b o x => Heap.get?_push_of_some _ (Heap.get?_push_of_some _ x)⟩
theorem draws_shift {it : Addr} {fp : List Addr} {n : Nat} {Pv : Nat → Value → Prop} {St : Nat → Heap → Prop} (D : Draws prog w A it fp n Pv St) :
   Draws prog w A it fp (n + 1) (fun k x => ∃ j, k = j + 1 ∧ Pv j x) (fun k h => ∃ j, k = j + 1 ∧ St j h) where
 live := fun i h ⟨j, _, st⟩ => D.live j h st
 frame := fun i h h' ⟨j, e, st⟩ k => ⟨j, e, D.frame j h h' st k⟩
 item := fun i s Q E hi ⟨j, e, st⟩ k => by
   subst e
   exact D.item j s Q E (by omega) st fun x h' tk p st' sb => k x h' tk ⟨j, rfl, p⟩ ⟨j + 1, rfl, st'⟩ sb
 done := fun s Q E ⟨j, e, st⟩ k => by
   have e : n = j := by omega
   subst e
   exact D.done s Q E st k
end
section
variable {prog : Program} {w : World} {A : Around} {E : Value → Shared → Prop} {s : Shared}
theorem wpAny_pyNext_enumS_end {e it l : Addr} {i : Nat} {k : Int} {items : Array Value} {old : Value} {Q : Option Value → Shared → Prop} (hh : A.handled = none)
   (he : IsEnum s.heap e it k old) (hit : s.heap.IsListIter it l i) (hl : s.heap.IsList l items) (hx : items[i]? = none)
   (hQ : ∀ h', Heap.ExtBut it s.heap h' → Q none { s with heap := h' }) : wpAny (model prog w) A (pyNext (.ref e)) Q E s := by
 have hT : s.TypeIs (.ref e) "enumerate" := ⟨_, he, rfl⟩
 unfold pyNext
 refine wpAny_bind (wpAny_attempt (wpAny_callSpecial?_slot (name := Str.ofString "__next__") hT F.slot_enumerate_next
   (wpAny_call_entry F.slot_enumerate_next hT F.entry_enumerate_next ?_ (F.args_enumerate_next_1 _))))
 show wpAny _ _ (field (.ref e) 2 >>= _) _ _ _
 refine wpAny_bind (wpAny_field he rfl (x := .ref it) rfl ?_)
 refine wpAny_bind (wpAny_nextOf_list_end hh hit hl hx fun h' x he' hx' => ?_)
 obtain ⟨o, ho, hc⟩ := hx'
 refine wpAny_bind (wpAny_isInstance (T := "StopIteration") (b := true) ⟨o, ho, hc⟩ isSubtype_stop ?_)
 exact wpAny_pure (hQ _ he')
end
noncomputable def Ite1 (K : PySem.W.Frag) (a : Addr) : It :=
 ⟨fun i H => ∃ xs x, SqL K H a xs ∧ xs[i]? = some x,
  fun i H v H' => ∃ q x, v = .ref q ∧ H q = none ∧ (∀ xs, SqL K H a xs → xs[i]? = some x) ∧ H' = upd H q (.tup [.int ((i + 1 : Nat) : Int), x]),
  fun i H => ∃ xs, SqL K H a xs ∧ xs.length ≤ i⟩
def Te1 (e it l : Addr) (i : Nat) (h : Heap) : Prop := (∃ old, IsEnum h e it ((i + 1 : Nat) : Int) old) ∧ h.IsListIter it l i
theorem turn_enum1 {P : Program} {w : World} {K : PySem.W.Frag} {elts : List Expr} {x1} {pos : Pos} {e it : Addr} (l : Addr) (f : e ≠ it) : Turn P w K (.Tuple elts x1 pos) (Ite1 K l) [e, it] e (Te1 e it l) where
 mem := by simp
 obj := fun i h st b hb => by
   obtain ⟨⟨old, t1⟩, ⟨o4, t4, c4, d4⟩⟩ := st
   simp only [List.mem_cons, List.not_mem_nil, or_false] at hb
   rcases hb with rfl | rfl
   · exact ⟨_, t1, fun v q => by cases q⟩
   · exact ⟨_, t4, fun v q => by rw [d4] at q; cases q⟩
 keep := fun i h h' st k => by
   obtain ⟨⟨old, t1⟩, t4⟩ := st
   exact ⟨⟨old, k e (by simp) _ t1⟩, t4.at fun o q => k it (by simp) o q⟩
 item := by
   intro X hP hw hK hc i pins s σ H E I hf st hg
   subst hP hw hK
   obtain ⟨xs, x, q1, hx⟩ := hg
   obtain ⟨its1, rv1, p1, _⟩ := I.list q1
   obtain ⟨u, hu, ru⟩ := rv1.get hx
   obtain ⟨⟨old, t1⟩, t4⟩ := id st
   have lt : ∀ b ∈ [e, it], b < s.heap.objs.size := fun b hb => by
     simp only [List.mem_cons, List.not_mem_nil, or_false] at hb
     rcases hb with rfl | rfl
     · exact Heap.lt_size t1
     · obtain ⟨_, q, _⟩ := t4; exact Heap.lt_size q
   have nl : l ≠ it := by
     rintro rfl
     obtain ⟨o, a1, a2, _⟩ := p1.isList
     obtain ⟨o', b1, b2, _⟩ := t4
     rw [a1] at b1; cases b1; rw [a2] at b2; exact absurd (Value.type.inj b2) (by decide)
   have ne : e ≠ l := by
     rintro rfl
     obtain ⟨o, a1, a2, _⟩ := p1.isList
     rw [show s.heap.get? e = _ from t1] at a1; cases a1; exact absurd (Value.type.inj a2) (by decide)
   have D := draws_shift (Draws.list (prog := X.prog) (w := X.w) (A := X.A.in1) (I.ok.hd hc) it l nl its1.toArray)
   refine wpAny_pyNext_enum_itemD D t1 ⟨i, rfl, t4, p1.isList⟩ (by have := (List.getElem?_eq_some_iff.mp hu).1; simp; omega) f (by simp [f, ne]) fun x' h' tk hP z' i1' pr sz kp => ?_
   obtain ⟨j, ej, hP⟩ := hP
   have ej : i = j := by omega
   subst ej
   obtain ⟨j2, ej2, i1', _⟩ := i1'
   have ej2 : i + 1 = j2 := by omega
   subst ej2
   have ex : x' = u := by
     have : its1.toArray[i]? = some u := by simpa using hu
     rw [this] at hP; exact (Option.some.inj hP).symm
   subst ex
   refine ⟨.ref s.heap.objs.size, rfl, ?_⟩
   refine wpAny_letOwnedTupleGo_enum z' fun h'' z'' sb => ?_
   have nz : s.heap.objs.size ≠ e := Nat.ne_of_gt (lt e (by simp))
   have kk : ∀ b o, b ∉ [e, it] → s.heap.get? b = some o → h''.get? b = some o := fun b o nb q => by
     simp only [List.mem_cons, List.not_mem_nil, or_false, not_or] at nb
     exact (sb.2 b nb.1).trans (kp b o nb.1 nb.2 q)
   have new : IsTup h'' s.heap.objs.size #[.int ((i + 1 : Nat) : Int) tk, x'] := ⟨_, (sb.2 _ nz).trans pr, rfl, 0, rfl⟩
   refine ⟨.ref s.heap.objs.size, _, I.turnedT (q := s.heap.objs.size) (xs := [.int ((i + 1 : Nat) : Int), x]) (t' := tk + 1) kk hf (Nat.le_refl _) ⟨by rw [sizeLine_eq]; exact (by decide : (2 : Nat) ≤ 16777216), [_, x'], .cons ⟨_, rfl⟩ (.cons ru .nil), new⟩, rfl, ⟨_, x, rfl, I.hok.fresh (Nat.le_refl _), fun zs hz => by rw [I.list_inj hz q1]; exact hx, rfl⟩, ?_, fun b hb => ?_⟩
   · exact ⟨⟨_, by have : ((i + 1 + 1 : Nat) : Int) = ((i + 1 : Nat) : Int) + 1 := by push_cast; rfl
                   rw [this]; exact z''⟩, i1'.at fun o q => (sb.2 _ (Ne.symm f)).trans q⟩
   · rw [upd_ne (Nat.ne_of_lt (lt b hb))]; exact (hf b hb).1
 done := by
   intro X hP hw hK hc i pins s σ H E I hf st hg
   subst hP hw hK
   obtain ⟨xs, q1, hx⟩ := hg
   obtain ⟨its1, rv1, p1, _⟩ := I.list q1
   obtain ⟨⟨old, t1⟩, t4⟩ := id st
   have e1 := rv1.length
   refine wpAny_pyNext_enumS_end (I.ok.hd hc) t1 t4 p1.isList (by simp; omega) fun h' kp => ⟨rfl, I.turnedL (t' := s.toks) (fun b o nb q => ?_) hf⟩
   simp only [List.mem_cons, List.not_mem_nil, or_false, not_or] at nb
   exact kp b o nb.2 q
 self := fun _ _ _ _ _ st h => by
   obtain ⟨⟨old, t1⟩, _⟩ := st
   exact wpAny_pyIter_enum t1 h
section
variable {X : Cx}
def iEnum1 (K : PySem.W.Frag) (ta : TA) : TI := fun σ H R => ta σ H fun vs H1 => ∃ a xs, vs = [.ref a] ∧ SqL K H1 a xs ∧ R (Ite1 K a) H1
theorem pi_enum1 {K : PySem.W.Frag} (eK : X.K = K) {elts : List Expr} {x1} {tp : Pos} {a : Expr} {ta : TA} {p pos kp cp : Pos} {j} (hg : Gl X "enumerate") (hm : X.mg "enumerate" = none) (ha : PA X [a] ta) (hs : starEach [a] X.env = [(false, eval a X.env)] := by rfl) :
   PI X (.Tuple elts x1 tp) (.Call (.Name "enumerate" p) [a] [⟨some "start", .Constant (.int 1) j cp, kp⟩] pos) (iEnum1 K ta) := by
 subst eK
 intro pins s σ H R I h
 refine wpAny_Call_Name_kw (ld_blt I hg hm boot_enumerate (callWith_typeKw (by rw [hs]; rfl) rfl ?_))
 have key := ha pos pins s σ H _ I h
 rw [hs] at key ⊢
 refine evalArgs_kwB (rest := []) rfl (thn key fun us s1 q0 => ?_)
 obtain ⟨vs, H1, I1, r1, q1⟩ := q0
 obtain ⟨l1, xs, e, h1, q⟩ := q1
 subst e
 cases r1 with
 | cons r rr =>
   cases rr
   cases r
   refine kws_cons (wpAny_Constant_int (kws_nil ?_))
   obtain ⟨its1, rv1, p1, _⟩ := I1.list h1
   refine call_enumS p1.isList fun h' z j1 kp => ?_
   have I2 := I1.kept (h' := h') (t' := s1.toks + 1) kp
   refine wpAny_pyIter_enum z ?_
   refine ⟨_, _, _, _, H1, rfl, I2, turn_enum1 l1 (Nat.succ_ne_self _), ⟨⟨_, z⟩, j1⟩, fun b hb => ?_, q⟩
   have lb : s1.heap.objs.size ≤ b := by
     simp only [List.mem_cons, List.not_mem_nil, or_false] at hb
     rcases hb with rfl | rfl
     · exact Nat.le_add_right _ 1
     · exact Nat.le_refl _
   exact I1.fpOk lb (I1.hok.fresh lb)
end
noncomputable def ForE1 (K : PySem.W.Frag) (g : TG) (tb : TS) (D : Ends) (σ : St) : List V → Hp → Prop := fun vs H1 => ∃ a xs, vs = [.ref a] ∧ SqL K H1 a xs ∧ ForW g tb D σ (Ite1 K a) H1
section
variable {K : PySem.W.Frag} {te : TE} {ta : TA} {g : TG} {tb : TS} {D : Ends} {σ : St} {H : Hp}
theorem tFor_enum1 : tFor (iEnum1 K ta) g tb D σ H = ta σ H (ForE1 K g tb D σ) := rfl
theorem ForE1.of {a : Addr} {xs : List V} (Pv : Nat → St → Hp → Prop) (h0 : Pv 0 σ H) (hl : ∀ i σ H, i ≤ xs.length → Pv i σ H → SqL K H a xs)
   (hs : ∀ i x σ H q, xs[i]? = some x → Pv i σ H → H q = none → g (.ref q) σ (upd H q (.tup [.int ((i + 1 : Nat) : Int), x])) fun σ2 H2 => tb { D with nx := Pv (i + 1), ct := Pv (i + 1), bk := D.nx } σ2 H2) (hd : ∀ σ H, Pv xs.length σ H → D.nx σ H) : ForE1 K g tb D σ [.ref a] H := by
 refine ⟨a, xs, rfl, hl 0 _ _ (Nat.zero_le _) h0, fun i m σ H => m = xs.length - i ∧ i ≤ xs.length ∧ Pv i σ H, ⟨xs.length, by simp, Nat.zero_le _, h0⟩, ?_⟩
 rintro i m σ H ⟨rfl, hi, p⟩
 have q := hl i σ H hi p
 by_cases hlt : i < xs.length
 · refine .inr ⟨⟨xs, xs[i], q, by simp [hlt]⟩, Pv (i + 1), fun σ' H' p' => ⟨xs.length - (i + 1), by omega, rfl, hlt, p'⟩, fun x H' y => ?_⟩
   obtain ⟨b, u, rfl, nb, y, rfl⟩ := y
   exact hs i u σ H b (y xs q) p nb
 · have e : i = xs.length := by omega
   subst e
   exact .inl ⟨⟨xs, q, Nat.le_refl _⟩, hd σ H p⟩
end
end L2
namespace L2
open PySem PySem.Spec PyProof.Rows
noncomputable def strE (w : World) (e : Str × Tok × Value) : DictEntry := ⟨hashStr w e.1, .str e.1 e.2.1, e.2.2⟩
def KDict (w : World) (K : PySem.W.Frag) (a : Addr) (kvs : List (Key × V)) : Prop :=
 (a == sysModules) = false ∧ ∃ (es : List (Str × Tok × Value)) (ep : Nat), K.lookup a = some ⟨.type "dict", none, .dict (es.map (strE w)).toArray ep, #[]⟩ ∧ (es.map (·.1)).Nodup ∧
   KV kvs (es.map fun e => ((Sum.inr e.1 : Key), e.2.2))
theorem pairs_str (P : Program) (w : World) : ∀ es : List (Str × Tok × Value), Pairs (mixKind P w) (es.map (strE w)) (es.map fun e => ((Sum.inr e.1 : Key), e.2.2))
 | [] => .nil
 | e :: r => .cons (keyIs_str e.1 e.2.1) rfl (pairs_str P w r)
theorem KDict.dict {X : Cx} {pins : List (Addr × Obj)} {σ : St} {H : Hp} {s : Shared} {a : Addr} {kvs : List (Key × V)} (I : Inv X pins σ H s) (h : KDict X.w X.K a kvs) :
   ∃ vs, KV kvs vs ∧ s.heap.DictOf (mixKind X.prog X.w) a vs := by
 obtain ⟨_, es, ep, hk, nd, rel⟩ := h
 refine ⟨_, rel, _, _, _, I.kIn a _ hk, ⟨rfl, rfl, rfl⟩, rfl, fun e he => ?_, ?_, ?_⟩
 · obtain ⟨q, hq, rfl⟩ := List.mem_map.mp (Array.mem_toList_iff.mpr he)
   exact ⟨.inr q.1, keyIs_str q.1 q.2.1, rfl⟩
 · exact pairs_str _ _ es
 · rw [List.map_map]
   have := List.Pairwise.map (S := fun x y : Key => x ≠ y) (fun x : Str => (Sum.inr x : Key)) (fun x y z => fun q => z (Sum.inr.inj q)) nd
   rw [List.map_map] at this
   exact this
section
variable {X : Cx} {o e : Expr} {ty : TE} {a : Addr} {kvs : List (Key × V)} {apos cpos : Pos}
def tKGet (kvs : List (Key × V)) (ty : TE) : TE := fun σ H Q => ty σ H fun y H2 => ∃ k, y = kV k ∧ Q ((valV kvs k).getD .non) H2
theorem pe_kget (ho : PE X o (tC (.ref a))) (hk : KDict X.w X.K a kvs) (he : PE X e ty) (m : M1 X o "get" apos e cpos) : PE X (.Call (.Attribute o "get" apos) [e] [] cpos) (tKGet kvs ty) := by
 intro pins s σ H Q I h
 refine wpAny_Call_method m.base m.few m.line PySem.F.plainAttrs_dict PySem.F.slot_dict_get PySem.F.type_dict_get (thn (ho pins s σ H (fun v H' => v = .ref a ∧ H' = H) I ⟨rfl, rfl⟩) fun u s1 q0 => ?_)
 obtain ⟨x, H1, I1, rx, rfl, rfl⟩ := q0
 obtain rfl : u = Value.ref a := rx
 obtain ⟨vs, rel, dd⟩ := hk.dict I1
 refine ⟨dd.typeIs, fun b q => ?_, ?_⟩
 · cases q
   obtain ⟨ob, _, _, h1, h2, _⟩ := dd
   exact ⟨ob, h1, h2.2.1⟩
 rw [m.trees]
 refine Calls.callWith_builtin rfl (Calls.evalArgs_plain (Calls.spliced_cons (thn (he pins s1 σ _ _ I1 h) fun iv s2 q0 => Calls.spliced_nil ?_)))
 obtain ⟨y, H2, I2, ry, k, rfl, q2⟩ := q0
 obtain ⟨vs, rel, dd⟩ := hk.dict I2
 refine call_meetsIn PySem.F.slot_dict_get dd.typeIs PySem.F.entry_dict_get (PySem.F.args_dict_get_2 _ _) (meets_dict_get (mixKind X.prog X.w) a (kV_is ry) hk.1) ⟨_, dd.mapOf, ⟨_, H2, I2.tok _, ?_, q2⟩⟩
 exact (rel.val k).getD rfl
end
section
variable {K : PySem.W.Frag} {te : TE} {g : TG} {tt : TT} {σ0 : St} {H1 : Hp} {Q : VK}
end
end L2
namespace L2
open PySem PySem.Spec PyProof.Rows
section
variable {M : Model} {A : Around} {E : Value → Shared → Prop} {s : Shared}
theorem flight_setL {e T L : Addr} {cls : Value} {dx : Option Addr} {fl : Value} {Q : Unit → Shared → Prop} (hx : ExcIs s.heap e cls dx fl T)
   (h : ∀ h', (∀ b o, b ≠ T → s.heap.get? b = some o → h'.get? b = some o) → (∃ o, h'.get? T = some o) → ExcIs h' e cls dx (rawInt L) T → Q () { s with heap := h' }) : wpAny M A (setFlight (.ref e) (some L)) Q E s := by
 obtain ⟨oe, vs, oT, ts, he, hc, hdx, hd, h1, hTe, hT, hdT, h3⟩ := hx
 unfold setFlight
 refine wpAny_bind (wpAny_field he hd h1 ?_)
 rw [if_pos (show (Value.ref T != Value.none) = true from by simp)]
 have hs := (Array.getElem?_eq_some_iff.mp h3).1
 refine wpAny_setField hT hdT hs (h _ (fun b o hb hbo => ?_) ?_ ?_)
 · rw [Heap.get?_update_other _ _ (Ne.symm hb)]; exact hbo
 · exact ⟨_, Heap.get?_update_self _ hT (Obj.isFreed_of_fields (Obj.data_mapFields hdT _))⟩
 · refine ⟨oe, vs, _, _, ?_, hc, hdx, hd, h1, hTe, Heap.get?_update_self _ hT (Obj.isFreed_of_fields (Obj.data_mapFields hdT _)), Obj.data_mapFields hdT _, ?_⟩
   · rw [Heap.get?_update_other _ _ hTe]; exact he
   · simp [hs]
end
noncomputable def EXL (X : Cx) (E : XK) : Value → Shared → Prop := fun e s' => ∃ (pins : List (Addr × Obj)) (σ : St) (H : Hp) (a : Addr) (cls : Value) (dx : Option Addr), e = .ref a ∧ Inv X pins σ H s' ∧ ExcAt X H s'.heap a cls dx ∧ E cls dx H
theorem xe_wish {X : Cx} {E : XK} : Xe (X.wish (EXL X E)) E := fun pins σ H s a cls dx I hx hE => ⟨pins, σ, H, a, cls, dx, rfl, I.unwish, hx, hE⟩
def PassL (X : Cx) (E : XK) : Prop := ∀ e s', EXL X E e s' → notedBy (model X.prog X.w) X.A X.env (cameBackBy (model X.prog X.w) X.A X.env X.xe) e s'
theorem passL_cx {P : Program} {w : World} {K : PySem.W.Frag} {mg : Str → Option Value} {base : Heap} {N : List Str} {qual : Str} {scope : Scope} {f : Addr} {cd : Value} {A : Around} {outer : List Env} {s₀ : Shared} {H₀ : Hp} {E₀ : XK} :
   PassL (cxOf (CXE P w) P w K mg base N qual scope f cd A outer s₀ H₀ E₀) E₀ := by
 rintro e s ⟨pins, σ, H, a, cls, dx, rfl, I, ⟨ha, hHa, hx⟩, hE⟩
 have hfr : (envOfC qual scope s₀.heap.objs.size f cd).frame = some s₀.heap.objs.size := rfl
 have fin : ∀ (T0 : Addr) (h' : Heap), s₀.heap.get? T0 = none → H T0 = none → LeftX (frs (envOfC qual scope s₀.heap.objs.size f cd :: outer)) a T0 cls dx .none s.heap h' → CXE P w outer H₀ s₀ E₀ (.ref a) { s with heap := h' } := by
   intro T0 h' hT0 hHT0 x
   obtain ⟨T, hT, y⟩ := x.exc
   have hTn : s₀.heap.get? T = none := by
     cases q : s₀.heap.get? T with
     | none => rfl
     | some o => exact absurd (Nat.lt_of_lt_of_le (Heap.lt_size q) (Nat.le_trans I.sz hT)) (Nat.lt_irrefl _)
   refine ⟨a, T, cls, dx, H, rfl, I.os, I.bare, Un.left I rfl rfl rfl ha hT0 x, ?_, ha, hTn, hHa, I.hok.fresh hT, y, hE⟩
   refine I.hok.tracked fun b o u hb q => x.keep b o (fun z => ?_) (fun z => by rw [z, hHa] at hb; cases hb) (fun z => by rw [z, hHT0] at hb; cases hb) q
   have := I.stkFree b z
   rw [this] at hb; cases hb
 have back : ∀ (T0 : Addr) (h1 : Heap), s₀.heap.get? T0 = none → H T0 = none → LeftX (frs (envOfC qual scope s₀.heap.objs.size f cd :: outer)) a T0 cls dx (rawInt s₀.heap.objs.size) s.heap h1 →
     cameBackBy (model P w) (A.deeper (envOfC qual scope s₀.heap.objs.size f cd)) (envOfC qual scope s₀.heap.objs.size f cd) (cxOf (CXE P w) P w K mg base N qual scope f cd A outer s₀ H₀ E₀).xe (.ref a) { s with heap := h1 } := by
   intro T0 h1 hT0 hHT0 x
   obtain ⟨T, hT, y⟩ := x.exc
   unfold cameBackBy
   obtain ⟨oe, vs, oT, ts, he, hc, hdx, hd, hv1, hTe, hT', hdT, h3⟩ := id y
   refine wpAny_bind (wpAny_field (s := { s with heap := h1 }) he hd hv1 ?_)
   rw [if_neg (by simp)]
   refine flight_setL (s := { s with heap := h1 }) y fun h2 k hT2 y2 => ?_
   show wpAny _ _ (leaving (envOfC qual scope s₀.heap.objs.size f cd) (.ref a)) _ _ _
   unfold leaving
   refine wpAny_bind (note_again (s := { s with heap := h2 }) hfr y2 (flight_off (s := { s with heap := h2 }) y2 fun h3 k3 hT3 y3 => ?_))
   exact fin T0 h3 hT0 hHT0 (x.off hT (fun b o hb e => k3 b o hb (k b o hb e)) hT3 y3)
 rcases hx with hx | ⟨T0, hT0, hHT0, hx⟩
 · exact note_new (base := base) I.ok.frames I.stack hfr hx fun h' x => back a h' ha hHa x
 · exact note_next (base := base) I.ok.frames I.stack hfr hx fun h' x => back T0 h' hT0 hHT0 x
section
variable {X : Cx} {tg : Expr} {E : XK}
theorem ps_forX {iter : Expr} {body : List Stmt} {wi : TI} {g : TG} {tb : TS} {pos : Pos} (hp : PassL X E) (hc : X.calm = true) (hi : PI X tg iter wi) (hg : PG X.nox tg g) (hb : PSs (X.wish (EXL X E)) body tb)
   (hs : ∀ x, foldedSetIterable iter X.env x = pure x := by intro _; rfl) : PS X (.For tg iter body [] pos) (tFor wi g tb) := by
 intro pins s σ H D I h
 have ff : ∀ {α : Type} {m : Sem α} {Q Q' : α → Shared → Prop} {F : Value → Shared → Prop} {s : Shared}, wpAny (model X.prog X.w) X.A m Q (fun _ _ => False) s → (∀ a s', Q a s' → Q' a s') → wpAny (model X.prog X.w) X.A m Q' F s := fun h k => wpAny_mono h k fun _ _ z => z.elim
 refine wpAny_For (thn (hi pins s σ H _ I h) fun v s1 h1 => thn h1 fun itv s2 h2 => ?_) hs
 obtain ⟨it, fp, tn, J, H2, e, I2, T, st2, f2, W, ⟨m0, w0⟩, turn⟩ := h2
 subst e
 have stat : ∀ {H' : Hp}, (∀ b ∈ fp, H' b = none) → ∀ b ∈ fp, FpOk X pins H' b := fun hn b hb => ⟨hn b hb, (f2 b hb).2⟩
 refine codeAny_forLoop_any (fun n s' => ∃ i σ' H', Inv X pins σ' H' s' ∧ tn i s'.heap ∧ (∀ b ∈ fp, H' b = none) ∧ W i n σ' H') ?_ m0 ⟨0, σ, H2, I2, st2, fun b hb => (f2 b hb).1, w0⟩
 rintro n s3 ⟨i, σ3, H3, I3, st3, fr3, w3⟩
 rcases turn i n σ3 H3 w3 with ⟨stop, qn⟩ | ⟨go, N, hN, step⟩
 · refine ff (T.done X rfl rfl rfl hc i pins s3 σ3 H3 (fun _ _ => False) I3 (stat fr3) st3 stop) fun r s4 ⟨hr, I4⟩ => ?_
   subst hr
   exact wpAny_execs_nil ⟨σ3, H3, I4, qn⟩
 · refine ff (T.item X rfl rfl rfl hc i pins s3 σ3 H3 (fun _ _ => False) I3 (stat fr3) st3 go) fun r s4 ⟨u, hr, h4⟩ => ?_
   subst hr
   refine ff h4 fun _ s5 ⟨x, H5, I5, r5, y5, st5, fr5⟩ => ?_
   have I5' := I5.pinned (stat fr5) (T.obj _ _ st5)
   refine ff (hg _ s5 σ3 H5 x u _ (I5'.wish _) r5 (step x H5 y5)) fun _ s6 ⟨σ6, H6, I6, q6⟩ => ?_
   refine wpAny_mono (hb _ s6 σ6 H6 _ (I6.unwish.wish _) q6) (fun f s7 q7 => ?_) fun e s' z => hp e s' z
   have q7 := q7.unwish
   have again : ∀ {σ7 : St} {H7 : Hp}, Inv X (pins ++ pinsAt fp s5.heap) σ7 H7 s7 → N σ7 H7 → ∃ m, m < n ∧ ∃ i σ' H', Inv X pins σ' H' s7 ∧ tn i s7.heap ∧ (∀ b ∈ fp, H' b = none) ∧ W i m σ' H' := fun {σ7 H7} I7 n7 => by
     obtain ⟨m', hm, w7⟩ := hN σ7 H7 n7
     refine ⟨m', hm, i + 1, σ7, H7, I7.unpinned, T.keep _ _ _ st5 fun b hb o e => (I7.pin (b, o) (List.mem_append_right _ (List.mem_append_right _ (mem_pinsAt hb e)))).1, fun b hb => ?_, w7⟩
     obtain ⟨o, e, d⟩ := T.obj _ _ st5 b hb
     exact (I7.pin (b, o) (List.mem_append_right _ (List.mem_append_right _ (mem_pinsAt hb e)))).2.1
   cases f with
   | next => obtain ⟨σ7, H7, I7, n7⟩ := q7; exact again I7 n7
   | cont => obtain ⟨σ7, H7, I7, n7⟩ := q7; exact again I7 n7
   | brk => obtain ⟨σ7, H7, I7, q7⟩ := q7; exact ⟨σ7, H7, I7.unpinned, q7⟩
   | ret v => obtain ⟨x7, σ7, H7, I7, r7, q7⟩ := q7; exact ⟨x7, σ7, H7, I7.unpinned, r7, q7⟩
end
end L2
set_option maxHeartbeats 0
set_option pp.deepTerms true
set_option pp.maxSteps 100000
namespace My
open PySem PySem.Spec PyProof.Rows L2
set_option hygiene false in
local macro_rules | `(tactic| walk_at "0") => `(tactic| have lb : (Str.ofString " ").length = 1 := by decide +kernel)
set_option hygiene false in
local macro_rules | `(tactic| walk_at "1") => `(tactic| have hst : R.st = .int q.1 := by have := congrArg Prod.fst hR.st; unfold stV at this; rw [hq] at this; exact this)
set_option hygiene false in
local macro_rules | `(tactic| walk_at "2") => `(tactic| have hsz : R.sz = .int q.2.1 := by have := congrArg (fun z => z.2.1) hR.st; unfold stV at this; rw [hq] at this; exact this)
set_option hygiene false in
local macro_rules | `(tactic| walk_at "3") => `(tactic| rw [show putF (Str.ofString "behind_word") (V.bl false) R.fs = Rdg.fs { R with bw := false } from rfl])
set_option hygiene false in
local macro_rules | `(tactic| walk_at "4") => `(tactic| have sz : ∀ m : Nat, m ≤ 2000 → m ≤ sizeLine := fun m h => by rw [sizeLine_eq]; omega)
set_option hygiene false in
local macro_rules | `(tactic| walk_at "5") => `(tactic| rintro D σ H ⟨H0, n, far, p, zs, rfl, f0, f1, hp, hne, hl, ho, sm, k⟩)
set_option hygiene false in
local macro_rules | `(tactic| walk_at "6") => `(tactic| have w1 : (Str.ofString "part ").length = 5 := by decide +kernel)
set_option hygiene false in
local macro_rules | `(tactic| walk_at "7") => `(tactic| obtain ⟨v, e, hv⟩ := atI_ex (xs := zs.map V.str) (i := n % (zs.length : Int)) (by rw [List.length_map]; omega) (by rw [List.length_map]; omega))
set_option hygiene false in
local macro_rules | `(tactic| walk_at "8") => `(tactic| rintro D σ H ⟨H0, n, sz', far, p, zs, rfl, z0, z1, f0, f1, hp, hne, hl, ho, sm, k⟩)
set_option hygiene false in
local macro_rules | `(tactic| walk_at "9") => `(tactic| obtain ⟨i, rfl⟩ := Int.eq_ofNat_of_zero_le a0)
set_option hygiene false in
local macro_rules | `(tactic| walk_at "10") => `(tactic| have hi : i ≤ rows.length := by omega)
set_option hygiene false in
local macro_rules | `(tactic| walk_at "11") => `(tactic| rintro D σ H ⟨H0, p, rows, W, S, way, at_, n, lr, rfl, hp, hR, a0, a1, n0, n1, hl, h7, sm, k⟩)
set_option hygiene false in
local macro_rules | `(tactic| walk_at "12") => `(tactic| have ml : (rows.map fun r => V.str (rowT r)).length ≤ 123 := by rw [List.length_map]; exact rl)
set_option hygiene false in
local macro_rules | `(tactic| walk_at "13") => `(tactic| have go : oS false D [some (V.ref p), some (V.int W.sz), some (V.int way), some (V.int i), some (V.int n), some (V.str (rowT (Row.lean lr n))), some (V.int (runR rows (i : Int).toNat).e)] H := ⟨H0, p, rows, W, S, way, i, n, lr, rfl, hp, hR, a0, a1, n0, n1, hl, (fun z => by cases z), sm, k⟩)
set_option hygiene false in
local macro_rules | `(tactic| walk_at "14") => `(tactic| rw [show (i : Int).toNat = i from rfl] at go)
set_option hygiene false in
local macro_rules | `(tactic| walk_at "15") => `(tactic| have sz4 : 0 ≤ W.sz ∧ W.sz ≤ 4294967295 := ((hR.inv rows.length (Nat.le_refl _)).le _ (hR.st (List.length_pos_iff.mpr hR.ne) (Nat.le_refl _))).2)
set_option hygiene false in
local macro_rules | `(tactic| walk_at "16") => `(tactic| have cl := Nat.le_trans (zz16 (rows.map fun r => V.str (rowT r)) none (some (i : Int))) ml)
set_option hygiene false in
local macro_rules | `(tactic| walk_at "17") => `(tactic| rw [show (i : Int).toNat = i from rfl])
local macro_rules | `(tactic| walk_at "o") => `(tactic| first | exact Or.inl rfl | exact Or.inr rfl)
local macro_rules | `(tactic| walk_at "s") => `(tactic| (rw [sizeLine_eq]; decide))
noncomputable def top (i : Nat) : Stmt := PySem.Challenge.pw_joinload_k42_the_first_bad_row_of_a_whol.main.body.getD i (.Pass ⟨0, 0, 0, 0⟩)
noncomputable abbrev s_qqj : Stmt := inClass (top 8) 0
noncomputable abbrev s_qzv : Stmt := top 14
noncomputable abbrev s_qyy : Stmt := top 15
noncomputable abbrev s_qzq : Stmt := top 19
noncomputable abbrev s_qzj : Stmt := top 20
noncomputable abbrev s_qzx : Stmt := top 21
noncomputable abbrev s_qqx : Stmt := inClass (top 22) 0
noncomputable abbrev s_qqk : Stmt := inClass (top 22) 1
noncomputable abbrev s_qqq : Stmt := inClass (top 22) 2
noncomputable abbrev s_qqz : Stmt := inClass (top 22) 3
noncomputable abbrev s_qqy : Stmt := inClass (top 22) 4
noncomputable abbrev s_qqw : Stmt := inClass (top 22) 5
noncomputable abbrev s_qzw : Stmt := top 24
noncomputable abbrev s_qwz : Stmt := top 25
noncomputable abbrev s_qww : Stmt := top 26
noncomputable abbrev s_qyq : Stmt := top 27
noncomputable abbrev s_qyw : Stmt := top 28
noncomputable abbrev s_qzz : Stmt := top 29
noncomputable abbrev s_qwj : Stmt := top 30
noncomputable abbrev s_qwq : Stmt := top 31
noncomputable abbrev s_qqv : Stmt := top 32
noncomputable abbrev s_qwk : Stmt := top 33
noncomputable abbrev s_qwy : Stmt := top 34
noncomputable abbrev s_qwx : Stmt := top 35
noncomputable abbrev s_qzy : Stmt := top 36
noncomputable abbrev s_law : Stmt := top 37
theorem bt_ValueError : bootBuiltins "ValueError" = some (.type "ValueError") := by decide +kernel
theorem bt_all : bootBuiltins "all" = some (.builtin "all") := by decide +kernel
theorem bt_bool : bootBuiltins "bool" = some (.type "bool") := by decide +kernel
theorem bt_int : bootBuiltins "int" = some (.type "int") := by decide +kernel
theorem bt_isinstance : bootBuiltins "isinstance" = some (.builtin "isinstance") := by decide +kernel
theorem bt_len : bootBuiltins "len" = some (.builtin "len") := by decide +kernel
theorem bt_max : bootBuiltins "max" = some (.builtin "max") := by decide +kernel
theorem bt_str : bootBuiltins "str" = some (.type "str") := by decide +kernel
theorem relI {i : Int} {t : Tok} : RelV (.int i) (.int i t) := ⟨t, rfl⟩
theorem relT {n : String} : RelV (.ty n) (.type n) := rfl
theorem relS {x : Str} {t : Tok} : RelV (.str x) (.str x t) := ⟨t, rfl⟩
set_option genInjectivity false in
structure Ad where
 qqj : Addr
 fd_qqj : FuncData
 qzv : Addr
 fd_qzv : FuncData
 qyy : Addr
 fd_qyy : FuncData
 qzq : Addr
 fd_qzq : FuncData
 qzj : Addr
 fd_qzj : FuncData
 qzx : Addr
 fd_qzx : FuncData
 qqx : Addr
 fd_qqx : FuncData
 qqk : Addr
 fd_qqk : FuncData
 qqq : Addr
 fd_qqq : FuncData
 qqz : Addr
 fd_qqz : FuncData
 qqy : Addr
 fd_qqy : FuncData
 qqw : Addr
 fd_qqw : FuncData
 qzw : Addr
 fd_qzw : FuncData
 qwz : Addr
 fd_qwz : FuncData
 qww : Addr
 fd_qww : FuncData
 qyq : Addr
 fd_qyq : FuncData
 qyw : Addr
 fd_qyw : FuncData
 qzz : Addr
 fd_qzz : FuncData
 qwj : Addr
 fd_qwj : FuncData
 qwq : Addr
 fd_qwq : FuncData
 qqv : Addr
 fd_qqv : FuncData
 qwk : Addr
 fd_qwk : FuncData
 qwy : Addr
 fd_qwy : FuncData
 qwx : Addr
 fd_qwx : FuncData
 qzy : Addr
 fd_qzy : FuncData
 law : Addr
 fd_law : FuncData
 t_FIGURES : Tok
 o_HOW_MANY_PARTS : Addr
 o_LEANING_RULES : Addr
 c_qzk : Addr
 c_Lost : Addr
 c_qyv : Addr
 c_qyj : Addr
 c_qxq : Addr
 c_qyk : Addr
 c_qyx : Addr
 c_qyz : Addr
 c_qxw : Addr
 c_qxz : Addr
 c_qxy : Addr
 c_qwv : Addr
set_option genInjectivity false in
structure Txt (w : World) (K : PySem.W.Frag) (mg : Str → Option Value) (A : Ad) : Prop where
 k_qqj : PySem.W.keepIn K (.ref A.qqj) = true
 b_qqj : Binds K A.fd_qqj ["self", "row"] []
 F_qqj : Fun K "__init__" "NoWhole.__init__" s_qqj A.qqj A.fd_qqj
 m_qzv : mg "number_of" = some (.ref A.qzv)
 k_qzv : PySem.W.keepIn K (.ref A.qzv) = true
 b_qzv : Binds K A.fd_qzv ["text", "least", "most"] []
 F_qzv : Fun K "number_of" "number_of" s_qzv A.qzv A.fd_qzv
 m_qyy : mg "step_in" = some (.ref A.qyy)
 k_qyy : PySem.W.keepIn K (.ref A.qyy) = true
 b_qyy : Binds K A.fd_qyy ["text"] []
 F_qyy : Fun K "step_in" "step_in" s_qyy A.qyy A.fd_qyy
 m_qzq : mg "shown_whole" = some (.ref A.qzq)
 k_qzq : PySem.W.keepIn K (.ref A.qzq) = true
 b_qzq : Binds K A.fd_qzq ["whole"] []
 F_qzq : Fun K "shown_whole" "shown_whole" s_qzq A.qzq A.fd_qzq
 m_qzj : mg "lean_rows" = some (.ref A.qzj)
 k_qzj : PySem.W.keepIn K (.ref A.qzj) = true
 b_qzj : Binds K A.fd_qzj ["leans"] []
 F_qzj : Fun K "lean_rows" "lean_rows" s_qzj A.qzj A.fd_qzj
 m_qzx : mg "read_whole" = some (.ref A.qzx)
 k_qzx : PySem.W.keepIn K (.ref A.qzx) = true
 b_qzx : Binds K A.fd_qzx ["text"] []
 F_qzx : Fun K "read_whole" "read_whole" s_qzx A.qzx A.fd_qzx
 k_qqx : PySem.W.keepIn K (.ref A.qqx) = true
 b_qqx : Binds K A.fd_qqx ["self"] []
 F_qqx : Fun K "__init__" "WholeReading.__init__" s_qqx A.qqx A.fd_qqx
 k_qqk : PySem.W.keepIn K (.ref A.qqk) = true
 b_qqk : Binds K A.fd_qqk ["self", "parts"] []
 F_qqk : Fun K "takes" "WholeReading.takes" s_qqk A.qqk A.fd_qqk
 k_qqq : PySem.W.keepIn K (.ref A.qqq) = true
 b_qqq : Binds K A.fd_qqq ["self", "step", "size", "entry"] []
 F_qqq : Fun K "takes_whole" "WholeReading.takes_whole" s_qqq A.qqq A.fd_qqq
 k_qqz : PySem.W.keepIn K (.ref A.qqz) = true
 b_qqz : Binds K A.fd_qqz ["self", "text"] []
 F_qqz : Fun K "takes_part" "WholeReading.takes_part" s_qqz A.qqz A.fd_qqz
 k_qqy : PySem.W.keepIn K (.ref A.qqy) = true
 b_qqy : Binds K A.fd_qqy ["self", "text"] []
 F_qqy : Fun K "takes_word" "WholeReading.takes_word" s_qqy A.qqy A.fd_qqy
 k_qqw : PySem.W.keepIn K (.ref A.qqw) = true
 b_qqw : Binds K A.fd_qqw ["self", "rule", "text"] []
 F_qqw : Fun K "takes_lean" "WholeReading.takes_lean" s_qqw A.qqw A.fd_qqw
 m_qzw : mg "_law_whole" = some (.ref A.qzw)
 k_qzw : PySem.W.keepIn K (.ref A.qzw) = true
 b_qzw : Binds K A.fd_qzw ["_law_found"] []
 F_qzw : Fun K "_law_whole" "_law_whole" s_qzw A.qzw A.fd_qzw
 m_qwz : mg "_law_cell_at" = some (.ref A.qwz)
 k_qwz : PySem.W.keepIn K (.ref A.qwz) = true
 b_qwz : Binds K A.fd_qwz ["_law_script", "_law_k"] []
 F_qwz : Fun K "_law_cell_at" "_law_cell_at" s_qwz A.qwz A.fd_qwz
 m_qww : mg "_law_target_by" = some (.ref A.qww)
 k_qww : PySem.W.keepIn K (.ref A.qww) = true
 b_qww : Binds K A.fd_qww ["_law_number"] []
 F_qww : Fun K "_law_target_by" "_law_target_by" s_qww A.qww A.fd_qww
 m_qyq : mg "_law_put" = some (.ref A.qyq)
 k_qyq : PySem.W.keepIn K (.ref A.qyq) = true
 b_qyq : Binds K A.fd_qyq ["_law_cell", "_law_parts", "_law_leans", "_law_end_here"] []
 F_qyq : Fun K "_law_put" "_law_put" s_qyq A.qyq A.fd_qyq
 m_qyw : mg "_law_end" = some (.ref A.qyw)
 k_qyw : PySem.W.keepIn K (.ref A.qyw) = true
 b_qyw : Binds K A.fd_qyw ["_law_parts"] []
 F_qyw : Fun K "_law_end" "_law_end" s_qyw A.qyw A.fd_qyw
 m_qzz : mg "_law_built" = some (.ref A.qzz)
 k_qzz : PySem.W.keepIn K (.ref A.qzz) = true
 b_qzz : Binds K A.fd_qzz ["_law_script", "_law_most"] []
 F_qzz : Fun K "_law_built" "_law_built" s_qzz A.qzz A.fd_qzz
 m_qwj : mg "_law_odd_row" = some (.ref A.qwj)
 k_qwj : PySem.W.keepIn K (.ref A.qwj) = true
 b_qwj : Binds K A.fd_qwj ["_law_number"] []
 F_qwj : Fun K "_law_odd_row" "_law_odd_row" s_qwj A.qwj A.fd_qwj
 m_qwq : mg "_law_odd_first" = some (.ref A.qwq)
 k_qwq : PySem.W.keepIn K (.ref A.qwq) = true
 b_qwq : Binds K A.fd_qwq ["_law_number", "_law_size"] []
 F_qwq : Fun K "_law_odd_first" "_law_odd_first" s_qwq A.qwq A.fd_qwq
 m_qqv : mg "_law_end_behind" = some (.ref A.qqv)
 k_qqv : PySem.W.keepIn K (.ref A.qqv) = true
 b_qqv : Binds K A.fd_qqv ["_law_rows"] []
 F_qqv : Fun K "_law_end_behind" "_law_end_behind" s_qqv A.qqv A.fd_qqv
 m_qwk : mg "_law_spoiled" = some (.ref A.qwk)
 k_qwk : PySem.W.keepIn K (.ref A.qwk) = true
 b_qwk : Binds K A.fd_qwk ["_law_rows", "_law_size", "_law_way", "_law_at", "_law_number"] []
 F_qwk : Fun K "_law_spoiled" "_law_spoiled" s_qwk A.qwk A.fd_qwk
 m_qwy : mg "_law_told_of" = some (.ref A.qwy)
 k_qwy : PySem.W.keepIn K (.ref A.qwy) = true
 b_qwy : Binds K A.fd_qwy ["_law_text"] []
 F_qwy : Fun K "_law_told_of" "_law_told_of" s_qwy A.qwy A.fd_qwy
 m_qwx : mg "_law_refused" = some (.ref A.qwx)
 k_qwx : PySem.W.keepIn K (.ref A.qwx) = true
 b_qwx : Binds K A.fd_qwx ["_law_told", "_law_due"] []
 F_qwx : Fun K "_law_refused" "_law_refused" s_qwx A.qwx A.fd_qwx
 m_qzy : mg "_law_holds" = some (.ref A.qzy)
 k_qzy : PySem.W.keepIn K (.ref A.qzy) = true
 b_qzy : Binds K A.fd_qzy ["_law_rows", "_law_size", "_law_cell", "_law_other"] []
 F_qzy : Fun K "_law_holds" "_law_holds" s_qzy A.qzy A.fd_qzy
 m_law : mg "law" = some (.ref A.law)
 k_law : PySem.W.keepIn K (.ref A.law) = true
 b_law : Binds K A.fd_law ["_law_script"] []
 F_law : Fun K "law" "law" s_law A.law A.fd_law
 g_FIGURES : mg "FIGURES" = some (.str "0123456789" A.t_FIGURES)
 g_HOW_MANY_PARTS : mg "HOW_MANY_PARTS" = some (.ref A.o_HOW_MANY_PARTS)
 q_HOW_MANY_PARTS : KDict w K A.o_HOW_MANY_PARTS [(Sum.inr "whole", V.int 4), (Sum.inr "part", V.int 2), (Sum.inr "word", V.int 2), (Sum.inr "lean", V.int 3)]
 g_LEANING_RULES : mg "LEANING_RULES" = some (.ref A.o_LEANING_RULES)
 q_LEANING_RULES : ∀ H : Hp, SqT K H A.o_LEANING_RULES [V.str "whole", V.str "high", V.str "low"]
 n_ValueError : mg "ValueError" = none
 n_all : mg "all" = none
 n_bool : mg "bool" = none
 n_enumerate : mg "enumerate" = none
 n_int : mg "int" = none
 n_isinstance : mg "isinstance" = none
 n_len : mg "len" = none
 n_max : mg "max" = none
 n_range : mg "range" = none
 n_str : mg "str" = none
 mc_qzk : mg "JoinError" = some (.ref A.c_qzk)
 mc_Lost : mg "Lost" = some (.ref A.c_Lost)
 mc_qyv : mg "NoBase" = some (.ref A.c_qyv)
 mc_qyj : mg "NoPiece" = some (.ref A.c_qyj)
 mc_qxq : mg "NoRule" = some (.ref A.c_qxq)
 mc_qyk : mg "NoSense" = some (.ref A.c_qyk)
 mc_qyx : mg "NoWhole" = some (.ref A.c_qyx)
 mc_qyz : mg "SameName" = some (.ref A.c_qyz)
 mc_qxw : mg "TooFar" = some (.ref A.c_qxw)
 mc_qxz : mg "Twice" = some (.ref A.c_qxz)
 mc_qxy : mg "Unmet" = some (.ref A.c_qxy)
 mc_qwv : mg "WholeReading" = some (.ref A.c_qwv)
 cl_qwv : Cls K A.c_qwv
 hd_L : PySem.W.hasDictIn K A.c_qyx = true
 ki_N : PySem.W.kitOne K (.ref A.c_qyx) (.ref A.c_qyx) = some true
 ki_V : PySem.W.kitOne K (.ref A.c_qyx) (.type "ValueError") = some true
 ka : PySem.W.kitAny K (.ref A.c_qyx) [.ref A.c_Lost, .ref A.c_qyv, .ref A.c_qyj, .ref A.c_qxq, .ref A.c_qyk, .ref A.c_qyz, .ref A.c_qxw, .ref A.c_qxz, .ref A.c_qxy] = some false
 mj : PySem.W.mroIn K A.c_qyx (.ref A.c_qzk) = some true
 xg_qyx : PySem.W.findIn K (.ref A.c_qyx) "__getattribute__" = some (some (.builtin "BaseException.__getattribute__"))
 xn_qyx : PySem.W.findIn K (.ref A.c_qyx) "__getattr__" = some none
 xl_qyx : PySem.W.findIn K (.ref A.c_qyx) "__class__" = some (some (.builtin "object.__class__"))
 xo_qyx : PySem.W.mroIn K A.c_qyx (.type "object") = some true
 xb_qyx : PySem.W.mroIn K A.c_qyx (.type "BaseException") = some true
 sp_cl : PySem.W.specialIn K (.builtin "object.__class__") "__get__" = some (some (.builtin "getset_descriptor.__get__"))
 tk_cl : PySem.W.takesIn K (.builtin "object.__class__") = some true
 ei_qyx : ownInit K A.c_qyx A.qqj = true
 ee_qyx : errIn K A.c_qyx = true
 es_qyx : PySem.W.findIn K (.ref A.c_qyx) "__setattr__" = some (some (.builtin "object.__setattr__"))
 br_qzk : PySem.W.readsIn K A.c_qzk (.type "type") = true
 bf_qzk : PySem.W.findCls K (.ref A.c_qzk) (.type "type") "__init__" = some (.val (.builtin "ValueError.__init__"))
 bg_qzk : PySem.W.specialIn K (.ref A.c_qzk) "__getattribute__" = some (some (.builtin "type.__getattribute__"))
 ct_qzk : PySem.W.instIn K (.ref A.c_qzk) (.type "tuple") = some false
 cb_qzk : PySem.W.mroIn K A.c_qzk (.type "BaseException") = some true
 er_qyx : ErrC K A.c_qyx A.qqj
 bi_qzk : BaseI K A.c_qzk
 mk_qwv : Mk K A.c_qwv A.qqx
 me_qqk : Meth K A.c_qwv "takes" A.qqk
 me_qqw : Meth K A.c_qwv "takes_lean" A.qqw
 me_qqz : Meth K A.c_qwv "takes_part" A.qqz
 me_qqq : Meth K A.c_qwv "takes_whole" A.qqq
 me_qqy : Meth K A.c_qwv "takes_word" A.qqy
 no_qyx_row : NoAttr K A.c_qyx "row"
 no_qwv_step : NoAttr K A.c_qwv "step"
 no_qwv_size : NoAttr K A.c_qwv "size"
 no_qwv_entry : NoAttr K A.c_qwv "entry"
 no_qwv_parts : NoAttr K A.c_qwv "parts"
 no_qwv_leaning : NoAttr K A.c_qwv "leaning"
 no_qwv_last_words : NoAttr K A.c_qwv "last_words"
 no_qwv_end : NoAttr K A.c_qwv "end"
 no_qwv_behind_word : NoAttr K A.c_qwv "behind_word"
theorem sc_qqj : FnScope ["self", "row"] ["self", "row"] (defScope s_qqj) := ⟨rfl, rfl, rfl, by decide +kernel, rfl, by decide +kernel, by decide +kernel⟩
theorem sc_qzv : FnScope ["text", "least", "most", "figures", "number"] ["text", "least", "most"] (defScope s_qzv) := ⟨rfl, rfl, rfl, by decide +kernel, rfl, by decide +kernel, by decide +kernel⟩
theorem sc_qyy : FnScope ["text", "step"] ["text"] (defScope s_qyy) := ⟨rfl, rfl, rfl, by decide +kernel, rfl, by decide +kernel, by decide +kernel⟩
theorem sc_qzq : FnScope ["whole", "step", "size", "entry", "leans", "rows", "place", "words", "at", "word"] ["whole"] (defScope s_qzq) := ⟨rfl, rfl, rfl, by decide +kernel, rfl, by decide +kernel, by decide +kernel⟩
theorem sc_qzj : FnScope ["leans", "rows", "place", "rule", "target"] ["leans"] (defScope s_qzj) := ⟨rfl, rfl, rfl, by decide +kernel, rfl, by decide +kernel, by decide +kernel⟩
theorem sc_qzx : FnScope ["text", "reading", "number", "row"] ["text"] (defScope s_qzx) := ⟨rfl, rfl, rfl, by decide +kernel, rfl, by decide +kernel, by decide +kernel⟩
theorem sc_qqx : FnScope ["self"] ["self"] (defScope s_qqx) := ⟨rfl, rfl, rfl, by decide +kernel, rfl, by decide +kernel, by decide +kernel⟩
theorem sc_qqk : FnScope ["self", "parts", "head", "behind_word"] ["self", "parts"] (defScope s_qqk) := ⟨rfl, rfl, rfl, by decide +kernel, rfl, by decide +kernel, by decide +kernel⟩
theorem sc_qqq : FnScope ["self", "step", "size", "entry"] ["self", "step", "size", "entry"] (defScope s_qqq) := ⟨rfl, rfl, rfl, by decide +kernel, rfl, by decide +kernel, by decide +kernel⟩
theorem sc_qqz : FnScope ["self", "text", "place"] ["self", "text"] (defScope s_qqz) := ⟨rfl, rfl, rfl, by decide +kernel, rfl, by decide +kernel, by decide +kernel⟩
theorem sc_qqy : FnScope ["self", "text", "word"] ["self", "text"] (defScope s_qqy) := ⟨rfl, rfl, rfl, by decide +kernel, rfl, by decide +kernel, by decide +kernel⟩
theorem sc_qqw : FnScope ["self", "rule", "text", "target"] ["self", "rule", "text"] (defScope s_qqw) := ⟨rfl, rfl, rfl, by decide +kernel, rfl, by decide +kernel, by decide +kernel⟩
theorem sc_qzw : FnScope ["_law_found"] ["_law_found"] (defScope s_qzw) := ⟨rfl, rfl, rfl, by decide +kernel, rfl, by decide +kernel, by decide +kernel⟩
theorem sc_qwz : FnScope ["_law_script", "_law_k"] ["_law_script", "_law_k"] (defScope s_qwz) := ⟨rfl, rfl, rfl, by decide +kernel, rfl, by decide +kernel, by decide +kernel⟩
theorem sc_qww : FnScope ["_law_number"] ["_law_number"] (defScope s_qww) := ⟨rfl, rfl, rfl, by decide +kernel, rfl, by decide +kernel, by decide +kernel⟩
theorem sc_qyq : FnScope ["_law_cell", "_law_parts", "_law_leans", "_law_end_here", "_law_number", "_law_place", "_law_word", "_law_rows", "_law_rule"] ["_law_cell", "_law_parts", "_law_leans", "_law_end_here"] (defScope s_qyq) := ⟨rfl, rfl, rfl, by decide +kernel, rfl, by decide +kernel, by decide +kernel⟩
theorem sc_qyw : FnScope ["_law_parts"] ["_law_parts"] (defScope s_qyw) := ⟨rfl, rfl, rfl, by decide +kernel, rfl, by decide +kernel, by decide +kernel⟩
theorem sc_qzz : FnScope ["_law_script", "_law_most", "_law_parts", "_law_leans", "_law_rows", "_law_cell", "_law_end_here", "_law_number", "_law_size", "_law_entry", "_law_step"] ["_law_script", "_law_most"] (defScope s_qzz) := ⟨rfl, rfl, rfl, by decide +kernel, rfl, by decide +kernel, by decide +kernel⟩
theorem sc_qwj : FnScope ["_law_number", "_law_far", "_law_some"] ["_law_number"] (defScope s_qwj) := ⟨rfl, rfl, rfl, by decide +kernel, rfl, by decide +kernel, by decide +kernel⟩
theorem sc_qwq : FnScope ["_law_number", "_law_size", "_law_far", "_law_some"] ["_law_number", "_law_size"] (defScope s_qwq) := ⟨rfl, rfl, rfl, by decide +kernel, rfl, by decide +kernel, by decide +kernel⟩
theorem sc_qqv : FnScope ["_law_rows", "_law_end_here", "_law_row"] ["_law_rows"] (defScope s_qqv) := ⟨rfl, rfl, rfl, by decide +kernel, rfl, by decide +kernel, by decide +kernel⟩
theorem sc_qwk : FnScope ["_law_rows", "_law_size", "_law_way", "_law_at", "_law_number", "_law_lean", "_law_end_here"] ["_law_rows", "_law_size", "_law_way", "_law_at", "_law_number"] (defScope s_qwk) := ⟨rfl, rfl, rfl, by decide +kernel, rfl, by decide +kernel, by decide +kernel⟩
theorem sc_qwy : FnScope ["_law_text", "_law_told", "e"] ["_law_text"] (defScope s_qwy) := ⟨rfl, rfl, rfl, by decide +kernel, rfl, by decide +kernel, by decide +kernel⟩
theorem sc_qwx : FnScope ["_law_told", "_law_due"] ["_law_told", "_law_due"] (defScope s_qwx) := ⟨rfl, rfl, rfl, by decide +kernel, rfl, by decide +kernel, by decide +kernel⟩
theorem sc_qzy : FnScope ["_law_rows", "_law_size", "_law_cell", "_law_other", "_law_number", "_law_bad", "_law_due", "_law_behind"] ["_law_rows", "_law_size", "_law_cell", "_law_other"] (defScope s_qzy) := ⟨rfl, rfl, rfl, by decide +kernel, rfl, by decide +kernel, by decide +kernel⟩
theorem sc_law : FnScope ["_law_script", "_law_rows", "_law_whole_here", "_law_text", "_law_k"] ["_law_script"] (defScope s_law) := ⟨rfl, rfl, rfl, by decide +kernel, rfl, by decide +kernel, by decide +kernel⟩
theorem cK {CX P w K mg base N qual scope f cd Ar outer s H E} : (cxOf CX P w K mg base N qual scope f cd Ar outer s H E).K = K := rfl
theorem bK {X : Cx} {N' : List Str} {scope : Scope} {fp : List Addr} {s : Shared} {H : Hp} : (blk X N' scope fp s H).K = X.K := rfl
theorem slen (a b : Str) : (a ++ b).length = a.length + b.length := Array.size_append
theorem atI_ex {α : Type} {xs : List α} {i : Int} (h1 : -(xs.length : Int) ≤ i) (h2 : i < xs.length) : ∃ v, atI xs i = some v ∧ v ∈ xs := by
 unfold atI ixN
 by_cases h0 : 0 ≤ i
 · have hl : i.toNat < xs.length := by omega
   refine ⟨xs[i.toNat], ?_, List.getElem_mem hl⟩
   rw [if_pos h0, if_pos h2]
   show xs[i.toNat]? = _
   rw [List.getElem?_eq_getElem hl]
 · have hl : (i + xs.length).toNat < xs.length := by omega
   refine ⟨xs[(i + xs.length).toNat], ?_, List.getElem_mem hl⟩
   rw [if_neg h0, if_pos h1]
   show xs[(i + xs.length).toNat]? = _
   rw [List.getElem?_eq_getElem hl]
def sp_num : Sp := fun vs H Q _ => ∃ (z : Str) (lo hi : Int), vs = [.str z, .int lo, .int hi] ∧ z.length ≤ 600 ∧ ∀ H', Same H H' → Q (numF z lo hi) H'
def sp_step : Sp := fun vs H Q _ => ∃ (z : Str) (n : Int), vs = [.str z] ∧ z = Str.ofString (toString n) ∧ 1 ≤ n ∧ n ≤ 65536 ∧ (∃ k : Nat, n = 2 ^ k) ∧ ∀ H', Same H H' → Q (.int n) H'
set_option genInjectivity false in
structure Rdg where
 p : Addr
 dx : Addr
 st : V
 sz : V
 en : V
 a : Addr
 b : Addr
 lw : V
 e : Int
 bw : Bool
noncomputable def Rdg.fs (R : Rdg) : List (Str × V) := [("step", R.st), ("size", R.sz), ("entry", R.en), ("parts", .ref R.a), ("leaning", .ref R.b), ("last_words", R.lw), ("end", .int R.e), ("behind_word", .bl R.bw)]
def sp_rinit (A : Ad) : Sp := fun vs H Q _ => ∃ p dx : Addr, vs = [.ref p] ∧ H p = some (.ins A.c_qwv dx []) ∧
 ∀ a b H', a ≠ b → H a = none → H b = none → (∀ x o, x ≠ p → H x = some o → H' x = some o) → H' a = some (.lst []) → H' b = some (.lst []) →
   H' p = some (.ins A.c_qwv dx (Rdg.fs ⟨p, dx, .non, .non, .non, a, b, .non, 0, false⟩)) → Q .non H'
def sp_tpart (A : Ad) : Sp := fun vs H Q _ => ∃ (R : Rdg) (n sz : Int) (xs : List V), vs = [.ref R.p, .str (Str.ofString (toString n))] ∧ H R.p = some (.ins A.c_qwv R.dx R.fs) ∧ R.sz = .int sz ∧ H R.a = some (.lst xs) ∧ xs.length ≤ 1000 ∧ 0 ≤ R.e ∧ R.e ≤ n ∧ n ≤ sz ∧ sz ≤ 4294967295 ∧
 ∀ l t H', l ≠ t → H l = none → H t = none → (∀ x o, x ≠ R.p → x ≠ R.a → H x = some o → H' x = some o) → H' l = some (.lst []) → H' t = some (.tup [.int n, .ref l]) → H' R.a = some (.lst (xs ++ [.ref t])) →
   H' R.p = some (.ins A.c_qwv R.dx (Rdg.fs { R with e := n, lw := .ref l })) → Q (.bl true) H'
def sp_tword (A : Ad) : Sp := fun vs H Q _ => ∃ (R : Rdg) (n sz : Int) (l : Addr) (ws : List V), vs = [.ref R.p, .str (Str.ofString (toString n))] ∧ H R.p = some (.ins A.c_qwv R.dx R.fs) ∧ R.sz = .int sz ∧ R.lw = .ref l ∧ H l = some (.lst ws) ∧ ws.length ≤ 1000 ∧ 0 ≤ n ∧ n ≤ 4294967295 ∧ R.e < sz ∧
 ∀ H', (∀ x o, x ≠ R.p → x ≠ l → H x = some o → H' x = some o) → H' l = some (.lst (ws ++ [.int n])) → H' R.p = some (.ins A.c_qwv R.dx (Rdg.fs { R with e := R.e + 1 })) → Q (.bl true) H'
def isR (z : Str) : Prop := z = Str.ofString "whole" ∨ z = Str.ofString "high" ∨ z = Str.ofString "low"
def sp_tlean (A : Ad) : Sp := fun vs H Q _ => ∃ (R : Rdg) (r : Str) (n : Int) (xs : List V), vs = [.ref R.p, .str r, .str (Str.ofString (toString n))] ∧ H R.p = some (.ins A.c_qwv R.dx R.fs) ∧ isR r ∧ -9999999999 ≤ n ∧ n ≤ 9999999999 ∧ H R.b = some (.lst xs) ∧ xs.length ≤ 1000 ∧
 ∀ t H', H t = none → (∀ x o, x ≠ R.b → H x = some o → H' x = some o) → H' R.b = some (.lst (xs ++ [.ref t])) → H' t = some (.tup [.int (R.e - 1), .str r, .int n]) → Q (.bl true) H'
def sp_twhole (A : Ad) : Sp := fun vs H Q _ => ∃ (R : Rdg) (n sz en : Int), vs = [.ref R.p, .str (Str.ofString (toString n)), .str (Str.ofString (toString sz)), .str (Str.ofString (toString en))] ∧ H R.p = some (.ins A.c_qwv R.dx R.fs) ∧ 1 ≤ n ∧ n ≤ 65536 ∧ (∃ k : Nat, n = 2 ^ k) ∧ 0 ≤ sz ∧ sz ≤ 4294967295 ∧ 0 ≤ en ∧ en ≤ sz ∧
 ∀ H', (∀ x o, x ≠ R.p → H x = some o → H' x = some o) → H' R.p = some (.ins A.c_qwv R.dx (Rdg.fs { R with st := .int n, sz := .int sz, en := .int en })) → Q (.bl true) H'
inductive Row where
 | whole (n sz en : Int)
 | part (n : Int)
 | word (n : Int)
 | lean (r : Str) (n : Int)
noncomputable def nS (n : Int) : Str := Str.ofString (toString n)
noncomputable def Row.parts : Row → List Str
 | .whole n sz en => ["whole", nS n, nS sz, nS en]
 | .part n => ["part", nS n]
 | .word n => ["word", nS n]
 | .lean r n => ["lean", r, nS n]
set_option genInjectivity false in
structure RS where
 st : Option (Int × Int × Int)
 ps : List (Int × List Int)
 ls : List (Int × Str × Int)
 e : Int
 bw : Bool
noncomputable def addW (n : Int) : List (Int × List Int) → List (Int × List Int)
 | [] => []
 | [x] => [(x.1, x.2 ++ [n])]
 | x :: r => x :: addW n r
noncomputable def RS.next (S : RS) : Row → RS
 | .whole n sz en => { S with st := some (n, sz, en), bw := false }
 | .part n => { S with ps := S.ps ++ [(n, [])], e := n, bw := false }
 | .word n => { S with ps := addW n S.ps, e := S.e + 1, bw := true }
 | .lean r n => { S with ls := S.ls ++ [(S.e - 1, r, n)], bw := false }
noncomputable def RS.Takes (S : RS) : Row → Prop
 | .whole n sz en => S.st = none ∧ 1 ≤ n ∧ n ≤ 65536 ∧ (∃ k : Nat, n = 2 ^ k) ∧ 0 ≤ sz ∧ sz ≤ 4294967295 ∧ 0 ≤ en ∧ en ≤ sz
 | .part n => ∃ q, S.st = some q ∧ S.e ≤ n ∧ n ≤ q.2.1 ∧ q.2.1 ≤ 4294967295
 | .word n => ∃ q, S.st = some q ∧ S.ps ≠ [] ∧ 0 ≤ n ∧ n ≤ 4294967295 ∧ S.e < q.2.1
 | .lean r n => S.st ≠ none ∧ S.bw = true ∧ isR r ∧ -9999999999 ≤ n ∧ n ≤ 9999999999
noncomputable def stV (S : RS) : V × V × V := match S.st with | none => (.non, .non, .non) | some q => (.int q.1, .int q.2.1, .int q.2.2)
set_option genInjectivity false in
structure Rdg.Ok (A : Ad) (H0 H : Hp) (R : Rdg) (S : RS) (n : Nat) : Prop where
 sm : Same H0 H
 f : H0 R.p = none ∧ H0 R.a = none ∧ H0 R.b = none
 top : H R.p = some (.ins A.c_qwv R.dx R.fs)
 st : (R.st, R.sz, R.en) = stV S
 e : R.e = S.e
 e0 : 0 ≤ S.e
 bw : R.bw = S.bw
 ab : R.a ≠ R.b
 ps : ∃ qs : List (Addr × Addr), qs.length = S.ps.length ∧ H R.a = some (.lst (qs.map fun q => V.ref q.1)) ∧ (qs.map (·.2)).Nodup ∧
   (∀ (i : Nat) (q : Addr × Addr) (x : Int × List Int), qs[i]? = some q → S.ps[i]? = some x → H q.1 = some (.tup [.int x.1, .ref q.2]) ∧ H q.2 = some (.lst (x.2.map V.int)) ∧ q.2 ≠ R.a ∧ q.2 ≠ R.b ∧ H0 q.2 = none) ∧
   (R.lw = match qs.getLast? with | none => .non | some q => .ref q.2)
 ls : ∃ ts : List Addr, ts.length = S.ls.length ∧ H R.b = some (.lst (ts.map V.ref)) ∧ ∀ (i : Nat) (t : Addr) (x : Int × Str × Int), ts[i]? = some t → S.ls[i]? = some x → H t = some (.tup [.int x.1, .str x.2.1, .int x.2.2])
 n1 : S.ps.length ≤ n ∧ S.ls.length ≤ n ∧ ∀ x ∈ S.ps, x.2.length ≤ n
def sp_takes (A : Ad) : Sp := fun vs H Q _ => ∃ (H0 : Hp) (R : Rdg) (l : Addr) (r : Row) (S : RS) (m : Nat), vs = [.ref R.p, .ref l] ∧ H l = some (.lst (r.parts.map V.str)) ∧ l ≠ R.a ∧ Rdg.Ok A H0 H R S m ∧ m ≤ 400 ∧ S.Takes r ∧
 ∀ (R' : Rdg) (H' : Hp), R'.p = R.p → R'.a = R.a → R'.b = R.b → Rdg.Ok A H0 H' R' (S.next r) (m + 1) → Q (.bl true) H'
noncomputable def rowT (r : Row) : Str := Txt.join (Str.ofString " ") r.parts
noncomputable def RS0 : RS := ⟨none, [], [], 0, false⟩
noncomputable def runR (rows : List Row) (i : Nat) : RS := (rows.take i).foldl RS.next RS0
def sp_read (A : Ad) : Sp := fun vs H Q _ => ∃ rows : List Row, vs = [.str (Txt.join (Str.ofString "\n") (rows.map rowT))] ∧ rows ≠ [] ∧ rows.length ≤ 300 ∧ (∀ r ∈ rows, (rowT r).length ≤ 1000) ∧ (∀ r ∈ rows, 10 ∉ (rowT r).cps.toList ∧ ∀ p ∈ r.parts, 32 ∉ p.cps.toList) ∧ (∀ (i : Nat) (r : Row), rows[i]? = some r → (runR rows i).Takes r) ∧
 (Txt.join (Str.ofString "\n") (rows.map rowT)).length < sizeLine ∧
 ∀ (q : Addr) (R : Rdg) (H' : Hp), Same H H' → H' q = some (.tup [R.st, R.sz, R.en, .ref R.a, .ref R.b]) → Rdg.Ok A H H' R (runR rows rows.length) rows.length → Q (.ref q) H'
def Few (p : Int) : Prop := -(10 ^ 70) ≤ p ∧ p ≤ 10 ^ 70
set_option genInjectivity false in
structure Prt where
 t : Addr
 l : Addr
 p : Int
 ws : List Int
set_option genInjectivity false in
structure Ln where
 a : Addr
 p : Int
 r : Str
 t : Int
set_option genInjectivity false in
structure PM (H : Hp) (a : Addr) (ps : List Prt) : Prop where
 top : H a = some (.lst (ps.map fun x => V.ref x.t))
 at_ : ∀ x ∈ ps, H x.t = some (.tup [.int x.p, .ref x.l]) ∧ H x.l = some (.lst (x.ws.map V.int))
 nd : (ps.map Prt.l).Nodup
 na : ∀ x ∈ ps, x.l ≠ a
set_option genInjectivity false in
structure LM (H : Hp) (b : Addr) (ls : List Ln) : Prop where
 top : H b = some (.lst (ls.map fun x => V.ref x.a))
 at_ : ∀ x ∈ ls, H x.a = some (.tup [.int x.p, .str x.r, .int x.t])
noncomputable def endP (ps : List Prt) : Int := match ps.getLast? with | none => 0 | some x => x.p + x.ws.length
set_option genInjectivity false in
structure Ordd (ps : List Prt) (e : Int) : Prop where
 pos : ∀ x ∈ ps, 0 ≤ x.p
 le : ∀ x ∈ ps, x.p + x.ws.length ≤ e
 ap : ∀ (i j : Nat) (x y : Prt), i < j → ps[i]? = some x → ps[j]? = some y → x.p + x.ws.length ≤ y.p
set_option genInjectivity false in
structure BS where
 a : Addr
 b : Addr
 ps : List Prt
 ls : List Ln
 e : Int
set_option genInjectivity false in
structure BOk (n : Nat) (H : Hp) (S : BS) : Prop where
 pm : PM H S.a S.ps
 lm : LM H S.b S.ls
 ab : S.a ≠ S.b
 nb : ∀ x ∈ S.ps, x.l ≠ S.b
 ord : Ordd S.ps S.e
 ws : ∀ x ∈ S.ps, ∀ w ∈ x.ws, 0 ≤ w ∧ w ≤ 4294967295
 rr : ∀ l ∈ S.ls, isR l.r ∧ -9999999999 ≤ l.t ∧ l.t ≤ 9999999999 ∧ l.p < S.e
 lk : ∀ l ∈ S.ls, ∃ x ∈ S.ps, x.p ≤ l.p ∧ l.p < x.p + x.ws.length
 ln : (S.ls.map Ln.p).Nodup
 en : S.e = endP S.ps
 e0 : 0 ≤ S.e
 e1 : S.e ≤ n * 10000001
 n1 : S.ps.length ≤ n
 n2 : S.ls.length ≤ n
 n3 : ∀ x ∈ S.ps, x.ws.length ≤ n
 n4 : n ≤ 500
set_option genInjectivity false in
structure Whl where
 t : Addr
 st : Int
 sz : Int
 en : Int
 n : Nat
set_option genInjectivity false in
structure WOk (most : Int) (H : Hp) (W : Whl) (S : BS) : Prop where
 top : H W.t = some (.tup [.int W.st, .int W.sz, .int W.en, .ref S.a, .ref S.b])
 bok : BOk W.n H S
 n5 : W.n ≤ 500
 s1 : 1 ≤ W.st
 s2 : W.st ≤ 65536
 z1 : S.e ≤ W.sz
 z2 : W.sz ≤ most
 e0 : 0 ≤ W.en
 e1 : W.en ≤ most
 pw : ∃ k : Nat, W.st = 2 ^ k
noncomputable def Prt.core (x : Prt) : Int × List Int := (x.p, x.ws)
noncomputable def Ln.core (l : Ln) : Int × Str × Int := (l.p, l.r, l.t)
def sp_whole : Sp := fun vs H Q _ => ∃ n : Int, vs = [.int n] ∧ Q (.bl true) H
def sp_cellat (K : PySem.W.Frag) : Sp := fun vs H Q _ => ∃ (a : Addr) (ns : List Int) (k : Int), vs = [.ref a, .int k] ∧ SqL K H a (ns.map V.int) ∧ 0 ≤ k ∧ ∀ m : Int, Q (.int m) H
def sp_target : Sp := fun vs H Q _ => ∃ c : Int, vs = [.int c] ∧ ∀ m : Int, -9999999999 ≤ m → m ≤ 9999999999 → Q (.int m) H
def PutR (S S' : BS) (rs : List V) : Prop :=
 (rs = [.str (rowT (.part S'.e))] ∧ S.e ≤ S'.e ∧ S'.ps.map Prt.core = S.ps.map Prt.core ++ [(S'.e, [])] ∧ S'.ls.map Ln.core = S.ls.map Ln.core) ∨
 (∃ u : Int, S.ps ≠ [] ∧ 0 ≤ u ∧ u ≤ 4294967295 ∧ S'.e = S.e + 1 ∧ S'.ps.map Prt.core = addW u (S.ps.map Prt.core) ∧
   ((rs = [.str (rowT (.word u))] ∧ S'.ls.map Ln.core = S.ls.map Ln.core) ∨ ∃ (r : Str) (t : Int), rs = [.str (rowT (.word u)), .str (rowT (.lean r t))] ∧ isR r ∧ -9999999999 ≤ t ∧ t ≤ 9999999999 ∧ S'.ls.map Ln.core = S.ls.map Ln.core ++ [(S.e, r, t)]))
def PutQ (S : BS) (n : Nat) (H : Hp) (Q : VK) : Prop := ∀ (q : Addr) (rs : List V) (S' : BS) (H' : Hp), (∀ x o, H x = some o → x ≠ S.a → x ≠ S.b → (∀ y ∈ S.ps, x ≠ y.l) → H' x = some o) → H' q = some (.lst rs) → rs.length ≤ 2 → S'.a = S.a → S'.b = S.b → BOk (n + 1) H' S' → (∀ y ∈ S'.ps, y.l ∈ S.ps.map Prt.l ∨ H y.l = none) → H q = none → q ≠ S.a → q ≠ S.b → (∀ y ∈ S'.ps, q ≠ y.l) → PutR S S' rs → Q (.ref q) H'
def pA : TS := fun D σ H => ∃ (S : BS) (n : Nat) (c m : Int) (H0 : Hp) (b5 b6 b7 b8 : Option V), σ = [some (.int c), some (.ref S.a), some (.ref S.b), some (.int S.e), some (.int m), b5, b6, b7, b8] ∧ 0 ≤ m ∧ BOk n H S ∧ n ≤ 61 ∧ Same H0 H ∧ BOk n H0 S ∧ PutQ S n H0 D.rt
def pA2 : TS := fun D σ H => ∃ (S : BS) (n : Nat) (c m pl : Int) (H0 : Hp) (b6 b7 b8 : Option V), σ = [some (.int c), some (.ref S.a), some (.ref S.b), some (.int S.e), some (.int m), some (.int pl), b6, b7, b8] ∧ S.e ≤ pl ∧ pl ≤ S.e + 10000000 ∧ BOk n H S ∧ n ≤ 61 ∧ Same H0 H ∧ BOk n H0 S ∧ PutQ S n H0 D.rt
def pB : TS := fun D σ H => ∃ (S : BS) (n : Nat) (c m : Int) (H0 : Hp) (b5 b6 b7 b8 : Option V), σ = [some (.int c), some (.ref S.a), some (.ref S.b), some (.int S.e), some (.int m), b5, b6, b7, b8] ∧ 0 ≤ m ∧ S.ps ≠ [] ∧ BOk n H S ∧ n ≤ 61 ∧ Same H0 H ∧ BOk n H0 S ∧ PutQ S n H0 D.rt
def pB2 : TS := fun D σ H => ∃ (S : BS) (n : Nat) (c m u : Int) (H0 : Hp) (b5 b7 b8 : Option V), σ = [some (.int c), some (.ref S.a), some (.ref S.b), some (.int S.e), some (.int m), b5, some (.int u), b7, b8] ∧ 0 ≤ m ∧ 0 ≤ u ∧ u ≤ 4294967295 ∧ S.ps ≠ [] ∧ BOk n H S ∧ n ≤ 61 ∧ Same H0 H ∧ BOk n H0 S ∧ PutQ S n H0 D.rt
def LsNew (S : BS) (u : Int) (rs : List V) (ls : List Ln) : Prop := (rs = [.str (rowT (.word u))] ∧ ls = S.ls) ∨ ∃ l, rs = [.str (rowT (.word u)), .str (rowT (.lean l.r l.t))] ∧ ls = S.ls ++ [l] ∧ l.p = S.e ∧ isR l.r ∧ -9999999999 ≤ l.t ∧ l.t ≤ 9999999999
def pB3 : TS := fun D σ H => ∃ (S : BS) (n : Nat) (c m u : Int) (q : Addr) (rs : List V) (ls : List Ln) (H0 : Hp) (b5 b8 : Option V), σ = [some (.int c), some (.ref S.a), some (.ref S.b), some (.int S.e), some (.int m), b5, some (.int u), some (.ref q), b8] ∧ 0 ≤ u ∧ u ≤ 4294967295 ∧ S.ps ≠ [] ∧ H q = some (.lst rs) ∧ rs.length ≤ 2 ∧ H0 q = none ∧ PM H S.a S.ps ∧ LM H S.b ls ∧ LsNew S u rs ls ∧ n ≤ 61 ∧ (∀ x o, H0 x = some o → x ≠ S.b → H x = some o) ∧ BOk n H0 S ∧ PutQ S n H0 D.rt
def sp_put : Sp := fun vs H Q _ => ∃ (c : Int) (S : BS) (n : Nat), vs = [.int c, .ref S.a, .ref S.b, .int S.e] ∧ BOk n H S ∧ n ≤ 61 ∧ PutQ S n H Q
def sp_end : Sp := fun vs H Q _ => ∃ (S : BS) (n : Nat), vs = [.ref S.a] ∧ BOk n H S ∧ ∀ H', Same H H' → Q (.int S.e) H'
noncomputable def Row.Small : Row → Prop
 | .whole n sz en => (0 ≤ n ∧ n ≤ 4294967295) ∧ (0 ≤ sz ∧ sz ≤ 4294967295) ∧ (0 ≤ en ∧ en ≤ 4294967295)
 | .part n => 0 ≤ n ∧ n ≤ 4294967295
 | .word n => 0 ≤ n ∧ n ≤ 4294967295
 | .lean r n => isR r ∧ -9999999999 ≤ n ∧ n ≤ 9999999999
def RunsTo (rows : List Row) (ps : List (Int × List Int)) (ls : List (Int × Str × Int)) (e : Int) (bw : Bool) : Prop := ∀ q : Int × Int × Int, e ≤ q.2.1 → q.2.1 ≤ 4294967295 →
 rows.foldl RS.next ⟨some q, [], [], 0, false⟩ = ⟨some q, ps, ls, e, bw⟩ ∧ ∀ (i : Nat) (r : Row), rows[i]? = some r → ((rows.take i).foldl RS.next ⟨some q, [], [], 0, false⟩).Takes r
set_option genInjectivity false in
structure RowsOk (rows : List Row) (W : Whl) (S : BS) : Prop where
 ne : rows ≠ []
 len : rows.length ≤ 123
 small : ∀ r ∈ rows, r.Small
 takes : ∀ (i : Nat) (r : Row), rows[i]? = some r → (runR rows i).Takes r
 run : ∃ bw, runR rows rows.length = ⟨some (W.st, W.sz, W.en), S.ps.map Prt.core, S.ls.map Ln.core, S.e, bw⟩
def sp_built (K : PySem.W.Frag) : Sp := fun vs H Q _ => ∃ (a : Addr) (ns : List Int) (most : Int), vs = [.ref a, .int most] ∧ SqL K H a (ns.map V.int) ∧ ns.length ≤ 63 ∧ 2000000000 ≤ most ∧ most ≤ 4294967295 ∧
 ∀ (q pr : Addr) (rows : List Row) (W : Whl) (S : BS) (H' : Hp), Same H H' → H' q = some (.tup [.ref pr, .ref W.t]) → H' pr = some (.lst (rows.map fun r => V.str (rowT r))) → WOk most H' W S → W.n = 62 → RowsOk rows W S → Q (.ref q) H'
set_option genInjectivity false in
structure FOk (H0 H : Hp) (F : Whl) (S : BS) : Prop where
 top : H F.t = some (.tup [.int F.st, .int F.sz, .int F.en, .ref S.a, .ref S.b])
 pm : PM H S.a S.ps
 lm : LM H S.b S.ls
 ab : S.a ≠ S.b
 nb : ∀ x ∈ S.ps, x.l ≠ S.b
 fa : H0 S.a = none
 fb : H0 S.b = none
 fl : ∀ x ∈ S.ps, H0 x.l = none
 n1 : S.ps.length ≤ 300
 n2 : S.ls.length ≤ 300
 n3 : ∀ x ∈ S.ps, x.ws.length ≤ 300
set_option genInjectivity false in
structure Alike (F W : Whl) (S S' : BS) : Prop where
 st : F.st = W.st
 sz : F.sz = W.sz
 en : F.en = W.en
 ps : S.ps.map Prt.core = S'.ps.map Prt.core
 ls : S.ls.map Ln.core = S'.ls.map Ln.core
noncomputable def leanAt (ls : List (Int × Str × Int)) (n : Int) : List Row := ls.foldl (fun acc l => if l.1 = n then [.lean l.2.1 l.2.2] else acc) []
noncomputable def wordRows (ls : List (Int × Str × Int)) (p : Int) (ws : List Int) (i : Nat) : List Row := (List.range i).flatMap fun j => .word (ws.getD j 0) :: leanAt ls (p + (j : Int))
noncomputable def partRows (ls : List (Int × Str × Int)) (x : Int × List Int) : List Row := .part x.1 :: wordRows ls x.1 x.2 x.2.length
noncomputable def bodyRows (ps : List (Int × List Int)) (ls : List (Int × Str × Int)) : List Row := ps.flatMap (partRows ls)
noncomputable def rowsOf (st sz en : Int) (ps : List (Int × List Int)) (ls : List (Int × Str × Int)) : List Row := .whole st sz en :: bodyRows ps ls
set_option genInjectivity false in
structure RI (pre : List Row) (S : RS) : Prop where
 rows : pre = bodyRows S.ps S.ls
 lt : ∀ l ∈ S.ls, l.1 < S.e
 e : S.ps = [] ∨ ∃ pi x, S.ps = pi ++ [x] ∧ S.e = x.1 + (x.2.length : Int) ∧ ∀ y ∈ pi, y.1 + (y.2.length : Int) ≤ x.1
 bw : S.bw = true → (∀ l ∈ S.ls, l.1 < S.e - 1) ∧ ∃ pi p ws u, S.ps = pi ++ [(p, ws ++ [u])]
set_option genInjectivity false in
structure Shw (H : Hp) (W : Whl) (S : BS) : Prop where
 top : H W.t = some (.tup [.int W.st, .int W.sz, .int W.en, .ref S.a, .ref S.b])
 pm : PM H S.a S.ps
 lm : LM H S.b S.ls
 small : ∀ r ∈ rowsOf W.st W.sz W.en (S.ps.map Prt.core) (S.ls.map Ln.core), r.Small
 len : (rowsOf W.st W.sz W.en (S.ps.map Prt.core) (S.ls.map Ln.core)).length ≤ 200
 lr : ∀ l ∈ S.ls, isR l.r ∧ -9999999999 ≤ l.t ∧ l.t ≤ 9999999999
 n2 : S.ls.length ≤ 500
def LRs (H : Hp) (mem : List (Key × V)) (ls : List (Int × Str × Int)) : Prop := ∀ n : Int, match valV mem (.inl n) with
 | none => leanAt ls n = []
 | some v => ∃ a, v = .ref a ∧ H a = some (.lst ((leanAt ls n).map fun r => V.str (rowT r)))
noncomputable def txtOf (W : Whl) (S : BS) : Str := Txt.join (Str.ofString "\n") ((rowsOf W.st W.sz W.en (S.ps.map Prt.core) (S.ls.map Ln.core)).map rowT)
def sp_leans : Sp := fun vs H Q _ => ∃ (b : Addr) (ls : List Ln), vs = [.ref b] ∧ LM H b ls ∧ ls.length ≤ 500 ∧ (∀ l ∈ ls, isR l.r ∧ -9999999999 ≤ l.t ∧ l.t ≤ 9999999999) ∧ ∀ d mem H', Same H H' → H' d = some (.dK mem) → LRs H' mem (ls.map Ln.core) → Q (.ref d) H'
def sp_shown : Sp := fun vs H Q _ => ∃ (W : Whl) (S : BS), vs = [.ref W.t] ∧ Shw H W S ∧ ∀ H', Same H H' → Q (.str (txtOf W S)) H'
noncomputable def stepF (z : Str) : V := match numF z 1 65536 with | .int n => if Builtin.bitAnd n (n - 1) = 0 then .int n else .non | _ => .non
def sp_stepT : Sp := fun vs H Q _ => ∃ z : Str, vs = [.str z] ∧ z.length ≤ 600 ∧ ∀ H', Same H H' → Q (stepF z) H'
def BadW (a b c : Str) : Prop := stepF a = .non ∨ numF b 0 4294967295 = .non ∨ ∃ sz, numF b 0 4294967295 = .int sz ∧ numF c 0 sz = .non
def sp_twholeX (A : Ad) : Sp := fun vs H Q _ => ∃ (R : Rdg) (a b c : Str), vs = [.ref R.p, .str a, .str b, .str c] ∧ H R.p = some (.ins A.c_qwv R.dx R.fs) ∧ a.length ≤ 600 ∧ b.length ≤ 600 ∧ c.length ≤ 600 ∧
 ((∃ n sz en, stepF a = .int n ∧ numF b 0 4294967295 = .int sz ∧ numF c 0 sz = .int en ∧ ∀ H', (∀ x o, x ≠ R.p → H x = some o → H' x = some o) → H' R.p = some (.ins A.c_qwv R.dx (Rdg.fs { R with st := .int n, sz := .int sz, en := .int en })) → Q (.bl true) H') ∨
  (BadW a b c ∧ ∀ H', (∀ x o, x ≠ R.p → H x = some o → H' x = some o) → Q (.bl false) H'))
def sp_tpartX (A : Ad) : Sp := fun vs H Q _ => ∃ (R : Rdg) (z : Str) (sz : Int) (xs : List V), vs = [.ref R.p, .str z] ∧ H R.p = some (.ins A.c_qwv R.dx R.fs) ∧ R.sz = .int sz ∧ H R.a = some (.lst xs) ∧ xs.length ≤ 1000 ∧ z.length ≤ 600 ∧
 ((∃ n, numF z R.e sz = .int n ∧ ∀ l t H', l ≠ t → H l = none → H t = none → (∀ x o, x ≠ R.p → x ≠ R.a → H x = some o → H' x = some o) → H' l = some (.lst []) → H' t = some (.tup [.int n, .ref l]) → H' R.a = some (.lst (xs ++ [.ref t])) →
   H' R.p = some (.ins A.c_qwv R.dx (Rdg.fs { R with e := n, lw := .ref l })) → Q (.bl true) H') ∨
  (numF z R.e sz = .non ∧ ∀ H', Same H H' → Q (.bl false) H'))
def sp_twordX (A : Ad) : Sp := fun vs H Q _ => ∃ (R : Rdg) (z : Str) (sz : Int), vs = [.ref R.p, .str z] ∧ H R.p = some (.ins A.c_qwv R.dx R.fs) ∧ R.sz = .int sz ∧ z.length ≤ 600 ∧
 ((∃ (n : Int) (l : Addr) (ws : List V), numF z 0 4294967295 = .int n ∧ R.lw = .ref l ∧ H l = some (.lst ws) ∧ ws.length ≤ 1000 ∧ R.e < sz ∧
   ∀ H', (∀ x o, x ≠ R.p → x ≠ l → H x = some o → H' x = some o) → H' l = some (.lst (ws ++ [.int n])) → H' R.p = some (.ins A.c_qwv R.dx (Rdg.fs { R with e := R.e + 1 })) → Q (.bl true) H') ∨
  ((numF z 0 4294967295 = .non ∨ R.lw = .non ∨ sz ≤ R.e) ∧ (R.lw = .non ∨ ∃ l, R.lw = .ref l) ∧ ∀ H', Same H H' → Q (.bl false) H'))
def sp_tleanX (A : Ad) : Sp := fun vs H Q _ => ∃ (R : Rdg) (r z : Str) (xs : List V), vs = [.ref R.p, .str r, .str z] ∧ H R.p = some (.ins A.c_qwv R.dx R.fs) ∧ H R.b = some (.lst xs) ∧ xs.length ≤ 1000 ∧ z.length ≤ 600 ∧
 ((∃ n, isR r ∧ numF z (-9999999999) 9999999999 = .int n ∧ ∀ t H', H t = none → (∀ x o, x ≠ R.b → H x = some o → H' x = some o) → H' R.b = some (.lst (xs ++ [.ref t])) → H' t = some (.tup [.int (R.e - 1), .str r, .int n]) → Q (.bl true) H') ∨
  ((¬ isR r ∨ numF z (-9999999999) 9999999999 = .non) ∧ ∀ H', Same H H' → Q (.bl false) H'))
noncomputable def HMP : List (Key × V) := [(Sum.inr (Str.ofString "whole"), V.int 4), (Sum.inr (Str.ofString "part"), V.int 2), (Sum.inr (Str.ofString "word"), V.int 2), (Sum.inr (Str.ofString "lean"), V.int 3)]
inductive Bad (S : RS) : List Str → Prop where
 | len {h : Str} {r : List Str} : (valV HMP (.inr h)).getD .non ≠ V.int ((h :: r).length : Int) → Bad S (h :: r)
 | again {a b c : Str} : S.st ≠ none → Bad S [Str.ofString "whole", a, b, c]
 | first {h : Str} {r : List Str} : h ≠ Str.ofString "whole" → S.st = none → Bad S (h :: r)
 | whole {a b c : Str} : BadW a b c → Bad S [Str.ofString "whole", a, b, c]
 | part {a : Str} : (∀ q, S.st = some q → numF a S.e q.2.1 = .non) → Bad S [Str.ofString "part", a]
 | word {a : Str} : (numF a 0 4294967295 = .non ∨ S.ps = [] ∨ ∀ q, S.st = some q → q.2.1 ≤ S.e) → Bad S [Str.ofString "word", a]
 | lean {a b : Str} : (S.bw = false ∨ ¬ isR a ∨ numF b (-9999999999) 9999999999 = .non) → Bad S [Str.ofString "lean", a, b]
def sp_takesX (A : Ad) : Sp := fun vs H Q _ => ∃ (H0 : Hp) (R : Rdg) (l : Addr) (ps : List Str) (S : RS) (m : Nat), vs = [.ref R.p, .ref l] ∧ H l = some (.lst (ps.map V.str)) ∧ l ≠ R.a ∧ Rdg.Ok A H0 H R S m ∧ m ≤ 400 ∧ (∀ p ∈ ps, p.length ≤ 600) ∧
 ((∃ r : Row, ps = r.parts ∧ S.Takes r ∧ ∀ (R' : Rdg) (H' : Hp), R'.p = R.p → R'.a = R.a → R'.b = R.b → Rdg.Ok A H0 H' R' (S.next r) (m + 1) → Q (.bl true) H') ∨
  (Bad S ps ∧ ∀ H', Same H0 H' → Q (.bl false) H'))
noncomputable def xdR (p : Int) : HO := .xd [("row", .int p)]
def sp_nwinit (A : Ad) : Sp := fun vs H Q _ => ∃ (a : Addr) (p : Int), vs = [.ref a, .int p] ∧ H a = some (XN a A.c_qyx none) ∧ Few p ∧
 ∀ d H', H d = none → d ≠ a → (∀ b o, b ≠ a → H b = some o → H' b = some o) → H' a = some (XN a A.c_qyx (some d)) → H' d = some (XD d [("row", .int p)]) → Q .non H'
set_option genInjectivity false in
structure BadAt (ts : List Str) (good : List Row) (b : Str) (rest : List Str) : Prop where
 eq : ts = good.map rowT ++ b :: rest
 small : ∀ r ∈ good, r.Small
 takes : ∀ (i : Nat) (r : Row), good[i]? = some r → (runR good i).Takes r
 bad : Bad (runR good good.length) (Txt.split b (Str.ofString " "))
 nl : ∀ t ∈ ts, 10 ∉ t.cps.toList
 len : ∀ t ∈ ts, t.length ≤ 1000
 n : ts.length ≤ 300
 bl : ∀ p ∈ Txt.split b (Str.ofString " "), p.length ≤ 600
def sp_readX (A : Ad) : Sp := fun vs H Q E => (∃ rows : List Row, vs = [.str (Txt.join (Str.ofString "\n") (rows.map rowT))] ∧ rows ≠ [] ∧ rows.length ≤ 300 ∧ (∀ r ∈ rows, r.Small) ∧ (∀ (i : Nat) (r : Row), rows[i]? = some r → (runR rows i).Takes r) ∧
 ∀ (q : Addr) (R : Rdg) (H' : Hp), Same H H' → H' q = some (.tup [R.st, R.sz, R.en, .ref R.a, .ref R.b]) → Rdg.Ok A H H' R (runR rows rows.length) rows.length → Q (.ref q) H') ∨
 ∃ (ts : List Str) (good : List Row) (b : Str) (rest : List Str), vs = [.str (Txt.join (Str.ofString "\n") ts)] ∧ BadAt ts good b rest ∧
 ∀ d H', Same H H' → H' d = some (xdR ((good.length : Int) + 1)) → E (.ref A.c_qyx) (some d) H'
def RS.Fine (S : RS) : Prop := 0 ≤ S.e ∧ ∀ q, S.st = some q → q.2.1 ≤ 4294967295
def OddT (z : Str) : Prop := z.length ≤ 600 ∧ 10 ∉ z.cps.toList ∧ ∀ S : RS, S.Fine → Bad S (Txt.split z (Str.ofString " "))
def OddF (z : Str) : Prop := z.length ≤ 600 ∧ 10 ∉ z.cps.toList ∧ Bad RS0 (Txt.split z (Str.ofString " "))
def sp_odd : Sp := fun vs H Q _ => ∃ n : Int, vs = [.int n] ∧ 0 ≤ n ∧ n ≤ 2147483647 ∧ ∀ z H', Same H H' → OddT z → Q (.str z) H'
def sp_oddF : Sp := fun vs H Q _ => ∃ n sz : Int, vs = [.int n, .int sz] ∧ 0 ≤ n ∧ n ≤ 2147483647 ∧ 0 ≤ sz ∧ sz ≤ 4294967295 ∧ ∀ z H', Same H H' → OddF z → Q (.str z) H'
def oA (N : Nat) : TS := fun D σ H => ∃ (H0 : Hp) (n far : Int) (p : Addr) (zs : List Str), σ = [some (.int n), some (.int far), some (.ref p)] ∧ 0 ≤ far ∧ far < 10 ^ 30 ∧ H p = some (.lst (zs.map V.str)) ∧ zs ≠ [] ∧ zs.length ≤ N ∧ (∀ z ∈ zs, OddT z) ∧ Same H0 H ∧ ∀ z H', Same H0 H' → OddT z → D.rt (.str z) H'
def oF (N : Nat) : TS := fun D σ H => ∃ (H0 : Hp) (n sz far : Int) (p : Addr) (zs : List Str), σ = [some (.int n), some (.int sz), some (.int far), some (.ref p)] ∧ 0 ≤ sz ∧ sz ≤ 4294967295 ∧ 0 ≤ far ∧ far < 10 ^ 30 ∧ H p = some (.lst (zs.map V.str)) ∧ zs ≠ [] ∧ zs.length ≤ N ∧ (∀ z ∈ zs, OddF z) ∧ Same H0 H ∧ ∀ z H', Same H0 H' → OddF z → D.rt (.str z) H'
def sp_behind (K : PySem.W.Frag) : Sp := fun vs H Q _ => ∃ (p : Addr) (rows : List Row), vs = [.ref p] ∧ SqL K H p (rows.map fun r => V.str (rowT r)) ∧ (∀ r ∈ rows, r.Small) ∧ (∀ (i : Nat) (r : Row), rows[i]? = some r → (runR rows i).Takes r) ∧ ∀ H', Same H H' → Q (.int (runR rows rows.length).e) H'
def sp_toldof (A : Ad) : Sp := fun vs H Q _ => ∃ (ts : List Str) (good : List Row) (b : Str) (rest : List Str), vs = [.str (Txt.join (Str.ofString "\n") ts)] ∧ BadAt ts good b rest ∧ ∀ a d H', Same H H' → H' a = some (XO a A.c_qyx (some d)) → H' d = some (xdR ((good.length : Int) + 1)) → Q (.ref a) H'
def sp_refused (A : Ad) : Sp := fun vs H Q _ => ∃ (a d : Addr) (n : Int), vs = [.ref a, .int n] ∧ H a = some (XO a A.c_qyx (some d)) ∧ H d = some (xdR n) ∧ ∀ H', Same H H' → Q (.bl true) H'
def sp_spoil : Sp := fun vs H Q _ => ∃ (p : Addr) (rows : List Row) (W : Whl) (S : BS) (way at_ n : Int), vs = [.ref p, .int W.sz, .int way, .int at_, .int n] ∧ H p = some (.lst (rows.map fun r => V.str (rowT r))) ∧ RowsOk rows W S ∧ 0 ≤ at_ ∧ at_ ≤ rows.length ∧ 0 ≤ n ∧ n ≤ 2147483647 ∧
 ∀ (q l : Addr) (ts : List Str) (good : List Row) (b : Str) (rest : List Str) (H' : Hp), Same H H' → H' q = some (.tup [.ref l, .int ((good.length : Int) + 1)]) → H' l = some (.lst (ts.map V.str)) → BadAt ts good b rest → ts.length ≤ 200 → Q (.ref q) H'
def oS (c : Bool) : TS := fun D σ H => ∃ (H0 : Hp) (p : Addr) (rows : List Row) (W : Whl) (S : BS) (way at_ n : Int) (lr : Str), σ = [some (.ref p), some (.int W.sz), some (.int way), some (.int at_), some (.int n), some (.str (rowT (.lean lr n))), some (.int (runR rows at_.toNat).e)] ∧ H p = some (.lst (rows.map fun r => V.str (rowT r))) ∧ RowsOk rows W S ∧ 0 ≤ at_ ∧ at_ ≤ rows.length ∧ 0 ≤ n ∧ n ≤ 2147483647 ∧ isR lr ∧ (c = true → way = 6 → 0 < at_ → (runR rows at_.toNat).bw = false) ∧ Same H0 H ∧
 ∀ (q l : Addr) (ts : List Str) (good : List Row) (b : Str) (rest : List Str) (H' : Hp), Same H0 H' → H' q = some (.tup [.ref l, .int ((good.length : Int) + 1)]) → H' l = some (.lst (ts.map V.str)) → BadAt ts good b rest → ts.length ≤ 200 → D.rt (.ref q) H'
def sp_holds : Sp := fun vs H Q _ => ∃ (p : Addr) (rows : List Row) (W : Whl) (S : BS) (c o : Int), vs = [.ref p, .int W.sz, .int c, .int o] ∧ H p = some (.lst (rows.map fun r => V.str (rowT r))) ∧ RowsOk rows W S ∧ ∀ H', Same H H' → Q (.bl true) H'
def oH : TS := fun D σ H => ∃ (H0 : Hp) (b0 b1 b2 b3 b4 b7 : Option V) (l : Addr) (ts : List Str) (good : List Row) (b : Str) (rest : List Str), σ = [b0, b1, b2, b3, b4, some (.ref l), some (.int ((good.length : Int) + 1)), b7] ∧ H l = some (.lst (ts.map V.str)) ∧ BadAt ts good b rest ∧ ts.length ≤ 201 ∧ Same H0 H ∧ ∀ H', Same H0 H' → D.rt (.bl true) H'
def sp_law (K : PySem.W.Frag) : Sp := fun vs H Q _ => ∃ (a : Addr) (ns : List Int), vs = [.ref a] ∧ SqL K H a (ns.map V.int) ∧ ns.length ≤ 63 ∧ ∀ H', Q (.bl true) H'
local macro_rules | `(tactic| walk_at "rdd") => `(tactic| (try dsimp only [tSeq, tAsg, gName, tC, tOp, tUn, tVar, tRet, tIfS, tOr, tAnd, tNot, tTest, tB, tChain, tCB, tCons, tNil, tCall, tSl, tNoPart, tPart, tNext, tDrop, tLst, tTup, tYes, tNotV, tAndV, tOrV, L2.start, List.set, List.map, List.length, List.replicate, List.cons_append, List.nil_append, List.append_nil, cK, bK, rI0, rI, rU, rIxS, rIxL, rIxT, tRetN, rSlL, rIn, rCatT, gTup, gCons, gNil, tRaiseI, tXInit, tDGet, tDGet1, tDGet2, tDIn, tDNotIn, sDPut, tDNewK, rDictOf, rEqDict, rCount, tCompX_list, xCall, sXFld, tXFld, rSlS, rEq, rNe, sc0, sc1, sc2, sc3, sc4, sc5, sc6, sc7, sc8, sc9, sc10, sc11, sc12, sc13, rCatS, rIsi, LenV, rAll, tFor_list, tFor_tup, tFor_str, tFor_rng1, tFor_rng2, tComp_list, tComp_tup, tComp_str, tComp_rng1, blkSt, tBM, rAppend, rStarts, rIndex, tIf, tMake, tMeth, sFld, tFld, tRepr, tFmt, jNil, jCons, tJoined, rJoin, rIsx, rIst, tRaise, tTryAs, tTry0, un1, xMeth, xDrop, xSet, xRet, xOf, xSeq, List.getElem?_cons_zero, List.getElem?_cons_succ, Option.some.injEq, V.int.injEq, V.str.injEq, V.bl.injEq, V.ref.injEq, V.ty.injEq, List.cons.injEq, exists_eq_left', exists_eq_left, exists_eq', and_assoc, if_true, if_false, Bool.not_false, Bool.not_true, Bool.not_not, Bool.false_eq_true, exists_and_left, and_true, true_and, List.set_cons_zero, List.set_cons_succ, Option.join_some, false_and, or_false, false_or, exists_false, sp_holds, sp_spoil, sp_behind, sp_toldof, sp_refused, sp_odd, sp_oddF, sp_stepT, sp_twholeX, sp_tpartX, sp_twordX, sp_tleanX, sp_takesX, sp_nwinit, sp_readX, sp_num, sp_step, sp_rinit, sp_tpart, sp_tword, sp_tlean, sp_twhole, sp_takes, sp_read, sp_whole, sp_cellat, sp_target, sp_put, sp_end, sp_built, sp_leans, sp_shown, tFor_enum1, rSplit, tKGet, rClear, rClearD, tBM0, rSlT, sFldAug, rExtend, tFor_enum, gSub, rSetL, Ends.nx, Nat.reduceSub, Nat.reduceAdd]))
local macro_rules | `(tactic| walk_at "rd") => `(tactic| (walk_at "rdd"; (try simp only [tSeq, tAsg, gName, tC, tOp, tUn, tVar, tRet, tIfS, tOr, tAnd, tNot, tTest, tB, tChain, tCB, tCons, tNil, tCall, tSl, tNoPart, tPart, tNext, tDrop, tLst, tTup, tYes, tNotV, tAndV, tOrV, L2.start, List.set, List.map, List.length, List.replicate, List.cons_append, List.nil_append, List.append_nil, cK, bK, rI0, rI, rU, rIxS, rIxL, rIxT, tRetN, rSlL, rIn, rCatT, gTup, gCons, gNil, tRaiseI, tXInit, tDGet, tDGet1, tDGet2, tDIn, tDNotIn, sDPut, tDNewK, rDictOf, rEqDict, rCount, tCompX_list, xCall, sXFld, tXFld, rSlS, rEq, rNe, sc0, sc1, sc2, sc3, sc4, sc5, sc6, sc7, sc8, sc9, sc10, sc11, sc12, sc13, rCatS, rIsi, LenV, rAll, tFor_list, tFor_tup, tFor_str, tFor_rng1, tFor_rng2, tComp_list, tComp_tup, tComp_str, tComp_rng1, blkSt, tBM, rAppend, rStarts, rIndex, tIf, tMake, tMeth, sFld, tFld, tRepr, tFmt, jNil, jCons, tJoined, rJoin, rIsx, rIst, tRaise, tTryAs, tTry0, un1, xMeth, xDrop, xSet, xRet, xOf, xSeq, List.getElem?_cons_zero, List.getElem?_cons_succ, Option.some.injEq, V.int.injEq, V.str.injEq, V.bl.injEq, V.ref.injEq, V.ty.injEq, List.cons.injEq, exists_eq_left', exists_eq_left, exists_eq', and_assoc, if_true, if_false, Bool.not_false, Bool.not_true, Bool.not_not, Bool.false_eq_true, exists_and_left, and_true, true_and, List.set_cons_zero, List.set_cons_succ, Option.join_some, false_and, or_false, false_or, exists_false, sp_holds, sp_spoil, sp_behind, sp_toldof, sp_refused, sp_odd, sp_oddF, sp_stepT, sp_twholeX, sp_tpartX, sp_twordX, sp_tleanX, sp_takesX, sp_nwinit, sp_readX, sp_num, sp_step, sp_rinit, sp_tpart, sp_tword, sp_tlean, sp_twhole, sp_takes, sp_read, sp_whole, sp_cellat, sp_target, sp_put, sp_end, sp_built, sp_leans, sp_shown, tFor_enum1, rSplit, tKGet, rClear, rClearD, tBM0, rSlT, sFldAug, rExtend, tFor_enum, gSub, rSetL, Ends.nx, Nat.reduceSub, Nat.reduceAdd, reduceCtorEq])))
theorem pow_and {n : Int} (h : ∃ k : Nat, n = 2 ^ k) (h2 : n ≤ 65536) : Builtin.bitAnd n (n - 1) = 0 := by
 obtain ⟨k, rfl⟩ := h
 have hk : k < 17 := by
   rcases Nat.lt_or_ge k 17 with z | z
   · exact z
   · have h3 : (2 : Nat) ^ 17 ≤ 2 ^ k := Nat.pow_le_pow_right (by decide) z
     have h4 : ((2 ^ k : Nat) : Int) = (2 : Int) ^ k := by push_cast; rfl
     omega
 have key : ∀ k : Nat, k < 17 → Builtin.bitAnd ((2 : Int) ^ k) ((2 : Int) ^ k - 1) = 0 := by decide +kernel
 exact key k hk
section
variable {P : Program} {w : World} {K : PySem.W.Frag} {mg : Str → Option Value} {base : Heap} {A : Ad}
theorem Rdg.Ok.bwd {H0 H : Hp} {R : Rdg} {S : RS} {m : Nat} (h : Rdg.Ok A H0 H R S m) (c : Bool) : Rdg.Ok A H0 (upd H R.p (.ins A.c_qwv R.dx (Rdg.fs { R with bw := c }))) { R with bw := c } { S with bw := c } m := by
 have nl : ∀ {y : Addr} {xs : List V} {o : HO}, H y = some (.lst xs) → upd H R.p o y = some (.lst xs) := fun {y xs o} e => by rw [upd_ne (ne_of e h.top (by intro z; cases z))]; exact e
 have nt : ∀ {y : Addr} {xs : List V} {o : HO}, H y = some (.tup xs) → upd H R.p o y = some (.tup xs) := fun {y xs o} e => by rw [upd_ne (ne_of e h.top (by intro z; cases z))]; exact e
 refine ⟨fun x o e => by rw [upd_ne (zz4 e h.f.1)]; exact h.sm _ _ e, h.f, zz1, h.st, h.e, h.e0, rfl, h.ab, ?_, ?_, h.n1⟩
 · obtain ⟨qs, q1, q2, q3, q4, q5⟩ := h.ps
   exact ⟨qs, q1, nl q2, q3, fun i q x a b => ⟨nt (q4 i q x a b).1, nl (q4 i q x a b).2.1, (q4 i q x a b).2.2⟩, q5⟩
 · obtain ⟨ts, t1, t2, t3⟩ := h.ls
   exact ⟨ts, t1, nl t2, fun i t x a b => nt (t3 i t x a b)⟩
theorem snoc_ix {α : Type} {xs : List α} {y z : α} {i : Nat} (h : (xs ++ [y])[i]? = some z) : (i < xs.length ∧ xs[i]? = some z) ∨ (i = xs.length ∧ z = y) := by
 by_cases hi : i < xs.length
 · exact .inl ⟨hi, by rw [List.getElem?_append_left hi] at h; exact h⟩
 · have := (List.getElem?_eq_some_iff.mp h).1
   rw [List.length_append, List.length_singleton] at this
   have e : i = xs.length := by omega
   subst e
   rw [List.getElem?_append_right (Nat.le_refl _), Nat.sub_self] at h
   exact .inr ⟨rfl, (Option.some.inj h).symm⟩
theorem Rdg.Ok.part {H0 H H' : Hp} {R : Rdg} {S : RS} {m : Nat} (h : Rdg.Ok A H0 H R S m) {n : Int} (hn : 0 ≤ n) {l t : Addr} {xs : List V} (hA : H R.a = some (.lst xs)) (nlt : l ≠ t) (fl : H l = none) (ft : H t = none)
   (fr : ∀ x o, x ≠ R.p → x ≠ R.a → H x = some o → H' x = some o) (h1 : H' l = some (.lst [])) (h2 : H' t = some (.tup [.int n, .ref l])) (h3 : H' R.a = some (.lst (xs ++ [.ref t])))
   (h4 : H' R.p = some (.ins A.c_qwv R.dx (Rdg.fs { R with e := n, lw := .ref l }))) : Rdg.Ok A H0 H' { R with e := n, lw := .ref l } { S with ps := S.ps ++ [(n, [])], e := n } (m + 1) := by
 obtain ⟨qs, q1, q2, q3, q4, q5⟩ := h.ps
 obtain ⟨ts, t1, t2, t3⟩ := h.ls
 have ex : xs = qs.map fun q => V.ref q.1 := by rw [q2] at hA; cases hA; rfl
 have f0 : ∀ {x : Addr}, H x = none → H0 x = none := fun {x} e => by
   cases hh : H0 x with
   | none => rfl
   | some o => rw [h.sm _ _ hh] at e; cases e
 have nl : ∀ {y : Addr} {ys : List V}, y ≠ R.a → H y = some (.lst ys) → H' y = some (.lst ys) := fun {y ys} n e => fr _ _ (ne_of e h.top (by intro z; cases z)) n e
 have nt : ∀ {y : Addr} {ys : List V}, H y = some (.tup ys) → H' y = some (.tup ys) := fun {y ys} e => fr _ _ (ne_of e h.top (by intro z; cases z)) (ne_of e hA (by intro z; cases z)) e
 have hB : H R.b = some (.lst (ts.map V.ref)) := t2
 refine ⟨fun x o e => fr _ _ (zz4 e h.f.1) (zz4 e h.f.2.1) (h.sm _ _ e), h.f, h4, h.st, rfl, hn, h.bw, h.ab, ⟨qs ++ [(t, l)], ?_, ?_, ?_, ?_, ?_⟩, ⟨ts, t1, nl h.ab.symm t2, fun i t x a b => nt (t3 i t x a b)⟩, ?_⟩
 · rw [List.length_append, List.length_append, q1]; rfl
 · rw [h3, ex, List.map_append]; rfl
 · rw [List.map_append, List.nodup_append]
   refine ⟨q3, by simp, fun u hu v hv => ?_⟩
   obtain ⟨q, hq, rfl⟩ := List.mem_map.mp hu
   rw [show v = l by simpa using hv]
   obtain ⟨i, hi, ei⟩ := List.getElem_of_mem hq
   have hi2 : i < S.ps.length := by rw [← q1]; exact hi
   exact zz4 (q4 i q S.ps[i] (by rw [List.getElem?_eq_getElem hi, ei]) (List.getElem?_eq_getElem hi2)).2.1 fl
 · intro i q x hq hx
   rcases snoc_ix hq with ⟨a1, a2⟩ | ⟨a1, a2⟩
   · rcases snoc_ix hx with ⟨b1, b2⟩ | ⟨b1, b2⟩
     · have z := q4 i q x a2 b2
       exact ⟨nt z.1, nl z.2.2.1 z.2.1, z.2.2⟩
     · omega
   · rcases snoc_ix hx with ⟨b1, b2⟩ | ⟨b1, b2⟩
     · omega
     · subst a2 b2
       exact ⟨h2, h1, Ne.symm (zz4 hA fl), Ne.symm (zz4 hB fl), f0 fl⟩
 · rw [List.getLast?_append]; rfl
 · obtain ⟨b1, b2, b3⟩ := h.n1
   refine ⟨by show (S.ps ++ [_]).length ≤ m + 1; rw [List.length_append, List.length_singleton]; omega, by show S.ls.length ≤ m + 1; omega, fun x hx => ?_⟩
   rcases List.mem_append.mp hx with z | z
   · have := b3 x z; omega
   · rw [List.mem_singleton.mp z]; exact Nat.zero_le _
theorem Rdg.Ok.lean {H0 H H' : Hp} {R : Rdg} {S : RS} {m : Nat} (h : Rdg.Ok A H0 H R S m) {n : Int} {r : Str} {t : Addr} {xs : List V} (hB : H R.b = some (.lst xs)) (ft : H t = none)
   (fr : ∀ x o, x ≠ R.b → H x = some o → H' x = some o) (h1 : H' R.b = some (.lst (xs ++ [.ref t]))) (h2 : H' t = some (.tup [.int (R.e - 1), .str r, .int n])) : Rdg.Ok A H0 H' R { S with ls := S.ls ++ [(S.e - 1, r, n)] } (m + 1) := by
 obtain ⟨qs, q1, q2, q3, q4, q5⟩ := h.ps
 obtain ⟨ts, t1, t2, t3⟩ := h.ls
 have ex : xs = ts.map V.ref := by rw [t2] at hB; cases hB; rfl
 have nt : ∀ {y : Addr} {ys : List V}, H y = some (.tup ys) → H' y = some (.tup ys) := fun {y ys} e => fr _ _ (ne_of e hB (by intro z; cases z)) e
 refine ⟨fun x o e => fr _ _ (zz4 e h.f.2.2) (h.sm _ _ e), h.f, fr _ _ (ne_of h.top hB (by intro z; cases z)) h.top, h.st, h.e, h.e0, h.bw, h.ab, ⟨qs, q1, fr _ _ h.ab q2, q3, fun i q x a b => ?_, q5⟩, ⟨ts ++ [t], ?_, ?_, fun i u x hu hx => ?_⟩, ?_⟩
 · have z := q4 i q x a b
   exact ⟨nt z.1, fr _ _ z.2.2.2.1 z.2.1, z.2.2⟩
 · rw [List.length_append, List.length_append, t1]; rfl
 · rw [h1, ex, List.map_append]; rfl
 · rcases snoc_ix hu with ⟨a1, a2⟩ | ⟨a1, a2⟩
   · rcases snoc_ix hx with ⟨b1, b2⟩ | ⟨b1, b2⟩
     · exact nt (t3 i u x a2 b2)
     · omega
   · rcases snoc_ix hx with ⟨b1, b2⟩ | ⟨b1, b2⟩
     · omega
     · subst a2 b2
       rw [h2, h.e]
 · obtain ⟨b1, b2, b3⟩ := h.n1
   exact ⟨by show S.ps.length ≤ m + 1; omega, by show (S.ls ++ [_]).length ≤ m + 1; rw [List.length_append, List.length_singleton]; omega, fun x hx => Nat.le_succ_of_le (b3 x hx)⟩
theorem Rdg.Ok.mono {H0 H H' : Hp} {R : Rdg} {S : RS} {m : Nat} (h : Rdg.Ok A H0 H R S m) (s : Same H H') : Rdg.Ok A H0 H' R S m := by
 refine ⟨h.sm.trans s, h.f, s _ _ h.top, h.st, h.e, h.e0, h.bw, h.ab, ?_, ?_, h.n1⟩
 · obtain ⟨qs, q1, q2, q3, q4, q5⟩ := h.ps
   exact ⟨qs, q1, s _ _ q2, q3, fun i q x a b => ⟨s _ _ (q4 i q x a b).1, s _ _ (q4 i q x a b).2.1, (q4 i q x a b).2.2⟩, q5⟩
 · obtain ⟨ts, t1, t2, t3⟩ := h.ls
   exact ⟨ts, t1, s _ _ t2, fun i t x a b => s _ _ (t3 i t x a b)⟩
theorem Rdg.Ok.below {H0 H1 H : Hp} {R : Rdg} {S : RS} {m : Nat} (h : Rdg.Ok A H1 H R S m) (s : Same H0 H1) : Rdg.Ok A H0 H R S m := by
 have f0 : ∀ {x : Addr}, H1 x = none → H0 x = none := fun {x} e => by
   cases hh : H0 x with
   | none => rfl
   | some o => rw [s _ _ hh] at e; cases e
 refine ⟨s.trans h.sm, ⟨f0 h.f.1, f0 h.f.2.1, f0 h.f.2.2⟩, h.top, h.st, h.e, h.e0, h.bw, h.ab, ?_, h.ls, h.n1⟩
 obtain ⟨qs, q1, q2, q3, q4, q5⟩ := h.ps
 exact ⟨qs, q1, q2, q3, fun i q x a b => ⟨(q4 i q x a b).1, (q4 i q x a b).2.1, (q4 i q x a b).2.2.1, (q4 i q x a b).2.2.2.1, f0 (q4 i q x a b).2.2.2.2⟩, q5⟩
theorem same_upd {H0 H : Hp} {L : Addr} {o : HO} (h : H0 L = none) (e : Same H0 H) : Same H0 (upd H L o) := fun b u q => by rw [upd_ne (zz4 q h)]; exact e b u q
theorem zz2 {H : Hp} {p : Addr} {o : HO} (h : H p = none) : Same H (upd H p o) := fun b u e => by rw [upd_ne (zz4 e h)]; exact e
theorem Row.ne (r : Row) : r.parts ≠ [] := by cases r <;> simp [Row.parts]
theorem sp_one : Str.ofString " " = ⟨#[32]⟩ := by decide +kernel
theorem nl_one : Str.ofString "\n" = ⟨#[10]⟩ := by decide +kernel
theorem runR_succ {rows : List Row} {i : Nat} {r : Row} (h : rows[i]? = some r) : runR rows (i + 1) = (runR rows i).next r := by
 unfold runR
 rw [List.take_succ, h]
 simp
theorem addW_snoc (n : Int) : ∀ (xs : List (Int × List Int)) (x : Int × List Int), addW n (xs ++ [x]) = xs ++ [(x.1, x.2 ++ [n])]
 | [], _ => rfl
 | [y], x => rfl
 | y :: z :: r, x => by
   show y :: addW n (z :: r ++ [x]) = _
   rw [addW_snoc n (z :: r) x]; rfl
theorem Rdg.Ok.word {H0 H H' : Hp} {R : Rdg} {S : RS} {m : Nat} (h : Rdg.Ok A H0 H R S m) (hne : S.ps ≠ []) {n : Int} {l : Addr} {ws : List V} (hlw : R.lw = .ref l) (hl : H l = some (.lst ws))
   (fr : ∀ x o, x ≠ R.p → x ≠ l → H x = some o → H' x = some o) (h1 : H' l = some (.lst (ws ++ [.int n]))) (h2 : H' R.p = some (.ins A.c_qwv R.dx (Rdg.fs { R with e := R.e + 1 }))) : Rdg.Ok A H0 H' { R with e := R.e + 1 } { S with ps := addW n S.ps, e := S.e + 1 } (m + 1) := by
 obtain ⟨st, ps, ls, e, bw⟩ := S
 obtain ⟨pi, x, rfl⟩ : ∃ pi x, ps = pi ++ [x] := ⟨ps.dropLast, ps.getLast hne, (List.dropLast_concat_getLast hne).symm⟩
 obtain ⟨qs, q1, q2, q3, q4, q5⟩ := h.ps
 have qne : qs ≠ [] := fun z => by rw [z] at q1; simp at q1
 obtain ⟨qi, q, rfl⟩ : ∃ qi q, qs = qi ++ [q] := ⟨qs.dropLast, qs.getLast qne, (List.dropLast_concat_getLast qne).symm⟩
 have eq : qi.length = pi.length := by simpa using q1
 have el : l = q.2 := by
   rw [List.getLast?_append] at q5
   have q5 : R.lw = .ref q.2 := q5
   rw [hlw] at q5; cases q5; rfl
 subst el
 have last := q4 pi.length q x (by rw [← eq, List.getElem?_append_right (Nat.le_refl _), Nat.sub_self]; rfl) (by show (pi ++ [x])[pi.length]? = _; rw [List.getElem?_append_right (Nat.le_refl _), Nat.sub_self]; rfl)
 have ew : ws = x.2.map V.int := by have := last.2.1; rw [hl] at this; cases this; rfl
 obtain ⟨ts, t1, t2, t3⟩ := h.ls
 have nt : ∀ {y : Addr} {ys : List V}, H y = some (.tup ys) → H' y = some (.tup ys) := fun {y ys} e => fr _ _ (ne_of e h.top (by intro z; cases z)) (ne_of e hl (by intro z; cases z)) e
 have nl : ∀ {y : Addr} {ys : List V}, y ≠ q.2 → H y = some (.lst ys) → H' y = some (.lst ys) := fun {y ys} n e => fr _ _ (ne_of e h.top (by intro z; cases z)) n e
 have nd := q3
 rw [List.map_append, List.nodup_append] at nd
 refine ⟨fun y o e => fr _ _ (zz4 e h.f.1) (zz4 e last.2.2.2.2) (h.sm _ _ e), h.f, h2, h.st, by show R.e + 1 = e + 1; rw [show R.e = e from h.e], by have := h.e0; show 0 ≤ e + 1; dsimp only at this; omega, h.bw, h.ab, ⟨qi ++ [q], ?_, nl last.2.2.1.symm q2, q3, ?_, q5⟩, ⟨ts, t1, nl last.2.2.2.1.symm t2, fun i t x a b => nt (t3 i t x a b)⟩, ?_⟩
 · show _ = (addW n (pi ++ [x])).length
   rw [addW_snoc, List.length_append, List.length_append, eq]; rfl
 · intro i u y hu hy
   have hy : (addW n (pi ++ [x]))[i]? = some y := hy
   rw [addW_snoc] at hy
   rcases snoc_ix hu with ⟨a1, a2⟩ | ⟨a1, a2⟩
   · rcases snoc_ix hy with ⟨b1, b2⟩ | ⟨b1, b2⟩
     · have z := q4 i u y hu (by show (pi ++ [x])[i]? = _; rw [List.getElem?_append_left b1]; exact b2)
       refine ⟨nt z.1, nl (fun e => ?_) z.2.1, z.2.2⟩
       exact nd.2.2 u.2 (List.mem_map.mpr ⟨u, List.mem_of_getElem? a2, rfl⟩) q.2 (by simp) e
     · omega
   · rcases snoc_ix hy with ⟨b1, b2⟩ | ⟨b1, b2⟩
     · omega
     · subst a2 b2
       exact ⟨nt last.1, by rw [h1, ew, List.map_append]; rfl, last.2.2⟩
 · obtain ⟨b1, b2, b3⟩ := h.n1
   dsimp only at b1 b2 b3
   refine ⟨?_, by show ls.length ≤ m + 1; omega, fun y hy => ?_⟩
   · show (addW n (pi ++ [x])).length ≤ m + 1
     rw [addW_snoc]; rw [List.length_append, List.length_singleton] at b1 ⊢; omega
   · have hy : y ∈ addW n (pi ++ [x]) := hy
     rw [addW_snoc] at hy
     rcases List.mem_append.mp hy with z | z
     · exact Nat.le_succ_of_le (b3 y (List.mem_append_left _ z))
     · rw [List.mem_singleton.mp z, List.length_append, List.length_singleton]
       exact Nat.succ_le_succ (b3 x (by simp))
theorem Rdg.Ok.whole {H0 H H' : Hp} {R : Rdg} {S : RS} {m : Nat} (h : Rdg.Ok A H0 H R S m) {n sz en : Int}
   (fr : ∀ x o, x ≠ R.p → H x = some o → H' x = some o) (h2 : H' R.p = some (.ins A.c_qwv R.dx (Rdg.fs { R with st := .int n, sz := .int sz, en := .int en }))) : Rdg.Ok A H0 H' { R with st := .int n, sz := .int sz, en := .int en } { S with st := some (n, sz, en) } (m + 1) := by
 have nl : ∀ {y : Addr} {xs : List V}, H y = some (.lst xs) → H' y = some (.lst xs) := fun {y xs} e => fr _ _ (ne_of e h.top (by intro z; cases z)) e
 have nt : ∀ {y : Addr} {xs : List V}, H y = some (.tup xs) → H' y = some (.tup xs) := fun {y xs} e => fr _ _ (ne_of e h.top (by intro z; cases z)) e
 refine ⟨fun x o e => fr _ _ (zz4 e h.f.1) (h.sm _ _ e), h.f, h2, rfl, h.e, h.e0, h.bw, h.ab, ?_, ?_, ?_⟩
 · obtain ⟨qs, q1, q2, q3, q4, q5⟩ := h.ps
   exact ⟨qs, q1, nl q2, q3, fun i q x a b => ⟨nt (q4 i q x a b).1, nl (q4 i q x a b).2.1, (q4 i q x a b).2.2⟩, q5⟩
 · obtain ⟨ts, t1, t2, t3⟩ := h.ls
   exact ⟨ts, t1, nl t2, fun i t x a b => nt (t3 i t x a b)⟩
 · obtain ⟨b1, b2, b3⟩ := h.n1
   exact ⟨Nat.le_succ_of_le b1, Nat.le_succ_of_le b2, fun x hx => Nat.le_succ_of_le (b3 x hx)⟩
theorem G_qzv (T : Txt w K mg A) : FnOk P w K mg base CX0 1 A.qzv A.fd_qzv ["text", "least", "most"] sp_num := by
 refine T.F_qzv.ok sc_qzv (fun vs H Q E h => ?_) (fun cdv Ar outer s H vs Q E hr h => ?_)
 · obtain ⟨z, lo, hi, rfl, _⟩ := h
   rfl
 · obtain ⟨z, lo, hi, rfl, hz, k⟩ := h
   refine ⟨_, (zz3 (ps_set (i := 3) sc_qzv.nd rfl (by walk_at "o") (pe_ifExp (pt_val (pe_bm PySem.F.plainAttrs_str PySem.F.slot_str_startswith PySem.F.type_str_startswith mt_starts (pv 0) (zz0 pe_str pa_nil))) (zz13 sl_str (pv 0) (zz15 pe_int) zz18) (pv 0))) (zz3 (ps_if (PW.pt (pw_or (pt_not (pt_chain op_le op_le pe_int (zz21 (call_lenK (K := K) rfl) (by rfl) T.n_len bt_len (zz0 (pv 3) pa_nil)) pe_int)) (pw_or1 (pt_not (pt_val (zz21 (call_allK rfl (K := K) rfl) (by rfl) T.n_all bt_all (zz0 (pe_comp (blk_mk (own := ["sign"]) (fr := []) (fm := []) rfl (by decide +kernel) (by decide +kernel) (by decide +kernel) .nil) rfl (pi_str (pv 3)) (fun _ _ _ => ⟨(pg_name (i := 0) (by show List.Nodup (["sign"] : List Str); decide +kernel) rfl (by walk_at "o")), pts_nil, (pe_cmpR op_in_str (pv 0) (pe_glob rfl T.g_FIGURES relS) (by with_unfolding_all rfl))⟩)) pa_nil))))))) (zz5 (ps_ret pe_non)) zz8) (zz3 (ps_if (PW.pt (pw_and (zz6 op_eq (pe_ix ix_str (pv 3) pe_int (fun _ _ => rfl)) pe_str (nomark _)) (pw_and1 (zz6 op_ne (pv 0) pe_str (nomark _))))) (zz5 (ps_ret pe_non)) zz8) (zz3 (ps_set (i := 4) sc_qzv.nd rfl (by walk_at "o") (zz14 call_intT (by rfl) T.n_int bt_int (zz0 (pv 0) pa_nil))) (zz5 (ps_ret (pe_ifExp (pt_chain op_le op_le (pv 1) (pv 4) (pv 2)) (pv 4) pe_non))))))), ?_⟩
   walk_at "rd"
   have lz : z.length ≤ sizeLine := by rw [sizeLine_eq]; omega
   refine ⟨rfl, ite2 (fun hn => ⟨lz, ?_⟩) (fun hn => ?_)⟩
   · have hfig : (Txt.slice z (some 1) none).cps.toList = figs z := by unfold figs; rw [if_pos hn, sl_from1]
     have hyl := Txt.slice_le z (some 1) none
     generalize Txt.slice z (some 1) none = y at *
     have lY : y.length ≤ sizeLine := by rw [sizeLine_eq]; omega
     refine ⟨lY, ite2 (fun h => ite2 (fun h2 => ?_) (fun h2 => ?_)) (fun h => ?_)⟩
     · have h2 : decide ((y.length : Int) ≤ 10) = false := by simpa using h2
       have h2 := of_decide_eq_false h2
       have := k H (Same.refl H)
       rw [numF_non2 (by rw [← hfig, lenL]; omega)] at this
       exact this
     · have h2 : decide ((y.length : Int) ≤ 10) = true := by simpa using h2
       have h2 := of_decide_eq_true h2
       have h := of_decide_eq_true h
       have hne : figs z ≠ [] := fun q => by
         have := congrArg List.length hfig
         rw [lenL, q] at this
         simp at this; omega
       have hle : (figs z).length ≤ 10 := by rw [← hfig, lenL]; omega
       refine CompS.of (by rw [sizeLine_eq]; have : y.length = y.cps.size := rfl; omega) (fun D i ys H' => ys = (y.cps.toList.take i).map (fun c => V.bl (dig c)) ∧ H' = upd H D (.lst ys)) (fun D hD => ⟨rfl, rfl⟩) ?_ ?_ ?_
       · rintro D i ys H' hD hi ⟨rfl, rfl⟩
         exact ⟨zz1, by rw [List.length_map, List.length_take]; omega⟩
       · rintro D i c ys H' hD hc ⟨rfl, rfl⟩
         walk_at "rd"
         refine ⟨.no .nil, zz1, ?_, upd_upd⟩
         rw [take_snocN (getL hc), List.map_append]
         rfl
       · rintro D ys H' hD ⟨rfl, rfl⟩
         have sm : Same H (upd H D (.lst ((y.cps.toList.take y.cps.size).map (fun c => V.bl (dig c))))) := fun b o e => by rw [upd_ne (zz4 e hD)]; exact e
         have kk := k _ sm
         refine ⟨D, rfl, y.cps.toList.map dig, SqL.of ?_, ?_⟩
         · rw [zz1, take_all, List.map_map]; rfl
         · rw [List.all_map]
           have ea : (y.cps.toList.all (id ∘ dig)) = (figs z).all dig := by rw [hfig]; rfl
           rw [ea]
           cases hv : (figs z).all dig with
           | false =>
             rw [numF_non3 hv] at kk
             exact iteT kk
           | true =>
             refine iteF ⟨lY, ?_⟩
             obtain ⟨x, hx, ht⟩ := first_at (cs := y.cps.toList) (by rw [hfig]; exact hne)
             refine ⟨x, hx, ?_⟩
             rw [sign_zero]
             have hi' := int_text hz hne hv
             refine ite2 (fun h3 => ite2 (fun h4 => ?_) (fun h4 => ?_)) (fun h3 => ?_)
             · have h3 := of_decide_eq_true h3
               rw [numF_non4 (by rw [← hfig, ht, h3]) (of_decide_eq_false (by simpa using h4))] at kk
               exact kk
             · have hq : ¬ ((figs z).take 1 = [48] ∧ z ≠ Str.ofString "0") := fun q => q.2 (of_decide_eq_true (by simpa using h4))
               exact ⟨valS z, hi', by omega, num_end hne hle hv hq kk⟩
             · have hq : ¬ ((figs z).take 1 = [48] ∧ z ≠ Str.ofString "0") := fun q => by
                 have h3 : ¬ x = 48 := of_decide_eq_false (by simpa using h3)
                 have := q.1
                 rw [← hfig, ht] at this
                 simp at this
                 exact h3 this
               exact ⟨valS z, hi', by omega, num_end hne hle hv hq kk⟩
     · have h : decide (1 ≤ (y.length : Int)) = false := by simpa using h
       have h := of_decide_eq_false h
       have := k H (Same.refl H)
       rw [numF_non1 (by rw [← hfig]; exact nilOf (by omega))] at this
       exact this
   · have hfig : z.cps.toList = figs z := by unfold figs; rw [if_neg hn]
     have lY : z.length ≤ sizeLine := by rw [sizeLine_eq]; omega
     refine ⟨lY, ite2 (fun h => ite2 (fun h2 => ?_) (fun h2 => ?_)) (fun h => ?_)⟩
     · have h2 : decide ((z.length : Int) ≤ 10) = false := by simpa using h2
       have h2 := of_decide_eq_false h2
       have := k H (Same.refl H)
       rw [numF_non2 (by rw [← hfig, lenL]; omega)] at this
       exact this
     · have h2 : decide ((z.length : Int) ≤ 10) = true := by simpa using h2
       have h2 := of_decide_eq_true h2
       have h := of_decide_eq_true h
       have hne : figs z ≠ [] := fun q => by
         have := congrArg List.length hfig
         rw [lenL, q] at this
         simp at this; omega
       have hle : (figs z).length ≤ 10 := by rw [← hfig, lenL]; omega
       refine CompS.of (by rw [sizeLine_eq]; have : z.length = z.cps.size := rfl; omega) (fun D i ys H' => ys = (z.cps.toList.take i).map (fun c => V.bl (dig c)) ∧ H' = upd H D (.lst ys)) (fun D hD => ⟨rfl, rfl⟩) ?_ ?_ ?_
       · rintro D i ys H' hD hi ⟨rfl, rfl⟩
         exact ⟨zz1, by rw [List.length_map, List.length_take]; omega⟩
       · rintro D i c ys H' hD hc ⟨rfl, rfl⟩
         walk_at "rd"
         refine ⟨.no .nil, zz1, ?_, upd_upd⟩
         rw [take_snocN (getL hc), List.map_append]
         rfl
       · rintro D ys H' hD ⟨rfl, rfl⟩
         have sm : Same H (upd H D (.lst ((z.cps.toList.take z.cps.size).map (fun c => V.bl (dig c))))) := fun b o e => by rw [upd_ne (zz4 e hD)]; exact e
         have kk := k _ sm
         refine ⟨D, rfl, z.cps.toList.map dig, SqL.of ?_, ?_⟩
         · rw [zz1, take_all, List.map_map]; rfl
         · rw [List.all_map]
           have ea : (z.cps.toList.all (id ∘ dig)) = (figs z).all dig := by rw [hfig]; rfl
           rw [ea]
           cases hv : (figs z).all dig with
           | false =>
             rw [numF_non3 hv] at kk
             exact iteT kk
           | true =>
             refine iteF ⟨lY, ?_⟩
             obtain ⟨x, hx, ht⟩ := first_at (cs := z.cps.toList) (by rw [hfig]; exact hne)
             refine ⟨x, hx, ?_⟩
             rw [sign_zero]
             have hi' := int_text hz hne hv
             refine ite2 (fun h3 => ite2 (fun h4 => ?_) (fun h4 => ?_)) (fun h3 => ?_)
             · have h3 := of_decide_eq_true h3
               rw [numF_non4 (by rw [← hfig, ht, h3]) (of_decide_eq_false (by simpa using h4))] at kk
               exact kk
             · have hq : ¬ ((figs z).take 1 = [48] ∧ z ≠ Str.ofString "0") := fun q => q.2 (of_decide_eq_true (by simpa using h4))
               exact ⟨valS z, hi', by omega, num_end hne hle hv hq kk⟩
             · have hq : ¬ ((figs z).take 1 = [48] ∧ z ≠ Str.ofString "0") := fun q => by
                 have h3 : ¬ x = 48 := of_decide_eq_false (by simpa using h3)
                 have := q.1
                 rw [← hfig, ht] at this
                 simp at this
                 exact h3 this
               exact ⟨valS z, hi', by omega, num_end hne hle hv hq kk⟩
     · have h : decide (1 ≤ (z.length : Int)) = false := by simpa using h
       have h := of_decide_eq_false h
       have := k H (Same.refl H)
       rw [numF_non1 (by rw [← hfig]; exact nilOf (by omega))] at this
       exact this
theorem rowT_part (n : Int) : rowT (.part n) = Str.ofString "part " ++ nS n := by
 unfold rowT
 rw [txt_join, show Str.ofString "part " = Str.ofString "part" ++ Str.ofString " " from by decide +kernel]
 rfl
theorem rowT_word (n : Int) : rowT (.word n) = Str.ofString "word " ++ nS n := by
 unfold rowT
 rw [txt_join, show Str.ofString "word " = Str.ofString "word" ++ Str.ofString " " from by decide +kernel]
 rfl
theorem rowT_lean (r : Str) (n : Int) : rowT (.lean r n) = Str.ofString "lean " ++ r ++ Str.ofString " " ++ nS n := by
 unfold rowT
 rw [txt_join, show Str.ofString "lean " = Str.ofString "lean" ++ Str.ofString " " from by decide +kernel]
 show Str.ofString "lean" ++ Str.ofString " " ++ (r ++ Str.ofString " " ++ nS n) = _
 simp only [Str.append_assoc]
theorem rowT_whole (n sz en : Int) : rowT (.whole n sz en) = Str.ofString "whole " ++ nS n ++ Str.ofString " " ++ nS sz ++ Str.ofString " " ++ nS en := by
 unfold rowT
 rw [txt_join, show Str.ofString "whole " = Str.ofString "whole" ++ Str.ofString " " from by decide +kernel]
 show Str.ofString "whole" ++ Str.ofString " " ++ (nS n ++ Str.ofString " " ++ (nS sz ++ Str.ofString " " ++ nS en)) = _
 simp only [Str.append_assoc]
theorem nS_len {x : Int} (h0 : -9999999999 ≤ x) (h1 : x ≤ 9999999999) : (nS x).length ≤ 241 := by
 have := num_len (n := x) (by omega) (by omega)
 exact Nat.le_trans this (by decide)
theorem Row.part_good {r : Row} (h : r.Small) : ∀ p ∈ r.parts, p.length ≤ 241 ∧ 10 ∉ p.cps.toList ∧ 32 ∉ p.cps.toList := by
 have num : ∀ x : Int, -9999999999 ≤ x → x ≤ 9999999999 → (nS x).length ≤ 241 ∧ 10 ∉ (nS x).cps.toList ∧ 32 ∉ (nS x).cps.toList := fun x h0 h1 => ⟨nS_len h0 h1, int_text_free' 10 (by decide) x, int_text_free' 32 (by decide) x⟩
 cases r with
 | whole n sz en =>
   obtain ⟨h1, h2, h3⟩ := h
   intro p hp
   simp only [Row.parts, List.mem_cons, List.not_mem_nil, or_false] at hp
   rcases hp with rfl | rfl | rfl | rfl
   · decide +kernel
   · exact num _ (by omega) (by omega)
   · exact num _ (by omega) (by omega)
   · exact num _ (by omega) (by omega)
 | part n =>
   obtain ⟨h1, h2⟩ := h
   intro p hp
   simp only [Row.parts, List.mem_cons, List.not_mem_nil, or_false] at hp
   rcases hp with rfl | rfl
   · decide +kernel
   · exact num _ (by omega) (by omega)
 | word n =>
   obtain ⟨h1, h2⟩ := h
   intro p hp
   simp only [Row.parts, List.mem_cons, List.not_mem_nil, or_false] at hp
   rcases hp with rfl | rfl
   · decide +kernel
   · exact num _ (by omega) (by omega)
 | lean r n =>
   obtain ⟨h0, h1, h2⟩ := h
   intro p hp
   simp only [Row.parts, List.mem_cons, List.not_mem_nil, or_false] at hp
   rcases hp with rfl | rfl | rfl
   · decide +kernel
   · rcases h0 with rfl | rfl | rfl <;> decide +kernel
   · exact num _ (by omega) (by omega)
theorem Row.good {r : Row} (h : r.Small) : (rowT r).length ≤ 1000 ∧ 10 ∉ (rowT r).cps.toList ∧ ∀ p ∈ r.parts, 32 ∉ p.cps.toList := by
 have g := Row.part_good h
 have l4 : r.parts.length ≤ 4 := by cases r <;> simp [Row.parts]
 walk_at "0"
 refine ⟨?_, fun hc => ?_, fun p hp => (g p hp).2.2⟩
 · have := join_le (sep := Str.ofString " ") (B := 241) fun t ht => (g t ht).1
   rw [lb] at this
   unfold rowT
   omega
 · unfold rowT at hc
   rw [txt_join, mem_join] at hc
   rcases hc with ⟨p, hp, hc⟩ | ⟨_, hc⟩
   · exact (g p hp).2.1 hc
   · revert hc; decide +kernel
theorem RunsTo.snoc {rows : List Row} {ps ps' : List (Int × List Int)} {ls ls' : List (Int × Str × Int)} {e e' : Int} {bw bw' : Bool} (h : RunsTo rows ps ls e bw) (he : e ≤ e') {r : Row}
   (t : ∀ q : Int × Int × Int, e' ≤ q.2.1 → q.2.1 ≤ 4294967295 → RS.Takes ⟨some q, ps, ls, e, bw⟩ r) (n : ∀ q, RS.next ⟨some q, ps, ls, e, bw⟩ r = ⟨some q, ps', ls', e', bw'⟩) : RunsTo (rows ++ [r]) ps' ls' e' bw' := by
 intro q h1 h2
 obtain ⟨f, g⟩ := h q (by omega) h2
 refine ⟨?_, fun i r' hr => ?_⟩
 · rw [List.foldl_append, f]; exact n q
 · rcases snoc_ix hr with ⟨a, b⟩ | ⟨a, b⟩
   · rw [List.take_append_of_le_length (by omega)]; exact g i r' b
   · subst a b
     rw [List.take_left', f]
     · exact t q h1 h2
     · rfl
theorem RunsTo.whole {rows : List Row} {ps : List (Int × List Int)} {ls : List (Int × Str × Int)} {e : Int} {bw : Bool} (h : RunsTo rows ps ls e bw) {n sz en : Int} (h1 : 1 ≤ n) (h2 : n ≤ 65536) (h3 : ∃ k : Nat, n = 2 ^ k) (h4 : 0 ≤ sz) (h5 : sz ≤ 4294967295) (h6 : 0 ≤ en) (h7 : en ≤ sz) (h8 : e ≤ sz) :
   (∀ (i : Nat) (r : Row), (Row.whole n sz en :: rows)[i]? = some r → (runR (Row.whole n sz en :: rows) i).Takes r) ∧ runR (Row.whole n sz en :: rows) (Row.whole n sz en :: rows).length = ⟨some (n, sz, en), ps, ls, e, bw⟩ := by
 obtain ⟨f, g⟩ := h (n, sz, en) h8 h5
 refine ⟨fun i r hr => ?_, ?_⟩
 · cases i with
   | zero =>
     cases hr
     exact ⟨rfl, h1, h2, h3, h4, h5, h6, h7⟩
   | succ i => exact g i r hr
 · unfold runR
   rw [List.take_length]
   exact f
theorem PutR.run {S S' : BS} {rs : List V} {rows : List Row} {bw : Bool} (h : PutR S S' rs) (hr : RunsTo rows (S.ps.map Prt.core) (S.ls.map Ln.core) S.e bw) (e0 : 0 ≤ S.e) (e1 : S'.e ≤ 4294967295) :
   ∃ (rows2 : List Row) (bw' : Bool), rs = rows2.map (fun r => V.str (rowT r)) ∧ (∀ r ∈ rows2, r.Small) ∧ rows2.length ≤ 2 ∧ RunsTo (rows ++ rows2) (S'.ps.map Prt.core) (S'.ls.map Ln.core) S'.e bw' := by
 rcases h with ⟨hrs, h1, h2, h3⟩ | ⟨u, h0, h1, h2, h3, h4, h5⟩
 · refine ⟨[.part S'.e], false, hrs, fun r hr => ?_, by simp, ?_⟩
   · rw [List.mem_singleton.mp hr]; exact ⟨by omega, e1⟩
   · rw [h2, h3]
     exact hr.snoc h1 (fun q a b => ⟨q, rfl, h1, a, b⟩) (fun q => rfl)
 · have s1 : RunsTo (rows ++ [.word u]) (S'.ps.map Prt.core) (S.ls.map Ln.core) S'.e true := by
     rw [h4]
     refine hr.snoc (by omega) (fun q a b => ⟨q, rfl, fun z => h0 (List.map_eq_nil_iff.mp z), h1, h2, by show S.e < _; omega⟩) (fun q => by rw [h3]; rfl)
   rcases h5 with ⟨hrs, h5⟩ | ⟨r, t, hrs, h5, h6, h7, h8⟩
   · refine ⟨[.word u], true, hrs, fun r hr => ?_, by simp, ?_⟩
     · rw [List.mem_singleton.mp hr]; exact ⟨h1, h2⟩
     · rw [h5]; exact s1
   · refine ⟨[.word u, .lean r t], false, hrs, fun r hr => ?_, by simp, ?_⟩
     · simp only [List.mem_cons, List.not_mem_nil, or_false] at hr
       rcases hr with rfl | rfl
       · exact ⟨h1, h2⟩
       · exact ⟨h5, h6, h7⟩
     · rw [show rows ++ [Row.word u, Row.lean r t] = rows ++ [Row.word u] ++ [Row.lean r t] by simp, h8]
       exact s1.snoc (Int.le_refl _) (fun q a b => ⟨fun z => (nomatch z), rfl, h5, h6, h7⟩) (fun q => by
         show RS.mk _ _ _ _ _ = _
         rw [show S'.e - 1 = S.e by omega])
theorem numF_cases (z : Str) (lo hi : Int) : numF z lo hi = .non ∨ ∃ n, numF z lo hi = .int n := by
 by_cases h : numF z lo hi = .non
 · exact .inl h
 · exact .inr (numF_int h)
theorem stepF_cases (z : Str) : stepF z = .non ∨ ∃ n, stepF z = .int n := by
 unfold stepF
 rcases numF_cases z 1 65536 with e | ⟨n, e⟩
 · rw [e]; exact .inl rfl
 · rw [e]
   dsimp only
   by_cases h : Builtin.bitAnd n (n - 1) = 0
   · rw [if_pos h]; exact .inr ⟨n, rfl⟩
   · rw [if_neg h]; exact .inl rfl
theorem stepF_str {n : Int} (h1 : 1 ≤ n) (h2 : n ≤ 65536) (hk : ∃ k : Nat, n = 2 ^ k) : stepF (nS n) = .int n := by
 unfold stepF nS
 rw [numF_str (by omega) (by omega), if_pos ⟨h1, h2⟩]
 show (if _ then _ else _) = _
 rw [if_pos (pow_and hk h2)]
theorem G_qyy (T : Txt w K mg A) : FnOk P w K mg base CX0 2 A.qyy A.fd_qyy ["text"] sp_stepT := by
 refine T.F_qyy.ok sc_qyy (fun vs H Q E h => ?_) (fun cdv Ar outer s H vs Q E hr h => ?_)
 · obtain ⟨z, rfl, _⟩ := h
   rfl
 · obtain ⟨z, rfl, hz, k⟩ := h
   refine ⟨_, (zz3 (ps_set (i := 1) sc_qyy.nd rfl (by walk_at "o") (zz12 (G_qzv T) (hr.mono (by decide)) rfl T.m_qzv T.k_qzv T.b_qzv .nil pass0 (zz0 (pv 0) (zz0 pe_int (zz0 pe_int pa_nil))))) (zz3 (ps_if (PW.pt (pw_or (zz6 op_isN (pv 1) pe_non (nomark _)) (pw_or1 (zz6 op_ne (pe_op op_and (pv 1) (pe_op op_sub (pv 1) pe_int)) pe_int (nomark _))))) (zz5 (ps_ret pe_non)) zz8) (zz5 (ps_ret (pv 1))))), ?_⟩
   walk_at "rd"
   refine ⟨hz, fun H' s' => ?_⟩
   have k := k H' s'
   unfold stepF at k
   rcases numF_cases z 1 65536 with e | ⟨n, e⟩
   · rw [e] at k ⊢
     rw [if_pos (by simp)]; exact k
   · rw [e] at k ⊢
     rw [if_neg (by simp)]
     refine ⟨n, rfl, n, rfl, ?_⟩
     by_cases h : Builtin.bitAnd n (n - 1) = 0
     · have k : Q (if _ then _ else _) H' := k
       rw [if_pos h] at k
       rw [if_neg (by rw [h]; decide)]; exact k
     · have k : Q (if _ then _ else _) H' := k
       rw [if_neg h] at k
       rw [if_pos (by simpa using h)]; exact k
theorem G_qqx (T : Txt w K mg A) : FnOk P w K mg base CX0 1 A.qqx A.fd_qqx ["self"] (sp_rinit A) := by
 refine T.F_qqx.ok sc_qqx (fun vs H Q E h => ?_) (fun cdv Ar outer s H vs Q E hr h => ?_)
 · obtain ⟨p, dx, rfl, _⟩ := h
   rfl
 · obtain ⟨p, dx, rfl, hp, k⟩ := h
   refine ⟨_, (zz3 (ps_fld (pv 0) pe_non rfl) (zz3 (ps_fld (pv 0) pe_non rfl) (zz3 (ps_fld (pv 0) pe_non rfl) (zz3 (ps_fld (pv 0) (pe_lst pa_nil) rfl) (zz3 (ps_fld (pv 0) (pe_lst pa_nil) rfl) (zz3 (ps_fld (pv 0) pe_non rfl) (zz3 (ps_fld (pv 0) pe_int rfl) (zz5 (ps_fld (pv 0) pe_bl rfl))))))))), ?_⟩
   walk_at "rd"
   refine ⟨_, _, _, hp, T.cl_qwv, T.no_qwv_step, by show 0 < 1000; decide, _, _, _, zz1, T.cl_qwv, T.no_qwv_size, by show 1 < 1000; decide, _, _, _, zz1, T.cl_qwv, T.no_qwv_entry, by show 2 < 1000; decide, Nat.zero_le _, fun p1 hp1 => ?_⟩
   rw [upd_upd, upd_upd] at hp1 ⊢
   have n1 : p1 ≠ p := fun z => by rw [z, zz1] at hp1; cases hp1
   have f1 : H p1 = none := by rw [upd_ne n1] at hp1; exact hp1
   refine ⟨_, _, _, by rw [upd_ne n1.symm]; exact zz1, T.cl_qwv, T.no_qwv_parts, by show 3 < 1000; decide, Nat.zero_le _, fun p2 hp2 => ?_⟩
   have n2 : p2 ≠ p := fun z => by rw [z, zz1] at hp2; cases hp2
   rw [upd_ne n2] at hp2
   have n3 : p2 ≠ p1 := fun z => by rw [z, zz1] at hp2; cases hp2
   have f2 : H p2 = none := by rw [upd_ne n3, upd_ne n2] at hp2; exact hp2
   refine ⟨_, _, _, by rw [upd_ne n2.symm]; exact zz1, T.cl_qwv, T.no_qwv_leaning, by show 4 < 1000; decide, _, _, _, zz1, T.cl_qwv, T.no_qwv_last_words, by show 5 < 1000; decide, _, _, _, zz1, T.cl_qwv, T.no_qwv_end, by show 6 < 1000; decide, _, _, _, zz1, T.cl_qwv, T.no_qwv_behind_word, by show 7 < 1000; decide, ?_⟩
   rw [upd_upd, upd_upd, upd_upd]
   refine k p1 p2 _ n3.symm f1 f2 (fun x o nx e => ?_) ?_ ?_ zz1
   · rw [upd_ne nx, upd_ne (zz4 e f2), upd_ne nx, upd_ne (zz4 e f1), upd_ne nx]; exact e
   · rw [upd_ne n1, upd_ne n3.symm, upd_ne n1]; exact zz1
   · rw [upd_ne n2]; exact zz1
theorem G_qqz (T : Txt w K mg A) : FnOk P w K mg base CX0 2 A.qqz A.fd_qqz ["self", "text"] (sp_tpartX A) := by
 refine T.F_qqz.ok sc_qqz (fun vs H Q E h => ?_) (fun cdv Ar outer s H vs Q E hr h => ?_)
 · obtain ⟨R, z, sz, xs, rfl, _⟩ := h
   rfl
 · obtain ⟨R, z, sz, xs, rfl, hR, hsz, hA, hl, hz, k⟩ := h
   refine ⟨_, (zz3 (ps_set (i := 2) sc_qqz.nd rfl (by walk_at "o") (zz12 (G_qzv T) (hr.mono (by decide)) rfl T.m_qzv T.k_qzv T.b_qzv .nil pass0 (zz0 (pv 1) (zz0 (pe_fld (pv 0) rfl) (zz0 (pe_fld (pv 0) rfl) pa_nil))))) (zz3 (ps_if (zz6 op_isN (pv 2) pe_non (nomark _)) (zz5 (ps_ret pe_bl)) zz8) (zz3 (ps_fld (pv 0) (pv 2) rfl) (zz3 (ps_fld (pv 0) (pe_lst pa_nil) rfl) (zz3 (ps_expr (pe_bm PySem.F.plainAttrs_list PySem.F.slot_list_append PySem.F.type_list_append mt_append (pe_fld (pv 0) rfl) (zz0 (pe_tup (zz0 (pv 2) (zz0 (pe_fld (pv 0) rfl) pa_nil))) pa_nil))) (zz5 (ps_ret pe_bl))))))), ?_⟩
   walk_at "rd"
   obtain ⟨p, dx, st, sz0, en, a, b, lw, e, bw⟩ := R
   dsimp only at *
   subst hsz
   refine ⟨_, _, _, hR, T.cl_qwv, T.no_qwv_end, _, rfl, _, _, _, hR, T.cl_qwv, T.no_qwv_size, _, rfl, _, rfl, _, rfl, hz, fun H1 s1 => ?_⟩
   rcases k with ⟨n, en, k⟩ | ⟨en, k⟩
   · rw [en, if_neg (by simp)]
     have nap : a ≠ p := ne_of hA hR (by intro z; cases z)
     refine ⟨_, _, _, s1 _ _ hR, T.cl_qwv, T.no_qwv_end, by show 8 < 1000; decide, Nat.zero_le _, fun l hl1 => ?_⟩
     have nlp : l ≠ p := fun z => by rw [z, zz1] at hl1; cases hl1
     have fl : H1 l = none := by rw [upd_ne nlp] at hl1; exact hl1
     have nal : a ≠ l := zz4 (s1 _ _ hA) fl
     have back : ∀ {x : Addr}, H1 x = none → H x = none := fun {x} h => by
       cases hh : H x with
       | none => rfl
       | some o => rw [s1 _ _ hh] at h; cases h
     refine ⟨_, _, _, by rw [upd_ne nlp.symm]; exact zz1, T.cl_qwv, T.no_qwv_last_words, by show 8 < 1000; decide, _, _, _, zz1, T.cl_qwv, T.no_qwv_parts, .ref a, rfl, .inl ⟨rfl, _, SqL.of (by rw [upd_ne nap, upd_ne nal, upd_ne nap]; exact s1 _ _ hA)⟩, _, _, _, zz1, T.cl_qwv, T.no_qwv_last_words, _, rfl, by walk_at "s", fun t ht => ?_⟩
     have ntp : t ≠ p := fun z => by rw [z, zz1] at ht; cases ht
     rw [upd_ne ntp] at ht
     have ntl : t ≠ l := fun z => by rw [z, zz1] at ht; cases ht
     have ft : H1 t = none := by rw [upd_ne ntl, upd_ne ntp] at ht; exact ht
     have nat' : a ≠ t := zz4 (s1 _ _ hA) ft
     refine ⟨a, rfl, xs, by rw [upd_ne nat', upd_ne nap, upd_ne nal, upd_ne nap]; exact s1 _ _ hA, by rw [sizeLine_eq]; omega, ?_⟩
     refine k l t _ ntl.symm (back fl) (back ft) (fun x o n1 n2 e => ?_) ?_ ?_ zz1 ?_
     · have e := s1 _ _ e
       rw [upd_ne n2, upd_ne (zz4 e ft), upd_ne n1, upd_ne (zz4 e fl), upd_ne n1]; exact e
     · rw [upd_ne nal.symm, upd_ne ntl.symm, upd_ne nlp]; exact zz1
     · rw [upd_ne nat'.symm]; exact zz1
     · rw [upd_ne nap.symm, upd_ne ntp.symm]; exact zz1
   · rw [en, if_pos (by simp)]
     exact k H1 s1
theorem G_qqy (T : Txt w K mg A) : FnOk P w K mg base CX0 2 A.qqy A.fd_qqy ["self", "text"] (sp_twordX A) := by
 refine T.F_qqy.ok sc_qqy (fun vs H Q E h => ?_) (fun cdv Ar outer s H vs Q E hr h => ?_)
 · obtain ⟨R, z, sz, rfl, _⟩ := h
   rfl
 · obtain ⟨R, z, sz, rfl, hR, hsz, hz, k⟩ := h
   refine ⟨_, (zz3 (ps_set (i := 2) sc_qqy.nd rfl (by walk_at "o") (zz12 (G_qzv T) (hr.mono (by decide)) rfl T.m_qzv T.k_qzv T.b_qzv .nil pass0 (zz0 (pv 1) (zz0 pe_int (zz0 pe_int pa_nil))))) (zz3 (ps_if (PW.pt (pw_or (zz6 op_isN (pv 2) pe_non (nomark _)) (pw_or (zz6 op_isN (pe_fld (pv 0) rfl) pe_non (nomark _)) (pw_or1 (zz6 op_ge (pe_fld (pv 0) rfl) (pe_fld (pv 0) rfl) (nomark _)))))) (zz5 (ps_ret pe_bl)) zz8) (zz3 (ps_expr (pe_bm PySem.F.plainAttrs_list PySem.F.slot_list_append PySem.F.type_list_append mt_append (pe_fld (pv 0) rfl) (zz0 (pv 2) pa_nil))) (zz3 (ps_fldaug (pv 0) pe_int in_add) (zz5 (ps_ret pe_bl)))))), ?_⟩
   walk_at "rd"
   obtain ⟨p, dx, st, sz0, en, a, b, lw, e, bw⟩ := R
   dsimp only at *
   subst hsz
   refine ⟨hz, fun H1 s1 => ?_⟩
   rcases k with ⟨n, l, ws, en, rfl, hl, hwl, he, k⟩ | ⟨bad, hlw, k⟩
   · rw [en, if_neg (by simp)]
     have hlp : l ≠ p := ne_of hl hR (by intro z; cases z)
     refine ⟨_, _, _, s1 _ _ hR, T.cl_qwv, T.no_qwv_last_words, .ref l, rfl, ?_⟩
     rw [if_neg (by simp)]
     refine ⟨_, _, _, s1 _ _ hR, T.cl_qwv, T.no_qwv_end, .int e, rfl, _, _, _, s1 _ _ hR, T.cl_qwv, T.no_qwv_size, .int sz, rfl, e, rfl, sz, rfl, ?_⟩
     rw [if_neg (by simp; omega)]
     refine ⟨_, _, _, s1 _ _ hR, T.cl_qwv, T.no_qwv_last_words, .ref l, rfl, .inl ⟨rfl, _, SqL.of (s1 _ _ hl)⟩, l, rfl, ws, s1 _ _ hl, by rw [sizeLine_eq]; omega, ?_⟩
     refine ⟨_, _, _, by rw [upd_ne hlp.symm]; exact s1 _ _ hR, T.cl_qwv, T.no_qwv_end, .int e, rfl, ?_⟩
     refine ⟨e, 1, rfl, rfl, _, _, by rw [upd_ne hlp.symm]; exact s1 _ _ hR, by show 8 < 1000; decide, ?_⟩
     refine k _ (fun x o n1 n2 q => ?_) ?_ zz1
     · rw [upd_ne n1, upd_ne n2]; exact s1 _ _ q
     · rw [upd_ne hlp]; exact zz1
   · rcases numF_cases z 0 4294967295 with en | ⟨n, en⟩
     · rw [en, if_pos (by simp)]; exact k H1 s1
     rw [en, if_neg (by simp)]
     have bad : lw = .non ∨ sz ≤ e := bad.elim (fun q => by rw [en] at q; cases q) id
     refine ⟨_, _, _, s1 _ _ hR, T.cl_qwv, T.no_qwv_last_words, lw, rfl, ?_⟩
     rcases hlw with rfl | ⟨l, rfl⟩
     · rw [if_pos (by simp)]; exact k H1 s1
     rw [if_neg (by simp)]
     have bad : sz ≤ e := bad.elim (fun q => by cases q) id
     refine ⟨_, _, _, s1 _ _ hR, T.cl_qwv, T.no_qwv_end, .int e, rfl, _, _, _, s1 _ _ hR, T.cl_qwv, T.no_qwv_size, .int sz, rfl, e, rfl, sz, rfl, ?_⟩
     rw [if_pos (by simpa using bad)]
     exact k H1 s1
theorem isR_in {r : Str} : inV (V.str r) [V.str "whole", V.str "high", V.str "low"] = true ↔ isR r := by
 have e : ∀ a b : Str, eqV (V.str a) (V.str b) = true ↔ b = a := fun a b => by unfold eqV; rw [beq_iff_eq]; exact eq_comm
 unfold inV isR
 simp only [List.any_cons, List.any_nil, Bool.or_false, Bool.or_eq_true, e]
theorem G_qqw (T : Txt w K mg A) : FnOk P w K mg base CX0 2 A.qqw A.fd_qqw ["self", "rule", "text"] (sp_tleanX A) := by
 refine T.F_qqw.ok sc_qqw (fun vs H Q E h => ?_) (fun cdv Ar outer s H vs Q E hr h => ?_)
 · obtain ⟨R, r, z, xs, rfl, _⟩ := h
   rfl
 · obtain ⟨R, r, z, xs, rfl, hR, hB, hl, hz, k⟩ := h
   refine ⟨_, (zz3 (ps_set (i := 3) sc_qqw.nd rfl (by walk_at "o") (zz12 (G_qzv T) (hr.mono (by decide)) rfl T.m_qzv T.k_qzv T.b_qzv .nil pass0 (zz0 (pv 2) (zz0 (pe_un un_neg pe_int) (zz0 pe_int pa_nil))))) (zz3 (ps_if (PW.pt (pw_or (zz6 (op_notInAK (K := K) rfl) (pv 1) (pe_glob (v := .ref A.o_LEANING_RULES) rfl T.g_LEANING_RULES rfl) (by with_unfolding_all rfl)) (pw_or1 (zz6 op_isN (pv 3) pe_non (nomark _))))) (zz5 (ps_ret pe_bl)) zz8) (zz3 (ps_expr (pe_bm PySem.F.plainAttrs_list PySem.F.slot_list_append PySem.F.type_list_append mt_append (pe_fld (pv 0) rfl) (zz0 (pe_tup (zz0 (pe_op op_sub (pe_fld (pv 0) rfl) pe_int) (zz0 (pv 1) (zz0 (pv 3) pa_nil)))) pa_nil))) (zz5 (ps_ret pe_bl))))), ?_⟩
   walk_at "rd"
   obtain ⟨p, dx, st, sz0, en, a, b, lw, e, bw⟩ := R
   dsimp only at *
   have hbp : b ≠ p := ne_of hB hR (by intro z; cases z)
   refine ⟨hz, fun H1 s1 => ⟨_, .inr (T.q_LEANING_RULES H1), rfl, rfl, ?_⟩⟩
   rcases k with ⟨n, hr', en, k⟩ | ⟨bad, k⟩
   · rw [en]
     have hin := isR_in.mpr hr'
     rw [if_neg (by rw [hin]; decide), if_neg (by simp)]
     refine ⟨_, _, _, s1 _ _ hR, T.cl_qwv, T.no_qwv_leaning, .ref b, rfl, .inl ⟨rfl, _, SqL.of (s1 _ _ hB)⟩, _, _, _, s1 _ _ hR, T.cl_qwv, T.no_qwv_end, .int e, rfl, e, rfl, by walk_at "s", fun t ht => ?_⟩
     have nbt : b ≠ t := zz4 (s1 _ _ hB) ht
     refine ⟨b, rfl, xs, by rw [upd_ne nbt]; exact s1 _ _ hB, by rw [sizeLine_eq]; omega, ?_⟩
     refine k t _ ?_ (fun x o nx e => ?_) zz1 ?_
     · cases hh : H t with
       | none => rfl
       | some o => rw [s1 _ _ hh] at ht; cases ht
     · rw [upd_ne nx, upd_ne (zz4 (s1 _ _ e) ht)]; exact s1 _ _ e
     · rw [upd_ne nbt.symm]; exact zz1
   · cases hin : inV (V.str r) [V.str "whole", V.str "high", V.str "low"] with
     | false => rw [if_pos (by decide)]; exact k H1 s1
     | true =>
       have en := bad.resolve_left fun q => q (isR_in.mp hin)
       rw [en, if_neg (by decide), if_pos (by simp)]; exact k H1 s1
theorem G_qqq (T : Txt w K mg A) : FnOk P w K mg base CX0 3 A.qqq A.fd_qqq ["self", "step", "size", "entry"] (sp_twholeX A) := by
 refine T.F_qqq.ok sc_qqq (fun vs H Q E h => ?_) (fun cdv Ar outer s H vs Q E hr h => ?_)
 · obtain ⟨R, a, b, c, rfl, _⟩ := h
   rfl
 · obtain ⟨R, ta, tb, tc, rfl, hR, la, lb, lc, k⟩ := h
   refine ⟨_, (zz3 (ps_fld (pv 0) (zz12 (G_qyy T) (hr.mono (by decide)) rfl T.m_qyy T.k_qyy T.b_qyy .nil pass0 (zz0 (pv 1) pa_nil)) rfl) (zz3 (ps_fld (pv 0) (zz12 (G_qzv T) (hr.mono (by decide)) rfl T.m_qzv T.k_qzv T.b_qzv .nil pass0 (zz0 (pv 2) (zz0 pe_int (zz0 pe_int pa_nil)))) rfl) (zz3 (ps_if (PW.pt (pw_or (zz6 op_isN (pe_fld (pv 0) rfl) pe_non (nomark _)) (pw_or1 (zz6 op_isN (pe_fld (pv 0) rfl) pe_non (nomark _))))) (zz5 (ps_ret pe_bl)) zz8) (zz3 (ps_fld (pv 0) (zz12 (G_qzv T) (hr.mono (by decide)) rfl T.m_qzv T.k_qzv T.b_qzv .nil pass0 (zz0 (pv 3) (zz0 pe_int (zz0 (pe_fld (pv 0) rfl) pa_nil)))) rfl) (zz5 (ps_ret (pe_cmpR op_notN (pe_fld (pv 0) rfl) pe_non (nomark _)))))))), ?_⟩
   walk_at "rd"
   obtain ⟨p, dx, st, sz0, en0, a, b, lw, e, bw⟩ := R
   dsimp only at *
   refine ⟨la, fun H1 s1 => ⟨_, _, _, s1 _ _ hR, T.cl_qwv, T.no_qwv_step, by show 8 < 1000; decide, lb, fun H2 s2 => ?_⟩⟩
   refine ⟨_, _, _, s2 _ _ zz1, T.cl_qwv, T.no_qwv_size, by show 8 < 1000; decide, _, _, _, zz1, T.cl_qwv, T.no_qwv_step, stepF ta, rfl, ?_⟩
   have kept : ∀ x o, x ≠ p → H x = some o → ∀ u v, upd H2 p (HO.ins u dx v) x = some o := fun x o nx q u v => by
     rw [upd_ne nx]; exact s2 _ _ (by rw [upd_ne nx]; exact s1 _ _ q)
   rcases stepF_cases ta with ea | ⟨n, ea⟩
   · rw [ea, if_pos (by simp)]
     rcases k with ⟨n, sz, en, k1, _⟩ | ⟨_, k⟩
     · rw [ea] at k1; cases k1
     · exact k _ fun x o nx q => kept x o nx q _ _
   rw [ea, if_neg (by simp)]
   refine ⟨_, _, _, zz1, T.cl_qwv, T.no_qwv_size, numF tb 0 4294967295, rfl, ?_⟩
   rcases numF_cases tb 0 4294967295 with eb | ⟨sz, eb⟩
   · rw [eb, if_pos (by simp)]
     rcases k with ⟨n, sz, en, k0, k1, _⟩ | ⟨_, k⟩
     · rw [eb] at k1; cases k1
     · exact k _ fun x o nx q => kept x o nx q _ _
   rw [eb, if_neg (by simp)]
   refine ⟨_, _, _, zz1, T.cl_qwv, T.no_qwv_size, .int sz, rfl, sz, rfl, lc, fun H3 s3 => ?_⟩
   refine ⟨_, _, _, s3 _ _ zz1, T.cl_qwv, T.no_qwv_entry, by show 8 < 1000; decide, _, _, _, zz1, T.cl_qwv, T.no_qwv_entry, numF tc 0 sz, rfl, ?_⟩
   have kept3 : ∀ x o, x ≠ p → H x = some o → ∀ u v, upd H3 p (HO.ins u dx v) x = some o := fun x o nx q u v => by
     rw [upd_ne nx]; exact s3 _ _ (kept x o nx q _ _)
   rcases k with ⟨n', sz', en, k0, k1, k2, k⟩ | ⟨bad, k⟩
   · rw [ea] at k0; cases k0
     rw [eb] at k1; cases k1
     rw [k2]
     exact k _ (fun x o nx q => kept3 x o nx q _ _) zz1
   · have ec : numF tc 0 sz = .non := by
       rcases bad with q | q | ⟨sz', q, q2⟩
       · rw [ea] at q; cases q
       · rw [eb] at q; cases q
       · rw [eb] at q; cases q; exact q2
     rw [ec]
     exact k _ (fun x o nx q => kept3 x o nx q _ _)
theorem hmp_val (h : Str) : valV HMP (.inr h) = none ∨ ∃ n, valV HMP (.inr h) = some (.int n) := by
 cases e : valV HMP (.inr h) with
 | none => exact .inl rfl
 | some v =>
   refine .inr ?_
   unfold valV at e
   obtain ⟨p, hp, rfl⟩ := Option.map_eq_some_iff.mp e
   have hm := List.mem_of_find?_eq_some hp
   unfold HMP at hm
   simp only [List.mem_cons, List.not_mem_nil, or_false] at hm
   rcases hm with rfl | rfl | rfl | rfl <;> exact ⟨_, rfl⟩
theorem atI_head {α : Type} {x : α} {xs : List α} : atI (x :: xs) 0 = some x := by
 unfold atI ixN
 rw [if_pos (by decide), if_pos (by rw [List.length_cons]; omega)]
 rfl
theorem G_qqk (T : Txt w K mg A) : FnOk P w K mg base CX0 4 A.qqk A.fd_qqk ["self", "parts"] (sp_takesX A) := by
 refine T.F_qqk.ok sc_qqk (fun vs H Q E h => ?_) (fun cdv Ar outer s H vs Q E hr h => ?_)
 · obtain ⟨H0, R, l, ps, S, m, rfl, _⟩ := h
   rfl
 · obtain ⟨H0, R, l, ps, S, m, rfl, hl, nla, hR, hm, hpl, k⟩ := h
   refine ⟨_, (zz3 (ps_set (i := 2) sc_qqk.nd rfl (by walk_at "o") (pe_ix (zz17 (K := K) rfl) (pv 1) pe_int (fun _ _ => rfl))) (zz3 (ps_set (i := 3) sc_qqk.nd rfl (by walk_at "o") (pe_fld (pv 0) rfl)) (zz3 (ps_fld (pv 0) (pe_cmpR op_eq (pv 2) pe_str (nomark _)) rfl) (zz3 (ps_if (PW.pt (pw_or (zz6 op_ne (zz21 (call_lenK (K := K) rfl) (by rfl) T.n_len bt_len (zz0 (pv 1) pa_nil)) (pe_kget (pe_glob (v := .ref A.o_HOW_MANY_PARTS) rfl T.g_HOW_MANY_PARTS rfl) T.q_HOW_MANY_PARTS (pv 2) ⟨rfl, rfl, rfl, rfl⟩) (nomark _)) (pw_or1 (zz6 op_ne (pe_cmpR op_eq (pv 2) pe_str (nomark _)) (pe_cmpR op_isN (pe_fld (pv 0) rfl) pe_non (nomark _)) (nomark _))))) (zz5 (ps_ret pe_bl)) zz8) (zz3 (ps_if (zz6 op_eq (pv 2) pe_str (nomark _)) (zz5 (ps_ret (pe_meth (pv 0) T.cl_qwv T.me_qqq (G_qqq T) (hr.mono (by decide)) T.b_qqq .nil pass0 (zz0 (pe_ix (zz17 (K := K) rfl) (pv 1) pe_int (fun _ _ => rfl)) (zz0 (pe_ix (zz17 (K := K) rfl) (pv 1) pe_int (fun _ _ => rfl)) (zz0 (pe_ix (zz17 (K := K) rfl) (pv 1) pe_int (fun _ _ => rfl)) pa_nil)))))) zz8) (zz3 (ps_if (zz6 op_eq (pv 2) pe_str (nomark _)) (zz5 (ps_ret (pe_meth (pv 0) T.cl_qwv T.me_qqz (G_qqz T) (hr.mono (by decide)) T.b_qqz .nil pass0 (zz0 (pe_ix (zz17 (K := K) rfl) (pv 1) pe_int (fun _ _ => rfl)) pa_nil)))) zz8) (zz3 (ps_if (zz6 op_eq (pv 2) pe_str (nomark _)) (zz5 (ps_ret (pe_meth (pv 0) T.cl_qwv T.me_qqy (G_qqy T) (hr.mono (by decide)) T.b_qqy .nil pass0 (zz0 (pe_ix (zz17 (K := K) rfl) (pv 1) pe_int (fun _ _ => rfl)) pa_nil)))) zz8) (zz5 (ps_ret (pe_and (pv 3) (pe_one (pe_meth (pv 0) T.cl_qwv T.me_qqw (G_qqw T) (hr.mono (by decide)) T.b_qqw .nil pass0 (zz0 (pe_ix (zz17 (K := K) rfl) (pv 1) pe_int (fun _ _ => rfl)) (zz0 (pe_ix (zz17 (K := K) rfl) (pv 1) pe_int (fun _ _ => rfl)) pa_nil)))))))))))))), ?_⟩
   walk_at "rd"
   have hlp : l ≠ R.p := ne_of hl hR.top (by intro z; cases z)
   have l1 : ∀ o, upd H R.p o l = some (.lst (ps.map V.str)) := fun o => by rw [upd_ne hlp]; exact hl
   rcases k with ⟨r, rfl, hok, k⟩ | ⟨bad, k⟩
   · cases r with
     | part n =>
       obtain ⟨q, hq, w1, w2, w3⟩ := hok
       walk_at "1"
       walk_at "2"
       have vp : valV [(Sum.inr (Str.ofString "whole"), V.int 4), (Sum.inr (Str.ofString "part"), V.int 2), (Sum.inr (Str.ofString "word"), V.int 2), (Sum.inr (Str.ofString "lean"), V.int 3)] (Sum.inr (Str.ofString "part") : Key) = some (.int 2) := by kernel_rfl
       have c1 : decide (V.str (Str.ofString "part") = V.str (Str.ofString "word")) = false := by decide +kernel
       have c2 : decide (V.str (Str.ofString "part") = V.str (Str.ofString "whole")) = false := by decide +kernel
       refine ⟨_, SqL.of hl, _, rfl, _, _, _, hR.top, T.cl_qwv, T.no_qwv_behind_word, .bl R.bw, rfl, rfl, _, _, _, hR.top, T.cl_qwv, T.no_qwv_behind_word, by show 8 < 1000; decide, _, .inl ⟨_, SqL.of (l1 _), rfl⟩, Sum.inr "part", rfl, ?_⟩
       rw [vp, c1]
       refine ⟨rfl, ?_⟩
       rw [if_neg (by show ¬ (!decide (V.int 2 = V.int 2)) = true; simp)]
       refine ⟨rfl, _, _, _, zz1, T.cl_qwv, T.no_qwv_step, R.st, rfl, ?_⟩
       rw [c2, hst, if_neg (by simp)]
       refine ⟨rfl, ?_⟩
       have O := hR.bwd false
       have lq := l1 (.ins A.c_qwv R.dx (Rdg.fs { R with bw := false }))
       walk_at "3"
       generalize upd H R.p (.ins A.c_qwv R.dx (Rdg.fs { R with bw := false })) = H1 at *
       obtain ⟨qs, q1, q2, q3, q4, q5⟩ := O.ps
       obtain ⟨ts, t1, t2, t3⟩ := O.ls
       obtain ⟨b1, b2, b3⟩ := O.n1
       have ee := hR.e
       have e0 := hR.e0
       dsimp only at q1 q2 q4 q5 t1 t2 t3 b1 b2 b3
       rw [if_neg (by simp)]
       refine ⟨rfl, ?_⟩
       rw [if_pos (by simp)]
       refine ⟨_, _, O.top, rfl, _, SqL.of lq, _, rfl, { R with bw := false }, rfl, _, rfl, O.top, _, hsz, _, q2, by rw [List.length_map]; omega, hpl _ (by simp [Row.parts]), .inl ⟨n, by show numF (Str.ofString (toString n)) R.e _ = _; rw [numF_str (by omega) (by omega), if_pos ⟨by omega, w2⟩], fun l' t H' nlt fl ft fr a1 a2 a3 a4 => ?_⟩⟩
       exact k { R with bw := false, e := n, lw := .ref l' } H' rfl rfl rfl (O.part (by omega) q2 nlt fl ft fr a1 a2 a3 a4)
     | word n =>
       obtain ⟨q, hq, w0, w1, w2, w3⟩ := hok
       walk_at "1"
       walk_at "2"
       have vp : valV [(Sum.inr (Str.ofString "whole"), V.int 4), (Sum.inr (Str.ofString "part"), V.int 2), (Sum.inr (Str.ofString "word"), V.int 2), (Sum.inr (Str.ofString "lean"), V.int 3)] (Sum.inr (Str.ofString "word") : Key) = some (.int 2) := by kernel_rfl
       have c1 : decide (V.str (Str.ofString "word") = V.str (Str.ofString "word")) = true := by decide +kernel
       have c2 : decide (V.str (Str.ofString "word") = V.str (Str.ofString "whole")) = false := by decide +kernel
       refine ⟨_, SqL.of hl, _, rfl, _, _, _, hR.top, T.cl_qwv, T.no_qwv_behind_word, .bl R.bw, rfl, rfl, _, _, _, hR.top, T.cl_qwv, T.no_qwv_behind_word, by show 8 < 1000; decide, _, .inl ⟨_, SqL.of (l1 _), rfl⟩, Sum.inr "word", rfl, ?_⟩
       rw [vp, c1]
       refine ⟨rfl, ?_⟩
       rw [if_neg (by show ¬ (!decide (V.int 2 = V.int 2)) = true; simp)]
       refine ⟨rfl, _, _, _, zz1, T.cl_qwv, T.no_qwv_step, R.st, rfl, ?_⟩
       rw [c2, hst, if_neg (by simp)]
       refine ⟨rfl, ?_⟩
       have O := hR.bwd true
       have lq := l1 (.ins A.c_qwv R.dx (Rdg.fs { R with bw := true }))
       rw [show putF (Str.ofString "behind_word") (V.bl true) R.fs = Rdg.fs { R with bw := true } from rfl]
       generalize upd H R.p (.ins A.c_qwv R.dx (Rdg.fs { R with bw := true })) = H1 at *
       obtain ⟨qs, q1, q2, q3, q4, q5⟩ := O.ps
       obtain ⟨ts, t1, t2, t3⟩ := O.ls
       obtain ⟨b1, b2, b3⟩ := O.n1
       have ee := hR.e
       have e0 := hR.e0
       dsimp only at q1 q2 q4 q5 t1 t2 t3 b1 b2 b3
       have c3 : decide (V.str (Str.ofString "word") = V.str (Str.ofString "part")) = false := by decide +kernel
       rw [if_neg (by simp)]
       refine ⟨rfl, ?_⟩
       rw [c3, if_neg (by simp)]
       refine ⟨rfl, ?_⟩
       rw [if_pos (by simp)]
       have qne : qs ≠ [] := fun z => by rw [z] at q1; exact w0 (List.eq_nil_of_length_eq_zero q1.symm)
       have el : qs.getLast? = some (qs.getLast qne) := List.getLast?_eq_some_getLast qne
       generalize qs.getLast qne = u at el
       rw [el] at q5
       have hu : ∃ x ∈ S.ps, H1 u.2 = some (.lst (x.2.map V.int)) := by
         obtain ⟨i, hi⟩ := List.getElem?_of_mem (List.mem_of_getLast? el)
         have hi2 : i < S.ps.length := by rw [← q1]; exact (List.getElem?_eq_some_iff.mp hi).1
         exact ⟨S.ps[i], List.getElem_mem hi2, (q4 i u S.ps[i] hi (List.getElem?_eq_getElem hi2)).2.1⟩
       obtain ⟨x, hx, hu⟩ := hu
       have hb := b3 x hx
       refine ⟨_, _, O.top, rfl, _, SqL.of lq, _, rfl, { R with bw := true }, rfl, _, rfl, O.top, _, hsz, hpl _ (by simp [Row.parts]), .inl ⟨n, by show numF (Str.ofString (toString n)) 0 4294967295 = _; rw [numF_str (by omega) (by omega), if_pos ⟨w1, w2⟩], _, q5, _, hu, by rw [List.length_map]; omega, by show R.e < _; omega, fun H' fr a1 a2 => ?_⟩⟩
       exact k { R with bw := true, e := R.e + 1 } H' rfl rfl rfl (O.word w0 q5 hu fr a1 a2)
     | lean r n =>
       obtain ⟨w0, w1, w2, w3, w4⟩ := hok
       obtain ⟨q, hq⟩ := Option.ne_none_iff_exists'.mp w0
       walk_at "1"
       walk_at "2"
       have vp : valV [(Sum.inr (Str.ofString "whole"), V.int 4), (Sum.inr (Str.ofString "part"), V.int 2), (Sum.inr (Str.ofString "word"), V.int 2), (Sum.inr (Str.ofString "lean"), V.int 3)] (Sum.inr (Str.ofString "lean") : Key) = some (.int 3) := by kernel_rfl
       have c1 : decide (V.str (Str.ofString "lean") = V.str (Str.ofString "word")) = false := by decide +kernel
       have c2 : decide (V.str (Str.ofString "lean") = V.str (Str.ofString "whole")) = false := by decide +kernel
       refine ⟨_, SqL.of hl, _, rfl, _, _, _, hR.top, T.cl_qwv, T.no_qwv_behind_word, .bl R.bw, rfl, rfl, _, _, _, hR.top, T.cl_qwv, T.no_qwv_behind_word, by show 8 < 1000; decide, _, .inl ⟨_, SqL.of (l1 _), rfl⟩, Sum.inr "lean", rfl, ?_⟩
       rw [vp, c1]
       refine ⟨rfl, ?_⟩
       rw [if_neg (by show ¬ (!decide (V.int 3 = V.int 3)) = true; simp)]
       refine ⟨rfl, _, _, _, zz1, T.cl_qwv, T.no_qwv_step, R.st, rfl, ?_⟩
       rw [c2, hst, if_neg (by simp)]
       refine ⟨rfl, ?_⟩
       have O := hR.bwd false
       have lq := l1 (.ins A.c_qwv R.dx (Rdg.fs { R with bw := false }))
       walk_at "3"
       generalize upd H R.p (.ins A.c_qwv R.dx (Rdg.fs { R with bw := false })) = H1 at *
       obtain ⟨qs, q1, q2, q3, q4, q5⟩ := O.ps
       obtain ⟨ts, t1, t2, t3⟩ := O.ls
       obtain ⟨b1, b2, b3⟩ := O.n1
       have ee := hR.e
       have e0 := hR.e0
       dsimp only at q1 q2 q4 q5 t1 t2 t3 b1 b2 b3
       have c3 : decide (V.str (Str.ofString "lean") = V.str (Str.ofString "part")) = false := by decide +kernel
       rw [if_neg (by simp)]
       refine ⟨rfl, ?_⟩
       rw [c3, if_neg (by simp)]
       refine ⟨rfl, ?_⟩
       rw [if_neg (by simp)]
       refine ⟨true, by rw [hR.bw, w1], ?_⟩
       rw [if_pos rfl]
       refine ⟨_, _, O.top, rfl, _, SqL.of lq, _, rfl, _, SqL.of lq, _, rfl, { R with bw := false }, rfl, _, rfl, _, rfl, O.top, _, t2, by rw [List.length_map]; omega, hpl _ (by simp [Row.parts]), .inl ⟨w2, n, by show numF (Str.ofString (toString n)) _ _ = _; rw [numF_str (by omega) (by omega), if_pos ⟨w3, w4⟩], fun t H' ft fr a1 a2 => ?_⟩⟩
       exact k { R with bw := false } H' rfl rfl rfl (O.lean t2 ft fr a1 a2)
     | whole n sz en =>
       obtain ⟨hq, w1, w2, w3, w4, w5, w6, w7⟩ := hok
       have hst : R.st = .non := by have := congrArg Prod.fst hR.st; unfold stV at this; rw [hq] at this; exact this
       have vp : valV [(Sum.inr (Str.ofString "whole"), V.int 4), (Sum.inr (Str.ofString "part"), V.int 2), (Sum.inr (Str.ofString "word"), V.int 2), (Sum.inr (Str.ofString "lean"), V.int 3)] (Sum.inr (Str.ofString "whole") : Key) = some (.int 4) := by kernel_rfl
       have c1 : decide (V.str (Str.ofString "whole") = V.str (Str.ofString "word")) = false := by decide +kernel
       have c2 : decide (V.str (Str.ofString "whole") = V.str (Str.ofString "whole")) = true := by decide +kernel
       refine ⟨_, SqL.of hl, _, rfl, _, _, _, hR.top, T.cl_qwv, T.no_qwv_behind_word, .bl R.bw, rfl, rfl, _, _, _, hR.top, T.cl_qwv, T.no_qwv_behind_word, by show 8 < 1000; decide, _, .inl ⟨_, SqL.of (l1 _), rfl⟩, Sum.inr "whole", rfl, ?_⟩
       rw [vp, c1]
       refine ⟨rfl, ?_⟩
       rw [if_neg (by show ¬ (!decide (V.int 4 = V.int 4)) = true; simp)]
       refine ⟨rfl, _, _, _, zz1, T.cl_qwv, T.no_qwv_step, R.st, rfl, ?_⟩
       rw [c2, hst, if_neg (by simp)]
       refine ⟨rfl, ?_⟩
       have O := hR.bwd false
       have lq := l1 (.ins A.c_qwv R.dx (Rdg.fs { R with bw := false }))
       walk_at "3"
       generalize upd H R.p (.ins A.c_qwv R.dx (Rdg.fs { R with bw := false })) = H1 at *
       obtain ⟨qs, q1, q2, q3, q4, q5⟩ := O.ps
       obtain ⟨ts, t1, t2, t3⟩ := O.ls
       obtain ⟨b1, b2, b3⟩ := O.n1
       have ee := hR.e
       have e0 := hR.e0
       dsimp only at q1 q2 q4 q5 t1 t2 t3 b1 b2 b3
       rw [if_pos (by simp)]
       refine ⟨_, _, O.top, rfl, _, SqL.of lq, _, rfl, _, SqL.of lq, _, rfl, _, SqL.of lq, _, rfl, ?_⟩
       refine ⟨{ R with bw := false }, rfl, _, rfl, _, rfl, _, rfl, O.top, hpl _ (by simp [Row.parts]), hpl _ (by simp [Row.parts]), hpl _ (by simp [Row.parts]), .inl ⟨n, stepF_str w1 w2 w3, sz, by show numF (Str.ofString (toString sz)) _ _ = _; rw [numF_str (by omega) (by omega), if_pos ⟨w4, w5⟩], en, by show numF (Str.ofString (toString en)) _ _ = _; rw [numF_str (by omega) (by omega), if_pos ⟨w6, w7⟩], fun H' fr a1 => ?_⟩⟩
       exact k { R with bw := false, st := .int n, sz := .int sz, en := .int en } H' rfl rfl rfl (O.whole fr a1)
   · have kk : ∀ o, Q (.bl false) (upd H R.p o) := fun o => k _ (same_upd hR.f.1 hR.sm)
     obtain ⟨h, r, rfl⟩ : ∃ h r, ps = h :: r := by cases bad <;> exact ⟨_, _, rfl⟩
     refine ⟨_, SqL.of hl, V.str h, atI_head, _, _, _, hR.top, T.cl_qwv, T.no_qwv_behind_word, .bl R.bw, rfl, rfl, _, _, _, hR.top, T.cl_qwv, T.no_qwv_behind_word, by show 8 < 1000; decide, _, .inl ⟨_, SqL.of (l1 _), rfl⟩, Sum.inr h, rfl, ?_⟩
     rw [show valV [(Sum.inr (Str.ofString "whole"), V.int 4), (Sum.inr (Str.ofString "part"), V.int 2), (Sum.inr (Str.ofString "word"), V.int 2), (Sum.inr (Str.ofString "lean"), V.int 3)] (Sum.inr h : Key) = valV HMP (.inr h) from rfl, show (List.map V.str (h :: r)).length = (h :: r).length from List.length_map ..]
     refine ⟨by rcases hmp_val h with e | ⟨n, e⟩ <;> rw [e] <;> rfl, ?_⟩
     rcases (Classical.em ((valV HMP (.inr h)).getD .non = V.int ((h :: r).length : Int))).symm with hlen | hlen
     · rw [if_pos (by rw [decide_eq_false fun z => hlen z.symm]; rfl)]
       exact kk _
     rw [if_neg (by rw [decide_eq_true hlen.symm]; decide)]
     refine ⟨rfl, _, _, _, zz1, T.cl_qwv, T.no_qwv_step, R.st, rfl, ?_⟩
     have est : decide (R.st = .non) = decide (S.st = none) := by
       have := congrArg Prod.fst hR.st
       unfold stV at this
       cases hs : S.st with
       | none => rw [hs] at this; rw [show R.st = .non from this]; rfl
       | some q => rw [hs] at this; rw [show R.st = .int q.1 from this]; simp
     rw [est]
     rcases (Classical.em (decide (V.str h = V.str (Str.ofString "whole")) = decide (S.st = none))).symm with hfirst | hfirst
     · rw [if_pos (by rw [decide_eq_false hfirst]; rfl)]
       exact kk _
     rw [if_neg (by rw [decide_eq_true hfirst]; decide)]
     have kb : ∀ o H', (∀ x o', x ≠ R.p → upd H R.p o x = some o' → H' x = some o') → Q (.bl false) H' := fun o H' fr => k H' fun x o' e => fr x o' (zz4 e hR.f.1) (by rw [upd_ne (zz4 e hR.f.1)]; exact hR.sm _ _ e)
     have ks : ∀ o H', Same (upd H R.p o) H' → Q (.bl false) H' := fun o H' sm => kb o H' fun x o' _ e => sm _ _ e
     have topX : ∀ c, upd H R.p (.ins A.c_qwv R.dx (Rdg.fs { R with bw := c })) R.p = some (.ins A.c_qwv R.dx (Rdg.fs { R with bw := c })) := fun c => zz1
     refine ⟨rfl, ?_⟩
     obtain ⟨qs, q1, q2, q3, q4, q5⟩ := hR.ps
     obtain ⟨ts, t1, t2, t3⟩ := hR.ls
     obtain ⟨b1, b2, b3⟩ := hR.n1
     have nap : R.a ≠ R.p := ne_of q2 hR.top (by intro z; cases z)
     have nbp : R.b ≠ R.p := ne_of t2 hR.top (by intro z; cases z)
     cases bad with
     | len hb => exact absurd hlen hb
     | first h1 h2 =>
       rw [decide_eq_false (fun z => h1 (V.str.inj z)), decide_eq_true h2] at hfirst
       cases hfirst
     | again h1 =>
       rw [decide_eq_true rfl, decide_eq_false h1] at hfirst
       cases hfirst
     | whole hb =>
       rw [if_pos (by simp), show decide (V.str (Str.ofString "whole") = V.str (Str.ofString "word")) = false by decide +kernel, show putF (Str.ofString "behind_word") (V.bl false) R.fs = Rdg.fs { R with bw := false } from rfl]
       exact ⟨_, _, zz1, rfl, _, SqL.of (l1 _), _, rfl, _, SqL.of (l1 _), _, rfl, _, SqL.of (l1 _), _, rfl, { R with bw := false }, rfl, _, rfl, _, rfl, _, rfl, zz1, hpl _ (by simp), hpl _ (by simp), hpl _ (by simp), .inr ⟨hb, fun H' fr => kb _ H' fr⟩⟩
     | part hb =>
       rw [show decide (V.str (Str.ofString "part") = V.str (Str.ofString "whole")) = false by decide +kernel, show decide (V.str (Str.ofString "part") = V.str (Str.ofString "word")) = false by decide +kernel, show putF (Str.ofString "behind_word") (V.bl false) R.fs = Rdg.fs { R with bw := false } from rfl, if_neg (by simp)]
       refine ⟨rfl, ?_⟩
       rw [if_pos (by simp)]
       rw [show decide (V.str (Str.ofString "part") = V.str (Str.ofString "whole")) = false by decide +kernel] at hfirst
       obtain ⟨q, hq⟩ := Option.ne_none_iff_exists'.mp (of_decide_eq_false hfirst.symm)
       walk_at "2"
       exact ⟨_, _, zz1, rfl, _, SqL.of (l1 _), _, rfl, { R with bw := false }, rfl, _, rfl, zz1, _, hsz, _, by show upd H R.p _ R.a = _; rw [upd_ne nap]; exact q2, by rw [List.length_map]; omega, hpl _ (by simp), .inr ⟨by show numF _ R.e _ = _; rw [hR.e]; exact hb q hq, fun H' sm => ks _ H' sm⟩⟩
     | word hb =>
       rw [show decide (V.str (Str.ofString "word") = V.str (Str.ofString "whole")) = false by decide +kernel, show decide (V.str (Str.ofString "word") = V.str (Str.ofString "word")) = true by decide +kernel, show putF (Str.ofString "behind_word") (V.bl true) R.fs = Rdg.fs { R with bw := true } from rfl, if_neg (by simp)]
       refine ⟨rfl, ?_⟩
       rw [show decide (V.str (Str.ofString "word") = V.str (Str.ofString "part")) = false by decide +kernel, if_neg (by simp)]
       refine ⟨rfl, ?_⟩
       rw [if_pos (by simp)]
       rw [show decide (V.str (Str.ofString "word") = V.str (Str.ofString "whole")) = false by decide +kernel] at hfirst
       obtain ⟨q, hq⟩ := Option.ne_none_iff_exists'.mp (of_decide_eq_false hfirst.symm)
       walk_at "2"
       have hlw : R.lw = .non ∨ ∃ l, R.lw = .ref l := by
         rw [q5]
         cases qs.getLast? with
         | none => exact .inl rfl
         | some u => exact .inr ⟨_, rfl⟩
       refine ⟨_, _, zz1, rfl, _, SqL.of (l1 _), _, rfl, { R with bw := true }, rfl, _, rfl, zz1, _, hsz, hpl _ (by simp), .inr ⟨?_, hlw, fun H' sm => ks _ H' sm⟩⟩
       rcases hb with hb | hb | hb
       · exact .inl hb
       · refine .inr (.inl ?_)
         show R.lw = .non
         rw [q5, show qs = [] from List.eq_nil_of_length_eq_zero (by rw [q1, hb]; rfl)]; rfl
       · refine .inr (.inr ?_)
         show _ ≤ R.e
         rw [hR.e]; exact hb q hq
     | lean hb =>
       rw [show decide (V.str (Str.ofString "lean") = V.str (Str.ofString "whole")) = false by decide +kernel, show decide (V.str (Str.ofString "lean") = V.str (Str.ofString "word")) = false by decide +kernel, show putF (Str.ofString "behind_word") (V.bl false) R.fs = Rdg.fs { R with bw := false } from rfl, if_neg (by simp)]
       refine ⟨rfl, ?_⟩
       rw [show decide (V.str (Str.ofString "lean") = V.str (Str.ofString "part")) = false by decide +kernel, if_neg (by simp)]
       refine ⟨rfl, ?_⟩
       rw [if_neg (by simp)]
       refine ⟨R.bw, rfl, ?_⟩
       cases hbw : R.bw with
       | false => rw [if_neg (by simp)]; exact ks _ _ (Same.refl _)
       | true =>
         rw [if_pos rfl]
         rw [hR.bw] at hbw
         have hb : ¬ isR _ ∨ _ := hb.resolve_left fun z => by rw [hbw] at z; cases z
         exact ⟨_, _, zz1, rfl, _, SqL.of (l1 _), _, rfl, _, SqL.of (l1 _), _, rfl, { R with bw := false }, rfl, _, rfl, _, rfl, zz1, _, by show upd H R.p _ R.b = _; rw [upd_ne nbp]; exact t2, by rw [List.length_map]; omega, hpl _ (by simp), .inr ⟨hb, fun H' sm => ks _ H' sm⟩⟩
theorem few_log {p : Int} (h : Few p) : p.natAbs.log2 < 240 := by
 unfold Few at h
 by_cases hz : p.natAbs = 0
 · rw [hz]; decide
 · exact (Nat.log2_lt (n := p.natAbs) (k := 240) hz).mpr (by omega)
theorem few_len {p : Int} (h : Few p) : (Str.ofString (toString p)).length ≤ 241 := by
 open PySem in
 rw [PySem.ofString_length]
 exact int_text_length_le (by decide) (few_log h)
theorem free_of {H : Hp} {p q : Addr} {o : HO} (h : upd H p o q = none) : q ≠ p ∧ H q = none := by
 have n : q ≠ p := fun e => by rw [e, zz1] at h; cases h
 exact ⟨n, by rw [upd_ne n] at h; exact h⟩
theorem G_qqj (T : Txt w K mg A) : FnOk P w K mg base CX0 1 A.qqj A.fd_qqj ["self", "row"] (sp_nwinit A) := by
 refine T.F_qqj.ok sc_qqj (fun vs H Q E h => ?_) (fun cdv Ar outer s H vs Q E hr h => ?_)
 · obtain ⟨a, p, rfl, _⟩ := h
   rfl
 · obtain ⟨a, p, rfl, ha, hp, k⟩ := h
   refine ⟨_, (zz3 (ps_expr (pe_xinit rfl T.mc_qzk T.bi_qzk (zz0 (pv 0) (zz0 (pe_joined (pj_cons pe_str (pj_cons (pe_fmt (pv 1)) (pj_cons pe_str pj_nil)))) pa_nil)))) (zz5 (ps_xfld (pv 0) (pv 1) rfl))), ?_⟩
   walk_at "rd"
   have l1 := few_len hp
   have l0 : Str.empty.length = 0 := rfl
   have l3 : (Str.ofString "row ").length = 4 := by decide +kernel
   have l4 : (Str.ofString " cannot stand in a whole").length = 24 := by decide +kernel
   have sz : ∀ m : Nat, m ≤ 400 → m ≤ sizeLine := fun m h => by rw [sizeLine_eq]; omega
   refine ⟨sz _ (by rw [slen]; omega), by have := few_log hp; omega, sz _ (by rw [slen, slen]; omega), sz _ (by rw [slen, slen, slen]; omega), sz _ (by rw [slen, slen, slen]; omega), A.c_qyx, none, ha, A.qqj, T.er_qyx, sz _ (by decide), A.c_qyx, A.qqj, none, ha, T.er_qyx, T.no_qyx_row, .inl ⟨rfl, fun d hd => ?_⟩⟩
   have hne : d ≠ a := Ne.symm (zz4 ha hd)
   refine k d _ hd hne (fun b o hb q => ?_) zz1 ?_
   · rw [upd_ne hb, upd_ne (zz4 q hd)]; exact q
   · rw [upd_ne hne, zz1]
theorem mem_join_le {sep : Str} : ∀ {ps : List Str} {p : Str}, p ∈ ps → p.length ≤ (Str.join sep ps).length
 | [x], p, h => by rw [List.mem_singleton.mp h]; exact Nat.le_refl _
 | x :: y :: r, p, h => by
   show _ ≤ (x ++ sep ++ Str.join sep (y :: r)).length
   rw [slen, slen]
   rcases List.mem_cons.mp h with rfl | h
   · omega
   · have := mem_join_le (sep := sep) h
     omega
theorem G_qzx (T : Txt w K mg A) : FnOk P w K mg base (CXE P w) 5 A.qzx A.fd_qzx ["text"] (sp_readX A) := by
 refine T.F_qzx.okE sc_qzx (fun vs H Q E h => ?_) (fun cdv Ar outer s H vs Q E hr h => ?_)
 · rcases h with ⟨rows, rfl, _⟩ | ⟨ts, g, b, r, rfl, _⟩ <;> rfl
 · refine ⟨_, (zz3 (ps_set (i := 1) sc_qzx.nd rfl (by walk_at "o") (pe_make0 T.mk_qwv (G_qqx T) (hr.mono (by decide)) rfl T.mc_qwv T.b_qqx .nil pass0 )) (zz3 (ps_forX passL_cx rfl (pi_enum1 (K := K) rfl rfl T.n_enumerate (zz0 (pe_bm PySem.F.plainAttrs_str PySem.F.slot_str_split PySem.F.type_str_split mt_split (pv 0) (zz0 pe_str pa_nil)) pa_nil)) (pg_tupK (K := K) (n := 2) rfl rfl (pgs_cons (pg_name (i := 2) sc_qzx.nd rfl (by walk_at "o")) (pgs_cons (pg_name (i := 3) sc_qzx.nd rfl (by walk_at "o")) pgs_nil))) (zz5 (ps_if (pt_not (pt_val (pe_meth (pv 1) T.cl_qwv T.me_qqk (G_qqk T) (hr.mono (by decide)) T.b_qqk .nil pass0 (zz0 (pe_bm PySem.F.plainAttrs_str PySem.F.slot_str_split PySem.F.type_str_split mt_split (pv 3) (zz0 pe_str pa_nil)) pa_nil)))) (zz5 (ps_raiseI (G_qqj T) (hr.mono (by decide)) T.b_qqj T.er_qyx rfl T.mc_qyx rfl xe_wish (zz0 (pv 2) pa_nil))) zz8))) (zz5 (ps_ret (pe_tup (zz0 (pe_fld (pv 1) rfl) (zz0 (pe_fld (pv 1) rfl) (zz0 (pe_fld (pv 1) rfl) (zz0 (pe_fld (pv 1) rfl) (zz0 (pe_fld (pv 1) rfl) pa_nil)))))))))), ?_⟩
   obtain ⟨ts, good, rfl, tne, tlen, tl, tnl, hsm, hok, fin⟩ : ∃ (ts : List Str) (good : List Row), vs = [.str (Txt.join (Str.ofString "\n") ts)] ∧ ts ≠ [] ∧ ts.length ≤ 300 ∧ (∀ t ∈ ts, t.length ≤ 1000) ∧ (∀ t ∈ ts, 10 ∉ t.cps.toList) ∧ (∀ r ∈ good, r.Small) ∧ (∀ (i : Nat) (r : Row), good[i]? = some r → (runR good i).Takes r) ∧
       ((ts = good.map rowT ∧ ∀ (q : Addr) (R : Rdg) (H' : Hp), Same H H' → H' q = some (.tup [R.st, R.sz, R.en, .ref R.a, .ref R.b]) → Rdg.Ok A H H' R (runR good good.length) good.length → Q (.ref q) H') ∨
        (∃ (b : Str) (rest : List Str), ts = good.map rowT ++ b :: rest ∧ (∀ p ∈ Txt.split b (Str.ofString " "), p.length ≤ 600) ∧ Bad (runR good good.length) (Txt.split b (Str.ofString " ")) ∧ ∀ d H', Same H H' → H' d = some (xdR ((good.length : Int) + 1)) → E (.ref A.c_qyx) (some d) H')) := by
     rcases h with ⟨rows, rfl, hne, hlen, hsm, hok, k⟩ | ⟨ts, good, b, rest, rfl, hB, k⟩
     · refine ⟨rows.map rowT, rows, rfl, by simpa using hne, by rw [List.length_map]; exact hlen, fun t ht => ?_, fun t ht => ?_, hsm, hok, .inl ⟨rfl, k⟩⟩
       · obtain ⟨r, hr, rfl⟩ := List.mem_map.mp ht
         exact (Row.good (hsm r hr)).1
       · obtain ⟨r, hr, rfl⟩ := List.mem_map.mp ht
         exact (Row.good (hsm r hr)).2.1
     · exact ⟨ts, good, rfl, by rw [hB.eq]; simp, hB.n, hB.len, hB.nl, hB.small, hB.takes, .inr ⟨b, rest, hB.eq, hB.bl, hB.bad, k⟩⟩
   walk_at "rd"
   have lb : (Str.ofString "\n").length = 1 := by decide +kernel
   have hzl : (Txt.join (Str.ofString "\n") ts).length < sizeLine := Nat.lt_of_le_of_lt (join_le tl) (by rw [lb, sizeLine_eq]; omega)
   have es : Txt.split (Txt.join (Str.ofString "\n") ts) (Str.ofString "\n") = ts := by
     rw [nl_one]
     exact split_join tne tnl
   have gle : good.length ≤ ts.length := by
     rcases fin with ⟨e, _⟩ | ⟨b, rest, e, _⟩ <;> rw [e] <;> simp
   intro x dx fx fdx ndx
   refine ⟨dx, zz1, fun a b H1 nab fa fb fr ha hb hx => ⟨rfl, by decide +kernel, hzl, fun l fl => ?_⟩⟩
   rw [es]
   have nxa : a ≠ x := fun z => by rw [z, zz1] at fa; cases fa
   have nxb : b ≠ x := fun z => by rw [z, zz1] at fb; cases fb
   have fa' : H a = none := by
     rw [upd_ne nxa] at fa
     by_cases z : a = dx
     · rw [z]; exact fdx
     · rw [upd_ne z] at fa; exact fa
   have fb' : H b = none := by
     rw [upd_ne nxb] at fb
     by_cases z : b = dx
     · rw [z]; exact fdx
     · rw [upd_ne z] at fb; exact fb
   have s1 : Same H H1 := fun y o e => fr _ _ (zz4 e fx) (by rw [upd_ne (zz4 e fx), upd_ne (zz4 e fdx)]; exact e)
   have fl0 : H l = none := by
     cases hh : H l with
     | none => rfl
     | some o => rw [s1 _ _ hh] at fl; cases fl
   have nlx : l ≠ x := Ne.symm (zz4 hx fl)
   have nla : l ≠ a := Ne.symm (zz4 ha fl)
   have nlb : l ≠ b := Ne.symm (zz4 hb fl)
   have O0 : Rdg.Ok A (upd H l (.lst (ts.map V.str))) (upd H1 l (.lst (ts.map V.str))) ⟨x, dx, .non, .non, .non, a, b, .non, 0, false⟩ (runR good 0) 0 := by
     refine ⟨fun y o e => ?_, ⟨by rw [upd_ne nlx.symm]; exact fx, by rw [upd_ne nla.symm]; exact fa', by rw [upd_ne nlb.symm]; exact fb'⟩, by rw [upd_ne nlx.symm]; exact hx, rfl, rfl, Int.le_refl _, rfl, nab, ⟨[], rfl, by rw [upd_ne nla.symm]; exact ha, by simp, fun i q y h => by simp at h, rfl⟩, ⟨[], rfl, by rw [upd_ne nlb.symm]; exact hb, fun i q y h => by simp at h⟩, ⟨Nat.zero_le _, Nat.zero_le _, fun y hy => by cases hy⟩⟩
     by_cases z : y = l
     · rw [z, zz1] at e ⊢; exact e
     · rw [upd_ne z] at e ⊢; exact s1 _ _ e
   have sH : Same H (upd H l (.lst (ts.map V.str))) := zz2 fl0
   have lH : upd H l (.lst (ts.map V.str)) l = some (.lst (ts.map V.str)) := zz1
   generalize upd H l (.lst (ts.map V.str)) = H0 at O0 sH lH
   refine ForE1.of (xs := ts.map V.str) (fun i σ H' => i ≤ good.length ∧ ∃ (R : Rdg) (b2 b3 : Option V), σ = [some (.str (Txt.join (Str.ofString "\n") ts)), some (.ref R.p), b2, b3] ∧ Rdg.Ok A H0 H' R (runR good i) i)
     ⟨Nat.zero_le _, _, _, _, rfl, O0⟩ ?_ ?_ ?_
   · rintro i σ H' hi ⟨hig, R, b2, b3, rfl, O⟩
     exact SqL.of (O.sm _ _ lH)
   · rintro i v σ H' q hv ⟨hig, R, b2, b3, rfl, O⟩ fq
     rw [List.getElem?_map] at hv
     obtain ⟨t, ht, rfl⟩ := Option.map_eq_some_iff.mp hv
     have htm := List.mem_of_getElem? ht
     have hi : i < ts.length := (List.getElem?_eq_some_iff.mp ht).1
     walk_at "rd"
     have s2 := zz2 (o := HO.tup [V.int ((i + 1 : Nat) : Int), V.str t]) fq
     refine ⟨_, SqT.of zz1, rfl, _, _, rfl, _, _, rfl, rfl, _, _, s2 _ _ O.top, rfl, rfl, t, rfl, by decide +kernel, Nat.lt_of_le_of_lt (tl t htm) (by walk_at "s"), fun l' fl' => ?_⟩
     have s3 := zz2 (o := HO.lst (List.map V.str (Txt.split t (Str.ofString " ")))) fl'
     have O2 := O.mono (s2.trans s3)
     have nla' : l' ≠ R.a := by
       obtain ⟨qs, _, q2, _⟩ := O.ps
       exact Ne.symm (zz4 (s2 _ _ q2) fl')
     rcases Nat.lt_or_ge i good.length with hlt | hge
     · have hr : good[i]? = some good[i] := List.getElem?_eq_getElem hlt
       generalize good[i] = r at hr
       have hrm := List.mem_of_getElem? hr
       have et : t = rowT r := by
         have e1 : (good.map rowT)[i]? = some (rowT r) := by rw [List.getElem?_map, hr]; rfl
         rcases fin with ⟨e, _⟩ | ⟨b, rest, e, _⟩
         · rw [e, e1] at ht; cases ht; rfl
         · rw [e, List.getElem?_append_left (by rw [List.length_map]; exact hlt), e1] at ht; cases ht; rfl
       have ep : Txt.split t (Str.ofString " ") = r.parts := by
         rw [et]
         unfold rowT
         rw [sp_one]
         exact split_join r.ne (Row.good (hsm r hrm)).2.2
       refine ⟨H0, R, rfl, r.parts, by rw [zz1, ep], nla', runR good i, i, O2, by omega, fun p hp => Nat.le_trans (Row.part_good (hsm r hrm) p hp).1 (by decide), .inl ⟨r, rfl, hok i r hr, fun R' H'' e1 e2 e3 O3 => ?_⟩⟩
       refine ⟨hlt, R', e1.symm, ?_⟩
       rw [runR_succ hr]
       exact O3
     · have eg : i = good.length := Nat.le_antisymm hig hge
       subst eg
       obtain ⟨b', rest, e, hbl, hbad, k⟩ := fin.elim (fun f => absurd hi (by rw [f.1, List.length_map]; exact Nat.lt_irrefl _)) id
       have et : t = b' := by
         rw [e, List.getElem?_append_right (by rw [List.length_map]; exact Nat.le_refl _), List.length_map, Nat.sub_self] at ht
         cases ht; rfl
       subst et
       refine ⟨H0, R, rfl, _, zz1, nla', _, _, O2, by omega, fun p hp => ?_, .inr ⟨hbad, fun H2 sm => ⟨by rw [sizeLine_eq]; decide, fun y hy => ⟨_, rfl, zz1, ⟨by omega, by omega⟩, fun d H' hd hne hk hx' hd' => .inr ⟨d, hne, hx', _, hd', k d _ (fun c o q => ?_) ?_⟩⟩⟩⟩⟩
       · exact hbl p hp
       · have q := sm _ _ (sH _ _ q)
         have hc := zz4 q hy
         have hdn := (free_of hd).2
         rw [del_ne hc, upd_ne (zz4 q hdn)]
         exact hk c o hc (by rw [upd_ne hc]; exact q)
       · rw [del_ne hne, zz1]
         exact congrArg (fun z => some (HO.xd [(Str.ofString "row", V.int z)])) (by omega)
   · rintro σ H' ⟨hig, R, b2, b3, rfl, O⟩
     rw [List.length_map] at O hig
     have k := fin.elim (fun f => f) fun ⟨b, rest, e, _⟩ => by
       have := congrArg List.length e
       rw [List.length_append, List.length_map, List.length_cons] at this
       omega
     have eg : ts.length = good.length := by rw [k.1, List.length_map]
     rw [eg] at O
     walk_at "rd"
     refine ⟨_, _, _, O.top, T.cl_qwv, T.no_qwv_step, R.st, rfl, _, _, _, O.top, T.cl_qwv, T.no_qwv_size, R.sz, rfl, _, _, _, O.top, T.cl_qwv, T.no_qwv_entry, R.en, rfl, _, _, _, O.top, T.cl_qwv, T.no_qwv_parts, .ref R.a, rfl, _, _, _, O.top, T.cl_qwv, T.no_qwv_leaning, .ref R.b, rfl, by walk_at "s", fun p fp => ?_⟩
     have s2 := zz2 (o := HO.tup [R.st, R.sz, R.en, .ref R.a, .ref R.b]) fp
     exact k.2 p R _ ((sH.trans O.sm).trans s2) zz1 ((O.mono s2).below sH)
theorem G_qzw (T : Txt w K mg A) : FnOk P w K mg base CX0 1 A.qzw A.fd_qzw ["_law_found"] sp_whole := by
 refine T.F_qzw.ok sc_qzw (fun vs H Q E h => ?_) (fun cdv Ar outer s H vs Q E hr h => ?_)
 · obtain ⟨c, rfl, _⟩ := h
   rfl
 · obtain ⟨c, rfl, k⟩ := h
   refine ⟨_, (zz5 (ps_ret (pe_and (zz21 (call_isiK (K := K) rfl) (by rfl) T.n_isinstance bt_isinstance (zz0 (pv 0) (zz0 (pe_bltn rfl T.n_int bt_int relT) pa_nil))) (pe_one (pe_not (zz21 (call_isiK (K := K) rfl) (by rfl) T.n_isinstance bt_isinstance (zz0 (pv 0) (zz0 (pe_bltn rfl T.n_bool bt_bool relT) pa_nil)))))))), ?_⟩
   walk_at "rd"
   exact ⟨_, .int c, true, rfl, iteT ⟨_, .int c, false, rfl, k⟩⟩
theorem take_snoc {α : Type} {xs : List α} {i : Nat} {x : α} (h : xs[i]? = some x) : xs.take (i + 1) = xs.take i ++ [x] := by
 obtain ⟨hl, e⟩ := List.getElem?_eq_some_iff.mp h
 rw [List.take_succ_eq_append_getElem hl, e]
theorem PM.mono {H H' : Hp} {a : Addr} {ps : List Prt} (h : PM H a ps) (s : Same H H') : PM H' a ps :=
 { h with top := s _ _ h.top, at_ := fun x hx => ⟨s _ _ (h.at_ x hx).1, s _ _ (h.at_ x hx).2⟩ }
theorem LM.mono {H H' : Hp} {a : Addr} {ls : List Ln} (h : LM H a ls) (s : Same H H') : LM H' a ls := ⟨s _ _ h.top, fun x hx => s _ _ (h.at_ x hx)⟩
theorem BOk.mono {n : Nat} {H H' : Hp} {S : BS} (h : BOk n H S) (s : Same H H') : BOk n H' S := { h with pm := h.pm.mono s, lm := h.lm.mono s }
theorem G_qwz (T : Txt w K mg A) : FnOk P w K mg base CX0 1 A.qwz A.fd_qwz ["_law_script", "_law_k"] (sp_cellat K) := by
 refine T.F_qwz.ok sc_qwz (fun vs H Q E h => ?_) (fun cdv Ar outer s H vs Q E hr h => ?_)
 · obtain ⟨a, ns, k0, rfl, _⟩ := h
   rfl
 · obtain ⟨a, ns, k0, rfl, hl, h0, k⟩ := h
   refine ⟨_, (zz3 (ps_if (zz6 op_lt (pv 1) (zz21 (call_lenK (K := K) rfl) (by rfl) T.n_len bt_len (zz0 (pv 0) pa_nil)) (nomark _)) (zz5 (ps_ret (pe_ix (zz17 (K := K) rfl) (pv 0) (pv 1) (fun _ _ => rfl)))) zz8) (zz5 (ps_ret pe_int))), ?_⟩
   walk_at "rd"
   refine ⟨_, .inl ⟨_, hl, rfl⟩, ite2 (fun h => ?_) (fun _ => k 0)⟩
   have h := of_decide_eq_true h
   obtain ⟨v, e, hm⟩ := atI_ex (xs := ns.map V.int) (i := k0) (by omega) h
   obtain ⟨m, _, rfl⟩ := List.mem_map.mp hm
   exact ⟨_, hl, _, e, k m⟩
theorem G_qww (T : Txt w K mg A) : FnOk P w K mg base CX0 1 A.qww A.fd_qww ["_law_number"] sp_target := by
 refine T.F_qww.ok sc_qww (fun vs H Q E h => ?_) (fun cdv Ar outer s H vs Q E hr h => ?_)
 · obtain ⟨c, rfl, _⟩ := h
   rfl
 · obtain ⟨c, rfl, k⟩ := h
   refine ⟨_, (zz3 (ps_if (zz6 op_eq (pe_op op_mod (pv 0) pe_int) pe_int (nomark _)) (zz5 (ps_ret (pe_op op_sub (pe_op op_mod (pe_op op_fdiv (pv 0) pe_int) pe_int) pe_int))) zz8) (zz3 (ps_if (zz6 op_eq (pe_op op_mod (pv 0) pe_int) pe_int (nomark _)) (zz5 (ps_ret (pe_op op_sub (pe_op op_mod (pe_op op_mul (pv 0) pe_int) pe_int) pe_int))) zz8) (zz5 (ps_ret (pe_op op_sub (pe_op op_add (pe_op op_mul (pe_op op_sub (pe_op op_mod (pe_op op_fdiv (pv 0) pe_int) pe_int) pe_int) pe_int) (pe_op op_mod (pe_op op_fdiv (pv 0) pe_int) pe_int)) pe_int))))), ?_⟩
   walk_at "rd"
   refine ⟨by decide, ite2 (fun _ => ⟨⟨by decide, by decide⟩, by decide, k _ (by omega) (by omega)⟩) (fun _ => ⟨by decide, ite2 (fun _ => ⟨.inr ⟨by decide, by decide⟩, by decide, k _ (by omega) (by omega)⟩) (fun _ => ⟨⟨by decide, by decide⟩, by decide, .inr ⟨by decide, by decide⟩, ⟨by decide, by decide⟩, by decide, k _ (by omega) (by omega)⟩)⟩)⟩
theorem atI_last {α : Type} {xs : List α} {x : α} : atI (xs ++ [x]) (-1) = some x := by
 unfold atI ixN
 rw [if_neg (by decide), if_pos (by simp; omega)]
 show (xs ++ [x])[(-1 + ((xs ++ [x]).length : Int)).toNat]? = some x
 have e : (-1 + ((xs ++ [x]).length : Int)).toNat = xs.length := by simp; omega
 rw [e]; simp
noncomputable def Prt.d (x : Prt) : D := .tup [.int x.p, .lst (x.ws.map D.int)]
theorem dep_prt (x : Prt) : dep x.d ≤ 3 := by
 have h1 : depL (x.ws.map D.int) ≤ 0 := depL_le fun x _ => by simp [dep]
 simp only [Prt.d, dep, depL]
 omega
theorem PM.rep {H : Hp} {a : Addr} {ps : List Prt} (h : PM H a ps) : Rep K H (.lst (ps.map Prt.d)) (.ref a) := by
 simp only [Rep]
 refine ⟨_, _, rfl, SqL.of h.top, RepL.map fun x hx => ?_⟩
 simp only [Prt.d, Rep]
 refine ⟨_, _, rfl, SqT.of (h.at_ x hx).1, ?_⟩
 simp only [RepL, Rep]
 exact ⟨_, _, rfl, rfl, _, _, rfl, ⟨_, _, rfl, SqL.of (h.at_ x hx).2, RepL.map fun w _ => by simp [Rep]⟩, rfl⟩
theorem parts_nil {H : Hp} {a q : Addr} {ps : List Prt} {R : Bool → Hp → Prop} (h : PM H a ps) (hq : H q = none) (k1 : ps = [] → R true (upd H q (HO.lst []))) (k2 : ps ≠ [] → R false (upd H q (HO.lst []))) :
   rEqD K (V.ref a) (V.ref q) (upd H q (HO.lst [])) fun x H' => ∃ k, x = V.bl k ∧ R k H' := by
 refine ⟨ps.map Prt.d, [], .inl ⟨(h.mono (zz2 hq)).rep, ⟨q, [], rfl, SqL.of zz1, by simp [RepL]⟩⟩, Nat.le_trans (depL_le fun p _ => dep_prt p) (by decide), _, rfl, ?_⟩
 rw [deqL_nil]
 by_cases z : ps = []
 · rw [decide_eq_true (by rw [z]; rfl)]; exact k1 z
 · rw [decide_eq_false (fun e => z (List.map_eq_nil_iff.mp e))]; exact k2 z
theorem last_of {α : Type} {xs : List α} (h : xs ≠ []) : ∃ ys x, xs = ys ++ [x] := ⟨xs.dropLast, xs.getLast h, (List.dropLast_concat_getLast h).symm⟩
theorem endP_last (ys : List Prt) (x : Prt) : endP (ys ++ [x]) = x.p + x.ws.length := by unfold endP; rw [List.getLast?_append]; rfl
theorem G_qyw (T : Txt w K mg A) : FnOk P w K mg base CX0 1 A.qyw A.fd_qyw ["_law_parts"] sp_end := by
 refine T.F_qyw.ok sc_qyw (fun vs H Q E h => ?_) (fun cdv Ar outer s H vs Q E hr h => ?_)
 · obtain ⟨S, n, rfl, _⟩ := h
   rfl
 · obtain ⟨S, n, rfl, B, k⟩ := h
   refine ⟨_, (zz3 (ps_if (zz6 (op_eqDK hr.units (K := K) rfl) (pv 0) (pe_lst pa_nil) (nomark _)) (zz5 (ps_ret pe_int)) zz8) (zz5 (ps_ret (pe_op op_add (pe_ix (ix_tupK (K := K) rfl) (pe_ix (zz17 (K := K) rfl) (pv 0) (pe_un un_neg pe_int) (fun _ _ => rfl)) pe_int (fun _ _ => rfl)) (zz21 (call_lenK (K := K) rfl) (by rfl) T.n_len bt_len (zz0 (pe_ix (ix_tupK (K := K) rfl) (pe_ix (zz17 (K := K) rfl) (pv 0) (pe_un un_neg pe_int) (fun _ _ => rfl)) pe_int (fun _ _ => rfl)) pa_nil)))))), ?_⟩
   walk_at "rd"
   refine ⟨Nat.zero_le _, fun q hq => parts_nil B.pm hq (fun z => ?_) (fun z => ?_)⟩
   · rw [if_pos rfl]
     have : S.e = 0 := by rw [B.en, z]; rfl
     rw [← this]; exact k _ (zz2 hq)
   · rw [if_neg (by decide)]
     obtain ⟨ys, x, e⟩ := last_of z
     have B' := B.mono (zz2 (o := HO.lst []) hq)
     have t1 := B'.pm.top
     have a1 := B'.pm.at_ x (by rw [e]; simp)
     have e1 : S.e = x.p + x.ws.length := by rw [B.en, e, endP_last]
     rw [e, List.map_append] at t1
     refine ⟨_, SqL.of t1, _, atI_last, _, rfl, _, SqT.of a1.1, _, rfl, _, SqL.of t1, _, atI_last, _, rfl, _, SqT.of a1.1, _, rfl, _, .inl ⟨_, SqL.of a1.2, rfl⟩, _, rfl, ?_⟩
     rw [List.length_map, ← e1]
     exact k _ (zz2 hq)
theorem Ordd.init {ys : List Prt} {x : Prt} {e : Int} (h : Ordd (ys ++ [x]) e) : Ordd ys x.p ∧ 0 ≤ x.p := by
 have hx : (ys ++ [x])[ys.length]? = some x := by simp
 refine ⟨⟨fun y hy => h.pos y (List.mem_append_left _ hy), fun y hy => ?_, fun i j y z hij hi hj => ?_⟩, h.pos x (by simp)⟩
 · obtain ⟨i, hi, e⟩ := List.getElem_of_mem hy
   exact h.ap i ys.length y x hi (by rw [List.getElem?_append_left hi, List.getElem?_eq_getElem hi, e]) hx
 · have h2 := (List.getElem?_eq_some_iff.mp hj).1
   exact h.ap i j y z hij (by rw [List.getElem?_append_left (by omega)]; exact hi) (by rw [List.getElem?_append_left h2]; exact hj)
theorem Ordd.snoc {ys : List Prt} {x : Prt} {e : Int} (h : Ordd ys e) (h0 : 0 ≤ e) (hx : e ≤ x.p) : Ordd (ys ++ [x]) (x.p + x.ws.length) := by
 refine ⟨fun y hy => ?_, fun y hy => ?_, fun i j y z hij hi hj => ?_⟩
 · rcases List.mem_append.mp hy with z | z
   · exact h.pos y z
   · rw [List.mem_singleton.mp z]; omega
 · rcases List.mem_append.mp hy with z | z
   · have := h.le y z; omega
   · rw [List.mem_singleton.mp z]; omega
 · have h2 := (List.getElem?_eq_some_iff.mp hj).1
   rw [List.length_append, List.length_singleton] at h2
   rw [List.getElem?_append_left (by omega)] at hi
   by_cases hl : j < ys.length
   · rw [List.getElem?_append_left hl] at hj
     exact h.ap i j y z hij hi hj
   · have : j = ys.length := by omega
     subst this
     rw [List.getElem?_append_right (Nat.le_refl _), Nat.sub_self] at hj
     cases hj
     have := h.le y (List.mem_of_getElem? hi)
     omega
theorem lenS {x : Int} (h0 : 0 ≤ x + 10 ^ 12) (h1 : x ≤ 10 ^ 12) : (Str.ofString (toString x)).length ≤ 241 ∧ x.natAbs.log2 < 1920 := by
 have f : Few x := ⟨by omega, by omega⟩
 exact ⟨few_len f, by have := few_log f; omega⟩
theorem G_qyq (T : Txt w K mg A) : FnOk P w K mg base CX0 3 A.qyq A.fd_qyq ["_law_cell", "_law_parts", "_law_leans", "_law_end_here"] sp_put := by
 refine T.F_qyq.ok sc_qyq (fun vs H Q E h => ?_) (fun cdv Ar outer s H vs Q E hr h => ?_)
 · obtain ⟨c, S, n, rfl, _⟩ := h
   rfl
 · obtain ⟨c, S, n, rfl, B, hn, k⟩ := h
   refine ⟨_, (zz3 (ps_set (i := 4) sc_qyq.nd rfl (by walk_at "o") (pe_op op_mod (pe_op op_mul (pv 0) pe_int) pe_int)) (zz3 (ps_if (PW.pt (pw_or (zz6 (op_eqDK hr.units (K := K) rfl) (pv 1) (pe_lst pa_nil) (nomark _)) (pw_or1 (zz6 op_eq (pe_op op_mod (pv 0) pe_int) pe_int (nomark _))))) (zz11 (u := pA) (zz3 (ps_set (i := 5) sc_qyq.nd rfl (by walk_at "o") (pe_op op_add (pv 3) (pe_op op_mod (pv 4) pe_int))) (zz3 (ps_if (zz6 op_eq (pe_op op_mod (pe_op op_fdiv (pv 0) pe_int) pe_int) pe_int (nomark _)) (zz5 (ps_set (i := 5) sc_qyq.nd rfl (by walk_at "o") (pe_op op_add (pv 3) (pe_op op_mod (pv 4) pe_int)))) zz8) (zz11 (u := pA2) (zz3 (ps_expr (pe_bm PySem.F.plainAttrs_list PySem.F.slot_list_append PySem.F.type_list_append mt_append (pv 1) (zz0 (pe_tup (zz0 (pv 5) (zz0 (pe_lst pa_nil) pa_nil))) pa_nil))) (zz5 (ps_ret (pe_lst (zz0 (pe_op zz7 pe_str (zz14 zz10 (by rfl) T.n_str bt_str (zz0 (pv 5) pa_nil))) pa_nil))))) ?pa2))) ?pa) zz8) (zz11 (u := pB) (zz3 (ps_set (i := 6) sc_qyq.nd rfl (by walk_at "o") (pe_op op_mod (pe_op op_mul (pv 0) pe_int) pe_int)) (zz3 (ps_if (zz6 op_eq (pe_op op_mod (pe_op op_fdiv (pv 0) pe_int) pe_int) pe_int (nomark _)) (zz5 (ps_set (i := 6) sc_qyq.nd rfl (by walk_at "o") (pe_ix (zz17 (K := K) rfl) (pe_lst (zz0 pe_int (zz0 pe_int pa_nil))) (pe_op op_mod (pe_op op_fdiv (pv 0) pe_int) pe_int) (fun _ _ => rfl)))) zz8) (zz11 (u := pB2) (zz3 (ps_set (i := 7) sc_qyq.nd rfl (by walk_at "o") (pe_lst (zz0 (pe_op zz7 pe_str (zz14 zz10 (by rfl) T.n_str bt_str (zz0 (pv 6) pa_nil))) pa_nil))) (zz3 (ps_if (zz6 op_gt (pe_op op_mod (pv 0) pe_int) pe_int (nomark _)) (zz3 (ps_set (i := 8) sc_qyq.nd rfl (by walk_at "o") (pe_ix (zz17 (K := K) rfl) (pe_lst (zz0 pe_str (zz0 pe_str (zz0 pe_str pa_nil)))) (pe_op op_mod (pv 4) pe_int) (fun _ _ => rfl))) (zz3 (ps_expr (pe_bm PySem.F.plainAttrs_list PySem.F.slot_list_append PySem.F.type_list_append mt_append (pv 2) (zz0 (pe_tup (zz0 (pv 3) (zz0 (pv 8) (zz0 (zz12 (G_qww T) (hr.mono (by decide)) rfl T.m_qww T.k_qww T.b_qww .nil pass0 (zz0 (pe_op op_fdiv (pv 4) pe_int) pa_nil)) pa_nil)))) pa_nil))) (zz5 (ps_expr (pe_bm PySem.F.plainAttrs_list PySem.F.slot_list_append PySem.F.type_list_append mt_append (pv 7) (zz0 (pe_op zz7 (pe_op zz7 (pe_op zz7 pe_str (pv 8)) pe_str) (zz14 zz10 (by rfl) T.n_str bt_str (zz0 (pe_ix (ix_tupK (K := K) rfl) (pe_ix (zz17 (K := K) rfl) (pv 2) (pe_un un_neg pe_int) (fun _ _ => rfl)) pe_int (fun _ _ => rfl)) pa_nil))) pa_nil)))))) zz8) (zz11 (u := pB3) (zz3 (ps_expr (pe_bm PySem.F.plainAttrs_list PySem.F.slot_list_append PySem.F.type_list_append mt_append (pe_ix (ix_tupK (K := K) rfl) (pe_ix (zz17 (K := K) rfl) (pv 1) (pe_un un_neg pe_int) (fun _ _ => rfl)) pe_int (fun _ _ => rfl)) (zz0 (pv 6) pa_nil))) (zz5 (ps_ret (pv 7)))) ?pb3))) ?pb2))) ?pb))), ?main⟩
   case main =>
     walk_at "rd"
     refine ⟨.inr ⟨by decide, by decide⟩, by decide, Nat.zero_le _, fun p hp => parts_nil B.pm hp (fun z => ?_) (fun z => ?_)⟩
     · rw [if_pos rfl]
       exact ⟨S, n, c, _, H, _, _, _, _, rfl, by omega, B.mono (zz2 hp), hn, zz2 hp, B, k⟩
     · rw [if_neg (by decide)]
       exact ⟨by decide, ite2 (fun _ => ⟨S, n, c, _, H, _, _, _, _, rfl, by omega, B.mono (zz2 hp), hn, zz2 hp, B, k⟩) (fun _ => ⟨S, n, c, _, H, _, _, _, _, rfl, by omega, z, B.mono (zz2 hp), hn, zz2 hp, B, k⟩)⟩
   case pa =>
     rintro D σ H ⟨S, n, c, m, H0, b5, b6, b7, b8, rfl, hm, B, hn, sm, B0, k⟩
     walk_at "rd"
     exact ⟨by decide, ⟨by decide, by decide⟩, by decide, ite2 (fun _ => ⟨by decide, S, n, c, m, _, H0, _, _, _, rfl, by omega, by omega, B, hn, sm, B0, k⟩) (fun _ => ⟨S, n, c, m, _, H0, _, _, _, rfl, by omega, by omega, B, hn, sm, B0, k⟩)⟩
   case pa2 =>
     rintro D σ H ⟨S, n, c, m, pl, H0, b6, b7, b8, rfl, hp1, hp2, B, hn, sm, B0, k⟩
     walk_at "rd"
     refine ⟨.inl ⟨rfl, _, SqL.of B.pm.top⟩, Nat.zero_le _, fun l hl => ⟨by rw [sizeLine_eq]; decide, fun t ht => ?_⟩⟩
     obtain ⟨n1, ht'⟩ := free_of ht
     have topa := B.pm.top
     have e0 := B.e0
     have e1 := B.e1
     have top' : upd (upd H l (HO.lst [])) t (HO.tup [V.int pl, V.ref l]) S.a = some (.lst (S.ps.map fun x => V.ref x.t)) := by rw [upd_ne (zz4 topa ht'), upd_ne (zz4 topa hl)]; exact topa
     have ls := lenS (x := pl) (by omega) (by omega)
     have l5 : (Str.ofString "part ").length = 5 := by decide +kernel
     have bn := B.n1
     refine ⟨_, top', by rw [List.length_map, sizeLine_eq]; omega, ls.2, by rw [sizeLine_eq]; omega, by walk_at "s", fun q hq => ?_⟩
     obtain ⟨q1, hq⟩ := free_of hq
     obtain ⟨q2, hq⟩ := free_of hq
     obtain ⟨q3, hq⟩ := free_of hq
     have hrs0 : [V.str (Str.ofString "part " ++ Str.ofString (toString pl))].length ≤ 2 := by simp
     have hR0 : [V.str (Str.ofString "part " ++ Str.ofString (toString pl))] = [V.str (rowT (.part pl))] := by rw [rowT_part]; rfl
     generalize [V.str (Str.ofString "part " ++ Str.ofString (toString pl))] = rs0 at *
     have old : ∀ x o, H x = some o → x ≠ S.a → upd (upd (upd (upd H l (HO.lst [])) t (HO.tup [V.int pl, V.ref l])) S.a (HO.lst (List.map (fun x => V.ref x.t) S.ps ++ [V.ref t]))) q (HO.lst rs0) x = some o := fun x o hx hxa => by
       rw [upd_ne (zz4 hx hq), upd_ne hxa, upd_ne (zz4 hx ht'), upd_ne (zz4 hx hl)]; exact hx
     have lx : ∀ x ∈ S.ps, x.l ≠ l := fun x hx => zz4 (B.pm.at_ x hx).2 hl
     have tt : ∀ {x : Addr} {xs : List V}, H x = some (.tup xs) → x ≠ S.a := fun {x xs} h => ne_of h topa (by intro z; cases z)
     have hla : l ≠ S.a := Ne.symm (zz4 topa hl)
     have hta : t ≠ S.a := Ne.symm (zz4 topa ht')
     have hlb : l ≠ S.b := Ne.symm (zz4 B.lm.top hl)
     have nn : ∀ {y : Addr}, H y = none → H0 y = none := fun {y} hy => by
       cases e : H0 y with
       | none => rfl
       | some o => rw [sm _ _ e] at hy; cases hy
     refine k q rs0 ⟨S.a, S.b, S.ps ++ [⟨t, l, pl, []⟩], S.ls, pl⟩ _ (fun x o hx hxa _ _ => old _ _ (sm _ _ hx) hxa) zz1 hrs0 rfl rfl ?ok (fun y hy => ?_) (nn hq) q1 (Ne.symm (zz4 B.lm.top hq)) (fun y hy => ?_) (.inl ⟨hR0, hp1, by show (S.ps ++ [_]).map Prt.core = _; rw [List.map_append]; rfl, rfl⟩)
     case ok =>
       refine { pm := ⟨?_, ?_, ?_, ?_⟩, lm := ⟨old _ _ B.lm.top (Ne.symm B.ab), fun x hx => old _ _ (B.lm.at_ x hx) (tt (B.lm.at_ x hx))⟩, ab := B.ab, nb := ?_, ord := ?_, ws := ?_, rr := ?_, lk := ?_, ln := B.ln, en := ?_, e0 := by show 0 ≤ pl; omega, e1 := ?_, n1 := ?_, n2 := Nat.le_succ_of_le B.n2, n3 := ?_, n4 := by omega }
       · show upd _ q _ S.a = _
         rw [upd_ne (Ne.symm q1), zz1, List.map_append]; rfl
       · intro x hx
         rcases List.mem_append.mp hx with z | z
         · exact ⟨old _ _ (B.pm.at_ x z).1 (tt (B.pm.at_ x z).1), old _ _ (B.pm.at_ x z).2 (B.pm.na x z)⟩
         · rw [List.mem_singleton.mp z]
           refine ⟨?_, ?_⟩
           · show upd _ q _ t = _
             rw [upd_ne (Ne.symm q2), upd_ne hta, zz1]
           · show upd _ q _ l = _
             rw [upd_ne (Ne.symm q3), upd_ne hla, upd_ne (Ne.symm n1), zz1]; rfl
       · rw [List.map_append, List.nodup_append]
         refine ⟨B.pm.nd, by simp, fun a ha b hb => ?_⟩
         obtain ⟨x, hx, rfl⟩ := List.mem_map.mp ha
         simp only [List.map_cons, List.map_nil, List.mem_singleton] at hb
         rw [hb]; exact lx x hx
       · intro x hx
         rcases List.mem_append.mp hx with z | z
         · exact B.pm.na x z
         · rw [List.mem_singleton.mp z]; exact hla
       · intro x hx
         rcases List.mem_append.mp hx with z | z
         · exact B.nb x z
         · rw [List.mem_singleton.mp z]; exact hlb
       · have := B.ord.snoc (x := ⟨t, l, pl, []⟩) B.e0 hp1
         simpa using this
       · intro x hx
         rcases List.mem_append.mp hx with z | z
         · exact B.ws x z
         · rw [List.mem_singleton.mp z]; intro u hu; cases hu
       · intro x hx
         have := B.rr x hx
         exact ⟨this.1, this.2.1, this.2.2.1, by have := this.2.2.2; show x.p < pl; omega⟩
       · intro x hx
         obtain ⟨y, hy, h1, h2⟩ := B.lk x hx
         exact ⟨y, List.mem_append_left _ hy, h1, h2⟩
       · show pl = endP (S.ps ++ [⟨t, l, pl, []⟩])
         rw [endP_last]; simp
       · show pl ≤ ((n + 1 : Nat) : Int) * 10000001
         rw [Int.natCast_add]; omega
       · show (S.ps ++ [(⟨t, l, pl, []⟩ : Prt)]).length ≤ n + 1
         rw [List.length_append]; exact Nat.succ_le_succ B.n1
       · intro x hx
         rcases List.mem_append.mp hx with z | z
         · exact Nat.le_succ_of_le (B.n3 x z)
         · rw [List.mem_singleton.mp z]; exact Nat.zero_le _
     · rcases List.mem_append.mp hy with z | z
       · exact .inl (List.mem_map.mpr ⟨y, z, rfl⟩)
       · rw [List.mem_singleton.mp z]; exact .inr (nn hl)
     · rcases List.mem_append.mp hy with z | z
       · exact Ne.symm (zz4 (B.pm.at_ y z).2 hq)
       · rw [List.mem_singleton.mp z]; exact q3
   case pb =>
     rintro D σ H ⟨S, n, c, m, H0, b5, b6, b7, b8, rfl, hm, hne, B, hn, sm, B0, k⟩
     walk_at "rd"
     refine ⟨.inr ⟨by decide, by decide⟩, by decide, ⟨by decide, by decide⟩, by decide, ite2 (fun _ => ⟨by rw [sizeLine_eq]; decide, fun p hp => ⟨⟨by decide, by decide⟩, by decide, _, SqL.of zz1, ?_⟩⟩) (fun _ => ⟨S, n, c, m, _, H0, _, _, _, rfl, hm, by omega, by omega, hne, B, hn, sm, B0, k⟩)⟩
     obtain ⟨v, e, hv⟩ := atI_ex (xs := [V.int 0, V.int 4294967295]) (i := c / 30 % 2) (by simp; omega) (by simp; omega)
     have h2 : ∃ u : Int, v = .int u ∧ 0 ≤ u ∧ u ≤ 4294967295 := by
       simp only [List.mem_cons, List.not_mem_nil, or_false] at hv
       rcases hv with rfl | rfl
       · exact ⟨_, rfl, by decide, by decide⟩
       · exact ⟨_, rfl, by decide, by decide⟩
     obtain ⟨u, rfl, hu0, hu1⟩ := h2
     exact ⟨_, e, S, n, c, m, u, H0, _, _, _, rfl, hm, hu0, hu1, hne, B.mono (zz2 hp), hn, sm.trans (zz2 hp), B0, k⟩
   case pb2 =>
     rintro D σ H ⟨S, n, c, m, u, H0, b5, b7, b8, rfl, hm, hu0, hu1, hne, B, hn, sm, B0, k⟩
     walk_at "rd"
     have ls := lenS (x := u) (by omega) (by omega)
     have l5 : (Str.ofString "word ").length = 5 := by decide +kernel
     refine ⟨ls.2, by rw [sizeLine_eq]; omega, by walk_at "s", fun p hp => ?_⟩
     have hW0 : rowT (.word u) = Str.ofString "word " ++ Str.ofString (toString u) := by rw [rowT_word]; rfl
     generalize Str.ofString "word " ++ Str.ofString (toString u) = zw at *
     have s1 : Same H (upd H p (HO.lst [V.str zw])) := zz2 hp
     have nq : H0 p = none := by
       cases e : H0 p with
       | none => rfl
       | some o => rw [sm _ _ e] at hp; cases hp
     refine ⟨by decide, ite2 (fun _ => ⟨by rw [sizeLine_eq]; decide, fun p1 h1 => ⟨by decide, _, SqL.of zz1, ?_⟩⟩) (fun _ => ⟨S, n, c, m, u, p, _, S.ls, H0, _, _, rfl, hu0, hu1, hne, zz1, by simp, nq, B.pm.mono s1, B.lm.mono s1, .inl ⟨by rw [hW0], rfl⟩, hn, fun x o hx _ => s1 _ _ (sm _ _ hx), B0, k⟩)⟩
     obtain ⟨v, e, hv⟩ := atI_ex (xs := [V.str (Str.ofString "whole"), V.str (Str.ofString "high"), V.str (Str.ofString "low")]) (i := m % 3) (by simp; omega) (by simp; omega)
     have h2 : ∃ z, v = .str z ∧ isR z ∧ z.length ≤ 5 := by
       simp only [List.mem_cons, List.not_mem_nil, or_false] at hv
       rcases hv with rfl | rfl | rfl
       · exact ⟨_, rfl, .inl rfl, by decide +kernel⟩
       · exact ⟨_, rfl, .inr (.inl rfl), by decide +kernel⟩
       · exact ⟨_, rfl, .inr (.inr rfl), by decide +kernel⟩
     obtain ⟨z, rfl, hz, hzl⟩ := h2
     obtain ⟨np1, h1'⟩ := free_of h1
     have tb := B.lm.top
     have bn := B.n2
     have e3 : ∀ x o, H x = some o → upd (upd H p (HO.lst [V.str zw])) p1 (HO.lst [V.str (Str.ofString "whole"), V.str (Str.ofString "high"), V.str (Str.ofString "low")]) x = some o := fun x o hx => by rw [upd_ne (zz4 hx h1'), upd_ne (zz4 hx hp)]; exact hx
     refine ⟨_, e, .inl ⟨rfl, _, SqL.of (e3 _ _ tb)⟩, ⟨by decide, by decide⟩, fun m1 hm1 hm2 => ⟨by rw [sizeLine_eq]; decide, fun p2 h2 => ?_⟩⟩
     obtain ⟨np2, h2'⟩ := free_of h2
     obtain ⟨np3, h2''⟩ := free_of h2'
     have lm1 := lenS (x := m1) (by omega) (by omega)
     have lz5 : (Str.ofString "lean ").length = 5 := by decide +kernel
     have lz1 : (Str.ofString " ").length = 1 := by decide +kernel
     have hb3 : upd (upd (upd H p (HO.lst [V.str zw])) p1 (HO.lst [V.str (Str.ofString "whole"), V.str (Str.ofString "high"), V.str (Str.ofString "low")])) p2 (HO.tup [V.int S.e, V.str z, V.int m1]) S.b = some (.lst (S.ls.map fun x => V.ref x.a)) := by rw [upd_ne (zz4 tb h2'')]; exact e3 _ _ tb
     refine ⟨_, hb3, by rw [List.length_map, sizeLine_eq]; omega, ?_⟩
     generalize hH3 : upd (upd (upd H p (HO.lst [V.str zw])) p1 (HO.lst [V.str (Str.ofString "whole"), V.str (Str.ofString "high"), V.str (Str.ofString "low")])) p2 (HO.tup [V.int S.e, V.str z, V.int m1]) = H3 at *
     have o3 : ∀ x o, H x = some o → H3 x = some o := fun x o hx => by rw [← hH3, upd_ne (zz4 hx h2'')]; exact e3 _ _ hx
     have nbp : p ≠ S.b := Ne.symm (zz4 tb hp)
     have nbp2 : p2 ≠ S.b := Ne.symm (zz4 tb h2'')
     have hp3 : H3 p = some (.lst [V.str zw]) := by rw [← hH3, upd_ne (Ne.symm np3), upd_ne (Ne.symm np1), zz1]
     have hp23 : H3 p2 = some (.tup [V.int S.e, V.str z, V.int m1]) := by rw [← hH3, zz1]
     have hp4 : ∀ o, upd H3 S.b o p = some (.lst [V.str zw]) := fun o => by rw [upd_ne nbp]; exact hp3
     refine ⟨.inl ⟨rfl, _, SqL.of (hp4 _)⟩, _, rfl, by rw [sizeLine_eq]; omega, by rw [slen, sizeLine_eq]; omega, _, SqL.of zz1, _, atI_last, _, rfl, _, SqT.of (by rw [upd_ne nbp2]; exact hp23), _, rfl, _, rfl, lm1.2, by rw [slen, slen, sizeLine_eq]; omega, _, hp4 _, by rw [sizeLine_eq]; show 1 < 16777216; decide, ?_⟩
     have o5 : ∀ x o (y y' : HO), H x = some o → x ≠ S.b → upd (upd H3 S.b y) p y' x = some o := fun x o y y' hx hxb => by rw [upd_ne (zz4 hx hp), upd_ne hxb]; exact o3 _ _ hx
     have tt : ∀ {x : Addr} {xs : List V}, H x = some (.tup xs) → x ≠ S.b := fun {x xs} h => ne_of h tb (by intro z; cases z)
     refine ⟨S, n, c, m, u, p, _, S.ls ++ [⟨p2, S.e, z, m1⟩], H0, _, _, rfl, hu0, hu1, hne, zz1, by simp, nq, ?_, ?_, .inr ⟨_, by rw [hW0, rowT_lean]; rfl, rfl, rfl, hz, hm1, hm2⟩, hn, fun x o hx hxb => o5 _ _ _ _ (sm _ _ hx) hxb, B0, k⟩
     · exact { B.pm with top := o5 _ _ _ _ B.pm.top B.ab, at_ := fun x hx => ⟨o5 _ _ _ _ (B.pm.at_ x hx).1 (tt (B.pm.at_ x hx).1), o5 _ _ _ _ (B.pm.at_ x hx).2 (B.nb x hx)⟩ }
     · refine ⟨by rw [upd_ne (Ne.symm nbp), zz1, List.map_append]; rfl, fun x hx => ?_⟩
       rcases List.mem_append.mp hx with y | y
       · exact o5 _ _ _ _ (B.lm.at_ x y) (tt (B.lm.at_ x y))
       · rw [List.mem_singleton.mp y]
         show upd (upd H3 S.b _) p _ p2 = _
         rw [upd_ne np3, upd_ne nbp2]; exact hp23
   case pb3 =>
     rintro D σ H ⟨S, n, c, m, u, q, rs, ls, H0, b5, b8, rfl, hu0, hu1, hne, hq, hrs, hq0, pm, lm, hls, hn, off, B0, k⟩
     walk_at "rd"
     obtain ⟨ys, x, e⟩ := last_of hne
     have hx : x ∈ S.ps := by rw [e]; simp
     have t1 := pm.top
     have a1 := pm.at_ x hx
     rw [e, List.map_append] at t1
     have n3 := B0.n3 x hx
     refine ⟨_, SqL.of t1, _, atI_last, _, rfl, _, SqT.of a1.1, _, rfl, .inl ⟨rfl, _, SqL.of a1.2⟩, _, rfl, _, a1.2, by rw [List.length_map, sizeLine_eq]; omega, ?_⟩
     have nn : ∀ {y : Addr}, H y = none → y ≠ S.b → H0 y = none := fun {y} hy hb => by
       cases e : H0 y with
       | none => rfl
       | some o => rw [off _ _ e hb] at hy; cases hy
     have o0 := B0.ord
     rw [e] at o0
     have oi := o0.init
     have en : S.e = x.p + x.ws.length := by rw [B0.en, e, endP_last]
     have nd0 := B0.pm.nd
     have B0x := (B0.pm.at_ x hx).2
     have qx : q ≠ x.l := fun z => by rw [z, B0x] at hq0; cases hq0
     have qps : ∀ y ∈ S.ps, q ≠ y.l := fun y hy z => by rw [z, (B0.pm.at_ y hy).2] at hq0; cases hq0
     have old : ∀ y o, H y = some o → y ≠ x.l → upd H x.l (HO.lst (List.map V.int x.ws ++ [V.int u])) y = some o := fun y o h1 h2 => by rw [upd_ne h2]; exact h1
     have ysne : ∀ y ∈ ys, y.l ≠ x.l := fun y hy => by
       rw [e, List.map_append, List.nodup_append] at nd0
       exact nd0.2.2 y.l (List.mem_map.mpr ⟨y, hy, rfl⟩) x.l (by simp)
     have ysm : ∀ y ∈ ys, y ∈ S.ps := fun y hy => by rw [e]; exact List.mem_append_left _ hy
     have tne : ∀ {y : Addr} {vs : List V}, H y = some (.tup vs) → y ≠ x.l := fun {y vs} h => ne_of h a1.2 (by intro z; cases z)
     have mem' : ∀ {y : Prt}, y ∈ ys ++ [(⟨x.t, x.l, x.p, x.ws ++ [u]⟩ : Prt)] → y ∈ ys ∨ y = ⟨x.t, x.l, x.p, x.ws ++ [u]⟩ := fun {y} hy => (List.mem_append.mp hy).imp id fun z => List.mem_singleton.mp z
     refine k q rs ⟨S.a, S.b, ys ++ [⟨x.t, x.l, x.p, x.ws ++ [u]⟩], ls, S.e + 1⟩ _ (fun y o hy hya hyb hyl => old _ _ (off _ _ hy hyb) (hyl x hx)) (old _ _ hq qx) hrs rfl rfl ?ok (fun y hy => ?_) hq0 (fun z => by rw [z, B0.pm.top] at hq0; cases hq0) (fun z => by rw [z, B0.lm.top] at hq0; cases hq0) (fun y hy => ?_) ?pr
     case pr =>
       refine .inr ⟨u, hne, hu0, hu1, rfl, ?_, ?_⟩
       · show (ys ++ [(⟨x.t, x.l, x.p, x.ws ++ [u]⟩ : Prt)]).map Prt.core = _
         rw [e, List.map_append, List.map_append]; exact (addW_snoc u (ys.map Prt.core) x.core).symm
       · rcases hls with ⟨h, rfl⟩ | ⟨l', h, rfl, h1, h2, h3, h4⟩
         · exact .inl ⟨h, rfl⟩
         · refine .inr ⟨l'.r, l'.t, h, h2, h3, h4, ?_⟩
           show (S.ls ++ [l']).map Ln.core = _
           rw [List.map_append, ← h1]; rfl
     case ok =>
       have lsl : ∀ l ∈ ls, l ∈ S.ls ∨ (l.p = S.e ∧ isR l.r ∧ -9999999999 ≤ l.t ∧ l.t ≤ 9999999999) := fun l hl => by
         rcases hls with ⟨_, rfl⟩ | ⟨l', _, rfl, h1, h2, h3, h4⟩
         · exact .inl hl
         · rcases List.mem_append.mp hl with z | z
           · exact .inl z
           · rw [List.mem_singleton.mp z]; exact .inr ⟨h1, h2, h3, h4⟩
       have ex0 := B0.e0
       refine { pm := ⟨?_, ?_, ?_, ?_⟩, lm := ⟨old _ _ lm.top (fun z => by have := B0.nb x hx; exact this z.symm), fun y hy => old _ _ (lm.at_ y hy) (tne (lm.at_ y hy))⟩, ab := B0.ab, nb := ?_, ord := ?_, ws := ?_, rr := ?_, lk := ?_, ln := ?_, en := ?_, e0 := by show 0 ≤ S.e + 1; omega, e1 := ?_, n1 := ?_, n2 := ?_, n3 := ?_, n4 := by omega }
       · show upd H x.l _ S.a = _
         rw [upd_ne (fun z => (B0.pm.na x hx) z.symm), pm.top, e, List.map_append, List.map_append]; rfl
       · intro y hy
         rcases mem' hy with z | z
         · have hy' := pm.at_ y (ysm y z)
           exact ⟨old _ _ hy'.1 (tne hy'.1), old _ _ hy'.2 (ysne y z)⟩
         · rw [z]
           refine ⟨old _ _ a1.1 (tne a1.1), ?_⟩
           show upd H x.l _ x.l = _
           rw [zz1, List.map_append]; rfl
       · have : (ys ++ [(⟨x.t, x.l, x.p, x.ws ++ [u]⟩ : Prt)]).map Prt.l = S.ps.map Prt.l := by rw [e, List.map_append, List.map_append]; rfl
         rw [this]; exact nd0
       · intro y hy
         rcases mem' hy with z | z
         · exact B0.pm.na y (ysm y z)
         · rw [z]; exact B0.pm.na x hx
       · intro y hy
         rcases mem' hy with z | z
         · exact B0.nb y (ysm y z)
         · rw [z]; exact B0.nb x hx
       · have := oi.1.snoc (x := ⟨x.t, x.l, x.p, x.ws ++ [u]⟩) oi.2 (Int.le_refl _)
         have e2 : S.e + 1 = x.p + ((x.ws ++ [u]).length : Int) := by rw [List.length_append, en]; simp; omega
         show Ordd _ (S.e + 1)
         rw [e2]; exact this
       · intro y hy
         rcases mem' hy with z | z
         · exact B0.ws y (ysm y z)
         · rw [z]; intro v hv
           rcases List.mem_append.mp hv with h | h
           · exact B0.ws x hx v h
           · rw [List.mem_singleton.mp h]; exact ⟨hu0, hu1⟩
       · intro l hl
         rcases lsl l hl with h | ⟨h1, h2, h3, h4⟩
         · have := B0.rr l h
           exact ⟨this.1, this.2.1, this.2.2.1, by have := this.2.2.2; show l.p < S.e + 1; omega⟩
         · exact ⟨h2, h3, h4, by show l.p < S.e + 1; omega⟩
       · intro l hl
         rcases lsl l hl with h | ⟨h1, h2, h3, h4⟩
         · obtain ⟨y, hy, h1, h2⟩ := B0.lk l h
           rw [e] at hy
           rcases List.mem_append.mp hy with z | z
           · exact ⟨y, List.mem_append_left _ z, h1, h2⟩
           · rw [List.mem_singleton.mp z] at h1 h2
             exact ⟨_, List.mem_append_right _ (.head _), h1, by show l.p < x.p + ((x.ws ++ [u]).length : Int); rw [List.length_append]; simp; omega⟩
         · exact ⟨_, List.mem_append_right _ (.head _), by show x.p ≤ l.p; omega, by show l.p < x.p + ((x.ws ++ [u]).length : Int); rw [List.length_append]; simp; omega⟩
       · show (ls.map Ln.p).Nodup
         rcases hls with ⟨_, rfl⟩ | ⟨l', _, rfl, h1, h2, h3, h4⟩
         · exact B0.ln
         · rw [List.map_append, List.nodup_append]
           refine ⟨B0.ln, by simp, fun a ha b hb => ?_⟩
           obtain ⟨l, hl, rfl⟩ := List.mem_map.mp ha
           simp only [List.map_cons, List.map_nil, List.mem_singleton] at hb
           rw [hb, h1]
           have := (B0.rr l hl).2.2.2
           omega
       · show S.e + 1 = endP (ys ++ [⟨x.t, x.l, x.p, x.ws ++ [u]⟩])
         rw [endP_last, en]; simp; omega
       · show S.e + 1 ≤ ((n + 1 : Nat) : Int) * 10000001
         have := B0.e1
         rw [Int.natCast_add]; omega
       · show (ys ++ [(⟨x.t, x.l, x.p, x.ws ++ [u]⟩ : Prt)]).length ≤ n + 1
         have := B0.n1
         rw [e] at this
         rw [List.length_append] at this ⊢
         exact Nat.le_succ_of_le this
       · show ls.length ≤ n + 1
         have := B0.n2
         rcases hls with ⟨_, rfl⟩ | ⟨l', _, rfl, _⟩
         · omega
         · rw [List.length_append, List.length_singleton]; omega
       · intro y hy
         rcases mem' hy with z | z
         · exact Nat.le_succ_of_le (B0.n3 y (ysm y z))
         · rw [z]; show (x.ws ++ [u]).length ≤ n + 1
           rw [List.length_append, List.length_singleton]; omega
     · rcases mem' hy with z | z
       · exact .inl (List.mem_map.mpr ⟨y, ysm y z, rfl⟩)
       · rw [z]; exact .inl (List.mem_map.mpr ⟨x, hx, rfl⟩)
     · rcases mem' hy with z | z
       · exact qps y (ysm y z)
       · rw [z]; exact qx
theorem cut_ints (ns : List Int) (h : ns.length ≤ 63) : ∃ ms : List Int, cutV (ns.map V.int) (some 2) (some 202) = ms.map V.int ∧ ms.length ≤ 61 := by
 refine ⟨(ns.drop (HT.sIx (ns.map V.int).length 0 (some 2))).take (HT.sIx (ns.map V.int).length (ns.map V.int).length (some 202) - HT.sIx (ns.map V.int).length 0 (some 2)), ?_, ?_⟩
 · unfold cutV
   rw [List.map_take, List.map_drop]
 · have e : HT.sIx (ns.map V.int).length 0 (some 2) = min 2 ns.length := by
     rw [show (some (2 : Int)) = some ((2 : Nat) : Int) from rfl, HT.sIx_nat, List.length_map]
   rw [List.length_take, List.length_drop, e]
   omega
theorem BOk.start {H : Hp} {a b : Addr} (h1 : H a = some (.lst [])) (h2 : H b = some (.lst [])) (h3 : a ≠ b) : BOk 0 H ⟨a, b, [], [], 0⟩ where
 pm := ⟨h1, fun x hx => (nomatch hx), .nil, fun x hx => (nomatch hx)⟩
 lm := ⟨h2, fun x hx => (nomatch hx)⟩
 ab := h3
 nb := fun x hx => (nomatch hx)
 ord := ⟨fun x hx => (nomatch hx), fun x hx => (nomatch hx), fun i j x y _ h => by cases h⟩
 ws := fun x hx => (nomatch hx)
 rr := fun x hx => (nomatch hx)
 lk := fun x hx => (nomatch hx)
 ln := .nil
 en := rfl
 e0 := Int.le_refl 0
 e1 := by show (0 : Int) ≤ ((0 : Nat) : Int) * 10000001; decide
 n1 := Nat.le_refl _
 n2 := Nat.le_refl _
 n3 := fun x hx => (nomatch hx)
 n4 := by decide
theorem BOk.up {n m : Nat} {H : Hp} {S : BS} (h : BOk n H S) (l : n ≤ m) (h2 : m ≤ 500) : BOk m H S :=
 { h with e1 := by have := h.e1; omega, n1 := Nat.le_trans h.n1 l, n2 := Nat.le_trans h.n2 l, n3 := fun x hx => Nat.le_trans (h.n3 x hx) l, n4 := h2 }
theorem G_qzz (T : Txt w K mg A) : FnOk P w K mg base CX0 5 A.qzz A.fd_qzz ["_law_script", "_law_most"] (sp_built K) := by
 refine T.F_qzz.ok sc_qzz (fun vs H Q E h => ?_) (fun cdv Ar outer s H vs Q E hr h => ?_)
 · obtain ⟨a, ns, most, rfl, _⟩ := h
   rfl
 · obtain ⟨a, ns, most, rfl, hl, hn, hm1, hm2, k⟩ := h
   refine ⟨_, (zz3 (ps_set (i := 2) sc_qzz.nd rfl (by walk_at "o") (pe_lst pa_nil)) (zz3 (ps_set (i := 3) sc_qzz.nd rfl (by walk_at "o") (pe_lst pa_nil)) (zz3 (ps_set (i := 4) sc_qzz.nd rfl (by walk_at "o") (pe_lst pa_nil)) (zz3 (ps_for PassesOwn.never rfl (pi_listK (K := K) rfl (zz13 (zz19 (K := K) rfl) (pv 0) (zz15 pe_int) (zz15 pe_int))) (pg_name (i := 5) sc_qzz.nd rfl (by walk_at "o")) (zz5 (ps_set (i := 4) sc_qzz.nd rfl (by walk_at "o") (pe_op (zz9 (K := K) rfl) (pv 4) (zz12 (G_qyq T) (hr.mono (by decide)) rfl T.m_qyq T.k_qyq T.b_qyq .nil pass0 (zz0 (pv 5) (zz0 (pv 2) (zz0 (pv 3) (zz0 (zz12 (G_qyw T) (hr.mono (by decide)) rfl T.m_qyw T.k_qyw T.b_qyw .nil pass0 (zz0 (pv 2) pa_nil)) pa_nil))))))))) (zz3 (ps_set (i := 6) sc_qzz.nd rfl (by walk_at "o") (zz12 (G_qyw T) (hr.mono (by decide)) rfl T.m_qyw T.k_qyw T.b_qyw .nil pass0 (zz0 (pv 2) pa_nil))) (zz3 (ps_set (i := 7) sc_qzz.nd rfl (by walk_at "o") (pe_op op_mod (pe_op op_mul (zz12 (G_qwz T) (hr.mono (by decide)) rfl T.m_qwz T.k_qwz T.b_qwz .nil pass0 (zz0 (pv 0) (zz0 pe_int pa_nil))) pe_int) pe_int)) (zz3 (ps_set (i := 8) sc_qzz.nd rfl (by walk_at "o") (pe_op op_add (pv 6) (pe_ix (zz17 (K := K) rfl) (pe_lst (zz0 pe_int (zz0 pe_int (zz0 (pe_op op_mod (pe_op op_fdiv (pv 7) pe_int) pe_int) (zz0 (pe_op op_mod (pe_op op_fdiv (pv 7) pe_int) pe_int) (zz0 (pe_op op_sub (pv 1) (pv 6)) pa_nil)))))) (pe_op op_mod (pv 7) pe_int) (fun _ _ => rfl)))) (zz3 (ps_set (i := 9) sc_qzz.nd rfl (by walk_at "o") (pe_ix (zz17 (K := K) rfl) (pe_lst (zz0 pe_int (zz0 (pv 8) (zz0 (pe_op op_mod (pe_op op_fdiv (pv 7) pe_int) (pe_op op_add (pv 8) pe_int)) pa_nil)))) (pe_op op_mod (zz12 (G_qwz T) (hr.mono (by decide)) rfl T.m_qwz T.k_qwz T.b_qwz .nil pass0 (zz0 (pv 0) (zz0 pe_int pa_nil))) pe_int) (fun _ _ => rfl))) (zz3 (ps_set (i := 10) sc_qzz.nd rfl (by walk_at "o") (pe_op op_shl pe_int (pe_op op_mod (pe_op op_fdiv (zz12 (G_qwz T) (hr.mono (by decide)) rfl T.m_qwz T.k_qwz T.b_qwz .nil pass0 (zz0 (pv 0) (zz0 pe_int pa_nil))) pe_int) pe_int))) (zz3 (ps_set (i := 4) sc_qzz.nd rfl (by walk_at "o") (pe_op (zz9 (K := K) rfl) (pe_lst (zz0 (pe_op zz7 (pe_op zz7 (pe_op zz7 (pe_op zz7 (pe_op zz7 pe_str (zz14 zz10 (by rfl) T.n_str bt_str (zz0 (pv 10) pa_nil))) pe_str) (zz14 zz10 (by rfl) T.n_str bt_str (zz0 (pv 8) pa_nil))) pe_str) (zz14 zz10 (by rfl) T.n_str bt_str (zz0 (pv 9) pa_nil))) pa_nil)) (pv 4))) (zz5 (ps_ret (pe_tup (zz0 (pv 4) (zz0 (pe_tup (zz0 (pv 10) (zz0 (pv 8) (zz0 (pv 9) (zz0 (pv 2) (zz0 (pv 3) pa_nil)))))) pa_nil))))))))))))))), ?_⟩
   walk_at "rd"
   refine ⟨Nat.zero_le _, fun pa h1 => ⟨Nat.zero_le _, fun pb h2 => ⟨Nat.zero_le _, fun q0 h3 => ?_⟩⟩⟩
   obtain ⟨n2, h2'⟩ := free_of h2
   obtain ⟨n3, h3'⟩ := free_of h3
   obtain ⟨n4, h3''⟩ := free_of h3'
   have s3 : Same H (upd (upd (upd H pa (HO.lst [])) pb (HO.lst [])) q0 (HO.lst [])) := ((zz2 h1).trans (zz2 h2)).trans (zz2 h3)
   refine ⟨_, s3.seq hl, fun ps h4 => ?_⟩
   obtain ⟨n5, h4'⟩ := free_of h4
   obtain ⟨n6, h4''⟩ := free_of h4'
   obtain ⟨n7, h4n⟩ := free_of h4''
   obtain ⟨ms, em, lm⟩ := cut_ints ns hn
   rw [em]
   have s4 := s3.trans (zz2 (o := HO.lst (ms.map V.int)) h4)
   refine ForL.of (xs := ms.map V.int) (fun i σ H' => ∃ (b5 b6 b7 b8 b9 b10 : Option V) (q : Addr) (rows : List Row) (S : BS) (bw : Bool), σ = [some (.ref a), some (.int most), some (.ref pa), some (.ref pb), some (.ref q), b5, b6, b7, b8, b9, b10] ∧ Same H H' ∧ H' ps = some (.lst (ms.map V.int)) ∧ H' q = some (.lst (rows.map fun r => V.str (rowT r))) ∧ rows.length ≤ 2 * i ∧ (∀ r ∈ rows, r.Small) ∧ RunsTo rows (S.ps.map Prt.core) (S.ls.map Ln.core) S.e bw ∧ S.a = pa ∧ S.b = pb ∧ BOk i H' S ∧ (∀ y ∈ S.ps, H y.l = none ∧ ps ≠ y.l ∧ q ≠ y.l) ∧ q ≠ pa ∧ q ≠ pb)
     ⟨_, _, _, _, _, _, q0, [], ⟨pa, pb, [], [], 0⟩, false, rfl, s4, zz1, zz2 h4 _ _ zz1, Nat.zero_le _, fun x hx => (nomatch hx), fun q _ _ => ⟨rfl, fun i r h => by cases h⟩, rfl, rfl, BOk.start (zz2 h4 _ _ (zz2 h3 _ _ (zz2 h2 _ _ zz1))) (zz2 h4 _ _ (zz2 h3 _ _ zz1)) (Ne.symm n2), fun x hx => (nomatch hx), n4, n3⟩ ?_ ?_ ?_
   · rintro i σ H' hi ⟨b5, b6, b7, b8, b9, b10, q, rows, S, bw, rfl, sm, hps, _⟩
     exact SqL.of hps
   · rintro i x σ H' hx ⟨b5, b6, b7, b8, b9, b10, q, rows, S, bw, rfl, sm, hps, hq, hrs, hsm, hrun, ea, eb, B, fr, qa, qb⟩
     have hil := (List.getElem?_eq_some_iff.mp hx).1
     rw [List.length_map] at hil
     rw [List.getElem?_map] at hx
     obtain ⟨c, hc, rfl⟩ := Option.map_eq_some_iff.mp hx
     walk_at "rd"
     refine ⟨S, ea.symm, i, B, fun H1 s1 => ⟨S, ea.symm, eb.symm, rfl, i, B.mono s1, by omega, fun q2 rs2 S' H2 off hq2 hl2 a' b' B2 fr2 nq2 qa2 qb2 qy2 pr => ?_⟩⟩
     have hq' : H2 q = some (.lst (rows.map fun r => V.str (rowT r))) := off q _ (s1 _ _ hq) (by rw [ea]; exact qa) (by rw [eb]; exact qb) (fun y hy => (fr y hy).2.2)
     have kH : Same H H2 := fun x o hx => off x o (s1 _ _ (sm _ _ hx)) (by rw [ea]; exact zz4 hx h1) (by rw [eb]; exact zz4 hx h2') (fun y hy => zz4 hx (fr y hy).1)
     have hps' : H2 ps = some (.lst (ms.map V.int)) := off ps _ (s1 _ _ hps) (by rw [ea]; exact n7) (by rw [eb]; exact n6) (fun y hy => (fr y hy).2.1)
     have e2 := B2.e1
     have e0 := B.e0
     obtain ⟨rows2, bw', rfl, sm2, len2, run2⟩ := pr.run hrun e0 (by omega)
     rw [List.length_map] at hl2
     refine ⟨q2, rfl, _, SqL.of hq', _, SqL.of hq2, by rw [sizeLine_eq, List.length_map, List.length_map]; omega, fun p hp => ⟨kH.trans (zz2 hp), zz2 hp _ _ hps', rows ++ rows2, by rw [zz1, List.map_append], by rw [List.length_append]; omega, fun r hr => (List.mem_append.mp hr).elim (hsm r) (sm2 r), S', bw', run2, a'.trans ea, b'.trans eb, B2.mono (zz2 hp), fun y hy => ⟨?_, ?_, ?_⟩, ?_, ?_⟩⟩
     · rcases fr2 y hy with z | z
       · obtain ⟨y', hy', e⟩ := List.mem_map.mp z
         rw [← e]; exact (fr y' hy').1
       · cases e : H y.l with
         | none => rfl
         | some o => rw [s1 _ _ (sm _ _ e)] at z; cases z
     · rcases fr2 y hy with z | z
       · obtain ⟨y', hy', e⟩ := List.mem_map.mp z
         rw [← e]; exact (fr y' hy').2.1
       · exact zz4 (s1 _ _ hps) z
     · exact Ne.symm (zz4 (B2.pm.at_ y hy).2 hp)
     · have := B2.pm.top
       rw [a', ea] at this
       exact Ne.symm (zz4 this hp)
     · have := B2.lm.top
       rw [b', eb] at this
       exact Ne.symm (zz4 this hp)
   · rintro σ H' ⟨b5, b6, b7, b8, b9, b10, q, rows, S, bw, rfl, sm, hps, hq, hrs, hsm, hrun, ea, eb, B, fr, qa, qb⟩
     rw [List.length_map] at B hrs
     have B' := B.up (m := 62) (by omega) (by decide)
     have eb1 := B.e1
     have eb0 := B.e0
     have eb2 : S.e ≤ 61 * 10000001 := by omega
     walk_at "rd"
     refine ⟨S, ea.symm, _, B, fun H1 s1 => ⟨ns, (sm.trans s1).seq hl, by decide, fun m => ⟨.inr ⟨by decide, by decide⟩, by decide, ⟨by decide, by decide⟩, by decide, ⟨by decide, by decide⟩, by decide, by walk_at "s", fun p hp => ⟨by decide, _, SqL.of zz1, ?_⟩⟩⟩⟩
     have hM : 0 ≤ m * 1583458089 % 2147483647 ∧ m * 1583458089 % 2147483647 < 2147483647 := by omega
     generalize m * 1583458089 % 2147483647 = M at *
     obtain ⟨v, e, hv⟩ := atI_ex (xs := [V.int 0, V.int 1, V.int (M / 5 % 1000), V.int (M / 5 % 1000000000), V.int (most - S.e)]) (i := M % 5) (by simp; omega) (by simp; omega)
     have hv2 : ∃ x : Int, v = .int x ∧ 0 ≤ x ∧ S.e + x ≤ most := by
       simp only [List.mem_cons, List.not_mem_nil, or_false] at hv
       rcases hv with rfl | rfl | rfl | rfl | rfl <;> exact ⟨_, rfl, by omega, by omega⟩
     obtain ⟨x, rfl, hx0, hx1⟩ := hv2
     have sp := zz2 (o := HO.lst [V.int 0, V.int 1, V.int (M / 5 % 1000), V.int (M / 5 % 1000000000), V.int (most - S.e)]) hp
     refine ⟨_, e, x, rfl, ⟨by decide, by decide⟩, by omega, by walk_at "s", fun p1 hp1 => ?_⟩
     have sp1 := sp.trans (zz2 (o := HO.lst [V.int 0, V.int (S.e + x), V.int (M / 7 % (S.e + x + 1))]) hp1)
     refine ⟨ns, ((sm.trans s1).trans sp1).seq hl, by decide, fun m1 => ⟨by decide, _, SqL.of zz1, ?_⟩⟩
     obtain ⟨v, e2, hv⟩ := atI_ex (xs := [V.int 0, V.int (S.e + x), V.int (M / 7 % (S.e + x + 1))]) (i := m1 % 3) (by simp; omega) (by simp; omega)
     have hv3 : ∃ y : Int, v = .int y ∧ 0 ≤ y ∧ y ≤ S.e + x := by
       simp only [List.mem_cons, List.not_mem_nil, or_false] at hv
       have p1 := Int.emod_nonneg (M / 7) (by omega : S.e + x + 1 ≠ 0)
       have p2 := Int.emod_lt_of_pos (M / 7) (by omega : 0 < S.e + x + 1)
       rcases hv with rfl | rfl | rfl <;> exact ⟨_, rfl, by omega, by omega⟩
     obtain ⟨y, rfl, hy0, hy1⟩ := hv3
     refine ⟨_, e2, ns, ((sm.trans s1).trans sp1).seq hl, by decide, fun m2 => ?_⟩
     have hk : 0 ≤ m2 / 3 % 17 ∧ m2 / 3 % 17 < 17 := by omega
     generalize m2 / 3 % 17 = kk at *
     have hst : (1 : Int) ≤ 1 * 2 ^ kk.toNat ∧ (1 : Int) * 2 ^ kk.toNat ≤ 65536 := by
       have h1 : kk.toNat ≤ 16 := by omega
       have h2 := Nat.pow_le_pow_right (by decide : 0 < 2) h1
       have h3 := Nat.pow_pos (n := kk.toNat) (by decide : 0 < 2)
       have e : (2 : Int) ^ kk.toNat = ((2 ^ kk.toNat : Nat) : Int) := by rw [Int.natCast_pow]; rfl
       rw [Int.one_mul, e]
       omega
     have hpk : ∃ k : Nat, (1 : Int) * 2 ^ kk.toNat = 2 ^ k := ⟨_, Int.one_mul _⟩
     refine ⟨⟨by decide, by decide⟩, by decide, ⟨by omega, by omega, by omega⟩, ?_⟩
     generalize (1 : Int) * 2 ^ kk.toNat = st at *
     have l1 := lenS (x := st) (by omega) (by omega)
     have l2 := lenS (x := S.e + x) (by omega) (by omega)
     have l3 := lenS (x := y) (by omega) (by omega)
     have lw : (Str.ofString "whole ").length = 6 := by decide +kernel
     walk_at "0"
     walk_at "4"
     refine ⟨l1.2, sz _ (by omega), sz _ (by rw [slen]; omega), l2.2, sz _ (by rw [slen, slen]; omega), sz _ (by rw [slen, slen, slen]; omega), y, rfl, l3.2, sz _ (by rw [slen, slen, slen, slen]; omega), sz _ (by decide), fun p2 hp2 => ?_⟩
     have hz : rowT (.whole st (S.e + x) y) = Str.ofString "whole " ++ Str.ofString (toString st) ++ Str.ofString " " ++ Str.ofString (toString (S.e + x)) ++ Str.ofString " " ++ Str.ofString (toString y) := by rw [rowT_whole]; rfl
     generalize Str.ofString "whole " ++ Str.ofString (toString st) ++ Str.ofString " " ++ Str.ofString (toString (S.e + x)) ++ Str.ofString " " ++ Str.ofString (toString y) = zt at *
     have sa := (s1.trans sp1).trans (zz2 (o := HO.lst [V.str zt]) hp2)
     refine ⟨_, SqL.of zz1, _, SqL.of (sa _ _ hq), by rw [sizeLine_eq]; show 1 + (rows.map _).length ≤ 16777216; rw [List.length_map]; omega, fun p3 hp3 => ⟨sz _ (by decide), fun p4 hp4 => ⟨sz _ (by decide), fun p5 hp5 => ?_⟩⟩⟩
     have sb := (sa.trans (zz2 (o := HO.lst ([V.str zt] ++ rows.map fun r => V.str (rowT r))) hp3)).trans (zz2 (o := HO.tup [V.int st, V.int (S.e + x), V.int y, V.ref pa, V.ref pb]) hp4)
     have sc := sb.trans (zz2 (o := HO.tup [V.ref p3, V.ref p4]) hp5)
     obtain ⟨tk, rn⟩ := hrun.whole (n := st) (sz := S.e + x) (en := y) hst.1 hst.2 hpk (by omega) (by omega) hy0 hy1 (by omega)
     refine k p5 p3 (.whole st (S.e + x) y :: rows) ⟨p4, st, S.e + x, y, 62⟩ S _ (sm.trans sc) zz1 (by rw [zz2 hp5 _ _ (zz2 hp4 _ _ zz1), List.map_cons, hz]; rfl) { top := ?_, bok := B'.mono sc, n5 := (by show 62 ≤ 500; decide), s1 := hst.1, s2 := hst.2, z1 := by show S.e ≤ S.e + x; omega, z2 := hx1, e0 := hy0, e1 := Int.le_trans hy1 hx1, pw := hpk } rfl ⟨by simp, by rw [List.length_cons]; omega, fun r hr => ?_, tk, bw, rn⟩
     · show upd _ p5 _ p4 = _
       rw [ea, eb, zz2 hp5 _ _ zz1]
     · rcases List.mem_cons.mp hr with rfl | hr
       · exact ⟨⟨by omega, by omega⟩, ⟨by omega, by omega⟩, ⟨by omega, by omega⟩⟩
       · exact hsm r hr
noncomputable def dCore (x : Int × List Int) : D := .tup [.int x.1, .lst (x.2.map D.int)]
noncomputable def dLn (x : Int × Str × Int) : D := .tup [.int x.1, .str x.2.1, .int x.2.2]
noncomputable def wholeD (W : Whl) (S : BS) : List D := [.int W.st, .int W.sz, .int W.en, .lst ((S.ps.map Prt.core).map dCore), .lst ((S.ls.map Ln.core).map dLn)]
theorem dep_wholeD (W : Whl) (S : BS) : depL (wholeD W S) ≤ 20 := by
 have h1 : depL ((S.ps.map Prt.core).map dCore) ≤ 3 := depL_le fun x _ => by
   have h0 : depL (x.2.map D.int) ≤ 0 := depL_le fun x _ => by simp [dep]
   simp only [dCore, dep, depL]
   omega
 have h2 : depL ((S.ls.map Ln.core).map dLn) ≤ 1 := depL_le fun x _ => by simp [dLn, dep, depL]
 simp only [wholeD, dep, depL]
 omega
theorem rep_whole {H : Hp} {W : Whl} {S : BS} (top : H W.t = some (.tup [.int W.st, .int W.sz, .int W.en, .ref S.a, .ref S.b])) (pm : PM H S.a S.ps) (lm : LM H S.b S.ls) : Rep K H (.tup (wholeD W S)) (.ref W.t) := by
 simp only [Rep]
 refine ⟨_, _, rfl, SqT.of top, ?_⟩
 simp only [wholeD, RepL, Rep]
 refine ⟨_, _, rfl, rfl, _, _, rfl, rfl, _, _, rfl, rfl, _, _, rfl, ⟨_, _, rfl, SqL.of pm.top, ?_⟩, _, _, rfl, ⟨_, _, rfl, SqL.of lm.top, ?_⟩, rfl⟩
 · rw [List.map_map]
   refine RepL.map fun x hx => ?_
   have q := pm.at_ x hx
   simp only [Function.comp, Prt.core, dCore, Rep]
   refine ⟨_, _, rfl, SqT.of q.1, ?_⟩
   simp only [RepL, Rep]
   exact ⟨_, _, rfl, rfl, _, _, rfl, ⟨_, _, rfl, SqL.of q.2, RepL.ints _⟩, rfl⟩
 · rw [List.map_map]
   refine RepL.map fun x hx => ?_
   simp only [Function.comp, Ln.core, dLn, Rep]
   exact ⟨_, _, rfl, SqT.of (lm.at_ x hx), by simp [RepL, Rep]⟩
theorem Alike.d {F W : Whl} {S S' : BS} (h : Alike F W S S') : wholeD F S = wholeD W S' := by unfold wholeD; rw [h.st, h.sz, h.en, h.ps, h.ls]
theorem Rdg.Ok.fnd {H0 H : Hp} {R : Rdg} {S : RS} {m : Nat} {st sz en : Int} {q : Addr} (h : Rdg.Ok A H0 H R S m) (hm : m ≤ 300) (hs : S.st = some (st, sz, en)) (hq : H q = some (.tup [R.st, R.sz, R.en, .ref R.a, .ref R.b])) :
   ∃ S' : BS, FOk H0 H ⟨q, st, sz, en, 0⟩ S' ∧ S'.ps.map Prt.core = S.ps ∧ S'.ls.map Ln.core = S.ls := by
 obtain ⟨qs, q1, q2, q3, q4, q5⟩ := h.ps
 obtain ⟨ts, t1, t2, t3⟩ := h.ls
 obtain ⟨b1, b2, b3⟩ := h.n1
 have hst := h.st
 unfold stV at hst
 rw [hs] at hst
 have e1 : R.st = .int st := congrArg Prod.fst hst
 have e2 : R.sz = .int sz := congrArg (fun z => z.2.1) hst
 have e3 : R.en = .int en := congrArg (fun z => z.2.2) hst
 have ip : ∀ (i : Nat) (x : Prt), ((qs.zip S.ps).map fun y => (⟨y.1.1, y.1.2, y.2.1, y.2.2⟩ : Prt))[i]? = some x → ∃ q y, qs[i]? = some q ∧ S.ps[i]? = some y ∧ x = ⟨q.1, q.2, y.1, y.2⟩ := fun i x e => by
   rw [List.getElem?_map] at e
   obtain ⟨⟨q, y⟩, hz, rfl⟩ := Option.map_eq_some_iff.mp e
   rw [List.getElem?_zip_eq_some] at hz
   exact ⟨q, y, hz.1, hz.2, rfl⟩
 have il : ∀ (i : Nat) (x : Ln), ((ts.zip S.ls).map fun y => (⟨y.1, y.2.1, y.2.2.1, y.2.2.2⟩ : Ln))[i]? = some x → ∃ t y, ts[i]? = some t ∧ S.ls[i]? = some y ∧ x = ⟨t, y.1, y.2.1, y.2.2⟩ := fun i x e => by
   rw [List.getElem?_map] at e
   obtain ⟨⟨q, y⟩, hz, rfl⟩ := Option.map_eq_some_iff.mp e
   rw [List.getElem?_zip_eq_some] at hz
   exact ⟨q, y, hz.1, hz.2, rfl⟩
 have mp : ∀ x ∈ ((qs.zip S.ps).map fun y => (⟨y.1.1, y.1.2, y.2.1, y.2.2⟩ : Prt)), (H x.t = some (.tup [.int x.p, .ref x.l]) ∧ H x.l = some (.lst (x.ws.map V.int)) ∧ x.l ≠ R.a ∧ x.l ≠ R.b ∧ H0 x.l = none) ∧ x.ws.length ≤ m := fun x hx => by
   obtain ⟨i, hi⟩ := List.getElem?_of_mem hx
   obtain ⟨q, y, a, b, rfl⟩ := ip i x hi
   exact ⟨q4 i q y a b, b3 y (List.mem_of_getElem? b)⟩
 have ml : ∀ x ∈ ((ts.zip S.ls).map fun y => (⟨y.1, y.2.1, y.2.2.1, y.2.2.2⟩ : Ln)), H x.a = some (.tup [.int x.p, .str x.r, .int x.t]) := fun x hx => by
   obtain ⟨i, hi⟩ := List.getElem?_of_mem hx
   obtain ⟨q, y, a, b, rfl⟩ := il i x hi
   exact t3 i q y a b
 have z1 : ((qs.zip S.ps).map fun y => (⟨y.1.1, y.1.2, y.2.1, y.2.2⟩ : Prt)).map (fun x => V.ref x.t) = qs.map fun q => V.ref q.1 := by
   rw [List.map_map, show ((fun x : Prt => V.ref x.t) ∘ fun y : (Addr × Addr) × (Int × List Int) => (⟨y.1.1, y.1.2, y.2.1, y.2.2⟩ : Prt)) = (fun q : Addr × Addr => V.ref q.1) ∘ Prod.fst from rfl, ← List.map_map, List.map_fst_zip (by omega)]
 have z2 : ((qs.zip S.ps).map fun y => (⟨y.1.1, y.1.2, y.2.1, y.2.2⟩ : Prt)).map Prt.l = qs.map (·.2) := by
   rw [List.map_map, show (Prt.l ∘ fun y : (Addr × Addr) × (Int × List Int) => (⟨y.1.1, y.1.2, y.2.1, y.2.2⟩ : Prt)) = (fun q : Addr × Addr => q.2) ∘ Prod.fst from rfl, ← List.map_map, List.map_fst_zip (by omega)]
 have z3 : ((ts.zip S.ls).map fun y => (⟨y.1, y.2.1, y.2.2.1, y.2.2.2⟩ : Ln)).map (fun x => V.ref x.a) = ts.map V.ref := by
   rw [List.map_map, show ((fun x : Ln => V.ref x.a) ∘ fun y : Addr × (Int × Str × Int) => (⟨y.1, y.2.1, y.2.2.1, y.2.2.2⟩ : Ln)) = V.ref ∘ Prod.fst from rfl, ← List.map_map, List.map_fst_zip (by omega)]
 refine ⟨⟨R.a, R.b, (qs.zip S.ps).map fun y => ⟨y.1.1, y.1.2, y.2.1, y.2.2⟩, (ts.zip S.ls).map fun y => ⟨y.1, y.2.1, y.2.2.1, y.2.2.2⟩, 0⟩, ⟨?_, ⟨?_, fun x hx => ⟨(mp x hx).1.1, (mp x hx).1.2.1⟩, ?_, fun x hx => (mp x hx).1.2.2.1⟩, ⟨?_, ml⟩, h.ab, fun x hx => (mp x hx).1.2.2.2.1, h.f.2.1, h.f.2.2, fun x hx => (mp x hx).1.2.2.2.2, ?_, ?_, fun x hx => Nat.le_trans (mp x hx).2 hm⟩, ?_, ?_⟩
 · rw [hq, e1, e2, e3]
 · rw [q2]; exact congrArg (fun z => some (HO.lst z)) z1.symm
 · show (((qs.zip S.ps).map fun y => (⟨y.1.1, y.1.2, y.2.1, y.2.2⟩ : Prt)).map Prt.l).Nodup
   rw [z2]; exact q3
 · rw [t2]; exact congrArg (fun z => some (HO.lst z)) z3.symm
 · show ((qs.zip S.ps).map _).length ≤ 300
   rw [List.length_map, List.length_zip]; omega
 · show ((ts.zip S.ls).map _).length ≤ 300
   rw [List.length_map, List.length_zip]; omega
 · show ((qs.zip S.ps).map fun y => (⟨y.1.1, y.1.2, y.2.1, y.2.2⟩ : Prt)).map Prt.core = S.ps
   rw [List.map_map, show (Prt.core ∘ fun y : (Addr × Addr) × (Int × List Int) => (⟨y.1.1, y.1.2, y.2.1, y.2.2⟩ : Prt)) = Prod.snd from rfl, List.map_snd_zip (by omega)]
 · show ((ts.zip S.ls).map fun y => (⟨y.1, y.2.1, y.2.2.1, y.2.2.2⟩ : Ln)).map Ln.core = S.ls
   rw [List.map_map, show (Ln.core ∘ fun y : Addr × (Int × Str × Int) => (⟨y.1, y.2.1, y.2.2.1, y.2.2.2⟩ : Ln)) = Prod.snd from rfl, List.map_snd_zip (by omega)]
theorem RowsOk.text {rows : List Row} {W : Whl} {S : BS} (h : RowsOk rows W S) : JoinOk (Str.ofString "\n") (rows.map rowT) = true ∧ (Txt.join (Str.ofString "\n") (rows.map rowT)).length < sizeLine := by
 have l := h.len
 have lb : (Str.ofString "\n").length = 1 := by decide +kernel
 have b : ∀ t ∈ rows.map rowT, t.length ≤ 1000 := fun t ht => by
   obtain ⟨r, hr, rfl⟩ := List.mem_map.mp ht
   exact (Row.good (h.small r hr)).1
 refine ⟨joinOk_of b ?_, Nat.lt_of_le_of_lt (join_le b) ?_⟩
 · rw [lb, List.length_map]; omega
 · rw [lb, List.length_map, sizeLine_eq]; omega
theorem RowsOk.alike {rows : List Row} {W : Whl} {S : BS} (h : RowsOk rows W S) {H0 H : Hp} {R : Rdg} {q : Addr} (O : Rdg.Ok A H0 H R (runR rows rows.length) rows.length) (hq : H q = some (.tup [R.st, R.sz, R.en, .ref R.a, .ref R.b])) :
   ∃ (F : Whl) (S' : BS), F.t = q ∧ FOk H0 H F S' ∧ Alike F W S' S := by
 obtain ⟨bw, hr⟩ := h.run
 have l := h.len
 rw [hr] at O
 obtain ⟨S', a, b, c⟩ := O.fnd (by omega) rfl hq
 exact ⟨_, S', rfl, a, ⟨rfl, rfl, rfl, b, c⟩⟩
theorem leanAt_snoc (ls : List (Int × Str × Int)) (l : Int × Str × Int) (n : Int) : leanAt (ls ++ [l]) n = if l.1 = n then [.lean l.2.1 l.2.2] else leanAt ls n := by
 unfold leanAt; rw [List.foldl_append]; rfl
theorem snoc_ind {α : Type} {P : List α → Prop} (h0 : P []) (h1 : ∀ xs x, P xs → P (xs ++ [x])) : ∀ xs, P xs := by
 have : ∀ xs : List α, P xs.reverse := fun xs => by
   induction xs with
   | nil => exact h0
   | cons x r ih => rw [List.reverse_cons]; exact h1 _ _ ih
 intro xs
 have := this xs.reverse
 rwa [List.reverse_reverse] at this
theorem leanAt_none : ∀ (ls : List (Int × Str × Int)) {n : Int}, (∀ l ∈ ls, l.1 ≠ n) → leanAt ls n = [] :=
 snoc_ind (P := fun ls => ∀ {n : Int}, (∀ l ∈ ls, l.1 ≠ n) → leanAt ls n = []) (fun {n} _ => rfl) fun xs x ih {n} h => by
   rw [leanAt_snoc, if_neg (h x (by simp))]
   exact ih fun l hl => h l (by simp [hl])
theorem zz23 (ls : List (Int × Str × Int)) (p : Int) (ws : List Int) (i : Nat) : wordRows ls p ws (i + 1) = wordRows ls p ws i ++ (.word (ws.getD i 0) :: leanAt ls (p + (i : Int))) := by
 unfold wordRows; rw [List.range_succ, List.flatMap_append]; simp
theorem wordRows_congr {ls ls' : List (Int × Str × Int)} {p : Int} {ws ws' : List Int} : ∀ {i : Nat}, (∀ j, j < i → ws.getD j 0 = ws'.getD j 0 ∧ leanAt ls (p + (j : Int)) = leanAt ls' (p + (j : Int))) → wordRows ls p ws i = wordRows ls' p ws' i
 | 0, _ => rfl
 | i + 1, h => by
   rw [zz23, zz23, wordRows_congr fun j hj => h j (by omega), (h i (by omega)).1, (h i (by omega)).2]
theorem zz24 (ps : List (Int × List Int)) (x : Int × List Int) (ls : List (Int × Str × Int)) : bodyRows (ps ++ [x]) ls = bodyRows ps ls ++ partRows ls x := by
 unfold bodyRows; rw [List.flatMap_append]; simp
theorem bodyRows_congr {ls ls' : List (Int × Str × Int)} : ∀ {ps : List (Int × List Int)}, (∀ x ∈ ps, ∀ j : Nat, j < x.2.length → leanAt ls (x.1 + (j : Int)) = leanAt ls' (x.1 + (j : Int))) → bodyRows ps ls = bodyRows ps ls'
 | [], _ => rfl
 | x :: r, h => by
   show partRows ls x ++ bodyRows r ls = partRows ls' x ++ bodyRows r ls'
   rw [bodyRows_congr fun y hy => h y (.tail _ hy)]
   unfold partRows
   rw [wordRows_congr fun j hj => ⟨rfl, h x (.head _) j hj⟩]
theorem getD_app (ws : List Int) (u : Int) {j : Nat} (h : j < ws.length) : (ws ++ [u]).getD j 0 = ws.getD j 0 := by
 rw [List.getD_eq_getElem?_getD, List.getD_eq_getElem?_getD, List.getElem?_append_left h]
theorem getD_last (ws : List Int) (u : Int) : (ws ++ [u]).getD ws.length 0 = u := by
 rw [List.getD_eq_getElem?_getD, List.getElem?_append_right (Nat.le_refl _), Nat.sub_self]; rfl
theorem RI.next {pre : List Row} {S : RS} {r : Row} (h : RI pre S) (hs : S.st ≠ none) (t : S.Takes r) : RI (pre ++ [r]) (S.next r) ∧ (S.next r).st = S.st := by
 obtain ⟨st, ps, ls, e, bw⟩ := S
 obtain ⟨hr, hlt, he, hb⟩ := h
 dsimp only at hr hlt he hb hs
 cases r with
 | whole n sz en => exact absurd t.1 hs
 | part n =>
   obtain ⟨q, hq, t1, t2, t3⟩ := t
   dsimp only at t1
   refine ⟨⟨?_, fun l hl => ?_, .inr ⟨ps, (n, []), rfl, by show n = n + ((0 : Nat) : Int); omega, fun y hy => ?_⟩, fun z => by cases z⟩, rfl⟩
   · show pre ++ [Row.part n] = bodyRows (ps ++ [(n, [])]) ls
     rw [zz24, hr]; rfl
   · have := hlt l hl; show l.1 < n; omega
   · show y.1 + (y.2.length : Int) ≤ n
     rcases he with z | ⟨pi, x, z, z1, z2⟩
     · rw [z] at hy; cases hy
     · rw [z] at hy
       rcases List.mem_append.mp hy with hy | hy
       · have := z2 y hy; omega
       · rw [List.mem_singleton.mp hy]; omega
 | word u =>
   obtain ⟨q, hq, t0, t1, t2, t3⟩ := t
   rcases he with z | ⟨pi, x, z, z1, z2⟩
   · exact absurd z t0
   · subst z
     have ea : addW u (pi ++ [x]) = pi ++ [(x.1, x.2 ++ [u])] := addW_snoc u pi x
     refine ⟨⟨?_, fun l hl => ?_, .inr ⟨pi, (x.1, x.2 ++ [u]), ea, by show e + 1 = x.1 + ((x.2 ++ [u]).length : Int); rw [List.length_append, List.length_singleton]; omega, z2⟩, fun _ => ⟨fun l hl => ?_, pi, x.1, x.2, u, ea⟩⟩, rfl⟩
     · show pre ++ [Row.word u] = bodyRows (addW u (pi ++ [x])) ls
       rw [ea, zz24, hr, zz24]
       unfold partRows
       dsimp only
       rw [List.length_append, List.length_singleton, zz23, getD_last, leanAt_none ls (n := x.1 + (x.2.length : Int)) fun l hl => by have := hlt l hl; omega,
         wordRows_congr (ws := x.2 ++ [u]) (ws' := x.2) (ls' := ls) fun j hj => ⟨getD_app _ _ hj, rfl⟩]
       simp
     · have := hlt l hl; show l.1 < e + 1; omega
     · have := hlt l hl; show l.1 < e + 1 - 1; omega
 | lean r v =>
   obtain ⟨t0, t1, t2, t3, t4⟩ := t
   obtain ⟨b1, pi, p, ws, u, b2⟩ := hb t1
   rcases he with z | ⟨pi', x, z, z1, z2⟩
   · rw [z] at b2; simp at b2
   · rw [z] at b2
     obtain ⟨rfl, hx⟩ := List.append_inj' b2 rfl
     have hx : x = (p, ws ++ [u]) := by simpa using hx
     subst hx z
     dsimp only at z1 z2 b1
     rw [List.length_append, List.length_singleton] at z1
     refine ⟨⟨?_, fun l hl => ?_, .inr ⟨pi', (p, ws ++ [u]), rfl, by show e = p + ((ws ++ [u]).length : Int); rw [List.length_append, List.length_singleton]; omega, z2⟩, fun z => by cases z⟩, rfl⟩
     · show pre ++ [Row.lean r v] = bodyRows (pi' ++ [(p, ws ++ [u])]) (ls ++ [(e - 1, r, v)])
       have c : ∀ n : Int, n ≠ e - 1 → leanAt (ls ++ [(e - 1, r, v)]) n = leanAt ls n := fun n hn => by rw [leanAt_snoc, if_neg fun z => hn z.symm]
       rw [zz24, hr, zz24, bodyRows_congr (ls := ls ++ [(e - 1, r, v)]) (ls' := ls) fun y hy j hj => c _ (by have := z2 y hy; omega)]
       unfold partRows
       dsimp only
       rw [List.length_append, List.length_singleton, zz23, zz23, getD_last, wordRows_congr (ls := ls ++ [(e - 1, r, v)]) (ls' := ls) (ws' := ws ++ [u]) fun j hj => ⟨rfl, c _ (by omega)⟩,
         leanAt_none ls (n := p + (ws.length : Int)) fun l hl => by have := b1 l hl; omega, leanAt_snoc, if_pos (show e - 1 = p + (ws.length : Int) by omega)]
       simp
     · rcases List.mem_append.mp hl with hl | hl
       · exact hlt l hl
       · rw [List.mem_singleton.mp hl]; show e - 1 < e; omega
theorem rows_back {rows : List Row} (ht : ∀ (i : Nat) (r : Row), rows[i]? = some r → (runR rows i).Takes r) : ∀ i : Nat, i < rows.length → ∃ st sz en, (runR rows (i + 1)).st = some (st, sz, en) ∧ ∃ pre, rows.take (i + 1) = .whole st sz en :: pre ∧ RI pre (runR rows (i + 1))
 | 0, hi => by
   have hr : rows[0]? = some rows[0] := List.getElem?_eq_getElem hi
   have t := ht 0 _ hr
   rw [runR_succ hr]
   generalize rows[0] = r at hr t
   have e0 : runR rows 0 = RS0 := rfl
   rw [e0] at t ⊢
   have et : rows.take 1 = [r] := by rw [List.take_succ, hr]; rfl
   cases r with
   | whole n sz en => exact ⟨n, sz, en, rfl, [], et, ⟨rfl, fun l hl => (nomatch hl), .inl rfl, fun z => by cases z⟩⟩
   | part n => obtain ⟨q, hq, _⟩ := t; cases hq
   | word n => obtain ⟨q, hq, _⟩ := t; cases hq
   | lean r n => exact absurd rfl t.1
 | i + 1, hi => by
   obtain ⟨st, sz, en, h1, pre, h2, h3⟩ := rows_back ht i (by omega)
   have hr : rows[i + 1]? = some rows[i + 1] := List.getElem?_eq_getElem hi
   have t := ht (i + 1) _ hr
   rw [runR_succ hr]
   have n := h3.next (by rw [h1]; exact fun z => (nomatch z)) t
   refine ⟨st, sz, en, n.2.trans h1, pre ++ [rows[i + 1]], ?_, n.1⟩
   rw [List.take_succ, h2, hr]; rfl
theorem RowsOk.rowsOf {rows : List Row} {W : Whl} {S : BS} (h : RowsOk rows W S) : rows = rowsOf W.st W.sz W.en (S.ps.map Prt.core) (S.ls.map Ln.core) := by
 obtain ⟨bw, hr⟩ := h.run
 have hl : 0 < rows.length := by cases rows with | nil => exact absurd rfl h.ne | cons _ _ => exact Nat.succ_pos _
 obtain ⟨st, sz, en, h1, pre, h2, h3⟩ := rows_back h.takes (rows.length - 1) (by omega)
 rw [show rows.length - 1 + 1 = rows.length by omega] at h1 h2 h3
 rw [hr] at h1 h3
 cases h1
 rw [List.take_length] at h2
 rw [h2, h3.rows]; rfl
theorem G_qzj (T : Txt w K mg A) : FnOk P w K mg base CX0 1 A.qzj A.fd_qzj ["leans"] sp_leans := by
 refine T.F_qzj.ok sc_qzj (fun vs H Q E h => ?_) (fun cdv Ar outer s H vs Q E hr h => ?_)
 · obtain ⟨b, ls, rfl, _⟩ := h
   rfl
 · obtain ⟨b, ls, rfl, hL, hn, hR, k⟩ := h
   refine ⟨_, (zz3 (ps_set (i := 1) sc_qzj.nd rfl (by walk_at "o") pe_dnewK) (zz3 (ps_for PassesOwn.never rfl (pi_listK (K := K) rfl (pv 0)) (pg_tupK (K := K) (n := 3) rfl rfl (pgs_cons (pg_name (i := 2) sc_qzj.nd rfl (by walk_at "o")) (pgs_cons (pg_name (i := 3) sc_qzj.nd rfl (by walk_at "o")) (pgs_cons (pg_name (i := 4) sc_qzj.nd rfl (by walk_at "o")) pgs_nil)))) (zz5 (ps_dput (hu_of hr) (pv 1) (pv 2) (pe_lst (zz0 (pe_joined (pj_cons pe_str (pj_cons (pe_fmt (pv 3)) (pj_cons pe_str (pj_cons (pe_fmt (pv 4)) pj_nil))))) pa_nil)) rfl))) (zz5 (ps_ret (pv 1))))), ?_⟩
   walk_at "rd"
   intro p hp
   refine ForL.of (xs := ls.map fun x => V.ref x.a) (fun i σ H' => ∃ b2 b3 b4 : Option V, σ = [some (.ref b), some (.ref p), b2, b3, b4] ∧ Same H H' ∧ ∃ mem, H' p = some (.dK mem) ∧ mem.length ≤ i ∧ LRs H' mem ((ls.take i).map Ln.core))
     ⟨_, _, _, rfl, zz2 hp, [], zz1, Nat.zero_le _, fun n => rfl⟩ ?_ ?_ ?_
   · rintro i σ H' hi ⟨b2, b3, b4, rfl, sm, _⟩
     exact SqL.of (sm _ _ hL.top)
   · rintro i v σ H' hv ⟨b2, b3, b4, rfl, sm, mem, hm, hl, hR'⟩
     rw [List.getElem?_map] at hv
     obtain ⟨l, hl', rfl⟩ := Option.map_eq_some_iff.mp hv
     have hmem := List.mem_of_getElem? hl'
     have hi := (List.getElem?_eq_some_iff.mp hl').1
     have e1 := hL.at_ l hmem
     walk_at "rd"
     have hr := hR l hmem
     have lt := lenS (x := l.t) (by omega) (by omega)
     have lr : l.r.length ≤ 5 := by rcases hr.1 with e | e | e <;> rw [e] <;> decide +kernel
     have l5 : (Str.ofString "lean ").length = 5 := by decide +kernel
     have l1 : (Str.ofString " ").length = 1 := by decide +kernel
     walk_at "4"
     refine ⟨_, SqT.of (sm _ _ e1), rfl, _, _, rfl, _, _, rfl, _, _, rfl, rfl, ?_⟩
     simp only [Str.empty_append]
     refine ⟨sz _ (by omega), .inl ⟨_, rfl, sz _ (by omega), sz _ (by rw [slen]; omega), sz _ (by rw [slen, slen]; omega), .inr ⟨_, rfl, lt.2, sz _ (by rw [slen, slen, slen]; omega), sz _ (by rw [slen, slen, slen]; omega), sz _ (by decide), fun p1 hp1 => ?_⟩⟩⟩
     have ez : Str.ofString "lean " ++ l.r ++ Str.ofString " " ++ Str.ofString (toString l.t) = rowT (.lean l.r l.t) := by rw [rowT_lean]; rfl
     rw [ez]
     have s1 := zz2 (o := HO.lst [V.str (rowT (.lean l.r l.t))]) hp1
     have e2 := s1 _ _ hm
     have npp : p1 ≠ p := Ne.symm (zz4 hm hp1)
     refine ⟨_, DPut.k (k := .inl l.p) e2 (by rw [sizeLine_eq]; omega), same_upd hp (sm.trans s1), _, zz1, Nat.le_trans (length_putK _ _ _) (by omega), fun n => ?_⟩
     rw [valV_put, take_snoc hl', List.map_append]
     by_cases z : l.p = n
     · subst z
       rw [if_pos rfl]
       refine ⟨p1, rfl, ?_⟩
       rw [upd_ne npp, zz1]
       show _ = some (HO.lst ((leanAt (_ ++ [l.core]) l.p).map _))
       rw [leanAt_snoc, if_pos (show l.core.1 = l.p from rfl)]; rfl
     · rw [if_neg fun e => z (Sum.inl.inj e).symm]
       have := hR' n
       cases hv : valV mem (.inl n) with
       | none =>
         rw [hv] at this
         show leanAt (_ ++ [l.core]) n = []
         rw [leanAt_snoc, if_neg (show ¬ l.core.1 = n from z)]; exact this
       | some v =>
         rw [hv] at this
         obtain ⟨a, e, ha⟩ := this
         refine ⟨a, e, ?_⟩
         show _ = some (HO.lst ((leanAt (_ ++ [l.core]) n).map _))
         rw [leanAt_snoc, if_neg (show ¬ l.core.1 = n from z), upd_ne (ne_of (s1 _ _ ha) e2 (by intro z; cases z))]
         exact s1 _ _ ha
   · rintro σ H' ⟨b2, b3, b4, rfl, sm, mem, hm, hl, hR'⟩
     walk_at "rd"
     rw [List.length_map, List.take_length] at hR'
     exact k p mem H' sm hm hR'
theorem LRs.mono {H H' : Hp} {mem : List (Key × V)} {ls : List (Int × Str × Int)} (h : LRs H mem ls) (s : Same H H') : LRs H' mem ls := fun n => by
 have := h n
 cases hv : valV mem (.inl n) with
 | none => rw [hv] at this; exact this
 | some v =>
   rw [hv] at this
   obtain ⟨a, e, ha⟩ := this
   exact ⟨a, e, s _ _ ha⟩
theorem body_split {ps : List (Int × List Int)} {ls : List (Int × Str × Int)} {i : Nat} {x : Int × List Int} (h : ps[i]? = some x) : bodyRows ps ls = bodyRows (ps.take i) ls ++ (partRows ls x ++ bodyRows (ps.drop (i + 1)) ls) := by
 obtain ⟨hi, e⟩ := List.getElem?_eq_some_iff.mp h
 have : ps = ps.take i ++ (x :: ps.drop (i + 1)) := by
   rw [← e, List.getElem_cons_drop, List.take_append_drop]
 conv => lhs; rw [this]
 unfold bodyRows
 rw [List.flatMap_append]; rfl
theorem wordRows_le (ls : List (Int × Str × Int)) (p : Int) (ws : List Int) {j k : Nat} (h : j ≤ k) : (wordRows ls p ws j).length ≤ (wordRows ls p ws k).length := by
 induction k with
 | zero => rw [show j = 0 by omega]; exact Nat.le_refl _
 | succ k ih =>
   by_cases z : j = k + 1
   · rw [z]; exact Nat.le_refl _
   · rw [zz23, List.length_append]; have := ih (by omega); omega
theorem wordRows_mem (ls : List (Int × Str × Int)) (p : Int) (ws : List Int) {j k : Nat} (h : j < k) : Row.word (ws.getD j 0) ∈ wordRows ls p ws k := by
 unfold wordRows
 rw [List.mem_flatMap]
 exact ⟨j, List.mem_range.mpr h, .head _⟩
theorem G_qzq (T : Txt w K mg A) : FnOk P w K mg base CX0 2 A.qzq A.fd_qzq ["whole"] sp_shown := by
 refine T.F_qzq.ok sc_qzq (fun vs H Q E h => ?_) (fun cdv Ar outer s H vs Q E hr h => ?_)
 · obtain ⟨W, S, rfl, _⟩ := h
   rfl
 · obtain ⟨W, S, rfl, hW, k⟩ := h
   refine ⟨_, (zz3 (ps_set (i := 1) sc_qzq.nd rfl (by walk_at "o") (pe_ix (ix_tupK (K := K) rfl) (pv 0) pe_int (fun _ _ => rfl))) (zz3 (ps_set (i := 2) sc_qzq.nd rfl (by walk_at "o") (pe_ix (ix_tupK (K := K) rfl) (pv 0) pe_int (fun _ _ => rfl))) (zz3 (ps_set (i := 3) sc_qzq.nd rfl (by walk_at "o") (pe_ix (ix_tupK (K := K) rfl) (pv 0) pe_int (fun _ _ => rfl))) (zz3 (ps_set (i := 4) sc_qzq.nd rfl (by walk_at "o") (zz12 (G_qzj T) (hr.mono (by decide)) rfl T.m_qzj T.k_qzj T.b_qzj .nil pass0 (zz0 (pe_ix (ix_tupK (K := K) rfl) (pv 0) pe_int (fun _ _ => rfl)) pa_nil))) (zz3 (ps_set (i := 5) sc_qzq.nd rfl (by walk_at "o") (pe_lst (zz0 (pe_joined (pj_cons pe_str (pj_cons (pe_fmt (pv 1)) (pj_cons pe_str (pj_cons (pe_fmt (pv 2)) (pj_cons pe_str (pj_cons (pe_fmt (pv 3)) pj_nil))))))) pa_nil))) (zz3 (ps_for PassesOwn.never rfl (pi_listK (K := K) rfl (pe_ix (ix_tupK (K := K) rfl) (pv 0) pe_int (fun _ _ => rfl))) (pg_tupK (K := K) (n := 2) rfl rfl (pgs_cons (pg_name (i := 6) sc_qzq.nd rfl (by walk_at "o")) (pgs_cons (pg_name (i := 7) sc_qzq.nd rfl (by walk_at "o")) pgs_nil))) (zz3 (ps_expr (pe_bm PySem.F.plainAttrs_list PySem.F.slot_list_append PySem.F.type_list_append mt_append (pv 5) (zz0 (pe_joined (pj_cons pe_str (pj_cons (pe_fmt (pv 6)) pj_nil))) pa_nil))) (zz5 (ps_for PassesOwn.never rfl (pi_enum (K := K) rfl rfl T.n_enumerate (zz0 (pv 7) pa_nil)) (pg_tupK (K := K) (n := 2) rfl rfl (pgs_cons (pg_name (i := 8) sc_qzq.nd rfl (by walk_at "o")) (pgs_cons (pg_name (i := 9) sc_qzq.nd rfl (by walk_at "o")) pgs_nil))) (zz3 (ps_expr (pe_bm PySem.F.plainAttrs_list PySem.F.slot_list_append PySem.F.type_list_append mt_append (pv 5) (zz0 (pe_joined (pj_cons pe_str (pj_cons (pe_fmt (pv 9)) pj_nil))) pa_nil))) (zz5 (ps_expr (pe_bm PySem.F.plainAttrs_list PySem.F.slot_list_extend PySem.F.type_list_extend mt_extend (pv 5) (zz0 (pe_dget2 (hu_of hr) (pv 4) (pe_op op_add (pv 6) (pv 8)) (pe_lst pa_nil) ⟨rfl, rfl, rfl, rfl⟩) pa_nil))))))))) (zz5 (ps_ret (pe_bm PySem.F.plainAttrs_str PySem.F.slot_str_join PySem.F.type_str_join (mt_joinK (K := K) rfl) pe_str (zz0 (pv 5) pa_nil)))))))))), ?_⟩
   walk_at "rd"
   have h0 := hW.small _ (.head _)
   obtain ⟨⟨c1, c2⟩, ⟨c3, c4⟩, ⟨c5, c6⟩⟩ := h0
   have m1 := lenS (x := W.st) (by omega) (by omega)
   have m2 := lenS (x := W.sz) (by omega) (by omega)
   have m3 := lenS (x := W.en) (by omega) (by omega)
   have lw : (Str.ofString "whole ").length = 6 := by decide +kernel
   walk_at "0"
   walk_at "4"
   refine ⟨_, SqT.of hW.top, _, rfl, _, SqT.of hW.top, _, rfl, _, SqT.of hW.top, _, rfl, _, SqT.of hW.top, _, rfl, _, rfl, S.ls, hW.lm, hW.n2, hW.lr, fun d mem H2 s2 hd hR => ?_⟩
   simp only [Str.empty_append]
   refine ⟨sz _ (by omega), .inr ⟨_, rfl, m1.2, sz _ (by rw [slen]; omega), sz _ (by rw [slen, slen]; omega), .inr ⟨_, rfl, m2.2, sz _ (by rw [slen, slen, slen]; omega), sz _ (by rw [slen, slen, slen, slen]; omega), .inr ⟨_, rfl, m3.2, sz _ (by rw [slen, slen, slen, slen, slen]; omega), sz _ (by rw [slen, slen, slen, slen, slen]; omega), ?_⟩⟩⟩⟩
   refine ⟨sz _ (by decide), fun q hq => ?_⟩
   have ez : Str.ofString "whole " ++ Str.ofString (toString W.st) ++ Str.ofString " " ++ Str.ofString (toString W.sz) ++ Str.ofString " " ++ Str.ofString (toString W.en) = rowT (.whole W.st W.sz W.en) := by rw [rowT_whole]; rfl
   rw [ez]
   have s3 := zz2 (o := HO.lst [V.str (rowT (.whole W.st W.sz W.en))]) hq
   have hlen := hW.len
   have hsm := hW.small
   refine ⟨_, SqT.of (s3 _ _ (s2 _ _ hW.top)), _, rfl, ?_⟩
   refine ForL.of (xs := S.ps.map fun x => V.ref x.t) (fun i σ H' => ∃ b6 b7 b8 b9 : Option V, σ = [some (.ref W.t), some (.int W.st), some (.int W.sz), some (.int W.en), some (.ref d), some (.ref q), b6, b7, b8, b9] ∧ Same H2 H' ∧ H' q = some (.lst ((Row.whole W.st W.sz W.en :: bodyRows ((S.ps.map Prt.core).take i) (S.ls.map Ln.core)).map fun r => V.str (rowT r))))
     ⟨_, _, _, _, rfl, s3, zz1⟩ ?_ ?_ ?_
   · rintro i σ H' hi ⟨b6, b7, b8, b9, rfl, sm, _⟩
     exact SqL.of (sm _ _ (s2 _ _ hW.pm.top))
   · rintro i v σ H' hv ⟨b6, b7, b8, b9, rfl, sm, hq'⟩
     rw [List.getElem?_map] at hv
     obtain ⟨x, hx, rfl⟩ := Option.map_eq_some_iff.mp hv
     have hmem := List.mem_of_getElem? hx
     have hxc : (S.ps.map Prt.core)[i]? = some (x.p, x.ws) := by rw [List.getElem?_map, hx]; rfl
     have sp := body_split (ls := S.ls.map Ln.core) hxc
     obtain ⟨e1, e2⟩ := hW.pm.at_ x hmem
     have tk : bodyRows ((S.ps.map Prt.core).take (i + 1)) (S.ls.map Ln.core) = bodyRows ((S.ps.map Prt.core).take i) (S.ls.map Ln.core) ++ partRows (S.ls.map Ln.core) (x.p, x.ws) := by rw [take_snoc hxc, zz24]
     unfold rowsOf at hlen hsm
     rw [sp] at hlen hsm
     rw [tk]
     generalize bodyRows ((S.ps.map Prt.core).take i) (S.ls.map Ln.core) = pre at *
     generalize bodyRows ((S.ps.map Prt.core).drop (i + 1)) (S.ls.map Ln.core) = suf at *
     generalize S.ls.map Ln.core = ls at *
     rw [List.length_cons, List.length_append, List.length_append] at hlen
     have lp : (partRows ls (x.p, x.ws)).length = 1 + (wordRows ls x.p x.ws x.ws.length).length := by show (wordRows ls x.p x.ws x.ws.length).length + 1 = _; omega
     have sp1 := hsm (.part x.p) (by unfold partRows; simp)
     have lx := lenS (x := x.p) (by have := sp1.1; omega) (by have := sp1.2; omega)
     have l5 : (Str.ofString "part ").length = 5 := by decide +kernel
     walk_at "rd"
     simp only [Str.empty_append]
     refine ⟨_, SqT.of (sm _ _ (s2 _ _ e1)), rfl, _, _, rfl, _, _, rfl, rfl, .inl ⟨rfl, _, SqL.of hq'⟩, sz _ (by omega), .inr ⟨_, rfl, lx.2, sz _ (by rw [slen]; omega), sz _ (by rw [slen]; omega), _, hq', by rw [List.length_map, List.length_cons, sizeLine_eq]; omega, ?_⟩⟩
     have ep : Str.ofString "part " ++ Str.ofString (toString x.p) = rowT (.part x.p) := by rw [rowT_part]; rfl
     rw [ep]
     have dq : d ≠ q := zz4 hd hq
     refine ForE.of (xs := x.ws.map V.int) (fun j σ H3 => ∃ b8 b9 : Option V, σ = [some (.ref W.t), some (.int W.st), some (.int W.sz), some (.int W.en), some (.ref d), some (.ref q), some (.int x.p), some (.ref x.l), b8, b9] ∧ Same H2 H3 ∧ H3 q = some (.lst ((Row.whole W.st W.sz W.en :: (pre ++ Row.part x.p :: wordRows ls x.p x.ws j)).map fun r => V.str (rowT r))))
       ⟨_, _, rfl, same_upd hq sm, by rw [zz1]; exact congrArg (fun z => some (HO.lst z)) (by rw [← List.cons_append, List.map_append]; rfl)⟩ ?_ ?_ ?_
     · rintro j σ H3 hj ⟨b8, b9, rfl, sm3, _⟩
       exact SqL.of (sm3 _ _ (s2 _ _ e2))
     · rintro j v σ H3 t hv ⟨b8, b9, rfl, sm3, hq3⟩ ht
       have hj := (List.getElem?_eq_some_iff.mp hv).1
       rw [List.length_map] at hj
       rw [List.getElem?_map] at hv
       obtain ⟨u, hu, rfl⟩ := Option.map_eq_some_iff.mp hv
       have hu' : x.ws.getD j 0 = u := by rw [List.getD_eq_getElem?_getD, hu]; rfl
       have su := hsm (.word u) (by rw [← hu']; exact List.mem_cons_of_mem _ (List.mem_append_right _ (List.mem_append_left _ (List.mem_cons_of_mem _ (wordRows_mem ls x.p x.ws hj)))))
       have lu := lenS (x := u) (by have := su.1; omega) (by have := su.2; omega)
       have lw5 : (Str.ofString "word ").length = 5 := by decide +kernel
       have le1 := wordRows_le ls x.p x.ws (j := j + 1) (k := x.ws.length) (by omega)
       have e3 := zz23 ls x.p x.ws j
       rw [hu'] at e3
       rw [e3] at le1
       rw [List.length_append, List.length_cons] at le1
       have s4 := zz2 (o := HO.tup [V.int (j : Int), V.int u]) ht
       have hq4 := s4 _ _ hq3
       walk_at "rd"
       simp only [Str.empty_append]
       refine ⟨_, SqT.of zz1, rfl, _, _, rfl, _, _, rfl, rfl, .inl ⟨rfl, _, SqL.of hq4⟩, sz _ (by omega), .inr ⟨_, rfl, lu.2, sz _ (by rw [slen]; omega), sz _ (by rw [slen]; omega), _, hq4, by rw [List.length_map, List.length_cons, List.length_append, List.length_cons, sizeLine_eq]; omega, ?_⟩⟩
       have ew : Str.ofString "word " ++ Str.ofString (toString u) = rowT (.word u) := by rw [rowT_word]; rfl
       rw [ew]
       have eL : ((Row.whole W.st W.sz W.en :: (pre ++ Row.part x.p :: wordRows ls x.p x.ws (j + 1))).map fun r => V.str (rowT r)) = ((Row.whole W.st W.sz W.en :: (pre ++ Row.part x.p :: wordRows ls x.p x.ws j)).map fun r => V.str (rowT r)) ++ [V.str (rowT (.word u))] ++ (leanAt ls (x.p + (j : Int))).map fun r => V.str (rowT r) := by
         rw [e3]; simp
       have lL : (((Row.whole W.st W.sz W.en :: (pre ++ Row.part x.p :: wordRows ls x.p x.ws j)).map fun r => V.str (rowT r)) ++ [V.str (rowT (.word u))]).length ≤ 300 := by
         rw [List.length_append, List.length_map, List.length_cons, List.length_append, List.length_cons, List.length_singleton]; omega
       have s5 : Same H2 (upd (upd H3 t (HO.tup [V.int (j : Int), V.int u])) q (HO.lst (((Row.whole W.st W.sz W.en :: (pre ++ Row.part x.p :: wordRows ls x.p x.ws j)).map fun r => V.str (rowT r)) ++ [V.str (rowT (.word u))]))) := same_upd hq (sm3.trans s4)
       have hqq : upd (upd H3 t (HO.tup [V.int (j : Int), V.int u])) q (HO.lst (((Row.whole W.st W.sz W.en :: (pre ++ Row.part x.p :: wordRows ls x.p x.ws j)).map fun r => V.str (rowT r)) ++ [V.str (rowT (.word u))])) q = some (HO.lst (((Row.whole W.st W.sz W.en :: (pre ++ Row.part x.p :: wordRows ls x.p x.ws j)).map fun r => V.str (rowT r)) ++ [V.str (rowT (.word u))])) := zz1
       generalize ((Row.whole W.st W.sz W.en :: (pre ++ Row.part x.p :: wordRows ls x.p x.ws j)).map fun r => V.str (rowT r)) ++ [V.str (rowT (.word u))] = L at *
       generalize upd (upd H3 t (HO.tup [V.int (j : Int), V.int u])) q (HO.lst L) = Hq at *
       have hdq := s5 _ _ hd
       refine ⟨.inl ⟨rfl, _, SqL.of hqq⟩, .inl ⟨_, .inl hdq⟩, _, rfl, Nat.zero_le _, fun p hp => ?_⟩
       have s6 := zz2 (o := HO.lst []) hp
       have rr := hR.mono (s5.trans s6) (x.p + (j : Int))
       have npq : p ≠ q := Ne.symm (zz4 hqq hp)
       refine ⟨_, DGet.k (k := .inl (x.p + (j : Int))) (s6 _ _ hdq), ?_⟩
       cases hv : valV mem (.inl (x.p + (j : Int))) with
       | none =>
         rw [hv] at rr
         have rr : leanAt ls (x.p + (j : Int)) = [] := rr
         rw [rr] at eL
         exact ⟨p, rfl, _, s6 _ _ hqq, _, zz1, by rw [sizeLine_eq]; show L.length + 0 ≤ _; omega, same_upd hq (s5.trans s6), (zz1).trans (congrArg (fun z => some (HO.lst z)) eL.symm)⟩
       | some v =>
         rw [hv] at rr
         obtain ⟨a, rfl, ha⟩ := rr
         exact ⟨a, rfl, _, s6 _ _ hqq, _, ha, by rw [sizeLine_eq, List.length_map]; omega, same_upd hq (s5.trans s6), (zz1).trans (congrArg (fun z => some (HO.lst z)) eL.symm)⟩
     · rintro σ H3 ⟨b8, b9, rfl, sm3, hq3⟩
       rw [List.length_map] at hq3
       exact ⟨_, _, _, _, rfl, sm3, hq3⟩
   · rintro σ H' ⟨b6, b7, b8, b9, rfl, sm, hq'⟩
     walk_at "rd"
     rw [List.length_map, ← List.length_map (f := Prt.core), List.take_length] at hq'
     have b : ∀ t ∈ (rowsOf W.st W.sz W.en (S.ps.map Prt.core) (S.ls.map Ln.core)).map rowT, t.length ≤ 1000 := fun t ht => by
       obtain ⟨r, hr, rfl⟩ := List.mem_map.mp ht
       exact (Row.good (hW.small r hr)).1
     have lb2 : (Str.ofString "\n").length = 1 := by decide +kernel
     refine ⟨rfl, (rowsOf W.st W.sz W.en (S.ps.map Prt.core) (S.ls.map Ln.core)).map rowT, by rw [List.map_map]; exact SqL.of hq', joinOk_of b (by rw [lb2, List.length_map]; omega), k _ (s2.trans sm)⟩
theorem numF_less {a : Str} {lo hi lo' hi' : Int} (h : numF a lo hi = .non) (h1 : lo ≤ lo') (h2 : hi' ≤ hi) : numF a lo' hi' = .non := by
 rcases numF_cases a lo' hi' with e | ⟨n, e⟩
 · exact e
 · exfalso
   unfold numF at h e
   by_cases c : (figs a).length = 0 ∨ 10 < (figs a).length ∨ (figs a).all dig = false ∨ List.take 1 (figs a) = [48] ∧ a ≠ Str.ofString "0"
   · rw [if_pos c] at e; cases e
   · rw [if_neg c] at h e
     by_cases c2 : (lo' ≤ if Txt.startswith a (Str.ofString "-") = true then -↑(valD (figs a)) else ↑(valD (figs a))) ∧ (if Txt.startswith a (Str.ofString "-") = true then -↑(valD (figs a)) else ↑(valD (figs a))) ≤ hi'
     · rw [if_pos ⟨Int.le_trans h1 c2.1, Int.le_trans c2.2 h2⟩] at h; cases h
     · rw [if_neg c2] at e; cases e
theorem valD_lt : ∀ cs : List Nat, (∀ c ∈ cs, c ≤ 57) → valD cs < 10 ^ cs.length :=
 snoc_ind (P := fun cs => (∀ c ∈ cs, c ≤ 57) → valD cs < 10 ^ cs.length) (fun _ => by decide) fun cs c ih h => by
   have i := ih fun x hx => h x (by simp [hx])
   have hc := h c (by simp)
   rw [valD_snoc, List.length_append, List.length_singleton, Nat.pow_succ]
   omega
theorem dgs_long {m : Nat} (h : 10 ^ 10 ≤ m) : 10 < (dgs m).length := by
 have := valD_lt (dgs m) fun c hc => (dgs_rng hc).2
 rw [dgs_val] at this
 rcases Nat.lt_or_ge 10 (dgs m).length with z | z
 · exact z
 · have := Nat.pow_le_pow_right (n := 10) (by decide) z
   omega
theorem numF_big {n lo hi : Int} (h : 9999999999 < n) : numF (nS n) lo hi = .non := by
 obtain ⟨m, rfl⟩ := Int.eq_ofNat_of_zero_le (show 0 ≤ n by omega)
 have em : (nS (m : Int)).cps.toList = dgs m := sgn_pos m
 have e1 := (figs_pos (z := nS (m : Int)) (by
   rw [em]
   cases hd : dgs m with
   | nil => simp
   | cons c r =>
     intro e
     have : c = 45 := by simpa using e
     have := dgs_rng (m := m) (c := c) (by rw [hd]; exact List.mem_cons_self)
     omega)).1
 refine numF_non2 ?_
 rw [e1, em]
 exact dgs_long (by omega)
theorem numF_small {n lo hi : Int} (h : n < -9999999999) : numF (nS n) lo hi = .non := by
 obtain ⟨m, rfl⟩ : ∃ m : Nat, n = Int.negSucc m := ⟨(-n - 1).toNat, by omega⟩
 have em : (nS (Int.negSucc m)).cps.toList = 45 :: dgs (m + 1) := sgn_neg m
 refine numF_non2 ?_
 rw [(figs_neg em).1]
 exact dgs_long (by omega)
theorem numF_over {n lo hi : Int} (h : n < lo ∨ hi < n) : numF (nS n) lo hi = .non := by
 by_cases h1 : 9999999999 < n
 · exact numF_big h1
 · by_cases h2 : n < -9999999999
   · exact numF_small h2
   · have := numF_str (n := n) (lo := lo) (hi := hi) (by omega) (by omega)
     unfold nS
     rw [this, if_neg (by omega)]
noncomputable def oddB (ps : List Str) : Bool := match ps with
 | [] => false
 | h :: r => decide ((valV HMP (.inr h)).getD .non ≠ V.int ((h :: r).length : Int)) || (match r with
   | [a] => (decide (h = Str.ofString "part") || decide (h = Str.ofString "word")) && decide (numF a 0 4294967295 = .non)
   | [a, b] => decide (h = Str.ofString "lean") && (decide (numF b (-9999999999) 9999999999 = .non) || !(decide (a = Str.ofString "whole") || decide (a = Str.ofString "high") || decide (a = Str.ofString "low")))
   | _ => false)
theorem oddB_bad {ps : List Str} (h : oddB ps = true) (S : RS) (hS : S.Fine) : Bad S ps := by
 cases ps with
 | nil => cases h
 | cons hd r =>
   unfold oddB at h
   rcases Bool.or_eq_true_iff.mp h with z | z
   · exact .len (of_decide_eq_true z)
   · match r, z with
     | [a], z =>
       obtain ⟨z1, z2⟩ := Bool.and_eq_true_iff.mp z
       have z2 := of_decide_eq_true z2
       rcases Bool.or_eq_true_iff.mp z1 with e | e
       · rw [of_decide_eq_true e]
         exact .part fun q hq => numF_less z2 hS.1 (hS.2 q hq)
       · rw [of_decide_eq_true e]
         exact .word (.inl z2)
     | [a, b], z =>
       obtain ⟨z1, z2⟩ := Bool.and_eq_true_iff.mp z
       rw [of_decide_eq_true z1]
       rcases Bool.or_eq_true_iff.mp z2 with e | e
       · exact .lean (.inr (.inr (of_decide_eq_true e)))
       · refine .lean (.inr (.inl fun q => ?_))
         unfold isR at q
         simp only [Bool.not_eq_true', Bool.or_eq_false_iff, decide_eq_false_iff_not] at e
         rcases q with q | q | q
         · exact e.1.1 q
         · exact e.1.2 q
         · exact e.2 q
noncomputable def oddOk (z : Str) : Bool := decide (z.length ≤ 600) && decide (10 ∉ z.cps.toList) && oddB (Txt.split z (Str.ofString " "))
theorem odd_of {z : Str} (h : oddOk z = true) : OddT z := by
 unfold oddOk at h
 simp only [Bool.and_eq_true, decide_eq_true_eq] at h
 exact ⟨h.1.1, h.1.2, fun S hS => oddB_bad h.2 S hS⟩
theorem split_two {a b : Str} (h1 : 32 ∉ a.cps.toList) (h2 : 32 ∉ b.cps.toList) : Txt.split (a ++ Str.ofString " " ++ b) (Str.ofString " ") = [a, b] := by
 have e : a ++ Str.ofString " " ++ b = Txt.join (Str.ofString " ") [a, b] := by rw [txt_join]; rfl
 rw [e, sp_one]
 exact split_join (by simp) fun p hp => by
   simp only [List.mem_cons, List.not_mem_nil, or_false] at hp
   rcases hp with rfl | rfl <;> assumption
theorem split_three {a b c : Str} (h1 : 32 ∉ a.cps.toList) (h2 : 32 ∉ b.cps.toList) (h3 : 32 ∉ c.cps.toList) : Txt.split (a ++ Str.ofString " " ++ (b ++ Str.ofString " " ++ c)) (Str.ofString " ") = [a, b, c] := by
 have e : a ++ Str.ofString " " ++ (b ++ Str.ofString " " ++ c) = Txt.join (Str.ofString " ") [a, b, c] := by rw [txt_join]; rfl
 rw [e, sp_one]
 exact split_join (by simp) fun p hp => by
   simp only [List.mem_cons, List.not_mem_nil, or_false] at hp
   rcases hp with rfl | rfl | rfl <;> assumption
theorem no_nl {a b : Str} (h1 : 10 ∉ a.cps.toList) (h2 : 10 ∉ b.cps.toList) : 10 ∉ (a ++ b).cps.toList := fun h => by
 rw [show (a ++ b).cps = a.cps ++ b.cps from rfl, Array.toList_append] at h
 exact (List.mem_append.mp h).elim h1 h2
theorem nS_few {n : Int} (h0 : -(10 ^ 40) ≤ n) (h1 : n ≤ 10 ^ 40) : (nS n).length ≤ 241 ∧ 10 ∉ (nS n).cps.toList ∧ 32 ∉ (nS n).cps.toList :=
 ⟨few_len ⟨by omega, by omega⟩, int_text_free' 10 (by decide) n, int_text_free' 32 (by decide) n⟩
theorem odd_two {p h a : Str} (e : p = h ++ Str.ofString " ") (hh : h = Str.ofString "word" ∨ h = Str.ofString "part") (la : a.length ≤ 500) (na : 10 ∉ a.cps.toList) (sa : 32 ∉ a.cps.toList) (hn : numF a 0 4294967295 = .non) : OddT (p ++ a) := by
 subst e
 have lh : h.length ≤ 10 ∧ 10 ∉ h.cps.toList ∧ 32 ∉ h.cps.toList := by rcases hh with rfl | rfl <;> decide +kernel
 walk_at "0"
 have nb : 10 ∉ (Str.ofString " ").cps.toList := by decide +kernel
 refine ⟨by rw [slen, slen]; omega, no_nl (no_nl lh.2.1 nb) na, fun S hS => ?_⟩
 rw [split_two lh.2.2 sa]
 rcases hh with rfl | rfl
 · exact .word (.inl hn)
 · exact .part fun q hq => numF_less hn hS.1 (hS.2 q hq)
theorem dash_str {m : Int} (h : 0 < m) : Str.ofString "-" ++ nS m = nS (-m) := by
 obtain ⟨k, rfl⟩ : ∃ k : Nat, m = (k : Int) + 1 := ⟨(m - 1).toNat, by omega⟩
 have e1 : (nS ((k : Int) + 1)).cps.toList = dgs (k + 1) := sgn_pos (k + 1)
 have e2 : (nS (-((k : Int) + 1))).cps.toList = 45 :: dgs (k + 1) := by
   have := sgn_neg k
   rw [show Int.negSucc k = -((k : Int) + 1) by omega] at this
   exact this
 have e3 : (Str.ofString "-").cps.toList = [45] := by decide +kernel
 have e4 : (Str.ofString "-" ++ nS ((k : Int) + 1)).cps.toList = (nS (-((k : Int) + 1))).cps.toList := by
   rw [show (Str.ofString "-" ++ nS ((k : Int) + 1)).cps = (Str.ofString "-").cps ++ (nS ((k : Int) + 1)).cps from rfl, Array.toList_append, e3, e1, e2]; rfl
 have e5 : (Str.ofString "-" ++ nS ((k : Int) + 1)).cps = (nS (-((k : Int) + 1))).cps := Array.toList_inj.mp e4
 exact congrArg Str.mk e5
theorem numF_zero {n lo hi : Int} (h : 0 ≤ n) : numF (Str.ofString "0" ++ nS n) lo hi = .non := by
 obtain ⟨m, rfl⟩ := Int.eq_ofNat_of_zero_le h
 have em : (nS (m : Int)).cps.toList = dgs m := sgn_pos m
 have e0 : (Str.ofString "0").cps.toList = [48] := by decide +kernel
 have e : (Str.ofString "0" ++ nS (m : Int)).cps.toList = 48 :: dgs m := by
   rw [show (Str.ofString "0" ++ nS (m : Int)).cps = (Str.ofString "0").cps ++ (nS (m : Int)).cps from rfl, Array.toList_append, e0, em]; rfl
 have f := (figs_pos (z := Str.ofString "0" ++ nS (m : Int)) (by rw [e]; simp)).1
 refine numF_non4 (by rw [f, e]; rfl) fun q => ?_
 have := congrArg (fun z : Str => z.cps.toList.length) q
 simp only [e, e0, List.length_cons, List.length_nil] at this
 have := List.length_pos_iff.mpr (dgs_ne m)
 omega
theorem odd_all {L : List Str} (h : (L.all oddOk) = true) : ∀ z ∈ L, OddT z := fun z hz => odd_of (List.all_eq_true.mp h z hz)
theorem odd_lean {n : Int} (h : 10 ^ 10 ≤ n) (h2 : n ≤ 10 ^ 40) : OddT (Str.ofString "lean whole " ++ nS n) := by
 have f := nS_few (n := n) (by omega) h2
 have e : Str.ofString "lean whole " ++ nS n = Str.ofString "lean" ++ Str.ofString " " ++ (Str.ofString "whole" ++ Str.ofString " " ++ nS n) := by
   rw [show Str.ofString "lean whole " = Str.ofString "lean" ++ Str.ofString " " ++ (Str.ofString "whole" ++ Str.ofString " ") from by decide +kernel]
   simp only [Str.append_assoc]
 have l : (Str.ofString "lean whole ").length = 11 := by decide +kernel
 refine ⟨by rw [slen]; omega, no_nl (by decide +kernel) f.2.1, fun S hS => ?_⟩
 rw [e, split_three (by decide +kernel) (by decide +kernel) f.2.2]
 exact .lean (.inr (.inr (numF_big (by omega))))
noncomputable def firstB (ps : List Str) : Bool := match ps with
 | [] => false
 | h :: r => decide ((valV HMP (.inr h)).getD .non ≠ V.int ((h :: r).length : Int)) || !decide (h = Str.ofString "whole") || (match r with
   | [a, b, c] => decide (stepF a = .non) || decide (numF b 0 4294967295 = .non) || (match numF b 0 4294967295 with | .int sz => decide (numF c 0 sz = .non) | _ => false)
   | _ => false)
theorem firstB_bad {ps : List Str} (h : firstB ps = true) : Bad RS0 ps := by
 cases ps with
 | nil => cases h
 | cons hd r =>
   unfold firstB at h
   rcases Bool.or_eq_true_iff.mp h with z | z
   · rcases Bool.or_eq_true_iff.mp z with z | z
     · exact .len (of_decide_eq_true z)
     · exact .first (by simpa using z) rfl
   · by_cases hw : hd = Str.ofString "whole"
     · subst hw
       match r, z with
       | [a, b, c], z =>
         refine .whole ?_
         rcases Bool.or_eq_true_iff.mp z with z | z
         · rcases Bool.or_eq_true_iff.mp z with z | z
           · exact .inl (of_decide_eq_true z)
           · exact .inr (.inl (of_decide_eq_true z))
         · rcases numF_cases b 0 4294967295 with e | ⟨sz, e⟩
           · exact .inr (.inl e)
           · rw [e] at z
             exact .inr (.inr ⟨sz, e, of_decide_eq_true z⟩)
     · exact .first hw rfl
noncomputable def firstOk (z : Str) : Bool := decide (z.length ≤ 600) && decide (10 ∉ z.cps.toList) && firstB (Txt.split z (Str.ofString " "))
theorem first_all {L : List Str} (h : (L.all firstOk) = true) : ∀ z ∈ L, OddF z := fun z hz => by
 have h := List.all_eq_true.mp h z hz
 unfold firstOk at h
 simp only [Bool.and_eq_true, decide_eq_true_eq] at h
 exact ⟨h.1.1, h.1.2, firstB_bad h.2⟩
theorem split_four {a b c d : Str} (h1 : 32 ∉ a.cps.toList) (h2 : 32 ∉ b.cps.toList) (h3 : 32 ∉ c.cps.toList) (h4 : 32 ∉ d.cps.toList) : Txt.split (a ++ Str.ofString " " ++ (b ++ Str.ofString " " ++ (c ++ Str.ofString " " ++ d))) (Str.ofString " ") = [a, b, c, d] := by
 have e : a ++ Str.ofString " " ++ (b ++ Str.ofString " " ++ (c ++ Str.ofString " " ++ d)) = Txt.join (Str.ofString " ") [a, b, c, d] := by rw [txt_join]; rfl
 rw [e, sp_one]
 exact split_join (by simp) fun p hp => by
   simp only [List.mem_cons, List.not_mem_nil, or_false] at hp
   rcases hp with rfl | rfl | rfl | rfl <;> assumption
theorem first_size {sz n : Int} (h0 : 0 ≤ sz) (h1 : sz ≤ 4294967295) (h2 : sz < n) (h3 : n ≤ 10 ^ 40) : OddF (Str.ofString "whole 1 " ++ nS sz ++ Str.ofString " " ++ nS n) := by
 have f := nS_few (n := sz) (by omega) (by omega)
 have g := nS_few (n := n) (by omega) h3
 have e : Str.ofString "whole 1 " ++ nS sz ++ Str.ofString " " ++ nS n = Str.ofString "whole" ++ Str.ofString " " ++ (Str.ofString "1" ++ Str.ofString " " ++ (nS sz ++ Str.ofString " " ++ nS n)) := by
   rw [show Str.ofString "whole 1 " = Str.ofString "whole" ++ Str.ofString " " ++ (Str.ofString "1" ++ Str.ofString " ") from by decide +kernel]
   simp only [Str.append_assoc]
 have l : (Str.ofString "whole 1 ").length = 8 := by decide +kernel
 walk_at "0"
 refine ⟨by rw [slen, slen, slen]; omega, no_nl (no_nl (no_nl (by decide +kernel) f.2.1) (by decide +kernel)) g.2.1, ?_⟩
 rw [e, split_four (by decide +kernel) (by decide +kernel) f.2.2 g.2.2]
 have es := numF_str (n := sz) (lo := 0) (hi := 4294967295) (by omega) (by omega)
 rw [if_pos ⟨h0, h1⟩] at es
 exact .whole (.inr (.inr ⟨sz, es, numF_over (.inr h2)⟩))
theorem first_far {n : Int} (h2 : 4294967295 < n) (h3 : n ≤ 10 ^ 40) : OddF (Str.ofString "whole 1 " ++ nS n ++ Str.ofString " 0") := by
 have g := nS_few (n := n) (by omega) h3
 have e : Str.ofString "whole 1 " ++ nS n ++ Str.ofString " 0" = Str.ofString "whole" ++ Str.ofString " " ++ (Str.ofString "1" ++ Str.ofString " " ++ (nS n ++ Str.ofString " " ++ Str.ofString "0")) := by
   rw [show Str.ofString "whole 1 " = Str.ofString "whole" ++ Str.ofString " " ++ (Str.ofString "1" ++ Str.ofString " ") from by decide +kernel, show Str.ofString " 0" = Str.ofString " " ++ Str.ofString "0" from by decide +kernel]
   simp only [Str.append_assoc]
 have l : (Str.ofString "whole 1 ").length = 8 := by decide +kernel
 have lb : (Str.ofString " 0").length = 2 := by decide +kernel
 refine ⟨by rw [slen, slen]; omega, no_nl (no_nl (by decide +kernel) g.2.1) (by decide +kernel), ?_⟩
 rw [e, split_four (by decide +kernel) (by decide +kernel) g.2.2 (by decide +kernel)]
 exact .whole (.inr (.inl (numF_over (.inr h2))))
theorem lenF {x : Int} (h0 : -(10 ^ 40) ≤ x) (h1 : x ≤ 10 ^ 40) : (Str.ofString (toString x)).length ≤ 241 ∧ x.natAbs.log2 < 1920 := by
 have f : Few x := ⟨by omega, by omega⟩
 exact ⟨few_len f, by have := few_log f; omega⟩
theorem sl5 {a b : Str} (h : a.length = 5) : Txt.slice (a ++ b) none (some 5) = a ∧ Txt.slice (a ++ b) (some 5) none = b := by
 have hl : 5 ≤ (a ++ b).length := by rw [slen]; omega
 have ha : a.cps.toList.length = 5 := by rw [lenL]; exact h
 have eab : (a ++ b).cps.toList = a.cps.toList ++ b.cps.toList := by rw [show (a ++ b).cps = a.cps ++ b.cps from rfl, Array.toList_append]
 constructor
 · refine strExt ?_
   have e := beq_iff_eq.mp (PyProof.Rows.slice_closes_toL (x := a ++ b) (j := 5) (by decide) (by omega))
   rw [e]
   show List.take ((5 : Int) - 0).toNat (List.drop 0 (a ++ b).cps.toList) = _
   rw [eab]
   show List.take 5 (a.cps.toList ++ b.cps.toList) = _
   rw [List.take_append_of_le_length (by omega), List.take_of_length_le (by omega)]
 · refine strExt ?_
   have e := PyProof.Rows.slice_from_eq (x := a ++ b) (i := 5) (b := ((a ++ b).length : Int)) (by decide) (by omega) rfl
   rw [e]
   show List.take (((a ++ b).length : Int) - 5).toNat (List.drop 5 (a ++ b).cps.toList) = _
   rw [eab, List.drop_append_of_le_length (by omega), List.drop_of_length_le (by omega), List.nil_append]
   exact List.take_of_length_le (by rw [slen, lenL]; omega)
theorem int_nS {n : Int} (h0 : 0 ≤ n) (h1 : n ≤ 9999999999) : intText? (nS n) = some n := by
 obtain ⟨m, rfl⟩ := Int.eq_ofNat_of_zero_le h0
 have em : (nS (m : Int)).cps.toList = dgs m := sgn_pos m
 obtain ⟨e1, e2⟩ := figs_pos (z := nS (m : Int)) (by
   rw [em]
   cases hd : dgs m with
   | nil => simp
   | cons c r =>
     intro e
     have : c = 45 := by simpa using e
     have := dgs_rng (m := m) (c := c) (by rw [hd]; exact List.mem_cons_self)
     omega)
 rw [em] at e1 e2
 rw [dgs_val] at e2
 rw [int_text (Nat.le_trans (nS_len (by omega) h1) (by decide)) (by rw [e1]; exact dgs_ne m) (by rw [e1]; exact dgs_dig m), e2]
noncomputable def Row.h5 : Row → Str
 | .whole _ _ _ => "whole"
 | .part _ => "part "
 | .word _ => "word "
 | .lean _ _ => "lean "
theorem rowT_h5 (r : Row) : ∃ t, rowT r = r.h5 ++ t := by
 cases r with
 | whole n sz en =>
   refine ⟨Str.ofString " " ++ nS n ++ Str.ofString " " ++ nS sz ++ Str.ofString " " ++ nS en, ?_⟩
   rw [rowT_whole, show Str.ofString "whole " = Str.ofString "whole" ++ Str.ofString " " from by decide +kernel]
   simp only [Str.append_assoc]; rfl
 | part n => exact ⟨_, rowT_part n⟩
 | word n => exact ⟨_, rowT_word n⟩
 | lean r n => exact ⟨r ++ Str.ofString " " ++ nS n, by rw [rowT_lean]; simp only [Str.append_assoc]; rfl⟩
theorem h5_len (r : Row) : r.h5.length = 5 := by
 cases r with
 | whole n sz en => show (Str.ofString "whole").length = 5; decide +kernel
 | part n => show (Str.ofString "part ").length = 5; decide +kernel
 | word n => show (Str.ofString "word ").length = 5; decide +kernel
 | lean r n => show (Str.ofString "lean ").length = 5; decide +kernel
theorem row5 (r : Row) : Txt.slice (rowT r) none (some 5) = r.h5 := by
 obtain ⟨t, e⟩ := rowT_h5 r
 rw [e]; exact (sl5 (h5_len r)).1
theorem G_qwj (T : Txt w K mg A) : FnOk P w K mg base CX0 1 A.qwj A.fd_qwj ["_law_number"] sp_odd := by
 refine T.F_qwj.ok sc_qwj (fun vs H Q E h => ?_) (fun cdv Ar outer s H vs Q E hr h => ?_)
 · obtain ⟨n, rfl, _⟩ := h
   rfl
 · obtain ⟨n, rfl, hn0, hn1, k⟩ := h
   refine ⟨_, (@zz3 _ _ _ _ _ (@ps_set _ _ 1 _ _ _ _ sc_qwj.nd rfl (by walk_at "o") (@pe_op _ _ _ _ _ _ _ _ op_mod (@pe_op _ _ _ _ _ _ _ _ op_mul (@pe_op _ _ _ _ _ _ _ _ op_mul (@pe_op _ _ _ _ _ _ _ _ op_mul (@pv _ 0 _ _ (by rfl) (by first | exact Or.inl rfl | exact Or.inr ( Or.inl rfl ) | exact Or.inr ( Or.inr rfl )) (by decide) (by decide)) (@pv _ 0 _ _ (by rfl) (by first | exact Or.inl rfl | exact Or.inr ( Or.inl rfl ) | exact Or.inr ( Or.inr rfl )) (by decide) (by decide))) (@pv _ 0 _ _ (by rfl) (by first | exact Or.inl rfl | exact Or.inr ( Or.inl rfl ) | exact Or.inr ( Or.inr rfl )) (by decide) (by decide))) (@pe_int _ _ _ _)) (@pe_op _ _ _ _ _ _ _ _ op_pow (@pe_int _ _ _ _) (@pe_int _ _ _ _))) (by rfl) (by first | exact .inl rfl | exact .inr rfl | assumption)) (@zz3 _ _ _ _ _ (@ps_set _ _ 2 _ _ _ _ sc_qwj.nd rfl (by walk_at "o") (@pe_lst _ _ _ _ (@zz0 _ _ _ _ _ (@pe_str _ _ _ _) (@zz0 _ _ _ _ _ (@pe_str _ _ _ _) (@zz0 _ _ _ _ _ (@pe_str _ _ _ _) (@zz0 _ _ _ _ _ (@pe_str _ _ _ _) (@zz0 _ _ _ _ _ (@pe_str _ _ _ _) (@zz0 _ _ _ _ _ (@pe_str _ _ _ _) (@zz0 _ _ _ _ _ (@pe_str _ _ _ _) (@zz0 _ _ _ _ _ (@pe_str _ _ _ _) (@zz0 _ _ _ _ _ (@pe_str _ _ _ _) (@zz0 _ _ _ _ _ (@pe_str _ _ _ _) (@zz0 _ _ _ _ _ (@pe_str _ _ _ _) (@pa_nil _) (by rfl)) (by rfl)) (by rfl)) (by rfl)) (by rfl)) (by rfl)) (by rfl)) (by rfl)) (by rfl)) (by rfl)) (by rfl))) (by rfl) (by first | exact .inl rfl | exact .inr rfl | assumption)) (@zz11 _ _ _ (oA 11) (@zz3 _ _ _ _ _ (@ps_set _ _ 2 _ _ _ _ sc_qwj.nd rfl (by walk_at "o") (@pe_op _ _ _ _ _ _ _ _ (zz9 (K := K) rfl) (@pv _ 2 _ _ (by rfl) (by first | exact Or.inl rfl | exact Or.inr ( Or.inl rfl ) | exact Or.inr ( Or.inr rfl )) (by decide) (by decide)) (@pe_lst _ _ _ _ (@zz0 _ _ _ _ _ (@pe_str _ _ _ _) (@zz0 _ _ _ _ _ (@pe_str _ _ _ _) (@zz0 _ _ _ _ _ (@pe_str _ _ _ _) (@zz0 _ _ _ _ _ (@pe_str _ _ _ _) (@zz0 _ _ _ _ _ (@pe_str _ _ _ _) (@zz0 _ _ _ _ _ (@pe_str _ _ _ _) (@zz0 _ _ _ _ _ (@pe_str _ _ _ _) (@zz0 _ _ _ _ _ (@pe_str _ _ _ _) (@pa_nil _) (by rfl)) (by rfl)) (by rfl)) (by rfl)) (by rfl)) (by rfl)) (by rfl)) (by rfl)))) (by rfl) (by first | exact .inl rfl | exact .inr rfl | assumption)) (@zz11 _ _ _ (oA 19) (@zz3 _ _ _ _ _ (@ps_set _ _ 2 _ _ _ _ sc_qwj.nd rfl (by walk_at "o") (@pe_op _ _ _ _ _ _ _ _ (zz9 (K := K) rfl) (@pv _ 2 _ _ (by rfl) (by first | exact Or.inl rfl | exact Or.inr ( Or.inl rfl ) | exact Or.inr ( Or.inr rfl )) (by decide) (by decide)) (@pe_lst _ _ _ _ (@zz0 _ _ _ _ _ (@pe_op _ _ _ _ _ _ _ _ zz7 (@pe_str _ _ _ _) (@zz14 _ _ _ _ _ _ _ _ _ zz10 (by rfl) T.n_str bt_str (@zz0 _ _ _ _ _ (@pe_op _ _ _ _ _ _ _ _ op_add (@pe_int _ _ _ _) (@pv _ 1 _ _ (by rfl) (by first | exact Or.inl rfl | exact Or.inr ( Or.inl rfl ) | exact Or.inr ( Or.inr rfl )) (by decide) (by decide))) (@pa_nil _) (by rfl)) (by decide) (by decide) (by rfl) (by rfl))) (@zz0 _ _ _ _ _ (@pe_op _ _ _ _ _ _ _ _ zz7 (@pe_str _ _ _ _) (@zz14 _ _ _ _ _ _ _ _ _ zz10 (by rfl) T.n_str bt_str (@zz0 _ _ _ _ _ (@pe_op _ _ _ _ _ _ _ _ op_add (@pe_int _ _ _ _) (@pv _ 1 _ _ (by rfl) (by first | exact Or.inl rfl | exact Or.inr ( Or.inl rfl ) | exact Or.inr ( Or.inr rfl )) (by decide) (by decide))) (@pa_nil _) (by rfl)) (by decide) (by decide) (by rfl) (by rfl))) (@zz0 _ _ _ _ _ (@pe_op _ _ _ _ _ _ _ _ zz7 (@pe_str _ _ _ _) (@zz14 _ _ _ _ _ _ _ _ _ zz10 (by rfl) T.n_str bt_str (@zz0 _ _ _ _ _ (@pv _ 1 _ _ (by rfl) (by first | exact Or.inl rfl | exact Or.inr ( Or.inl rfl ) | exact Or.inr ( Or.inr rfl )) (by decide) (by decide)) (@pa_nil _) (by rfl)) (by decide) (by decide) (by rfl) (by rfl))) (@zz0 _ _ _ _ _ (@pe_str _ _ _ _) (@zz0 _ _ _ _ _ (@pe_str _ _ _ _) (@pa_nil _) (by rfl)) (by rfl)) (by rfl)) (by rfl)) (by rfl)))) (by rfl) (by first | exact .inl rfl | exact .inr rfl | assumption)) (@zz11 _ _ _ (oA 24) (@zz3 _ _ _ _ _ (@ps_set _ _ 2 _ _ _ _ sc_qwj.nd rfl (by walk_at "o") (@pe_op _ _ _ _ _ _ _ _ (zz9 (K := K) rfl) (@pv _ 2 _ _ (by rfl) (by first | exact Or.inl rfl | exact Or.inr ( Or.inl rfl ) | exact Or.inr ( Or.inr rfl )) (by decide) (by decide)) (@pe_lst _ _ _ _ (@zz0 _ _ _ _ _ (@pe_str _ _ _ _) (@zz0 _ _ _ _ _ (@pe_str _ _ _ _) (@zz0 _ _ _ _ _ (@pe_str _ _ _ _) (@zz0 _ _ _ _ _ (@pe_str _ _ _ _) (@zz0 _ _ _ _ _ (@pe_str _ _ _ _) (@zz0 _ _ _ _ _ (@pe_op _ _ _ _ _ _ _ _ zz7 (@pe_str _ _ _ _) (@zz14 _ _ _ _ _ _ _ _ _ zz10 (by rfl) T.n_str bt_str (@zz0 _ _ _ _ _ (@pe_op _ _ _ _ _ _ _ _ op_add (@pe_int _ _ _ _) (@pv _ 1 _ _ (by rfl) (by first | exact Or.inl rfl | exact Or.inr ( Or.inl rfl ) | exact Or.inr ( Or.inr rfl )) (by decide) (by decide))) (@pa_nil _) (by rfl)) (by decide) (by decide) (by rfl) (by rfl))) (@pa_nil _) (by rfl)) (by rfl)) (by rfl)) (by rfl)) (by rfl)) (by rfl)))) (by rfl) (by first | exact .inl rfl | exact .inr rfl | assumption)) (@zz11 _ _ _ (oA 30) (@zz3 _ _ _ _ _ (@ps_set _ _ 2 _ _ _ _ sc_qwj.nd rfl (by walk_at "o") (@pe_op _ _ _ _ _ _ _ _ (zz9 (K := K) rfl) (@pv _ 2 _ _ (by rfl) (by first | exact Or.inl rfl | exact Or.inr ( Or.inl rfl ) | exact Or.inr ( Or.inr rfl )) (by decide) (by decide)) (@pe_lst _ _ _ _ (@zz0 _ _ _ _ _ (@pe_str _ _ _ _) (@zz0 _ _ _ _ _ (@pe_str _ _ _ _) (@zz0 _ _ _ _ _ (@pe_str _ _ _ _) (@zz0 _ _ _ _ _ (@pe_str _ _ _ _) (@zz0 _ _ _ _ _ (@pe_str _ _ _ _) (@zz0 _ _ _ _ _ (@pe_str _ _ _ _) (@zz0 _ _ _ _ _ (@pe_str _ _ _ _) (@zz0 _ _ _ _ _ (@pe_str _ _ _ _) (@pa_nil _) (by rfl)) (by rfl)) (by rfl)) (by rfl)) (by rfl)) (by rfl)) (by rfl)) (by rfl)))) (by rfl) (by first | exact .inl rfl | exact .inr rfl | assumption)) (@zz11 _ _ _ (oA 38) (@zz3 _ _ _ _ _ (@ps_set _ _ 2 _ _ _ _ sc_qwj.nd rfl (by walk_at "o") (@pe_op _ _ _ _ _ _ _ _ (zz9 (K := K) rfl) (@pv _ 2 _ _ (by rfl) (by first | exact Or.inl rfl | exact Or.inr ( Or.inl rfl ) | exact Or.inr ( Or.inr rfl )) (by decide) (by decide)) (@pe_lst _ _ _ _ (@zz0 _ _ _ _ _ (@pe_str _ _ _ _) (@zz0 _ _ _ _ _ (@pe_str _ _ _ _) (@zz0 _ _ _ _ _ (@pe_str _ _ _ _) (@zz0 _ _ _ _ _ (@pe_str _ _ _ _) (@zz0 _ _ _ _ _ (@pe_str _ _ _ _) (@zz0 _ _ _ _ _ (@pe_str _ _ _ _) (@pa_nil _) (by rfl)) (by rfl)) (by rfl)) (by rfl)) (by rfl)) (by rfl)))) (by rfl) (by first | exact .inl rfl | exact .inr rfl | assumption)) (@zz11 _ _ _ (oA 44) (@zz3 _ _ _ _ _ (@ps_set _ _ 2 _ _ _ _ sc_qwj.nd rfl (by walk_at "o") (@pe_op _ _ _ _ _ _ _ _ (zz9 (K := K) rfl) (@pv _ 2 _ _ (by rfl) (by first | exact Or.inl rfl | exact Or.inr ( Or.inl rfl ) | exact Or.inr ( Or.inr rfl )) (by decide) (by decide)) (@pe_lst _ _ _ _ (@zz0 _ _ _ _ _ (@pe_str _ _ _ _) (@zz0 _ _ _ _ _ (@pe_op _ _ _ _ _ _ _ _ zz7 (@pe_str _ _ _ _) (@zz14 _ _ _ _ _ _ _ _ _ zz10 (by rfl) T.n_str bt_str (@zz0 _ _ _ _ _ (@pe_op _ _ _ _ _ _ _ _ op_add (@pe_op _ _ _ _ _ _ _ _ op_pow (@pe_int _ _ _ _) (@pe_int _ _ _ _)) (@pv _ 1 _ _ (by rfl) (by first | exact Or.inl rfl | exact Or.inr ( Or.inl rfl ) | exact Or.inr ( Or.inr rfl )) (by decide) (by decide))) (@pa_nil _) (by rfl)) (by decide) (by decide) (by rfl) (by rfl))) (@zz0 _ _ _ _ _ (@pe_str _ _ _ _) (@zz0 _ _ _ _ _ (@pe_str _ _ _ _) (@zz0 _ _ _ _ _ (@pe_str _ _ _ _) (@pa_nil _) (by rfl)) (by rfl)) (by rfl)) (by rfl)) (by rfl)))) (by rfl) (by first | exact .inl rfl | exact .inr rfl | assumption)) (@zz11 _ _ _ (oA 49) (@zz3 _ _ _ _ _ (@ps_set _ _ 2 _ _ _ _ sc_qwj.nd rfl (by walk_at "o") (@pe_op _ _ _ _ _ _ _ _ (zz9 (K := K) rfl) (@pv _ 2 _ _ (by rfl) (by first | exact Or.inl rfl | exact Or.inr ( Or.inl rfl ) | exact Or.inr ( Or.inr rfl )) (by decide) (by decide)) (@pe_lst _ _ _ _ (@zz0 _ _ _ _ _ (@pe_str _ _ _ _) (@zz0 _ _ _ _ _ (@pe_str _ _ _ _) (@zz0 _ _ _ _ _ (@pe_str _ _ _ _) (@zz0 _ _ _ _ _ (@pe_str _ _ _ _) (@pa_nil _) (by rfl)) (by rfl)) (by rfl)) (by rfl)))) (by rfl) (by first | exact .inl rfl | exact .inr rfl | assumption)) (@zz11 _ _ _ (oA 53) (@zz5 _ _ _ (@ps_ret _ _ _ _ (@pe_ix _ _ _ _ _ _ _ (zz17 (K := K) rfl) (@pv _ 2 _ _ (by rfl) (by first | exact Or.inl rfl | exact Or.inr ( Or.inl rfl ) | exact Or.inr ( Or.inr rfl )) (by decide) (by decide)) (@pe_op _ _ _ _ _ _ _ _ op_mod (@pv _ 0 _ _ (by rfl) (by first | exact Or.inl rfl | exact Or.inr ( Or.inl rfl ) | exact Or.inr ( Or.inr rfl )) (by decide) (by decide)) (@zz21 _ _ _ _ _ _ _ _ _ (call_lenK (K := K) rfl) (by rfl) T.n_len bt_len (@zz0 _ _ _ _ _ (@pv _ 2 _ _ (by rfl) (by first | exact Or.inl rfl | exact Or.inr ( Or.inl rfl ) | exact Or.inr ( Or.inr rfl )) (by decide) (by decide)) (@pa_nil _) (by rfl)) (by decide) (by decide) (by rfl) (by rfl))) (fun _ _ => rfl)))) ?oaR)) ?oa6)) ?oa5)) ?oa4)) ?oa3)) ?oa2)) ?oa1)) ?oa0))), ?main⟩
   case main =>
     walk_at "rd"
     have b1 : 0 ≤ n * n ∧ n * n ≤ 2147483647 * 2147483647 := ⟨Int.mul_nonneg hn0 hn0, Int.mul_le_mul hn1 hn1 hn0 (by decide)⟩
     have b2 : 0 ≤ n * n * n := Int.mul_nonneg b1.1 hn0
     generalize n * n * n = m at *
     generalize n * n = m2 at *
     have e30 : (10 : Int) ^ Int.toNat 30 = 10 ^ 30 := rfl
     rw [e30]
     have f0 : 0 ≤ m * 48271 % 10 ^ 30 := by omega
     have f1 : m * 48271 % 10 ^ 30 < 10 ^ 30 := by omega
     generalize m * 48271 % 10 ^ 30 = far at *
     exact ⟨.inl ⟨by omega, by omega⟩, .inr ⟨by omega, by omega⟩, .inr ⟨by decide, by decide⟩, ⟨by decide, by decide, by decide⟩, by decide, by walk_at "s", fun p hp => ⟨H, n, _, p, [Str.ofString "", Str.ofString " ", Str.ofString "word", Str.ofString "word ", Str.ofString "word  1", Str.ofString "word 1 ", Str.ofString " word 1", Str.ofString "word 01", Str.ofString "word 1 2", Str.ofString "Word 1", Str.ofString "words 1"], rfl, f0, f1, by rw [zz1]; rfl, by simp, by simp, odd_all (by decide +kernel), zz2 hp, k⟩⟩
   case oa0 =>
     walk_at "5"
     have hL : ∀ z ∈ ([Str.ofString "word +1", Str.ofString "word -0", Str.ofString "word -1", Str.ofString "word a", Str.ofString "word 00", Str.ofString "word 4294967296", Str.ofString "word 1a", Str.ofString "word -"] : List Str), OddT z := by
       exact odd_all (by decide +kernel)
     walk_at "rd"
     exact ⟨by rw [sizeLine_eq]; decide, fun p1 h1 => ⟨_, SqL.of (zz2 h1 _ _ hp), _, SqL.of zz1, by rw [sizeLine_eq, List.length_map]; show zs.length + 8 ≤ _; omega, fun p2 h2 => ⟨H0, n, far, p2, zs ++ [Str.ofString "word +1", Str.ofString "word -0", Str.ofString "word -1", Str.ofString "word a", Str.ofString "word 00", Str.ofString "word 4294967296", Str.ofString "word 1a", Str.ofString "word -"], rfl, f0, f1, by rw [zz1, List.map_append]; rfl, by simp, by rw [List.length_append]; show zs.length + 8 ≤ _; omega, fun z hz => (List.mem_append.mp hz).elim (ho z) (hL z), (sm.trans (zz2 h1)).trans (zz2 h2), k⟩⟩⟩
   case oa1 =>
     walk_at "5"
     have hL : ∀ z ∈ ([Str.ofString "word " ++ nS (4294967296 + far), Str.ofString "word -" ++ nS (1 + far), Str.ofString "word 0" ++ nS far, Str.ofString "part", Str.ofString "part "] : List Str), OddT z := by
       intro z hz
       simp only [List.mem_cons, List.not_mem_nil, or_false] at hz
       rcases hz with rfl | rfl | rfl | rfl | rfl
       · exact odd_two (h := Str.ofString "word") (by decide +kernel) (.inl rfl) (by have := (nS_few (n := 4294967296 + far) (by omega) (by omega)).1; omega) (nS_few (by omega) (by omega)).2.1 (nS_few (by omega) (by omega)).2.2 (numF_over (.inr (by omega)))
       · exact (by
         rw [show Str.ofString "word -" ++ nS (1 + far) = Str.ofString "word " ++ nS (-(1 + far)) from by
           rw [← dash_str (by omega), ← Str.append_assoc]; exact congrArg (· ++ nS (1 + far)) (show Str.ofString "word -" = Str.ofString "word " ++ Str.ofString "-" from by decide +kernel)]
         exact odd_two (h := Str.ofString "word") (by decide +kernel) (.inl rfl) (by have := (nS_few (n := -(1 + far)) (by omega) (by omega)).1; omega) (nS_few (by omega) (by omega)).2.1 (nS_few (by omega) (by omega)).2.2 (numF_over (.inl (by omega))))
       · exact (by
         rw [show Str.ofString "word 0" ++ nS far = Str.ofString "word " ++ (Str.ofString "0" ++ nS far) from by
           rw [← Str.append_assoc]; exact congrArg (· ++ nS far) (show Str.ofString "word 0" = Str.ofString "word " ++ Str.ofString "0" from by decide +kernel)]
         have f := nS_few (n := far) (by omega) (by omega)
         have l0 : (Str.ofString "0").length = 1 := by decide +kernel
         refine odd_two (h := Str.ofString "word") (by decide +kernel) (.inl rfl) (by rw [slen]; omega) (no_nl (by decide +kernel) f.2.1) (fun z => ?_) (numF_zero (by omega))
         rw [show (Str.ofString "0" ++ nS far).cps = (Str.ofString "0").cps ++ (nS far).cps from rfl, Array.toList_append] at z
         exact (List.mem_append.mp z).elim (by decide +kernel) f.2.2)
       · exact odd_all (L := [Str.ofString "part"]) (by decide +kernel) _ (.head _)
       · exact odd_all (L := [Str.ofString "part "]) (by decide +kernel) _ (.head _)
     walk_at "rd"
     walk_at "4"
     have m0 := lenF (x := 4294967296 + far) (by omega) (by omega)
     have m1 := lenF (x := 1 + far) (by omega) (by omega)
     have m2 := lenF (x := far) (by omega) (by omega)
     have w1 : (Str.ofString "word ").length = 5 := by decide +kernel
     have w2 : (Str.ofString "word -").length = 6 := by decide +kernel
     have w3 : (Str.ofString "word 0").length = 6 := by decide +kernel
     exact ⟨m0.2, sz _ (by omega), m1.2, sz _ (by omega), m2.2, sz _ (by omega), sz _ (by decide), fun p1 h1 => ⟨_, SqL.of (zz2 h1 _ _ hp), _, SqL.of zz1, by rw [sizeLine_eq, List.length_map]; show zs.length + 5 ≤ _; omega, fun p2 h2 => ⟨H0, n, far, p2, zs ++ [Str.ofString "word " ++ nS (4294967296 + far), Str.ofString "word -" ++ nS (1 + far), Str.ofString "word 0" ++ nS far, Str.ofString "part", Str.ofString "part "], rfl, f0, f1, by rw [zz1, List.map_append]; rfl, by simp, by rw [List.length_append]; show zs.length + 5 ≤ _; omega, fun z hz => (List.mem_append.mp hz).elim (ho z) (hL z), (sm.trans (zz2 h1)).trans (zz2 h2), k⟩⟩⟩
   case oa2 =>
     walk_at "5"
     have hL : ∀ z ∈ ([Str.ofString "part 4294967296", Str.ofString "part -1", Str.ofString "part 00", Str.ofString "part 0 0", Str.ofString "part a", Str.ofString "part " ++ nS (4294967296 + far)] : List Str), OddT z := by
       intro z hz
       simp only [List.mem_cons, List.not_mem_nil, or_false] at hz
       rcases hz with rfl | rfl | rfl | rfl | rfl | rfl
       · exact odd_all (L := [Str.ofString "part 4294967296"]) (by decide +kernel) _ (.head _)
       · exact odd_all (L := [Str.ofString "part -1"]) (by decide +kernel) _ (.head _)
       · exact odd_all (L := [Str.ofString "part 00"]) (by decide +kernel) _ (.head _)
       · exact odd_all (L := [Str.ofString "part 0 0"]) (by decide +kernel) _ (.head _)
       · exact odd_all (L := [Str.ofString "part a"]) (by decide +kernel) _ (.head _)
       · exact odd_two (h := Str.ofString "part") (by decide +kernel) (.inr rfl) (by have := (nS_few (n := 4294967296 + far) (by omega) (by omega)).1; omega) (nS_few (by omega) (by omega)).2.1 (nS_few (by omega) (by omega)).2.2 (numF_over (.inr (by omega)))
     walk_at "rd"
     walk_at "4"
     have m0 := lenF (x := 4294967296 + far) (by omega) (by omega)
     walk_at "6"
     exact ⟨m0.2, sz _ (by omega), sz _ (by decide), fun p1 h1 => ⟨_, SqL.of (zz2 h1 _ _ hp), _, SqL.of zz1, by rw [sizeLine_eq, List.length_map]; show zs.length + 6 ≤ _; omega, fun p2 h2 => ⟨H0, n, far, p2, zs ++ [Str.ofString "part 4294967296", Str.ofString "part -1", Str.ofString "part 00", Str.ofString "part 0 0", Str.ofString "part a", Str.ofString "part " ++ nS (4294967296 + far)], rfl, f0, f1, by rw [zz1, List.map_append]; rfl, by simp, by rw [List.length_append]; show zs.length + 6 ≤ _; omega, fun z hz => (List.mem_append.mp hz).elim (ho z) (hL z), (sm.trans (zz2 h1)).trans (zz2 h2), k⟩⟩⟩
   case oa3 =>
     walk_at "5"
     have hL : ∀ z ∈ ([Str.ofString "parts 0", Str.ofString "Part 0", Str.ofString "lean", Str.ofString "lean whole", Str.ofString "lean whole ", Str.ofString "lean near 0", Str.ofString "lean split 1", Str.ofString "lean high"] : List Str), OddT z := by
       exact odd_all (by decide +kernel)
     walk_at "rd"
     exact ⟨by rw [sizeLine_eq]; decide, fun p1 h1 => ⟨_, SqL.of (zz2 h1 _ _ hp), _, SqL.of zz1, by rw [sizeLine_eq, List.length_map]; show zs.length + 8 ≤ _; omega, fun p2 h2 => ⟨H0, n, far, p2, zs ++ [Str.ofString "parts 0", Str.ofString "Part 0", Str.ofString "lean", Str.ofString "lean whole", Str.ofString "lean whole ", Str.ofString "lean near 0", Str.ofString "lean split 1", Str.ofString "lean high"], rfl, f0, f1, by rw [zz1, List.map_append]; rfl, by simp, by rw [List.length_append]; show zs.length + 8 ≤ _; omega, fun z hz => (List.mem_append.mp hz).elim (ho z) (hL z), (sm.trans (zz2 h1)).trans (zz2 h2), k⟩⟩⟩
   case oa4 =>
     walk_at "5"
     have hL : ∀ z ∈ ([Str.ofString "lean wide 0", Str.ofString "lean Whole 0", Str.ofString "lean low 0 0", Str.ofString "lean low 00", Str.ofString "lean low -0", Str.ofString "lean low 10000000000"] : List Str), OddT z := by
       exact odd_all (by decide +kernel)
     walk_at "rd"
     exact ⟨by rw [sizeLine_eq]; decide, fun p1 h1 => ⟨_, SqL.of (zz2 h1 _ _ hp), _, SqL.of zz1, by rw [sizeLine_eq, List.length_map]; show zs.length + 6 ≤ _; omega, fun p2 h2 => ⟨H0, n, far, p2, zs ++ [Str.ofString "lean wide 0", Str.ofString "lean Whole 0", Str.ofString "lean low 0 0", Str.ofString "lean low 00", Str.ofString "lean low -0", Str.ofString "lean low 10000000000"], rfl, f0, f1, by rw [zz1, List.map_append]; rfl, by simp, by rw [List.length_append]; show zs.length + 6 ≤ _; omega, fun z hz => (List.mem_append.mp hz).elim (ho z) (hL z), (sm.trans (zz2 h1)).trans (zz2 h2), k⟩⟩⟩
   case oa5 =>
     walk_at "5"
     have hL : ∀ z ∈ ([Str.ofString "lean high -10000000000", Str.ofString "lean whole " ++ nS (10 ^ 10 + far), Str.ofString "lean  low 1", Str.ofString "whole", Str.ofString "code 1"] : List Str), OddT z := by
       intro z hz
       simp only [List.mem_cons, List.not_mem_nil, or_false] at hz
       rcases hz with rfl | rfl | rfl | rfl | rfl
       · exact odd_all (L := [Str.ofString "lean high -10000000000"]) (by decide +kernel) _ (.head _)
       · exact odd_lean (by omega) (by omega)
       · exact odd_all (L := [Str.ofString "lean  low 1"]) (by decide +kernel) _ (.head _)
       · exact odd_all (L := [Str.ofString "whole"]) (by decide +kernel) _ (.head _)
       · exact odd_all (L := [Str.ofString "code 1"]) (by decide +kernel) _ (.head _)
     walk_at "rd"
     walk_at "4"
     have m0 := lenF (x := 10 ^ 10 + far) (by omega) (by omega)
     have w1 : (Str.ofString "lean whole ").length = 11 := by decide +kernel
     have e10 : (10 : Int) ^ Int.toNat 10 = 10 ^ 10 := rfl
     rw [e10]
     exact ⟨⟨by decide, by decide, by decide⟩, m0.2, sz _ (by omega), sz _ (by decide), fun p1 h1 => ⟨_, SqL.of (zz2 h1 _ _ hp), _, SqL.of zz1, by rw [sizeLine_eq, List.length_map]; show zs.length + 5 ≤ _; omega, fun p2 h2 => ⟨H0, n, far, p2, zs ++ [Str.ofString "lean high -10000000000", Str.ofString "lean whole " ++ nS (10 ^ 10 + far), Str.ofString "lean  low 1", Str.ofString "whole", Str.ofString "code 1"], rfl, f0, f1, by rw [zz1, List.map_append]; rfl, by simp, by rw [List.length_append]; show zs.length + 5 ≤ _; omega, fun z hz => (List.mem_append.mp hz).elim (ho z) (hL z), (sm.trans (zz2 h1)).trans (zz2 h2), k⟩⟩⟩
   case oa6 =>
     walk_at "5"
     have hL : ∀ z ∈ ([Str.ofString "fill whole a 0", Str.ofString "lean whole a 0", Str.ofString "whole 1 2", Str.ofString "-"] : List Str), OddT z := by
       exact odd_all (by decide +kernel)
     walk_at "rd"
     exact ⟨by rw [sizeLine_eq]; decide, fun p1 h1 => ⟨_, SqL.of (zz2 h1 _ _ hp), _, SqL.of zz1, by rw [sizeLine_eq, List.length_map]; show zs.length + 4 ≤ _; omega, fun p2 h2 => ⟨H0, n, far, p2, zs ++ [Str.ofString "fill whole a 0", Str.ofString "lean whole a 0", Str.ofString "whole 1 2", Str.ofString "-"], rfl, f0, f1, by rw [zz1, List.map_append]; rfl, by simp, by rw [List.length_append]; show zs.length + 4 ≤ _; omega, fun z hz => (List.mem_append.mp hz).elim (ho z) (hL z), (sm.trans (zz2 h1)).trans (zz2 h2), k⟩⟩⟩
   case oaR =>
     walk_at "5"
     walk_at "rd"
     have lz : 0 < zs.length := by cases zs with | nil => exact absurd rfl hne | cons _ _ => exact Nat.succ_pos _
     have e1 := Int.emod_nonneg n (show (zs.length : Int) ≠ 0 by omega)
     have e2 := Int.emod_lt_of_pos n (show 0 < (zs.length : Int) by omega)
     walk_at "7"
     obtain ⟨z, hz, rfl⟩ := List.mem_map.mp hv
     exact ⟨zs.length, .inl ⟨_, SqL.of hp, by rw [List.length_map]⟩, by omega, _, SqL.of hp, _, e, k z H sm (ho z hz)⟩
theorem G_qwq (T : Txt w K mg A) : FnOk P w K mg base CX0 1 A.qwq A.fd_qwq ["_law_number", "_law_size"] sp_oddF := by
 refine T.F_qwq.ok sc_qwq (fun vs H Q E h => ?_) (fun cdv Ar outer s H vs Q E hr h => ?_)
 · obtain ⟨n, sz, rfl, _⟩ := h
   rfl
 · obtain ⟨n, sz, rfl, hn0, hn1, z0, z1, k⟩ := h
   refine ⟨_, (zz3 (ps_set (i := 2) sc_qwq.nd rfl (by walk_at "o") (pe_op op_mod (pe_op op_mul (pe_op op_mul (pe_op op_mul (pv 0) (pv 0)) (pv 0)) pe_int) (pe_op op_pow pe_int pe_int))) (zz3 (ps_set (i := 3) sc_qwq.nd rfl (by walk_at "o") (pe_lst (zz0 pe_str (zz0 pe_str (zz0 pe_str (zz0 pe_str (zz0 pe_str (zz0 pe_str (zz0 pe_str pa_nil))))))))) (zz11 (u := oF 7) (zz3 (ps_set (i := 3) sc_qwq.nd rfl (by walk_at "o") (pe_op (zz9 (K := K) rfl) (pv 3) (pe_lst (zz0 pe_str (zz0 pe_str (zz0 pe_str (zz0 pe_str (zz0 pe_str (zz0 pe_str (zz0 pe_str pa_nil)))))))))) (zz11 (u := oF 14) (zz3 (ps_set (i := 3) sc_qwq.nd rfl (by walk_at "o") (pe_op (zz9 (K := K) rfl) (pv 3) (pe_lst (zz0 pe_str (zz0 pe_str (zz0 pe_str (zz0 pe_str (zz0 pe_str (zz0 pe_str pa_nil))))))))) (zz11 (u := oF 20) (zz3 (ps_set (i := 3) sc_qwq.nd rfl (by walk_at "o") (pe_op (zz9 (K := K) rfl) (pv 3) (pe_lst (zz0 (pe_op zz7 (pe_op zz7 (pe_op zz7 pe_str (zz14 zz10 (by rfl) T.n_str bt_str (zz0 (pv 1) pa_nil))) pe_str) (zz14 zz10 (by rfl) T.n_str bt_str (zz0 (pe_op op_add (pe_op op_add (pv 1) pe_int) (pv 2)) pa_nil))) (zz0 (pe_op zz7 (pe_op zz7 pe_str (zz14 zz10 (by rfl) T.n_str bt_str (zz0 (pe_op op_add pe_int (pv 2)) pa_nil))) pe_str) pa_nil))))) (zz11 (u := oF 22) (zz5 (ps_ret (pe_ix (zz17 (K := K) rfl) (pv 3) (pe_op op_mod (pv 0) (zz21 (call_lenK (K := K) rfl) (by rfl) T.n_len bt_len (zz0 (pv 3) pa_nil))) (fun _ _ => rfl)))) ?ofR)) ?of2)) ?of1)) ?of0))), ?main⟩
   case main =>
     walk_at "rd"
     have b1 : 0 ≤ n * n ∧ n * n ≤ 2147483647 * 2147483647 := ⟨Int.mul_nonneg hn0 hn0, Int.mul_le_mul hn1 hn1 hn0 (by decide)⟩
     have b2 : 0 ≤ n * n * n := Int.mul_nonneg b1.1 hn0
     generalize n * n * n = m at *
     generalize n * n = m2 at *
     have e30 : (10 : Int) ^ Int.toNat 30 = 10 ^ 30 := rfl
     rw [e30]
     have f0 : 0 ≤ m * 48271 % 10 ^ 30 := by omega
     have f1 : m * 48271 % 10 ^ 30 < 10 ^ 30 := by omega
     generalize m * 48271 % 10 ^ 30 = far at *
     exact ⟨.inl ⟨by omega, by omega⟩, .inr ⟨by omega, by omega⟩, .inr ⟨by decide, by decide⟩, ⟨by decide, by decide, by decide⟩, by decide, by walk_at "s", fun p hp => ⟨H, n, sz, _, p, [Str.ofString "whole", Str.ofString "whole 1 0", Str.ofString "whole 3 0 0", Str.ofString "whole 0 0 0", Str.ofString "whole 131072 0 0", Str.ofString "Whole 1 0 0", Str.ofString "whole 1 0 0 0"], rfl, z0, z1, f0, f1, by rw [zz1]; rfl, by simp, by simp, first_all (by decide +kernel), zz2 hp, k⟩⟩
   case of0 =>
     walk_at "8"
     have hL : ∀ z ∈ ([Str.ofString "whole 1  0 0", Str.ofString "", Str.ofString "part 0", Str.ofString "whole 01 0 0", Str.ofString "whole 1 -1 0", Str.ofString "whole 1 0 -0", Str.ofString "whole 1 4294967296 0"] : List Str), OddF z := by
       exact first_all (by decide +kernel)
     walk_at "rd"
     exact ⟨by rw [sizeLine_eq]; decide, fun p1 h1 => ⟨_, SqL.of (zz2 h1 _ _ hp), _, SqL.of zz1, by rw [sizeLine_eq, List.length_map]; show zs.length + 7 ≤ _; omega, fun p2 h2 => ⟨H0, n, sz', far, p2, zs ++ [Str.ofString "whole 1  0 0", Str.ofString "", Str.ofString "part 0", Str.ofString "whole 01 0 0", Str.ofString "whole 1 -1 0", Str.ofString "whole 1 0 -0", Str.ofString "whole 1 4294967296 0"], rfl, z0, z1, f0, f1, by rw [zz1, List.map_append]; rfl, by simp, by rw [List.length_append]; show zs.length + 7 ≤ _; omega, fun z hz => (List.mem_append.mp hz).elim (ho z) (hL z), (sm.trans (zz2 h1)).trans (zz2 h2), k⟩⟩⟩
   case of1 =>
     walk_at "8"
     have hL : ∀ z ∈ ([Str.ofString "whole 1 0 1", Str.ofString "whole 6 9 0", Str.ofString "whole -1 0 0", Str.ofString "whole a 0 0", Str.ofString "whole 1 9 -1", Str.ofString "whole 1 0 0 "] : List Str), OddF z := by
       exact first_all (by decide +kernel)
     walk_at "rd"
     exact ⟨by rw [sizeLine_eq]; decide, fun p1 h1 => ⟨_, SqL.of (zz2 h1 _ _ hp), _, SqL.of zz1, by rw [sizeLine_eq, List.length_map]; show zs.length + 6 ≤ _; omega, fun p2 h2 => ⟨H0, n, sz', far, p2, zs ++ [Str.ofString "whole 1 0 1", Str.ofString "whole 6 9 0", Str.ofString "whole -1 0 0", Str.ofString "whole a 0 0", Str.ofString "whole 1 9 -1", Str.ofString "whole 1 0 0 "], rfl, z0, z1, f0, f1, by rw [zz1, List.map_append]; rfl, by simp, by rw [List.length_append]; show zs.length + 6 ≤ _; omega, fun z hz => (List.mem_append.mp hz).elim (ho z) (hL z), (sm.trans (zz2 h1)).trans (zz2 h2), k⟩⟩⟩
   case of2 =>
     walk_at "8"
     have hL : ∀ z ∈ ([Str.ofString "whole 1 " ++ nS sz' ++ Str.ofString " " ++ nS (sz' + 1 + far), Str.ofString "whole 1 " ++ nS (4294967296 + far) ++ Str.ofString " 0"] : List Str), OddF z := by
       intro z hz
       simp only [List.mem_cons, List.not_mem_nil, or_false] at hz
       rcases hz with rfl | rfl
       · exact first_size (by omega) (by omega) (by omega) (by omega)
       · exact first_far (by omega) (by omega)
     walk_at "rd"
     walk_at "4"
     have m0 := lenF (x := sz') (by omega) (by omega)
     have m1 := lenF (x := sz' + 1 + far) (by omega) (by omega)
     have m2 := lenF (x := 4294967296 + far) (by omega) (by omega)
     have w1 : (Str.ofString "whole 1 ").length = 8 := by decide +kernel
     have w2 : (Str.ofString " ").length = 1 := by decide +kernel
     have w3 : (Str.ofString " 0").length = 2 := by decide +kernel
     exact ⟨m0.2, sz _ (by omega), sz _ (by rw [slen]; omega), m1.2, sz _ (by rw [slen, slen]; omega), m2.2, sz _ (by omega), sz _ (by rw [slen]; omega), sz _ (by decide), fun p1 h1 => ⟨_, SqL.of (zz2 h1 _ _ hp), _, SqL.of zz1, by rw [sizeLine_eq, List.length_map]; show zs.length + 2 ≤ _; omega, fun p2 h2 => ⟨H0, n, sz', far, p2, zs ++ [Str.ofString "whole 1 " ++ nS sz' ++ Str.ofString " " ++ nS (sz' + 1 + far), Str.ofString "whole 1 " ++ nS (4294967296 + far) ++ Str.ofString " 0"], rfl, z0, z1, f0, f1, by rw [zz1, List.map_append]; rfl, by simp, by rw [List.length_append]; show zs.length + 2 ≤ _; omega, fun z hz => (List.mem_append.mp hz).elim (ho z) (hL z), (sm.trans (zz2 h1)).trans (zz2 h2), k⟩⟩⟩
   case ofR =>
     walk_at "8"
     walk_at "rd"
     have lz : 0 < zs.length := by cases zs with | nil => exact absurd rfl hne | cons _ _ => exact Nat.succ_pos _
     have e1 := Int.emod_nonneg n (show (zs.length : Int) ≠ 0 by omega)
     have e2 := Int.emod_lt_of_pos n (show 0 < (zs.length : Int) by omega)
     walk_at "7"
     obtain ⟨z, hz, rfl⟩ := List.mem_map.mp hv
     exact ⟨zs.length, .inl ⟨_, SqL.of hp, by rw [List.length_map]⟩, by omega, _, SqL.of hp, _, e, k z H sm (ho z hz)⟩
theorem G_qqv (T : Txt w K mg A) : FnOk P w K mg base CX0 1 A.qqv A.fd_qqv ["_law_rows"] (sp_behind K) := by
 refine T.F_qqv.ok sc_qqv (fun vs H Q E h => ?_) (fun cdv Ar outer s H vs Q E hr h => ?_)
 · obtain ⟨p, rows, rfl, _⟩ := h
   rfl
 · obtain ⟨p, rows, rfl, hp, hsm, htk, k⟩ := h
   refine ⟨_, (zz3 (ps_set (i := 1) sc_qqv.nd rfl (by walk_at "o") pe_int) (zz3 (ps_for PassesOwn.never rfl (pi_listK (K := K) rfl (pv 0)) (pg_name (i := 2) sc_qqv.nd rfl (by walk_at "o")) (zz3 (ps_if (zz6 op_eq (zz13 sl_str (pv 2) zz18 (zz15 pe_int)) pe_str (nomark _)) (zz5 (ps_set (i := 1) sc_qqv.nd rfl (by walk_at "o") (zz14 call_intT (by rfl) T.n_int bt_int (zz0 (zz13 sl_str (pv 2) (zz15 pe_int) zz18) pa_nil)))) zz8) (zz5 (ps_if (zz6 op_eq (zz13 sl_str (pv 2) zz18 (zz15 pe_int)) pe_str (nomark _)) (zz5 (ps_set (i := 1) sc_qqv.nd rfl (by walk_at "o") (pe_op op_add (pv 1) pe_int))) zz8)))) (zz5 (ps_ret (pv 1))))), ?_⟩
   walk_at "rd"
   refine ForL.of (xs := rows.map fun r => V.str (rowT r)) (fun i σ H' => ∃ b2 : Option V, σ = [some (.ref p), some (.int (runR rows i).e), b2] ∧ Same H H') ⟨_, rfl, Same.refl _⟩ ?_ ?_ ?_
   · rintro i σ H' hi ⟨b2, rfl, sm⟩
     exact sm.seq hp
   · rintro i v σ H' hv ⟨b2, rfl, sm⟩
     rw [List.getElem?_map] at hv
     obtain ⟨r, hr, rfl⟩ := Option.map_eq_some_iff.mp hv
     have hrm := List.mem_of_getElem? hr
     have hsr := hsm r hrm
     have lr : (rowT r).length ≤ sizeLine := Nat.le_trans (Row.good hsr).1 (by walk_at "s")
     rw [runR_succ hr]
     walk_at "rd"
     rw [row5 r]
     refine ⟨lr, ?_⟩
     cases r with
     | whole n sz en =>
       rw [show (Row.whole n sz en).h5 = Str.ofString "whole" from rfl]
       rw [if_neg (show ¬ decide (Str.ofString "whole" = Str.ofString "part ") = true by decide +kernel), if_neg (show ¬ decide (Str.ofString "whole" = Str.ofString "word ") = true by decide +kernel)]
       exact ⟨lr, rfl, sm⟩
     | part n =>
       rw [show (Row.part n).h5 = Str.ofString "part " from rfl]
       have e := (sl5 (a := Str.ofString "part ") (b := nS n) (by decide +kernel)).2
       rw [← rowT_part] at e
       rw [if_pos (show decide (Str.ofString "part " = Str.ofString "part ") = true by decide +kernel), e]
       refine ⟨lr, n, int_nS hsr.1 (by have := hsr.2; omega), Nat.le_trans (nS_len (by have := hsr.1; omega) (by have := hsr.2; omega)) (by decide), lr, ?_⟩
       rw [if_neg (show ¬ decide (Str.ofString "part " = Str.ofString "word ") = true by decide +kernel)]
       exact ⟨rfl, sm⟩
     | word n =>
       rw [show (Row.word n).h5 = Str.ofString "word " from rfl]
       rw [if_neg (show ¬ decide (Str.ofString "word " = Str.ofString "part ") = true by decide +kernel), if_pos (show decide (Str.ofString "word " = Str.ofString "word ") = true by decide +kernel)]
       exact ⟨lr, rfl, sm⟩
     | lean z n =>
       rw [show (Row.lean z n).h5 = Str.ofString "lean " from rfl]
       rw [if_neg (show ¬ decide (Str.ofString "lean " = Str.ofString "part ") = true by decide +kernel), if_neg (show ¬ decide (Str.ofString "lean " = Str.ofString "word ") = true by decide +kernel)]
       exact ⟨lr, rfl, sm⟩
   · rintro σ H' ⟨b2, rfl, sm⟩
     walk_at "rd"
     rw [List.length_map]
     exact k H' sm
theorem G_qwy (T : Txt w K mg A) : FnOk P w K mg base CX0 8 A.qwy A.fd_qwy ["_law_text"] (sp_toldof A) := by
 refine T.F_qwy.ok sc_qwy (fun vs H Q E h => ?_) (fun cdv Ar outer s H vs Q E hr h => ?_)
 · obtain ⟨ts, good, b, rest, rfl, _⟩ := h
   rfl
 · obtain ⟨ts, good, b, rest, rfl, hB, k⟩ := h
   refine ⟨_, (zz3 (ps_set (i := 1) sc_qwy.nd rfl (by walk_at "o") pe_non) (zz3 (ps_tryAsK (K := K) rfl rfl rfl (i := 2) sc_qwy.nd rfl rfl rfl T.mc_qzk (pssx_one (psx_expr (pex_call (G_qzx T) (hr.mono (by decide)) rfl T.m_qzx T.k_qzx T.b_qzx .nil (zz0 (pv 0) pa_nil)))) (fun _ => (zz5 (ps_set (i := 1) sc_qwy.nd rfl (by walk_at "o") (pv 2))))) (zz5 (ps_ret (pv 1))))), ?_⟩
   walk_at "rd"
   exact .inr ⟨ts, rfl, good, b, rest, hB, fun d H' s1 hd => ⟨_, rfl, ⟨T.ct_qzk, T.cb_qzk, T.mj⟩, .inr ⟨d, _, rfl, hd⟩, fun a ha => k a d _ (s1.trans (zz2 ha)) zz1 (zz2 ha _ _ hd)⟩⟩
theorem G_qwx (T : Txt w K mg A) : FnOk P w K mg base CX0 2 A.qwx A.fd_qwx ["_law_told", "_law_due"] (sp_refused A) := by
 refine T.F_qwx.ok sc_qwx (fun vs H Q E h => ?_) (fun cdv Ar outer s H vs Q E hr h => ?_)
 · obtain ⟨a, d, p, rfl, _⟩ := h
   rfl
 · obtain ⟨a, d, p, rfl, ha, hd, k⟩ := h
   refine ⟨_, (zz3 (ps_if (PW.pt (pw_or (pt_not (pt_val (zz21 (call_isxK (K := K) rfl) (by rfl) T.n_isinstance bt_isinstance (zz0 (pv 0) (zz0 (pe_glob (v := .ref A.c_qyx) rfl T.mc_qyx rfl) pa_nil))))) (pw_or1 (pt_not (pt_val (zz21 (call_isxK (K := K) rfl) (by rfl) T.n_isinstance bt_isinstance (zz0 (pv 0) (zz0 (pe_bltn rfl T.n_ValueError bt_ValueError relT) pa_nil)))))))) (zz5 (ps_ret pe_bl)) zz8) (zz3 (ps_if (pt_val (zz21 (call_istK (K := K) rfl) (by rfl) T.n_isinstance bt_isinstance (zz0 (pv 0) (zz0 (pe_tup (zz0 (pe_glob (v := .ref A.c_Lost) rfl T.mc_Lost rfl) (zz0 (pe_glob (v := .ref A.c_qyv) rfl T.mc_qyv rfl) (zz0 (pe_glob (v := .ref A.c_qyj) rfl T.mc_qyj rfl) (zz0 (pe_glob (v := .ref A.c_qxq) rfl T.mc_qxq rfl) (zz0 (pe_glob (v := .ref A.c_qyk) rfl T.mc_qyk rfl) (zz0 (pe_glob (v := .ref A.c_qyz) rfl T.mc_qyz rfl) (zz0 (pe_glob (v := .ref A.c_qxw) rfl T.mc_qxw rfl) (zz0 (pe_glob (v := .ref A.c_qxz) rfl T.mc_qxz rfl) (zz0 (pe_glob (v := .ref A.c_qxy) rfl T.mc_qxy rfl) pa_nil)))))))))) pa_nil)))) (zz5 (ps_ret pe_bl)) zz8) (zz5 (ps_ret (pe_and (zz12 (G_qzw T) (hr.mono (by decide)) rfl T.m_qzw T.k_qzw T.b_qzw .nil pass0 (zz0 (pe_xfld (pv 0) rfl) pa_nil)) (pe_one (pe_cmpR op_eq (pe_xfld (pv 0) rfl) (pv 1) (nomark _)))))))), ?_⟩
   walk_at "rd"
   have xc : XCls K A.c_qyx := ⟨T.xg_qyx, T.xn_qyx, T.xl_qyx, T.sp_cl, T.tk_cl, T.xo_qyx, T.xb_qyx⟩
   have dk : DxOk (some d) H := .inr ⟨d, _, rfl, hd⟩
   have ty : TyX K H (V.ref a) (.ref A.c_qyx) := .inr ⟨a, _, some d, rfl, rfl, ha, dk, xc⟩
   have lk : List.lookup (Str.ofString "row") [(Str.ofString "row", V.int p)] = some (V.int p) := by simp [List.lookup]
   refine ⟨rfl, _, ty, _, T.ki_N, iteF ⟨rfl, _, ty, _, T.ki_V, iteF ⟨by rw [sizeLine_eq]; decide, fun q hq => ?_⟩⟩⟩
   have sq := zz2 (o := HO.tup [V.ref A.c_Lost, V.ref A.c_qyv, V.ref A.c_qyj, V.ref A.c_qxq, V.ref A.c_qyk, V.ref A.c_qyz, V.ref A.c_qxw, V.ref A.c_qxz, V.ref A.c_qxy]) hq
   have ha' := sq _ _ ha
   have hd' := sq _ _ hd
   refine ⟨_, zz1, rfl, .ref A.c_qyx, .inr ⟨a, _, some d, rfl, rfl, ha', .inr ⟨d, _, rfl, hd'⟩, xc⟩, false, T.ka, ?_⟩
   rw [if_neg (by simp)]
   refine ⟨_, d, ha', _, hd', xc, T.hd_L, T.no_qyx_row, _, lk, p, rfl, _, d, ha', _, hd', xc, T.hd_L, T.no_qyx_row, _, lk, rfl, ?_⟩
   rw [decide_eq_true rfl]
   exact k _ sq
theorem runR_take {rows : List Row} {i j : Nat} (h : j ≤ i) : runR (rows.take i) j = runR rows j := by
 unfold runR
 rw [List.take_take, Nat.min_eq_left h]
theorem runR_app {a b : List Row} {i : Nat} (h : i ≤ a.length) : runR (a ++ b) i = runR a i := by
 unfold runR
 rw [List.take_append_of_le_length h]
set_option genInjectivity false in
structure RInv (S : RS) : Prop where
 e0 : 0 ≤ S.e
 no : S.st = none → S.e = 0 ∧ S.ps = []
 le : ∀ q, S.st = some q → S.e ≤ q.2.1 ∧ 0 ≤ q.2.1 ∧ q.2.1 ≤ 4294967295
theorem RInv.fine {S : RS} (h : RInv S) : S.Fine := ⟨h.e0, fun q hq => (h.le q hq).2.2⟩
theorem RInv.next {S : RS} {r : Row} (h : RInv S) (t : S.Takes r) : RInv (S.next r) := by
 cases r with
 | whole n sz en =>
   obtain ⟨t0, t1, t2, t3, t4, t5, t6, t7⟩ := t
   refine ⟨h.e0, fun z => (by cases z), fun q hq => ?_⟩
   cases hq
   have := (h.no t0).1
   exact ⟨by show S.e ≤ sz; omega, t4, t5⟩
 | part n =>
   obtain ⟨q, t0, t1, t2, t3⟩ := t
   have := h.e0
   refine ⟨by show 0 ≤ n; omega, fun z => ?_, fun q' hq => ?_⟩
   · have z : S.st = none := z
     rw [z] at t0; cases t0
   · have hq : S.st = some q' := hq
     rw [hq] at t0; cases t0
     exact ⟨t2, (h.le _ hq).2⟩
 | word n =>
   obtain ⟨q, t0, t1, t2, t3, t4⟩ := t
   have := h.e0
   refine ⟨by show 0 ≤ S.e + 1; omega, fun z => ?_, fun q' hq => ?_⟩
   · have z : S.st = none := z
     rw [z] at t0; cases t0
   · have hq : S.st = some q' := hq
     rw [hq] at t0; cases t0
     exact ⟨by show S.e + 1 ≤ _; omega, (h.le _ hq).2⟩
 | lean r n => exact ⟨h.e0, fun z => absurd z t.1, h.le⟩
theorem RowsOk.inv {rows : List Row} {W : Whl} {S : BS} (h : RowsOk rows W S) : ∀ i : Nat, i ≤ rows.length → RInv (runR rows i)
 | 0, _ => ⟨Int.le_refl _, fun _ => ⟨rfl, rfl⟩, fun q hq => by cases hq⟩
 | i + 1, hi => by
   have hr : rows[i]? = some rows[i] := List.getElem?_eq_getElem hi
   rw [runR_succ hr]
   exact (h.inv i (by omega)).next (h.takes _ _ hr)
theorem RowsOk.whole0 {rows : List Row} {W : Whl} {S : BS} (h : RowsOk rows W S) : ∃ a b c rest, rows = .whole a b c :: rest := by
 cases rows with
 | nil => exact absurd rfl h.ne
 | cons r rest =>
   have t := h.takes 0 r rfl
   cases r with
   | whole a b c => exact ⟨a, b, c, rest, rfl⟩
   | part n => obtain ⟨q, hq, _⟩ := t; cases hq
   | word n => obtain ⟨q, hq, _⟩ := t; cases hq
   | lean z n => exact absurd rfl t.1
theorem RowsOk.stk {rows : List Row} {W : Whl} {S : BS} (h : RowsOk rows W S) : ∀ i : Nat, i + 1 ≤ rows.length → (runR rows (i + 1)).st = (runR rows 1).st ∧ (runR rows (i + 1)).st ≠ none
 | 0, _ => by
   obtain ⟨a, b, c, rest, rfl⟩ := h.whole0
   exact ⟨rfl, by rw [runR_succ (i := 0) rfl]; intro z; cases z⟩
 | i + 1, hi => by
   have ih := h.stk i (by omega)
   have hr : rows[i + 1]? = some rows[i + 1] := List.getElem?_eq_getElem hi
   have t := h.takes _ _ hr
   rw [runR_succ hr]
   generalize rows[i + 1] = r at t
   cases r with
   | whole a b c => exact absurd t.1 ih.2
   | part n => exact ih
   | word n => exact ih
   | lean z n => exact ih
theorem RowsOk.st {rows : List Row} {W : Whl} {S : BS} (h : RowsOk rows W S) {i : Nat} (h1 : 0 < i) (h2 : i ≤ rows.length) : (runR rows i).st = some (W.st, W.sz, W.en) := by
 obtain ⟨bw, e⟩ := h.run
 obtain ⟨j, rfl⟩ : ∃ j, i = j + 1 := ⟨i - 1, by omega⟩
 obtain ⟨m, em⟩ : ∃ m, rows.length = m + 1 := ⟨rows.length - 1, by omega⟩
 rw [(h.stk j h2).1, ← (h.stk m (by omega)).1, ← em, e]
theorem RowsOk.first {rows : List Row} {W : Whl} {S : BS} (h : RowsOk rows W S) : ∃ rest, rows = .whole W.st W.sz W.en :: rest := by
 obtain ⟨a, b, c, rest, rfl⟩ := h.whole0
 have := h.st (i := 1) (by decide) (by simp)
 have : some (a, b, c) = some (W.st, W.sz, W.en) := this
 cases this
 exact ⟨rest, rfl⟩
theorem RowsOk.tx {rows : List Row} {W : Whl} {S : BS} (h : RowsOk rows W S) {l : List Row} (hl : ∀ r ∈ l, r ∈ rows) : ∀ t ∈ l.map rowT, 10 ∉ t.cps.toList ∧ t.length ≤ 1000 := fun t ht => by
 obtain ⟨r, hr, rfl⟩ := List.mem_map.mp ht
 have := Row.good (h.small r (hl r hr))
 exact ⟨this.2.1, this.1⟩
theorem split_short {b : Str} (h : b.length ≤ 600) : ∀ p ∈ Txt.split b (Str.ofString " "), p.length ≤ 600 := fun p hp => by
 have := mem_join_le (sep := Str.ofString " ") hp
 rw [StrLaws.join_split] at this
 omega
theorem badAt_of {good : List Row} {b : Str} {rest : List Str} (sm : ∀ r ∈ good, r.Small) (tk : ∀ (i : Nat) (r : Row), good[i]? = some r → (runR good i).Takes r) (hb : Bad (runR good good.length) (Txt.split b (Str.ofString " "))) (nb : 10 ∉ b.cps.toList) (lb : b.length ≤ 1000) (pb : ∀ p ∈ Txt.split b (Str.ofString " "), p.length ≤ 600)
   (hr : ∀ t ∈ rest, 10 ∉ t.cps.toList ∧ t.length ≤ 1000) (hn : good.length + rest.length ≤ 250) : BadAt (good.map rowT ++ b :: rest) good b rest := by
 have hg : ∀ t ∈ good.map rowT, 10 ∉ t.cps.toList ∧ t.length ≤ 1000 := fun t ht => by
   obtain ⟨r, hr, rfl⟩ := List.mem_map.mp ht
   have := Row.good (sm r hr)
   exact ⟨this.2.1, this.1⟩
 have ha : ∀ t ∈ good.map rowT ++ b :: rest, 10 ∉ t.cps.toList ∧ t.length ≤ 1000 := fun t ht => by
   rcases List.mem_append.mp ht with z | z
   · exact hg t z
   · rcases List.mem_cons.mp z with rfl | z
     · exact ⟨nb, lb⟩
     · exact hr t z
 refine ⟨rfl, sm, tk, hb, fun t ht => (ha t ht).1, fun t ht => (ha t ht).2, ?_, pb⟩
 rw [List.length_append, List.length_map, List.length_cons]; omega
theorem takes_snoc {good : List Row} {r : Row} (tk : ∀ (i : Nat) (r : Row), good[i]? = some r → (runR good i).Takes r) (hr : (runR good good.length).Takes r) (i : Nat) (r' : Row) (h : (good ++ [r])[i]? = some r') : (runR (good ++ [r]) i).Takes r' := by
 rcases snoc_ix h with ⟨h1, h2⟩ | ⟨h1, h2⟩
 · rw [runR_app (Nat.le_of_lt h1)]; exact tk i r' h2
 · subst h1 h2
   rw [runR_app (Nat.le_refl _)]; exact hr
theorem RowsOk.pre {rows : List Row} {W : Whl} {S : BS} (h : RowsOk rows W S) {i : Nat} (hi : i ≤ rows.length) : (∀ r ∈ rows.take i, r.Small) ∧ (∀ (j : Nat) (r : Row), (rows.take i)[j]? = some r → (runR (rows.take i) j).Takes r) ∧ (rows.take i).length = i ∧ runR (rows.take i) i = runR rows i := by
 refine ⟨fun r hr => h.small r (List.mem_of_mem_take hr), fun j r hr => ?_, by rw [List.length_take]; omega, runR_take (Nat.le_refl _)⟩
 have hj : j < i := by
   have := (List.getElem?_eq_some_iff.mp hr).1
   rw [List.length_take] at this; omega
 rw [List.getElem?_take, if_pos hj] at hr
 rw [runR_take (Nat.le_of_lt hj)]
 exact h.takes j r hr
theorem RowsOk.bad {rows : List Row} {W : Whl} {S : BS} (h : RowsOk rows W S) {i j : Nat} (hi : i ≤ rows.length) {b : Str} (hb : Bad (runR rows i) (Txt.split b (Str.ofString " "))) (nb : 10 ∉ b.cps.toList) (lb : b.length ≤ 600) : BadAt ((rows.take i).map rowT ++ b :: (rows.drop j).map rowT) (rows.take i) b ((rows.drop j).map rowT) := by
 obtain ⟨p1, p2, p3, p4⟩ := h.pre hi
 have l := h.len
 refine badAt_of p1 p2 (by rw [p3, p4]; exact hb) nb (by omega) (split_short lb) (h.tx fun r hr => List.mem_of_mem_drop hr) ?_
 rw [p3, List.length_map, List.length_drop]; omega
theorem two_txt {h p : Str} (e : p = h ++ Str.ofString " ") (lh : h.length ≤ 10 ∧ 10 ∉ h.cps.toList ∧ 32 ∉ h.cps.toList) {n : Int} (h0 : -(10 ^ 40) ≤ n) (h1 : n ≤ 10 ^ 40) : (p ++ nS n).length ≤ 600 ∧ 10 ∉ (p ++ nS n).cps.toList ∧ Txt.split (p ++ nS n) (Str.ofString " ") = [h, nS n] := by
 subst e
 have f := nS_few h0 h1
 walk_at "0"
 exact ⟨by rw [slen, slen]; omega, no_nl (no_nl lh.2.1 (by decide +kernel)) f.2.1, split_two lh.2.2 f.2.2⟩
theorem part_txt {n : Int} (h0 : -(10 ^ 40) ≤ n) (h1 : n ≤ 10 ^ 40) : (rowT (.part n)).length ≤ 600 ∧ 10 ∉ (rowT (.part n)).cps.toList ∧ Txt.split (rowT (.part n)) (Str.ofString " ") = [Str.ofString "part", nS n] := by
 rw [rowT_part]
 exact two_txt (by decide +kernel) (by decide +kernel) h0 h1
theorem small_split {r : Row} (h : r.Small) : Txt.split (rowT r) (Str.ofString " ") = r.parts := by
 unfold rowT
 rw [sp_one]
 exact split_join r.ne (Row.good h).2.2
theorem lean_txt {lr : Str} {n : Int} (hl : isR lr) (h0 : 0 ≤ n) (h1 : n ≤ 2147483647) : (rowT (.lean lr n)).length ≤ 600 ∧ 10 ∉ (rowT (.lean lr n)).cps.toList ∧ Txt.split (rowT (.lean lr n)) (Str.ofString " ") = [Str.ofString "lean", lr, nS n] := by
 have sm : (Row.lean lr n).Small := ⟨hl, by omega, by omega⟩
 have f := nS_few (n := n) (by omega) (by omega)
 walk_at "0"
 have ll : (Str.ofString "lean ").length = 5 := by decide +kernel
 have lr5 : lr.length ≤ 5 := by rcases hl with rfl | rfl | rfl <;> decide +kernel
 refine ⟨?_, (Row.good sm).2.1, small_split sm⟩
 rw [rowT_lean, slen, slen, slen]; omega
theorem cut_to {xs : List V} {i : Nat} (h : i ≤ xs.length) : cutV xs none (some (i : Int)) = xs.take i := by
 unfold cutV
 have e : HT.sIx xs.length xs.length (some (i : Int)) = i := by rw [HT.sIx_nat]; omega
 have e0 : HT.sIx xs.length 0 none = 0 := rfl
 rw [e, e0, List.drop_zero, Nat.sub_zero]
theorem cut_from {xs : List V} {i : Nat} (h : i ≤ xs.length) : cutV xs (some (i : Int)) none = xs.drop i := by
 unfold cutV
 have e : HT.sIx xs.length 0 (some (i : Int)) = i := by rw [HT.sIx_nat]; omega
 have e0 : HT.sIx xs.length xs.length none = xs.length := rfl
 rw [e, e0, List.take_of_length_le (by rw [List.length_drop]; exact Nat.le_refl _)]
theorem cat3 {H : Hp} {Q : VK} {p p1 p2 : Addr} {as mid xs : List V} {i c : Int} (h1 : H p1 = some (.lst as)) (hp : H p = some (.lst xs)) (h2 : H p2 = none) (la : as.length ≤ 300) (lm : mid.length ≤ 300) (lx : xs.length ≤ 300)
   (fin : ∀ p6 p5 H', Same H H' → H' p6 = some (.tup [.ref p5, .int c]) → H' p5 = some (.lst (as ++ mid ++ cutV xs (some i) none)) → Q (.ref p6) H') :
   ∃ x1, SqL K (upd H p2 (.lst mid)) p1 x1 ∧ ∃ x2, SqL K (upd H p2 (.lst mid)) p2 x2 ∧ x1.length + x2.length ≤ sizeLine ∧ ∀ p3 : Addr, upd H p2 (.lst mid) p3 = none → ∃ x3, SqL K (upd (upd H p2 (.lst mid)) p3 (.lst (x1 ++ x2))) p x3 ∧ ∀ p4 : Addr, upd (upd H p2 (.lst mid)) p3 (.lst (x1 ++ x2)) p4 = none →
     ∃ x4, SqL K (upd (upd (upd H p2 (.lst mid)) p3 (.lst (x1 ++ x2))) p4 (.lst (cutV x3 (some i) none))) p3 x4 ∧ ∃ x5, SqL K (upd (upd (upd H p2 (.lst mid)) p3 (.lst (x1 ++ x2))) p4 (.lst (cutV x3 (some i) none))) p4 x5 ∧ x4.length + x5.length ≤ sizeLine ∧
       ∀ p5 : Addr, upd (upd (upd H p2 (.lst mid)) p3 (.lst (x1 ++ x2))) p4 (.lst (cutV x3 (some i) none)) p5 = none → 2 ≤ sizeLine ∧ ∀ p6 : Addr, upd (upd (upd (upd H p2 (.lst mid)) p3 (.lst (x1 ++ x2))) p4 (.lst (cutV x3 (some i) none))) p5 (.lst (x4 ++ x5)) p6 = none →
         Q (.ref p6) (upd (upd (upd (upd (upd H p2 (.lst mid)) p3 (.lst (x1 ++ x2))) p4 (.lst (cutV x3 (some i) none))) p5 (.lst (x4 ++ x5))) p6 (.tup [.ref p5, .int c])) := by
 have lc := zz16 xs (some i) none
 refine ⟨_, SqL.of (zz2 h2 _ _ h1), _, SqL.of zz1, by rw [sizeLine_eq]; omega, fun p3 h3 => ⟨_, SqL.of (zz2 h3 _ _ (zz2 h2 _ _ hp)), fun p4 h4 => ⟨_, SqL.of (zz2 h4 _ _ zz1), _, SqL.of zz1, by rw [sizeLine_eq, List.length_append]; omega, fun p5 h5 => ⟨by rw [sizeLine_eq]; decide, fun p6 h6 => ?_⟩⟩⟩⟩
 exact fin p6 p5 _ (((((zz2 h2).trans (zz2 h3)).trans (zz2 h4)).trans (zz2 h5)).trans (zz2 h6)) zz1 (zz2 h6 _ _ zz1)
theorem ins_is {rows : List Row} {i : Nat} (hi : i ≤ rows.length) (mid : List Str) : cutV (rows.map fun r => V.str (rowT r)) none (some (i : Int)) ++ mid.map V.str ++ cutV (rows.map fun r => V.str (rowT r)) (some (i : Int)) none = ((rows.take i).map rowT ++ (mid ++ (rows.drop i).map rowT)).map V.str := by
 rw [cut_to (by rw [List.length_map]; exact hi), cut_from (by rw [List.length_map]; exact hi), List.map_append, List.map_append, List.map_map, List.map_map, List.map_take, List.map_drop, List.append_assoc]; rfl
theorem RowsOk.fin1 {rows : List Row} {W : Whl} {S : BS} (hR : RowsOk rows W S) {i : Nat} (hi : i ≤ rows.length) {b : Str} (hb : Bad (runR rows i) (Txt.split b (Str.ofString " "))) (nb : 10 ∉ b.cps.toList) (lb : b.length ≤ 600) {H0 H' : Hp} {Q : VK} {q6 q5 : Addr}
   (k : ∀ (q l : Addr) (ts : List Str) (good : List Row) (b : Str) (rest : List Str) (H' : Hp), Same H0 H' → H' q = some (.tup [.ref l, .int ((good.length : Int) + 1)]) → H' l = some (.lst (ts.map V.str)) → BadAt ts good b rest → ts.length ≤ 200 → Q (.ref q) H')
   (s : Same H0 H') (e1 : H' q6 = some (.tup [.ref q5, .int ((i : Int) + 1)])) (e2 : H' q5 = some (.lst (cutV (rows.map fun r => V.str (rowT r)) none (some (i : Int)) ++ [V.str b] ++ cutV (rows.map fun r => V.str (rowT r)) (some (i : Int)) none))) : Q (.ref q6) H' := by
 have rl := hR.len
 refine k q6 q5 ((rows.take i).map rowT ++ b :: (rows.drop i).map rowT) (rows.take i) b ((rows.drop i).map rowT) H' s ?_ ?_ (hR.bad hi hb nb lb) ?_
 · rw [e1, (hR.pre hi).2.2.1]
 · rw [e2]; exact congrArg (fun z => some (HO.lst z)) (ins_is hi [b])
 · rw [List.length_append, List.length_cons, List.length_map, List.length_map, List.length_take, List.length_drop]; omega
theorem G_qwk (T : Txt w K mg A) : FnOk P w K mg base CX0 3 A.qwk A.fd_qwk ["_law_rows", "_law_size", "_law_way", "_law_at", "_law_number"] sp_spoil := by
 refine T.F_qwk.ok sc_qwk (fun vs H Q E h => ?_) (fun cdv Ar outer s H vs Q E hr h => ?_)
 · obtain ⟨p, rows, W, S, way, at_, n, rfl, _⟩ := h
   rfl
 · obtain ⟨p, rows, W, S, way, at_, n, rfl, hp, hR, a0, a1, n0, n1, k⟩ := h
   refine ⟨_, (zz3 (ps_set (i := 5) sc_qwk.nd rfl (by walk_at "o") (pe_op zz7 (pe_op zz7 (pe_op zz7 pe_str (pe_ix (zz17 (K := K) rfl) (pe_lst (zz0 pe_str (zz0 pe_str (zz0 pe_str pa_nil)))) (pe_op op_mod (pv 4) pe_int) (fun _ _ => rfl))) pe_str) (zz14 zz10 (by rfl) T.n_str bt_str (zz0 (pv 4) pa_nil)))) (zz3 (ps_set (i := 6) sc_qwk.nd rfl (by walk_at "o") (zz12 (G_qqv T) (hr.mono (by decide)) rfl T.m_qqv T.k_qqv T.b_qqv .nil pass0 (zz0 (zz13 (zz19 (K := K) rfl) (pv 0) zz18 (zz15 (pv 3))) pa_nil))) (zz11 (u := oS false) (zz3 (ps_if (zz6 op_eq (pv 2) pe_int (nomark _)) (zz5 (ps_ret (pe_tup (zz0 (pe_op (zz9 (K := K) rfl) (pe_lst (zz0 (zz12 (G_qwq T) (hr.mono (by decide)) rfl T.m_qwq T.k_qwq T.b_qwq .nil pass0 (zz0 (pv 4) (zz0 (pv 1) pa_nil))) pa_nil)) (zz13 (zz19 (K := K) rfl) (pv 0) (zz15 pe_int) zz18)) (zz0 pe_int pa_nil))))) zz8) (zz11 (u := oS false) (zz3 (ps_if (PW.pt (pw_and (zz6 op_eq (pv 2) pe_int (nomark _)) (pw_and (zz6 op_gt (pv 3) pe_int (nomark _)) (pw_and1 (zz6 op_gt (pv 6) pe_int (nomark _)))))) (zz5 (ps_ret (pe_tup (zz0 (pe_op (zz9 (K := K) rfl) (pe_op (zz9 (K := K) rfl) (zz13 (zz19 (K := K) rfl) (pv 0) zz18 (zz15 (pv 3))) (pe_lst (zz0 (pe_op zz7 pe_str (zz14 zz10 (by rfl) T.n_str bt_str (zz0 (pe_op op_sub (pv 6) pe_int) pa_nil))) pa_nil))) (zz13 (zz19 (K := K) rfl) (pv 0) (zz15 (pv 3)) zz18)) (zz0 (pe_op op_add (pv 3) pe_int) pa_nil))))) zz8) (zz11 (u := oS false) (zz3 (ps_if (PW.pt (pw_and (zz6 op_eq (pv 2) pe_int (nomark _)) (pw_and1 (zz6 op_gt (pv 3) pe_int (nomark _))))) (zz5 (ps_ret (pe_tup (zz0 (pe_op (zz9 (K := K) rfl) (pe_op (zz9 (K := K) rfl) (zz13 (zz19 (K := K) rfl) (pv 0) zz18 (zz15 (pv 3))) (pe_lst (zz0 (pe_op zz7 pe_str (zz14 zz10 (by rfl) T.n_str bt_str (zz0 (pe_op op_add (pe_op op_add (pv 1) pe_int) (pv 4)) pa_nil))) pa_nil))) (zz13 (zz19 (K := K) rfl) (pv 0) (zz15 (pv 3)) zz18)) (zz0 (pe_op op_add (pv 3) pe_int) pa_nil))))) zz8) (zz11 (u := oS false) (zz3 (ps_if (zz6 op_eq (pv 2) pe_int (nomark _)) (zz5 (ps_ret (pe_tup (zz0 (pe_op (zz9 (K := K) rfl) (pv 0) (pe_lst (zz0 (pe_op zz7 pe_str (zz14 zz10 (by rfl) T.n_str bt_str (zz0 (pv 1) pa_nil))) (zz0 pe_str pa_nil)))) (zz0 (pe_op op_add (zz21 (call_lenK (K := K) rfl) (by rfl) T.n_len bt_len (zz0 (pv 0) pa_nil)) pe_int) pa_nil))))) zz8) (zz11 (u := oS false) (zz3 (ps_if (zz6 op_eq (pv 2) pe_int (nomark _)) (zz5 (ps_ret (pe_tup (zz0 (pe_op (zz9 (K := K) rfl) (pe_op (zz9 (K := K) rfl) (zz13 (zz19 (K := K) rfl) (pv 0) zz18 (zz15 pe_int)) (pe_lst (zz0 pe_str pa_nil))) (zz13 (zz19 (K := K) rfl) (pv 0) (zz15 pe_int) zz18)) (zz0 pe_int pa_nil))))) zz8) (zz11 (u := oS false) (zz3 (ps_if (PW.pt (pw_and (zz6 op_eq (pv 2) pe_int (nomark _)) (pw_and (zz6 op_gt (pv 3) pe_int (nomark _)) (pw_and1 (zz6 op_eq (zz13 (sl_anyK (K := K) rfl) (pe_ix (zz17 (K := K) rfl) (pv 0) (pe_op op_sub (pv 3) pe_int) (fun _ _ => rfl)) zz18 (zz15 pe_int)) pe_str (nomark _)))))) (zz5 (ps_ret (pe_tup (zz0 (pe_op (zz9 (K := K) rfl) (pe_op (zz9 (K := K) rfl) (zz13 (zz19 (K := K) rfl) (pv 0) zz18 (zz15 (pv 3))) (pe_lst (zz0 (pv 5) (zz0 (pv 5) pa_nil)))) (zz13 (zz19 (K := K) rfl) (pv 0) (zz15 (pv 3)) zz18)) (zz0 (pe_op op_add (pv 3) pe_int) pa_nil))))) zz8) (zz11 (u := oS true) (zz3 (ps_if (PW.pt (pw_and (zz6 op_eq (pv 2) pe_int (nomark _)) (pw_and1 (zz6 op_gt (pv 3) pe_int (nomark _))))) (zz5 (ps_ret (pe_tup (zz0 (pe_op (zz9 (K := K) rfl) (pe_op (zz9 (K := K) rfl) (zz13 (zz19 (K := K) rfl) (pv 0) zz18 (zz15 (pv 3))) (pe_lst (zz0 (pv 5) pa_nil))) (zz13 (zz19 (K := K) rfl) (pv 0) (zz15 (pv 3)) zz18)) (zz0 (pe_op op_add (pv 3) pe_int) pa_nil))))) zz8) (zz11 (u := oS false) (zz3 (ps_if (zz6 op_eq (pv 2) pe_int (nomark _)) (zz5 (ps_ret (pe_tup (zz0 (pe_op (zz9 (K := K) rfl) (pv 0) (pe_lst (zz0 pe_str pa_nil))) (zz0 (pe_op op_add (zz21 (call_lenK (K := K) rfl) (by rfl) T.n_len bt_len (zz0 (pv 0) pa_nil)) pe_int) pa_nil))))) zz8) (zz11 (u := oS false) (zz3 (ps_if (zz6 op_eq (pv 2) pe_int (nomark _)) (zz5 (ps_ret (pe_tup (zz0 (pe_op (zz9 (K := K) rfl) (pe_op (zz9 (K := K) rfl) (zz13 (zz19 (K := K) rfl) (pv 0) zz18 (zz15 (pv 3))) (pe_lst (zz0 (pe_op zz7 (pe_op zz7 pe_str (zz14 zz10 (by rfl) T.n_str bt_str (zz0 (pv 4) pa_nil))) pe_str) pa_nil))) (zz13 (zz19 (K := K) rfl) (pv 0) (zz15 (pv 3)) zz18)) (zz0 (zz21 (call_max2 rfl) (by rfl) T.n_max bt_max (zz0 pe_int (zz0 (pe_op op_add (pv 3) pe_int) pa_nil))) pa_nil))))) zz8) (zz11 (u := oS false) (zz5 (ps_ret (pe_tup (zz0 (pe_op (zz9 (K := K) rfl) (pe_op (zz9 (K := K) rfl) (zz13 (zz19 (K := K) rfl) (pv 0) zz18 (zz15 (pv 3))) (pe_lst (zz0 (zz12 (G_qwj T) (hr.mono (by decide)) rfl T.m_qwj T.k_qwj T.b_qwj .nil pass0 (zz0 (pv 4) pa_nil)) pa_nil))) (zz13 (zz19 (K := K) rfl) (pv 0) (zz15 (pv 3)) zz18)) (zz0 (pe_op op_add (pv 3) pe_int) pa_nil))))) ?os10)) ?os9)) ?os8)) ?os7)) ?os6)) ?os5)) ?os4)) ?os3)) ?os2)) ?os1))), ?main⟩
   case main =>
     walk_at "rd"
     have rl := hR.len
     walk_at "9"
     walk_at "10"
     obtain ⟨p1, p2, p3, p4⟩ := hR.pre hi
     have hlr : ∃ lr, isR lr ∧ atI [V.str (Str.ofString "whole"), V.str (Str.ofString "high"), V.str (Str.ofString "low")] (n % 3) = some (V.str lr) := by
       obtain ⟨v, e, hv⟩ := atI_ex (xs := [V.str (Str.ofString "whole"), V.str (Str.ofString "high"), V.str (Str.ofString "low")]) (i := n % 3) (by show -(3 : Int) ≤ _; omega) (by show _ < (3 : Int); omega)
       simp only [List.mem_cons, List.not_mem_nil, or_false] at hv
       rcases hv with rfl | rfl | rfl
       · exact ⟨_, .inl rfl, e⟩
       · exact ⟨_, .inr (.inl rfl), e⟩
       · exact ⟨_, .inr (.inr rfl), e⟩
     obtain ⟨lr, hl, el⟩ := hlr
     have m0 := lenF (x := n) (by omega) (by omega)
     have lr5 : lr.length ≤ 5 := by rcases hl with rfl | rfl | rfl <;> decide +kernel
     have w1 : (Str.ofString "lean ").length = 5 := by decide +kernel
     have w2 : (Str.ofString " ").length = 1 := by decide +kernel
     walk_at "4"
     refine ⟨sz _ (by decide), fun q1 h1 => ⟨by decide, _, SqL.of zz1, _, el, lr, rfl, sz _ (by omega), sz _ (by rw [slen]; omega), m0.2, sz _ (by rw [slen, slen]; omega), _, SqL.of (zz2 h1 _ _ hp), fun q2 h2 => ⟨rows.take i, SqL.of (by rw [zz1, cut_to (by rw [List.length_map]; exact hi), List.map_take]), p1, p2, fun H' sm => ?_⟩⟩⟩
     have s1 := (zz2 h1).trans ((zz2 h2).trans sm)
     refine ⟨H, p, rows, W, S, way, i, n, lr, ?_, s1 _ _ hp, hR, a0, a1, n0, n1, hl, (fun z => by cases z), s1, k⟩
     rw [p3, p4, rowT_lean]; rfl
   case os1 =>
     walk_at "11"
     walk_at "rd"
     have rl := hR.len
     walk_at "12"
     walk_at "9"
     walk_at "10"
     walk_at "13"
     walk_at "14"
     have inv := hR.inv i hi
     walk_at "15"
     walk_at "16"
     by_cases hw : way = 1
     · rw [decide_eq_true hw, if_pos rfl]
       refine ⟨n0, n1, sz4.1, sz4.2, fun z H' s1 oz => ⟨by rw [sizeLine_eq]; decide, fun q1 h1 => ⟨_, SqL.of (zz2 h1 _ _ (s1 _ _ hp)), fun q2 h2 => ⟨_, SqL.of (zz2 h2 _ _ zz1), _, SqL.of zz1, ?_, fun q3 h3 => ⟨by rw [sizeLine_eq]; decide, fun q4 h4 => ?_⟩⟩⟩⟩⟩
       · have := Nat.le_trans (zz16 (rows.map fun r => V.str (rowT r)) (some 1) none) ml
         rw [sizeLine_eq]; show 1 + _ ≤ _; omega
       · refine k q4 q3 (z :: (rows.drop 1).map rowT) [] z ((rows.drop 1).map rowT) _ (((((sm.trans s1).trans (zz2 h1)).trans (zz2 h2)).trans (zz2 h3)).trans (zz2 h4)) zz1 (zz2 h4 _ _ ?_) ?_ ?_
         · rw [zz1]
           rw [show cutV (rows.map fun r => V.str (rowT r)) (some 1) none = (rows.map fun r => V.str (rowT r)).drop 1 from cut_from (i := 1) (by rw [List.length_map]; exact List.length_pos_iff.mpr hR.ne), List.map_cons, List.map_map, List.map_drop]; rfl
         · exact badAt_of (good := []) (fun r hr => by cases hr) (fun i r hr => by cases hr) oz.2.2 oz.2.1 (by have := oz.1; omega) (split_short oz.1) (hR.tx fun r hr => List.mem_of_mem_drop hr) (by rw [List.length_map, List.length_drop]; simp; omega)
         · rw [List.length_cons, List.length_map, List.length_drop]; omega
     · rw [decide_eq_false hw, if_neg (by simp)]
       exact go
   case os2 =>
     walk_at "11"
     walk_at "rd"
     have rl := hR.len
     walk_at "12"
     walk_at "9"
     walk_at "10"
     walk_at "13"
     walk_at "14"
     have inv := hR.inv i hi
     walk_at "15"
     walk_at "16"
     walk_at "4"
     walk_at "6"
     walk_at "17"
     by_cases hw : way = 2
     · rw [decide_eq_true hw, if_pos rfl]
       by_cases hp0 : 0 < (i : Int)
       · rw [decide_eq_true hp0, if_pos rfl]
         by_cases he : 0 < (runR rows i).e
         · rw [decide_eq_true he, if_pos rfl]
           have st := hR.st (i := i) (by omega) hi
           have le := (inv.le _ st).1
           have le : (runR rows i).e ≤ W.sz := le
           have m0 := lenF (x := (runR rows i).e - 1) (by omega) (by omega)
           have tx := part_txt (n := (runR rows i).e - 1) (by omega) (by omega)
           refine ⟨_, SqL.of hp, fun q1 h1 => ⟨m0.2, sz _ (by omega), sz _ (by decide), fun q2 h2 => cat3 zz1 (zz2 h1 _ _ hp) h2 (Nat.le_trans cl (by decide)) (by simp) (Nat.le_trans ml (by decide)) fun q6 q5 H' s e1 e2 => ?_⟩⟩
           rw [show Str.ofString "part " ++ Str.ofString (toString ((runR rows i).e - 1)) = rowT (.part ((runR rows i).e - 1)) from (rowT_part _).symm] at e2
           refine hR.fin1 hi ?_ tx.2.1 tx.1 k ((sm.trans (zz2 h1)).trans s) e1 e2
           rw [tx.2.2]
           exact .part fun q hq => numF_over (.inl (by omega))
         · rw [decide_eq_false he, if_neg (by simp)]; exact go
       · rw [decide_eq_false hp0, if_neg (by simp)]; exact go
     · rw [decide_eq_false hw, if_neg (by simp)]; exact go
   case os3 =>
     walk_at "11"
     walk_at "rd"
     have rl := hR.len
     walk_at "12"
     walk_at "9"
     walk_at "10"
     walk_at "13"
     walk_at "14"
     have inv := hR.inv i hi
     walk_at "15"
     walk_at "16"
     walk_at "4"
     walk_at "6"
     walk_at "17"
     by_cases hw : way = 3
     · rw [decide_eq_true hw, if_pos rfl]
       by_cases hp0 : 0 < (i : Int)
       · rw [decide_eq_true hp0, if_pos rfl]
         have st := hR.st (i := i) (by omega) hi
         have m0 := lenF (x := W.sz + 1 + n) (by omega) (by omega)
         have tx := part_txt (n := W.sz + 1 + n) (by omega) (by omega)
         refine ⟨_, SqL.of hp, fun q1 h1 => ⟨m0.2, sz _ (by omega), sz _ (by decide), fun q2 h2 => cat3 zz1 (zz2 h1 _ _ hp) h2 (Nat.le_trans cl (by decide)) (by simp) (Nat.le_trans ml (by decide)) fun q6 q5 H' s e1 e2 => ?_⟩⟩
         rw [show Str.ofString "part " ++ Str.ofString (toString (W.sz + 1 + n)) = rowT (.part (W.sz + 1 + n)) from (rowT_part _).symm] at e2
         refine hR.fin1 hi ?_ tx.2.1 tx.1 k ((sm.trans (zz2 h1)).trans s) e1 e2
         rw [tx.2.2]
         exact .part fun q hq => by rw [st] at hq; cases hq; exact numF_over (.inr (by show W.sz < _; omega))
       · rw [decide_eq_false hp0, if_neg (by simp)]; exact go
     · rw [decide_eq_false hw, if_neg (by simp)]; exact go
   case os4 =>
     walk_at "11"
     walk_at "rd"
     have rl := hR.len
     walk_at "12"
     walk_at "9"
     walk_at "10"
     walk_at "13"
     walk_at "14"
     have inv := hR.inv i hi
     walk_at "15"
     walk_at "16"
     walk_at "4"
     walk_at "6"
     walk_at "17"
     by_cases hw : way = 4
     · rw [decide_eq_true hw, if_pos rfl]
       have m0 := lenF (x := W.sz) (by omega) (by omega)
       have st := hR.st (i := rows.length) (List.length_pos_iff.mpr hR.ne) (Nat.le_refl _)
       have le : (runR rows rows.length).e ≤ W.sz := ((hR.inv rows.length (Nat.le_refl _)).le _ st).1
       have e0 := (hR.inv rows.length (Nat.le_refl _)).e0
       refine ⟨m0.2, sz _ (by omega), sz _ (by decide), fun q1 h1 => ⟨_, SqL.of (zz2 h1 _ _ hp), _, SqL.of zz1, sz _ (by show _ + 2 ≤ _; omega), fun q2 h2 => ?_⟩⟩
       refine ⟨rows.length, .inl ⟨_, SqL.of (zz2 h2 _ _ (zz2 h1 _ _ hp)), by rw [List.length_map]⟩, sz _ (by decide), fun q3 h3 => ?_⟩
       have tx := part_txt (n := W.sz) (by omega) (by omega)
       refine k q3 q2 ((rows ++ [Row.part W.sz]).map rowT ++ [Str.ofString "word 5"]) (rows ++ [Row.part W.sz]) (Str.ofString "word 5") [] _ ((sm.trans (zz2 h1)).trans ((zz2 h2).trans (zz2 h3))) ?_ (zz2 h3 _ _ ?_) ?_ ?_
       · rw [zz1, List.length_append, List.length_singleton]
         exact congrArg (fun z => some (HO.tup [V.ref q2, V.int z])) (by omega)
       · rw [zz1, List.map_append, List.map_append, List.map_append, List.map_map, show Str.ofString "part " ++ Str.ofString (toString W.sz) = rowT (.part W.sz) from (rowT_part _).symm, List.append_assoc]; rfl
       · refine badAt_of (fun r hr => (List.mem_append.mp hr).elim (hR.small r) fun z => by rw [List.mem_singleton.mp z]; exact sz4) (takes_snoc hR.takes ⟨_, st, le, Int.le_refl _, sz4.2⟩) ?_ (by decide +kernel) (by decide +kernel) (split_short (by decide +kernel)) (fun t ht => by cases ht) (by rw [List.length_append]; simp; omega)
         have hx : (rows ++ [Row.part W.sz])[rows.length]? = some (Row.part W.sz) := by rw [List.getElem?_append_right (Nat.le_refl _), Nat.sub_self]; rfl
         rw [List.length_append, show rows.length + [Row.part W.sz].length = rows.length + 1 from rfl, runR_succ hx, runR_app (Nat.le_refl _), show Txt.split (Str.ofString "word 5") (Str.ofString " ") = [Str.ofString "word", Str.ofString "5"] by decide +kernel]
         refine .word (.inr (.inr fun q hq => ?_))
         have hq : (runR rows rows.length).st = some q := hq
         rw [st] at hq; cases hq
         exact Int.le_refl _
       · rw [List.length_append, List.length_map, List.length_append]; simp; omega
     · rw [decide_eq_false hw, if_neg (by simp)]; exact go
   case os5 =>
     walk_at "11"
     walk_at "rd"
     have rl := hR.len
     walk_at "12"
     walk_at "9"
     walk_at "10"
     walk_at "13"
     walk_at "14"
     have inv := hR.inv i hi
     walk_at "15"
     walk_at "16"
     walk_at "4"
     walk_at "6"
     walk_at "17"
     by_cases hw : way = 5
     · rw [decide_eq_true hw, if_pos rfl]
       have h1l : 1 ≤ rows.length := List.length_pos_iff.mpr hR.ne
       refine ⟨_, SqL.of hp, fun q1 h1 => ⟨sz _ (by decide), fun q2 h2 => cat3 zz1 (zz2 h1 _ _ hp) h2 (Nat.le_trans (Nat.le_trans (zz16 _ _ _) ml) (by decide)) (by decide) (Nat.le_trans ml (by decide)) fun q6 q5 H' s e1 e2 => ?_⟩⟩
       refine hR.fin1 h1l ?_ (b := Str.ofString "word 0") (by decide +kernel) (by decide +kernel) k ((sm.trans (zz2 h1)).trans s) e1 e2
       obtain ⟨rest, rfl⟩ := hR.first
       rw [show Txt.split (Str.ofString "word 0") (Str.ofString " ") = [Str.ofString "word", Str.ofString "0"] by decide +kernel]
       exact .word (.inr (.inl rfl))
     · rw [decide_eq_false hw, if_neg (by simp)]; exact go
   case os6 =>
     walk_at "11"
     walk_at "rd"
     have rl := hR.len
     walk_at "12"
     walk_at "9"
     walk_at "10"
     have go : (way = 6 → 0 < (i : Int) → (runR rows i).bw = false) → oS true D [some (V.ref p), some (V.int W.sz), some (V.int way), some (V.int i), some (V.int n), some (V.str (rowT (Row.lean lr n))), some (V.int (runR rows (i : Int).toNat).e)] H := fun h => ⟨H0, p, rows, W, S, way, i, n, lr, rfl, hp, hR, a0, a1, n0, n1, hl, (fun _ => h), sm, k⟩
     walk_at "14"
     have inv := hR.inv i hi
     walk_at "15"
     walk_at "16"
     walk_at "4"
     walk_at "17"
     by_cases hw : way = 6
     · rw [decide_eq_true hw, if_pos rfl]
       by_cases hp0 : 0 < (i : Int)
       · rw [decide_eq_true hp0, if_pos rfl]
         have st := hR.st (i := i) (by omega) hi
         obtain ⟨j, rfl⟩ : ∃ j, i = j + 1 := ⟨i - 1, by omega⟩
         have hr : rows[j]? = some rows[j] := List.getElem?_eq_getElem (by omega)
         generalize rows[j] = r at hr
         have hs := hR.small r (List.mem_of_getElem? hr)
         have lt := lean_txt hl n0 n1
         refine ⟨_, SqL.of hp, V.str (rowT r), ?_, .inr (.inr ⟨rowT r, rfl, Nat.le_trans (Row.good hs).1 (sz _ (by decide)), ?_⟩)⟩
         · rw [show ((j + 1 : Nat) : Int) - 1 = (j : Int) by omega]
           exact atI_nat (by rw [List.getElem?_map, hr]; rfl)
         · rw [row5 r]
           by_cases h5 : r.h5 = Str.ofString "word "
           · rw [decide_eq_true h5, if_pos rfl]
             have hbw : (runR rows (j + 1)).bw = true := by
               rw [runR_succ hr]
               cases r with
               | word n => rfl
               | whole a b c => exact absurd h5 (show ¬ Str.ofString "whole" = Str.ofString "word " by decide +kernel)
               | part a => exact absurd h5 (show ¬ Str.ofString "part " = Str.ofString "word " by decide +kernel)
               | lean a b => exact absurd h5 (show ¬ Str.ofString "lean " = Str.ofString "word " by decide +kernel)
             refine ⟨_, SqL.of hp, fun q1 h1 => ⟨sz _ (by decide), fun q2 h2 => cat3 zz1 (zz2 h1 _ _ hp) h2 (Nat.le_trans cl (by decide)) (by simp) (Nat.le_trans ml (by decide)) fun q6 q5 H' s e1 e2 => ?_⟩⟩
             obtain ⟨p1, p2, p3, p4⟩ := hR.pre hi
             refine k q6 q5 ((rows.take (j + 1) ++ [Row.lean lr n]).map rowT ++ rowT (.lean lr n) :: (rows.drop (j + 1)).map rowT) (rows.take (j + 1) ++ [Row.lean lr n]) (rowT (.lean lr n)) ((rows.drop (j + 1)).map rowT) H' ((sm.trans (zz2 h1)).trans s) ?_ ?_ ?_ ?_
             · rw [e1, List.length_append, p3]; rfl
             · rw [e2]
               refine congrArg (fun z => some (HO.lst z)) ((ins_is hi [rowT (.lean lr n), rowT (.lean lr n)]).trans ?_)
               rw [List.map_append (f := rowT), List.append_assoc]; rfl
             · refine badAt_of (fun r hr => (List.mem_append.mp hr).elim (p1 r) fun z => by rw [List.mem_singleton.mp z]; exact ⟨hl, by omega, by omega⟩) (takes_snoc p2 ?_) ?_ lt.2.1 (by have := lt.1; omega) (split_short lt.1) (hR.tx fun r hr => List.mem_of_mem_drop hr) ?_
               · rw [p3, p4]
                 exact ⟨(fun z => by rw [st] at z; cases z), hbw, hl, by omega, by omega⟩
               · rw [lt.2.2, List.length_append, p3]
                 refine .lean (.inl ?_)
                 have hx : (rows.take (j + 1) ++ [Row.lean lr n])[j + 1]? = some (Row.lean lr n) := by rw [List.getElem?_append_right (by rw [p3]; exact Nat.le_refl _), p3, Nat.sub_self]; rfl
                 show (runR _ (j + 1 + 1)).bw = false
                 rw [runR_succ hx]
                 rfl
               · rw [List.length_append, p3, List.length_map, List.length_drop]; simp; omega
             · rw [List.length_append, List.length_cons, List.length_map, List.length_map, List.length_append, p3, List.length_drop]; simp; omega
           · rw [decide_eq_false h5, if_neg (by simp)]
             refine go fun _ _ => ?_
             rw [runR_succ hr]
             cases r with
             | word n => exact absurd rfl h5
             | whole a b c => rfl
             | part a => rfl
             | lean a b => rfl
       · rw [decide_eq_false hp0, if_neg (by simp)]; exact go fun _ z => absurd z hp0
     · rw [decide_eq_false hw, if_neg (by simp)]; exact go fun z => absurd z hw
   case os7 =>
     walk_at "11"
     walk_at "rd"
     have rl := hR.len
     walk_at "12"
     walk_at "9"
     walk_at "10"
     walk_at "13"
     walk_at "14"
     have inv := hR.inv i hi
     walk_at "15"
     walk_at "16"
     walk_at "4"
     walk_at "17"
     by_cases hw : way = 6
     · rw [decide_eq_true hw, if_pos rfl]
       by_cases hp0 : 0 < (i : Int)
       · rw [decide_eq_true hp0, if_pos rfl]
         have st := hR.st (i := i) (by omega) hi
         obtain ⟨j, rfl⟩ : ∃ j, i = j + 1 := ⟨i - 1, by omega⟩
         have hr : rows[j]? = some rows[j] := List.getElem?_eq_getElem (by omega)
         generalize rows[j] = r at hr
         have lt := lean_txt hl n0 n1
         refine ⟨_, SqL.of hp, fun q1 h1 => ⟨sz _ (by decide), fun q2 h2 => cat3 zz1 (zz2 h1 _ _ hp) h2 (Nat.le_trans cl (by decide)) (by simp) (Nat.le_trans ml (by decide)) fun q6 q5 H' s e1 e2 => ?_⟩⟩
         refine hR.fin1 hi ?_ lt.2.1 lt.1 k ((sm.trans (zz2 h1)).trans s) e1 e2
         rw [lt.2.2]
         exact .lean (.inl (h7 rfl hw hp0))
       · rw [decide_eq_false hp0, if_neg (by simp)]; exact go
     · rw [decide_eq_false hw, if_neg (by simp)]; exact go
   case os8 =>
     walk_at "11"
     walk_at "rd"
     have rl := hR.len
     walk_at "12"
     walk_at "9"
     walk_at "10"
     walk_at "13"
     walk_at "14"
     have inv := hR.inv i hi
     walk_at "15"
     walk_at "16"
     walk_at "4"
     walk_at "17"
     by_cases hw : way = 7
     · rw [decide_eq_true hw, if_pos rfl]
       refine ⟨sz _ (by decide), fun q1 h1 => ⟨_, SqL.of (zz2 h1 _ _ hp), _, SqL.of zz1, sz _ (by show _ + 1 ≤ _; omega), fun q2 h2 => ⟨rows.length, .inl ⟨_, SqL.of (zz2 h2 _ _ (zz2 h1 _ _ hp)), by rw [List.length_map]⟩, sz _ (by decide), fun q3 h3 => ?_⟩⟩⟩
       refine k q3 q2 (rows.map rowT ++ [Str.ofString ""]) rows (Str.ofString "") [] _ ((sm.trans (zz2 h1)).trans ((zz2 h2).trans (zz2 h3))) zz1 (zz2 h3 _ _ ?_) ?_ ?_
       · rw [zz1, List.map_append, List.map_map]; rfl
       · have od := odd_of (z := Str.ofString "") (by decide +kernel)
         exact badAt_of hR.small hR.takes (od.2.2 _ (hR.inv _ (Nat.le_refl _)).fine) od.2.1 (Nat.le_trans od.1 (by decide)) (split_short od.1) (fun t ht => by cases ht) (by simp; omega)
       · rw [List.length_append, List.length_map]; simp; omega
     · rw [decide_eq_false hw, if_neg (by simp)]; exact go
   case os9 =>
     walk_at "11"
     walk_at "rd"
     have rl := hR.len
     walk_at "12"
     walk_at "9"
     walk_at "10"
     walk_at "13"
     walk_at "14"
     have inv := hR.inv i hi
     walk_at "15"
     walk_at "16"
     walk_at "4"
     walk_at "17"
     by_cases hw : way = 8
     · rw [decide_eq_true hw, if_pos rfl]
       have m0 := lenF (x := n) (by omega) (by omega)
       have w1 : (Str.ofString "whole 1 ").length = 8 := by decide +kernel
       have w2 : (Str.ofString " 0").length = 2 := by decide +kernel
       refine ⟨_, SqL.of hp, fun q1 h1 => ⟨m0.2, sz _ (by omega), sz _ (by rw [slen]; omega), sz _ (by decide), fun q2 h2 => cat3 zz1 (zz2 h1 _ _ hp) h2 (Nat.le_trans cl (by decide)) (by simp) (Nat.le_trans ml (by decide)) fun q6 q5 H' s e1 e2 => ?_⟩⟩
       have e0 : Str.ofString "whole 1 " ++ Str.ofString (toString n) ++ Str.ofString " 0" = rowT (.whole 1 n 0) := by
         rw [rowT_whole, show Str.ofString "whole 1 " = Str.ofString "whole " ++ nS 1 ++ Str.ofString " " by decide +kernel, show Str.ofString " 0" = Str.ofString " " ++ nS 0 by decide +kernel]
         simp only [Str.append_assoc]; rfl
       have sm1 : (Row.whole 1 n 0).Small := ⟨by omega, by omega, by omega⟩
       rw [e0] at e2
       by_cases hi0 : i = 0
       · subst hi0
         obtain ⟨rest, er⟩ := hR.first
         have swh := hR.small (.whole W.st W.sz W.en) (by rw [er]; exact List.mem_cons_self)
         refine k q6 q5 ([Row.whole 1 n 0].map rowT ++ rowT (.whole W.st W.sz W.en) :: rest.map rowT) [Row.whole 1 n 0] (rowT (.whole W.st W.sz W.en)) (rest.map rowT) H' ((sm.trans (zz2 h1)).trans s) e1 ?_ ?_ ?_
         · rw [e2]
           refine congrArg (fun z => some (HO.lst z)) ((ins_is (Nat.zero_le _) [rowT (.whole 1 n 0)]).trans ?_)
           rw [er]; rfl
         · have hg := Row.good swh
           refine badAt_of (fun r hr => by rw [List.mem_singleton.mp hr]; exact sm1) (fun j r hr => ?_) ?_ hg.2.1 hg.1 ?_ (hR.tx (l := rest) fun r hr => by rw [er]; exact List.mem_cons_of_mem _ hr) ?_
           · cases j with
             | zero => cases hr; exact ⟨rfl, by decide, by decide, ⟨0, rfl⟩, by omega, by omega, by decide, by omega⟩
             | succ j => cases hr
           · rw [small_split swh]
             exact .again (by intro z; cases z)
           · rw [small_split swh]
             exact fun p hp => Nat.le_trans (Row.part_good swh p hp).1 (by decide)
           · have : rows.length = rest.length + 1 := by rw [er]; rfl
             rw [List.length_map]; simp; omega
         · have : rows.length = rest.length + 1 := by rw [er]; rfl
           simp; omega
       · have st := hR.st (i := i) (by omega) hi
         rw [show (if (i : Int) + 1 > 2 then (i : Int) + 1 else 2) = (i : Int) + 1 by split <;> omega] at e1
         have w3 : (rowT (.whole 1 n 0)).length ≤ 600 := by rw [← e0, slen, slen]; omega
         refine hR.fin1 hi ?_ (Row.good sm1).2.1 w3 k ((sm.trans (zz2 h1)).trans s) e1 e2
         rw [small_split sm1]
         exact .again (by rw [st]; intro z; cases z)
     · rw [decide_eq_false hw, if_neg (by simp)]; exact go
   case os10 =>
     walk_at "11"
     walk_at "rd"
     have rl := hR.len
     walk_at "12"
     walk_at "9"
     walk_at "10"
     walk_at "13"
     walk_at "14"
     have inv := hR.inv i hi
     walk_at "15"
     walk_at "16"
     walk_at "4"
     refine ⟨_, SqL.of hp, fun q1 h1 => ⟨n0, n1, fun z H1 s1 oz => ⟨sz _ (by decide), fun q2 h2 => cat3 (s1 _ _ zz1) (s1 _ _ (zz2 h1 _ _ hp)) h2 (Nat.le_trans cl (by decide)) (by simp) (Nat.le_trans ml (by decide)) fun q6 q5 H' s e1 e2 => ?_⟩⟩⟩
     exact hR.fin1 hi (oz.2.2 _ inv.fine) oz.2.1 oz.1 k (((sm.trans (zz2 h1)).trans s1).trans s) e1 e2
theorem BadAt.ins {ts : List Str} {good : List Row} {b : Str} {rest : List Str} (h : BadAt ts good b rest) (hl : ts.length ≤ 200) {z : Str} (hz : OddT z) {m : Nat} (h1 : good.length + 1 ≤ m) : ∃ rest', BadAt (ts.take m ++ z :: ts.drop m) good b rest' := by
 obtain ⟨d, rfl⟩ : ∃ d, m = good.length + 1 + d := ⟨m - (good.length + 1), by omega⟩
 have e1 : ts.take (good.length + 1 + d) = good.map rowT ++ b :: rest.take d := by
   rw [h.eq, List.take_append, List.take_of_length_le (by rw [List.length_map]; omega), List.length_map, show good.length + 1 + d - good.length = d + 1 by omega]; rfl
 have e2 : ts.drop (good.length + 1 + d) = rest.drop d := by
   rw [h.eq, List.drop_append, List.drop_of_length_le (by rw [List.length_map]; omega), List.length_map, show good.length + 1 + d - good.length = d + 1 by omega]; rfl
 have hm : ∀ t ∈ good.map rowT ++ b :: (rest.take d ++ z :: rest.drop d), t = z ∨ t ∈ ts := fun t ht => by
   rw [h.eq]
   rcases List.mem_append.mp ht with q | q
   · exact .inr (List.mem_append_left _ q)
   · rcases List.mem_cons.mp q with rfl | q
     · exact .inr (List.mem_append_right _ List.mem_cons_self)
     · rcases List.mem_append.mp q with q | q
       · exact .inr (List.mem_append_right _ (List.mem_cons_of_mem _ (List.mem_of_mem_take q)))
       · rcases List.mem_cons.mp q with rfl | q
         · exact .inl rfl
         · exact .inr (List.mem_append_right _ (List.mem_cons_of_mem _ (List.mem_of_mem_drop q)))
 refine ⟨rest.take d ++ z :: rest.drop d, ?_⟩
 rw [e1, e2, List.append_assoc]
 refine ⟨rfl, h.small, h.takes, h.bad, fun t ht => ?_, fun t ht => ?_, ?_, h.bl⟩
 · rcases hm t ht with rfl | q
   · exact hz.2.1
   · exact h.nl t q
 · rcases hm t ht with rfl | q
   · have := hz.1; omega
   · exact h.len t q
 · have := congrArg List.length h.eq
   rw [List.length_append, List.length_map, List.length_cons] at this
   show (good.map rowT ++ b :: (rest.take d ++ z :: rest.drop d)).length ≤ 300
   rw [List.length_append, List.length_map, List.length_cons, List.length_append, List.length_cons, List.length_take, List.length_drop]
   omega
theorem G_qzy (T : Txt w K mg A) : FnOk P w K mg base CX0 9 A.qzy A.fd_qzy ["_law_rows", "_law_size", "_law_cell", "_law_other"] sp_holds := by
 refine T.F_qzy.ok sc_qzy (fun vs H Q E h => ?_) (fun cdv Ar outer s H vs Q E hr h => ?_)
 · obtain ⟨p, rows, W, S, c, o, rfl, _⟩ := h
   rfl
 · obtain ⟨p, rows, W, S, c, o, rfl, hp, hR, k⟩ := h
   refine ⟨_, (zz3 (ps_set (i := 4) sc_qzy.nd rfl (by walk_at "o") (pe_op op_mod (pe_op op_mul (pv 2) pe_int) pe_int)) (zz3 (ps_asg (zz12 (G_qwk T) (hr.mono (by decide)) rfl T.m_qwk T.k_qwk T.b_qwk .nil pass0 (zz0 (pv 0) (zz0 (pv 1) (zz0 (pe_op op_add pe_int (pe_op op_mod (pv 2) pe_int)) (zz0 (pe_op op_mod (pv 3) (pe_op op_add (zz21 (call_lenK (K := K) rfl) (by rfl) T.n_len bt_len (zz0 (pv 0) pa_nil)) pe_int)) (zz0 (pv 4) pa_nil)))))) (pg_tupK (K := K) (n := 2) rfl rfl (pgs_cons (pg_name (i := 5) sc_qzy.nd rfl (by walk_at "o")) (pgs_cons (pg_name (i := 6) sc_qzy.nd rfl (by walk_at "o")) pgs_nil)))) (zz3 (ps_if (zz6 op_eq (pe_op op_mod (pe_op op_fdiv (pv 3) pe_int) pe_int) pe_int (nomark _)) (zz3 (ps_set (i := 7) sc_qzy.nd rfl (by walk_at "o") (pe_op op_add (pv 6) (pe_op op_mod (pe_op op_fdiv (pv 4) pe_int) (pe_op op_sub (pe_op op_add pe_int (zz21 (call_lenK (K := K) rfl) (by rfl) T.n_len bt_len (zz0 (pv 5) pa_nil))) (pv 6))))) (zz5 (ps_set (i := 5) sc_qzy.nd rfl (by walk_at "o") (pe_op (zz9 (K := K) rfl) (pe_op (zz9 (K := K) rfl) (zz13 (zz19 (K := K) rfl) (pv 5) zz18 (zz15 (pv 7))) (pe_lst (zz0 (zz12 (G_qwj T) (hr.mono (by decide)) rfl T.m_qwj T.k_qwj T.b_qwj .nil pass0 (zz0 (pe_op op_fdiv (pv 4) pe_int) pa_nil)) pa_nil))) (zz13 (zz19 (K := K) rfl) (pv 5) (zz15 (pv 7)) zz18))))) zz8) (zz11 (u := oH) (zz5 (ps_ret (zz12 (G_qwx T) (hr.mono (by decide)) rfl T.m_qwx T.k_qwx T.b_qwx .nil pass0 (zz0 (zz12 (G_qwy T) (hr.mono (by decide)) rfl T.m_qwy T.k_qwy T.b_qwy .nil pass0 (zz0 (pe_bm PySem.F.plainAttrs_str PySem.F.slot_str_join PySem.F.type_str_join (mt_joinK (K := K) rfl) pe_str (zz0 (pv 5) pa_nil)) pa_nil)) (zz0 (pv 6) pa_nil))))) ?oh)))), ?main⟩
   case main =>
     walk_at "rd"
     have rl := hR.len
     have n0 : 0 ≤ c * 1583458089 % 2147483647 := by omega
     have n1 : c * 1583458089 % 2147483647 ≤ 2147483647 := by omega
     generalize c * 1583458089 % 2147483647 = n at n0 n1
     have o0 := Int.emod_nonneg o (show (rows.length : Int) + 1 ≠ 0 by omega)
     have o1 := Int.emod_lt_of_pos o (show 0 < (rows.length : Int) + 1 by omega)
     refine ⟨.inr ⟨by decide, by decide⟩, by decide, by decide, rows.length, .inl ⟨_, SqL.of hp, by rw [List.length_map]⟩, by omega, rows, W, rfl, hp, S, hR, o0, by omega, n0, n1, fun q l ts good b rest H1 s1 hq hl hB hn => ⟨_, SqT.of hq, rfl, _, _, rfl, _, _, rfl, rfl, ⟨by decide, by decide⟩, by decide, ?_⟩⟩
     have ht : good.length + 1 ≤ ts.length := by
       rw [hB.eq, List.length_append, List.length_map, List.length_cons]; omega
     refine ite2 (fun _ => ?_) fun _ => ⟨H, _, _, _, _, _, _, l, ts, good, b, rest, rfl, hl, hB, Nat.le_succ_of_le hn, s1, k⟩
     walk_at "4"
     have d0 : 0 < 1 + (ts.length : Int) - ((good.length : Int) + 1) := by omega
     have e0 := Int.emod_nonneg (n / 3) (show 1 + (ts.length : Int) - ((good.length : Int) + 1) ≠ 0 by omega)
     have e1 := Int.emod_lt_of_pos (n / 3) d0
     refine ⟨⟨by decide, by decide⟩, ts.length, .inl ⟨_, SqL.of hl, by rw [List.length_map]⟩, _, rfl, d0, _, rfl, _, rfl, _, SqL.of hl, fun p1 h1 => ⟨⟨by decide, by decide⟩, by omega, by omega, fun z H2 s2 oz => ?_⟩⟩
     generalize n / 3 % (1 + (ts.length : Int) - ((good.length : Int) + 1)) = d at e0 e1 s2 ⊢
     obtain ⟨d, rfl⟩ := Int.eq_ofNat_of_zero_le e0
     have hm : good.length + 1 + d ≤ ts.length := by omega
     have em : (good.length : Int) + 1 + (d : Int) = ((good.length + 1 + d : Nat) : Int) := by omega
     rw [em] at s2 ⊢
     have ml : (ts.map V.str).length ≤ 200 := by rw [List.length_map]; exact hn
     have c1 := cut_to (xs := ts.map V.str) (i := good.length + 1 + d) (by rw [List.length_map]; exact hm)
     have c2 := cut_from (xs := ts.map V.str) (i := good.length + 1 + d) (by rw [List.length_map]; exact hm)
     rw [c1] at s2
     have l1 : ((ts.map V.str).take (good.length + 1 + d)).length ≤ 200 := by rw [List.length_take]; omega
     have l2 : ((ts.map V.str).drop (good.length + 1 + d)).length ≤ 200 := by rw [List.length_drop]; omega
     have s12 := (zz2 (o := HO.lst ((ts.map V.str).take (good.length + 1 + d))) h1).trans s2
     refine ⟨sz _ (by decide), fun p2 h2 => ⟨_, SqL.of (zz2 h2 _ _ (s2 _ _ zz1)), _, SqL.of zz1, sz _ (by show _ + 1 ≤ _; omega), fun p3 h3 => ⟨_, rfl, _, SqL.of (zz2 h3 _ _ (zz2 h2 _ _ (s12 _ _ hl))), fun p4 h4 => ?_⟩⟩⟩
     rw [c2]
     refine ⟨_, SqL.of (zz2 h4 _ _ zz1), _, SqL.of zz1, sz _ (by rw [List.length_append]; show _ + 1 + _ ≤ _; omega), fun p5 h5 => ?_⟩
     obtain ⟨rest', hB'⟩ := hB.ins hn oz (m := good.length + 1 + d) (by omega)
     refine ⟨H, _, _, _, _, _, _, p5, _, good, b, rest', rfl, ?_, hB', ?_, s1.trans ((((s12.trans (zz2 h2)).trans (zz2 h3)).trans (zz2 h4)).trans (zz2 h5)), k⟩
     · rw [zz1, List.map_append, List.map_cons, List.map_take, List.map_drop, List.append_assoc]; rfl
     · rw [List.length_append, List.length_cons, List.length_take, List.length_drop]; omega
   case oh =>
     rintro D σ H ⟨H0, b0, b1, b2, b3, b4, b7, l, ts, good, b, rest, rfl, hl, hB, hn, sm, k⟩
     walk_at "rd"
     refine ⟨rfl, ts, SqL.of hl, joinOk_of hB.len ?_, ts, rfl, good, b, rest, hB, fun a d H' s1 ha hd => ⟨d, ha, hd, fun H2 s2 => k H2 ((sm.trans s1).trans s2)⟩⟩
     rw [show (Str.ofString "\n").length = 1 by decide +kernel]; omega
theorem shw_of {H : Hp} {F W : Whl} {S2 S : BS} {rows : List Row} (hR : RowsOk rows W S) (hrr : ∀ l ∈ S.ls, isR l.r ∧ -9999999999 ≤ l.t ∧ l.t ≤ 9999999999) (al : Alike F W S2 S)
   (top : H F.t = some (.tup [.int F.st, .int F.sz, .int F.en, .ref S2.a, .ref S2.b])) (pm : PM H S2.a S2.ps) (lm : LM H S2.b S2.ls) (n2 : S2.ls.length ≤ 500) : Shw H F S2 ∧ txtOf F S2 = Txt.join (Str.ofString "\n") (rows.map rowT) := by
 have e : rowsOf F.st F.sz F.en (S2.ps.map Prt.core) (S2.ls.map Ln.core) = rows := by rw [al.st, al.sz, al.en, al.ps, al.ls]; exact hR.rowsOf.symm
 refine ⟨⟨top, pm, lm, by rw [e]; exact hR.small, by rw [e]; have := hR.len; omega, fun l hl => ?_, n2⟩, by unfold txtOf; rw [e]⟩
 have hm : l.core ∈ S.ls.map Ln.core := by rw [← al.ls]; exact List.mem_map.mpr ⟨l, hl, rfl⟩
 obtain ⟨y, hy, ey⟩ := List.mem_map.mp hm
 have := hrr y hy
 have e1 : y.r = l.r := congrArg (fun z => z.2.1) ey
 have e2 : y.t = l.t := congrArg (fun z => z.2.2) ey
 rw [e1, e2] at this
 exact this
theorem cut6 (ns : List Int) (h : ns.length ≤ 63) : ∃ ms : List Int, cutV (ns.map V.int) (some 6) none = ms.map V.int ∧ ms.length ≤ 63 := by
 refine ⟨(ns.drop (HT.sIx (ns.map V.int).length 0 (some 6))).take (HT.sIx (ns.map V.int).length (ns.map V.int).length none - HT.sIx (ns.map V.int).length 0 (some 6)), ?_, ?_⟩
 · unfold cutV
   rw [List.map_take, List.map_drop]
 · rw [List.length_take, List.length_drop]; omega
theorem G_law (T : Txt w K mg A) : FnOk P w K mg base CX0 12 A.law A.fd_law ["_law_script"] (sp_law K) := by
 refine T.F_law.ok sc_law (fun vs H Q E h => ?_) (fun cdv Ar outer s H vs Q E hr h => ?_)
 · obtain ⟨a, ns, rfl, _⟩ := h
   rfl
 · obtain ⟨a, ns, rfl, hS, hl, k⟩ := h
   refine ⟨_, (zz3 (ps_asg (zz12 (G_qzz T) (hr.mono (by decide)) rfl T.m_qzz T.k_qzz T.b_qzz .nil pass0 (zz0 (zz13 (zz19 (K := K) rfl) (pv 0) (zz15 pe_int) zz18) (zz0 pe_int pa_nil))) (pg_tupK (K := K) (n := 2) rfl rfl (pgs_cons (pg_name (i := 1) sc_law.nd rfl (by walk_at "o")) (pgs_cons (pg_name (i := 2) sc_law.nd rfl (by walk_at "o")) pgs_nil)))) (zz3 (ps_set (i := 3) sc_law.nd rfl (by walk_at "o") (pe_bm PySem.F.plainAttrs_str PySem.F.slot_str_join PySem.F.type_str_join (mt_joinK (K := K) rfl) pe_str (zz0 (pv 1) pa_nil))) (zz3 (ps_if (zz6 op_ne (zz12 (G_qzq T) (hr.mono (by decide)) rfl T.m_qzq T.k_qzq T.b_qzq .nil pass0 (zz0 (zz12 (G_qzx T) (hr.mono (by decide)) rfl T.m_qzx T.k_qzx T.b_qzx .nil pass0E (zz0 (pv 3) pa_nil)) pa_nil)) (pv 3) (nomark _)) (zz5 (ps_ret pe_bl)) zz8) (zz3 (ps_for PassesOwn.never rfl (pi_range1 rfl T.n_range (zz0 pe_int pa_nil)) (pg_name (i := 4) sc_law.nd rfl (by walk_at "o")) (zz5 (ps_if (pt_not (pt_val (zz12 (G_qzy T) (hr.mono (by decide)) rfl T.m_qzy T.k_qzy T.b_qzy .nil pass0 (zz0 (pv 1) (zz0 (pe_ix (ix_tupK (K := K) rfl) (pv 2) pe_int (fun _ _ => rfl)) (zz0 (zz12 (G_qwz T) (hr.mono (by decide)) rfl T.m_qwz T.k_qwz T.b_qwz .nil pass0 (zz0 (pv 0) (zz0 (pe_op op_mul pe_int (pv 4)) pa_nil))) (zz0 (zz12 (G_qwz T) (hr.mono (by decide)) rfl T.m_qwz T.k_qwz T.b_qwz .nil pass0 (zz0 (pv 0) (zz0 (pe_op op_add (pe_op op_mul pe_int (pv 4)) pe_int) pa_nil))) pa_nil))))))) (zz5 (ps_ret pe_bl)) zz8))) (zz5 (ps_ret (pe_cmpR (op_eqDK hr.units (K := K) rfl) (zz12 (G_qzx T) (hr.mono (by decide)) rfl T.m_qzx T.k_qzx T.b_qzx .nil pass0E (zz0 (pv 3) pa_nil)) (pv 2) (nomark _)))))))), ?_⟩
   walk_at "rd"
   obtain ⟨ms, em, lm⟩ := cut6 ns hl
   refine ⟨_, hS, fun p0 h0 => ?_⟩
   rw [em]
   refine ⟨ms, SqL.of zz1, lm, by decide, by decide, fun q pr rows W S H1 s1 hq hpr hW hn hR => ⟨_, SqT.of hq, rfl, _, _, rfl, _, _, rfl, rfl, rfl, _, rfl, rows.map rowT, by rw [List.map_map]; exact SqL.of hpr, hR.text.1, .inl ⟨rows, rfl, hR.ne, by have := hR.len; omega, hR.small, hR.takes, fun q2 R H2 s2 hq2 O => ?_⟩⟩⟩
   obtain ⟨F, S2, rfl, hF, al⟩ := hR.alike O hq2
   have hrr : ∀ l ∈ S.ls, isR l.r ∧ -9999999999 ≤ l.t ∧ l.t ≤ 9999999999 := fun l hl => ⟨(hW.bok.rr l hl).1, (hW.bok.rr l hl).2.1, (hW.bok.rr l hl).2.2.1⟩
   have n2F : S2.ls.length ≤ 500 := Nat.le_trans hF.n2 (by decide)
   obtain ⟨shw2, et2⟩ := shw_of hR hrr al hF.top hF.pm hF.lm n2F
   refine ⟨F, rfl, S2, shw2, fun H3 s3 => ?_⟩
   rw [et2, if_neg (by simp)]
   have s13 := s2.trans s3
   have S0 : Same H H3 := ((zz2 h0).trans s1).trans s13
   refine ForR.of (n := 3) (by decide) (by decide) (fun i σ H' => ∃ b4 : Option V, σ = [some (.ref a), some (.ref pr), some (.ref W.t), some (.str (Txt.join (Str.ofString "\n") (rows.map rowT))), b4] ∧ Same H3 H') ⟨_, rfl, Same.refl _⟩ ?_ ?_
   · rintro i σ H' hi ⟨b4, rfl, sm⟩
     walk_at "rd"
     have hi3 : i < 3 := hi
     refine ⟨_, SqT.of (sm _ _ (s13 _ _ hW.top)), _, rfl, .inl ⟨by decide, by decide⟩, ns, (S0.trans sm).seq hS, by omega, fun m1 => ⟨.inl ⟨by decide, by decide⟩, ns, (S0.trans sm).seq hS, by omega, fun m2 => ⟨rows, W, rfl, sm _ _ (s13 _ _ hpr), S, hR, fun H4 s4 => sm.trans s4⟩⟩⟩
   · rintro σ H' ⟨b4, rfl, sm⟩
     walk_at "rd"
     refine .inl ⟨rows, rfl, hR.ne, by have := hR.len; omega, hR.small, hR.takes, fun q3 R3 H4 s4 hq3 O3 => ?_⟩
     obtain ⟨F3, S3, rfl, hF3, al3⟩ := hR.alike O3 hq3
     have s14 := (s13.trans sm).trans s4
     refine ⟨wholeD F3 S3, wholeD W S, .inr ⟨rep_whole hF3.top hF3.pm hF3.lm, rep_whole (s14 _ _ hW.top) (hW.bok.pm.mono s14) (hW.bok.lm.mono s14)⟩, dep_wholeD _ _, ?_⟩
     rw [al3.d, deqL_refl]
     exact k _
end
@[elab_as_elim] theorem len1 {α : Type} {p : List α → Prop} (us : List α) (h : us.length = 1) (f : ∀ a, p [a]) : p us := by
 match us, h with | [a], _ => exact f a
@[elab_as_elim] theorem len2 {α : Type} {p : List α → Prop} (us : List α) (h : us.length = 2) (f : ∀ a b, p [a, b]) : p us := by
 match us, h with | [a, b], _ => exact f a b
@[elab_as_elim] theorem len3 {α : Type} {p : List α → Prop} (us : List α) (h : us.length = 3) (f : ∀ a b c, p [a, b, c]) : p us := by
 match us, h with | [a, b, c], _ => exact f a b c
@[elab_as_elim] theorem len4 {α : Type} {p : List α → Prop} (us : List α) (h : us.length = 4) (f : ∀ a b c d, p [a, b, c, d]) : p us := by
 match us, h with | [a, b, c, d], _ => exact f a b c d
@[elab_as_elim] theorem len5 {α : Type} {p : List α → Prop} (us : List α) (h : us.length = 5) (f : ∀ a b c d e, p [a, b, c, d, e]) : p us := by
 match us, h with | [a, b, c, d, e], _ => exact f a b c d e
theorem all_mk {l : PySem.W.OpenLaw} {w : World} {K : PySem.W.Frag} {h : Heap} {mg : Str → Option Value} {fa f_qqj f_qzv f_qyy f_qzq f_qzj f_qzx f_qqx f_qqk f_qqq f_qqz f_qqy f_qqw f_qzw f_qwz f_qww f_qyq f_qyw f_qzz f_qwj f_qwq f_qqv f_qwk f_qwy f_qwx f_qzy f_law C_qzk C_Lost C_qyv C_qyj C_qxq C_qyk C_qyx C_qyz C_qxw C_qxz C_qxy C_qwv o_LEANING_RULES o_HOW_MANY_PARTS : Addr} {t_FIGURES k_LEANING_RULES_0 k_LEANING_RULES_1 k_LEANING_RULES_2 k_HOW_MANY_PARTS_0 v_HOW_MANY_PARTS_0 k_HOW_MANY_PARTS_1 v_HOW_MANY_PARTS_1 k_HOW_MANY_PARTS_2 v_HOW_MANY_PARTS_2 k_HOW_MANY_PARTS_3 v_HOW_MANY_PARTS_3 : Tok} (X : K.In h) (G : h.Ns mainGlobals mg) (hfa : mg "law" = some (.ref fa))
   {od_LEANING_RULES : Option Addr} {n_LEANING_RULES : Nat} {sl_LEANING_RULES : Array (Option Value)}
   {n_HOW_MANY_PARTS : Nat}
   {od_qqj an_qqj : Option Addr} {sl_qqj : Array (Option Value)} {oc_qqj kV_qqj dc_qqj pm_qqj cd_qqj ct_qqj : Value}
   {od_qzv an_qzv : Option Addr} {sl_qzv : Array (Option Value)} {oc_qzv kV_qzv dc_qzv pm_qzv cd_qzv ct_qzv : Value}
   {od_qyy an_qyy : Option Addr} {sl_qyy : Array (Option Value)} {oc_qyy kV_qyy dc_qyy pm_qyy cd_qyy ct_qyy : Value}
   {od_qzq an_qzq : Option Addr} {sl_qzq : Array (Option Value)} {oc_qzq kV_qzq dc_qzq pm_qzq cd_qzq ct_qzq : Value}
   {od_qzj an_qzj : Option Addr} {sl_qzj : Array (Option Value)} {oc_qzj kV_qzj dc_qzj pm_qzj cd_qzj ct_qzj : Value}
   {od_qzx an_qzx : Option Addr} {sl_qzx : Array (Option Value)} {oc_qzx kV_qzx dc_qzx pm_qzx cd_qzx ct_qzx : Value}
   {od_qqx an_qqx : Option Addr} {sl_qqx : Array (Option Value)} {oc_qqx kV_qqx dc_qqx pm_qqx cd_qqx ct_qqx : Value}
   {od_qqk an_qqk : Option Addr} {sl_qqk : Array (Option Value)} {oc_qqk kV_qqk dc_qqk pm_qqk cd_qqk ct_qqk : Value}
   {od_qqq an_qqq : Option Addr} {sl_qqq : Array (Option Value)} {oc_qqq kV_qqq dc_qqq pm_qqq cd_qqq ct_qqq : Value}
   {od_qqz an_qqz : Option Addr} {sl_qqz : Array (Option Value)} {oc_qqz kV_qqz dc_qqz pm_qqz cd_qqz ct_qqz : Value}
   {od_qqy an_qqy : Option Addr} {sl_qqy : Array (Option Value)} {oc_qqy kV_qqy dc_qqy pm_qqy cd_qqy ct_qqy : Value}
   {od_qqw an_qqw : Option Addr} {sl_qqw : Array (Option Value)} {oc_qqw kV_qqw dc_qqw pm_qqw cd_qqw ct_qqw : Value}
   {od_qzw an_qzw : Option Addr} {sl_qzw : Array (Option Value)} {oc_qzw kV_qzw dc_qzw pm_qzw cd_qzw ct_qzw : Value}
   {od_qwz an_qwz : Option Addr} {sl_qwz : Array (Option Value)} {oc_qwz kV_qwz dc_qwz pm_qwz cd_qwz ct_qwz : Value}
   {od_qww an_qww : Option Addr} {sl_qww : Array (Option Value)} {oc_qww kV_qww dc_qww pm_qww cd_qww ct_qww : Value}
   {od_qyq an_qyq : Option Addr} {sl_qyq : Array (Option Value)} {oc_qyq kV_qyq dc_qyq pm_qyq cd_qyq ct_qyq : Value}
   {od_qyw an_qyw : Option Addr} {sl_qyw : Array (Option Value)} {oc_qyw kV_qyw dc_qyw pm_qyw cd_qyw ct_qyw : Value}
   {od_qzz an_qzz : Option Addr} {sl_qzz : Array (Option Value)} {oc_qzz kV_qzz dc_qzz pm_qzz cd_qzz ct_qzz : Value}
   {od_qwj an_qwj : Option Addr} {sl_qwj : Array (Option Value)} {oc_qwj kV_qwj dc_qwj pm_qwj cd_qwj ct_qwj : Value}
   {od_qwq an_qwq : Option Addr} {sl_qwq : Array (Option Value)} {oc_qwq kV_qwq dc_qwq pm_qwq cd_qwq ct_qwq : Value}
   {od_qqv an_qqv : Option Addr} {sl_qqv : Array (Option Value)} {oc_qqv kV_qqv dc_qqv pm_qqv cd_qqv ct_qqv : Value}
   {od_qwk an_qwk : Option Addr} {sl_qwk : Array (Option Value)} {oc_qwk kV_qwk dc_qwk pm_qwk cd_qwk ct_qwk : Value}
   {od_qwy an_qwy : Option Addr} {sl_qwy : Array (Option Value)} {oc_qwy kV_qwy dc_qwy pm_qwy cd_qwy ct_qwy : Value}
   {od_qwx an_qwx : Option Addr} {sl_qwx : Array (Option Value)} {oc_qwx kV_qwx dc_qwx pm_qwx cd_qwx ct_qwx : Value}
   {od_qzy an_qzy : Option Addr} {sl_qzy : Array (Option Value)} {oc_qzy kV_qzy dc_qzy pm_qzy cd_qzy ct_qzy : Value}
   {od_law an_law : Option Addr} {sl_law : Array (Option Value)} {oc_law kV_law dc_law pm_law cd_law ct_law : Value}
   (ac_qzk : PySem.W.nsIn K mainGlobals "JoinError" = some (some (.ref C_qzk)))
   (ac_Lost : PySem.W.nsIn K mainGlobals "Lost" = some (some (.ref C_Lost)))
   (ac_qyv : PySem.W.nsIn K mainGlobals "NoBase" = some (some (.ref C_qyv)))
   (ac_qyj : PySem.W.nsIn K mainGlobals "NoPiece" = some (some (.ref C_qyj)))
   (ac_qxq : PySem.W.nsIn K mainGlobals "NoRule" = some (some (.ref C_qxq)))
   (ac_qyk : PySem.W.nsIn K mainGlobals "NoSense" = some (some (.ref C_qyk)))
   (ac_qyx : PySem.W.nsIn K mainGlobals "NoWhole" = some (some (.ref C_qyx)))
   (ac_qyz : PySem.W.nsIn K mainGlobals "SameName" = some (some (.ref C_qyz)))
   (ac_qxw : PySem.W.nsIn K mainGlobals "TooFar" = some (some (.ref C_qxw)))
   (ac_qxz : PySem.W.nsIn K mainGlobals "Twice" = some (some (.ref C_qxz)))
   (ac_qxy : PySem.W.nsIn K mainGlobals "Unmet" = some (some (.ref C_qxy)))
   (ac_qwv : PySem.W.nsIn K mainGlobals "WholeReading" = some (some (.ref C_qwv)))
   (a_qqj : PySem.W.findIn K (.ref C_qyx) "__init__" = some (some (.ref f_qqj)))
   (i_qqj : PySem.W.isFn K (.ref f_qqj) = true)
   (l_qqj : K.lookup f_qqj = some ⟨oc_qqj, od_qqj, .func (PySem.W.fnOf "__init__" "NoWhole.__init__" (defArgs s_qqj) (defBody s_qqj) (defScope s_qqj) .none kV_qqj dc_qqj pm_qqj an_qqj cd_qqj ct_qqj), sl_qqj⟩)
   (e_qqj : PySem.W.codeIn K cd_qqj "NoWhole.__init__" = true)
   (k_qqj : PySem.W.keepIn K (.ref f_qqj) = true)
   (a_qzv : PySem.W.nsIn K mainGlobals "number_of" = some (some (.ref f_qzv)))
   (l_qzv : K.lookup f_qzv = some ⟨oc_qzv, od_qzv, .func (PySem.W.fnOf "number_of" "number_of" (defArgs s_qzv) (defBody s_qzv) (defScope s_qzv) .none kV_qzv dc_qzv pm_qzv an_qzv cd_qzv ct_qzv), sl_qzv⟩)
   (e_qzv : PySem.W.codeIn K cd_qzv "number_of" = true)
   (k_qzv : PySem.W.keepIn K (.ref f_qzv) = true)
   (a_qyy : PySem.W.nsIn K mainGlobals "step_in" = some (some (.ref f_qyy)))
   (l_qyy : K.lookup f_qyy = some ⟨oc_qyy, od_qyy, .func (PySem.W.fnOf "step_in" "step_in" (defArgs s_qyy) (defBody s_qyy) (defScope s_qyy) .none kV_qyy dc_qyy pm_qyy an_qyy cd_qyy ct_qyy), sl_qyy⟩)
   (e_qyy : PySem.W.codeIn K cd_qyy "step_in" = true)
   (k_qyy : PySem.W.keepIn K (.ref f_qyy) = true)
   (a_qzq : PySem.W.nsIn K mainGlobals "shown_whole" = some (some (.ref f_qzq)))
   (l_qzq : K.lookup f_qzq = some ⟨oc_qzq, od_qzq, .func (PySem.W.fnOf "shown_whole" "shown_whole" (defArgs s_qzq) (defBody s_qzq) (defScope s_qzq) .none kV_qzq dc_qzq pm_qzq an_qzq cd_qzq ct_qzq), sl_qzq⟩)
   (e_qzq : PySem.W.codeIn K cd_qzq "shown_whole" = true)
   (k_qzq : PySem.W.keepIn K (.ref f_qzq) = true)
   (a_qzj : PySem.W.nsIn K mainGlobals "lean_rows" = some (some (.ref f_qzj)))
   (l_qzj : K.lookup f_qzj = some ⟨oc_qzj, od_qzj, .func (PySem.W.fnOf "lean_rows" "lean_rows" (defArgs s_qzj) (defBody s_qzj) (defScope s_qzj) .none kV_qzj dc_qzj pm_qzj an_qzj cd_qzj ct_qzj), sl_qzj⟩)
   (e_qzj : PySem.W.codeIn K cd_qzj "lean_rows" = true)
   (k_qzj : PySem.W.keepIn K (.ref f_qzj) = true)
   (a_qzx : PySem.W.nsIn K mainGlobals "read_whole" = some (some (.ref f_qzx)))
   (l_qzx : K.lookup f_qzx = some ⟨oc_qzx, od_qzx, .func (PySem.W.fnOf "read_whole" "read_whole" (defArgs s_qzx) (defBody s_qzx) (defScope s_qzx) .none kV_qzx dc_qzx pm_qzx an_qzx cd_qzx ct_qzx), sl_qzx⟩)
   (e_qzx : PySem.W.codeIn K cd_qzx "read_whole" = true)
   (k_qzx : PySem.W.keepIn K (.ref f_qzx) = true)
   (a_qqx : PySem.W.findIn K (.ref C_qwv) "__init__" = some (some (.ref f_qqx)))
   (i_qqx : PySem.W.isFn K (.ref f_qqx) = true)
   (l_qqx : K.lookup f_qqx = some ⟨oc_qqx, od_qqx, .func (PySem.W.fnOf "__init__" "WholeReading.__init__" (defArgs s_qqx) (defBody s_qqx) (defScope s_qqx) .none kV_qqx dc_qqx pm_qqx an_qqx cd_qqx ct_qqx), sl_qqx⟩)
   (e_qqx : PySem.W.codeIn K cd_qqx "WholeReading.__init__" = true)
   (k_qqx : PySem.W.keepIn K (.ref f_qqx) = true)
   (a_qqk : PySem.W.findIn K (.ref C_qwv) "takes" = some (some (.ref f_qqk)))
   (i_qqk : PySem.W.isFn K (.ref f_qqk) = true)
   (l_qqk : K.lookup f_qqk = some ⟨oc_qqk, od_qqk, .func (PySem.W.fnOf "takes" "WholeReading.takes" (defArgs s_qqk) (defBody s_qqk) (defScope s_qqk) .none kV_qqk dc_qqk pm_qqk an_qqk cd_qqk ct_qqk), sl_qqk⟩)
   (e_qqk : PySem.W.codeIn K cd_qqk "WholeReading.takes" = true)
   (k_qqk : PySem.W.keepIn K (.ref f_qqk) = true)
   (a_qqq : PySem.W.findIn K (.ref C_qwv) "takes_whole" = some (some (.ref f_qqq)))
   (i_qqq : PySem.W.isFn K (.ref f_qqq) = true)
   (l_qqq : K.lookup f_qqq = some ⟨oc_qqq, od_qqq, .func (PySem.W.fnOf "takes_whole" "WholeReading.takes_whole" (defArgs s_qqq) (defBody s_qqq) (defScope s_qqq) .none kV_qqq dc_qqq pm_qqq an_qqq cd_qqq ct_qqq), sl_qqq⟩)
   (e_qqq : PySem.W.codeIn K cd_qqq "WholeReading.takes_whole" = true)
   (k_qqq : PySem.W.keepIn K (.ref f_qqq) = true)
   (a_qqz : PySem.W.findIn K (.ref C_qwv) "takes_part" = some (some (.ref f_qqz)))
   (i_qqz : PySem.W.isFn K (.ref f_qqz) = true)
   (l_qqz : K.lookup f_qqz = some ⟨oc_qqz, od_qqz, .func (PySem.W.fnOf "takes_part" "WholeReading.takes_part" (defArgs s_qqz) (defBody s_qqz) (defScope s_qqz) .none kV_qqz dc_qqz pm_qqz an_qqz cd_qqz ct_qqz), sl_qqz⟩)
   (e_qqz : PySem.W.codeIn K cd_qqz "WholeReading.takes_part" = true)
   (k_qqz : PySem.W.keepIn K (.ref f_qqz) = true)
   (a_qqy : PySem.W.findIn K (.ref C_qwv) "takes_word" = some (some (.ref f_qqy)))
   (i_qqy : PySem.W.isFn K (.ref f_qqy) = true)
   (l_qqy : K.lookup f_qqy = some ⟨oc_qqy, od_qqy, .func (PySem.W.fnOf "takes_word" "WholeReading.takes_word" (defArgs s_qqy) (defBody s_qqy) (defScope s_qqy) .none kV_qqy dc_qqy pm_qqy an_qqy cd_qqy ct_qqy), sl_qqy⟩)
   (e_qqy : PySem.W.codeIn K cd_qqy "WholeReading.takes_word" = true)
   (k_qqy : PySem.W.keepIn K (.ref f_qqy) = true)
   (a_qqw : PySem.W.findIn K (.ref C_qwv) "takes_lean" = some (some (.ref f_qqw)))
   (i_qqw : PySem.W.isFn K (.ref f_qqw) = true)
   (l_qqw : K.lookup f_qqw = some ⟨oc_qqw, od_qqw, .func (PySem.W.fnOf "takes_lean" "WholeReading.takes_lean" (defArgs s_qqw) (defBody s_qqw) (defScope s_qqw) .none kV_qqw dc_qqw pm_qqw an_qqw cd_qqw ct_qqw), sl_qqw⟩)
   (e_qqw : PySem.W.codeIn K cd_qqw "WholeReading.takes_lean" = true)
   (k_qqw : PySem.W.keepIn K (.ref f_qqw) = true)
   (a_qzw : PySem.W.nsIn K mainGlobals "_law_whole" = some (some (.ref f_qzw)))
   (l_qzw : K.lookup f_qzw = some ⟨oc_qzw, od_qzw, .func (PySem.W.fnOf "_law_whole" "_law_whole" (defArgs s_qzw) (defBody s_qzw) (defScope s_qzw) .none kV_qzw dc_qzw pm_qzw an_qzw cd_qzw ct_qzw), sl_qzw⟩)
   (e_qzw : PySem.W.codeIn K cd_qzw "_law_whole" = true)
   (k_qzw : PySem.W.keepIn K (.ref f_qzw) = true)
   (a_qwz : PySem.W.nsIn K mainGlobals "_law_cell_at" = some (some (.ref f_qwz)))
   (l_qwz : K.lookup f_qwz = some ⟨oc_qwz, od_qwz, .func (PySem.W.fnOf "_law_cell_at" "_law_cell_at" (defArgs s_qwz) (defBody s_qwz) (defScope s_qwz) .none kV_qwz dc_qwz pm_qwz an_qwz cd_qwz ct_qwz), sl_qwz⟩)
   (e_qwz : PySem.W.codeIn K cd_qwz "_law_cell_at" = true)
   (k_qwz : PySem.W.keepIn K (.ref f_qwz) = true)
   (a_qww : PySem.W.nsIn K mainGlobals "_law_target_by" = some (some (.ref f_qww)))
   (l_qww : K.lookup f_qww = some ⟨oc_qww, od_qww, .func (PySem.W.fnOf "_law_target_by" "_law_target_by" (defArgs s_qww) (defBody s_qww) (defScope s_qww) .none kV_qww dc_qww pm_qww an_qww cd_qww ct_qww), sl_qww⟩)
   (e_qww : PySem.W.codeIn K cd_qww "_law_target_by" = true)
   (k_qww : PySem.W.keepIn K (.ref f_qww) = true)
   (a_qyq : PySem.W.nsIn K mainGlobals "_law_put" = some (some (.ref f_qyq)))
   (l_qyq : K.lookup f_qyq = some ⟨oc_qyq, od_qyq, .func (PySem.W.fnOf "_law_put" "_law_put" (defArgs s_qyq) (defBody s_qyq) (defScope s_qyq) .none kV_qyq dc_qyq pm_qyq an_qyq cd_qyq ct_qyq), sl_qyq⟩)
   (e_qyq : PySem.W.codeIn K cd_qyq "_law_put" = true)
   (k_qyq : PySem.W.keepIn K (.ref f_qyq) = true)
   (a_qyw : PySem.W.nsIn K mainGlobals "_law_end" = some (some (.ref f_qyw)))
   (l_qyw : K.lookup f_qyw = some ⟨oc_qyw, od_qyw, .func (PySem.W.fnOf "_law_end" "_law_end" (defArgs s_qyw) (defBody s_qyw) (defScope s_qyw) .none kV_qyw dc_qyw pm_qyw an_qyw cd_qyw ct_qyw), sl_qyw⟩)
   (e_qyw : PySem.W.codeIn K cd_qyw "_law_end" = true)
   (k_qyw : PySem.W.keepIn K (.ref f_qyw) = true)
   (a_qzz : PySem.W.nsIn K mainGlobals "_law_built" = some (some (.ref f_qzz)))
   (l_qzz : K.lookup f_qzz = some ⟨oc_qzz, od_qzz, .func (PySem.W.fnOf "_law_built" "_law_built" (defArgs s_qzz) (defBody s_qzz) (defScope s_qzz) .none kV_qzz dc_qzz pm_qzz an_qzz cd_qzz ct_qzz), sl_qzz⟩)
   (e_qzz : PySem.W.codeIn K cd_qzz "_law_built" = true)
   (k_qzz : PySem.W.keepIn K (.ref f_qzz) = true)
   (a_qwj : PySem.W.nsIn K mainGlobals "_law_odd_row" = some (some (.ref f_qwj)))
   (l_qwj : K.lookup f_qwj = some ⟨oc_qwj, od_qwj, .func (PySem.W.fnOf "_law_odd_row" "_law_odd_row" (defArgs s_qwj) (defBody s_qwj) (defScope s_qwj) .none kV_qwj dc_qwj pm_qwj an_qwj cd_qwj ct_qwj), sl_qwj⟩)
   (e_qwj : PySem.W.codeIn K cd_qwj "_law_odd_row" = true)
   (k_qwj : PySem.W.keepIn K (.ref f_qwj) = true)
   (a_qwq : PySem.W.nsIn K mainGlobals "_law_odd_first" = some (some (.ref f_qwq)))
   (l_qwq : K.lookup f_qwq = some ⟨oc_qwq, od_qwq, .func (PySem.W.fnOf "_law_odd_first" "_law_odd_first" (defArgs s_qwq) (defBody s_qwq) (defScope s_qwq) .none kV_qwq dc_qwq pm_qwq an_qwq cd_qwq ct_qwq), sl_qwq⟩)
   (e_qwq : PySem.W.codeIn K cd_qwq "_law_odd_first" = true)
   (k_qwq : PySem.W.keepIn K (.ref f_qwq) = true)
   (a_qqv : PySem.W.nsIn K mainGlobals "_law_end_behind" = some (some (.ref f_qqv)))
   (l_qqv : K.lookup f_qqv = some ⟨oc_qqv, od_qqv, .func (PySem.W.fnOf "_law_end_behind" "_law_end_behind" (defArgs s_qqv) (defBody s_qqv) (defScope s_qqv) .none kV_qqv dc_qqv pm_qqv an_qqv cd_qqv ct_qqv), sl_qqv⟩)
   (e_qqv : PySem.W.codeIn K cd_qqv "_law_end_behind" = true)
   (k_qqv : PySem.W.keepIn K (.ref f_qqv) = true)
   (a_qwk : PySem.W.nsIn K mainGlobals "_law_spoiled" = some (some (.ref f_qwk)))
   (l_qwk : K.lookup f_qwk = some ⟨oc_qwk, od_qwk, .func (PySem.W.fnOf "_law_spoiled" "_law_spoiled" (defArgs s_qwk) (defBody s_qwk) (defScope s_qwk) .none kV_qwk dc_qwk pm_qwk an_qwk cd_qwk ct_qwk), sl_qwk⟩)
   (e_qwk : PySem.W.codeIn K cd_qwk "_law_spoiled" = true)
   (k_qwk : PySem.W.keepIn K (.ref f_qwk) = true)
   (a_qwy : PySem.W.nsIn K mainGlobals "_law_told_of" = some (some (.ref f_qwy)))
   (l_qwy : K.lookup f_qwy = some ⟨oc_qwy, od_qwy, .func (PySem.W.fnOf "_law_told_of" "_law_told_of" (defArgs s_qwy) (defBody s_qwy) (defScope s_qwy) .none kV_qwy dc_qwy pm_qwy an_qwy cd_qwy ct_qwy), sl_qwy⟩)
   (e_qwy : PySem.W.codeIn K cd_qwy "_law_told_of" = true)
   (k_qwy : PySem.W.keepIn K (.ref f_qwy) = true)
   (a_qwx : PySem.W.nsIn K mainGlobals "_law_refused" = some (some (.ref f_qwx)))
   (l_qwx : K.lookup f_qwx = some ⟨oc_qwx, od_qwx, .func (PySem.W.fnOf "_law_refused" "_law_refused" (defArgs s_qwx) (defBody s_qwx) (defScope s_qwx) .none kV_qwx dc_qwx pm_qwx an_qwx cd_qwx ct_qwx), sl_qwx⟩)
   (e_qwx : PySem.W.codeIn K cd_qwx "_law_refused" = true)
   (k_qwx : PySem.W.keepIn K (.ref f_qwx) = true)
   (a_qzy : PySem.W.nsIn K mainGlobals "_law_holds" = some (some (.ref f_qzy)))
   (l_qzy : K.lookup f_qzy = some ⟨oc_qzy, od_qzy, .func (PySem.W.fnOf "_law_holds" "_law_holds" (defArgs s_qzy) (defBody s_qzy) (defScope s_qzy) .none kV_qzy dc_qzy pm_qzy an_qzy cd_qzy ct_qzy), sl_qzy⟩)
   (e_qzy : PySem.W.codeIn K cd_qzy "_law_holds" = true)
   (k_qzy : PySem.W.keepIn K (.ref f_qzy) = true)
   (a_law : PySem.W.nsIn K mainGlobals "law" = some (some (.ref f_law)))
   (l_law : K.lookup f_law = some ⟨oc_law, od_law, .func (PySem.W.fnOf "law" "law" (defArgs s_law) (defBody s_law) (defScope s_law) .none kV_law dc_law pm_law an_law cd_law ct_law), sl_law⟩)
   (e_law : PySem.W.codeIn K cd_law "law" = true)
   (k_law : PySem.W.keepIn K (.ref f_law) = true)
   (pg_qwv : PySem.W.plainGet K C_qwv Str.empty = true)
   (hd_qwv : PySem.W.hasDictIn K C_qwv = true)
   (po_qwv : PySem.W.plainOver K C_qwv = true)
   (sa_qwv : PySem.W.findIn K (.ref C_qwv) "__setattr__" = some (some (.builtin "object.__setattr__")))
   (mm_qwv : PySem.W.makesIn K C_qwv = true)
   (kc_qwv : PySem.W.keepIn K (.ref C_qwv) = true)
   (hd_L : PySem.W.hasDictIn K C_qyx = true)
   (ki_N : PySem.W.kitOne K (.ref C_qyx) (.ref C_qyx) = some true)
   (ki_V : PySem.W.kitOne K (.ref C_qyx) (.type "ValueError") = some true)
   (ka : PySem.W.kitAny K (.ref C_qyx) [.ref C_Lost, .ref C_qyv, .ref C_qyj, .ref C_qxq, .ref C_qyk, .ref C_qyz, .ref C_qxw, .ref C_qxz, .ref C_qxy] = some false)
   (mj : PySem.W.mroIn K C_qyx (.ref C_qzk) = some true)
   (xg_qyx : PySem.W.findIn K (.ref C_qyx) "__getattribute__" = some (some (.builtin "BaseException.__getattribute__")))
   (xn_qyx : PySem.W.findIn K (.ref C_qyx) "__getattr__" = some none)
   (xl_qyx : PySem.W.findIn K (.ref C_qyx) "__class__" = some (some (.builtin "object.__class__")))
   (xo_qyx : PySem.W.mroIn K C_qyx (.type "object") = some true)
   (xb_qyx : PySem.W.mroIn K C_qyx (.type "BaseException") = some true)
   (sp_cl : PySem.W.specialIn K (.builtin "object.__class__") "__get__" = some (some (.builtin "getset_descriptor.__get__")))
   (tk_cl : PySem.W.takesIn K (.builtin "object.__class__") = some true)
   (ei_qyx : ownInit K C_qyx f_qqj = true)
   (ee_qyx : errIn K C_qyx = true)
   (es_qyx : PySem.W.findIn K (.ref C_qyx) "__setattr__" = some (some (.builtin "object.__setattr__")))
   (br_qzk : PySem.W.readsIn K C_qzk (.type "type") = true)
   (bf_qzk : PySem.W.findCls K (.ref C_qzk) (.type "type") "__init__" = some (.val (.builtin "ValueError.__init__")))
   (bg_qzk : PySem.W.specialIn K (.ref C_qzk) "__getattribute__" = some (some (.builtin "type.__getattribute__")))
   (ct_qzk : PySem.W.instIn K (.ref C_qzk) (.type "tuple") = some false)
   (cb_qzk : PySem.W.mroIn K C_qzk (.type "BaseException") = some true)
   (no_qyx_row : PySem.W.findIn K (.ref C_qyx) "row" = some none)
   (no_qwv_step : PySem.W.findIn K (.ref C_qwv) "step" = some none)
   (no_qwv_size : PySem.W.findIn K (.ref C_qwv) "size" = some none)
   (no_qwv_entry : PySem.W.findIn K (.ref C_qwv) "entry" = some none)
   (no_qwv_parts : PySem.W.findIn K (.ref C_qwv) "parts" = some none)
   (no_qwv_leaning : PySem.W.findIn K (.ref C_qwv) "leaning" = some none)
   (no_qwv_last_words : PySem.W.findIn K (.ref C_qwv) "last_words" = some none)
   (no_qwv_end : PySem.W.findIn K (.ref C_qwv) "end" = some none)
   (no_qwv_behind_word : PySem.W.findIn K (.ref C_qwv) "behind_word" = some none)
   (g_FIGURES : PySem.W.nsIn K mainGlobals "FIGURES" = some (some (.str "0123456789" t_FIGURES)))
   (g_HOW_MANY_PARTS : PySem.W.nsIn K mainGlobals "HOW_MANY_PARTS" = some (some (.ref o_HOW_MANY_PARTS)))
   (l_HOW_MANY_PARTS : K.lookup o_HOW_MANY_PARTS = some ⟨.type "dict", none, .dict #[⟨PyData.keyHash w.params "whole", .str "whole" k_HOW_MANY_PARTS_0, .int 4 v_HOW_MANY_PARTS_0⟩, ⟨PyData.keyHash w.params "part", .str "part" k_HOW_MANY_PARTS_1, .int 2 v_HOW_MANY_PARTS_1⟩, ⟨PyData.keyHash w.params "word", .str "word" k_HOW_MANY_PARTS_2, .int 2 v_HOW_MANY_PARTS_2⟩, ⟨PyData.keyHash w.params "lean", .str "lean" k_HOW_MANY_PARTS_3, .int 3 v_HOW_MANY_PARTS_3⟩] n_HOW_MANY_PARTS, #[]⟩)
   (s_HOW_MANY_PARTS : (o_HOW_MANY_PARTS == sysModules) = false)
   (g_LEANING_RULES : PySem.W.nsIn K mainGlobals "LEANING_RULES" = some (some (.ref o_LEANING_RULES)))
   (l_LEANING_RULES : K.lookup o_LEANING_RULES = some ⟨.type "tuple", od_LEANING_RULES, .seq #[.str "whole" k_LEANING_RULES_0, .str "high" k_LEANING_RULES_1, .str "low" k_LEANING_RULES_2] n_LEANING_RULES, sl_LEANING_RULES⟩)
   (n_ValueError : PySem.W.nsIn K mainGlobals "ValueError" = some none)
   (n_all : PySem.W.nsIn K mainGlobals "all" = some none)
   (n_bool : PySem.W.nsIn K mainGlobals "bool" = some none)
   (n_enumerate : PySem.W.nsIn K mainGlobals "enumerate" = some none)
   (n_int : PySem.W.nsIn K mainGlobals "int" = some none)
   (n_isinstance : PySem.W.nsIn K mainGlobals "isinstance" = some none)
   (n_len : PySem.W.nsIn K mainGlobals "len" = some none)
   (n_max : PySem.W.nsIn K mainGlobals "max" = some none)
   (n_range : PySem.W.nsIn K mainGlobals "range" = some none)
   (n_str : PySem.W.nsIn K mainGlobals "str" = some none) :
   ∃ fd : FuncData, (∀ (s : Shared) (v : Value), BindsTo s fd ⟨[v], []⟩ [("_law_script", v)]) ∧ ∀ base : Heap, K.In base → base.Ns mainGlobals mg → FnOk l.prog w K mg base CX0 12 fa fd ["_law_script"] (sp_law K) := by
 have e := hfa.symm.trans (PySem.W.mg_of X G a_law)
 cases e
 have F_qqj := fun_mk (st := s_qqj) l_qqj e_qqj k_qqj
 have b_qqj := F_qqj.binds (ps := ["self", "row"]) fun _ _ _ _ _ _ us hl => len2 us hl fun _ _ => rfl
 have F_qzv := fun_mk (st := s_qzv) l_qzv e_qzv k_qzv
 have b_qzv := F_qzv.binds (ps := ["text", "least", "most"]) fun _ _ _ _ _ _ us hl => len3 us hl fun _ _ _ => rfl
 have F_qyy := fun_mk (st := s_qyy) l_qyy e_qyy k_qyy
 have b_qyy := F_qyy.binds (ps := ["text"]) fun _ _ _ _ _ _ us hl => len1 us hl fun _ => rfl
 have F_qzq := fun_mk (st := s_qzq) l_qzq e_qzq k_qzq
 have b_qzq := F_qzq.binds (ps := ["whole"]) fun _ _ _ _ _ _ us hl => len1 us hl fun _ => rfl
 have F_qzj := fun_mk (st := s_qzj) l_qzj e_qzj k_qzj
 have b_qzj := F_qzj.binds (ps := ["leans"]) fun _ _ _ _ _ _ us hl => len1 us hl fun _ => rfl
 have F_qzx := fun_mk (st := s_qzx) l_qzx e_qzx k_qzx
 have b_qzx := F_qzx.binds (ps := ["text"]) fun _ _ _ _ _ _ us hl => len1 us hl fun _ => rfl
 have F_qqx := fun_mk (st := s_qqx) l_qqx e_qqx k_qqx
 have b_qqx := F_qqx.binds (ps := ["self"]) fun _ _ _ _ _ _ us hl => len1 us hl fun _ => rfl
 have F_qqk := fun_mk (st := s_qqk) l_qqk e_qqk k_qqk
 have b_qqk := F_qqk.binds (ps := ["self", "parts"]) fun _ _ _ _ _ _ us hl => len2 us hl fun _ _ => rfl
 have F_qqq := fun_mk (st := s_qqq) l_qqq e_qqq k_qqq
 have b_qqq := F_qqq.binds (ps := ["self", "step", "size", "entry"]) fun _ _ _ _ _ _ us hl => len4 us hl fun _ _ _ _ => rfl
 have F_qqz := fun_mk (st := s_qqz) l_qqz e_qqz k_qqz
 have b_qqz := F_qqz.binds (ps := ["self", "text"]) fun _ _ _ _ _ _ us hl => len2 us hl fun _ _ => rfl
 have F_qqy := fun_mk (st := s_qqy) l_qqy e_qqy k_qqy
 have b_qqy := F_qqy.binds (ps := ["self", "text"]) fun _ _ _ _ _ _ us hl => len2 us hl fun _ _ => rfl
 have F_qqw := fun_mk (st := s_qqw) l_qqw e_qqw k_qqw
 have b_qqw := F_qqw.binds (ps := ["self", "rule", "text"]) fun _ _ _ _ _ _ us hl => len3 us hl fun _ _ _ => rfl
 have F_qzw := fun_mk (st := s_qzw) l_qzw e_qzw k_qzw
 have b_qzw := F_qzw.binds (ps := ["_law_found"]) fun _ _ _ _ _ _ us hl => len1 us hl fun _ => rfl
 have F_qwz := fun_mk (st := s_qwz) l_qwz e_qwz k_qwz
 have b_qwz := F_qwz.binds (ps := ["_law_script", "_law_k"]) fun _ _ _ _ _ _ us hl => len2 us hl fun _ _ => rfl
 have F_qww := fun_mk (st := s_qww) l_qww e_qww k_qww
 have b_qww := F_qww.binds (ps := ["_law_number"]) fun _ _ _ _ _ _ us hl => len1 us hl fun _ => rfl
 have F_qyq := fun_mk (st := s_qyq) l_qyq e_qyq k_qyq
 have b_qyq := F_qyq.binds (ps := ["_law_cell", "_law_parts", "_law_leans", "_law_end_here"]) fun _ _ _ _ _ _ us hl => len4 us hl fun _ _ _ _ => rfl
 have F_qyw := fun_mk (st := s_qyw) l_qyw e_qyw k_qyw
 have b_qyw := F_qyw.binds (ps := ["_law_parts"]) fun _ _ _ _ _ _ us hl => len1 us hl fun _ => rfl
 have F_qzz := fun_mk (st := s_qzz) l_qzz e_qzz k_qzz
 have b_qzz := F_qzz.binds (ps := ["_law_script", "_law_most"]) fun _ _ _ _ _ _ us hl => len2 us hl fun _ _ => rfl
 have F_qwj := fun_mk (st := s_qwj) l_qwj e_qwj k_qwj
 have b_qwj := F_qwj.binds (ps := ["_law_number"]) fun _ _ _ _ _ _ us hl => len1 us hl fun _ => rfl
 have F_qwq := fun_mk (st := s_qwq) l_qwq e_qwq k_qwq
 have b_qwq := F_qwq.binds (ps := ["_law_number", "_law_size"]) fun _ _ _ _ _ _ us hl => len2 us hl fun _ _ => rfl
 have F_qqv := fun_mk (st := s_qqv) l_qqv e_qqv k_qqv
 have b_qqv := F_qqv.binds (ps := ["_law_rows"]) fun _ _ _ _ _ _ us hl => len1 us hl fun _ => rfl
 have F_qwk := fun_mk (st := s_qwk) l_qwk e_qwk k_qwk
 have b_qwk := F_qwk.binds (ps := ["_law_rows", "_law_size", "_law_way", "_law_at", "_law_number"]) fun _ _ _ _ _ _ us hl => len5 us hl fun _ _ _ _ _ => rfl
 have F_qwy := fun_mk (st := s_qwy) l_qwy e_qwy k_qwy
 have b_qwy := F_qwy.binds (ps := ["_law_text"]) fun _ _ _ _ _ _ us hl => len1 us hl fun _ => rfl
 have F_qwx := fun_mk (st := s_qwx) l_qwx e_qwx k_qwx
 have b_qwx := F_qwx.binds (ps := ["_law_told", "_law_due"]) fun _ _ _ _ _ _ us hl => len2 us hl fun _ _ => rfl
 have F_qzy := fun_mk (st := s_qzy) l_qzy e_qzy k_qzy
 have b_qzy := F_qzy.binds (ps := ["_law_rows", "_law_size", "_law_cell", "_law_other"]) fun _ _ _ _ _ _ us hl => len4 us hl fun _ _ _ _ => rfl
 have F_law := fun_mk (st := s_law) l_law e_law k_law
 have b_law := F_law.binds (ps := ["_law_script"]) fun _ _ _ _ _ _ us hl => len1 us hl fun _ => rfl
 have T : Txt w K mg { qqj := f_qqj, fd_qqj := _, qzv := f_qzv, fd_qzv := _, qyy := f_qyy, fd_qyy := _, qzq := f_qzq, fd_qzq := _, qzj := f_qzj, fd_qzj := _, qzx := f_qzx, fd_qzx := _, qqx := f_qqx, fd_qqx := _, qqk := f_qqk, fd_qqk := _, qqq := f_qqq, fd_qqq := _, qqz := f_qqz, fd_qqz := _, qqy := f_qqy, fd_qqy := _, qqw := f_qqw, fd_qqw := _, qzw := f_qzw, fd_qzw := _, qwz := f_qwz, fd_qwz := _, qww := f_qww, fd_qww := _, qyq := f_qyq, fd_qyq := _, qyw := f_qyw, fd_qyw := _, qzz := f_qzz, fd_qzz := _, qwj := f_qwj, fd_qwj := _, qwq := f_qwq, fd_qwq := _, qqv := f_qqv, fd_qqv := _, qwk := f_qwk, fd_qwk := _, qwy := f_qwy, fd_qwy := _, qwx := f_qwx, fd_qwx := _, qzy := f_qzy, fd_qzy := _, law := fa, fd_law := _, t_FIGURES := t_FIGURES, o_HOW_MANY_PARTS := o_HOW_MANY_PARTS, o_LEANING_RULES := o_LEANING_RULES, c_qzk := C_qzk, c_Lost := C_Lost, c_qyv := C_qyv, c_qyj := C_qyj, c_qxq := C_qxq, c_qyk := C_qyk, c_qyx := C_qyx, c_qyz := C_qyz, c_qxw := C_qxw, c_qxz := C_qxz, c_qxy := C_qxy, c_qwv := C_qwv } := {
   k_qqj := k_qqj
   b_qqj := b_qqj
   F_qqj := F_qqj
   m_qzv := PySem.W.mg_of X G a_qzv
   k_qzv := k_qzv
   b_qzv := b_qzv
   F_qzv := F_qzv
   m_qyy := PySem.W.mg_of X G a_qyy
   k_qyy := k_qyy
   b_qyy := b_qyy
   F_qyy := F_qyy
   m_qzq := PySem.W.mg_of X G a_qzq
   k_qzq := k_qzq
   b_qzq := b_qzq
   F_qzq := F_qzq
   m_qzj := PySem.W.mg_of X G a_qzj
   k_qzj := k_qzj
   b_qzj := b_qzj
   F_qzj := F_qzj
   m_qzx := PySem.W.mg_of X G a_qzx
   k_qzx := k_qzx
   b_qzx := b_qzx
   F_qzx := F_qzx
   k_qqx := k_qqx
   b_qqx := b_qqx
   F_qqx := F_qqx
   k_qqk := k_qqk
   b_qqk := b_qqk
   F_qqk := F_qqk
   k_qqq := k_qqq
   b_qqq := b_qqq
   F_qqq := F_qqq
   k_qqz := k_qqz
   b_qqz := b_qqz
   F_qqz := F_qqz
   k_qqy := k_qqy
   b_qqy := b_qqy
   F_qqy := F_qqy
   k_qqw := k_qqw
   b_qqw := b_qqw
   F_qqw := F_qqw
   m_qzw := PySem.W.mg_of X G a_qzw
   k_qzw := k_qzw
   b_qzw := b_qzw
   F_qzw := F_qzw
   m_qwz := PySem.W.mg_of X G a_qwz
   k_qwz := k_qwz
   b_qwz := b_qwz
   F_qwz := F_qwz
   m_qww := PySem.W.mg_of X G a_qww
   k_qww := k_qww
   b_qww := b_qww
   F_qww := F_qww
   m_qyq := PySem.W.mg_of X G a_qyq
   k_qyq := k_qyq
   b_qyq := b_qyq
   F_qyq := F_qyq
   m_qyw := PySem.W.mg_of X G a_qyw
   k_qyw := k_qyw
   b_qyw := b_qyw
   F_qyw := F_qyw
   m_qzz := PySem.W.mg_of X G a_qzz
   k_qzz := k_qzz
   b_qzz := b_qzz
   F_qzz := F_qzz
   m_qwj := PySem.W.mg_of X G a_qwj
   k_qwj := k_qwj
   b_qwj := b_qwj
   F_qwj := F_qwj
   m_qwq := PySem.W.mg_of X G a_qwq
   k_qwq := k_qwq
   b_qwq := b_qwq
   F_qwq := F_qwq
   m_qqv := PySem.W.mg_of X G a_qqv
   k_qqv := k_qqv
   b_qqv := b_qqv
   F_qqv := F_qqv
   m_qwk := PySem.W.mg_of X G a_qwk
   k_qwk := k_qwk
   b_qwk := b_qwk
   F_qwk := F_qwk
   m_qwy := PySem.W.mg_of X G a_qwy
   k_qwy := k_qwy
   b_qwy := b_qwy
   F_qwy := F_qwy
   m_qwx := PySem.W.mg_of X G a_qwx
   k_qwx := k_qwx
   b_qwx := b_qwx
   F_qwx := F_qwx
   m_qzy := PySem.W.mg_of X G a_qzy
   k_qzy := k_qzy
   b_qzy := b_qzy
   F_qzy := F_qzy
   m_law := PySem.W.mg_of X G a_law
   k_law := k_law
   b_law := b_law
   F_law := F_law
   g_FIGURES := PySem.W.mg_of X G g_FIGURES
   g_HOW_MANY_PARTS := PySem.W.mg_of X G g_HOW_MANY_PARTS
   g_LEANING_RULES := PySem.W.mg_of X G g_LEANING_RULES
   q_LEANING_RULES := fun H => .inr ⟨_, _, _, l_LEANING_RULES, rfl, rfl, (by rw [sizeLine_eq]; exact (by decide : (3 : Nat) ≤ 16777216)), .cons relS (.cons relS (.cons relS (.nil)))⟩
   q_HOW_MANY_PARTS := ⟨s_HOW_MANY_PARTS, [("whole", k_HOW_MANY_PARTS_0, .int 4 v_HOW_MANY_PARTS_0), ("part", k_HOW_MANY_PARTS_1, .int 2 v_HOW_MANY_PARTS_1), ("word", k_HOW_MANY_PARTS_2, .int 2 v_HOW_MANY_PARTS_2), ("lean", k_HOW_MANY_PARTS_3, .int 3 v_HOW_MANY_PARTS_3)], n_HOW_MANY_PARTS, l_HOW_MANY_PARTS, (by show (["whole", "part", "word", "lean"] : List Str).Nodup; decide +kernel), .cons ⟨rfl, relI⟩ (.cons ⟨rfl, relI⟩ (.cons ⟨rfl, relI⟩ (.cons ⟨rfl, relI⟩ (.nil))))⟩
   n_ValueError := PySem.W.mg_none_of X G n_ValueError
   n_all := PySem.W.mg_none_of X G n_all
   n_bool := PySem.W.mg_none_of X G n_bool
   n_enumerate := PySem.W.mg_none_of X G n_enumerate
   n_int := PySem.W.mg_none_of X G n_int
   n_isinstance := PySem.W.mg_none_of X G n_isinstance
   n_len := PySem.W.mg_none_of X G n_len
   n_max := PySem.W.mg_none_of X G n_max
   n_range := PySem.W.mg_none_of X G n_range
   n_str := PySem.W.mg_none_of X G n_str
   mc_qzk := PySem.W.mg_of X G ac_qzk
   mc_Lost := PySem.W.mg_of X G ac_Lost
   mc_qyv := PySem.W.mg_of X G ac_qyv
   mc_qyj := PySem.W.mg_of X G ac_qyj
   mc_qxq := PySem.W.mg_of X G ac_qxq
   mc_qyk := PySem.W.mg_of X G ac_qyk
   mc_qyx := PySem.W.mg_of X G ac_qyx
   mc_qyz := PySem.W.mg_of X G ac_qyz
   mc_qxw := PySem.W.mg_of X G ac_qxw
   mc_qxz := PySem.W.mg_of X G ac_qxz
   mc_qxy := PySem.W.mg_of X G ac_qxy
   mc_qwv := PySem.W.mg_of X G ac_qwv
   cl_qwv := ⟨pg_qwv, hd_qwv, po_qwv, sa_qwv⟩
   hd_L := hd_L
   ki_N := ki_N
   ki_V := ki_V
   ka := ka
   mj := mj
   xg_qyx := xg_qyx
   xn_qyx := xn_qyx
   xl_qyx := xl_qyx
   xo_qyx := xo_qyx
   xb_qyx := xb_qyx
   sp_cl := sp_cl
   tk_cl := tk_cl
   ei_qyx := ei_qyx
   ee_qyx := ee_qyx
   es_qyx := es_qyx
   br_qzk := br_qzk
   bf_qzk := bf_qzk
   bg_qzk := bg_qzk
   ct_qzk := ct_qzk
   cb_qzk := cb_qzk
   er_qyx := ⟨ei_qyx, ee_qyx, es_qyx, i_qqj⟩
   bi_qzk := ⟨br_qzk, bf_qzk, bg_qzk⟩
   mk_qwv := ⟨mm_qwv, a_qqx, i_qqx, kc_qwv⟩
   me_qqk := ⟨a_qqk, i_qqk, k_qqk⟩
   me_qqw := ⟨a_qqw, i_qqw, k_qqw⟩
   me_qqz := ⟨a_qqz, i_qqz, k_qqz⟩
   me_qqq := ⟨a_qqq, i_qqq, k_qqq⟩
   me_qqy := ⟨a_qqy, i_qqy, k_qqy⟩
   no_qyx_row := no_qyx_row
   no_qwv_step := no_qwv_step
   no_qwv_size := no_qwv_size
   no_qwv_entry := no_qwv_entry
   no_qwv_parts := no_qwv_parts
   no_qwv_leaning := no_qwv_leaning
   no_qwv_last_words := no_qwv_last_words
   no_qwv_end := no_qwv_end
   no_qwv_behind_word := no_qwv_behind_word }
 exact ⟨_, fun s v => .of_eq rfl, fun base _ _ => G_law T⟩
theorem walk {l : PySem.W.OpenLaw} {q : Program} {loose : List Str} {XP : (Str → Option Value) → Heap → Prop} {YP : World → Heap → Prop} {d : DefRec} {K : Params → PySem.W.Frag} (hn : l.most = some 63) (hdf : d.params.defaults = [])
   (hY : ∀ (w : World) (h : Heap), YP w h → (K w.params).In h)
   (F : ∀ (w : World) (mg : Str → Option Value) (fa : Addr) (h : Heap), (K w.params).In h → h.Ns mainGlobals mg → mg d.name = some (.ref fa) →
     ∃ fd : FuncData, (∀ (s : Shared) (u : Value), BindsTo s fd ⟨[u], []⟩ [("_law_script", u)]) ∧ ∀ base : Heap, (K w.params).In base → base.Ns mainGlobals mg → FnOk l.prog w (K w.params) mg base CX0 12 fa fd ["_law_script"] (sp_law (K w.params))) :
   PySem.W.WalkO q loose XP YP l.row.toRowW d [] (fun f vs => PySem.call f vs) :=
 L2.walk_of (n := 63) (k := 12) (x := "_law_script") (CX := fun _ => CX0) (sp := fun w => sp_law (K w.params)) hn (by decide) hdf ⟨rfl, by decide, by decide⟩ hY F (fun _ _ a ns hl _ hS => ⟨a, ns, rfl, hS, hl, fun _ => rfl⟩) fun _ _ _ _ _ z => z
end My
namespace Hd
open PySem PySem.W PySem.Calls PyProof.Rows
variable (P : Params)
noncomputable abbrev pw : Program := PySem.Challenge.pw_joinload_k42_the_first_bad_row_of_a_whol
noncomputable def T (i : Nat) : Stmt := My.top i
noncomputable def C (i j : Nat) : Stmt := L2.inClass (My.top i) j
noncomputable abbrev k (P : Params) (x : Str) (t : Tok) (v : Value) : DictEntry := ⟨PyData.keyHash P x, .str x t, v⟩
noncomputable abbrev fn (s : Stmt) (x q : Str) (dV kV doc pm : Value) (an : Option Addr) (cd ct : Value) : FuncData := fnOf x q (L2.defArgs s) (L2.defBody s) (L2.defScope s) dV kV doc pm an cd ct
noncomputable abbrev e1 : Obj := ⟨.type "tuple", none, .seq #[] 0, #[]⟩
noncomputable abbrev e2 : Obj := ⟨.none, none, .fields #[], #[]⟩
noncomputable abbrev bp : Obj := ⟨.type "builtin_function_or_method", none, .fields #[.builtin "type.__prepare__", .type "type"], #[]⟩
noncomputable abbrev tu (x : Array Value) : Obj := ⟨.type "tuple", none, .seq x 0, #[]⟩
noncomputable abbrev nf (x : Array Value) : Obj := ⟨.none, none, .fields x, #[]⟩
noncomputable abbrev bs (a : Addr) : Obj := ⟨.type "builtin_function_or_method", none, .fields #[.builtin "object.__init_subclass__", .ref a], #[]⟩
noncomputable abbrev su (a : Addr) : Obj := ⟨.type "super", none, .fields #[.ref a, .ref a, .ref a], #[]⟩
noncomputable abbrev co (x q : Str) (t : Nat) (l a b : Int) (r : Addr) (o : Bool) (r2 : Addr) (v : Value) (u : Nat) : Obj := ⟨.type "code", none, .fields #[.str x t, .str q (t + 1), .str "/claim/cut.py" (t + 2), .int l 0, .int a 0, .int 0 0, .int 0 0, .int b 0, .ref r, .bool o, .int 181 0, .ref r2, .none, .none, .none, v, .int (Int.ofNat u) 0, .int l 0, .str "/claim/cut.py" (u + 1)], #[]⟩
noncomputable abbrev fm (a b : Addr) (v : Value) : Obj := ⟨.type "frame", none, .plain, #[some (.ref a), some (.ref 3), some (.ref b), none, some v, none, some (.ref 0)]⟩
noncomputable abbrev fo (s : Stmt) (x q m : Str) (t : Nat) (c : Addr) : Obj := ⟨.type "function", none, .func (fn s x q .none .none .none (.str m t) none (.ref c) .none), #[]⟩
noncomputable abbrev ft (s : Stmt) (x q : Str) : Obj := ⟨.none, none, .func { fn s x q .none .none .none .none none .none .none with globals := 0, closure := [], builtins := 0 }, #[]⟩
noncomputable abbrev di (l : List DictEntry) (n : Nat) : Obj := ⟨.type "dict", none, .dict l.toArray n, #[]⟩
noncomputable def sv : List DictEntry → Nat → Value → List DictEntry
 | [], _, _ => []
 | e :: r, 0, v => ⟨e.hash, e.key, v⟩ :: r
 | e :: r, n + 1, v => e :: sv r n v
noncomputable def od : List (Nat × Obj) → List (Nat × Obj)
 | [] => []
 | (i, o) :: r => match Nat.beq (i % 2) 1 with
   | true => (i / 2, o) :: od r
   | false => od r
noncomputable def ev : List (Nat × Obj) → List (Nat × Obj)
 | [] => []
 | (i, o) :: r => match Nat.beq i 0 with
   | true => ev r
   | false => match Nat.beq (i % 2) 1 with
     | true => ev r
     | false => (i / 2 - 1, o) :: ev r
noncomputable def at0 (v : Obj) : List (Nat × Obj) → Obj
 | [] => v
 | (i, o) :: r => match Nat.beq i 0 with
   | true => o
   | false => at0 v r
noncomputable def mg : Nat → BT → List (Nat × Obj) → BT
 | 0, t, _ => t
 | f + 1, t, d => match d with
   | [] => t
   | x :: r => match t with
     | .nil => .node (at0 default (x :: r)) (mg f .nil (od (x :: r))) (mg f .nil (ev (x :: r)))
     | .node v a b => .node (at0 v (x :: r)) (mg f a (od (x :: r))) (mg f b (ev (x :: r)))
noncomputable def bd : List Stmt := behindTheImports pw
noncomputable def en : Env := { scope := pw.main.scope, locals := mainNs, globals := mainNs, cells := [], code := (.ref 13), frame := some 14 }
noncomputable abbrev cE : Code := .body bd en
noncomputable abbrev B : List Frame := [topFrame ⟨0, 0, 0, 0⟩]
noncomputable def li : Life := { registered := [], finalised := [], alive := [], known := 0, ids := [], orphanDicts := [], counting := false, cnt := ⟨[]⟩, zero := [], soft := 0, below := false, collecting := false, loading := false, debug := 0, thresholds := [2000, 10, 10], woke := false, asked := 0, gcEnabled := true, old := [], middle := [], young := 0, intoMiddle := false }
noncomputable abbrev an : Option Value := (some (.ref 6))
noncomputable abbrev sT (t : BT) (n k : Nat) (os : OsState) : SharedT := ⟨t, n, li, ⟨[]⟩, boot_drawn, k, os⟩
noncomputable abbrev sR (w : World) (n : Nat) (S S' : World → OsState → SharedT) (l : List Stmt) (p p' : Pos) : Prop := (fun os => segRunT treeTable pw w 11 an 1 n (S w os) (piecesOf l en cE p B)) = fun os => some (.next, S' w os, cE, p')
noncomputable def o11_0 := e1
noncomputable def o12_0 := e2
noncomputable def o13_0 := co "<module>" "<module>" 182 1 0 0 11 false 12 .none 185
noncomputable def o14_0 := fm 13 3 (.str "__main__" 164)
noncomputable def Ha (P : Params) : Heap := ⟨⟨boot_o_0 P :: boot_o_1 P :: boot_o_2 P :: boot_o_3 P :: boot_o_4 P :: boot_o_5 P :: boot_o_6 P :: boot_o_7 P :: boot_o_8 P :: boot_o_9 P :: boot_o_10 P :: o11_0 :: o12_0 :: o13_0 :: o14_0 :: []⟩, li⟩
noncomputable def S0 (w : World) (os : OsState) : Shared := ⟨boot_heap w.params, ⟨[]⟩, boot_drawn, boot_toks, os⟩
noncomputable def Sa (w : World) (os : OsState) : Shared := ⟨Ha w.params, ⟨[]⟩, boot_drawn, 187, os⟩
def Pre (w : World) : Prop := (fun os => topGo treeTable pw w 11 an 12 (S0 w os) (topStub pw)) = fun os => some (Sa w os, ⟨denote treeTable cE, cE, ⟨0, 0, 0, 0⟩, B⟩)
noncomputable def D0 (P : Params) : List (Nat × Obj) := (0, boot_o_0 P) :: (1, boot_o_1 P) :: (2, boot_o_2 P) :: (3, boot_o_3 P) :: (4, boot_o_4 P) :: (5, boot_o_5 P) :: (6, boot_o_6 P) :: (7, boot_o_7 P) :: (8, boot_o_8 P) :: (9, boot_o_9 P) :: (10, boot_o_10 P) :: (11, o11_0) :: (12, o12_0) :: (13, o13_0) :: (14, o14_0) :: []
noncomputable def T0 (P : Params) : BT := mg 14 .nil (D0 P)
noncomputable def S0T (w : World) : OsState → SharedT := sT (T0 w.params) 15 187
def Blk (w : World) : Prop := (fun os => segRun treeTable pw w 11 an 1 1 (Sa w os) (blockOf bd en cE ⟨0, 0, 0, 0⟩ B)) = fun os => some (.next, (S0T w os).abs, cE, ⟨0, 0, 0, 0⟩)
noncomputable def g3_2 (P : Params) : List DictEntry := [k P "__name__" 165 (.str "joinload.errors" 187), k P "__doc__" 166 .none, k P "__package__" 167 .none, k P "__loader__" 168 (.builtin "__main__.__loader__#opaque"), k P "__spec__" 169 .none, k P "__annotations__" 170 (.ref 6), k P "__builtins__" 171 (.ref 4), k P "__file__" 173 (.str "/claim/cut.py" 172), k P "__cached__" 174 .none, k P "JoinError" 206 (.ref 24), k P "NoRule" 222 (.ref 37), k P "NoPiece" 247 (.ref 56)]
noncomputable def o3_2 : Obj := ⟨(.type "dict"), none, .dict (g3_2 P).toArray 12, #[]⟩
noncomputable def o12_2 := nf #[(.int (2) 0), (.int (0) 0), (.ref 20), (.int (4) 0), (.int (0) 0), (.ref 33), (.int (6) 0), (.int (0) 0), (.ref 45)]
noncomputable def o15_2 := tu #[(.type "ValueError")]
noncomputable def o16_2 := bp
noncomputable def o17_2 := di [k P "__module__" 196 (.str "joinload.errors" 187), k P "__qualname__" 198 (.str "JoinError" 197), k P "__firstlineno__" 200 (.int (2) 199), k P "__static_attributes__" 201 (.ref 22)] 4
noncomputable def o18_2 := e1
noncomputable def o19_2 := e2
noncomputable def o20_2 := co "JoinError" "JoinError" 191 2 0 0 18 false 19 .none 194
noncomputable def o21_2 := fm 20 17 (.str "joinload.errors" 187)
noncomputable def o22_2 := e1
noncomputable def o23_2 := di [k P "__module__" 196 (.str "joinload.errors" 187), k P "__firstlineno__" 200 (.int (2) 199), k P "__static_attributes__" 201 (.ref 22), k P "__weakref__" 203 (.ref 25), k P "__doc__" 204 .none] 3
noncomputable def o24_2 : Obj := ⟨(.type "type"), none, (.cls ⟨"JoinError", [(.type "ValueError")], [(.ref 24), (.type "ValueError"), (.type "Exception"), (.type "BaseException"), (.type "object")], 23, "JoinError", true, [], [(.ref 37), (.ref 56)], false, none, false⟩), #[(some (.ref 15)), none, (some (.str "JoinError" 189)), (some (.str "JoinError" 197)), (some (.builtin "ValueError.__new__")), (some (.bool true))]⟩
noncomputable def o25_2 : Obj := ⟨(.type "getset_descriptor"), none, (.fields #[(.str "__weakref__" 202), (.ref 24), (.builtin "ExceptionGroup.__weakref__"), .none]), #[]⟩
noncomputable def o26_2 := su 24
noncomputable def o27_2 := bs 24
noncomputable def o28_2 := tu #[(.ref 24)]
noncomputable def o29_2 := bp
noncomputable def o30_2 := di [k P "__module__" 214 (.str "joinload.errors" 187), k P "__qualname__" 216 (.str "NoRule" 215), k P "__firstlineno__" 218 (.int (4) 217), k P "__static_attributes__" 219 (.ref 35)] 4
noncomputable def o31_2 := e1
noncomputable def o32_2 := e2
noncomputable def o33_2 := co "NoRule" "NoRule" 209 4 0 0 31 false 32 .none 212
noncomputable def o34_2 := fm 33 30 (.str "joinload.errors" 187)
noncomputable def o35_2 := e1
noncomputable def o36_2 := di [k P "__module__" 214 (.str "joinload.errors" 187), k P "__firstlineno__" 218 (.int (4) 217), k P "__static_attributes__" 219 (.ref 35), k P "__doc__" 220 .none] 2
noncomputable def o37_2 : Obj := ⟨(.type "type"), none, (.cls ⟨"NoRule", [(.ref 24)], [(.ref 37), (.ref 24), (.type "ValueError"), (.type "Exception"), (.type "BaseException"), (.type "object")], 36, "NoRule", true, [], [], false, none, false⟩), #[(some (.ref 28)), none, (some (.str "NoRule" 207)), (some (.str "NoRule" 215)), (some (.builtin "ValueError.__new__")), (some (.bool true))]⟩
noncomputable def o38_2 := su 37
noncomputable def o39_2 := bs 37
noncomputable def o40_2 := tu #[(.ref 24)]
noncomputable def o41_2 := bp
noncomputable def o42_2 := di [k P "__module__" 230 (.str "joinload.errors" 187), k P "__qualname__" 232 (.str "NoPiece" 231), k P "__firstlineno__" 234 (.int (6) 233), k P "__init__" 242 (.ref 53), k P "__static_attributes__" 244 (.ref 54)] 5
noncomputable def o43_2 := e1
noncomputable def o44_2 := nf #[(.int (8) 0), (.int (4) 0), (.ref 52)]
noncomputable def o45_2 := co "NoPiece" "NoPiece" 225 6 0 0 43 false 44 .none 228
noncomputable def o46_2 := fm 45 42 (.str "joinload.errors" 187)
noncomputable def o47_2 := e1
noncomputable def o48_2 := e2
noncomputable def o49_2 := tu #[(.str "self" 238), (.str "row" 239)]
noncomputable def o50_2 := e1
noncomputable def o51_2 := ft (C 3 0) "__init__" "NoPiece.__init__"
noncomputable def o52_2 : Obj := ⟨(.type "code"), none, (.fields #[(.str "__init__" 235), (.str "NoPiece.__init__" 236), (.str "/claim/cut.py" 237), (.int (8) 0), (.int (2) 0), (.int (0) 0), (.int (0) 0), (.int (3) 0), (.ref 47), (.bool true), (.int (181) 0), (.ref 48), .none, (.ref 49), (.ref 50), (.ref 51), (.int (240) 0), (.int (8) 0), (.str "/claim/cut.py" 241)]), #[]⟩
noncomputable def o53_2 := fo (C 3 0) "__init__" "NoPiece.__init__" "joinload.errors" 187 52
noncomputable def o54_2 := tu #[(.str "row" 243)]
noncomputable def o55_2 := di [k P "__module__" 230 (.str "joinload.errors" 187), k P "__firstlineno__" 234 (.int (6) 233), k P "__init__" 242 (.ref 53), k P "__static_attributes__" 244 (.ref 54), k P "__doc__" 245 .none] 2
noncomputable def o56_2 : Obj := ⟨(.type "type"), none, (.cls ⟨"NoPiece", [(.ref 24)], [(.ref 56), (.ref 24), (.type "ValueError"), (.type "Exception"), (.type "BaseException"), (.type "object")], 55, "NoPiece", true, [], [], false, none, false⟩), #[(some (.ref 40)), none, (some (.str "NoPiece" 223)), (some (.str "NoPiece" 231)), (some (.builtin "ValueError.__new__")), (some (.bool true))]⟩
noncomputable def o57_2 := su 56
noncomputable def o58_2 := bs 56
noncomputable def d1_0 (P : Params) (r : List (Nat × Obj)) : List (Nat × Obj) := (3, o3_2 P) :: (12, o12_2) :: (15, o15_2) :: (16, o16_2) :: (17, o17_2 P) :: (18, o18_2) :: (19, o19_2) :: (20, o20_2) :: (21, o21_2) :: (22, o22_2) :: (23, o23_2 P) :: (24, o24_2) :: (25, o25_2) :: (26, o26_2) :: (27, o27_2) :: (28, o28_2) :: (29, o29_2) :: (30, o30_2 P) :: (31, o31_2) :: (32, o32_2) :: (33, o33_2) :: (34, o34_2) :: (35, o35_2) :: (36, o36_2 P) :: r
noncomputable def d1_1 (P : Params) (r : List (Nat × Obj)) : List (Nat × Obj) := (37, o37_2) :: (38, o38_2) :: (39, o39_2) :: (40, o40_2) :: (41, o41_2) :: (42, o42_2 P) :: (43, o43_2) :: (44, o44_2) :: (45, o45_2) :: (46, o46_2) :: (47, o47_2) :: (48, o48_2) :: (49, o49_2) :: (50, o50_2) :: (51, o51_2) :: (52, o52_2) :: (53, o53_2) :: (54, o54_2) :: (55, o55_2 P) :: (56, o56_2) :: (57, o57_2) :: (58, o58_2) :: r
noncomputable def T1 (P : Params) : BT := mg 14 (T0 P) (d1_0 P (d1_1 P ([])))
noncomputable def S1T (w : World) : OsState → SharedT := sT (T1 w.params) 59 248
noncomputable def L0 : List Stmt := My.top 0 :: My.top 1 :: My.top 2 :: My.top 3 :: []
def P0 (w : World) : Prop := sR w 654 S0T S1T L0 ⟨0, 0, 0, 0⟩ ⟨6, 0, 10, 22⟩
noncomputable def g3_3 (P : Params) : List DictEntry := g3_2 P ++ [k P "Twice" 276 (.ref 75), k P "SameName" 301 (.ref 94), k P "Unmet" 328 (.ref 113)]
noncomputable def o3_3 : Obj := ⟨(.type "dict"), none, .dict (g3_3 P).toArray 15, #[]⟩
noncomputable def o12_3 := nf #[(.int (2) 0), (.int (0) 0), (.ref 20), (.int (4) 0), (.int (0) 0), (.ref 33), (.int (6) 0), (.int (0) 0), (.ref 45), (.int (11) 0), (.int (0) 0), (.ref 64), (.int (18) 0), (.int (0) 0), (.ref 83), (.int (23) 0), (.int (0) 0), (.ref 102)]
noncomputable def o24_3 : Obj := ⟨(.type "type"), none, (.cls ⟨"JoinError", [(.type "ValueError")], [(.ref 24), (.type "ValueError"), (.type "Exception"), (.type "BaseException"), (.type "object")], 23, "JoinError", true, [], [(.ref 37), (.ref 56), (.ref 75), (.ref 94), (.ref 113)], false, none, false⟩), #[(some (.ref 15)), none, (some (.str "JoinError" 189)), (some (.str "JoinError" 197)), (some (.builtin "ValueError.__new__")), (some (.bool true))]⟩
noncomputable def o59_3 := tu #[(.ref 24)]
noncomputable def o60_3 := bp
noncomputable def o61_3 := di [k P "__module__" 255 (.str "joinload.errors" 187), k P "__qualname__" 257 (.str "Twice" 256), k P "__firstlineno__" 259 (.int (11) 258), k P "__init__" 269 (.ref 72), k P "__static_attributes__" 273 (.ref 73)] 5
noncomputable def o62_3 := e1
noncomputable def o63_3 := nf #[(.int (13) 0), (.int (4) 0), (.ref 71)]
noncomputable def o64_3 := co "Twice" "Twice" 250 11 0 0 62 false 63 .none 253
noncomputable def o65_3 := fm 64 61 (.str "joinload.errors" 187)
noncomputable def o66_3 := e1
noncomputable def o67_3 := e2
noncomputable def o68_3 := tu #[(.str "self" 263), (.str "name" 264), (.str "one" 265), (.str "other" 266)]
noncomputable def o69_3 := e1
noncomputable def o70_3 := ft (C 4 0) "__init__" "Twice.__init__"
noncomputable def o71_3 : Obj := ⟨(.type "code"), none, (.fields #[(.str "__init__" 260), (.str "Twice.__init__" 261), (.str "/claim/cut.py" 262), (.int (13) 0), (.int (4) 0), (.int (0) 0), (.int (0) 0), (.int (3) 0), (.ref 66), (.bool true), (.int (181) 0), (.ref 67), .none, (.ref 68), (.ref 69), (.ref 70), (.int (267) 0), (.int (13) 0), (.str "/claim/cut.py" 268)]), #[]⟩
noncomputable def o72_3 := fo (C 4 0) "__init__" "Twice.__init__" "joinload.errors" 187 71
noncomputable def o73_3 := tu #[(.str "name" 270), (.str "one" 271), (.str "other" 272)]
noncomputable def o74_3 := di [k P "__module__" 255 (.str "joinload.errors" 187), k P "__firstlineno__" 259 (.int (11) 258), k P "__init__" 269 (.ref 72), k P "__static_attributes__" 273 (.ref 73), k P "__doc__" 274 .none] 2
noncomputable def o75_3 : Obj := ⟨(.type "type"), none, (.cls ⟨"Twice", [(.ref 24)], [(.ref 75), (.ref 24), (.type "ValueError"), (.type "Exception"), (.type "BaseException"), (.type "object")], 74, "Twice", true, [], [], false, none, false⟩), #[(some (.ref 59)), none, (some (.str "Twice" 248)), (some (.str "Twice" 256)), (some (.builtin "ValueError.__new__")), (some (.bool true))]⟩
noncomputable def o76_3 := su 75
noncomputable def o77_3 := bs 75
noncomputable def o78_3 := tu #[(.ref 24)]
noncomputable def o79_3 := bp
noncomputable def o80_3 := di [k P "__module__" 284 (.str "joinload.errors" 187), k P "__qualname__" 286 (.str "SameName" 285), k P "__firstlineno__" 288 (.int (18) 287), k P "__init__" 296 (.ref 91), k P "__static_attributes__" 298 (.ref 92)] 5
noncomputable def o81_3 := e1
noncomputable def o82_3 := nf #[(.int (20) 0), (.int (4) 0), (.ref 90)]
noncomputable def o83_3 := co "SameName" "SameName" 279 18 0 0 81 false 82 .none 282
noncomputable def o84_3 := fm 83 80 (.str "joinload.errors" 187)
noncomputable def o85_3 := e1
noncomputable def o86_3 := e2
noncomputable def o87_3 := tu #[(.str "self" 292), (.str "name" 293)]
noncomputable def o88_3 := e1
noncomputable def o89_3 := ft (C 5 0) "__init__" "SameName.__init__"
noncomputable def o90_3 : Obj := ⟨(.type "code"), none, (.fields #[(.str "__init__" 289), (.str "SameName.__init__" 290), (.str "/claim/cut.py" 291), (.int (20) 0), (.int (2) 0), (.int (0) 0), (.int (0) 0), (.int (3) 0), (.ref 85), (.bool true), (.int (181) 0), (.ref 86), .none, (.ref 87), (.ref 88), (.ref 89), (.int (294) 0), (.int (20) 0), (.str "/claim/cut.py" 295)]), #[]⟩
noncomputable def o91_3 := fo (C 5 0) "__init__" "SameName.__init__" "joinload.errors" 187 90
noncomputable def o92_3 := tu #[(.str "name" 297)]
noncomputable def o93_3 := di [k P "__module__" 284 (.str "joinload.errors" 187), k P "__firstlineno__" 288 (.int (18) 287), k P "__init__" 296 (.ref 91), k P "__static_attributes__" 298 (.ref 92), k P "__doc__" 299 .none] 2
noncomputable def o94_3 : Obj := ⟨(.type "type"), none, (.cls ⟨"SameName", [(.ref 24)], [(.ref 94), (.ref 24), (.type "ValueError"), (.type "Exception"), (.type "BaseException"), (.type "object")], 93, "SameName", true, [], [], false, none, false⟩), #[(some (.ref 78)), none, (some (.str "SameName" 277)), (some (.str "SameName" 285)), (some (.builtin "ValueError.__new__")), (some (.bool true))]⟩
noncomputable def o95_3 := su 94
noncomputable def o96_3 := bs 94
noncomputable def o97_3 := tu #[(.ref 24)]
noncomputable def o98_3 := bp
noncomputable def o99_3 := di [k P "__module__" 309 (.str "joinload.errors" 187), k P "__qualname__" 311 (.str "Unmet" 310), k P "__firstlineno__" 313 (.int (23) 312), k P "__init__" 322 (.ref 110), k P "__static_attributes__" 325 (.ref 111)] 5
noncomputable def o100_3 := e1
noncomputable def o101_3 := nf #[(.int (25) 0), (.int (4) 0), (.ref 109)]
noncomputable def o102_3 := co "Unmet" "Unmet" 304 23 0 0 100 false 101 .none 307
noncomputable def o103_3 := fm 102 99 (.str "joinload.errors" 187)
noncomputable def o104_3 := e1
noncomputable def o105_3 := e2
noncomputable def o106_3 := tu #[(.str "self" 317), (.str "name" 318), (.str "piece" 319)]
noncomputable def o107_3 := e1
noncomputable def o108_3 := ft (C 6 0) "__init__" "Unmet.__init__"
noncomputable def o109_3 : Obj := ⟨(.type "code"), none, (.fields #[(.str "__init__" 314), (.str "Unmet.__init__" 315), (.str "/claim/cut.py" 316), (.int (25) 0), (.int (3) 0), (.int (0) 0), (.int (0) 0), (.int (3) 0), (.ref 104), (.bool true), (.int (181) 0), (.ref 105), .none, (.ref 106), (.ref 107), (.ref 108), (.int (320) 0), (.int (25) 0), (.str "/claim/cut.py" 321)]), #[]⟩
noncomputable def o110_3 := fo (C 6 0) "__init__" "Unmet.__init__" "joinload.errors" 187 109
noncomputable def o111_3 := tu #[(.str "name" 323), (.str "piece" 324)]
noncomputable def o112_3 := di [k P "__module__" 309 (.str "joinload.errors" 187), k P "__firstlineno__" 313 (.int (23) 312), k P "__init__" 322 (.ref 110), k P "__static_attributes__" 325 (.ref 111), k P "__doc__" 326 .none] 2
noncomputable def o113_3 : Obj := ⟨(.type "type"), none, (.cls ⟨"Unmet", [(.ref 24)], [(.ref 113), (.ref 24), (.type "ValueError"), (.type "Exception"), (.type "BaseException"), (.type "object")], 112, "Unmet", true, [], [], false, none, false⟩), #[(some (.ref 97)), none, (some (.str "Unmet" 302)), (some (.str "Unmet" 310)), (some (.builtin "ValueError.__new__")), (some (.bool true))]⟩
noncomputable def o114_3 := su 113
noncomputable def o115_3 := bs 113
noncomputable def d2_0 (P : Params) (r : List (Nat × Obj)) : List (Nat × Obj) := (3, o3_3 P) :: (12, o12_3) :: (24, o24_3) :: (59, o59_3) :: (60, o60_3) :: (61, o61_3 P) :: (62, o62_3) :: (63, o63_3) :: (64, o64_3) :: (65, o65_3) :: (66, o66_3) :: (67, o67_3) :: (68, o68_3) :: (69, o69_3) :: (70, o70_3) :: (71, o71_3) :: (72, o72_3) :: (73, o73_3) :: (74, o74_3 P) :: (75, o75_3) :: (76, o76_3) :: (77, o77_3) :: (78, o78_3) :: (79, o79_3) :: r
noncomputable def d2_1 (P : Params) (r : List (Nat × Obj)) : List (Nat × Obj) := (80, o80_3 P) :: (81, o81_3) :: (82, o82_3) :: (83, o83_3) :: (84, o84_3) :: (85, o85_3) :: (86, o86_3) :: (87, o87_3) :: (88, o88_3) :: (89, o89_3) :: (90, o90_3) :: (91, o91_3) :: (92, o92_3) :: (93, o93_3 P) :: (94, o94_3) :: (95, o95_3) :: (96, o96_3) :: (97, o97_3) :: (98, o98_3) :: (99, o99_3 P) :: (100, o100_3) :: (101, o101_3) :: (102, o102_3) :: (103, o103_3) :: r
noncomputable def d2_2 (P : Params) (r : List (Nat × Obj)) : List (Nat × Obj) := (104, o104_3) :: (105, o105_3) :: (106, o106_3) :: (107, o107_3) :: (108, o108_3) :: (109, o109_3) :: (110, o110_3) :: (111, o111_3) :: (112, o112_3 P) :: (113, o113_3) :: (114, o114_3) :: (115, o115_3) :: r
noncomputable def T2 (P : Params) : BT := mg 14 (T1 P) (d2_0 P (d2_1 P (d2_2 P ([]))))
noncomputable def S2T (w : World) : OsState → SharedT := sT (T2 w.params) 116 329
noncomputable def L1 : List Stmt := My.top 4 :: My.top 5 :: My.top 6 :: []
def P1 (w : World) : Prop := sR w 742 S1T S2T L1 ⟨6, 0, 10, 22⟩ ⟨23, 0, 28, 26⟩
noncomputable def g3_4 (P : Params) : List DictEntry := g3_3 P ++ [k P "TooFar" 359 (.ref 132), k P "NoWhole" 384 (.ref 151), k P "NoBase" 409 (.ref 170)]
noncomputable def o3_4 : Obj := ⟨(.type "dict"), none, .dict (g3_4 P).toArray 18, #[]⟩
noncomputable def o12_4 := nf #[(.int (2) 0), (.int (0) 0), (.ref 20), (.int (4) 0), (.int (0) 0), (.ref 33), (.int (6) 0), (.int (0) 0), (.ref 45), (.int (11) 0), (.int (0) 0), (.ref 64), (.int (18) 0), (.int (0) 0), (.ref 83), (.int (23) 0), (.int (0) 0), (.ref 102), (.int (29) 0), (.int (0) 0), (.ref 121), (.int (37) 0), (.int (0) 0), (.ref 140), (.int (42) 0), (.int (0) 0), (.ref 159)]
noncomputable def o24_4 : Obj := ⟨(.type "type"), none, (.cls ⟨"JoinError", [(.type "ValueError")], [(.ref 24), (.type "ValueError"), (.type "Exception"), (.type "BaseException"), (.type "object")], 23, "JoinError", true, [], [(.ref 37), (.ref 56), (.ref 75), (.ref 94), (.ref 113), (.ref 132), (.ref 151), (.ref 170)], false, none, false⟩), #[(some (.ref 15)), none, (some (.str "JoinError" 189)), (some (.str "JoinError" 197)), (some (.builtin "ValueError.__new__")), (some (.bool true))]⟩
noncomputable def o116_4 := tu #[(.ref 24)]
noncomputable def o117_4 := bp
noncomputable def o118_4 := di [k P "__module__" 336 (.str "joinload.errors" 187), k P "__qualname__" 338 (.str "TooFar" 337), k P "__firstlineno__" 340 (.int (29) 339), k P "__init__" 351 (.ref 129), k P "__static_attributes__" 356 (.ref 130)] 5
noncomputable def o119_4 := e1
noncomputable def o120_4 := nf #[(.int (31) 0), (.int (4) 0), (.ref 128)]
noncomputable def o121_4 := co "TooFar" "TooFar" 331 29 0 0 119 false 120 .none 334
noncomputable def o122_4 := fm 121 118 (.str "joinload.errors" 187)
noncomputable def o123_4 := e1
noncomputable def o124_4 := e2
noncomputable def o125_4 := tu #[(.str "self" 344), (.str "name" 345), (.str "piece" 346), (.str "stretch" 347), (.str "at" 348)]
noncomputable def o126_4 := e1
noncomputable def o127_4 := ft (C 7 0) "__init__" "TooFar.__init__"
noncomputable def o128_4 : Obj := ⟨(.type "code"), none, (.fields #[(.str "__init__" 341), (.str "TooFar.__init__" 342), (.str "/claim/cut.py" 343), (.int (31) 0), (.int (5) 0), (.int (0) 0), (.int (0) 0), (.int (3) 0), (.ref 123), (.bool true), (.int (181) 0), (.ref 124), .none, (.ref 125), (.ref 126), (.ref 127), (.int (349) 0), (.int (31) 0), (.str "/claim/cut.py" 350)]), #[]⟩
noncomputable def o129_4 := fo (C 7 0) "__init__" "TooFar.__init__" "joinload.errors" 187 128
noncomputable def o130_4 := tu #[(.str "at" 352), (.str "name" 353), (.str "piece" 354), (.str "stretch" 355)]
noncomputable def o131_4 := di [k P "__module__" 336 (.str "joinload.errors" 187), k P "__firstlineno__" 340 (.int (29) 339), k P "__init__" 351 (.ref 129), k P "__static_attributes__" 356 (.ref 130), k P "__doc__" 357 .none] 2
noncomputable def o132_4 : Obj := ⟨(.type "type"), none, (.cls ⟨"TooFar", [(.ref 24)], [(.ref 132), (.ref 24), (.type "ValueError"), (.type "Exception"), (.type "BaseException"), (.type "object")], 131, "TooFar", true, [], [], false, none, false⟩), #[(some (.ref 116)), none, (some (.str "TooFar" 329)), (some (.str "TooFar" 337)), (some (.builtin "ValueError.__new__")), (some (.bool true))]⟩
noncomputable def o133_4 := su 132
noncomputable def o134_4 := bs 132
noncomputable def o135_4 := tu #[(.ref 24)]
noncomputable def o136_4 := bp
noncomputable def o137_4 := di [k P "__module__" 367 (.str "joinload.errors" 187), k P "__qualname__" 369 (.str "NoWhole" 368), k P "__firstlineno__" 371 (.int (37) 370), k P "__init__" 379 (.ref 148), k P "__static_attributes__" 381 (.ref 149)] 5
noncomputable def o138_4 := e1
noncomputable def o139_4 := nf #[(.int (39) 0), (.int (4) 0), (.ref 147)]
noncomputable def o140_4 := co "NoWhole" "NoWhole" 362 37 0 0 138 false 139 .none 365
noncomputable def o141_4 := fm 140 137 (.str "joinload.errors" 187)
noncomputable def o142_4 := e1
noncomputable def o143_4 := e2
noncomputable def o144_4 := tu #[(.str "self" 375), (.str "row" 376)]
noncomputable def o145_4 := e1
noncomputable def o146_4 := ft (C 8 0) "__init__" "NoWhole.__init__"
noncomputable def o147_4 : Obj := ⟨(.type "code"), none, (.fields #[(.str "__init__" 372), (.str "NoWhole.__init__" 373), (.str "/claim/cut.py" 374), (.int (39) 0), (.int (2) 0), (.int (0) 0), (.int (0) 0), (.int (3) 0), (.ref 142), (.bool true), (.int (181) 0), (.ref 143), .none, (.ref 144), (.ref 145), (.ref 146), (.int (377) 0), (.int (39) 0), (.str "/claim/cut.py" 378)]), #[]⟩
noncomputable def o148_4 := fo (C 8 0) "__init__" "NoWhole.__init__" "joinload.errors" 187 147
noncomputable def o149_4 := tu #[(.str "row" 380)]
noncomputable def o150_4 := di [k P "__module__" 367 (.str "joinload.errors" 187), k P "__firstlineno__" 371 (.int (37) 370), k P "__init__" 379 (.ref 148), k P "__static_attributes__" 381 (.ref 149), k P "__doc__" 382 .none] 2
noncomputable def o151_4 : Obj := ⟨(.type "type"), none, (.cls ⟨"NoWhole", [(.ref 24)], [(.ref 151), (.ref 24), (.type "ValueError"), (.type "Exception"), (.type "BaseException"), (.type "object")], 150, "NoWhole", true, [], [], false, none, false⟩), #[(some (.ref 135)), none, (some (.str "NoWhole" 360)), (some (.str "NoWhole" 368)), (some (.builtin "ValueError.__new__")), (some (.bool true))]⟩
noncomputable def o152_4 := su 151
noncomputable def o153_4 := bs 151
noncomputable def o154_4 := tu #[(.ref 24)]
noncomputable def o155_4 := bp
noncomputable def o156_4 := di [k P "__module__" 392 (.str "joinload.errors" 187), k P "__qualname__" 394 (.str "NoBase" 393), k P "__firstlineno__" 396 (.int (42) 395), k P "__init__" 404 (.ref 167), k P "__static_attributes__" 406 (.ref 168)] 5
noncomputable def o157_4 := e1
noncomputable def o158_4 := nf #[(.int (44) 0), (.int (4) 0), (.ref 166)]
noncomputable def o159_4 := co "NoBase" "NoBase" 387 42 0 0 157 false 158 .none 390
noncomputable def o160_4 := fm 159 156 (.str "joinload.errors" 187)
noncomputable def o161_4 := e1
noncomputable def o162_4 := e2
noncomputable def o163_4 := tu #[(.str "self" 400), (.str "base" 401)]
noncomputable def o164_4 := e1
noncomputable def o165_4 := ft (C 9 0) "__init__" "NoBase.__init__"
noncomputable def o166_4 : Obj := ⟨(.type "code"), none, (.fields #[(.str "__init__" 397), (.str "NoBase.__init__" 398), (.str "/claim/cut.py" 399), (.int (44) 0), (.int (2) 0), (.int (0) 0), (.int (0) 0), (.int (3) 0), (.ref 161), (.bool true), (.int (181) 0), (.ref 162), .none, (.ref 163), (.ref 164), (.ref 165), (.int (402) 0), (.int (44) 0), (.str "/claim/cut.py" 403)]), #[]⟩
noncomputable def o167_4 := fo (C 9 0) "__init__" "NoBase.__init__" "joinload.errors" 187 166
noncomputable def o168_4 := tu #[(.str "base" 405)]
noncomputable def o169_4 := di [k P "__module__" 392 (.str "joinload.errors" 187), k P "__firstlineno__" 396 (.int (42) 395), k P "__init__" 404 (.ref 167), k P "__static_attributes__" 406 (.ref 168), k P "__doc__" 407 .none] 2
noncomputable def o170_4 : Obj := ⟨(.type "type"), none, (.cls ⟨"NoBase", [(.ref 24)], [(.ref 170), (.ref 24), (.type "ValueError"), (.type "Exception"), (.type "BaseException"), (.type "object")], 169, "NoBase", true, [], [], false, none, false⟩), #[(some (.ref 154)), none, (some (.str "NoBase" 385)), (some (.str "NoBase" 393)), (some (.builtin "ValueError.__new__")), (some (.bool true))]⟩
noncomputable def o171_4 := su 170
noncomputable def o172_4 := bs 170
noncomputable def d3_0 (P : Params) (r : List (Nat × Obj)) : List (Nat × Obj) := (3, o3_4 P) :: (12, o12_4) :: (24, o24_4) :: (116, o116_4) :: (117, o117_4) :: (118, o118_4 P) :: (119, o119_4) :: (120, o120_4) :: (121, o121_4) :: (122, o122_4) :: (123, o123_4) :: (124, o124_4) :: (125, o125_4) :: (126, o126_4) :: (127, o127_4) :: (128, o128_4) :: (129, o129_4) :: (130, o130_4) :: (131, o131_4 P) :: (132, o132_4) :: (133, o133_4) :: (134, o134_4) :: (135, o135_4) :: (136, o136_4) :: r
noncomputable def d3_1 (P : Params) (r : List (Nat × Obj)) : List (Nat × Obj) := (137, o137_4 P) :: (138, o138_4) :: (139, o139_4) :: (140, o140_4) :: (141, o141_4) :: (142, o142_4) :: (143, o143_4) :: (144, o144_4) :: (145, o145_4) :: (146, o146_4) :: (147, o147_4) :: (148, o148_4) :: (149, o149_4) :: (150, o150_4 P) :: (151, o151_4) :: (152, o152_4) :: (153, o153_4) :: (154, o154_4) :: (155, o155_4) :: (156, o156_4 P) :: (157, o157_4) :: (158, o158_4) :: (159, o159_4) :: (160, o160_4) :: r
noncomputable def d3_2 (P : Params) (r : List (Nat × Obj)) : List (Nat × Obj) := (161, o161_4) :: (162, o162_4) :: (163, o163_4) :: (164, o164_4) :: (165, o165_4) :: (166, o166_4) :: (167, o167_4) :: (168, o168_4) :: (169, o169_4 P) :: (170, o170_4) :: (171, o171_4) :: (172, o172_4) :: r
noncomputable def T3 (P : Params) : BT := mg 14 (T2 P) (d3_0 P (d3_1 P (d3_2 P ([]))))
noncomputable def S3T (w : World) : OsState → SharedT := sT (T3 w.params) 173 410
noncomputable def L2 : List Stmt := My.top 7 :: My.top 8 :: My.top 9 :: []
def P2 (w : World) : Prop := sR w 742 S2T S3T L2 ⟨23, 0, 28, 26⟩ ⟨42, 0, 46, 24⟩
noncomputable def g3_5 (P : Params) : List DictEntry := sv (g3_4 P) 0 (.str "joinload.wholes" 469) ++ [k P "Lost" 434 (.ref 189), k P "NoSense" 450 (.ref 201), k P "FIGURES" 454 (.str "0123456789" 453), k P "number_of" 460 (.ref 208), k P "step_in" 468 (.ref 215), k P "LEANING_RULES" 474 (.ref 216), k P "HOW_MANY_PARTS" 487 (.ref 217), k P "shown_whole" 503 (.ref 224), k P "lean_rows" 514 (.ref 231), k P "read_whole" 524 (.ref 238)]
noncomputable def o3_5 : Obj := ⟨(.type "dict"), none, .dict (g3_5 P).toArray 28, #[]⟩
noncomputable def o12_5 := nf #[(.int (2) 0), (.int (0) 0), (.ref 20), (.int (4) 0), (.int (0) 0), (.ref 33), (.int (6) 0), (.int (0) 0), (.ref 45), (.int (11) 0), (.int (0) 0), (.ref 64), (.int (18) 0), (.int (0) 0), (.ref 83), (.int (23) 0), (.int (0) 0), (.ref 102), (.int (29) 0), (.int (0) 0), (.ref 121), (.int (37) 0), (.int (0) 0), (.ref 140), (.int (42) 0), (.int (0) 0), (.ref 159), (.int (47) 0), (.int (0) 0), (.ref 178), (.int (52) 0), (.int (0) 0), (.ref 197), (.int (56) 0), (.int (0) 0), (.ref 207), (.int (64) 0), (.int (0) 0), (.ref 214), (.int (72) 0), (.int (0) 0), (.ref 223), (.int (84) 0), (.int (0) 0), (.ref 230), (.int (89) 0), (.int (0) 0), (.ref 237)]
noncomputable def o24_5 : Obj := ⟨(.type "type"), none, (.cls ⟨"JoinError", [(.type "ValueError")], [(.ref 24), (.type "ValueError"), (.type "Exception"), (.type "BaseException"), (.type "object")], 23, "JoinError", true, [], [(.ref 37), (.ref 56), (.ref 75), (.ref 94), (.ref 113), (.ref 132), (.ref 151), (.ref 170), (.ref 189), (.ref 201)], false, none, false⟩), #[(some (.ref 15)), none, (some (.str "JoinError" 189)), (some (.str "JoinError" 197)), (some (.builtin "ValueError.__new__")), (some (.bool true))]⟩
noncomputable def o173_5 := tu #[(.ref 24)]
noncomputable def o174_5 := bp
noncomputable def o175_5 := di [k P "__module__" 417 (.str "joinload.errors" 187), k P "__qualname__" 419 (.str "Lost" 418), k P "__firstlineno__" 421 (.int (47) 420), k P "__init__" 429 (.ref 186), k P "__static_attributes__" 431 (.ref 187)] 5
noncomputable def o176_5 := e1
noncomputable def o177_5 := nf #[(.int (49) 0), (.int (4) 0), (.ref 185)]
noncomputable def o178_5 := co "Lost" "Lost" 412 47 0 0 176 false 177 .none 415
noncomputable def o179_5 := fm 178 175 (.str "joinload.errors" 187)
noncomputable def o180_5 := e1
noncomputable def o181_5 := e2
noncomputable def o182_5 := tu #[(.str "self" 425), (.str "place" 426)]
noncomputable def o183_5 := e1
noncomputable def o184_5 := ft (C 10 0) "__init__" "Lost.__init__"
noncomputable def o185_5 : Obj := ⟨(.type "code"), none, (.fields #[(.str "__init__" 422), (.str "Lost.__init__" 423), (.str "/claim/cut.py" 424), (.int (49) 0), (.int (2) 0), (.int (0) 0), (.int (0) 0), (.int (3) 0), (.ref 180), (.bool true), (.int (181) 0), (.ref 181), .none, (.ref 182), (.ref 183), (.ref 184), (.int (427) 0), (.int (49) 0), (.str "/claim/cut.py" 428)]), #[]⟩
noncomputable def o186_5 := fo (C 10 0) "__init__" "Lost.__init__" "joinload.errors" 187 185
noncomputable def o187_5 := tu #[(.str "place" 430)]
noncomputable def o188_5 := di [k P "__module__" 417 (.str "joinload.errors" 187), k P "__firstlineno__" 421 (.int (47) 420), k P "__init__" 429 (.ref 186), k P "__static_attributes__" 431 (.ref 187), k P "__doc__" 432 .none] 2
noncomputable def o189_5 : Obj := ⟨(.type "type"), none, (.cls ⟨"Lost", [(.ref 24)], [(.ref 189), (.ref 24), (.type "ValueError"), (.type "Exception"), (.type "BaseException"), (.type "object")], 188, "Lost", true, [], [], false, none, false⟩), #[(some (.ref 173)), none, (some (.str "Lost" 410)), (some (.str "Lost" 418)), (some (.builtin "ValueError.__new__")), (some (.bool true))]⟩
noncomputable def o190_5 := su 189
noncomputable def o191_5 := bs 189
noncomputable def o192_5 := tu #[(.ref 24)]
noncomputable def o193_5 := bp
noncomputable def o194_5 := di [k P "__module__" 442 (.str "joinload.errors" 187), k P "__qualname__" 444 (.str "NoSense" 443), k P "__firstlineno__" 446 (.int (52) 445), k P "__static_attributes__" 447 (.ref 199)] 4
noncomputable def o195_5 := e1
noncomputable def o196_5 := e2
noncomputable def o197_5 := co "NoSense" "NoSense" 437 52 0 0 195 false 196 .none 440
noncomputable def o198_5 := fm 197 194 (.str "joinload.errors" 187)
noncomputable def o199_5 := e1
noncomputable def o200_5 := di [k P "__module__" 442 (.str "joinload.errors" 187), k P "__firstlineno__" 446 (.int (52) 445), k P "__static_attributes__" 447 (.ref 199), k P "__doc__" 448 .none] 2
noncomputable def o201_5 : Obj := ⟨(.type "type"), none, (.cls ⟨"NoSense", [(.ref 24)], [(.ref 201), (.ref 24), (.type "ValueError"), (.type "Exception"), (.type "BaseException"), (.type "object")], 200, "NoSense", true, [], [], false, none, false⟩), #[(some (.ref 192)), none, (some (.str "NoSense" 435)), (some (.str "NoSense" 443)), (some (.builtin "ValueError.__new__")), (some (.bool true))]⟩
noncomputable def o202_5 := su 201
noncomputable def o203_5 := bs 201
noncomputable def o204_5 := e1
noncomputable def o205_5 := e2
noncomputable def o206_5 := ft (T 14) "number_of" "number_of"
noncomputable def o207_5 := co "number_of" "number_of" 455 56 3 3 204 true 205 (.ref 206) 458
noncomputable def o208_5 := fo (T 14) "number_of" "number_of" "joinload.pieces" 451 207
noncomputable def o209_5 := e1
noncomputable def o210_5 := e2
noncomputable def o211_5 := tu #[(.str "text" 464), (.str "step" 465)]
noncomputable def o212_5 := e1
noncomputable def o213_5 := ft (T 15) "step_in" "step_in"
noncomputable def o214_5 : Obj := ⟨(.type "code"), none, (.fields #[(.str "step_in" 461), (.str "step_in" 462), (.str "/claim/cut.py" 463), (.int (64) 0), (.int (1) 0), (.int (0) 0), (.int (0) 0), (.int (3) 0), (.ref 209), (.bool true), (.int (181) 0), (.ref 210), .none, (.ref 211), (.ref 212), (.ref 213), (.int (466) 0), (.int (64) 0), (.str "/claim/cut.py" 467)]), #[]⟩
noncomputable def o215_5 := fo (T 15) "step_in" "step_in" "joinload.pieces" 451 214
noncomputable def o216_5 := tu #[(.str "whole" 471), (.str "high" 472), (.str "low" 473)]
noncomputable def o217_5 := di [k P "whole" 475 (.int (4) 476), k P "part" 477 (.int (2) 478), k P "word" 479 (.int (2) 480), k P "lean" 481 (.int (3) 482)] 4
noncomputable def o218_5 := e1
noncomputable def o219_5 := e2
noncomputable def o220_5 := tu #[(.str "whole" 491), (.str "step" 492), (.str "size" 493), (.str "entry" 494), (.str "leans" 495), (.str "rows" 496), (.str "place" 497), (.str "words" 498), (.str "at" 499), (.str "word" 500)]
noncomputable def o221_5 := e1
noncomputable def o222_5 := ft (T 19) "shown_whole" "shown_whole"
noncomputable def o223_5 : Obj := ⟨(.type "code"), none, (.fields #[(.str "shown_whole" 488), (.str "shown_whole" 489), (.str "/claim/cut.py" 490), (.int (72) 0), (.int (1) 0), (.int (0) 0), (.int (0) 0), (.int (3) 0), (.ref 218), (.bool true), (.int (181) 0), (.ref 219), .none, (.ref 220), (.ref 221), (.ref 222), (.int (501) 0), (.int (72) 0), (.str "/claim/cut.py" 502)]), #[]⟩
noncomputable def o224_5 := fo (T 19) "shown_whole" "shown_whole" "joinload.wholes" 469 223
noncomputable def o225_5 := e1
noncomputable def o226_5 := e2
noncomputable def o227_5 := tu #[(.str "leans" 507), (.str "rows" 508), (.str "place" 509), (.str "rule" 510), (.str "target" 511)]
noncomputable def o228_5 := e1
noncomputable def o229_5 := ft (T 20) "lean_rows" "lean_rows"
noncomputable def o230_5 : Obj := ⟨(.type "code"), none, (.fields #[(.str "lean_rows" 504), (.str "lean_rows" 505), (.str "/claim/cut.py" 506), (.int (84) 0), (.int (1) 0), (.int (0) 0), (.int (0) 0), (.int (3) 0), (.ref 225), (.bool true), (.int (181) 0), (.ref 226), .none, (.ref 227), (.ref 228), (.ref 229), (.int (512) 0), (.int (84) 0), (.str "/claim/cut.py" 513)]), #[]⟩
noncomputable def o231_5 := fo (T 20) "lean_rows" "lean_rows" "joinload.wholes" 469 230
noncomputable def o232_5 := e1
noncomputable def o233_5 := e2
noncomputable def o234_5 := tu #[(.str "text" 518), (.str "reading" 519), (.str "number" 520), (.str "row" 521)]
noncomputable def o235_5 := e1
noncomputable def o236_5 := ft (T 21) "read_whole" "read_whole"
noncomputable def o237_5 : Obj := ⟨(.type "code"), none, (.fields #[(.str "read_whole" 515), (.str "read_whole" 516), (.str "/claim/cut.py" 517), (.int (89) 0), (.int (1) 0), (.int (0) 0), (.int (0) 0), (.int (3) 0), (.ref 232), (.bool true), (.int (181) 0), (.ref 233), .none, (.ref 234), (.ref 235), (.ref 236), (.int (522) 0), (.int (89) 0), (.str "/claim/cut.py" 523)]), #[]⟩
noncomputable def o238_5 := fo (T 21) "read_whole" "read_whole" "joinload.wholes" 469 237
noncomputable def d4_0 (P : Params) (r : List (Nat × Obj)) : List (Nat × Obj) := (3, o3_5 P) :: (12, o12_5) :: (24, o24_5) :: (173, o173_5) :: (174, o174_5) :: (175, o175_5 P) :: (176, o176_5) :: (177, o177_5) :: (178, o178_5) :: (179, o179_5) :: (180, o180_5) :: (181, o181_5) :: (182, o182_5) :: (183, o183_5) :: (184, o184_5) :: (185, o185_5) :: (186, o186_5) :: (187, o187_5) :: (188, o188_5 P) :: (189, o189_5) :: (190, o190_5) :: (191, o191_5) :: (192, o192_5) :: (193, o193_5) :: r
noncomputable def d4_1 (P : Params) (r : List (Nat × Obj)) : List (Nat × Obj) := (194, o194_5 P) :: (195, o195_5) :: (196, o196_5) :: (197, o197_5) :: (198, o198_5) :: (199, o199_5) :: (200, o200_5 P) :: (201, o201_5) :: (202, o202_5) :: (203, o203_5) :: (204, o204_5) :: (205, o205_5) :: (206, o206_5) :: (207, o207_5) :: (208, o208_5) :: (209, o209_5) :: (210, o210_5) :: (211, o211_5) :: (212, o212_5) :: (213, o213_5) :: (214, o214_5) :: (215, o215_5) :: (216, o216_5) :: (217, o217_5 P) :: r
noncomputable def d4_2 (P : Params) (r : List (Nat × Obj)) : List (Nat × Obj) := (218, o218_5) :: (219, o219_5) :: (220, o220_5) :: (221, o221_5) :: (222, o222_5) :: (223, o223_5) :: (224, o224_5) :: (225, o225_5) :: (226, o226_5) :: (227, o227_5) :: (228, o228_5) :: (229, o229_5) :: (230, o230_5) :: (231, o231_5) :: (232, o232_5) :: (233, o233_5) :: (234, o234_5) :: (235, o235_5) :: (236, o236_5) :: (237, o237_5) :: (238, o238_5) :: r
noncomputable def T4 (P : Params) : BT := mg 14 (T3 P) (d4_0 P (d4_1 P (d4_2 P ([]))))
noncomputable def S4T (w : World) : OsState → SharedT := sT (T4 w.params) 239 525
noncomputable def L3 : List Stmt := My.top 10 :: My.top 11 :: My.top 12 :: My.top 13 :: My.top 14 :: My.top 15 :: My.top 16 :: My.top 17 :: My.top 18 :: My.top 19 :: My.top 20 :: My.top 21 :: []
def P3 (w : World) : Prop := sR w 728 S3T S4T L3 ⟨42, 0, 46, 24⟩ ⟨89, 0, 94, 86⟩
noncomputable def g3_6 (P : Params) : List DictEntry := sv (g3_5 P) 0 (.str "law_joinload_k42_the_first_bad_row_of_a_whol" 608) ++ [k P "WholeReading" 607 (.ref 290), k P "_law_whole" 616 (.ref 301), k P "_law_cell_at" 624 (.ref 308), k P "_law_target_by" 631 (.ref 315), k P "_law_put" 646 (.ref 322), k P "_law_end" 653 (.ref 329), k P "_law_built" 670 (.ref 336), k P "_law_odd_row" 679 (.ref 343), k P "_law_odd_first" 689 (.ref 350), k P "_law_end_behind" 698 (.ref 357), k P "_law_spoiled" 711 (.ref 364), k P "_law_told_of" 720 (.ref 371), k P "_law_refused" 728 (.ref 378), k P "_law_holds" 742 (.ref 385), k P "law" 753 (.ref 392)]
noncomputable def o3_6 : Obj := ⟨(.type "dict"), none, .dict (g3_6 P).toArray 43, #[]⟩
noncomputable def o12_6 := nf #[(.int (2) 0), (.int (0) 0), (.ref 20), (.int (4) 0), (.int (0) 0), (.ref 33), (.int (6) 0), (.int (0) 0), (.ref 45), (.int (11) 0), (.int (0) 0), (.ref 64), (.int (18) 0), (.int (0) 0), (.ref 83), (.int (23) 0), (.int (0) 0), (.ref 102), (.int (29) 0), (.int (0) 0), (.ref 121), (.int (37) 0), (.int (0) 0), (.ref 140), (.int (42) 0), (.int (0) 0), (.ref 159), (.int (47) 0), (.int (0) 0), (.ref 178), (.int (52) 0), (.int (0) 0), (.ref 197), (.int (56) 0), (.int (0) 0), (.ref 207), (.int (64) 0), (.int (0) 0), (.ref 214), (.int (72) 0), (.int (0) 0), (.ref 223), (.int (84) 0), (.int (0) 0), (.ref 230), (.int (89) 0), (.int (0) 0), (.ref 237), (.int (95) 0), (.int (0) 0), (.ref 244), (.int (153) 0), (.int (0) 0), (.ref 300), (.int (155) 0), (.int (0) 0), (.ref 307), (.int (159) 0), (.int (0) 0), (.ref 314), (.int (165) 0), (.int (0) 0), (.ref 321), (.int (183) 0), (.int (0) 0), (.ref 328), (.int (187) 0), (.int (0) 0), (.ref 335), (.int (200) 0), (.int (0) 0), (.ref 342), (.int (211) 0), (.int (0) 0), (.ref 349), (.int (218) 0), (.int (0) 0), (.ref 356), (.int (226) 0), (.int (0) 0), (.ref 363), (.int (248) 0), (.int (0) 0), (.ref 370), (.int (255) 0), (.int (0) 0), (.ref 377), (.int (261) 0), (.int (0) 0), (.ref 384), (.int (268) 0), (.int (0) 0), (.ref 391)]
noncomputable def o239_6 := e1
noncomputable def o240_6 := bp
noncomputable def g241_6 (P : Params) : List DictEntry := [k P "__module__" 532 (.str "joinload.wholes" 469), k P "__qualname__" 534 (.str "WholeReading" 533), k P "__firstlineno__" 536 (.int (95) 535), k P "__init__" 543 (.ref 252), k P "takes" 553 (.ref 259), k P "takes_whole" 563 (.ref 266), k P "takes_part" 572 (.ref 273), k P "takes_word" 581 (.ref 280), k P "takes_lean" 591 (.ref 287), k P "__static_attributes__" 600 (.ref 288)]
noncomputable def o241_6 : Obj := ⟨(.type "dict"), none, .dict (g241_6 P).toArray 10, #[]⟩
noncomputable def o242_6 := e1
noncomputable def o243_6 := nf #[(.int (97) 0), (.int (4) 0), (.ref 251), (.int (107) 0), (.int (4) 0), (.ref 258), (.int (121) 0), (.int (4) 0), (.ref 265), (.int (129) 0), (.int (4) 0), (.ref 272), (.int (138) 0), (.int (4) 0), (.ref 279), (.int (146) 0), (.int (4) 0), (.ref 286)]
noncomputable def o244_6 := co "WholeReading" "WholeReading" 527 95 0 0 242 false 243 .none 530
noncomputable def o245_6 := fm 244 241 (.str "joinload.wholes" 469)
noncomputable def o246_6 := e1
noncomputable def o247_6 := e2
noncomputable def o248_6 := tu #[(.str "self" 540)]
noncomputable def o249_6 := e1
noncomputable def o250_6 := ft (C 22 0) "__init__" "WholeReading.__init__"
noncomputable def o251_6 : Obj := ⟨(.type "code"), none, (.fields #[(.str "__init__" 537), (.str "WholeReading.__init__" 538), (.str "/claim/cut.py" 539), (.int (97) 0), (.int (1) 0), (.int (0) 0), (.int (0) 0), (.int (3) 0), (.ref 246), (.bool true), (.int (181) 0), (.ref 247), .none, (.ref 248), (.ref 249), (.ref 250), (.int (541) 0), (.int (97) 0), (.str "/claim/cut.py" 542)]), #[]⟩
noncomputable def o252_6 := fo (C 22 0) "__init__" "WholeReading.__init__" "joinload.wholes" 469 251
noncomputable def o253_6 := e1
noncomputable def o254_6 := e2
noncomputable def o255_6 := tu #[(.str "self" 547), (.str "parts" 548), (.str "head" 549), (.str "behind_word" 550)]
noncomputable def o256_6 := e1
noncomputable def o257_6 := ft (C 22 1) "takes" "WholeReading.takes"
noncomputable def o258_6 : Obj := ⟨(.type "code"), none, (.fields #[(.str "takes" 544), (.str "WholeReading.takes" 545), (.str "/claim/cut.py" 546), (.int (107) 0), (.int (2) 0), (.int (0) 0), (.int (0) 0), (.int (3) 0), (.ref 253), (.bool true), (.int (181) 0), (.ref 254), .none, (.ref 255), (.ref 256), (.ref 257), (.int (551) 0), (.int (107) 0), (.str "/claim/cut.py" 552)]), #[]⟩
noncomputable def o259_6 := fo (C 22 1) "takes" "WholeReading.takes" "joinload.wholes" 469 258
noncomputable def o260_6 := e1
noncomputable def o261_6 := e2
noncomputable def o262_6 := tu #[(.str "self" 557), (.str "step" 558), (.str "size" 559), (.str "entry" 560)]
noncomputable def o263_6 := e1
noncomputable def o264_6 := ft (C 22 2) "takes_whole" "WholeReading.takes_whole"
noncomputable def o265_6 : Obj := ⟨(.type "code"), none, (.fields #[(.str "takes_whole" 554), (.str "WholeReading.takes_whole" 555), (.str "/claim/cut.py" 556), (.int (121) 0), (.int (4) 0), (.int (0) 0), (.int (0) 0), (.int (3) 0), (.ref 260), (.bool true), (.int (181) 0), (.ref 261), .none, (.ref 262), (.ref 263), (.ref 264), (.int (561) 0), (.int (121) 0), (.str "/claim/cut.py" 562)]), #[]⟩
noncomputable def o266_6 := fo (C 22 2) "takes_whole" "WholeReading.takes_whole" "joinload.wholes" 469 265
noncomputable def o267_6 := e1
noncomputable def o268_6 := e2
noncomputable def o269_6 := tu #[(.str "self" 567), (.str "text" 568), (.str "place" 569)]
noncomputable def o270_6 := e1
noncomputable def o271_6 := ft (C 22 3) "takes_part" "WholeReading.takes_part"
noncomputable def o272_6 : Obj := ⟨(.type "code"), none, (.fields #[(.str "takes_part" 564), (.str "WholeReading.takes_part" 565), (.str "/claim/cut.py" 566), (.int (129) 0), (.int (2) 0), (.int (0) 0), (.int (0) 0), (.int (3) 0), (.ref 267), (.bool true), (.int (181) 0), (.ref 268), .none, (.ref 269), (.ref 270), (.ref 271), (.int (570) 0), (.int (129) 0), (.str "/claim/cut.py" 571)]), #[]⟩
noncomputable def o273_6 := fo (C 22 3) "takes_part" "WholeReading.takes_part" "joinload.wholes" 469 272
noncomputable def o274_6 := e1
noncomputable def o275_6 := e2
noncomputable def o276_6 := tu #[(.str "self" 576), (.str "text" 577), (.str "word" 578)]
noncomputable def o277_6 := e1
noncomputable def o278_6 := ft (C 22 4) "takes_word" "WholeReading.takes_word"
noncomputable def o279_6 : Obj := ⟨(.type "code"), none, (.fields #[(.str "takes_word" 573), (.str "WholeReading.takes_word" 574), (.str "/claim/cut.py" 575), (.int (138) 0), (.int (2) 0), (.int (0) 0), (.int (0) 0), (.int (3) 0), (.ref 274), (.bool true), (.int (181) 0), (.ref 275), .none, (.ref 276), (.ref 277), (.ref 278), (.int (579) 0), (.int (138) 0), (.str "/claim/cut.py" 580)]), #[]⟩
noncomputable def o280_6 := fo (C 22 4) "takes_word" "WholeReading.takes_word" "joinload.wholes" 469 279
noncomputable def o281_6 := e1
noncomputable def o282_6 := e2
noncomputable def o283_6 := tu #[(.str "self" 585), (.str "rule" 586), (.str "text" 587), (.str "target" 588)]
noncomputable def o284_6 := e1
noncomputable def o285_6 := ft (C 22 5) "takes_lean" "WholeReading.takes_lean"
noncomputable def o286_6 : Obj := ⟨(.type "code"), none, (.fields #[(.str "takes_lean" 582), (.str "WholeReading.takes_lean" 583), (.str "/claim/cut.py" 584), (.int (146) 0), (.int (3) 0), (.int (0) 0), (.int (0) 0), (.int (3) 0), (.ref 281), (.bool true), (.int (181) 0), (.ref 282), .none, (.ref 283), (.ref 284), (.ref 285), (.int (589) 0), (.int (146) 0), (.str "/claim/cut.py" 590)]), #[]⟩
noncomputable def o287_6 := fo (C 22 5) "takes_lean" "WholeReading.takes_lean" "joinload.wholes" 469 286
noncomputable def o288_6 := tu #[(.str "behind_word" 592), (.str "end" 593), (.str "entry" 594), (.str "last_words" 595), (.str "leaning" 596), (.str "parts" 597), (.str "size" 598), (.str "step" 599)]
noncomputable def g289_6 (P : Params) : List DictEntry := [k P "__module__" 532 (.str "joinload.wholes" 469), k P "__firstlineno__" 536 (.int (95) 535), k P "__init__" 543 (.ref 252), k P "takes" 553 (.ref 259), k P "takes_whole" 563 (.ref 266), k P "takes_part" 572 (.ref 273), k P "takes_word" 581 (.ref 280), k P "takes_lean" 591 (.ref 287), k P "__static_attributes__" 600 (.ref 288), k P "__dict__" 602 (.ref 291), k P "__weakref__" 604 (.ref 292), k P "__doc__" 605 .none]
noncomputable def o289_6 : Obj := ⟨(.type "dict"), none, .dict (g289_6 P).toArray 4, #[]⟩
noncomputable def o290_6 : Obj := ⟨(.type "type"), none, (.cls ⟨"WholeReading", [(.type "object")], [(.ref 290), (.type "object")], 289, "WholeReading", true, [], [], false, none, false⟩), #[none, none, (some (.str "WholeReading" 525)), (some (.str "WholeReading" 533)), (some (.builtin "object.__new__")), (some (.bool true))]⟩
noncomputable def o291_6 : Obj := ⟨(.type "getset_descriptor"), none, (.fields #[(.str "__dict__" 601), (.ref 290), (.builtin "function.__dict__"), (.builtin "function.__dict__#set")]), #[]⟩
noncomputable def o292_6 : Obj := ⟨(.type "getset_descriptor"), none, (.fields #[(.str "__weakref__" 603), (.ref 290), (.builtin "ExceptionGroup.__weakref__"), .none]), #[]⟩
noncomputable def o293_6 := su 290
noncomputable def o294_6 := bs 290
noncomputable def o295_6 := e1
noncomputable def o296_6 := e2
noncomputable def o297_6 := tu #[(.str "_law_found" 613)]
noncomputable def o298_6 := e1
noncomputable def o299_6 := ft (T 24) "_law_whole" "_law_whole"
noncomputable def o300_6 : Obj := ⟨(.type "code"), none, (.fields #[(.str "_law_whole" 610), (.str "_law_whole" 611), (.str "/claim/cut.py" 612), (.int (153) 0), (.int (1) 0), (.int (0) 0), (.int (0) 0), (.int (3) 0), (.ref 295), (.bool true), (.int (181) 0), (.ref 296), .none, (.ref 297), (.ref 298), (.ref 299), (.int (614) 0), (.int (153) 0), (.str "/claim/cut.py" 615)]), #[]⟩
noncomputable def o301_6 := fo (T 24) "_law_whole" "_law_whole" "law_joinload_k42_the_first_bad_row_of_a_whol" 608 300
noncomputable def o302_6 := e1
noncomputable def o303_6 := e2
noncomputable def o304_6 := tu #[(.str "_law_script" 620), (.str "_law_k" 621)]
noncomputable def o305_6 := e1
noncomputable def o306_6 := ft (T 25) "_law_cell_at" "_law_cell_at"
noncomputable def o307_6 : Obj := ⟨(.type "code"), none, (.fields #[(.str "_law_cell_at" 617), (.str "_law_cell_at" 618), (.str "/claim/cut.py" 619), (.int (155) 0), (.int (2) 0), (.int (0) 0), (.int (0) 0), (.int (3) 0), (.ref 302), (.bool true), (.int (181) 0), (.ref 303), .none, (.ref 304), (.ref 305), (.ref 306), (.int (622) 0), (.int (155) 0), (.str "/claim/cut.py" 623)]), #[]⟩
noncomputable def o308_6 := fo (T 25) "_law_cell_at" "_law_cell_at" "law_joinload_k42_the_first_bad_row_of_a_whol" 608 307
noncomputable def o309_6 := e1
noncomputable def o310_6 := e2
noncomputable def o311_6 := tu #[(.str "_law_number" 628)]
noncomputable def o312_6 := e1
noncomputable def o313_6 := ft (T 26) "_law_target_by" "_law_target_by"
noncomputable def o314_6 : Obj := ⟨(.type "code"), none, (.fields #[(.str "_law_target_by" 625), (.str "_law_target_by" 626), (.str "/claim/cut.py" 627), (.int (159) 0), (.int (1) 0), (.int (0) 0), (.int (0) 0), (.int (3) 0), (.ref 309), (.bool true), (.int (181) 0), (.ref 310), .none, (.ref 311), (.ref 312), (.ref 313), (.int (629) 0), (.int (159) 0), (.str "/claim/cut.py" 630)]), #[]⟩
noncomputable def o315_6 := fo (T 26) "_law_target_by" "_law_target_by" "law_joinload_k42_the_first_bad_row_of_a_whol" 608 314
noncomputable def o316_6 := e1
noncomputable def o317_6 := e2
noncomputable def o318_6 := tu #[(.str "_law_cell" 635), (.str "_law_parts" 636), (.str "_law_leans" 637), (.str "_law_end_here" 638), (.str "_law_number" 639), (.str "_law_place" 640), (.str "_law_word" 641), (.str "_law_rows" 642), (.str "_law_rule" 643)]
noncomputable def o319_6 := e1
noncomputable def o320_6 := ft (T 27) "_law_put" "_law_put"
noncomputable def o321_6 : Obj := ⟨(.type "code"), none, (.fields #[(.str "_law_put" 632), (.str "_law_put" 633), (.str "/claim/cut.py" 634), (.int (165) 0), (.int (4) 0), (.int (0) 0), (.int (0) 0), (.int (3) 0), (.ref 316), (.bool true), (.int (181) 0), (.ref 317), .none, (.ref 318), (.ref 319), (.ref 320), (.int (644) 0), (.int (165) 0), (.str "/claim/cut.py" 645)]), #[]⟩
noncomputable def o322_6 := fo (T 27) "_law_put" "_law_put" "law_joinload_k42_the_first_bad_row_of_a_whol" 608 321
noncomputable def o323_6 := e1
noncomputable def o324_6 := e2
noncomputable def o325_6 := tu #[(.str "_law_parts" 650)]
noncomputable def o326_6 := e1
noncomputable def o327_6 := ft (T 28) "_law_end" "_law_end"
noncomputable def o328_6 : Obj := ⟨(.type "code"), none, (.fields #[(.str "_law_end" 647), (.str "_law_end" 648), (.str "/claim/cut.py" 649), (.int (183) 0), (.int (1) 0), (.int (0) 0), (.int (0) 0), (.int (3) 0), (.ref 323), (.bool true), (.int (181) 0), (.ref 324), .none, (.ref 325), (.ref 326), (.ref 327), (.int (651) 0), (.int (183) 0), (.str "/claim/cut.py" 652)]), #[]⟩
noncomputable def o329_6 := fo (T 28) "_law_end" "_law_end" "law_joinload_k42_the_first_bad_row_of_a_whol" 608 328
noncomputable def o330_6 := e1
noncomputable def o331_6 := e2
noncomputable def o332_6 := tu #[(.str "_law_script" 657), (.str "_law_most" 658), (.str "_law_parts" 659), (.str "_law_leans" 660), (.str "_law_rows" 661), (.str "_law_cell" 662), (.str "_law_end_here" 663), (.str "_law_number" 664), (.str "_law_size" 665), (.str "_law_entry" 666), (.str "_law_step" 667)]
noncomputable def o333_6 := e1
noncomputable def o334_6 := ft (T 29) "_law_built" "_law_built"
noncomputable def o335_6 : Obj := ⟨(.type "code"), none, (.fields #[(.str "_law_built" 654), (.str "_law_built" 655), (.str "/claim/cut.py" 656), (.int (187) 0), (.int (2) 0), (.int (0) 0), (.int (0) 0), (.int (3) 0), (.ref 330), (.bool true), (.int (181) 0), (.ref 331), .none, (.ref 332), (.ref 333), (.ref 334), (.int (668) 0), (.int (187) 0), (.str "/claim/cut.py" 669)]), #[]⟩
noncomputable def o336_6 := fo (T 29) "_law_built" "_law_built" "law_joinload_k42_the_first_bad_row_of_a_whol" 608 335
noncomputable def o337_6 := e1
noncomputable def o338_6 := e2
noncomputable def o339_6 := tu #[(.str "_law_number" 674), (.str "_law_far" 675), (.str "_law_some" 676)]
noncomputable def o340_6 := e1
noncomputable def o341_6 := ft (T 30) "_law_odd_row" "_law_odd_row"
noncomputable def o342_6 : Obj := ⟨(.type "code"), none, (.fields #[(.str "_law_odd_row" 671), (.str "_law_odd_row" 672), (.str "/claim/cut.py" 673), (.int (200) 0), (.int (1) 0), (.int (0) 0), (.int (0) 0), (.int (3) 0), (.ref 337), (.bool true), (.int (181) 0), (.ref 338), .none, (.ref 339), (.ref 340), (.ref 341), (.int (677) 0), (.int (200) 0), (.str "/claim/cut.py" 678)]), #[]⟩
noncomputable def o343_6 := fo (T 30) "_law_odd_row" "_law_odd_row" "law_joinload_k42_the_first_bad_row_of_a_whol" 608 342
noncomputable def o344_6 := e1
noncomputable def o345_6 := e2
noncomputable def o346_6 := tu #[(.str "_law_number" 683), (.str "_law_size" 684), (.str "_law_far" 685), (.str "_law_some" 686)]
noncomputable def o347_6 := e1
noncomputable def o348_6 := ft (T 31) "_law_odd_first" "_law_odd_first"
noncomputable def o349_6 : Obj := ⟨(.type "code"), none, (.fields #[(.str "_law_odd_first" 680), (.str "_law_odd_first" 681), (.str "/claim/cut.py" 682), (.int (211) 0), (.int (2) 0), (.int (0) 0), (.int (0) 0), (.int (3) 0), (.ref 344), (.bool true), (.int (181) 0), (.ref 345), .none, (.ref 346), (.ref 347), (.ref 348), (.int (687) 0), (.int (211) 0), (.str "/claim/cut.py" 688)]), #[]⟩
noncomputable def o350_6 := fo (T 31) "_law_odd_first" "_law_odd_first" "law_joinload_k42_the_first_bad_row_of_a_whol" 608 349
noncomputable def o351_6 := e1
noncomputable def o352_6 := e2
noncomputable def o353_6 := tu #[(.str "_law_rows" 693), (.str "_law_end_here" 694), (.str "_law_row" 695)]
noncomputable def o354_6 := e1
noncomputable def o355_6 := ft (T 32) "_law_end_behind" "_law_end_behind"
noncomputable def o356_6 : Obj := ⟨(.type "code"), none, (.fields #[(.str "_law_end_behind" 690), (.str "_law_end_behind" 691), (.str "/claim/cut.py" 692), (.int (218) 0), (.int (1) 0), (.int (0) 0), (.int (0) 0), (.int (3) 0), (.ref 351), (.bool true), (.int (181) 0), (.ref 352), .none, (.ref 353), (.ref 354), (.ref 355), (.int (696) 0), (.int (218) 0), (.str "/claim/cut.py" 697)]), #[]⟩
noncomputable def o357_6 := fo (T 32) "_law_end_behind" "_law_end_behind" "law_joinload_k42_the_first_bad_row_of_a_whol" 608 356
noncomputable def o358_6 := e1
noncomputable def o359_6 := e2
noncomputable def o360_6 := tu #[(.str "_law_rows" 702), (.str "_law_size" 703), (.str "_law_way" 704), (.str "_law_at" 705), (.str "_law_number" 706), (.str "_law_lean" 707), (.str "_law_end_here" 708)]
noncomputable def o361_6 := e1
noncomputable def o362_6 := ft (T 33) "_law_spoiled" "_law_spoiled"
noncomputable def o363_6 : Obj := ⟨(.type "code"), none, (.fields #[(.str "_law_spoiled" 699), (.str "_law_spoiled" 700), (.str "/claim/cut.py" 701), (.int (226) 0), (.int (5) 0), (.int (0) 0), (.int (0) 0), (.int (3) 0), (.ref 358), (.bool true), (.int (181) 0), (.ref 359), .none, (.ref 360), (.ref 361), (.ref 362), (.int (709) 0), (.int (226) 0), (.str "/claim/cut.py" 710)]), #[]⟩
noncomputable def o364_6 := fo (T 33) "_law_spoiled" "_law_spoiled" "law_joinload_k42_the_first_bad_row_of_a_whol" 608 363
noncomputable def o365_6 := e1
noncomputable def o366_6 := e2
noncomputable def o367_6 := tu #[(.str "_law_text" 715), (.str "_law_told" 716), (.str "e" 717)]
noncomputable def o368_6 := e1
noncomputable def o369_6 := ft (T 34) "_law_told_of" "_law_told_of"
noncomputable def o370_6 : Obj := ⟨(.type "code"), none, (.fields #[(.str "_law_told_of" 712), (.str "_law_told_of" 713), (.str "/claim/cut.py" 714), (.int (248) 0), (.int (1) 0), (.int (0) 0), (.int (0) 0), (.int (3) 0), (.ref 365), (.bool true), (.int (181) 0), (.ref 366), .none, (.ref 367), (.ref 368), (.ref 369), (.int (718) 0), (.int (248) 0), (.str "/claim/cut.py" 719)]), #[]⟩
noncomputable def o371_6 := fo (T 34) "_law_told_of" "_law_told_of" "law_joinload_k42_the_first_bad_row_of_a_whol" 608 370
noncomputable def o372_6 := e1
noncomputable def o373_6 := e2
noncomputable def o374_6 := tu #[(.str "_law_told" 724), (.str "_law_due" 725)]
noncomputable def o375_6 := e1
noncomputable def o376_6 := ft (T 35) "_law_refused" "_law_refused"
noncomputable def o377_6 : Obj := ⟨(.type "code"), none, (.fields #[(.str "_law_refused" 721), (.str "_law_refused" 722), (.str "/claim/cut.py" 723), (.int (255) 0), (.int (2) 0), (.int (0) 0), (.int (0) 0), (.int (3) 0), (.ref 372), (.bool true), (.int (181) 0), (.ref 373), .none, (.ref 374), (.ref 375), (.ref 376), (.int (726) 0), (.int (255) 0), (.str "/claim/cut.py" 727)]), #[]⟩
noncomputable def o378_6 := fo (T 35) "_law_refused" "_law_refused" "law_joinload_k42_the_first_bad_row_of_a_whol" 608 377
noncomputable def o379_6 := e1
noncomputable def o380_6 := e2
noncomputable def o381_6 := tu #[(.str "_law_rows" 732), (.str "_law_size" 733), (.str "_law_cell" 734), (.str "_law_other" 735), (.str "_law_number" 736), (.str "_law_bad" 737), (.str "_law_due" 738), (.str "_law_behind" 739)]
noncomputable def o382_6 := e1
noncomputable def o383_6 := ft (T 36) "_law_holds" "_law_holds"
noncomputable def o384_6 : Obj := ⟨(.type "code"), none, (.fields #[(.str "_law_holds" 729), (.str "_law_holds" 730), (.str "/claim/cut.py" 731), (.int (261) 0), (.int (4) 0), (.int (0) 0), (.int (0) 0), (.int (3) 0), (.ref 379), (.bool true), (.int (181) 0), (.ref 380), .none, (.ref 381), (.ref 382), (.ref 383), (.int (740) 0), (.int (261) 0), (.str "/claim/cut.py" 741)]), #[]⟩
noncomputable def o385_6 := fo (T 36) "_law_holds" "_law_holds" "law_joinload_k42_the_first_bad_row_of_a_whol" 608 384
noncomputable def o386_6 := e1
noncomputable def o387_6 := e2
noncomputable def o388_6 := tu #[(.str "_law_script" 746), (.str "_law_rows" 747), (.str "_law_whole_here" 748), (.str "_law_text" 749), (.str "_law_k" 750)]
noncomputable def o389_6 := e1
noncomputable def o390_6 := ft (T 37) "law" "law"
noncomputable def o391_6 : Obj := ⟨(.type "code"), none, (.fields #[(.str "law" 743), (.str "law" 744), (.str "/claim/cut.py" 745), (.int (268) 0), (.int (1) 0), (.int (0) 0), (.int (0) 0), (.int (3) 0), (.ref 386), (.bool true), (.int (181) 0), (.ref 387), .none, (.ref 388), (.ref 389), (.ref 390), (.int (751) 0), (.int (268) 0), (.str "/claim/cut.py" 752)]), #[]⟩
noncomputable def o392_6 := fo (T 37) "law" "law" "law_joinload_k42_the_first_bad_row_of_a_whol" 608 391
noncomputable def d5_0 (P : Params) (r : List (Nat × Obj)) : List (Nat × Obj) := (3, o3_6 P) :: (12, o12_6) :: (239, o239_6) :: (240, o240_6) :: (241, o241_6 P) :: (242, o242_6) :: (243, o243_6) :: (244, o244_6) :: (245, o245_6) :: (246, o246_6) :: (247, o247_6) :: (248, o248_6) :: (249, o249_6) :: (250, o250_6) :: (251, o251_6) :: (252, o252_6) :: (253, o253_6) :: (254, o254_6) :: (255, o255_6) :: (256, o256_6) :: (257, o257_6) :: (258, o258_6) :: (259, o259_6) :: (260, o260_6) :: r
noncomputable def d5_1 (P : Params) (r : List (Nat × Obj)) : List (Nat × Obj) := (261, o261_6) :: (262, o262_6) :: (263, o263_6) :: (264, o264_6) :: (265, o265_6) :: (266, o266_6) :: (267, o267_6) :: (268, o268_6) :: (269, o269_6) :: (270, o270_6) :: (271, o271_6) :: (272, o272_6) :: (273, o273_6) :: (274, o274_6) :: (275, o275_6) :: (276, o276_6) :: (277, o277_6) :: (278, o278_6) :: (279, o279_6) :: (280, o280_6) :: (281, o281_6) :: (282, o282_6) :: (283, o283_6) :: (284, o284_6) :: r
noncomputable def d5_2 (P : Params) (r : List (Nat × Obj)) : List (Nat × Obj) := (285, o285_6) :: (286, o286_6) :: (287, o287_6) :: (288, o288_6) :: (289, o289_6 P) :: (290, o290_6) :: (291, o291_6) :: (292, o292_6) :: (293, o293_6) :: (294, o294_6) :: (295, o295_6) :: (296, o296_6) :: (297, o297_6) :: (298, o298_6) :: (299, o299_6) :: (300, o300_6) :: (301, o301_6) :: (302, o302_6) :: (303, o303_6) :: (304, o304_6) :: (305, o305_6) :: (306, o306_6) :: (307, o307_6) :: (308, o308_6) :: r
noncomputable def d5_3 (P : Params) (r : List (Nat × Obj)) : List (Nat × Obj) := (309, o309_6) :: (310, o310_6) :: (311, o311_6) :: (312, o312_6) :: (313, o313_6) :: (314, o314_6) :: (315, o315_6) :: (316, o316_6) :: (317, o317_6) :: (318, o318_6) :: (319, o319_6) :: (320, o320_6) :: (321, o321_6) :: (322, o322_6) :: (323, o323_6) :: (324, o324_6) :: (325, o325_6) :: (326, o326_6) :: (327, o327_6) :: (328, o328_6) :: (329, o329_6) :: (330, o330_6) :: (331, o331_6) :: (332, o332_6) :: r
noncomputable def d5_4 (P : Params) (r : List (Nat × Obj)) : List (Nat × Obj) := (333, o333_6) :: (334, o334_6) :: (335, o335_6) :: (336, o336_6) :: (337, o337_6) :: (338, o338_6) :: (339, o339_6) :: (340, o340_6) :: (341, o341_6) :: (342, o342_6) :: (343, o343_6) :: (344, o344_6) :: (345, o345_6) :: (346, o346_6) :: (347, o347_6) :: (348, o348_6) :: (349, o349_6) :: (350, o350_6) :: (351, o351_6) :: (352, o352_6) :: (353, o353_6) :: (354, o354_6) :: (355, o355_6) :: (356, o356_6) :: r
noncomputable def d5_5 (P : Params) (r : List (Nat × Obj)) : List (Nat × Obj) := (357, o357_6) :: (358, o358_6) :: (359, o359_6) :: (360, o360_6) :: (361, o361_6) :: (362, o362_6) :: (363, o363_6) :: (364, o364_6) :: (365, o365_6) :: (366, o366_6) :: (367, o367_6) :: (368, o368_6) :: (369, o369_6) :: (370, o370_6) :: (371, o371_6) :: (372, o372_6) :: (373, o373_6) :: (374, o374_6) :: (375, o375_6) :: (376, o376_6) :: (377, o377_6) :: (378, o378_6) :: (379, o379_6) :: (380, o380_6) :: r
noncomputable def d5_6 (P : Params) (r : List (Nat × Obj)) : List (Nat × Obj) := (381, o381_6) :: (382, o382_6) :: (383, o383_6) :: (384, o384_6) :: (385, o385_6) :: (386, o386_6) :: (387, o387_6) :: (388, o388_6) :: (389, o389_6) :: (390, o390_6) :: (391, o391_6) :: (392, o392_6) :: r
noncomputable def T5 (P : Params) : BT := mg 14 (T4 P) (d5_0 P (d5_1 P (d5_2 P (d5_3 P (d5_4 P (d5_5 P (d5_6 P ([]))))))))
noncomputable def S5T (w : World) : OsState → SharedT := sT (T5 w.params) 393 754
noncomputable def L4 : List Stmt := My.top 22 :: My.top 23 :: My.top 24 :: My.top 25 :: My.top 26 :: My.top 27 :: My.top 28 :: My.top 29 :: My.top 30 :: My.top 31 :: My.top 32 :: My.top 33 :: My.top 34 :: My.top 35 :: My.top 36 :: My.top 37 :: []
def P4 (w : World) : Prop := sR w 858 S4T S5T L4 ⟨89, 0, 94, 86⟩ ⟨268, 0, 276, 51⟩
noncomputable def h_0 (P : Params) (r : List Obj) : List Obj := boot_o_0 P :: boot_o_1 P :: boot_o_2 P :: o3_6 P :: boot_o_4 P :: boot_o_5 P :: boot_o_6 P :: boot_o_7 P :: boot_o_8 P :: boot_o_9 P :: boot_o_10 P :: o11_0 :: o12_6 :: o13_0 :: o14_0 :: o15_2 :: o16_2 :: o17_2 P :: o18_2 :: o19_2 :: o20_2 :: o21_2 :: o22_2 :: o23_2 P :: r
noncomputable def h_1 (P : Params) (r : List Obj) : List Obj := o24_5 :: o25_2 :: o26_2 :: o27_2 :: o28_2 :: o29_2 :: o30_2 P :: o31_2 :: o32_2 :: o33_2 :: o34_2 :: o35_2 :: o36_2 P :: o37_2 :: o38_2 :: o39_2 :: o40_2 :: o41_2 :: o42_2 P :: o43_2 :: o44_2 :: o45_2 :: o46_2 :: o47_2 :: r
noncomputable def h_2 (P : Params) (r : List Obj) : List Obj := o48_2 :: o49_2 :: o50_2 :: o51_2 :: o52_2 :: o53_2 :: o54_2 :: o55_2 P :: o56_2 :: o57_2 :: o58_2 :: o59_3 :: o60_3 :: o61_3 P :: o62_3 :: o63_3 :: o64_3 :: o65_3 :: o66_3 :: o67_3 :: o68_3 :: o69_3 :: o70_3 :: o71_3 :: r
noncomputable def h_3 (P : Params) (r : List Obj) : List Obj := o72_3 :: o73_3 :: o74_3 P :: o75_3 :: o76_3 :: o77_3 :: o78_3 :: o79_3 :: o80_3 P :: o81_3 :: o82_3 :: o83_3 :: o84_3 :: o85_3 :: o86_3 :: o87_3 :: o88_3 :: o89_3 :: o90_3 :: o91_3 :: o92_3 :: o93_3 P :: o94_3 :: o95_3 :: r
noncomputable def h_4 (P : Params) (r : List Obj) : List Obj := o96_3 :: o97_3 :: o98_3 :: o99_3 P :: o100_3 :: o101_3 :: o102_3 :: o103_3 :: o104_3 :: o105_3 :: o106_3 :: o107_3 :: o108_3 :: o109_3 :: o110_3 :: o111_3 :: o112_3 P :: o113_3 :: o114_3 :: o115_3 :: o116_4 :: o117_4 :: o118_4 P :: o119_4 :: r
noncomputable def h_5 (P : Params) (r : List Obj) : List Obj := o120_4 :: o121_4 :: o122_4 :: o123_4 :: o124_4 :: o125_4 :: o126_4 :: o127_4 :: o128_4 :: o129_4 :: o130_4 :: o131_4 P :: o132_4 :: o133_4 :: o134_4 :: o135_4 :: o136_4 :: o137_4 P :: o138_4 :: o139_4 :: o140_4 :: o141_4 :: o142_4 :: o143_4 :: r
noncomputable def h_6 (P : Params) (r : List Obj) : List Obj := o144_4 :: o145_4 :: o146_4 :: o147_4 :: o148_4 :: o149_4 :: o150_4 P :: o151_4 :: o152_4 :: o153_4 :: o154_4 :: o155_4 :: o156_4 P :: o157_4 :: o158_4 :: o159_4 :: o160_4 :: o161_4 :: o162_4 :: o163_4 :: o164_4 :: o165_4 :: o166_4 :: o167_4 :: r
noncomputable def h_7 (P : Params) (r : List Obj) : List Obj := o168_4 :: o169_4 P :: o170_4 :: o171_4 :: o172_4 :: o173_5 :: o174_5 :: o175_5 P :: o176_5 :: o177_5 :: o178_5 :: o179_5 :: o180_5 :: o181_5 :: o182_5 :: o183_5 :: o184_5 :: o185_5 :: o186_5 :: o187_5 :: o188_5 P :: o189_5 :: o190_5 :: o191_5 :: r
noncomputable def h_8 (P : Params) (r : List Obj) : List Obj := o192_5 :: o193_5 :: o194_5 P :: o195_5 :: o196_5 :: o197_5 :: o198_5 :: o199_5 :: o200_5 P :: o201_5 :: o202_5 :: o203_5 :: o204_5 :: o205_5 :: o206_5 :: o207_5 :: o208_5 :: o209_5 :: o210_5 :: o211_5 :: o212_5 :: o213_5 :: o214_5 :: o215_5 :: r
noncomputable def h_9 (P : Params) (r : List Obj) : List Obj := o216_5 :: o217_5 P :: o218_5 :: o219_5 :: o220_5 :: o221_5 :: o222_5 :: o223_5 :: o224_5 :: o225_5 :: o226_5 :: o227_5 :: o228_5 :: o229_5 :: o230_5 :: o231_5 :: o232_5 :: o233_5 :: o234_5 :: o235_5 :: o236_5 :: o237_5 :: o238_5 :: o239_6 :: r
noncomputable def h_10 (P : Params) (r : List Obj) : List Obj := o240_6 :: o241_6 P :: o242_6 :: o243_6 :: o244_6 :: o245_6 :: o246_6 :: o247_6 :: o248_6 :: o249_6 :: o250_6 :: o251_6 :: o252_6 :: o253_6 :: o254_6 :: o255_6 :: o256_6 :: o257_6 :: o258_6 :: o259_6 :: o260_6 :: o261_6 :: o262_6 :: o263_6 :: r
noncomputable def h_11 (P : Params) (r : List Obj) : List Obj := o264_6 :: o265_6 :: o266_6 :: o267_6 :: o268_6 :: o269_6 :: o270_6 :: o271_6 :: o272_6 :: o273_6 :: o274_6 :: o275_6 :: o276_6 :: o277_6 :: o278_6 :: o279_6 :: o280_6 :: o281_6 :: o282_6 :: o283_6 :: o284_6 :: o285_6 :: o286_6 :: o287_6 :: r
noncomputable def h_12 (P : Params) (r : List Obj) : List Obj := o288_6 :: o289_6 P :: o290_6 :: o291_6 :: o292_6 :: o293_6 :: o294_6 :: o295_6 :: o296_6 :: o297_6 :: o298_6 :: o299_6 :: o300_6 :: o301_6 :: o302_6 :: o303_6 :: o304_6 :: o305_6 :: o306_6 :: o307_6 :: o308_6 :: o309_6 :: o310_6 :: o311_6 :: r
noncomputable def h_13 (P : Params) (r : List Obj) : List Obj := o312_6 :: o313_6 :: o314_6 :: o315_6 :: o316_6 :: o317_6 :: o318_6 :: o319_6 :: o320_6 :: o321_6 :: o322_6 :: o323_6 :: o324_6 :: o325_6 :: o326_6 :: o327_6 :: o328_6 :: o329_6 :: o330_6 :: o331_6 :: o332_6 :: o333_6 :: o334_6 :: o335_6 :: r
noncomputable def h_14 (P : Params) (r : List Obj) : List Obj := o336_6 :: o337_6 :: o338_6 :: o339_6 :: o340_6 :: o341_6 :: o342_6 :: o343_6 :: o344_6 :: o345_6 :: o346_6 :: o347_6 :: o348_6 :: o349_6 :: o350_6 :: o351_6 :: o352_6 :: o353_6 :: o354_6 :: o355_6 :: o356_6 :: o357_6 :: o358_6 :: o359_6 :: r
noncomputable def h_15 (P : Params) (r : List Obj) : List Obj := o360_6 :: o361_6 :: o362_6 :: o363_6 :: o364_6 :: o365_6 :: o366_6 :: o367_6 :: o368_6 :: o369_6 :: o370_6 :: o371_6 :: o372_6 :: o373_6 :: o374_6 :: o375_6 :: o376_6 :: o377_6 :: o378_6 :: o379_6 :: o380_6 :: o381_6 :: o382_6 :: o383_6 :: r
noncomputable def h_16 (P : Params) (r : List Obj) : List Obj := o384_6 :: o385_6 :: o386_6 :: o387_6 :: o388_6 :: o389_6 :: o390_6 :: o391_6 :: o392_6 :: r
noncomputable def Hf (P : Params) : Heap := ⟨⟨h_0 P (h_1 P (h_2 P (h_3 P (h_4 P (h_5 P (h_6 P (h_7 P (h_8 P (h_9 P (h_10 P (h_11 P (h_12 P (h_13 P (h_14 P (h_15 P (h_16 P ([])))))))))))))))))⟩, li⟩
noncomputable def Sf (w : World) (os : OsState) : Shared := ⟨Hf w.params, ⟨[]⟩, boot_drawn, 754, os⟩
def Fin (w : World) : Prop := (fun os => topRun treeTable pw w 11 an 2 (S5T w os).abs ⟨doneF .next, cE, ⟨268, 0, 276, 51⟩, B⟩) = fun os => some (Sf w os)
noncomputable def q : Program := { pw with main := { pw.main with body := My.top 1 :: My.top 2 :: My.top 3 :: My.top 4 :: My.top 5 :: My.top 6 :: My.top 7 :: My.top 8 :: My.top 9 :: My.top 10 :: My.top 11 :: My.top 13 :: My.top 14 :: My.top 15 :: My.top 17 :: My.top 18 :: My.top 19 :: My.top 20 :: My.top 21 :: My.top 22 :: My.top 24 :: My.top 25 :: My.top 26 :: My.top 27 :: My.top 28 :: My.top 29 :: My.top 30 :: My.top 31 :: My.top 32 :: My.top 33 :: My.top 34 :: My.top 35 :: My.top 36 :: My.top 37 :: [] } }
noncomputable def K (P : Params) : Frag := (nat_lit 2, boot_o_2 P) :: (nat_lit 3, o3_6 P) :: (nat_lit 15, o15_2) :: (nat_lit 22, o22_2) :: (nat_lit 23, o23_2 P) :: (nat_lit 24, o24_5) :: (nat_lit 25, o25_2) :: (nat_lit 28, o28_2) :: (nat_lit 35, o35_2) :: (nat_lit 36, o36_2 P) :: (nat_lit 37, o37_2) :: (nat_lit 40, o40_2) :: (nat_lit 47, o47_2) :: (nat_lit 49, o49_2) :: (nat_lit 50, o50_2) :: (nat_lit 52, o52_2) :: (nat_lit 53, o53_2) :: (nat_lit 54, o54_2) :: (nat_lit 55, o55_2 P) :: (nat_lit 56, o56_2) :: (nat_lit 59, o59_3) :: (nat_lit 66, o66_3) :: (nat_lit 68, o68_3) :: (nat_lit 69, o69_3) :: (nat_lit 71, o71_3) :: (nat_lit 72, o72_3) :: (nat_lit 73, o73_3) :: (nat_lit 74, o74_3 P) :: (nat_lit 75, o75_3) :: (nat_lit 78, o78_3) :: (nat_lit 85, o85_3) :: (nat_lit 87, o87_3) :: (nat_lit 88, o88_3) :: (nat_lit 90, o90_3) :: (nat_lit 91, o91_3) :: (nat_lit 92, o92_3) :: (nat_lit 93, o93_3 P) :: (nat_lit 94, o94_3) :: (nat_lit 97, o97_3) :: (nat_lit 104, o104_3) :: (nat_lit 106, o106_3) :: (nat_lit 107, o107_3) :: (nat_lit 109, o109_3) :: (nat_lit 110, o110_3) :: (nat_lit 111, o111_3) :: (nat_lit 112, o112_3 P) :: (nat_lit 113, o113_3) :: (nat_lit 116, o116_4) :: (nat_lit 123, o123_4) :: (nat_lit 125, o125_4) :: (nat_lit 126, o126_4) :: (nat_lit 128, o128_4) :: (nat_lit 129, o129_4) :: (nat_lit 130, o130_4) :: (nat_lit 131, o131_4 P) :: (nat_lit 132, o132_4) :: (nat_lit 135, o135_4) :: (nat_lit 142, o142_4) :: (nat_lit 144, o144_4) :: (nat_lit 145, o145_4) :: (nat_lit 147, o147_4) :: (nat_lit 148, o148_4) :: (nat_lit 149, o149_4) :: (nat_lit 150, o150_4 P) :: (nat_lit 151, o151_4) :: (nat_lit 154, o154_4) :: (nat_lit 161, o161_4) :: (nat_lit 163, o163_4) :: (nat_lit 164, o164_4) :: (nat_lit 166, o166_4) :: (nat_lit 167, o167_4) :: (nat_lit 168, o168_4) :: (nat_lit 169, o169_4 P) :: (nat_lit 170, o170_4) :: (nat_lit 173, o173_5) :: (nat_lit 180, o180_5) :: (nat_lit 182, o182_5) :: (nat_lit 183, o183_5) :: (nat_lit 185, o185_5) :: (nat_lit 186, o186_5) :: (nat_lit 187, o187_5) :: (nat_lit 188, o188_5 P) :: (nat_lit 189, o189_5) :: (nat_lit 192, o192_5) :: (nat_lit 199, o199_5) :: (nat_lit 200, o200_5 P) :: (nat_lit 201, o201_5) :: (nat_lit 204, o204_5) :: (nat_lit 207, o207_5) :: (nat_lit 208, o208_5) :: (nat_lit 209, o209_5) :: (nat_lit 211, o211_5) :: (nat_lit 212, o212_5) :: (nat_lit 214, o214_5) :: (nat_lit 215, o215_5) :: (nat_lit 216, o216_5) :: (nat_lit 217, o217_5 P) :: (nat_lit 218, o218_5) :: (nat_lit 220, o220_5) :: (nat_lit 221, o221_5) :: (nat_lit 223, o223_5) :: (nat_lit 224, o224_5) :: (nat_lit 225, o225_5) :: (nat_lit 227, o227_5) :: (nat_lit 228, o228_5) :: (nat_lit 230, o230_5) :: (nat_lit 231, o231_5) :: (nat_lit 232, o232_5) :: (nat_lit 234, o234_5) :: (nat_lit 235, o235_5) :: (nat_lit 237, o237_5) :: (nat_lit 238, o238_5) :: (nat_lit 246, o246_6) :: (nat_lit 248, o248_6) :: (nat_lit 249, o249_6) :: (nat_lit 251, o251_6) :: (nat_lit 252, o252_6) :: (nat_lit 253, o253_6) :: (nat_lit 255, o255_6) :: (nat_lit 256, o256_6) :: (nat_lit 258, o258_6) :: (nat_lit 259, o259_6) :: (nat_lit 260, o260_6) :: (nat_lit 262, o262_6) :: (nat_lit 263, o263_6) :: (nat_lit 265, o265_6) :: (nat_lit 266, o266_6) :: (nat_lit 267, o267_6) :: (nat_lit 269, o269_6) :: (nat_lit 270, o270_6) :: (nat_lit 272, o272_6) :: (nat_lit 273, o273_6) :: (nat_lit 274, o274_6) :: (nat_lit 276, o276_6) :: (nat_lit 277, o277_6) :: (nat_lit 279, o279_6) :: (nat_lit 280, o280_6) :: (nat_lit 281, o281_6) :: (nat_lit 283, o283_6) :: (nat_lit 284, o284_6) :: (nat_lit 286, o286_6) :: (nat_lit 287, o287_6) :: (nat_lit 288, o288_6) :: (nat_lit 289, o289_6 P) :: (nat_lit 290, o290_6) :: (nat_lit 291, o291_6) :: (nat_lit 292, o292_6) :: (nat_lit 295, o295_6) :: (nat_lit 297, o297_6) :: (nat_lit 298, o298_6) :: (nat_lit 300, o300_6) :: (nat_lit 301, o301_6) :: (nat_lit 302, o302_6) :: (nat_lit 304, o304_6) :: (nat_lit 305, o305_6) :: (nat_lit 307, o307_6) :: (nat_lit 308, o308_6) :: (nat_lit 309, o309_6) :: (nat_lit 311, o311_6) :: (nat_lit 312, o312_6) :: (nat_lit 314, o314_6) :: (nat_lit 315, o315_6) :: (nat_lit 316, o316_6) :: (nat_lit 318, o318_6) :: (nat_lit 319, o319_6) :: (nat_lit 321, o321_6) :: (nat_lit 322, o322_6) :: (nat_lit 323, o323_6) :: (nat_lit 325, o325_6) :: (nat_lit 326, o326_6) :: (nat_lit 328, o328_6) :: (nat_lit 329, o329_6) :: (nat_lit 330, o330_6) :: (nat_lit 332, o332_6) :: (nat_lit 333, o333_6) :: (nat_lit 335, o335_6) :: (nat_lit 336, o336_6) :: (nat_lit 337, o337_6) :: (nat_lit 339, o339_6) :: (nat_lit 340, o340_6) :: (nat_lit 342, o342_6) :: (nat_lit 343, o343_6) :: (nat_lit 344, o344_6) :: (nat_lit 346, o346_6) :: (nat_lit 347, o347_6) :: (nat_lit 349, o349_6) :: (nat_lit 350, o350_6) :: (nat_lit 351, o351_6) :: (nat_lit 353, o353_6) :: (nat_lit 354, o354_6) :: (nat_lit 356, o356_6) :: (nat_lit 357, o357_6) :: (nat_lit 358, o358_6) :: (nat_lit 360, o360_6) :: (nat_lit 361, o361_6) :: (nat_lit 363, o363_6) :: (nat_lit 364, o364_6) :: (nat_lit 365, o365_6) :: (nat_lit 367, o367_6) :: (nat_lit 368, o368_6) :: (nat_lit 370, o370_6) :: (nat_lit 371, o371_6) :: (nat_lit 372, o372_6) :: (nat_lit 374, o374_6) :: (nat_lit 375, o375_6) :: (nat_lit 377, o377_6) :: (nat_lit 378, o378_6) :: (nat_lit 379, o379_6) :: (nat_lit 381, o381_6) :: (nat_lit 382, o382_6) :: (nat_lit 384, o384_6) :: (nat_lit 385, o385_6) :: (nat_lit 386, o386_6) :: (nat_lit 388, o388_6) :: (nat_lit 389, o389_6) :: (nat_lit 391, o391_6) :: (nat_lit 392, o392_6) :: []
noncomputable def f_0 (P : Params) (r : List (Nat × Obj)) : List (Nat × Obj) := (2, boot_o_2 P) :: (3, o3_6 P) :: (15, o15_2) :: (22, o22_2) :: (23, o23_2 P) :: (24, o24_5) :: (25, o25_2) :: (28, o28_2) :: (35, o35_2) :: (36, o36_2 P) :: (37, o37_2) :: (40, o40_2) :: (47, o47_2) :: (49, o49_2) :: (50, o50_2) :: (52, o52_2) :: (53, o53_2) :: (54, o54_2) :: (55, o55_2 P) :: (56, o56_2) :: (59, o59_3) :: (66, o66_3) :: (68, o68_3) :: (69, o69_3) :: r
noncomputable def f_1 (P : Params) (r : List (Nat × Obj)) : List (Nat × Obj) := (71, o71_3) :: (72, o72_3) :: (73, o73_3) :: (74, o74_3 P) :: (75, o75_3) :: (78, o78_3) :: (85, o85_3) :: (87, o87_3) :: (88, o88_3) :: (90, o90_3) :: (91, o91_3) :: (92, o92_3) :: (93, o93_3 P) :: (94, o94_3) :: (97, o97_3) :: (104, o104_3) :: (106, o106_3) :: (107, o107_3) :: (109, o109_3) :: (110, o110_3) :: (111, o111_3) :: (112, o112_3 P) :: (113, o113_3) :: (116, o116_4) :: r
noncomputable def f_2 (P : Params) (r : List (Nat × Obj)) : List (Nat × Obj) := (123, o123_4) :: (125, o125_4) :: (126, o126_4) :: (128, o128_4) :: (129, o129_4) :: (130, o130_4) :: (131, o131_4 P) :: (132, o132_4) :: (135, o135_4) :: (142, o142_4) :: (144, o144_4) :: (145, o145_4) :: (147, o147_4) :: (148, o148_4) :: (149, o149_4) :: (150, o150_4 P) :: (151, o151_4) :: (154, o154_4) :: (161, o161_4) :: (163, o163_4) :: (164, o164_4) :: (166, o166_4) :: (167, o167_4) :: (168, o168_4) :: r
noncomputable def f_3 (P : Params) (r : List (Nat × Obj)) : List (Nat × Obj) := (169, o169_4 P) :: (170, o170_4) :: (173, o173_5) :: (180, o180_5) :: (182, o182_5) :: (183, o183_5) :: (185, o185_5) :: (186, o186_5) :: (187, o187_5) :: (188, o188_5 P) :: (189, o189_5) :: (192, o192_5) :: (199, o199_5) :: (200, o200_5 P) :: (201, o201_5) :: (204, o204_5) :: (207, o207_5) :: (208, o208_5) :: (209, o209_5) :: (211, o211_5) :: (212, o212_5) :: (214, o214_5) :: (215, o215_5) :: (216, o216_5) :: r
noncomputable def f_4 (P : Params) (r : List (Nat × Obj)) : List (Nat × Obj) := (217, o217_5 P) :: (218, o218_5) :: (220, o220_5) :: (221, o221_5) :: (223, o223_5) :: (224, o224_5) :: (225, o225_5) :: (227, o227_5) :: (228, o228_5) :: (230, o230_5) :: (231, o231_5) :: (232, o232_5) :: (234, o234_5) :: (235, o235_5) :: (237, o237_5) :: (238, o238_5) :: (246, o246_6) :: (248, o248_6) :: (249, o249_6) :: (251, o251_6) :: (252, o252_6) :: (253, o253_6) :: (255, o255_6) :: (256, o256_6) :: r
noncomputable def f_5 (P : Params) (r : List (Nat × Obj)) : List (Nat × Obj) := (258, o258_6) :: (259, o259_6) :: (260, o260_6) :: (262, o262_6) :: (263, o263_6) :: (265, o265_6) :: (266, o266_6) :: (267, o267_6) :: (269, o269_6) :: (270, o270_6) :: (272, o272_6) :: (273, o273_6) :: (274, o274_6) :: (276, o276_6) :: (277, o277_6) :: (279, o279_6) :: (280, o280_6) :: (281, o281_6) :: (283, o283_6) :: (284, o284_6) :: (286, o286_6) :: (287, o287_6) :: (288, o288_6) :: (289, o289_6 P) :: r
noncomputable def f_6 (P : Params) (r : List (Nat × Obj)) : List (Nat × Obj) := (290, o290_6) :: (291, o291_6) :: (292, o292_6) :: (295, o295_6) :: (297, o297_6) :: (298, o298_6) :: (300, o300_6) :: (301, o301_6) :: (302, o302_6) :: (304, o304_6) :: (305, o305_6) :: (307, o307_6) :: (308, o308_6) :: (309, o309_6) :: (311, o311_6) :: (312, o312_6) :: (314, o314_6) :: (315, o315_6) :: (316, o316_6) :: (318, o318_6) :: (319, o319_6) :: (321, o321_6) :: (322, o322_6) :: (323, o323_6) :: r
noncomputable def f_7 (P : Params) (r : List (Nat × Obj)) : List (Nat × Obj) := (325, o325_6) :: (326, o326_6) :: (328, o328_6) :: (329, o329_6) :: (330, o330_6) :: (332, o332_6) :: (333, o333_6) :: (335, o335_6) :: (336, o336_6) :: (337, o337_6) :: (339, o339_6) :: (340, o340_6) :: (342, o342_6) :: (343, o343_6) :: (344, o344_6) :: (346, o346_6) :: (347, o347_6) :: (349, o349_6) :: (350, o350_6) :: (351, o351_6) :: (353, o353_6) :: (354, o354_6) :: (356, o356_6) :: (357, o357_6) :: r
noncomputable def f_8 (P : Params) (r : List (Nat × Obj)) : List (Nat × Obj) := (358, o358_6) :: (360, o360_6) :: (361, o361_6) :: (363, o363_6) :: (364, o364_6) :: (365, o365_6) :: (367, o367_6) :: (368, o368_6) :: (370, o370_6) :: (371, o371_6) :: (372, o372_6) :: (374, o374_6) :: (375, o375_6) :: (377, o377_6) :: (378, o378_6) :: (379, o379_6) :: (381, o381_6) :: (382, o382_6) :: (384, o384_6) :: (385, o385_6) :: (386, o386_6) :: (388, o388_6) :: (389, o389_6) :: (391, o391_6) :: r
noncomputable def f_9 (P : Params) (r : List (Nat × Obj)) : List (Nat × Obj) := (392, o392_6) :: r
noncomputable def K2 (P : Params) : Frag := f_0 P (f_1 P (f_2 P (f_3 P (f_4 P (f_5 P (f_6 P (f_7 P (f_8 P (f_9 P ([]))))))))))
noncomputable def as : List Addr := nat_lit 2 :: nat_lit 3 :: nat_lit 15 :: nat_lit 22 :: nat_lit 23 :: nat_lit 24 :: nat_lit 25 :: nat_lit 28 :: nat_lit 35 :: nat_lit 36 :: nat_lit 37 :: nat_lit 40 :: nat_lit 47 :: nat_lit 49 :: nat_lit 50 :: nat_lit 52 :: nat_lit 53 :: nat_lit 54 :: nat_lit 55 :: nat_lit 56 :: nat_lit 59 :: nat_lit 66 :: nat_lit 68 :: nat_lit 69 :: nat_lit 71 :: nat_lit 72 :: nat_lit 73 :: nat_lit 74 :: nat_lit 75 :: nat_lit 78 :: nat_lit 85 :: nat_lit 87 :: nat_lit 88 :: nat_lit 90 :: nat_lit 91 :: nat_lit 92 :: nat_lit 93 :: nat_lit 94 :: nat_lit 97 :: nat_lit 104 :: nat_lit 106 :: nat_lit 107 :: nat_lit 109 :: nat_lit 110 :: nat_lit 111 :: nat_lit 112 :: nat_lit 113 :: nat_lit 116 :: nat_lit 123 :: nat_lit 125 :: nat_lit 126 :: nat_lit 128 :: nat_lit 129 :: nat_lit 130 :: nat_lit 131 :: nat_lit 132 :: nat_lit 135 :: nat_lit 142 :: nat_lit 144 :: nat_lit 145 :: nat_lit 147 :: nat_lit 148 :: nat_lit 149 :: nat_lit 150 :: nat_lit 151 :: nat_lit 154 :: nat_lit 161 :: nat_lit 163 :: nat_lit 164 :: nat_lit 166 :: nat_lit 167 :: nat_lit 168 :: nat_lit 169 :: nat_lit 170 :: nat_lit 173 :: nat_lit 180 :: nat_lit 182 :: nat_lit 183 :: nat_lit 185 :: nat_lit 186 :: nat_lit 187 :: nat_lit 188 :: nat_lit 189 :: nat_lit 192 :: nat_lit 199 :: nat_lit 200 :: nat_lit 201 :: nat_lit 204 :: nat_lit 207 :: nat_lit 208 :: nat_lit 209 :: nat_lit 211 :: nat_lit 212 :: nat_lit 214 :: nat_lit 215 :: nat_lit 216 :: nat_lit 217 :: nat_lit 218 :: nat_lit 220 :: nat_lit 221 :: nat_lit 223 :: nat_lit 224 :: nat_lit 225 :: nat_lit 227 :: nat_lit 228 :: nat_lit 230 :: nat_lit 231 :: nat_lit 232 :: nat_lit 234 :: nat_lit 235 :: nat_lit 237 :: nat_lit 238 :: nat_lit 246 :: nat_lit 248 :: nat_lit 249 :: nat_lit 251 :: nat_lit 252 :: nat_lit 253 :: nat_lit 255 :: nat_lit 256 :: nat_lit 258 :: nat_lit 259 :: nat_lit 260 :: nat_lit 262 :: nat_lit 263 :: nat_lit 265 :: nat_lit 266 :: nat_lit 267 :: nat_lit 269 :: nat_lit 270 :: nat_lit 272 :: nat_lit 273 :: nat_lit 274 :: nat_lit 276 :: nat_lit 277 :: nat_lit 279 :: nat_lit 280 :: nat_lit 281 :: nat_lit 283 :: nat_lit 284 :: nat_lit 286 :: nat_lit 287 :: nat_lit 288 :: nat_lit 289 :: nat_lit 290 :: nat_lit 291 :: nat_lit 292 :: nat_lit 295 :: nat_lit 297 :: nat_lit 298 :: nat_lit 300 :: nat_lit 301 :: nat_lit 302 :: nat_lit 304 :: nat_lit 305 :: nat_lit 307 :: nat_lit 308 :: nat_lit 309 :: nat_lit 311 :: nat_lit 312 :: nat_lit 314 :: nat_lit 315 :: nat_lit 316 :: nat_lit 318 :: nat_lit 319 :: nat_lit 321 :: nat_lit 322 :: nat_lit 323 :: nat_lit 325 :: nat_lit 326 :: nat_lit 328 :: nat_lit 329 :: nat_lit 330 :: nat_lit 332 :: nat_lit 333 :: nat_lit 335 :: nat_lit 336 :: nat_lit 337 :: nat_lit 339 :: nat_lit 340 :: nat_lit 342 :: nat_lit 343 :: nat_lit 344 :: nat_lit 346 :: nat_lit 347 :: nat_lit 349 :: nat_lit 350 :: nat_lit 351 :: nat_lit 353 :: nat_lit 354 :: nat_lit 356 :: nat_lit 357 :: nat_lit 358 :: nat_lit 360 :: nat_lit 361 :: nat_lit 363 :: nat_lit 364 :: nat_lit 365 :: nat_lit 367 :: nat_lit 368 :: nat_lit 370 :: nat_lit 371 :: nat_lit 372 :: nat_lit 374 :: nat_lit 375 :: nat_lit 377 :: nat_lit 378 :: nat_lit 379 :: nat_lit 381 :: nat_lit 382 :: nat_lit 384 :: nat_lit 385 :: nat_lit 386 :: nat_lit 388 :: nat_lit 389 :: nat_lit 391 :: nat_lit 392 :: []
noncomputable def H : Hook := kHook K as (fun _ => by kernel_rfl)
noncomputable abbrev R : WRecords := RowW.records (OpenRow.toRowW (OpenLaw.row PySem.Challenge.rw_joinload_k42_the_first_bad_row_of_a_whol))
noncomputable abbrev Xt (s : Shared) : Bool := xlAt q [] s && recOk R s
def Size (w : World) : Prop := ((boot_heap w.params).isNs mainGlobals && (⟨[]⟩ : Array GenState).size == 0, (boot_heap w.params).objs.size, (boot_heap w.params).nsMap mainGlobals "__annotations__") = (true, 11, an)
def LA (w : World) : Prop := (fun os => staticsOk (importedModules pw.main.body) (boot_heap w.params) (Hf w.params) && namesBound pw (Hf w.params) && gensDone (Sf w os) && laidKept (boot_heap w.params) (Hf w.params)) = fun _ => true
def Ls1 (w : World) : Prop := (fun os => seen ((recsOf q).map (·.name)) (ownsOf q) [] { Sf w os with gens := #[] }) = fun _ => expectedOf q
def Ls2 (w : World) : Prop := (fun os => (Sf w os).heap.bltView) = fun _ => bltViewBooted
def Ls3 (w : World) : Prop := (fun os => (Sf w os).heap.keysOk (looseW q ["HOW_MANY_PARTS"]) ((recsOf q).map (·.name)) ((litsOf q).map (·.1)) ((clssOf q (looseW q ["HOW_MANY_PARTS"])).map (·.name)) && (Sf w os).heap.accountedOkI (importedModules pw.main.body) && (Sf w os).heap.isNs mainGlobals && (Sf w os).heap.isNs builtinsNs && tablesOk q (Sf w os).heap && Xt (Sf w os) && (if true then (Sf w os).gens.size == 0 else !leftWithCleanup (Sf w os).gens)) = fun _ => true
def Ls4 (w : World) : Prop := (fun os => tabsOk q (Sf w os)) = fun _ => true
def Ls5 (w : World) : Prop := (fun os => pinSeenD q (drecsOf q) (Sf w os)) = fun _ => pinGoodD (drecsOf q)
def Ls6 (w : World) : Prop := (fun os => plainSeenE q (looseW q ["HOW_MANY_PARTS"]) (Sf w os)) = fun _ => plainGoodE q (looseW q ["HOW_MANY_PARTS"])
def Ls7 (w : World) : Prop := (fun os => plainSeenD q ["HOW_MANY_PARTS"] (Sf w os)) = fun _ => plainGoodD q ["HOW_MANY_PARTS"]
def Ls8 (w : World) : Prop := (fun os => wideSeen q (Sf w os)) = fun _ => wideGood q
def Ls9 (w : World) : Prop := (fun os => clsSeenW q ["HOW_MANY_PARTS"] (Sf w os)) = fun _ => clsGoodW q ["HOW_MANY_PARTS"]
def Yk (w : World) : Prop := (fun os => as.map (Sf w os).heap.get?) = fun _ => (K2 w.params).map fun p => some p.2
theorem K_is : K = K2 := by kernel_rfl
theorem Pre_r : Pre = Pre := rfl
theorem Blk_r : Blk = Blk := rfl
theorem P0_r : P0 = P0 := rfl
theorem P1_r : P1 = P1 := rfl
theorem P2_r : P2 = P2 := rfl
theorem P3_r : P3 = P3 := rfl
theorem P4_r : P4 = P4 := rfl
theorem Fin_r : Fin = Fin := rfl
theorem Size_r : Size = Size := rfl
theorem LA_r : LA = LA := rfl
theorem Ls1_r : Ls1 = Ls1 := rfl
theorem Ls2_r : Ls2 = Ls2 := rfl
theorem Ls3_r : Ls3 = Ls3 := rfl
theorem Ls4_r : Ls4 = Ls4 := rfl
theorem Ls5_r : Ls5 = Ls5 := rfl
theorem Ls6_r : Ls6 = Ls6 := rfl
theorem Ls7_r : Ls7 = Ls7 := rfl
theorem Ls8_r : Ls8 = Ls8 := rfl
theorem Ls9_r : Ls9 = Ls9 := rfl
theorem Yk_r : Yk = Yk := rfl
end Hd
name_quick hdPre for Hd.Pre by Hd.Pre_r
name_quick hdBlk for Hd.Blk by Hd.Blk_r
name_quick hdP0 for Hd.P0 by Hd.P0_r
name_quick hdP1 for Hd.P1 by Hd.P1_r
name_quick hdP2 for Hd.P2 by Hd.P2_r
name_quick hdP3 for Hd.P3 by Hd.P3_r
name_quick hdP4 for Hd.P4 by Hd.P4_r
name_quick hdFin for Hd.Fin by Hd.Fin_r
name_quick hdSize for Hd.Size by Hd.Size_r
name_quick hdLA for Hd.LA by Hd.LA_r
name_quick hdLs1 for Hd.Ls1 by Hd.Ls1_r
name_quick hdLs2 for Hd.Ls2 by Hd.Ls2_r
name_quick hdLs3 for Hd.Ls3 by Hd.Ls3_r
name_quick hdLs4 for Hd.Ls4 by Hd.Ls4_r
name_quick hdLs5 for Hd.Ls5 by Hd.Ls5_r
name_quick hdLs6 for Hd.Ls6 by Hd.Ls6_r
name_quick hdLs7 for Hd.Ls7 by Hd.Ls7_r
name_quick hdLs8 for Hd.Ls8 by Hd.Ls8_r
name_quick hdLs9 for Hd.Ls9 by Hd.Ls9_r
name_quick hdYk for Hd.Yk by Hd.Yk_r
namespace Hd
open PySem PySem.W PySem.Calls PyProof.Rows
theorem Pre_h (w : World) : Pre w := by
 rw [show Pre w = PySem.W.Fast.hdPre w from congrFun PySem.W.Fast.hdPre_eq _]
 delta PySem.W.Fast.hdPre PySem.W.Fast.tw7651035101826984186
 kernel_rfl
theorem Blk_h (w : World) : Blk w := by
 rw [show Blk w = PySem.W.Fast.hdBlk w from congrFun PySem.W.Fast.hdBlk_eq _]
 delta PySem.W.Fast.hdBlk PySem.W.Fast.tw10272554187927912860
 kernel_rfl
theorem P0_h (w : World) : P0 w := by
 rw [show P0 w = PySem.W.Fast.hdP0 w from congrFun PySem.W.Fast.hdP0_eq _]
 delta PySem.W.Fast.hdP0 PySem.W.Fast.tw2223480372460268926 PySem.W.Fast.tw16301345103801407739
 kernel_rfl
theorem P1_h (w : World) : P1 w := by
 rw [show P1 w = PySem.W.Fast.hdP1 w from congrFun PySem.W.Fast.hdP1_eq _]
 delta PySem.W.Fast.hdP1 PySem.W.Fast.tw14855786421978465553 PySem.W.Fast.tw16301345103801407739
 kernel_rfl
theorem P2_h (w : World) : P2 w := by
 rw [show P2 w = PySem.W.Fast.hdP2 w from congrFun PySem.W.Fast.hdP2_eq _]
 delta PySem.W.Fast.hdP2 PySem.W.Fast.tw6117723192894798286 PySem.W.Fast.tw16301345103801407739
 kernel_rfl
theorem P3_false (w : World) : P3 (w.withFollow "special-get-raises" false) := by
 rw [show P3 (w.withFollow "special-get-raises" false) = PySem.W.Fast.hdP3 (w.withFollow "special-get-raises" false) from congrFun PySem.W.Fast.hdP3_eq _]
 delta PySem.W.Fast.hdP3 PySem.W.Fast.tw4020557457582994402 PySem.W.Fast.tw16301345103801407739
 kernel_rfl
theorem P3_true (w : World) : P3 (w.withFollow "special-get-raises" true) := by
 rw [show P3 (w.withFollow "special-get-raises" true) = PySem.W.Fast.hdP3 (w.withFollow "special-get-raises" true) from congrFun PySem.W.Fast.hdP3_eq _]
 delta PySem.W.Fast.hdP3 PySem.W.Fast.tw4020557457582994402 PySem.W.Fast.tw16301345103801407739
 kernel_rfl
theorem P3_h (w : World) : P3 w := @byRow2 "special-get-raises" P3 P3_false P3_true w
theorem P4_h (w : World) : P4 w := by
 rw [show P4 w = PySem.W.Fast.hdP4 w from congrFun PySem.W.Fast.hdP4_eq _]
 delta PySem.W.Fast.hdP4 PySem.W.Fast.tw16968994527078285662 PySem.W.Fast.tw16301345103801407739
 kernel_rfl
theorem Fin_h (w : World) : Fin w := by
 rw [show Fin w = PySem.W.Fast.hdFin w from congrFun PySem.W.Fast.hdFin_eq _]
 delta PySem.W.Fast.hdFin PySem.W.Fast.tw4976735305809376593
 kernel_rfl
theorem Size_h (w : World) : Size w := by
 rw [show Size w = PySem.W.Fast.hdSize w from congrFun PySem.W.Fast.hdSize_eq _]
 delta PySem.W.Fast.hdSize PySem.W.Fast.tw14461627914784175761
 kernel_rfl
theorem LA_h (w : World) : LA w := by
 rw [show LA w = PySem.W.Fast.hdLA w from congrFun PySem.W.Fast.hdLA_eq _]
 delta PySem.W.Fast.hdLA PySem.W.Fast.tw11134583137455730433
 kernel_rfl
theorem Ls1_h (w : World) : Ls1 w := by
 rw [show Ls1 w = PySem.W.Fast.hdLs1 w from congrFun PySem.W.Fast.hdLs1_eq _]
 delta PySem.W.Fast.hdLs1 PySem.W.Fast.tw14098396552713008135
 kernel_rfl
theorem Ls2_h (w : World) : Ls2 w := by
 rw [show Ls2 w = PySem.W.Fast.hdLs2 w from congrFun PySem.W.Fast.hdLs2_eq _]
 delta PySem.W.Fast.hdLs2 PySem.W.Fast.tw6547580189001637342
 kernel_rfl
theorem Ls3_h (w : World) : Ls3 w := by
 rw [show Ls3 w = PySem.W.Fast.hdLs3 w from congrFun PySem.W.Fast.hdLs3_eq _]
 delta PySem.W.Fast.hdLs3 PySem.W.Fast.tw10934468223134025866
 kernel_rfl
theorem Ls4_h (w : World) : Ls4 w := by
 rw [show Ls4 w = PySem.W.Fast.hdLs4 w from congrFun PySem.W.Fast.hdLs4_eq _]
 delta PySem.W.Fast.hdLs4 PySem.W.Fast.tw13894289833044730176
 kernel_rfl
theorem Ls5_h (w : World) : Ls5 w := by
 rw [show Ls5 w = PySem.W.Fast.hdLs5 w from congrFun PySem.W.Fast.hdLs5_eq _]
 delta PySem.W.Fast.hdLs5 PySem.W.Fast.tw11162159950934395656
 kernel_rfl
theorem Ls6_h (w : World) : Ls6 w := by
 rw [show Ls6 w = PySem.W.Fast.hdLs6 w from congrFun PySem.W.Fast.hdLs6_eq _]
 delta PySem.W.Fast.hdLs6 PySem.W.Fast.tw9014929701734557122
 kernel_rfl
theorem Ls7_h (w : World) : Ls7 w := by
 rw [show Ls7 w = PySem.W.Fast.hdLs7 w from congrFun PySem.W.Fast.hdLs7_eq _]
 delta PySem.W.Fast.hdLs7 PySem.W.Fast.tw16695146034332369646
 kernel_rfl
theorem Ls8_h (w : World) : Ls8 w := by
 rw [show Ls8 w = PySem.W.Fast.hdLs8 w from congrFun PySem.W.Fast.hdLs8_eq _]
 delta PySem.W.Fast.hdLs8 PySem.W.Fast.tw13045354483572663336
 kernel_rfl
theorem Ls9_h (w : World) : Ls9 w := by
 rw [show Ls9 w = PySem.W.Fast.hdLs9 w from congrFun PySem.W.Fast.hdLs9_eq _]
 delta PySem.W.Fast.hdLs9 PySem.W.Fast.tw9459536174771691377
 kernel_rfl
theorem Yk_h (w : World) : Yk w := by
 rw [show Yk w = PySem.W.Fast.hdYk w from congrFun PySem.W.Fast.hdYk_eq _]
 delta PySem.W.Fast.hdYk PySem.W.Fast.tw3491827284470035837
 kernel_rfl
noncomputable def R4 : List Stmt := L4 ++ []
noncomputable def R3 : List Stmt := L3 ++ R4
noncomputable def R2 : List Stmt := L2 ++ R3
noncomputable def R1 : List Stmt := L1 ++ R2
noncomputable def R0 : List Stmt := L0 ++ R1
theorem bd_is : bd = R0 := by kernel_rfl
theorem rest_h (w : World) (os : OsState) : topRun treeTable pw w 11 an (654 + (742 + (742 + (728 + (858 + 2))))) (S0T w os).abs (restOf R0 en cE ⟨0, 0, 0, 0⟩ B) = some (Sf w os) :=
 (piece_app (l := L0) (segRun_of (congrFun (P0_h w) os)) (piece_app (l := L1) (segRun_of (congrFun (P1_h w) os)) (piece_app (l := L2) (segRun_of (congrFun (P2_h w) os)) (piece_app (l := L3) (segRun_of (congrFun (P3_h w) os)) (piece_app (l := L4) (segRun_of (congrFun (P4_h w) os)) (congrFun (Fin_h w) os))))))
theorem run_h (w : World) (os : OsState) : topRun treeTable pw w 11 an (12 + (1 + (654 + (742 + (742 + (728 + (858 + 2))))))) (S0 w os) (topStub pw) = some (Sf w os) :=
 go_top (congrFun (Pre_h w) os) (piece_block (congrFun (Blk_h w) os) (by
   rw [show restOf bd en cE ⟨0, 0, 0, 0⟩ B = restOf R0 en cE ⟨0, 0, 0, 0⟩ B from congrArg (fun l => restOf l en cE ⟨0, 0, 0, 0⟩ B) bd_is]
   exact rest_h w os))
theorem Yk_k (w : World) (os : OsState) : Hook.obs H (Sf w os) = Hook.val H w := by
 show as.map (Sf w os).heap.get? = (K w.params).map fun p => some p.2
 rw [K_is]; exact congrFun (Yk_h w) os
theorem left_h : LeftO pw q ["HOW_MANY_PARTS"] Xt (Hook.obs H) (Hook.val H) 7564 :=
 LeftO.of_pieces (H₀ := boot_heap) (H₁ := Hf) (m₀ := 11) (ann := an) (boot_open rfl rfl (fun _ => rfl)) Size_h run_h (by decide +kernel) fun w => funext fun os =>
   looks_pair (congrFun (LA_h w) os) (looks_pair
     (show openSeen q ["HOW_MANY_PARTS"] (importedModules pw.main.body) Xt true (Sf w os) = openGood q ["HOW_MANY_PARTS"] from
       looks_pair (congrFun (Ls1_h w) os) (looks_pair (congrFun (Ls2_h w) os) (looks_pair (congrFun (Ls3_h w) os) (looks_pair (congrFun (Ls4_h w) os) (looks_pair (congrFun (Ls5_h w) os) (looks_pair (congrFun (Ls6_h w) os) (looks_pair (congrFun (Ls7_h w) os) (looks_pair (congrFun (Ls8_h w) os) (congrFun (Ls9_h w) os)))))))))
     (Yk_k w os))
end Hd
open PySem PySem.W PyProof.Rows
set_option maxRecDepth 100000 in
set_option maxHeartbeats 0 in
theorem PySem.Challenge.cw_joinload_k42_the_first_bad_row_of_a_whol_holds : PySem.Challenge.rw_joinload_k42_the_first_bad_row_of_a_whol.Holds := by
 w_on; o_law
 refine holds_open (q := Hd.q) (loose := ["HOW_MANY_PARTS"]) (Xt := Hd.Xt) (XP := XL Hd.q []) (Yf := Hook.obs Hd.H) (Ya := Hook.val Hd.H) (YP := InK Hd.K) Hd.left_h (Hook.of Hd.H) (Hook.keeps Hd.H) (fun s e => xl_of s (Bool.and_eq_true_iff.mp e).1) XL.keeps (by rfl) (by rfl) (by rfl) (fun s e => recFacts_of (Bool.and_eq_true_iff.mp e).2) (by rfl) (by first | assumption | decide +kernel) (by decide +kernel) ⟨rfl, rfl, rfl, rfl, rfl, by decide +kernel⟩ ?hw ?hc
 (case hw => w_witness2)
 k_fill
 refine My.walk (l := PySem.Challenge.rw_joinload_k42_the_first_bad_row_of_a_whol) (K := Hd.K) rfl rfl (fun w h Y => Y) ?F
 case F =>
   intro w mg fa h KX G hmg
   refine' My.all_mk KX G hmg ?ac_qzk ?ac_Lost ?ac_qyv ?ac_qyj ?ac_qxq ?ac_qyk ?ac_qyx ?ac_qyz ?ac_qxw ?ac_qxz ?ac_qxy ?ac_qwv ?a_qqj ?i_qqj ?l_qqj ?e_qqj ?k_qqj ?a_qzv ?l_qzv ?e_qzv ?k_qzv ?a_qyy ?l_qyy ?e_qyy ?k_qyy ?a_qzq ?l_qzq ?e_qzq ?k_qzq ?a_qzj ?l_qzj ?e_qzj ?k_qzj ?a_qzx ?l_qzx ?e_qzx ?k_qzx ?a_qqx ?i_qqx ?l_qqx ?e_qqx ?k_qqx ?a_qqk ?i_qqk ?l_qqk ?e_qqk ?k_qqk ?a_qqq ?i_qqq ?l_qqq ?e_qqq ?k_qqq ?a_qqz ?i_qqz ?l_qqz ?e_qqz ?k_qqz ?a_qqy ?i_qqy ?l_qqy ?e_qqy ?k_qqy ?a_qqw ?i_qqw ?l_qqw ?e_qqw ?k_qqw ?a_qzw ?l_qzw ?e_qzw ?k_qzw ?a_qwz ?l_qwz ?e_qwz ?k_qwz ?a_qww ?l_qww ?e_qww ?k_qww ?a_qyq ?l_qyq ?e_qyq ?k_qyq ?a_qyw ?l_qyw ?e_qyw ?k_qyw ?a_qzz ?l_qzz ?e_qzz ?k_qzz ?a_qwj ?l_qwj ?e_qwj ?k_qwj ?a_qwq ?l_qwq ?e_qwq ?k_qwq ?a_qqv ?l_qqv ?e_qqv ?k_qqv ?a_qwk ?l_qwk ?e_qwk ?k_qwk ?a_qwy ?l_qwy ?e_qwy ?k_qwy ?a_qwx ?l_qwx ?e_qwx ?k_qwx ?a_qzy ?l_qzy ?e_qzy ?k_qzy ?a_law ?l_law ?e_law ?k_law ?pg_qwv ?hd_qwv ?po_qwv ?sa_qwv ?mm_qwv ?kc_qwv ?hd_L ?ki_N ?ki_V ?ka ?mj ?xg_qyx ?xn_qyx ?xl_qyx ?xo_qyx ?xb_qyx ?sp_cl ?tk_cl ?ei_qyx ?ee_qyx ?es_qyx ?br_qzk ?bf_qzk ?bg_qzk ?ct_qzk ?cb_qzk ?no_qyx_row ?no_qwv_step ?no_qwv_size ?no_qwv_entry ?no_qwv_parts ?no_qwv_leaning ?no_qwv_last_words ?no_qwv_end ?no_qwv_behind_word ?g_FIGURES ?g_HOW_MANY_PARTS ?l_HOW_MANY_PARTS ?s_HOW_MANY_PARTS ?g_LEANING_RULES ?l_LEANING_RULES ?n_ValueError ?n_all ?n_bool ?n_enumerate ?n_int ?n_isinstance ?n_len ?n_max ?n_range ?n_str
   (case ac_qzk => k_is)
   (case ac_Lost => k_is)
   (case ac_qyv => k_is)
   (case ac_qyj => k_is)
   (case ac_qxq => k_is)
   (case ac_qyk => k_is)
   (case ac_qyx => k_is)
   (case ac_qyz => k_is)
   (case ac_qxw => k_is)
   (case ac_qxz => k_is)
   (case ac_qxy => k_is)
   (case ac_qwv => k_is)
   (case a_qqj => k_is)
   (case i_qqj => k_is)
   (case l_qqj => k_is)
   (case e_qqj => k_is)
   (case k_qqj => k_is)
   (case a_qzv => k_is)
   (case l_qzv => k_is)
   (case e_qzv => k_is)
   (case k_qzv => k_is)
   (case a_qyy => k_is)
   (case l_qyy => k_is)
   (case e_qyy => k_is)
   (case k_qyy => k_is)
   (case a_qzq => k_is)
   (case l_qzq => k_is)
   (case e_qzq => k_is)
   (case k_qzq => k_is)
   (case a_qzj => k_is)
   (case l_qzj => k_is)
   (case e_qzj => k_is)
   (case k_qzj => k_is)
   (case a_qzx => k_is)
   (case l_qzx => k_is)
   (case e_qzx => k_is)
   (case k_qzx => k_is)
   (case a_qqx => k_is)
   (case i_qqx => k_is)
   (case l_qqx => k_is)
   (case e_qqx => k_is)
   (case k_qqx => k_is)
   (case a_qqk => k_is)
   (case i_qqk => k_is)
   (case l_qqk => k_is)
   (case e_qqk => k_is)
   (case k_qqk => k_is)
   (case a_qqq => k_is)
   (case i_qqq => k_is)
   (case l_qqq => k_is)
   (case e_qqq => k_is)
   (case k_qqq => k_is)
   (case a_qqz => k_is)
   (case i_qqz => k_is)
   (case l_qqz => k_is)
   (case e_qqz => k_is)
   (case k_qqz => k_is)
   (case a_qqy => k_is)
   (case i_qqy => k_is)
   (case l_qqy => k_is)
   (case e_qqy => k_is)
   (case k_qqy => k_is)
   (case a_qqw => k_is)
   (case i_qqw => k_is)
   (case l_qqw => k_is)
   (case e_qqw => k_is)
   (case k_qqw => k_is)
   (case a_qzw => k_is)
   (case l_qzw => k_is)
   (case e_qzw => k_is)
   (case k_qzw => k_is)
   (case a_qwz => k_is)
   (case l_qwz => k_is)
   (case e_qwz => k_is)
   (case k_qwz => k_is)
   (case a_qww => k_is)
   (case l_qww => k_is)
   (case e_qww => k_is)
   (case k_qww => k_is)
   (case a_qyq => k_is)
   (case l_qyq => k_is)
   (case e_qyq => k_is)
   (case k_qyq => k_is)
   (case a_qyw => k_is)
   (case l_qyw => k_is)
   (case e_qyw => k_is)
   (case k_qyw => k_is)
   (case a_qzz => k_is)
   (case l_qzz => k_is)
   (case e_qzz => k_is)
   (case k_qzz => k_is)
   (case a_qwj => k_is)
   (case l_qwj => k_is)
   (case e_qwj => k_is)
   (case k_qwj => k_is)
   (case a_qwq => k_is)
   (case l_qwq => k_is)
   (case e_qwq => k_is)
   (case k_qwq => k_is)
   (case a_qqv => k_is)
   (case l_qqv => k_is)
   (case e_qqv => k_is)
   (case k_qqv => k_is)
   (case a_qwk => k_is)
   (case l_qwk => k_is)
   (case e_qwk => k_is)
   (case k_qwk => k_is)
   (case a_qwy => k_is)
   (case l_qwy => k_is)
   (case e_qwy => k_is)
   (case k_qwy => k_is)
   (case a_qwx => k_is)
   (case l_qwx => k_is)
   (case e_qwx => k_is)
   (case k_qwx => k_is)
   (case a_qzy => k_is)
   (case l_qzy => k_is)
   (case e_qzy => k_is)
   (case k_qzy => k_is)
   (case a_law => k_is)
   (case l_law => k_is)
   (case e_law => k_is)
   (case k_law => k_is)
   (case pg_qwv => k_is)
   (case hd_qwv => k_is)
   (case po_qwv => k_is)
   (case sa_qwv => k_is)
   (case mm_qwv => k_is)
   (case kc_qwv => k_is)
   (case hd_L => k_is)
   (case ki_N => kit_is)
   (case ki_V => kit_is)
   (case ka => kit_is)
   (case mj => k_is)
   (case xg_qyx => k_is)
   (case xn_qyx => k_is)
   (case xl_qyx => k_is)
   (case xo_qyx => k_is)
   (case xb_qyx => k_is)
   (case sp_cl => k_is)
   (case tk_cl => k_is)
   (case ei_qyx => kernel_rfl)
   (case ee_qyx => kernel_rfl)
   (case es_qyx => k_is)
   (case br_qzk => kernel_rfl)
   (case bf_qzk => kernel_rfl)
   (case bg_qzk => k_is)
   (case ct_qzk => k_is)
   (case cb_qzk => k_is)
   (case no_qyx_row => k_is)
   (case no_qwv_step => k_is)
   (case no_qwv_size => k_is)
   (case no_qwv_entry => k_is)
   (case no_qwv_parts => k_is)
   (case no_qwv_leaning => k_is)
   (case no_qwv_last_words => k_is)
   (case no_qwv_end => k_is)
   (case no_qwv_behind_word => k_is)
   (case g_FIGURES => k_is)
   (case g_HOW_MANY_PARTS => k_is)
   (case l_HOW_MANY_PARTS => k_is)
   (case s_HOW_MANY_PARTS => rfl)
   (case g_LEANING_RULES => k_is)
   (case l_LEANING_RULES => k_is)
   (case n_ValueError => k_is)
   (case n_all => k_is)
   (case n_bool => k_is)
   (case n_enumerate => k_is)
   (case n_int => k_is)
   (case n_isinstance => k_is)
   (case n_len => k_is)
   (case n_max => k_is)
   (case n_range => k_is)
   (case n_str => k_is)
#print axioms PySem.Challenge.cw_joinload_k42_the_first_bad_row_of_a_whol_holds
