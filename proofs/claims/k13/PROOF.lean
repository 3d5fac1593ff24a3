import PyProof.Rows.All
import Wide.All
import OpenK.AllK
import Wide.FinOn
import Lean
import PyProof.EqAt
import PyProof.EqKinds
import PyProof.TupleCall
import PyProof.StationsW
import PyProof.ExcAttrAll.ValueError
import KE.KIsAll
import PyProof.RulesAs
import PyProof.NsDelKeeps
import PyProof.FString
import PyProof.FString4
import PyProof.Rows.FStr
import PyProof.Rows.FStrParts
import PyProof.StrCalls2
import PyProof.StrLawsRepr
import PyProof.StrLawsJoin
import PyProof.StrLaws
import PyProof.Rows.ReprOcc
import PyProof.ExcInit
import PyProof.InstStoreFacts
import KE.KDictOf
import PyProof.AttrMissHeap
import PyProof.AttrMissSeq
import PyProof.WalksS
import PyProof.Walks
import PyProof.Seq
import PyProof.DictList
import PyProof.DictUpdate
import PyProof.MakeMany
import PyProof.Rows.SetFrom
import PyProof.ZipIter
import PyProof.Rows.TupDisplay
import PyProof.EnumFor
import PyProof.EnumMake
import PyProof.EnumStmt
import PyProof.SeqI3
import PyProof.Rows.SumAny
import KE.KDictIter
import PyProof.DictWalks
import PyProof.StrLawsChain
import PyProof.StrLawsTight
import KE.KIntText
import PyProof.CallType
import PyProof.Rows.CallKwBuiltin
import PyProof.Draws
import PyProof.DefCall
import PyProof.SetKind
import PyProof.DictKinds
import PyProof.CollectWalk
import PyProof.FactsAll.set
import PyProof.DictIter
import PyProof.FactsTree
import PyProof.CollectStr
import KE.KDictLaws
import PySem.Challenge.RW_joinload_k13_whole_pieces_both_ways
set_option Elab.async false
set_option linter.all false
set_option maxRecDepth 100000
set_option genSizeOfSpec false
abbrev Wf:=PySem.W.Frag
abbrev Vs:=PySem.Value→PySem.Shared→Prop
abbrev Lo:=List (PySem.Addr×PySem.Obj)
abbrev So:=PySem.Str→Option PySem.Value
namespace L2
open PySem PySem.Spec PyProof.Rows
noncomputable abbrev Key:=Sum Int Str
noncomputable def keyIs:Key→Value→Bool
 | .inl k,v=>Value.isInt k v
 | .inr x,v=>Value.isStrOf x v
noncomputable def keyH (w:World):Key→Int
 | .inl k=>hashInt k
 | .inr x=>hashStr w x
theorem zz20:∀{k:Key}{v:Value},keyIs k v=true→(∃i t,k=Sum.inl i∧v=Value.int i t)∨(∃x t,k=Sum.inr x∧v=Value.str x t)
 | .inl i,v,h=>by
  obtain⟨t,e⟩:=Value.isInt_shape (k:=i) (v:=v) h
  exact .inl ⟨i,t,rfl,e⟩
 | .inr x,v,h=>by
  obtain⟨t,e⟩:=Value.isStrOf_shape (x:=x) (v:=v) h
  exact .inr ⟨x,t,rfl,e⟩
theorem keyIs_int (i:Int) (t:Tok):keyIs (.inl i) (.int i t)=true:=by simp[keyIs,Value.isInt]
theorem keyIs_str (x:Str) (t:Tok):keyIs (.inr x) (.str x t)=true:=by simp[keyIs,Value.isStrOf]
theorem key_ll (a b:Int):decide ((Sum.inl a:Key)=Sum.inl b)=(a == b):=by
 by_cases e:a=b
 ·subst e;simp
 ·have h:¬(Sum.inl a:Key)=Sum.inl b:=fun q=>e (Sum.inl.inj q)
  rw[decide_eq_false h]
  exact (beq_eq_false_iff_ne.mpr e).symm
theorem key_rr (a b:Str):decide ((Sum.inr a:Key)=Sum.inr b)=decide (a=b):=by
 by_cases e:a=b
 ·subst e;simp
 ·have h:¬(Sum.inr a:Key)=Sum.inr b:=fun q=>e (Sum.inr.inj q)
  rw[decide_eq_false h,decide_eq_false e]
theorem key_lr (a:Int) (b:Str):decide ((Sum.inl a:Key)=Sum.inr b)=false:=decide_eq_false (fun q=>nomatch q)
theorem key_rl (a:Str) (b:Int):decide ((Sum.inr a:Key)=Sum.inl b)=false:=decide_eq_false (fun q=>nomatch q)
noncomputable def mixKind (prog:Program) (w:World):PySem.KeyKind prog w Key where
 is:=keyIs
 hash:=keyH w
 inj:=fun v a b ha hb=>by
  rcases zz20 ha with ⟨i,t,rfl,rfl⟩ | ⟨x,t,rfl,rfl⟩
  ·rcases zz20 hb with ⟨j,u,rfl,e⟩ | ⟨y,u,rfl,e⟩
   ·injection e with e1 _;rw[e1]
   ·exact nomatch e
  ·rcases zz20 hb with ⟨j,u,rfl,e⟩ | ⟨y,u,rfl,e⟩
   ·exact nomatch e
   ·injection e with e1 _;rw[e1]
 byValue:=fun k v h=>by
  rcases zz20 h with ⟨i,t,rfl,rfl⟩ | ⟨x,t,rfl,rfl⟩<;>rfl
 pyHash:=fun hv h=>by
  rcases zz20 hv with ⟨i,t,rfl,rfl⟩ | ⟨x,t,rfl,rfl⟩
  ·exact wpAny_pyHash_int h
  ·exact wpAny_pyHash_str h
 eqBool:=fun hu hv h=>by
  rcases zz20 hu with ⟨i,t,rfl,rfl⟩ | ⟨x,t,rfl,rfl⟩
  ·rcases zz20 hv with ⟨j,u,rfl,rfl⟩ | ⟨y,u,rfl,rfl⟩
   ·rw[key_ll]at h;exact wpAny_eqBool_int h
   ·rw[key_lr]at h;exact SeqAt.EqAt.int_str i t y u _ _ _ _ h
  ·rcases zz20 hv with ⟨j,u,rfl,rfl⟩ | ⟨y,u,rfl,rfl⟩
   ·rw[key_rl]at h;exact SeqAt.EqAt.str_int x t j u _ _ _ _ h
   ·rw[key_rr]at h;exact wpAny_eqBool_str h
 «strs»:=fun k x t v h=>by
  rcases zz20 h with ⟨i,u,rfl,e⟩ | ⟨y,u,rfl,e⟩
  ·exact nomatch e
  ·injection e with e1 _
   subst e1
   cases v<;>rfl
theorem mixKind_int (prog:Program) (w:World) (i:Int) (t:Tok):(mixKind prog w).is (.inl i) (.int i t)=true:=keyIs_int i t
theorem mixKind_str (prog:Program) (w:World) (x:Str) (t:Tok):(mixKind prog w).is (.inr x) (.str x t)=true:=keyIs_str x t
end L2
namespace L2
open PySem PySem.Spec PyProof.Rows
inductive V where
 | non | bl (b:Bool) | int (i:Int) | str (x:Str) | byt (b:Array UInt8) | flt (b:UInt64) | ref (a:Addr) | ty (n:String)
 deriving DecidableEq
noncomputable def RelV:V→Value→Prop
 | .non,u=>u=Value.none
 | .bl b,u=>u=Value.bool b
 | .int i,u=>∃t,u=Value.int i t
 | .str x,u=>∃t,u=Value.str x t
 | .byt b,u=>∃t,u=Value.bytes b t
 | .flt b,u=>∃t,u=Value.float b t
 | .ref a,u=>u=Value.ref a
 | .ty n,u=>u=Value.type n
noncomputable abbrev Vals:List V→List Value→Prop:=Paired RelV
theorem Vals.length {xs:List V}{us:List Value}(r:Vals xs us):xs.length=us.length:=Paired.length r
theorem Vals.get:∀{xs:List V}{us:List Value}{i:Nat}{x:V},Vals xs us→xs[i]?=some x→∃u,us[i]?=some u∧RelV x u
 | _,_,_,_,.nil,e=>by simp at e
 | _,_,0,_,.cons r _,e=>by simp at e;subst e;exact⟨_,rfl,r⟩
 | _,_,i+1,x,.cons _ t,e=>by
  obtain⟨u,h1,h2⟩:=Vals.get (i:=i) (x:=x) t (by simpa using e)
  exact⟨u,by simpa using h1,h2⟩
theorem Vals.set {x:V}{u:Value}(r:RelV x u):∀{xs:List V}{us:List Value}(i:Nat),Vals xs us→Vals (xs.set i x) (us.set i u)
 | _,_,_,.nil=>.nil
 | _,_,0,.cons _ t=>.cons r t
 | _,_,i+1,.cons q t=>.cons q (Vals.set r i t)
theorem Vals.append:∀{xs ys:List V}{us ws:List Value},Vals xs us→Vals ys ws→Vals (xs++ys) (us++ws)
 | _,_,_,_,.nil,s=>s
 | _,_,_,_,.cons r t,s=>.cons r (Vals.append t s)
theorem Vals.take:∀{xs:List V}{us:List Value}(n:Nat),Vals xs us→Vals (xs.take n) (us.take n)
 | _,_,0,_=>.nil
 | _,_,_+1,.nil=>.nil
 | _,_,n+1,.cons r t=>.cons r (Vals.take n t)
theorem Vals.drop:∀{xs:List V}{us:List Value}(n:Nat),Vals xs us→Vals (xs.drop n) (us.drop n)
 | _,_,0,r=>r
 | _,_,_+1,.nil=>.nil
 | _,_,n+1,.cons _ t=>Vals.drop n t
noncomputable def RelO:Option V→Option Value→Prop
 | some v,some u=>RelV v u
 | none,none=>True
 | _,_=>False
noncomputable def KV {κ:Type}:List (κ×V)→List (κ×Value)→Prop:=Paired fun (p:κ×V) (q:κ×Value)=>p.1=q.1∧RelV p.2 q.2
noncomputable def kV:Key→V
 | .inl i=>.int i
 | .inr x=>.str x
inductive HO where
  | lst (xs:List V)
  | tup (xs:List V)
  | dK (kvs:List (Key×V)) | dT (kvs:List (List Key×V))
  | set (S:Int→Bool) (n:Nat)
  | ins (C dx:Addr) (fs:List (Str×V))
  | own (x:Addr)
  | xd (fs:List (Str×V))
  | met (f x:Addr)
  | rng (lo hi:Int)
  | frz (o:Obj) (u:HO)
  | tbl (ps:Array Value)
  | ext (φ:Heap→Prop)
noncomputable abbrev Hp:=Addr→Option HO
noncomputable def upd (H:Hp) (a:Addr) (o:HO):Hp:=fun b=>if b=a then some o else H b
theorem zz1 {H:Hp}{a:Addr}{o:HO}:upd H a o a=some o:=by unfold upd;rw[if_pos rfl]
theorem upd_ne {H:Hp}{a b:Addr}{o:HO}(h:b≠a):upd H a o b=H b:=by unfold upd;rw[if_neg h]
theorem upd_upd {H:Hp}{a:Addr}{o u:HO}:upd (upd H a o) a u=upd H a u:=by
 funext b;unfold upd;split<;>rfl
theorem ne_of {H:Hp}{a b:Addr}{o u:HO}(h:H a=some o) (h':H b=some u) (d:o≠u):a≠b:=by
 intro e;subst e;rw[h]at h';exact d (Option.some.inj h')
theorem zz3 {H:Hp}{a b:Addr}{o:HO}(h:H a=some o) (h':H b=none):a≠b:=by
 intro e;subst e;rw[h]at h';cases h'
section
variable (P:Program) (w:World)
noncomputable def ObjOk (H:Hp) (h:Heap) (a:Addr):HO→Prop
 | .lst xs=>xs.length≤sizeLine∧∃(its:List Value) (n:Nat),Vals xs its∧h.get? a=some { cls:=.type "list", data:=.seq its.toArray n }
 | .tup xs=>xs.length≤sizeLine∧∃its:List Value,Vals xs its∧IsTup h a its.toArray
 | .dK kvs=>kvs.length≤sizeLine∧(a == sysModules)=false∧∃vs,KV kvs vs∧h.DictOf (mixKind P w) a vs
 | .dT kvs=>kvs.length≤sizeLine∧(a == sysModules)=false∧∃xs:List (List Key×Addr×Value),
   Paired (fun (p:List Key×V) (q:List Key×Addr×Value)=>p.1=q.1∧H q.2.1=some (.tup (p.1.map kV))∧RelV p.2 q.2.2) kvs xs∧
   ∃o es ep,h.get? a=some o∧o.ExactDict∧o.data=.dict es ep∧es.toList=xs.map (entryOfKey (tupleKind (mixKind P w)))∧(xs.map (·.1)).Nodup
 | .set S n=>h.SetOf (intKind P w) a S n
 | .ins C dx fs=>H dx=some (.own a)∧fs.length≤1000∧dx≠a∧h.get? a=some (PySem.W.instObj C dx)∧
   ∃mA,h.Ns1 dx mA∧(∀f,RelO (fs.lookup f) (mA f))∧PySem.Within mA (fs.map (·.1))
 | .own _=>∃o,h.get? a=some o
 | .xd fs=>∃mA,h.Ns1 a mA∧∀f,RelO (fs.lookup f) (mA f)
 | .rng lo hi=>∃t u v,h.get? a=some { cls:=.type "range", data:=.fields #[.int lo t,.int hi u,.int 1 v] }
 | .frz o u=>h.get? a=some o∧ObjOk H h a u
 | .tbl ps=>h.get? a=some { cls:=.none,data:=.fields ps }
 | .met f x=>h.get? a=some (PySem.W.methodObj (.ref f) (.ref x))
 | .ext φ=>φ h∧(∃o,h.get? a=some o)∧∀h1 h2:Heap,φ h1→(∀o,h1.get? a=some o→h2.get? a=some o)→φ h2
def HOk (H:Hp) (h:Heap):Prop:=∀a o,H a=some o→ObjOk P w H h a o
end
section
variable {P:Program}{w:World}{H H':Hp}{h h':Heap}{a:Addr}{o:HO}
theorem ObjOk.lt (x:ObjOk P w H h a o):a<h.objs.size:=by
 cases o with
 | lst xs=>obtain⟨_,_,_,_,e⟩:=x;exact Heap.lt_size e
 | tup xs=>obtain⟨_,_,_,p⟩:=x;exact p.lt
 | dK kvs=>obtain⟨_,_,_,_,o,_,_,e,_⟩:=x;exact Heap.lt_size e
 | dT kvs=>obtain⟨_,_,_,_,o,_,_,e,_⟩:=x;exact Heap.lt_size e
 | set S n=>obtain⟨o,_,_,_,e,_⟩:=x;exact Heap.lt_size e
 | ins C dx fs=>obtain⟨_,_,_,e,_⟩:=x;exact Heap.lt_size e
 | own y=>obtain⟨_,e⟩:=x;exact Heap.lt_size e
 | xd fs=>obtain⟨_,⟨_,_,_,e,_⟩,_⟩:=x;exact Heap.lt_size e
 | rng lo hi=>obtain⟨_,_,_,e⟩:=x;exact Heap.lt_size e
 | frz ob u=>obtain⟨e,_⟩:=x;exact Heap.lt_size e
 | tbl ps=>exact Heap.lt_size (show h.get? a=some _ from x)
 | met f y=>exact Heap.lt_size (show h.get? a=some _ from x)
 | ext φ=>obtain⟨_,⟨_,e⟩,_⟩:=x;exact Heap.lt_size e
theorem Paired.mapP {α β:Type}{F G:α→β→Prop}:∀{l₁:List α}{l₂:List β},Paired F l₁ l₂→(∀a b,F a b→G a b)→Paired G l₁ l₂
 | _,_,.nil,_=>.nil
 | _,_,.cons r t,f=>.cons (f _ _ r) (Paired.mapP t f)
theorem ObjOk.stay (x:ObjOk P w H h a o) (k:∀b u,(b=a∨H b=some (.own a))→h.get? b=some u→h'.get? b=some u)
  (ho:∀b,H b=some (.own a)→H' b=some (.own a)) (ht:∀b xs,H b=some (.tup xs)→H' b=some (.tup xs)):ObjOk P w H' h' a o:=by
 induction o with
 | lst xs=>obtain⟨z,its,n,r,e⟩:=x;exact⟨z,its,n,r,k _ _ (.inl rfl) e⟩
 | tup xs=>obtain⟨z,its,r,ob,e,c⟩:=x;exact⟨z,its,r,ob,k _ _ (.inl rfl) e,c⟩
 | dK kvs=>obtain⟨z,y,vs,r,ob,es,ep,e,c⟩:=x;exact⟨z,y,vs,r,ob,es,ep,k _ _ (.inl rfl) e,c⟩
 | dT kvs=>
  obtain⟨z,y,xs,r,ob,es,ep,e,c⟩:=x
  exact⟨z,y,xs,Paired.mapP r fun p q z=>⟨z.1,ht _ _ z.2.1,z.2.2⟩,ob,es,ep,k _ _ (.inl rfl) e,c⟩
 | set S n=>obtain⟨ob,es,ep,t,e,c⟩:=x;exact⟨ob,es,ep,t,k _ _ (.inl rfl) e,c⟩
 | ins C dx fs=>
  obtain⟨d,z,ne,e,mA,⟨od,es,ep,e2,c⟩,r⟩:=x
  exact⟨ho _ d,z,ne,k _ _ (.inl rfl) e,mA,⟨od,es,ep,k _ _ (.inr d) e2,c⟩,r⟩
 | own y=>obtain⟨ob,e⟩:=x;exact⟨ob,k _ _ (.inl rfl) e⟩
 | xd fs=>obtain⟨mA,⟨od,es,ep,e,c⟩,r⟩:=x;exact⟨mA,⟨od,es,ep,k _ _ (.inl rfl) e,c⟩,r⟩
 | rng lo hi=>obtain⟨t,u,v,e⟩:=x;exact⟨t,u,v,k _ _ (.inl rfl) e⟩
 | frz ob u ih=>obtain⟨e,q⟩:=x;exact⟨k _ _ (.inl rfl) e,ih q⟩
 | tbl ps=>
  have e:h.get? a=some { cls:=.none,data:=.fields ps }:=x
  show h'.get? a=some { cls:=.none,data:=.fields ps }
  exact k a _ (.inl rfl) e
 | met f y=>
  have e:h.get? a=some (PySem.W.methodObj (.ref f) (.ref y)):=x
  show h'.get? a=some (PySem.W.methodObj (.ref f) (.ref y))
  exact k a _ (.inl rfl) e
 | ext φ=>obtain⟨p,⟨o,e⟩,st⟩:=x;exact⟨st _ _ p fun o q=>k _ _ (.inl rfl) q,⟨o,k _ _ (.inl rfl) e⟩,st⟩
theorem HOk.lt (x:HOk P w H h) (e:H a=some o):a<h.objs.size:=(x a o e).lt
theorem HOk.fresh (x:HOk P w H h) (e:h.objs.size≤a):H a=none:=by
 cases q:H a with
 | none=>rfl
 | some u=>exact absurd (Nat.lt_of_lt_of_le (x.lt q) e) (Nat.lt_irrefl _)
theorem HOk.kept (x:HOk P w H h) (k:∀b u,h.get? b=some u→h'.get? b=some u):HOk P w H h':=fun a o e=>
 (x a o e).stay (fun b u _ q=>k b u q) (fun _ q=>q) fun _ _ q=>q
theorem HOk.laid (x:HOk P w H h) (k:∀b u,h.get? b=some u→h'.get? b=some u) (hp:h.objs.size≤a) (new:ObjOk P w (upd H a o) h' a o):HOk P w (upd H a o) h':=fun b u e=>by
 have hn:=x.fresh hp
 by_cases hb:b=a
 ·subst hb;rw[zz1]at e;cases e;exact new
 ·rw[upd_ne hb]at e
  exact (x b u e).stay (fun c v _ q=>k c v q) (fun c q=>by rw[upd_ne (zz3 q hn)];exact q) fun c xs q=>by rw[upd_ne (zz3 q hn)];exact q
end
def Rd (H:Hp) (a:Addr) (u:HO):Prop:=H a=some u∨∃o,H a=some (.frz o u)
theorem Rd.ok {P:Program}{w:World}{H:Hp}{h:Heap}{a:Addr}{u:HO}(r:Rd H a u) (x:HOk P w H h):ObjOk P w H h a u:=by
 rcases r with r | ⟨o,r⟩
 ·exact x a u r
 ·obtain⟨_,q⟩:=x a _ r
  exact q
noncomputable def Mut:Option HO→Prop
 | some (.lst _)=>True
 | some (.dK _)=>True
 | some (.dT _)=>True
 | some (.set _ _)=>True
 | some (.ins _ _ _)=>True
 | some (.ext _)=>True
 | _=>False
section
variable {P:Program}{w:World}{H:Hp}{h h':Heap}{x e:Addr}{o':HO}
theorem HOk.write (ok:HOk P w H h) (mu:Mut (H x)) (he:e=x∨H e=some (.own x)) (k:∀b u,b≠e→h.get? b=some u→h'.get? b=some u) (heo:∃u,h'.get? e=some u)
  (new:ObjOk P w (upd H x o') h' x o'):HOk P w (upd H x o') h':=fun b u q=>by
 have nown:∀c y,H c=some (.own y)→c≠x:=fun c y r z=>by subst z;rw[r]at mu;exact mu
 have ntup:∀c xs,H c=some (.tup xs)→c≠x:=fun c xs r z=>by subst z;rw[r]at mu;exact mu
 by_cases hb:b=x
 ·subst hb;rw[zz1]at q;cases q;exact new
 ·rw[upd_ne hb]at q
  by_cases hbe:b=e
  ·have q':H b=some (.own x):=by
    rcases he with z | z
    ·exact absurd (hbe.trans z) hb
    ·rw[hbe];exact z
   rw[q]at q';cases q'
   obtain⟨v,hv⟩:=heo
   exact⟨v,by rw[hbe];exact hv⟩
  ·refine (ok b u q).stay (fun c v hc r=>k c v ?_ r) (fun c r=>by rw[upd_ne (nown c b r)];exact r) fun c xs r=>by rw[upd_ne (ntup c xs r)];exact r
   rcases hc with rfl | hc
   ·exact hbe
   ·rintro rfl
    rcases he with z | z
    ·exact nown c b hc z
    ·rw[hc]at z;cases z;exact hb rfl
end
set_option genInjectivity false in
structure Un (fs ex:List Addr) (H H':Hp) (h h':Heap):Prop where
 keep:∀b o,h.get? b=some o→H b=none→b∉fs→b∉ex→h'.get? b=some o
 slot:∀b o,h.get? b=some o→H b=none→b∈fs→b∉ex→∃sl,h'.get? b=some { o with slots:=sl }
 free:∀b o,h.get? b=some o→H b=none→b∉ex→H' b=none
 there:∀b o,h.get? b=some o→b∉ex→∃o',h'.get? b=some o'
 tups:∀b xs,H b=some (.tup xs)→H' b=some (.tup xs)
 frzs:∀b o u,H b=some (.frz o u)→H' b=some (.frz o u)
 tbls:∀b ps,H b=some (.tbl ps)→∃more,H' b=some (.tbl (ps++more))
section
variable {fs fs' ex ex':List Addr}{H H1 H2:Hp}{h h1 h2 h':Heap}{a x e:Addr}{o:HO}
theorem Un.any (u:Un fs ex H H1 h h1) {b:Addr}{ob:Obj}(q:h.get? b=some ob) (n:H b=none) (hx:b∉ex):∃sl,h1.get? b=some { ob with slots:=sl }:=by
 by_cases hb:b∈fs
 ·exact u.slot b ob q n hb hx
 ·exact⟨ob.slots,u.keep b ob q n hb hx⟩
theorem Un.kept (k:∀b u,h.get? b=some u→h'.get? b=some u):Un fs ex H H h h':=
 ⟨fun b ob q _ _ _=>k b ob q,fun b ob q _ _ _=>⟨ob.slots,k b ob q⟩,fun _ _ _ n _=>n,fun b ob q _=>⟨ob,k b ob q⟩,fun _ _ q=>q,fun _ _ _ q=>q,fun _ ps q=>⟨#[],by rw[q];simp⟩⟩
theorem Un.refl:Un fs ex H H h h:=Un.kept fun _ _ q=>q
theorem Un.laid (k:∀b u,h.get? b=some u→h'.get? b=some u) (hp:h.objs.size≤a) (hn:H a=none):Un fs ex H (upd H a o) h h' where
 keep:=fun b u q _ _ _=>k b u q
 slot:=fun b u q _ _ _=>⟨u.slots,k b u q⟩
 free:=fun b u q n _=>by rw[upd_ne (Nat.ne_of_lt (Nat.lt_of_lt_of_le (Heap.lt_size q) hp))];exact n
 there:=fun b u q _=>⟨u,k b u q⟩
 tups:=fun b xs q=>by rw[upd_ne (zz3 q hn)];exact q
 frzs:=fun b u xs q=>by rw[upd_ne (zz3 q hn)];exact q
 tbls:=fun b ps q=>⟨#[],by rw[upd_ne (zz3 q hn),q];simp⟩
theorem Un.write (mu:Mut (H x)) (he:e=x∨H e=some (.own x)) (k:∀b u,b≠e→h.get? b=some u→h'.get? b=some u) (heo:∃u,h'.get? e=some u):Un fs ex H (upd H x o) h h':=by
 have hx:∀b,H b=none→b≠x:=fun b n z=>by subst z;rw[n]at mu;exact mu
 have hb:∀b,H b=none→b≠e:=fun b n z=>by
  subst z
  rcases he with r | r
  ·exact hx b n r
  ·rw[n]at r;cases r
 have hm:∀b u,H b=some u→¬Mut (some u)→b≠x:=fun b u q nm z=>by subst z;rw[q]at mu;exact nm mu
 refine⟨fun b u q n _ _=>k b u (hb b n) q,fun b u q n _ _=>⟨u.slots,k b u (hb b n) q⟩,fun b u q n _=>by rw[upd_ne (hx b n)];exact n,fun b u q _ => ?_,
  fun b xs q=>by rw[upd_ne (hm b _ q fun z=>z)];exact q,fun b u xs q=>by rw[upd_ne (hm b _ q fun z=>z)];exact q,fun b ps q=>⟨#[],by rw[upd_ne (hm b _ q fun z=>z),q];simp⟩⟩
 by_cases hbe:b=e
 ·subst hbe;exact heo
 ·exact⟨u,k b u hbe q⟩
end
noncomputable def trk (h:Heap) (H:Hp):List Addr:=(List.range h.objs.size).filter fun a=>(H a).isSome
noncomputable def hidT (h:Heap) (H:Hp):Heap:=PySem.W.hideAll h (trk h H)
theorem hidT_size (h:Heap) (H:Hp):(hidT h H).objs.size=h.objs.size:=PySem.W.hideAll_size _ _
theorem hidT_get {h:Heap}{H:Hp}{b:Addr}{o:Obj}(e:h.get? b=some o) (n:H b=none):(hidT h H).get? b=some o:=
 PySem.W.hideAll_get _ e fun hm=>by
  have q:(H b).isSome=true:=(List.mem_filter.mp hm).2
  rw[n]at q;simp at q
theorem of_hidT {h:Heap}{H:Hp}{b:Addr}{o:Obj}(e:(hidT h H).get? b=some o):h.get? b=some o∧H b=none:=by
 have e':h.get? b=some o:=PySem.W.of_hideAll (trk h H) e
 refine⟨e',?_⟩
 cases q:H b with
 | none=>rfl
 | some x=>
  have hm:b∈trk h H:=List.mem_filter.mpr ⟨List.mem_range.mpr (Heap.lt_size e'),by simp[q]⟩
  have z:(hidT h H).get? b=none:=PySem.W.hideAll_none (trk h H) hm
  rw[z]at e;cases e
noncomputable def allNews (g h:Heap) (L:Addr):Lo:=(List.range h.objs.size).filterMap fun a=>if a=L∨(g.get? a).isSome=true then none else (h.get? a).map fun o=>(a,o)
noncomputable def rest (g h:Heap) (L d:Addr):Lo:=(allNews g h L).filter fun p=>decide (p.1≠d)
end L2
namespace L2
open PySem PySem.Spec PyProof.Rows
set_option genInjectivity false in
structure Mod (K:Wf) (mg:So) (base:Heap):Prop where
 kin:K.In base
 glob:base.Ns mainGlobals mg
 blt:∃mb,base.Ns builtinsNs mb∧∀x:Str,x ≠ "__name__" → mb x=bootBuiltins x
 nolimit:base.NoLimit
set_option genInjectivity false in
structure Cx where
 prog:Program
 w:World
 K:Wf
 mg:Str→Option Value
 base:Heap
 A:Around
 N:List Str
 s₀:Shared
 H₀:Hp
 env:Env
 outer:List Env
 stack:List Env
 ex:List Addr
 fn:Str→Bool
 calm:Bool
 pn:Lo
 xe:Value→Shared→Prop
noncomputable def frs (l:List Env):List Addr:=l.filterMap (·.frame)
noncomputable abbrev Cx.fs (X:Cx):List Addr:=frs X.outer
def Vis (sc:Scope) (x:Str):Prop:=sc.names.lookup x=some .local∨sc.names.lookup x=some .cell∨sc.names.lookup x=some .free
def Loc (sc:Scope) (x:Str):Prop:=sc.names.lookup x=some .local∨sc.names.lookup x=some .cell
def Look (env:Env) (h:Heap) (m:So) (x:Str) (u:Value):Prop:=
 (env.kindOf x=some .local∧m x=some u)∨((env.kindOf x=some .cell∨env.kindOf x=some .free)∧∃c,env.cells.lookup x=some c∧h.IsCell c (some u))
set_option genInjectivity false in
structure Cx.Ok (X:Cx):Prop where
 mod:Mod X.K X.mg X.base
 kind:X.env.scope.kind=.function
 glob:X.env.globals=mainGlobals
 blt:X.env.builtins=builtinsNs
 above:X.s₀.heap.objs.size≤X.env.locals
 inj:∀x y c,X.env.cells.lookup x=some c→X.env.cells.lookup y=some c→x=y
 has:∀x,(X.env.kindOf x=some .cell∨X.env.kindOf x=some .free)→∃c,X.env.cells.lookup x=some c
 cab:∀x c,X.fn x=true→X.env.cells.lookup x=some c→X.s₀.heap.objs.size≤c
 hd:X.calm=true→X.A.handled=none
 frames:X.A.frames=some X.stack
 stk:X.stack=X.outer∨(X.stack=X.env::X.outer∧X.env.frame=some X.env.locals)
 exf:∀b∈X.ex,b≠X.env.locals∧∀x c,X.env.cells.lookup x=some c→c≠b
 bs:∀b o,X.base.get? b=some o→X.s₀.heap.get? b=some o∧X.H₀ b=none
 bsz:X.base.objs.size≤X.s₀.heap.objs.size
 noex:∀b o,X.base.get? b=some o→b∉X.ex
 exfs:∀b∈X.ex,b∉X.fs
 funs:X.s₀.heap.FunFrames X.base X.outer
 frf:∀b∈X.fs,X.H₀ b=none
set_option genInjectivity false in
structure Inv (X:Cx) (pins:Lo) (σ:List (Option V)) (H:Hp) (s:Shared):Prop where
 ok:X.Ok
 os:s.os=X.s₀.os
 bare:AllBare s.gens
 base:Un X.fs X.ex X.H₀ H X.s₀.heap s.heap
 loc:∃m,s.heap.Ns X.env.locals m∧∀(i:Nat) (x:Str) (v:V),X.N[i]?=some x→σ[i]?=some (some v)→Vis X.env.scope x→∃u,RelV v u∧Look X.env s.heap m x u
 cell:∀x c,X.env.cells.lookup x=some c→∃v,s.heap.IsCell c v
 free:H X.env.locals=none
 freeC:∀x c,X.env.cells.lookup x=some c→H c=none
 pin:∀p∈X.pn++pins,s.heap.get? p.1=some p.2∧H p.1=none∧p.1≠X.env.locals∧p.1∉X.fs∧∀v,p.2.data≠.cell v
 hok:HOk X.prog X.w H s.heap
 len:σ.length=X.N.length
section
variable {X:Cx}{pins:Lo}{σ:List (Option V)}{H H':Hp}{s:Shared}{h':Heap}
theorem Cx.Ok.nofr (ok:X.Ok) {b:Addr}{o:Obj}(e:X.base.get? b=some o):b∉X.fs:=fun hb=>by
 have:=(ok.funs.mem hb).1
 rw[e]at this;cases this
theorem Inv.bs (I:Inv X pins σ H s):∀b o,X.base.get? b=some o→s.heap.get? b=some o∧H b=none:=fun b o e=>
 ⟨I.base.keep b o (I.ok.bs b o e).1 (I.ok.bs b o e).2 (I.ok.nofr e) (I.ok.noex b o e),I.base.free b o (I.ok.bs b o e).1 (I.ok.bs b o e).2 (I.ok.noex b o e)⟩
theorem Inv.bk (I:Inv X pins σ H s):∀b o,X.base.get? b=some o→s.heap.get? b=some o:=fun b o e=>(I.bs b o e).1
theorem Inv.mod (I:Inv X pins σ H s):Mod X.K X.mg X.base:=I.ok.mod
theorem Inv.kIn (I:Inv X pins σ H s):X.K.In s.heap:=I.ok.mod.kin.keeps I.bk
theorem Inv.lt (I:Inv X pins σ H s):X.env.locals<s.heap.objs.size:=let ⟨_,hn,_⟩:=I.loc;hn.lt
theorem Inv.sz (I:Inv X pins σ H s):X.s₀.heap.objs.size≤s.heap.objs.size:=Nat.le_trans I.ok.above (Nat.le_of_lt I.lt)
theorem Inv.nofs (I:Inv X pins σ H s) {a:Addr}(h:s.heap.objs.size≤a):a∉X.fs:=fun hb=>by
 obtain⟨_,o,ho,_⟩:=I.ok.funs.mem hb
 exact absurd (Nat.lt_of_lt_of_le (Heap.lt_size ho) (Nat.le_trans I.sz h)) (Nat.lt_irrefl _)
theorem Inv.cne (I:Inv X pins σ H s):∀x c,X.env.cells.lookup x=some c→c≠X.env.locals:=fun x c e z=>by
 obtain⟨v,o,ho,hd⟩:=I.cell x c e
 obtain⟨m,⟨o',es,ep,ho',hd',_⟩,_⟩:=I.loc
 rw[z,ho']at ho;cases ho;rw[hd']at hd;cases hd
theorem Inv.funs (I:Inv X pins σ H s):s.heap.FunFrames X.base X.outer:=by
 have all:∀(l:List Env),(∀b∈frs l,b∈X.fs)→X.s₀.heap.FunFrames X.base l→s.heap.FunFrames X.base l:=by
  intro l
  induction l with
  | nil=>intro _ _;trivial
  | cons env r ih=>
   intro hs hl
   obtain⟨hk,⟨L,o,hf,hn,ho,hd⟩,hr⟩:=hl
   have hL:L∈X.fs:=hs L (by unfold frs;rw[List.filterMap_cons,hf];exact List.mem_cons_self)
   obtain⟨sl,e⟩:=I.base.slot L o ho (I.ok.frf L hL) hL fun z=>I.ok.exfs L z hL
   exact⟨hk,⟨L,_,hf,hn,e,hd⟩,ih (fun b hb=>hs b (by unfold frs;rw[List.filterMap_cons,hf];exact List.mem_cons_of_mem _ hb)) hr⟩
 exact all X.outer (fun _ hb=>hb) I.ok.funs
theorem Inv.stack (I:Inv X pins σ H s):s.heap.FunFrames X.base X.stack:=by
 rcases I.ok.stk with e | ⟨e,hf⟩
 ·rw[e];exact I.funs
 ·rw[e]
  obtain⟨m,hn,_⟩:=I.loc
  refine .cons (by rw[I.ok.kind];decide) hf hn ?_ I.funs
  exact Heap.get?_none_of_le (Nat.le_trans I.ok.bsz I.ok.above)
theorem Inv.stkSub (I:Inv X pins σ H s):∀b∈frs X.stack,b∈X.env.locals::X.fs:=fun b hb=>by
 rcases I.ok.stk with e | ⟨e,hf⟩
 ·rw[e]at hb;exact List.mem_cons_of_mem _ hb
 ·rw[e]at hb
  unfold frs at hb
  rw[List.filterMap_cons,hf]at hb
  exact hb
theorem Inv.stkFree (I:Inv X pins σ H s):∀b∈frs X.stack,H b=none:=fun b hb=>by
 rcases List.mem_cons.mp (I.stkSub b hb) with e | hb
 ·rw[e];exact I.free
 ·obtain⟨_,o,ho,_⟩:=I.ok.funs.mem hb
  exact I.base.free b o ho (I.ok.frf b hb) fun z=>I.ok.exfs b z hb
theorem Inv.step {g':Array GenState}{t':Nat}{d':Drawn}{ch:List Addr}(I:Inv X pins σ H s)
  (hch:∀b∈ch,(b∈X.ex∨X.s₀.heap.objs.size≤b)∧b≠X.env.locals∧(∀x c,X.env.cells.lookup x=some c→c≠b)∧∀p∈X.pn++pins,p.1≠b)
  (keep:∀b o,b≠X.env.locals→b∉X.fs→b∉ch→s.heap.get? b=some o→H b=none→h'.get? b=some o)
  (slot:∀b o,b≠X.env.locals→b∈X.fs→b∉ch→s.heap.get? b=some o→H b=none→∃sl,h'.get? b=some { o with slots:=sl }) (free:∀b o,b∉ch→s.heap.get? b=some o→H b=none→H' b=none)
  (there:∀b o,b∉ch→s.heap.get? b=some o→∃o',h'.get? b=some o')
  (tups:∀b xs,H b=some (.tup xs)→H' b=some (.tup xs)) (frzs:∀b o u,H b=some (.frz o u)→H' b=some (.frz o u)) (tbls:∀b ps,H b=some (.tbl ps)→∃more,H' b=some (.tbl (ps++more)))
  (ns:∀m,s.heap.Ns X.env.locals m→h'.Ns X.env.locals m) (hok:HOk X.prog X.w H' h') (hg:AllBare g'):
  Inv X pins σ H' { s with heap:=h',gens:=g',drawn:=d',toks:=t' }:=by
 have neL:∀b o,X.s₀.heap.get? b=some o→b≠X.env.locals:=fun b o e=>Nat.ne_of_lt (Nat.lt_of_lt_of_le (Heap.lt_size e) I.ok.above)
 have neC:∀b o,X.s₀.heap.get? b=some o→b∉X.ex→b∉ch:=fun b o e hx hb=>by
  rcases (hch b hb).1 with z | z
  ·exact hx z
  ·exact absurd (Nat.lt_of_lt_of_le (Heap.lt_size e) z) (Nat.lt_irrefl _)
 have cellK:∀x c,X.env.cells.lookup x=some c→∀v,s.heap.IsCell c v→h'.IsCell c v:=fun x c e v ⟨o,ho,hd⟩=>by
  have nch:c∉ch:=fun z=>(hch c z).2.2.1 x c e rfl
  by_cases hc:c∈X.fs
  ·obtain⟨sl,q⟩:=slot c o (I.cne x c e) hc nch ho (I.freeC x c e)
   exact⟨_,q,hd⟩
  ·exact⟨o,keep c o (I.cne x c e) hc nch ho (I.freeC x c e),hd⟩
 refine⟨I.ok,I.os,hg,⟨fun b o e n hb hx => ?_,fun b o e n hb hx => ?_,fun b o e n hx => ?_,fun b o e hx => ?_,fun b xs e=>tups b xs (I.base.tups b xs e),fun b o xs e=>frzs b o xs (I.base.frzs b o xs e),fun b ps e => ?_⟩,?_,fun x c e => ?_,?_,fun x c e => ?_,fun p hp => ?_,hok,I.len⟩
 ·exact keep b o (neL b o e) hb (neC b o e hx) (I.base.keep b o e n hb hx) (I.base.free b o e n hx)
 ·obtain⟨sl,e1⟩:=I.base.slot b o e n hb hx
  obtain⟨sl',e2⟩:=slot b _ (neL b o e) hb (neC b o e hx) e1 (I.base.free b o e n hx)
  exact⟨sl',e2⟩
 ·obtain⟨o',e1⟩:=I.base.there b o e hx
  exact free b o' (neC b o e hx) e1 (I.base.free b o e n hx)
 ·obtain⟨o',e1⟩:=I.base.there b o e hx
  exact there b o' (neC b o e hx) e1
 ·obtain⟨m1,e1⟩:=I.base.tbls b ps e
  obtain⟨m2,e2⟩:=tbls b _ e1
  exact⟨m1++m2,by rw[e2,Array.append_assoc]⟩
 ·obtain⟨m,hn,hl⟩:=I.loc
  refine⟨m,ns m hn,fun i x v e1 e2 e3 => ?_⟩
  obtain⟨u,r,l⟩:=hl i x v e1 e2 e3
  refine⟨u,r,?_⟩
  rcases l with l | ⟨k,c,e,z⟩
  ·exact .inl l
  ·exact .inr ⟨k,c,e,cellK x c e _ z⟩
 ·obtain⟨v,z⟩:=I.cell x c e
  exact⟨v,cellK x c e v z⟩
 ·obtain⟨m,⟨o,_,_,ho,_⟩,_⟩:=I.loc
  exact free _ o (fun z=>(hch _ z).2.1 rfl) ho I.free
 ·obtain⟨v,o,ho,hd⟩:=I.cell x c e
  exact free c o (fun z=>(hch c z).2.2.1 x c e rfl) ho (I.freeC x c e)
 ·obtain⟨e,n,ne,nf,d⟩:=I.pin p hp
  have nch:p.1∉ch:=fun z=>(hch p.1 z).2.2.2 p hp rfl
  exact⟨keep p.1 p.2 ne nf nch e n,free p.1 p.2 nch e n,ne,nf,d⟩
theorem Inv.un {t':Nat}(I:Inv X pins σ H s) (u:Un X.fs [] H H' s.heap h') (hok:HOk X.prog X.w H' h'):Inv X pins σ H' { s with heap:=h',toks:=t' }:=by
 obtain⟨m,⟨o,es,ep,ho,r⟩,_⟩:=id I.loc
 obtain⟨sl,hL⟩:=u.any ho I.free (by simp)
 exact I.step (g':=s.gens) (d':=s.drawn) (ch:=[]) (fun _ z=>nomatch z) (fun b o _ hb _ e n=>u.keep b o e n hb (by simp)) (fun b o _ hb _ e n=>u.slot b o e n hb (by simp)) (fun b o _ e n=>u.free b o e n (by simp)) (fun b o _ e=>u.there b o e (by simp)) u.tups u.frzs u.tbls (fun m' hm=>by
  obtain⟨o',es',ep',ho',r'⟩:=hm
  rw[ho]at ho';cases ho'
  exact⟨_,es',ep',hL,r'⟩) hok I.bare
theorem Inv.call {g':Array GenState}{t':Nat}{d':Drawn}{ch:List Addr}(I:Inv X pins σ H s) (u:Un (frs X.stack) ch H H' s.heap h') (hok:HOk X.prog X.w H' h') (hg:AllBare g')
  (hch:∀b∈ch,(b∈X.ex∨X.s₀.heap.objs.size≤b)∧b≠X.env.locals∧(∀x c,X.env.cells.lookup x=some c→c≠b)∧∀p∈X.pn++pins,p.1≠b):
  Inv X pins σ H' { s with heap:=h',gens:=g',drawn:=d',toks:=t' }:=by
 obtain⟨m,⟨o,es,ep,ho,r⟩,_⟩:=id I.loc
 obtain⟨sl,hL⟩:=u.any ho I.free fun z=>(hch _ z).2.1 rfl
 exact I.step (ch:=ch) hch (fun b o hL hb hc e n=>u.keep b o e n (fun z=>(List.mem_cons.mp (I.stkSub b z)).elim hL hb) hc) (fun b o _ _ hc e n=>u.any e n hc) (fun b o hc e n=>u.free b o e n hc) (fun b o hc e=>u.there b o e hc) u.tups u.frzs u.tbls (fun m' hm=>by
  obtain⟨o',es',ep',ho',r'⟩:=hm
  rw[ho]at ho';cases ho'
  exact⟨_,es',ep',hL,r'⟩) hok hg
theorem Inv.turned {t':Nat}{it:Addr}(I:Inv X pins σ H s) (k:∀b o,b≠it→s.heap.get? b=some o→h'.get? b=some o) (hn:H it=none) (hL:it≠X.env.locals)
  (h1:it∈X.ex∨X.s₀.heap.objs.size≤it) (h2:∀x c,X.env.cells.lookup x=some c→c≠it) (h3:∀p∈X.pn++pins,p.1≠it):Inv X pins σ H { s with heap:=h',toks:=t' }:=by
 have nit:∀b u,H b=some u→b≠it:=fun b u e z=>by rw[z,hn]at e;cases e
 refine I.step (g':=s.gens) (d':=s.drawn) (ch:=[it]) (fun b hb => ?_) (fun b o _ _ hc e _=>k b o (fun z=>hc (by simp[z])) e) (fun b o _ _ hc e _=>⟨o.slots,k b o (fun z=>hc (by simp[z])) e⟩) (fun _ _ _ _ n=>n)
  (fun b o hc e=>⟨o,k b o (fun z=>hc (by simp[z])) e⟩) (fun _ _ e=>e) (fun _ _ _ e=>e) (fun b ps e=>⟨#[],by rw[e];simp⟩) (fun m hm => ?_) (fun b u e => ?_) I.bare
 ·have e:b=it:=by simpa using hb
  subst e
  exact⟨h1,hL,h2,h3⟩
 ·obtain⟨o,es,ep,ho,r⟩:=hm
  exact⟨o,es,ep,k _ o (Ne.symm hL) ho,r⟩
 ·refine (I.hok b u e).stay (fun c v hc q=>k c v ?_ q) (fun _ q=>q) fun _ _ q=>q
  rcases hc with z | z
  ·rw[z];exact nit b u e
  ·exact nit c _ z
theorem Inv.tok (I:Inv X pins σ H s) (t:Nat):Inv X pins σ H { s with toks:=t }:=I.un (h':=s.heap) (t':=t) Un.refl I.hok
theorem Inv.kept {t':Nat}(I:Inv X pins σ H s) (k:∀b u,s.heap.get? b=some u→h'.get? b=some u):Inv X pins σ H { s with heap:=h',toks:=t' }:=I.un (Un.kept k) (I.hok.kept k)
theorem Inv.laid {a:Addr}{o:HO}{t':Nat}(I:Inv X pins σ H s) (k:∀b u,s.heap.get? b=some u→h'.get? b=some u) (hp:s.heap.objs.size≤a) (new:ObjOk X.prog X.w (upd H a o) h' a o):
  Inv X pins σ (upd H a o) { s with heap:=h',toks:=t' }:=I.un (Un.laid k hp (I.hok.fresh hp)) (I.hok.laid k hp new)
theorem Inv.write {x e:Addr}{o:HO}{t':Nat}(I:Inv X pins σ H s) (mu:Mut (H x)) (he:e=x∨H e=some (.own x)) (k:∀b u,b≠e→s.heap.get? b=some u→h'.get? b=some u) (heo:∃u,h'.get? e=some u)
  (new:ObjOk X.prog X.w (upd H x o) h' x o):Inv X pins σ (upd H x o) { s with heap:=h',toks:=t' }:=I.un (Un.write mu he k heo) (I.hok.write mu he k heo new)
theorem Inv.weak {σ':List (Option V)}(I:Inv X pins σ H s) (hl:σ'.length=σ.length) (w:∀(i:Nat) v,σ'[i]?=some (some v)→σ[i]?=some (some v)):Inv X pins σ' H s:=
 ⟨I.ok,I.os,I.bare,I.base,let ⟨m,hn,hl'⟩:=I.loc;⟨m,hn,fun i x v e1 e2 e3=>hl' i x v e1 (w i v e2) e3⟩,I.cell,I.free,I.freeC,I.pin,I.hok,hl.trans I.len⟩
theorem Inv.pins_of {pins':Lo}(I:Inv X pins σ H s) (h:∀p∈pins',s.heap.get? p.1=some p.2∧H p.1=none∧p.1≠X.env.locals∧p.1∉X.fs∧∀v,p.2.data≠.cell v):Inv X pins' σ H s:=
 ⟨I.ok,I.os,I.bare,I.base,I.loc,I.cell,I.free,I.freeC,fun p hp=>(List.mem_append.mp hp).elim (fun z=>I.pin p (List.mem_append_left _ z)) (h p),I.hok,I.len⟩
theorem nodup_ix {N:List Str}(hN:N.Nodup) {i j:Nat}{x:Str}(a:N[i]?=some x) (b:N[j]?=some x):i=j:=by
 obtain⟨h1,e1⟩:=List.getElem?_eq_some_iff.mp a
 obtain⟨h2,e2⟩:=List.getElem?_eq_some_iff.mp b
 exact (List.getElem_inj hN).mp (e1.trans e2.symm)
theorem store_ok2 {M:Model}{A:Around}{E:Vs}{i:Nat}{x:Str}{v:V}{u:Value}{Q:Unit→Shared→Prop}(I:Inv X pins σ H s) (hN:X.N.Nodup) (hi:X.N[i]?=some x) (hx:Loc X.env.scope x) (r:RelV v u)
  (h:∀s',Inv X pins (σ.set i (some v)) H s'→(∃a,Heap.SameBut a s.heap s'.heap∧(a=X.env.locals∨X.env.cells.lookup x=some a))→Q () s') (hf:X.fn x=true∨X.env.scope.names.lookup x=some .local:=by first | exact .inl rfl | exact .inr rfl | assumption):wpAny M A (storeName X.env x u) Q E s:=by
 obtain⟨m,hn,hl⟩:=id I.loc
 have hcls:(X.env.scope.kind == .class || (X.env.scope.kind == .module&&X.env.locals != X.env.globals))=false:=by rw[I.ok.kind];rfl
 have hiσ:i<σ.length:=by rw[I.len];exact (List.getElem?_eq_some_iff.mp hi).1
 have cne:=I.cne
 have tracked:∀{a:Addr}{h':Heap},(∃o,s.heap.get? a=some o∧H a=none)→Heap.SameBut a s.heap h'→HOk X.prog X.w H h':=fun {a h'} ha hs b ob e=>by
  obtain⟨_,_,hfree⟩:=ha
  refine (I.hok b ob e).stay (fun c w' hc q=>(hs.2 c ?_).trans q) (fun _ q=>q) fun _ _ q=>q
  rintro rfl
  rcases hc with rfl | hc
  ·rw[hfree]at e;cases e
  ·rw[hfree]at hc;cases hc
 rcases hx with hk | hk
 ·refine wpAny_storeName_local hk hn (fun h' hn' hs => ?_) hcls
  obtain⟨oL,_,_,hoL,_⟩:=id hn
  refine h _ ⟨I.ok,I.os,I.bare,⟨fun b o e n hb hx => ?_,fun b o e n hb hx => ?_,I.base.free,fun b o e hx => ?_,I.base.tups,I.base.frzs,I.base.tbls⟩,⟨_,hn',fun j y v' e1 e2 e3 => ?_⟩,fun y c e => ?_,I.free,I.freeC,fun p hp => ?_,tracked ⟨oL,hoL,I.free⟩ hs,by simpa using I.len⟩ ⟨_,hs,.inl rfl⟩
  ·exact (hs.2 b (Nat.ne_of_lt (Nat.lt_of_lt_of_le (Heap.lt_size e) I.ok.above))).trans (I.base.keep b o e n hb hx)
  ·obtain⟨sl,e1⟩:=I.base.slot b o e n hb hx
   exact⟨sl,(hs.2 b (Nat.ne_of_lt (Nat.lt_of_lt_of_le (Heap.lt_size e) I.ok.above))).trans e1⟩
  ·obtain⟨o',e1⟩:=I.base.there b o e hx
   exact⟨o',(hs.2 b (Nat.ne_of_lt (Nat.lt_of_lt_of_le (Heap.lt_size e) I.ok.above))).trans e1⟩
  ·by_cases hj:j=i
   ·subst hj
    rw[hi]at e1;cases e1
    rw[List.getElem?_set_self hiσ]at e2
    cases e2
    exact⟨u,r,.inl ⟨hk,by simp⟩⟩
   ·rw[List.getElem?_set_ne (Ne.symm hj)]at e2
    obtain⟨u',r',q⟩:=hl j y v' e1 e2 e3
    refine⟨u',r',?_⟩
    rcases q with ⟨k,e⟩ | ⟨k,c,e,z⟩
    ·refine .inl ⟨k,?_⟩
     have:y≠x:=fun e=>hj (nodup_ix hN e1 (e▸hi))
     simp[this,e]
    ·exact .inr ⟨k,c,e,z.sameBut hs (cne y c e)⟩
  ·obtain⟨w',z⟩:=I.cell y c e
   exact⟨w',z.sameBut hs (cne y c e)⟩
  ·obtain⟨e,n,ne,nf,d⟩:=I.pin p hp
   exact⟨(hs.2 p.1 ne).trans e,n,ne,nf,d⟩
 ·have hfn:X.fn x=true:=by
   rcases hf with z | z
   ·exact z
   ·rw[z]at hk;cases hk
  obtain⟨c,hc⟩:=I.ok.has x (.inl hk)
  obtain⟨w',z⟩:=I.cell x c hc
  refine wpAny_storeName_cell I.ok.kind hk hc z (fun h' hc' hs => ?_)
  obtain⟨oc,hoc,hocd⟩:=id z
  refine h { s with heap:=h' } ⟨I.ok,I.os,I.bare,⟨fun b o e n hb hx => ?_,fun b o e n hb hx => ?_,I.base.free,fun b o e hx => ?_,I.base.tups,I.base.frzs,I.base.tbls⟩,⟨m,hn.sameBut hs (Ne.symm (cne x c hc)),fun j y v' e1 e2 e3 => ?_⟩,fun y c' e => ?_,I.free,I.freeC,fun p hp => ?_,tracked ⟨oc,hoc,I.freeC x c hc⟩ hs,by simpa using I.len⟩ ⟨c,hs,.inr hc⟩
  ·exact (hs.2 b (Nat.ne_of_lt (Nat.lt_of_lt_of_le (Heap.lt_size e) (I.ok.cab x c hfn hc)))).trans (I.base.keep b o e n hb hx)
  ·obtain⟨sl,e1⟩:=I.base.slot b o e n hb hx
   exact⟨sl,(hs.2 b (Nat.ne_of_lt (Nat.lt_of_lt_of_le (Heap.lt_size e) (I.ok.cab x c hfn hc)))).trans e1⟩
  ·obtain⟨o',e1⟩:=I.base.there b o e hx
   exact⟨o',(hs.2 b (Nat.ne_of_lt (Nat.lt_of_lt_of_le (Heap.lt_size e) (I.ok.cab x c hfn hc)))).trans e1⟩
  ·by_cases hj:j=i
   ·subst hj
    rw[hi]at e1;cases e1
    rw[List.getElem?_set_self hiσ]at e2
    cases e2
    exact⟨u,r,.inr ⟨.inl hk,c,hc,hc'⟩⟩
   ·rw[List.getElem?_set_ne (Ne.symm hj)]at e2
    obtain⟨u',r',q⟩:=hl j y v' e1 e2 e3
    refine⟨u',r',?_⟩
    rcases q with q | ⟨k,c',e,z'⟩
    ·exact .inl q
    ·refine .inr ⟨k,c',e,z'.sameBut hs ?_⟩
     rintro rfl
     exact hj (nodup_ix hN e1 (I.ok.inj _ _ _ e hc▸hi))
  ·by_cases hcc:c'=c
   ·subst hcc;exact⟨_,hc'⟩
   ·obtain⟨w2,z2⟩:=I.cell y c' e
    exact⟨w2,z2.sameBut hs hcc⟩
  ·obtain⟨e,n,ne,nf,d⟩:=I.pin p hp
   refine⟨(hs.2 p.1 ?_).trans e,n,ne,nf,d⟩
   intro q
   rw[q,hoc]at e
   have q':oc=p.2:=Option.some.inj e
   exact d w' (by rw[←q'];exact hocd)
theorem store_ok {M:Model}{A:Around}{E:Vs}{i:Nat}{x:Str}{v:V}{u:Value}{Q:Unit→Shared→Prop}(I:Inv X pins σ H s) (hN:X.N.Nodup) (hi:X.N[i]?=some x) (hx:Loc X.env.scope x) (r:RelV v u)
  (h:∀s',Inv X pins (σ.set i (some v)) H s'→Q () s') (hf:X.fn x=true∨X.env.scope.names.lookup x=some .local:=by first | exact .inl rfl | exact .inr rfl | assumption):wpAny M A (storeName X.env x u) Q E s:=
 store_ok2 I hN hi hx r (fun s' I' _=>h s' I') hf
theorem Inv.call' {s':Shared}{ch:List Addr}(I:Inv X pins σ H s) (ho:s'.os=s.os) (u:Un (frs X.stack) ch H H' s.heap s'.heap) (hok:HOk X.prog X.w H' s'.heap) (hg:AllBare s'.gens)
  (hch:∀b∈ch,(b∈X.ex∨X.s₀.heap.objs.size≤b)∧b≠X.env.locals∧(∀x c,X.env.cells.lookup x=some c→c≠b)∧∀p∈X.pn++pins,p.1≠b):Inv X pins σ H' s':=by
 obtain⟨h',g',d',t',o'⟩:=s'
 have e:o'=s.os:=ho
 subst e
 exact I.call (g':=g') (t':=t') (d':=d') u hok hg hch
end
noncomputable abbrev XK:=Value→Option Addr→Hp→Prop
noncomputable abbrev St:=List (Option V)
noncomputable abbrev VK:=V→Hp→Prop
noncomputable abbrev TE:=St→Hp→VK→Prop
noncomputable abbrev TT:=St→Hp→(Bool→Hp→Prop)→Prop
noncomputable abbrev TA:=St→Hp→(List V→Hp→Prop)→Prop
set_option genInjectivity false in
structure Ends where
 nx:St→Hp→Prop
 rt:VK
 bk:St→Hp→Prop:=fun _ _=>False
 ct:St→Hp→Prop:=fun _ _=>False
noncomputable abbrev TS:=Ends→St→Hp→Prop
def EP (X:Cx) (pins:Lo) (σ:St) (Q:VK) (u:Value) (s':Shared):Prop:=∃v H',Inv X pins σ H' s'∧RelV v u∧Q v H'
def TP (X:Cx) (pins:Lo) (σ:St) (Q:Bool→Hp→Prop) (b:Bool) (s':Shared):Prop:=∃H',Inv X pins σ H' s'∧Q b H'
def AP (X:Cx) (pins:Lo) (σ:St) (Q:List V→Hp→Prop) (us:List Value) (s':Shared):Prop:=∃vs H',Inv X pins σ H' s'∧Vals vs us∧Q vs H'
def SP (X:Cx) (pins:Lo) (D:Ends) (f:Flow) (s':Shared):Prop:=
 match f with
 | .next=>∃σ' H',Inv X pins σ' H' s'∧D.nx σ' H'
 | .brk=>∃σ' H',Inv X pins σ' H' s'∧D.bk σ' H'
 | .cont=>∃σ' H',Inv X pins σ' H' s'∧D.ct σ' H'
 | .ret u=>∃v σ' H',Inv X pins σ' H' s'∧RelV v u∧D.rt v H'
def PE (X:Cx) (e:Expr) (t:TE):Prop:=
 ∀(pins:Lo) (s:Shared) (σ:St) (H:Hp) (Q:VK),Inv X pins σ H s→t σ H Q→wpAny (model X.prog X.w) X.A (eval e X.env) (EP X pins σ Q) X.xe s
def PT (X:Cx) (e:Expr) (t:TT):Prop:=
 ∀(pins:Lo) (s:Shared) (σ:St) (H:Hp) (Q:Bool→Hp→Prop),Inv X pins σ H s→t σ H Q→wpAny (model X.prog X.w) X.A (isTrue e X.env (eval e X.env)) (TP X pins σ Q) X.xe s
def PW (X:Cx) (e:Expr) (t:TT):Prop:=
 ∀(whole:Sem Value) (pins:Lo) (s:Shared) (σ:St) (H:Hp) (Q:Bool→Hp→Prop),Inv X pins σ H s→t σ H Q→wpAny (model X.prog X.w) X.A (isTrue e X.env whole) (TP X pins σ Q) X.xe s
theorem PW.pt {X:Cx}{e:Expr}{t:TT}(h:PW X e t):PT X e t:=h _
def PA (X:Cx) (es:List Expr) (t:TA):Prop:=
 ∀(pos:Pos) (pins:Lo) (s:Shared) (σ:St) (H:Hp) (Q:List V→Hp→Prop),Inv X pins σ H s→t σ H Q→wpAny (model X.prog X.w) X.A (spliced (backTo pos (starEach es X.env))) (AP X pins σ Q) X.xe s
def PS (X:Cx) (st:Stmt) (t:TS):Prop:=
 ∀(pins:Lo) (s:Shared) (σ:St) (H:Hp) (D:Ends),Inv X pins σ H s→t D σ H→wpAny (model X.prog X.w) X.A (exec st X.env) (SP X pins D) X.xe s
def PSs (X:Cx) (st:List Stmt) (t:TS):Prop:=
 ∀(pins:Lo) (s:Shared) (σ:St) (H:Hp) (D:Ends),Inv X pins σ H s→t D σ H→wpAny (model X.prog X.w) X.A (execs st X.env) (SP X pins D) X.xe s
theorem thn {α:Type}{t:Sem α}{Q Q':α→Shared→Prop}{M:Model}{A:Around}{E:Vs}{s:Shared}(h:wpAny M A t Q E s) (hQ:∀a s,Q a s→Q' a s):wpAny M A t Q' E s:=wpAny_mono h hQ fun _ _ x=>x
end L2
namespace L2
open PySem PySem.Spec PyProof.Rows
section
variable {X:Cx}
def tVar (i:Nat):TE:=fun σ H Q=>∃v,σ[i]?=some (some v)∧Q v H
def tC (v:V):TE:=fun _ H Q=>Q v H
theorem pe_var {i:Nat}{x:Str}{pos:Pos}(hN:X.N[i]?=some x) (hv:Vis X.env.scope x) (hd:(x == ("__debug__" : Str))=false:=by decide) (hcd:(x == ("__classdict__" : Str))=false:=by decide):PE X (.Name x pos) (tVar i):=by
 intro pins s σ H Q I h
 obtain⟨v,e,h⟩:=h
 obtain⟨m,hn,hl⟩:=I.loc
 obtain⟨u,r,l⟩:=hl i x v hN e hv
 have fin:EP X pins σ Q u s:=⟨v,H,I,r,h⟩
 rcases l with ⟨hk,hm⟩ | ⟨hk,c,hc,hcell⟩
 ·exact wpAny_Name (wpAny_loadName_local I.ok.kind hk hn hm fin) hd
 ·rcases hk with hk | hk
  ·exact wpAny_Name (wpAny_loadName_cell I.ok.kind hk hc hcell fin) hd
  ·exact wpAny_Name (wpAny_loadName_free I.ok.kind hk hc hcell fin hcd) hd
theorem pe_int {i j pos}:PE X (.Constant (.int i) j pos) (tC (.int i)):=fun _ _ _ H _ I h=>wpAny_Constant_int ⟨.int i,H,I.tok _,⟨_,rfl⟩,h⟩
theorem pe_bl {b j pos}:PE X (.Constant (.bool b) j pos) (tC (.bl b)):=fun _ _ _ H _ I h=>Constant_bool ⟨.bl b,H,I,rfl,h⟩
theorem pe_non {j pos}:PE X (.Constant .none j pos) (tC .non):=fun _ _ _ H _ I h=>Constant_none ⟨.non,H,I,rfl,h⟩
theorem pe_str {x j pos}:PE X (.Constant (.str x) j pos) (tC (.str x)):=fun _ _ _ H _ I h=>Calls.Constant_str ⟨.str x,H,I.tok _,⟨_,rfl⟩,h⟩
def Gl (X:Cx) (x:Str):Prop:=X.env.kindOf x=some .globalImplicit
theorem ld_glob {E:Vs}{pins:Lo}{s:Shared}{σ:St}{H:Hp}{x:Str}{u:Value}{pos:Pos}{Q:Vs}(I:Inv X pins σ H s) (hg:Gl X x) (hm:X.mg x=some u) (h:Q u s)
  (hd:(x == ("__debug__" : Str))=false:=by decide):wpAny (model X.prog X.w) X.A (eval (.Name x pos) X.env) Q E s:=
 Calls.Name_function_global I.ok.kind hg (Calls.loadGlobal_global (by rw[I.ok.glob];exact I.mod.glob.keeps I.bk) hm h) hd
theorem ld_blt {E:Vs}{pins:Lo}{s:Shared}{σ:St}{H:Hp}{x:Str}{u:Value}{pos:Pos}{Q:Vs}(I:Inv X pins σ H s) (hg:Gl X x) (hm:X.mg x=none) (hv:bootBuiltins x=some u) (h:Q u s)
  (hn:x ≠ "__name__" := by decide) (hd:(x == ("__debug__" : Str))=false:=by decide):wpAny (model X.prog X.w) X.A (eval (.Name x pos) X.env) Q E s:=by
 obtain⟨mb,h1,h2⟩:=I.mod.blt
 exact Calls.Name_function_global I.ok.kind hg (Calls.loadGlobal_builtin (by rw[I.ok.glob];exact I.mod.glob.keeps I.bk) hm (by rw[I.ok.blt];exact h1.keeps I.bk) ((h2 x hn).trans hv) h) hd
theorem pe_glob {x:Str}{v:V}{u:Value}{pos:Pos}(hg:Gl X x) (hm:X.mg x=some u) (r:RelV v u) (hd:(x == ("__debug__" : Str))=false:=by decide):PE X (.Name x pos) (tC v):=
 fun _ _ _ H _ I h=>ld_glob I hg hm ⟨v,H,I,r,h⟩ hd
theorem pe_bltn {x:Str}{v:V}{u:Value}{pos:Pos}(hg:Gl X x) (hm:X.mg x=none) (hv:bootBuiltins x=some u) (r:RelV v u) (hn:x ≠ "__name__" := by decide) (hd:(x == ("__debug__" : Str))=false:=by decide):PE X (.Name x pos) (tC v):=
 fun _ _ _ H _ I h=>ld_blt I hg hm hv ⟨v,H,I,r,h⟩ hn hd
variable {a b:Expr}{ta tb:TE}{pos:Pos}
def PC (X:Cx) (op:CmpOp) (a b:Expr) (t:TE):Prop:=
 ∀(pins:Lo) (s:Shared) (σ:St) (H:Hp) (Q:VK),Inv X pins σ H s→t σ H Q→
  wpAny (model X.prog X.w) X.A (eval a X.env) (fun v s₁=>wpAny (model X.prog X.w) X.A (eval b X.env) (fun u s₂=>wpAny (model X.prog X.w) X.A (compareOp op v u) (EP X pins σ Q) X.xe s₂) X.xe s₁) X.xe s
theorem nobehind (b:Expr) {op:CmpOp}(h:op≠.In) (h2:op≠.NotIn):behindInMarks op b=false:=by
 have e1:(op == CmpOp.In)=false:=by cases op<;>first | rfl | exact absurd rfl h
 have e2:(op == CmpOp.NotIn)=false:=by cases op<;>first | rfl | exact absurd rfl h2
 cases b<;>simp[behindInMarks,e1,e2]
def tB (t:TE):TT:=fun σ H Q=>t σ H fun x H1=>∃c,x=.bl c∧Q c H1
theorem pt_cmp {op:CmpOp}{t:TE}(h:PC X op a b t) (h1:behindInMarks op b=false:=by first | exact nobehind _ (by decide) (by decide) | rfl):PT X (.Compare a [op] [b] pos) (tB t):=by
 intro pins s σ H Q I hw
 refine wpAny_isTrue_Compare1 (thn (h pins s σ H _ I hw) fun v s1 h1=>thn h1 fun u s2 h2=>thn h2 fun c s3 ⟨x,H1,I1,r1,q1⟩ => ?_) h1
 obtain⟨d,rfl,q⟩:=q1
 cases r1
 exact wpAny_truthy_bool ⟨H1,I1,q⟩
theorem pt_val {e:Expr}{t:TE}(h:PE X e t) (he:∀whole,isTrue e X.env whole=(do let v ←whole;standAt e.pos;holding [v] (truthy v)):=by intro _;rfl):PT X e (tB t):=by
 intro pins s σ H Q I hw
 refine isTrue_plain (thn (h pins s σ H _ I hw) fun v s1 ⟨x,H1,I1,r1,q1⟩ => ?_) (he _)
 obtain⟨d,rfl,q⟩:=q1
 cases r1
 exact wpAny_truthy_bool ⟨H1,I1,q⟩
variable {tA tB':TT}{rest:List Expr}
def tAnd (t u:TT):TT:=fun σ H Q=>t σ H fun c H1=>if c=true then u σ H1 Q else Q false H1
def tOr (t u:TT):TT:=fun σ H Q=>t σ H fun c H1=>if c=true then Q true H1 else u σ H1 Q
def tNot (t:TT):TT:=fun σ H Q=>t σ H fun c H1=>Q (!c) H1
theorem pw_and1 (ha:PT X a tA):PW X (.BoolOp .And [a] pos) tA:=by
 intro wh pins s σ H Q I h
 refine isTrue_and (thn (ha pins s σ H Q I h) fun c s1 e => ?_)
 cases c with
 | true=>exact isTrue_and_nil e
 | false=>exact e
theorem pw_or1 (ha:PT X a tA):PW X (.BoolOp .Or [a] pos) tA:=by
 intro wh pins s σ H Q I h
 refine isTrue_or (thn (ha pins s σ H Q I h) fun c s1 e => ?_)
 cases c with
 | false=>exact isTrue_or_nil e
 | true=>exact e
theorem pw_and (ha:PT X a tA) (hb:PW X (.BoolOp .And (b::rest) pos) tB'):PW X (.BoolOp .And (a::b::rest) pos) (tAnd tA tB'):=by
 intro wh pins s σ H Q I h
 refine isTrue_and (thn (ha pins s σ H _ I h) fun c s1 ⟨H1,I1,q1⟩ => ?_)
 cases c with
 | true=>exact hb wh pins s1 σ H1 Q I1 q1
 | false=>exact⟨H1,I1,q1⟩
theorem pw_or (ha:PT X a tA) (hb:PW X (.BoolOp .Or (b::rest) pos) tB'):PW X (.BoolOp .Or (a::b::rest) pos) (tOr tA tB'):=by
 intro wh pins s σ H Q I h
 refine isTrue_or (thn (ha pins s σ H _ I h) fun c s1 ⟨H1,I1,q1⟩ => ?_)
 cases c with
 | true=>exact⟨H1,I1,q1⟩
 | false=>exact hb wh pins s1 σ H1 Q I1 q1
theorem pt_not (ha:PT X a tA):PT X (.UnaryOp .Not a pos) (tNot tA):=by
 intro pins s σ H Q I h
 exact isTrue_not (ha pins s σ H (fun c H1=>Q (!c) H1) I h)
def tAndV (ta tb:TE):TE:=fun σ H Q=>ta σ H fun x H1=>∃c,x=.bl c∧if c=true then tb σ H1 Q else Q (.bl false) H1
def tOrV (ta tb:TE):TE:=fun σ H Q=>ta σ H fun x H1=>∃c,x=.bl c∧if c=true then Q (.bl true) H1 else tb σ H1 Q
def tNotV (ta:TE):TE:=fun σ H Q=>ta σ H fun x H1=>∃c,x=.bl c∧Q (.bl (!c)) H1
theorem pe_one {op} {t:TE}(h:PE X a t):PE X (.BoolOp op [a] pos) t:=fun pins s σ H Q I hw=>BoolOp_one (h pins s σ H Q I hw)
theorem pe_and (ha:PE X a ta) (hb:PE X (.BoolOp .And (b::rest) pos) tb):PE X (.BoolOp .And (a::b::rest) pos) (tAndV ta tb):=by
 intro pins s σ H Q I h
 refine BoolOp_and (thn (ha pins s σ H _ I h) fun v s1 ⟨x,H1,I1,r1,q1⟩ => ?_)
 obtain⟨c,rfl,q1⟩:=q1
 cases r1
 refine wpAny_truthy_bool ?_
 cases c with
 | true=>exact hb pins s1 σ H1 Q I1 q1
 | false=>exact⟨.bl false,H1,I1,rfl,q1⟩
def tIf (t:TT) (ta tb:TE):TE:=fun σ H Q=>t σ H fun c H1=>if c=true then ta σ H1 Q else tb σ H1 Q
theorem pe_ifExp {c:Expr}(hc:PT X c tA) (ha:PE X a ta) (hb:PE X b tb):PE X (.IfExp c a b pos) (tIf tA ta tb):=by
 intro pins s σ H Q I h
 refine wpAny_IfExp (thn (hc pins s σ H _ I h) fun d s1 ⟨H1,I1,q1⟩ => ?_)
 cases d with
 | true=>exact ha pins s1 σ H1 Q I1 q1
 | false=>exact hb pins s1 σ H1 Q I1 q1
end
end L2
namespace L2
open PySem PySem.Spec PyProof.Rows
def SqL (K:Wf) (H:Hp) (a:Addr) (xs:List V):Prop:=
 Rd H a (.lst xs) ∨
  ∃(o:Obj) (its:Array Value) (n:Nat),K.lookup a=some o∧o.cls=.type "list" ∧ o.dict=none∧o.data=.seq its n∧its.size≤sizeLine∧Vals xs its.toList
def SqT (K:Wf) (H:Hp) (a:Addr) (xs:List V):Prop:=
 Rd H a (.tup xs) ∨
  ∃(o:Obj) (its:Array Value) (n:Nat),K.lookup a=some o∧o.cls=.type "tuple" ∧ o.data=.seq its n∧its.size≤sizeLine∧Vals xs its.toList
noncomputable def absV:Value→Option V
 | .none=>some .non
 | .bool b=>some (.bl b)
 | .int i _=>some (.int i)
 | .str x _=>some (.str x)
 | .bytes b _=>some (.byt b)
 | .float b _=>some (.flt b)
 | .ref a=>some (.ref a)
 | .type n=>some (.ty n)
 | _=>none
theorem RelV.abs {x:V}{u:Value}(r:RelV x u):absV u=some x:=by
 cases x with
 | non=>cases r;rfl
 | bl _=>cases r;rfl
 | int _=>obtain⟨t,rfl⟩:=r;rfl
 | str _=>obtain⟨t,rfl⟩:=r;rfl
 | byt _=>obtain⟨t,rfl⟩:=r;rfl
 | flt _=>obtain⟨t,rfl⟩:=r;rfl
 | ref _=>cases r;rfl
 | ty _=>cases r;rfl
theorem RelV.inj {x y:V}{u:Value}(r:RelV x u) (q:RelV y u):x=y:=Option.some.inj (r.abs.symm.trans q.abs)
theorem Vals.inj:∀{xs ys:List V}{us:List Value},Vals xs us→Vals ys us→xs=ys
 | _,_,_,.nil,.nil=>rfl
 | _,_,_,.cons r t,.cons r' t'=>by rw[r.inj r',Vals.inj t t']
section
variable {X:Cx}{pins:Lo}{σ:St}{H:Hp}{s:Shared}{a:Addr}{xs ys:List V}
theorem SqL.of {K:Wf}(h:H a=some (.lst xs)):SqL K H a xs:=.inl (.inl h)
theorem SqT.of {K:Wf}(h:H a=some (.tup xs)):SqT K H a xs:=.inl (.inl h)
theorem Inv.list (I:Inv X pins σ H s) (h:SqL X.K H a xs):∃its:List Value,Vals xs its∧PlainL s.heap a its.toArray∧xs.length≤sizeLine:=by
 rcases h with h | ⟨o,its,n,hk,hc,hd,hs,hz,r⟩
 ·obtain⟨z,its,n,r,e⟩:=h.ok I.hok
  exact⟨its,r,⟨_,n,e,rfl,rfl,rfl⟩,z⟩
 ·refine⟨its.toList,r,⟨o,n,I.kIn a o hk,hc,hd,by simpa using hs⟩,?_⟩
  have e:=r.length
  simp only[Array.length_toList]at e
  omega
theorem Inv.tuple (I:Inv X pins σ H s) (h:SqT X.K H a xs):∃its:List Value,Vals xs its∧IsTup s.heap a its.toArray∧xs.length≤sizeLine:=by
 rcases h with h | ⟨o,its,n,hk,hc,hs,hz,r⟩
 ·obtain⟨z,its,r,p⟩:=h.ok I.hok
  exact⟨its,r,p,z⟩
 ·refine⟨its.toList,r,⟨o,I.kIn a o hk,hc,n,by simpa using hs⟩,?_⟩
  have e:=r.length
  simp only[Array.length_toList]at e
  omega
theorem Inv.list_inj (I:Inv X pins σ H s) (h:SqL X.K H a xs) (h':SqL X.K H a ys):xs=ys:=by
 obtain⟨its,r,⟨o,n,e,_,_,d⟩,_⟩:=I.list h
 obtain⟨its',r',⟨o',n',e',_,_,d'⟩,_⟩:=I.list h'
 rw[e]at e';cases e'
 rw[d]at d'
 injection d' with d1 _
 have:its=its':=by simpa using congrArg Array.toList d1
 subst this
 exact r.inj r'
theorem Inv.tuple_inj (I:Inv X pins σ H s) (h:SqT X.K H a xs) (h':SqT X.K H a ys):xs=ys:=by
 obtain⟨its,r,⟨o,e,_,n,d⟩,_⟩:=I.tuple h
 obtain⟨its',r',⟨o',e',_,n',d'⟩,_⟩:=I.tuple h'
 rw[e]at e';cases e'
 rw[d]at d'
 injection d' with d1 _
 have:its=its':=by simpa using congrArg Array.toList d1
 subst this
 exact r.inj r'
end
noncomputable abbrev Cx.wish (X:Cx) (E:Vs):Cx:={ X with xe:=E }
noncomputable abbrev Cx.nox (X:Cx):Cx:=X.wish fun _ _=>False
theorem Cx.Ok.wish {X:Cx}(ok:X.Ok) (E:Vs):(X.wish E).Ok:=
 ⟨ok.mod,ok.kind,ok.glob,ok.blt,ok.above,ok.inj,ok.has,ok.cab,ok.hd,ok.frames,ok.stk,ok.exf,ok.bs,ok.bsz,ok.noex,ok.exfs,ok.funs,ok.frf⟩
theorem Cx.Ok.unwish {X:Cx}{E:Vs}(ok:(X.wish E).Ok):X.Ok:=
 ⟨ok.mod,ok.kind,ok.glob,ok.blt,ok.above,ok.inj,ok.has,ok.cab,ok.hd,ok.frames,ok.stk,ok.exf,ok.bs,ok.bsz,ok.noex,ok.exfs,ok.funs,ok.frf⟩
section
variable {X:Cx}{pins:Lo}{σ:St}{H:Hp}{s:Shared}{E:Vs}
theorem Inv.wish (I:Inv X pins σ H s) (E:Vs):Inv (X.wish E) pins σ H s:=⟨I.ok.wish E,I.os,I.bare,I.base,I.loc,I.cell,I.free,I.freeC,I.pin,I.hok,I.len⟩
theorem Inv.unwish (I:Inv (X.wish E) pins σ H s):Inv X pins σ H s:=⟨I.ok.unwish,I.os,I.bare,I.base,I.loc,I.cell,I.free,I.freeC,I.pin,I.hok,I.len⟩
theorem SP.unwish {D:Ends}{f:Flow}{s':Shared}(h:SP (X.wish E) pins D f s'):SP X pins D f s':=by
 cases f with
 | next=>obtain⟨σ',H',I,q⟩:=h;exact⟨σ',H',I.unwish,q⟩
 | brk=>obtain⟨σ',H',I,q⟩:=h;exact⟨σ',H',I.unwish,q⟩
 | cont=>obtain⟨σ',H',I,q⟩:=h;exact⟨σ',H',I.unwish,q⟩
 | ret u=>obtain⟨v,σ',H',I,r,q⟩:=h;exact⟨v,σ',H',I.unwish,r,q⟩
theorem PSs.nox {st:List Stmt}{t:TS}(h:PSs X.nox st t):PSs X st t:=fun pins s σ H D I hw=>
 wpAny_mono (h pins s σ H D (I.wish _) hw) (fun _ _ q=>q.unwish) fun _ _ z=>False.elim z
end
section
variable {X:Cx}{st:Stmt}{rest:List Stmt}{t u:TS}{e:Expr}{te:TE}{pos:Pos}
def tNext:TS:=fun D σ H=>D.nx σ H
def tSeq (t u:TS):TS:=fun D σ H=>t { D with nx:=u D } σ H
theorem zz7:PSs X [] tNext:=fun _ _ σ H _ I h=>wpAny_execs_nil ⟨σ,H,I,h⟩
theorem zz2 (h1:PS X st t) (h2:PSs X rest u):PSs X (st::rest) (tSeq t u):=by
 intro pins s σ H D I h
 refine wpAny_execs_cons (thn (h1 pins s σ H { D with nx:=u D } I h) fun f s1 q => ?_)
 cases f with
 | next=>
  obtain⟨σ',H',I',q⟩:=q
  exact h2 pins s1 σ' H' D I' q
 | ret v=>exact q
 | brk=>exact q
 | cont=>exact q
theorem zz5 (h1:PS X st t):PSs X [st] t:=by
 intro pins s σ H D I h
 refine wpAny_execs_cons (thn (h1 pins s σ H D I h) fun f s1 q => ?_)
 cases f with
 | next=>exact wpAny_execs_nil q
 | ret v=>exact q
 | brk=>exact q
 | cont=>exact q
theorem Inv.quiet {pins:Lo}{σ:St}{H:Hp}{s:Shared}(I:Inv X pins σ H s):interactive X.env=false:=by simp[interactive,I.ok.kind]
def tDrop (te:TE):TS:=fun D σ H=>te σ H fun _ H1=>D.nx σ H1
theorem ps_expr (he:PE X e te) (hs:swapsWith e none pos.line X.env=pure false:=by rfl):PS X (.Expr e pos) (tDrop te):=by
 intro pins s σ H D I h
 exact wpAny_Expr_any (thn (he pins s σ H _ I h) fun v s1 ⟨x,H1,I1,r1,q1⟩=>⟨σ,H1,I1,q1⟩) I.quiet hs
def tRet (te:TE):TS:=fun D σ H=>te σ H D.rt
theorem ps_ret (he:PE X e te):PS X (.Return (some e) pos) (tRet te):=by
 intro pins s σ H D I h
 exact wpAny_Return_some (thn (he pins s σ H _ I h) fun v s1 ⟨x,H1,I1,r1,q1⟩=>⟨x,σ,H1,I1,r1,q1⟩)
def tRetN:TS:=fun D _ H=>D.rt .non H
def tIfS (c:TT) (t u:TS):TS:=fun D σ H=>c σ H fun b H1=>if b=true then t D σ H1 else u D σ H1
theorem ps_if {c:Expr}{a b:List Stmt}{tc:TT}(hc:PT X c tc) (ha:PSs X a t) (hb:PSs X b u):PS X (.If c a b pos) (tIfS tc t u):=by
 intro pins s σ H D I h
 refine wpAny_If (thn (hc pins s σ H _ I h) fun d s1 ⟨H1,I1,q1⟩ => ?_)
 cases d with
 | true=>exact ha pins s1 σ H1 D I1 q1
 | false=>exact hb pins s1 σ H1 D I1 q1
end
noncomputable abbrev TG:=V→St→Hp→(St→Hp→Prop)→Prop
noncomputable abbrev TGs:=List V→St→Hp→(St→Hp→Prop)→Prop
def PG (X:Cx) (target:Expr) (t:TG):Prop:=
 ∀(pins:Lo) (s:Shared) (σ:St) (H:Hp) (v:V) (u:Value) (Q:St→Hp→Prop),Inv X pins σ H s→RelV v u→t v σ H Q→
  wpAny (model X.prog X.w) X.A (assign target X.env u) (fun _ s'=>∃σ' H',Inv X pins σ' H' s'∧Q σ' H') X.xe s
def PGs (X:Cx) (ts:List Expr) (t:TGs):Prop:=
 ∀(pins:Lo) (s:Shared) (σ:St) (H:Hp) (vs:List V) (us:List Value) (Q:St→Hp→Prop),Inv X pins σ H s→Vals vs us→t vs σ H Q→
  wpAny (model X.prog X.w) X.A (assignInOrder ((assignEach ts X.env).map (·.2)) us) (fun _ s'=>∃σ' H',Inv X pins σ' H' s'∧Q σ' H') X.xe s
noncomputable abbrev TSet:=V→V→V→Hp→(Hp→Prop)→Prop
def PSet (X:Cx) (t:TSet):Prop:=
 ∀(pins:Lo) (s:Shared) (σ:St) (H:Hp) (o i v:V) (ov iv u:Value) (Q:Hp→Prop),Inv X pins σ H s→RelV o ov→RelV i iv→RelV v u→t o i v H Q→
  wpAny (model X.prog X.w) X.A (setItem ov iv u) (fun _ s'=>∃H',Inv X pins σ H' s'∧Q H') X.xe s
section
variable {X:Cx}{pos:Pos}
def gName (i:Nat):TG:=fun v σ H Q=>Q (σ.set i (some v)) H
theorem zz9 {i:Nat}{x:Str}(hN:X.N.Nodup) (hi:X.N[i]?=some x) (hx:Loc X.env.scope x) (hf:X.fn x=true∨X.env.scope.names.lookup x=some .local:=by first | exact .inl rfl | exact .inr rfl | assumption):PG X (.Name x pos) (gName i):=by
 intro pins s σ H v u Q I r h
 exact wpAny_assign_Name (store_ok I hN hi hx r (fun s' I'=>⟨_,H,I',h⟩) hf)
noncomputable def gNil:TGs:=fun vs σ H Q=>vs=[]∧Q σ H
noncomputable def gCons (t:TG) (u:TGs):TGs:=fun vs σ H Q=>∃v r,vs=v::r∧t v σ H fun σ' H'=>u r σ' H' Q
theorem pgs_nil:PGs X [] gNil:=by
 intro pins s σ H vs us Q I r h
 obtain⟨e,h⟩:=h
 subst e
 cases r
 exact assignInOrder_nil ⟨σ,H,I,h⟩
theorem zz11 {e:Expr}{es:List Expr}{t:TG}{u:TGs}(h1:PG X e t) (h2:PGs X es u)
  (hs:(assignEach (e::es) X.env).map (·.2)=assign e X.env::(assignEach es X.env).map (·.2):=by rfl):PGs X (e::es) (gCons t u):=by
 intro pins s σ H vs us Q I r h
 obtain⟨v,vr,e1,h⟩:=h
 subst e1
 cases r with
 | cons r rr=>
  rw[hs]
  refine assignInOrder_cons (thn (h1 pins s σ H _ _ _ I r h) fun _ s1 ⟨σ1,H1,I1,q1⟩ => ?_)
  exact h2 pins s1 σ1 H1 _ _ Q I1 rr q1
def gTup (K:Wf) (n:Nat) (t:TGs):TG:=fun v σ H Q=>∃a xs,v=.ref a∧SqT K H a xs∧xs.length=n∧t xs σ H Q
theorem pg_tup {es:List Expr}{k:Nat}{t:TGs}{n:Nat}(hc:X.calm=true) (h:PGs X es t)
  (hn:(assignEach es X.env).length=n:=by rfl) (hst:(assignEach es X.env).findIdx? (·.1)=none:=by rfl):PG X (.Tuple es k pos) (gTup X.K n t):=by
 intro pins s σ H v u Q I r hw
 obtain⟨a,xs,e1,hq,hl,hw⟩:=hw
 subst e1
 cases r
 obtain⟨its,rv,ht,hz⟩:=I.tuple hq
 refine assign_Tuple_tuple (I.ok.hd hc) ht (by simp[hn,←hl,rv.length]) hst fun h' hx => ?_
 have I1:Inv X pins σ H { s with heap:=h' }:=I.kept (t':=s.toks) fun b o e=>hx b o (Nat.ne_of_lt (Heap.lt_size e)) e
 exact h pins _ σ H xs _ Q I1 (by simpa using rv) hw
def gSub (to ti:TE) (t:TSet):TG:=fun v σ H Q=>to σ H fun o H1=>ti σ H1 fun i H2=>t o i v H2 fun H3=>Q σ H3
theorem pg_sub {o i:Expr}{to ti:TE}{t:TSet}(ho:PE X o to) (hi:PE X i ti) (hs:PSet X t)
  (ha:∀v,assign (.Subscript o i pos) X.env v=(do
   let ov ←holding [v] (eval o X.env)
   let iv ←holding [v,ov] (eval i X.env)
   standAt pos
   holding [v,ov,iv] (setItem ov iv v)
   release [v,ov,iv] []):=by intro _;rfl):PG X (.Subscript o i pos) (gSub to ti t):=by
 intro pins s σ H v u Q I r h
 rw[ha]
 refine wpAny_bind (wpAny_holding (thn (ho pins s σ H _ I h) fun ov s1 ⟨x,H1,I1,r1,q1⟩ => ?_))
 refine wpAny_bind (wpAny_holding (thn (hi pins s1 σ H1 _ I1 q1) fun iv s2 ⟨y,H2,I2,r2,q2⟩ => ?_))
 refine wpAny_bind (wpAny_standAt (wpAny_bind (wpAny_holding (thn (hs pins s2 σ H2 x y v ov iv u _ I2 r1 r2 r q2) fun _ s3 ⟨H3,I3,q3⟩ => ?_))))
 exact wpAny_release ⟨σ,H3,I3,q3⟩
def tAsg (te:TE) (g:TG):TS:=fun D σ H=>te σ H fun x H1=>g x σ H1 D.nx
theorem ps_asg {tg e:Expr}{te:TE}{g:TG}(he:PE X e te) (hg:PG X tg g) (hs:swapsWithSole [tg] e pos.line X.env=pure false:=by rfl) (hw:swappedStores [tg] e X.env=pure none:=by rfl)
  (h1:(assignEach [tg] X.env).map (·.2)=[assign tg X.env]:=by rfl):PS X (.Assign [tg] e pos) (tAsg te g):=by
 intro pins s σ H D I h
 refine wpAny_Assign_stores (thn (he pins s σ H _ I h) fun v s1 ⟨x,H1,I1,r1,q1⟩ => ?_) hs hw
 rw[h1]
 exact thn (hg pins s1 σ H1 x v _ I1 r1 q1) fun _ s2 q=>q
theorem ps_set {i:Nat}{x:Str}{e:Expr}{te:TE}{pos':Pos}(hN:X.N.Nodup) (hi:X.N[i]?=some x) (hx:Loc X.env.scope x) (he:PE X e te) (hs:swapsWith e (some (.Name x pos')) pos.line X.env=pure false:=by rfl) (hf:X.fn x=true∨X.env.scope.names.lookup x=some .local:=by first | exact .inl rfl | exact .inr rfl | assumption):
  PS X (.Assign [.Name x pos'] e pos) (tAsg te (gName i)):=by
 intro pins s σ H D I h
 refine wpAny_Assign_Name (thn (he pins s σ H _ I h) fun v s1 ⟨y,H1,I1,r1,q1⟩ => ?_) hs
 exact store_ok I1 hN hi hx r1 (fun s2 I2=>⟨_,H1,I2,q1⟩) hf
end
section
variable {X:Cx}{pos:Pos}
end
set_option genInjectivity false in
structure It where
 go:Nat→Hp→Prop
 yld:Nat→Hp→V→Hp→Prop
 stop:Nat→Hp→Prop
def FpOk (X:Cx) (pins:Lo) (H:Hp) (b:Addr):Prop:=
 H b=none∧b≠X.env.locals∧b∉X.fs∧(b∈X.ex∨X.s₀.heap.objs.size≤b)∧(∀x c,X.env.cells.lookup x=some c→c≠b)∧∀p∈X.pn++pins,p.1≠b
theorem Inv.fpOk {X:Cx}{pins:Lo}{σ:St}{H H':Hp}{s:Shared}{b:Addr}(I:Inv X pins σ H s) (hb:s.heap.objs.size≤b) (hn:H' b=none):FpOk X pins H' b:=by
 refine⟨hn,Nat.ne_of_gt (Nat.lt_of_lt_of_le I.lt hb),I.nofs hb,.inr (Nat.le_trans I.sz hb),fun x c e z => ?_,fun p hp z => ?_⟩
 ·obtain⟨v,q⟩:=I.cell x c e
  exact absurd (Nat.lt_of_lt_of_le q.lt (by rw[z];exact hb)) (Nat.lt_irrefl _)
 ·exact absurd (Nat.lt_of_lt_of_le (Heap.lt_size (I.pin p hp).1) (by rw[z];exact hb)) (Nat.lt_irrefl _)
set_option genInjectivity false in
structure Turn (P:Program) (w:World) (K:Wf) (tg:Expr) (J:It) (fp:List Addr) (it:Addr) (tn:Nat→Heap→Prop):Prop where
 mem:it∈fp
 obj:∀i h,tn i h→∀b∈fp,∃o,h.get? b=some o∧∀v,o.data≠.cell v
 keep:∀i h h',tn i h→(∀b∈fp,∀o,h.get? b=some o→h'.get? b=some o)→tn i h'
 item:∀(X:Cx),X.prog=P→X.w=w→X.K=K→X.calm=true→∀(i:Nat) (pins:Lo) (s:Shared) (σ:St) (H:Hp) (E:Vs),Inv X pins σ H s→(∀b∈fp,FpOk X pins H b)→tn i s.heap→J.go i H→
  wpAny (model P w) X.A (pyNext (.ref it)) (fun r s1=>∃u,r=some u∧
   wpAny (model P w) X.A (letOwnedTupleGo tg (.ref it) u) (fun _ s2=>∃x H',Inv X pins σ H' s2∧RelV x u∧J.yld i H x H'∧tn (i+1) s2.heap∧∀b∈fp,H' b=none) E s1) E s
 done:∀(X:Cx),X.prog=P→X.w=w→X.K=K→X.calm=true→∀(i:Nat) (pins:Lo) (s:Shared) (σ:St) (H:Hp) (E:Vs),Inv X pins σ H s→(∀b∈fp,FpOk X pins H b)→tn i s.heap→J.stop i H→
  wpAny (model P w) X.A (pyNext (.ref it)) (fun r s1=>r=none∧Inv X pins σ H s1) E s
 self:∀(A:Around) (i:Nat) (s:Shared) (Q:Vs) (E:Vs),tn i s.heap→Q (.ref it) s→wpAny (model P w) A (pyIter (.ref it)) Q E s
noncomputable abbrev TI:=St→Hp→(It→Hp→Prop)→Prop
def PIE (X:Cx) (pins:Lo) (σ:St) (tg:Expr) (R:It→Hp→Prop) (itv:Value) (s2:Shared):Prop:=
 ∃(it:Addr) (fp:List Addr) (tn:Nat→Heap→Prop) (J:It) (H':Hp),itv=.ref it∧Inv X pins σ H' s2∧Turn X.prog X.w X.K tg J fp it tn∧tn 0 s2.heap∧(∀b∈fp,FpOk X pins H' b)∧R J H'
def PI (X:Cx) (tg iter:Expr) (wi:TI):Prop:=
 ∀(pins:Lo) (s:Shared) (σ:St) (H:Hp) (R:It→Hp→Prop),Inv X pins σ H s→wi σ H R→
  wpAny (model X.prog X.w) X.A (eval iter X.env) (fun v s1=>wpAny (model X.prog X.w) X.A (pyIter v) (PIE X pins σ tg R) X.xe s1) X.xe s
theorem go_of {M:Model}{A:Around}{E:Vs}{s:Shared}{tg:Expr}{it:Addr}{u:Value}{o:Obj}{n:String}{vs:Array Value}{Q:Unit→Shared→Prop}(ho:s.heap.get? it=some o) (hc:o.cls=.type n) (hd:o.data=.fields vs)
  (hn:["enumerate", "zip", "dict_itemiterator", "dict_reverseitemiterator", "odict_iterator", "itertools.zip_longest", "itertools.pairwise"].contains n=false) (hQ:Q () s):wpAny M A (letOwnedTupleGo tg (.ref it) u) Q E s:=by
 unfold letOwnedTupleGo
 cases tg<;>first
  | exact wpAny_pure hQ
  | (cases u<;>first
    | exact wpAny_pure hQ
    | (refine wpAny_bind (wpAny_load ho ?_)
       rw[hc,hd]
       show wpAny M A (if (["enumerate", "zip", "dict_itemiterator", "dict_reverseitemiterator", "odict_iterator", "itertools.zip_longest", "itertools.pairwise"].contains n&&vs[0]? == some (rawInt _))=true then _ else _) Q E s
       rw[if_neg (by intro h;rw[hn,Bool.false_and]at h;cases h)]
       exact wpAny_pure hQ))
noncomputable def Itl (K:Wf) (a:Addr):It:=
 ⟨fun i H=>∃xs x,SqL K H a xs∧xs[i]?=some x,fun i H x H'=>H'=H∧∀xs,SqL K H a xs→xs[i]?=some x,fun i H=>∃xs,SqL K H a xs∧xs.length≤i⟩
noncomputable def Itt (K:Wf) (a:Addr):It:=
 ⟨fun i H=>∃xs x,SqT K H a xs∧xs[i]?=some x,fun i H x H'=>H'=H∧∀xs,SqT K H a xs→xs[i]?=some x,fun i H=>∃xs,SqT K H a xs∧xs.length≤i⟩
noncomputable def Itr (lo:Int) (n:Nat):It:=⟨fun i _=>i<n,fun i H x H'=>H'=H∧x=.int (lo+i),fun i _=>n≤i⟩
theorem turn_list {P:Program}{w:World}{K:Wf}{tg:Expr}(a it:Addr):Turn P w K tg (Itl K a) [it] it (fun i h=>h.IsListIter it a i) where
 mem:=by simp
 obj:=fun i h st b hb=>by
  have e:b=it:=by simpa using hb
  subst e
  obtain⟨o,e,c,d⟩:=st
  exact⟨o,e,fun v z=>by rw[d]at z;cases z⟩
 keep:=fun i h h' st k=>st.at fun o e=>k it (by simp) o e
 item:=by
  intro X hP hw hK hc i pins s σ H E I hf st hg
  subst hP hw hK
  obtain⟨xs,x,hq,hx⟩:=hg
  obtain⟨its,rv,p,hz⟩:=I.list hq
  obtain⟨u,hu,ru⟩:=rv.get hx
  obtain⟨f0,f1,f2,f3,f4,f5⟩:=hf it (by simp)
  refine wpAny_pyNext_list_item st p.isList (x:=u) (by simpa using hu) fun h' st' sb => ?_
  have I1:Inv X pins σ H { s with heap:=h' }:=I.turned (t':=s.toks) (fun b o hb e=>(sb.2 b hb).trans e) f0 f1 f3 f4 f5
  obtain⟨o,e,c,d⟩:=id st'
  exact⟨u,rfl,go_of (s:={ s with heap:=h' }) e c d (by decide) ⟨x,H,I1,ru,⟨rfl,fun ys hy=>by rw[I.list_inj hy hq];exact hx⟩,st',fun b hb=>(hf b hb).1⟩⟩
 done:=by
  intro X hP hw hK hc i pins s σ H E I hf st hg
  subst hP hw hK
  obtain⟨xs,hq,hx⟩:=hg
  obtain⟨its,rv,p,hz⟩:=I.list hq
  obtain⟨f0,f1,f2,f3,f4,f5⟩:=hf it (by simp)
  have hl:=rv.length
  exact wpAny_pyNext_list_end (I.ok.hd hc) st p.isList (by simp;omega) fun h' eb=>⟨rfl,I.turned (t':=s.toks) (fun b o hb e=>eb b o hb e) f0 f1 f3 f4 f5⟩
 self:=fun _ _ _ _ _ st h=>wpAny_pyIter_listiter st h
theorem turn_range {P:Program}{w:World}{K:Wf}{tg:Expr}(it:Addr) (lo:Int) (n:Nat):Turn P w K tg (Itr lo n) [it] it (fun i h=>IsRangeIter h it (lo+(i:Nat) * 1) ((n:Int) - (i:Nat)) 1) where
 mem:=by simp
 obj:=fun i h st b hb=>by
  have e:b=it:=by simpa using hb
  subst e
  exact⟨_,st,fun v z=>by
   have z':Data.fields _=Data.cell v:=z
   cases z'⟩
 keep:=fun i h h' st k=>k it (by simp) _ st
 item:=by
  intro X hP hw hK hc i pins s σ H E I hf st hg
  subst hP hw hK
  obtain⟨f0,f1,f2,f3,f4,f5⟩:=hf it (by simp)
  have W:=Walks.range (prog:=X.prog) (w:=X.w) (I.ok.hd hc) it lo 1 n
  refine W.item i s _ _ hg st fun v h' tk hv st' kk => ?_
  obtain⟨t,rfl⟩:=hv
  have I1:Inv X pins σ H { s with heap:=h',toks:=tk }:=I.turned (fun b o hb e=>kk b o (by simpa using hb) e) f0 f1 f3 f4 f5
  refine⟨_,rfl,go_of (s:={ s with heap:=h',toks:=tk }) (n := "range_iterator") st' rfl rfl (by decide) ⟨.int (lo+i),H,I1,⟨t,?_⟩,⟨rfl,rfl⟩,st',fun b hb=>(hf b hb).1⟩⟩
  rw[Int.mul_one]
 done:=by
  intro X hP hw hK hc i pins s σ H E I hf st hg
  subst hP hw hK
  obtain⟨f0,f1,f2,f3,f4,f5⟩:=hf it (by simp)
  exact wpAny_pyNext_range_end (I.ok.hd hc) st (by have:n≤i:=hg;omega) fun h' eb=>⟨rfl,I.turned (t':=s.toks) (fun b o hb e=>eb b o hb e) f0 f1 f3 f4 f5⟩
 self:=fun _ _ _ _ _ st h=>wpAny_pyIter_rangeiter st h
end L2
namespace L2
open PySem PySem.Spec PyProof.Rows
section
variable {X:Cx}{tg:Expr}
def iList (K:Wf) (tl:TE):TI:=fun σ H R=>tl σ H fun x H1=>∃a,x=.ref a∧(∃xs,SqL K H1 a xs)∧R (Itl K a) H1
def iTup (K:Wf) (tl:TE):TI:=fun σ H R=>tl σ H fun x H1=>∃a,x=.ref a∧(∃xs,SqT K H1 a xs)∧R (Itt K a) H1
theorem pi_list {l:Expr}{tl:TE}(hl:PE X l tl):PI X tg l (iList X.K tl):=by
 intro pins s σ H R I h
 refine thn (hl pins s σ H _ I h) fun v s1 ⟨x,H1,I1,r1,q1⟩ => ?_
 obtain⟨a,e,⟨xs,hq⟩,q⟩:=q1
 subst e
 cases r1
 obtain⟨its,rv,p,hz⟩:=I1.list hq
 refine wpAny_pyIter_list p.isList ?_
 refine⟨s1.heap.objs.size,[s1.heap.objs.size],_,_,H1,rfl,I1.kept (t':=s1.toks) fun b o e=>Heap.get?_push_of_some _ e,turn_list a _,⟨_,Heap.get?_push_size _ rfl,rfl,rfl⟩,fun b hb => ?_,q⟩
 have e:b=s1.heap.objs.size:=by simpa using hb
 subst e
 exact I1.fpOk (Nat.le_refl _) (I1.hok.fresh (Nat.le_refl _))
theorem range_it {pins:Lo}{σ:St}{H:Hp}{s:Shared}{R:It→Hp→Prop}{E:Vs}{lo hi:Int}{t u v:Tok}{tk:Nat}(I:Inv X pins σ H s) (h1 : -(2 ^ 62)≤lo) (h2:lo<2 ^ 62) (h3 : -(2 ^ 62)≤hi) (h4:hi<2 ^ 62)
  (q:R (Itr lo (hi - lo).toNat) H):wpAny (model X.prog X.w) X.A (pyIter (.ref s.heap.objs.size)) (PIE X pins σ tg R) E { s with heap:=s.heap.push { cls:=.type "range", data:=.fields #[.int lo t,.int hi u,.int 1 v] },toks:=tk }:=by
 refine wpAny_pyIter_range (IsRange.new ..) (small_one h1 h2 h3 h4) ?_
 have I1:Inv X pins σ H { s with heap:=s.heap.push { cls:=.type "range", data:=.fields #[.int lo t,.int hi u,.int 1 v] },toks:=tk }:=I.kept fun b o e=>Heap.get?_push_of_some _ e
 refine⟨(s.heap.push { cls:=.type "range", data:=.fields #[.int lo t,.int hi u,.int 1 v] }).objs.size,[(s.heap.push { cls:=.type "range", data:=.fields #[.int lo t,.int hi u,.int 1 v] }).objs.size],_,_,H,rfl,
  I1.kept (t':=tk) fun b o e=>Heap.get?_push_of_some _ e,turn_range _ lo (hi - lo).toNat,?_,fun b hb => ?_,q⟩
 ·have e1:lo+((0:Nat):Int) * 1=lo:=by simp
  have e2:(((hi - lo).toNat:Nat):Int) - ((0:Nat):Int)=Builtin.Range.rangeSize lo hi 1:=by rw[rangeSize_one];split<;>omega
  show IsRangeIter _ _ (lo+((0:Nat):Int) * 1) ((((hi - lo).toNat:Nat):Int) - ((0:Nat):Int)) 1
  rw[e1,e2]
  exact Heap.get?_push_size _ rfl
 ·have e:b=(s.heap.push { cls:=.type "range", data:=.fields #[.int lo t,.int hi u,.int 1 v] }).objs.size:=by simpa using hb
  subst e
  exact I1.fpOk (Nat.le_refl _) (I1.hok.fresh (Nat.le_refl _))
def iRng1 (ta:TA):TI:=fun σ H R=>ta σ H fun vs H1=>∃j:Int,vs=[.int j] ∧ -(2 ^ 62)≤j∧j<2 ^ 62∧R (Itr 0 j.toNat) H1
def iRng2 (ta:TA):TI:=fun σ H R=>ta σ H fun vs H1=>∃i j:Int,vs=[.int i,.int j]∧(-(2 ^ 62)≤i∧i<2 ^ 62 ∧ -(2 ^ 62)≤j∧j<2 ^ 62)∧R (Itr i (j - i).toNat) H1
theorem pi_range1 {a:Expr}{ta:TA}{p pos:Pos}(hg:Gl X "range") (hm:X.mg "range" = none) (ha:PA X [a] ta) (hs:starEach [a] X.env=[(false,eval a X.env)]:=by rfl):PI X tg (.Call (.Name "range" p) [a] [] pos) (iRng1 ta):=by
 intro pins s σ H R I h
 refine Call_ (ld_blt I hg hm boot_range (PyProof.Rows.callWith_type1 (thn (ha pos pins s σ H _ I h) fun us s1 ⟨vs,H1,I1,r1,q1⟩ => ?_) hs rfl))
 obtain⟨j,e,q1,q2,q⟩:=q1
 subst e
 cases r1 with
 | cons r rr=>
  cases rr
  obtain⟨t,rfl⟩:=r
  exact call_range_1 (range_it I1 (by omega) (by omega) q1 q2 (by simpa using q))
def tFor (wi:TI) (g:TG) (tb:TS):TS:=fun D σ H=>wi σ H fun J H1=>∃W:Nat→Nat→St→Hp→Prop,(∃m,W 0 m σ H1)∧∀i m σ H,W i m σ H→
 (J.stop i H∧D.nx σ H)∨(J.go i H∧∃N:St→Hp→Prop,(∀σ' H',N σ' H'→∃m',m'<m∧W (i+1) m' σ' H')∧∀x H',J.yld i H x H'→g x σ H' fun σ2 H2=>tb { D with nx:=N,ct:=N,bk:=D.nx } σ2 H2)
noncomputable def pinsAt (fp:List Addr) (h:Heap):Lo:=fp.filterMap fun b=>(h.get? b).map fun o=>(b,o)
theorem mem_pinsAt {fp:List Addr}{h:Heap}{b:Addr}{o:Obj}(hb:b∈fp) (e:h.get? b=some o):(b,o)∈pinsAt fp h:=List.mem_filterMap.mpr ⟨b,hb,by rw[e];rfl⟩
theorem of_pinsAt {fp:List Addr}{h:Heap}{p:Addr×Obj}(hp:p∈pinsAt fp h):p.1∈fp∧h.get? p.1=some p.2:=by
 obtain⟨b,hb,e⟩:=List.mem_filterMap.mp hp
 cases q:h.get? b with
 | none=>rw[q]at e;cases e
 | some o=>
  rw[q]at e
  have e':(b,o)=p:=Option.some.inj e
  subst e'
  exact⟨hb,q⟩
theorem Inv.pinned {pins:Lo}{σ:St}{H:Hp}{s:Shared}{fp:List Addr}(I:Inv X pins σ H s) (hf:∀b∈fp,FpOk X pins H b) (ho:∀b∈fp,∃o,s.heap.get? b=some o∧∀v,o.data≠.cell v):Inv X (pins++pinsAt fp s.heap) σ H s:=
 I.pins_of fun p hp=>(List.mem_append.mp hp).elim (fun z=>I.pin p (List.mem_append_right _ z)) fun z=>by
  obtain⟨hb,e⟩:=of_pinsAt z
  obtain⟨f0,f1,f2,_⟩:=hf p.1 hb
  obtain⟨o,e',d⟩:=ho p.1 hb
  rw[e]at e';cases e'
  exact⟨e,f0,f1,f2,d⟩
theorem Inv.unpinned {pins pl:Lo}{σ:St}{H:Hp}{s:Shared}(I:Inv X (pins++pl) σ H s):Inv X pins σ H s:=I.pins_of fun p hp=>I.pin p (List.mem_append_right _ (List.mem_append_left _ hp))
theorem ps_for {iter:Expr}{body:List Stmt}{wi:TI}{g:TG}{tb:TS}{pos:Pos}(hp:PassesOwn (model X.prog X.w) X.A X.env X.xe) (hc:X.calm=true) (hi:PI X tg iter wi) (hg:PG X tg g) (hb:PSs X body tb)
  (hs:∀x,foldedSetIterable iter X.env x=pure x:=by intro _;rfl):PS X (.For tg iter body [] pos) (tFor wi g tb):=by
 intro pins s σ H D I h
 refine wpAny_For (thn (hi pins s σ H _ I h) fun v s1 h1=>thn h1 fun itv s2 h2 => ?_) hs
 obtain⟨it,fp,tn,J,H2,e,I2,T,st2,f2,W,⟨m0,w0⟩,turn⟩:=h2
 subst e
 have stat:∀{H':Hp},(∀b∈fp,H' b=none)→∀b∈fp,FpOk X pins H' b:=fun hn b hb=>⟨hn b hb,(f2 b hb).2⟩
 refine codeAny_forLoop_any (fun n s'=>∃i σ' H',Inv X pins σ' H' s'∧tn i s'.heap∧(∀b∈fp,H' b=none)∧W i n σ' H') ?_ m0 ⟨0,σ,H2,I2,st2,fun b hb=>(f2 b hb).1,w0⟩
 rintro n s3 ⟨i,σ3,H3,I3,st3,fr3,w3⟩
 rcases turn i n σ3 H3 w3 with ⟨stop,qn⟩ | ⟨go,N,hN,step⟩
 ·refine wpAny_passesOwn hp (thn (T.done X rfl rfl rfl hc i pins s3 σ3 H3 X.xe I3 (stat fr3) st3 stop) fun r s4 ⟨hr,I4⟩ => ?_)
  subst hr
  exact wpAny_execs_nil ⟨σ3,H3,I4,qn⟩
 ·refine wpAny_passesOwn hp (thn (T.item X rfl rfl rfl hc i pins s3 σ3 H3 X.xe I3 (stat fr3) st3 go) fun r s4 ⟨u,hr,h4⟩ => ?_)
  subst hr
  refine wpAny_passesOwn hp (thn h4 fun _ s5 ⟨x,H5,I5,r5,y5,st5,fr5⟩ => ?_)
  have I5':=I5.pinned (stat fr5) (T.obj _ _ st5)
  refine wpAny_passesOwn hp (thn (hg _ s5 σ3 H5 x u _ I5' r5 (step x H5 y5)) fun _ s6 ⟨σ6,H6,I6,q6⟩ => ?_)
  refine wpAny_passesOwn hp (thn (hb _ s6 σ6 H6 _ I6 q6) fun f s7 q7 => ?_)
  have again:∀{σ7:St}{H7:Hp},Inv X (pins++pinsAt fp s5.heap) σ7 H7 s7→N σ7 H7→∃m,m<n∧∃i σ' H',Inv X pins σ' H' s7∧tn i s7.heap∧(∀b∈fp,H' b=none)∧W i m σ' H':=fun {σ7 H7} I7 n7=>by
   obtain⟨m',hm,w7⟩:=hN σ7 H7 n7
   refine⟨m',hm,i+1,σ7,H7,I7.unpinned,T.keep _ _ _ st5 fun b hb o e=>(I7.pin (b,o) (List.mem_append_right _ (List.mem_append_right _ (mem_pinsAt hb e)))).1,fun b hb => ?_,w7⟩
   obtain⟨o,e,d⟩:=T.obj _ _ st5 b hb
   exact (I7.pin (b,o) (List.mem_append_right _ (List.mem_append_right _ (mem_pinsAt hb e)))).2.1
  cases f with
  | next=>obtain⟨σ7,H7,I7,n7⟩:=q7;exact again I7 n7
  | cont=>obtain⟨σ7,H7,I7,n7⟩:=q7;exact again I7 n7
  | brk=>obtain⟨σ7,H7,I7,q7⟩:=q7;exact⟨σ7,H7,I7.unpinned,q7⟩
  | ret v=>obtain⟨x7,σ7,H7,I7,r7,q7⟩:=q7;exact⟨x7,σ7,H7,I7.unpinned,r7,q7⟩
end
theorem for_list {K:Wf}{a:Addr}{xs:List V}{g:TG}{tb:TS}{D:Ends}{σ:St}{H:Hp}(Pv:Nat→St→Hp→Prop) (h0:Pv 0 σ H) (hl:∀i σ H,i≤xs.length→Pv i σ H→SqL K H a xs)
  (hs:∀i x σ H,xs[i]?=some x→Pv i σ H→g x σ H fun σ2 H2=>tb { D with nx:=Pv (i+1),ct:=Pv (i+1),bk:=D.nx } σ2 H2) (hd:∀σ H,Pv xs.length σ H→D.nx σ H):
  ∃W:Nat→Nat→St→Hp→Prop,(∃m,W 0 m σ H)∧∀i m σ H,W i m σ H→
   ((Itl K a).stop i H∧D.nx σ H)∨((Itl K a).go i H∧∃N:St→Hp→Prop,(∀σ' H',N σ' H'→∃m',m'<m∧W (i+1) m' σ' H')∧∀x H',(Itl K a).yld i H x H'→g x σ H' fun σ2 H2=>tb { D with nx:=N,ct:=N,bk:=D.nx } σ2 H2):=by
 refine⟨fun i m σ H=>m=xs.length - i∧i≤xs.length∧Pv i σ H,⟨xs.length,by simp,Nat.zero_le _,h0⟩,?_⟩
 rintro i m σ H ⟨rfl,hi,p⟩
 have q:=hl i σ H hi p
 by_cases hlt:i<xs.length
 ·refine .inr ⟨⟨xs,xs[i],q,by simp[hlt]⟩,Pv (i+1),fun σ' H' p'=>⟨xs.length - (i+1),by omega,rfl,hlt,p'⟩,fun x H' y => ?_⟩
  obtain⟨e,y⟩:=y
  subst e
  exact hs i x σ _ (y xs q) p
 ·have e:i=xs.length:=by omega
  subst e
  exact .inl ⟨⟨xs,q,Nat.le_refl _⟩,hd σ H p⟩
theorem for_range {lo:Int}{n:Nat}{g:TG}{tb:TS}{D:Ends}{σ:St}{H:Hp}(Pv:Nat→St→Hp→Prop) (h0:Pv 0 σ H)
  (hs:∀i σ H,i<n→Pv i σ H→g (.int (lo+i)) σ H fun σ2 H2=>tb { D with nx:=Pv (i+1),ct:=Pv (i+1),bk:=D.nx } σ2 H2) (hd:∀σ H,Pv n σ H→D.nx σ H):
  ∃W:Nat→Nat→St→Hp→Prop,(∃m,W 0 m σ H)∧∀i m σ H,W i m σ H→
   ((Itr lo n).stop i H∧D.nx σ H)∨((Itr lo n).go i H∧∃N:St→Hp→Prop,(∀σ' H',N σ' H'→∃m',m'<m∧W (i+1) m' σ' H')∧∀x H',(Itr lo n).yld i H x H'→g x σ H' fun σ2 H2=>tb { D with nx:=N,ct:=N,bk:=D.nx } σ2 H2):=by
 refine⟨fun i m σ H=>m=n - i∧i≤n∧Pv i σ H,⟨n,by simp,Nat.zero_le _,h0⟩,?_⟩
 rintro i m σ H ⟨rfl,hi,p⟩
 by_cases hlt:i<n
 ·refine .inr ⟨hlt,Pv (i+1),fun σ' H' p'=>⟨n - (i+1),by omega,rfl,hlt,p'⟩,fun x H' y => ?_⟩
  obtain⟨e,y⟩:=y
  subst e y
  exact hs i σ _ hlt p
 ·have e:i=n:=by omega
  subst e
  exact .inl ⟨Nat.le_refl _,hd σ H p⟩
end L2
namespace L2
open PySem PySem.Spec PyProof.Rows
noncomputable abbrev R2:=V→V→Hp→VK→Prop
def OpR (X:Cx) (f:Value→Value→Sem Value) (r:R2):Prop:=
 ∀(pins:Lo) (s:Shared) (σ:St) (H:Hp) (x y:V) (v u:Value) (Q:VK),Inv X pins σ H s→RelV x v→RelV y u→r x y H Q→
  wpAny (model X.prog X.w) X.A (f v u) (EP X pins σ Q) X.xe s
def UnR (X:Cx) (f:Value→Sem Value) (r:V→Hp→VK→Prop):Prop:=
 ∀(pins:Lo) (s:Shared) (σ:St) (H:Hp) (x:V) (v:Value) (Q:VK),Inv X pins σ H s→RelV x v→r x H Q→
  wpAny (model X.prog X.w) X.A (f v) (EP X pins σ Q) X.xe s
def CallR (X:Cx) (f:Value) (r:List V→Hp→VK→Prop):Prop:=
 ∀(pins:Lo) (s:Shared) (σ:St) (H:Hp) (xs:List V) (us:List Value) (Q:VK),Inv X pins σ H s→Vals xs us→r xs H Q→
  wpAny (model X.prog X.w) X.A (call f us) (EP X pins σ Q) X.xe s
def tOp (r:R2) (ta tb:TE):TE:=fun σ H Q=>ta σ H fun x H1=>tb σ H1 fun y H2=>r x y H2 Q
def tUn (r:V→Hp→VK→Prop) (ta:TE):TE:=fun σ H Q=>ta σ H fun x H1=>r x H1 Q
def rI (C:Int→Int→Prop) (g:Int→Int→V):R2:=fun x y H Q=>∃i j,x=.int i∧y=.int j∧C i j∧Q (g i j) H
def rI0 (g:Int→Int→V):R2:=fun x y H Q=>∃i j,x=.int i∧y=.int j∧Q (g i j) H
noncomputable def rU (g:Int→V):V→Hp→VK→Prop:=fun x H Q=>∃i,x=.int i∧Q (g i) H
section
variable {X:Cx}{a b c:Expr}{ta tb tc:TE}{pos:Pos}
theorem binT (ha:PE X a ta) (hb:PE X b tb) {pins:Lo}{s:Shared}{σ:St}{H:Hp}{R:V→V→Hp→Prop}(I:Inv X pins σ H s)
  (h:ta σ H fun x H1=>tb σ H1 fun y H2=>R x y H2) {Q:Vs}{f:Value→Value→Sem Value}
  (hf:∀v u s2 x y H2,Inv X pins σ H2 s2→RelV x v→RelV y u→R x y H2→wpAny (model X.prog X.w) X.A (f v u) Q X.xe s2):
  wpAny (model X.prog X.w) X.A (eval a X.env) (fun v s₁=>wpAny (model X.prog X.w) X.A (eval b X.env) (fun u s₂=>wpAny (model X.prog X.w) X.A (f v u) Q X.xe s₂) X.xe s₁) X.xe s:=by
 refine thn (ha pins s σ H _ I h) fun v s1 ⟨x,H1,I1,r1,q1⟩ => ?_
 refine thn (hb pins s1 σ H1 _ I1 q1) fun u s2 ⟨y,H2,I2,r2,q2⟩ => ?_
 exact hf v u s2 x y H2 I2 r1 r2 q2
theorem pe_op {op:Operator}{r:R2}(ho:OpR X (binaryOp op) r) (ha:PE X a ta) (hb:PE X b tb):PE X (.BinOp a op b pos) (tOp r ta tb):=by
 intro pins s σ H Q I h
 exact wpAny_BinOp (binT ha hb I h fun v u s2 x y H2 I2 rx ry q=>ho pins s2 σ H2 x y v u Q I2 rx ry q)
theorem pe_un {op:UnaryOp}{r:V→Hp→VK→Prop}(ho:UnR X (unaryOp op) r) (ha:PE X a ta):PE X (.UnaryOp op a pos) (tUn r ta):=by
 intro pins s σ H Q I h
 exact UnaryOp_ (thn (ha pins s σ H _ I h) fun v s1 ⟨x,H1,I1,r1,q1⟩=>ho pins s1 σ H1 x v Q I1 r1 q1)
theorem opI {f:Value→Value→Sem Value}{C:Int→Int→Prop}{g:Int→Int→Int}
  (rule:∀(i j:Int) (t u:Tok) (s:Shared) (Q:Vs) (E:Vs),C i j→Q (.int (g i j) s.toks) { s with toks:=s.toks+1 }→wpAny (model X.prog X.w) X.A (f (.int i t) (.int j u)) Q E s):
  OpR X f (rI C fun i j=>.int (g i j)):=by
 intro pins s σ H x y v u Q I rx ry h
 obtain⟨i,j,rfl,rfl,hc,q⟩:=h
 obtain⟨t,rfl⟩:=rx
 obtain⟨t',rfl⟩:=ry
 exact rule i j t t' s _ _ hc ⟨.int (g i j),H,I.tok _,⟨_,rfl⟩,q⟩
theorem opI0 {f:Value→Value→Sem Value}{g:Int→Int→Int}
  (rule:∀(i j:Int) (t u:Tok) (s:Shared) (Q:Vs) (E:Vs),Q (.int (g i j) s.toks) { s with toks:=s.toks+1 }→wpAny (model X.prog X.w) X.A (f (.int i t) (.int j u)) Q E s):
  OpR X f (rI0 fun i j=>.int (g i j)):=by
 intro pins s σ H x y v u Q I rx ry h
 obtain⟨i,j,rfl,rfl,q⟩:=h
 obtain⟨t,rfl⟩:=rx
 obtain⟨t',rfl⟩:=ry
 exact rule i j t t' s _ _ ⟨.int (g i j),H,I.tok _,⟨_,rfl⟩,q⟩
theorem opB0 {f:Value→Value→Sem Value}{g:Int→Int→Bool}
  (rule:∀(i j:Int) (t u:Tok) (s:Shared) (Q:Vs) (E:Vs),Q (.bool (g i j)) s→wpAny (model X.prog X.w) X.A (f (.int i t) (.int j u)) Q E s):
  OpR X f (rI0 fun i j=>.bl (g i j)):=by
 intro pins s σ H x y v u Q I rx ry h
 obtain⟨i,j,rfl,rfl,q⟩:=h
 obtain⟨t,rfl⟩:=rx
 obtain⟨t',rfl⟩:=ry
 exact rule i j t t' s _ _ ⟨.bl (g i j),H,I,rfl,q⟩
def CDiv (i j:Int):Prop:=0<j∧j<1073741824
def CPow (i j:Int):Prop:=0≤j∧j≤1000000∧i.natAbs<2 ^ 64
def CMul (i j:Int):Prop:=(-(2 ^ 64)<i∧i<2 ^ 64)∨(-(2 ^ 64)<j∧j<2 ^ 64)
theorem CMul.ok {i j:Int}(h:CMul i j):IntMulOk i j:=by
 rcases h with ⟨h1,h2⟩ | ⟨h1,h2⟩
 ·exact .of_left (intBits_le_64 h1 h2)
 ·exact .of_right (intBits_le_64 h1 h2)
theorem op_add:OpR X (binaryOp .Add) (rI0 fun i j=>.int (i+j)):=opI0 fun _ _ _ _ _ _ _ q=>add_int q
theorem op_sub:OpR X (binaryOp .Sub) (rI0 fun i j=>.int (i - j)):=opI0 fun _ _ _ _ _ _ _ q=>sub_int q
theorem op_mul:OpR X (binaryOp .Mult) (rI CMul fun i j=>.int (i * j)):=opI fun _ _ _ _ _ _ _ hc q=>mul_int q hc.ok
theorem op_fdiv:OpR X (binaryOp .FloorDiv) (rI CDiv fun i j=>.int (i / j)):=opI fun i j _ _ _ _ _ hc q=>by
 have h1:(0:Int)<j:=hc.1
 have h2:j<1073741824:=hc.2
 exact floordiv_int (by omega) (by rw[Int.fdiv_eq_ediv_of_nonneg i (by omega)];exact q) (.inl (PyProof.noPylong_small (by omega)))
theorem op_mod:OpR X (binaryOp .Mod) (rI (fun _ j=>0<j) fun i j=>.int (i % j)):=opI fun i j _ _ _ _ _ hc q=>by
 have h1:(0:Int)<j:=hc
 exact mod_int' (by omega) (by rw[Int.fmod_eq_emod_of_nonneg i (by omega)];exact q)
theorem op_shl:OpR X (binaryOp .LShift) (rI CPow fun i j=>.int (i * 2 ^ j.toNat)):=opI fun _ _ _ _ _ _ _ hc q=>lshift_int_small hc.1 hc.2.1 hc.2.2 q
theorem op_and:OpR X (binaryOp .BitAnd) (rI0 fun i j=>.int (Builtin.bitAnd i j)):=opI0 fun _ _ _ _ _ _ _ q=>and_int q
theorem unI {f:Value→Sem Value}{g:Int→Int}
  (rule:∀(i:Int) (t:Tok) (s:Shared) (Q:Vs) (E:Vs),Q (.int (g i) s.toks) { s with toks:=s.toks+1 }→wpAny (model X.prog X.w) X.A (f (.int i t)) Q E s):
  UnR X f (rU fun i=>.int (g i)):=by
 intro pins s σ H x v Q I rx h
 obtain⟨i,rfl,q⟩:=h
 obtain⟨t,rfl⟩:=rx
 exact rule i t s _ _ ⟨.int (g i),H,I.tok _,⟨_,rfl⟩,q⟩
theorem un_neg:UnR X (unaryOp .USub) (rU fun i=>.int (-i)):=unI fun _ _ _ _ _ q=>neg_int q
end
noncomputable def scal:V→V→Bool
 | .non,.non=>true | .non,.int _=>true | .int _,.non=>true | .non,.bl _=>true | .bl _,.non=>true | .non,.str _=>true | .str _,.non=>true
 | .int _,.int _=>true | .bl _,.bl _=>true | .str _,.str _=>true | .byt _,.byt _=>true
 | .int _,.str _=>true | .str _,.int _=>true | .bl _,.str _=>true | .str _,.bl _=>true
 | _,_=>false
theorem sc0:scal .non .non=true:=rfl
theorem sc1 {i:Int}:scal .non (.int i)=true:=rfl
theorem sc2 {i:Int}:scal (.int i) .non=true:=rfl
theorem sc3 {i:Bool}:scal .non (.bl i)=true:=rfl
theorem sc4 {i:Bool}:scal (.bl i) .non=true:=rfl
theorem sc5 {i:Str}:scal .non (.str i)=true:=rfl
theorem sc6 {i:Str}:scal (.str i) .non=true:=rfl
theorem sc7 {i:Int}{j:Int}:scal (.int i) (.int j)=true:=rfl
theorem sc8 {i:Bool}{j:Bool}:scal (.bl i) (.bl j)=true:=rfl
theorem sc9 {i:Str}{j:Str}:scal (.str i) (.str j)=true:=rfl
theorem sc10 {i:Int}{j:Str}:scal (.int i) (.str j)=true:=rfl
theorem sc11 {i:Str}{j:Int}:scal (.str i) (.int j)=true:=rfl
theorem sc12 {i:Bool}{j:Str}:scal (.bl i) (.str j)=true:=rfl
theorem sc13 {i:Str}{j:Bool}:scal (.str i) (.bl j)=true:=rfl
def rEq:R2:=fun x y H Q=>scal x y=true∧Q (.bl (decide (x=y))) H
def rNe:R2:=fun x y H Q=>scal x y=true∧Q (.bl (!decide (x=y))) H
theorem dec_int {i j:Int}:decide (V.int i=V.int j)=(i == j):=by
 rw[Bool.eq_iff_iff]
 simp
theorem dec_bl {i j:Bool}:decide (V.bl i=V.bl j)=(i == j):=by
 rw[Bool.eq_iff_iff]
 simp
theorem dec_str {i j:Str}:decide (V.str i=V.str j)=(i == j):=by
 rw[Bool.eq_iff_iff]
 simp
theorem dec_byt {i j:Array UInt8}:decide (V.byt i=V.byt j)=(i.toList == j.toList):=by
 rw[Bool.eq_iff_iff]
 cases i
 cases j
 simp
section
variable {X:Cx}{a b c:Expr}{ta tb tc:TE}{pos:Pos}
theorem fin_bl {pins:Lo}{σ:St}{H:Hp}{s:Shared}{Q:VK}{k k':Bool}(I:Inv X pins σ H s) (q:Q (.bl k) H) (e:k=k'):EP X pins σ Q (.bool k') s:=by
 subst e
 exact⟨.bl k,H,I,rfl,q⟩
theorem op_eq:OpR X (compareOp .Eq) rEq:=by
 intro pins s σ H x y v u Q I rx ry h
 obtain⟨hs,q⟩:=h
 cases x with
 | non=>
  cases rx
  cases y with
  | non=>cases ry;exact PySem.EqNone.eq_none_none (fin_bl I q (by simp))
  | bl j=>cases ry;exact PySem.EqNone.eq_none_bool (fin_bl I q (by simp))
  | int j=>obtain⟨t',rfl⟩:=ry;exact PySem.EqNone.eq_none_int (fin_bl I q (by simp))
  | str j=>obtain⟨t',rfl⟩:=ry;exact PySem.EqNone.eq_none_str (fin_bl I q (by simp))
  | _=>exact absurd (show false=true from hs) Bool.false_ne_true
 | bl i=>
  cases rx
  cases y with
  | non=>cases ry;exact PySem.EqNone.eq_bool_none (fin_bl I q (by simp))
  | bl j=>cases ry;exact eq_bool (fin_bl I q dec_bl)
  | str j=>obtain⟨t',rfl⟩:=ry;exact PySem.EqMixed.eq_bool_str (fin_bl I q (by simp))
  | _=>exact absurd (show false=true from hs) Bool.false_ne_true
 | int i=>
  obtain⟨t,rfl⟩:=rx
  cases y with
  | non=>cases ry;exact PySem.EqNone.eq_int_none (fin_bl I q (by simp))
  | int j=>obtain⟨t',rfl⟩:=ry;exact eq_int (fin_bl I q dec_int)
  | str j=>obtain⟨t',rfl⟩:=ry;exact PySem.EqMixed.eq_int_str (fin_bl I q (by simp))
  | _=>exact absurd (show false=true from hs) Bool.false_ne_true
 | str i=>
  obtain⟨t,rfl⟩:=rx
  cases y with
  | non=>cases ry;exact PySem.EqNone.eq_str_none (fin_bl I q (by simp))
  | bl j=>cases ry;exact PySem.EqMixed.eq_str_bool (fin_bl I q (by simp))
  | int j=>obtain⟨t',rfl⟩:=ry;exact PySem.EqMixed.eq_str_int (fin_bl I q (by simp))
  | str j=>obtain⟨t',rfl⟩:=ry;exact eq_str (fin_bl I q dec_str)
  | _=>exact absurd (show false=true from hs) Bool.false_ne_true
 | byt i=>
  obtain⟨t,rfl⟩:=rx
  cases y with
  | byt j=>obtain⟨t',rfl⟩:=ry;exact PySem.W.eq_bytes (fin_bl I q dec_byt)
  | _=>exact absurd (show false=true from hs) Bool.false_ne_true
 | _=>cases y<;>exact absurd (show false=true from hs) Bool.false_ne_true
theorem op_ne:OpR X (compareOp .NotEq) rNe:=by
 intro pins s σ H x y v u Q I rx ry h
 obtain⟨hs,q⟩:=h
 cases x with
 | non=>
  cases rx
  cases y with
  | non=>cases ry;exact PySem.EqNone.ne_none_none (fin_bl I q (by simp))
  | bl j=>cases ry;exact PySem.EqNone.ne_none_bool (fin_bl I q (by simp))
  | int j=>obtain⟨t',rfl⟩:=ry;exact PySem.EqNone.ne_none_int (fin_bl I q (by simp))
  | str j=>obtain⟨t',rfl⟩:=ry;exact PySem.EqNone.ne_none_str (fin_bl I q (by simp))
  | _=>exact absurd (show false=true from hs) Bool.false_ne_true
 | bl i=>
  cases rx
  cases y with
  | non=>cases ry;exact PySem.EqNone.ne_bool_none (fin_bl I q (by simp))
  | bl j=>cases ry;exact ne_bool (fin_bl I q (congrArg not dec_bl))
  | str j=>obtain⟨t',rfl⟩:=ry;exact PySem.EqMixed.ne_bool_str (fin_bl I q (by simp))
  | _=>exact absurd (show false=true from hs) Bool.false_ne_true
 | int i=>
  obtain⟨t,rfl⟩:=rx
  cases y with
  | non=>cases ry;exact PySem.EqNone.ne_int_none (fin_bl I q (by simp))
  | int j=>obtain⟨t',rfl⟩:=ry;exact ne_int (fin_bl I q (congrArg not dec_int))
  | str j=>obtain⟨t',rfl⟩:=ry;exact PySem.EqMixed.ne_int_str (fin_bl I q (by simp))
  | _=>exact absurd (show false=true from hs) Bool.false_ne_true
 | str i=>
  obtain⟨t,rfl⟩:=rx
  cases y with
  | non=>cases ry;exact PySem.EqNone.ne_str_none (fin_bl I q (by simp))
  | bl j=>cases ry;exact PySem.EqMixed.ne_str_bool (fin_bl I q (by simp))
  | int j=>obtain⟨t',rfl⟩:=ry;exact PySem.EqMixed.ne_str_int (fin_bl I q (by simp))
  | str j=>obtain⟨t',rfl⟩:=ry;exact ne_str (fin_bl I q (congrArg not dec_str))
  | _=>exact absurd (show false=true from hs) Bool.false_ne_true
 | byt i=>
  obtain⟨t,rfl⟩:=rx
  cases y with
  | byt j=>obtain⟨t',rfl⟩:=ry;exact PySem.W.ne_bytes (fin_bl I q (congrArg not dec_byt))
  | _=>exact absurd (show false=true from hs) Bool.false_ne_true
 | _=>cases y<;>exact absurd (show false=true from hs) Bool.false_ne_true
theorem op_lt:OpR X (compareOp .Lt) (rI0 fun i j=>.bl (decide (i<j))):=opB0 fun _ _ _ _ _ _ _ q=>lt_int q
theorem op_le:OpR X (compareOp .LtE) (rI0 fun i j=>.bl (decide (i≤j))):=opB0 fun _ _ _ _ _ _ _ q=>le_int q
theorem op_gt:OpR X (compareOp .Gt) (rI0 fun i j=>.bl (decide (j<i))):=opB0 fun _ _ _ _ _ _ _ q=>gt_int q
theorem op_in_str:OpR X (compareOp .In) (fun x y H Q=>∃i j,x=.str i∧y=.str j∧Q (.bl (!(Builtin.Str.occurrences j i 0 j.length 1).isEmpty)) H):=by
 intro pins s σ H x y v u Q I rx ry h
 obtain⟨i,j,rfl,rfl,q⟩:=h
 obtain⟨t,rfl⟩:=rx
 obtain⟨t',rfl⟩:=ry
 exact in_str (fin_bl I q rfl)
theorem op_isN:OpR X (compareOp .Is) (fun x y H Q=>y=.non∧Q (.bl (decide (x=.non))) H):=by
 intro pins s σ H x y v u Q I rx ry h
 obtain⟨rfl,q⟩:=h
 cases ry
 refine is_none_gen (fin_bl I q ?_)
 cases x<;>first
  | (cases rx;rfl)
  | (obtain⟨t,rfl⟩:=rx;rfl)
theorem op_notin_str:OpR X (compareOp .NotIn) (fun x y H Q=>∃i j,x=.str i∧y=.str j∧Q (.bl (!(!(Builtin.Str.occurrences j i 0 j.length 1).isEmpty))) H):=by
 intro pins s σ H x y v u Q I rx ry h
 obtain⟨i,j,rfl,rfl,q⟩:=h
 obtain⟨t,rfl⟩:=rx
 obtain⟨t',rfl⟩:=ry
 exact notIn_str (fin_bl I q rfl)
theorem OpR.or {f:Value→Value→Sem Value}{r r':R2}(h:OpR X f r) (h':OpR X f r'):OpR X f (fun x y H Q=>r x y H Q∨r' x y H Q):=by
 intro pins s σ H x y v u Q I rx ry q
 rcases q with q | q
 ·exact h pins s σ H x y v u Q I rx ry q
 ·exact h' pins s σ H x y v u Q I rx ry q
theorem nomark (b:Expr) {op:CmpOp}(h:op≠.In:=by decide) (h2:op≠.NotIn:=by decide):behindInMarks op b=false:=by
 have e1:(op == CmpOp.In)=false:=by cases op<;>first | rfl | exact absurd rfl h
 have e2:(op == CmpOp.NotIn)=false:=by cases op<;>first | rfl | exact absurd rfl h2
 cases b<;>simp[behindInMarks,e1,e2]
theorem pe_cmpR {op:CmpOp}{r:R2}(ho:OpR X (compareOp op) r) (ha:PE X a ta) (hb:PE X b tb) (hm:behindInMarks op b=false):PE X (.Compare a [op] [b] pos) (tOp r ta tb):=by
 intro pins s σ H Q I h
 exact wpAny_Compare1 (binT ha hb I h fun v u s2 x y H2 I2 rx ry q=>ho pins s2 σ H2 x y v u Q I2 rx ry q) hm
def tTest (t:TE):TT:=fun σ H Q=>t σ H fun x H'=>∃k,x=.bl k∧Q k H'
theorem zz6 {op:CmpOp}{r:R2}(ho:OpR X (compareOp op) r) (ha:PE X a ta) (hb:PE X b tb) (hm:behindInMarks op b=false):PT X (.Compare a [op] [b] pos) (tTest (tOp r ta tb)):=by
 intro pins s σ H Q I h
 refine wpAny_isTrue_Compare1 (thn (ha pins s σ H _ I h) fun v s1 ⟨x,H1,I1,r1,q1⟩=>thn (hb pins s1 σ H1 _ I1 q1) fun u s2 ⟨y,H2,I2,r2,q2⟩=>
  thn (ho pins s2 σ H2 x y v u _ I2 r1 r2 q2) fun c s3 ⟨z,H3,I3,r3,k,e,q3⟩ => ?_) hm
 subst e
 cases r3
 exact wpAny_truthy_bool ⟨H3,I3,q3⟩
def tChain (r r':R2) (ta tb tc:TE):TE:=fun σ H Q=>ta σ H fun x H1=>tb σ H1 fun y H2=>r x y H2 fun z H3=>∃k,z=.bl k∧
 (if k=true then tc σ H3 fun w' H4=>r' y w' H4 Q else Q (.bl false) H3)
theorem pt_chain {op op':CmpOp}{r r':R2}(ho:OpR X (compareOp op) r) (ho':OpR X (compareOp op') r') (ha:PE X a ta) (hb:PE X b tb) (hc:PE X c tc)
  (hm:lastMarks [op,op'] [b,c]=false:=by with_unfolding_all rfl):PT X (.Compare a [op,op'] [b,c] pos) (tTest (tChain r r' ta tb tc)):=by
 intro pins s σ H Q I h
 refine isTrue_chain (thn (ha pins s σ H _ I h) fun v s1 ⟨x,H1,I1,r1,q1⟩=>test_link (thn (hb pins s1 σ H1 _ I1 q1) fun u s2 ⟨y,H2,I2,r2,q2⟩=>
  thn (ho pins s2 σ H2 x y v u _ I2 r1 r2 q2) fun d s3 ⟨z,H3,I3,r3,k,e,q3⟩ => ?_)) hm
 subst e
 cases r3
 refine wpAny_truthy_bool ?_
 cases k with
 | false=>
  obtain⟨k',e',q'⟩:=q3
  cases e'
  exact ite_ff ⟨H3,I3,q'⟩
 | true=>
  refine ite_tt (test_last (thn (hc pins s3 σ H3 _ I3 q3) fun w' s4 ⟨z',H4,I4,r4,q4⟩=>thn (ho' pins s4 σ H4 y z' u w' _ I4 r2 r4 q4) fun d' s5 ⟨z2,H5,I5,r5,k2,e2,q5⟩ => ?_))
  subst e2
  cases r5
  exact wpAny_truthy_bool ⟨H5,I5,q5⟩
theorem line63:(sizeLine:Nat)<2 ^ 63:=by rw[sizeLine_eq];decide
theorem zz15:OpR X (binaryOp .Add) (fun x y H Q=>∃i j,x=.str i∧y=.str j∧i.length+j.length≤sizeLine∧Q (.str (i++j)) H):=by
 intro pins s σ H x y v u Q I rx ry h
 obtain⟨i,j,rfl,rfl,hz,q⟩:=h
 obtain⟨t,rfl⟩:=rx
 obtain⟨t',rfl⟩:=ry
 exact add_str (fun t' tk=>⟨.str (i++j),H,I.tok _,⟨_,rfl⟩,q⟩) hz
theorem vals1 {x:V}{us:List Value}(r:Vals [x] us):∃u,us=[u]∧RelV x u:=by
 cases r with
 | cons r1 r2=>cases r2;exact⟨_,rfl,r1⟩
theorem vals2 {x y:V}{us:List Value}(r:Vals [x,y] us):∃u w',us=[u,w']∧RelV x u∧RelV y w':=by
 cases r with
 | cons r1 r2=>
  cases r2 with
  | cons r3 r4=>cases r4;exact⟨_,_,rfl,r1,r3⟩
theorem call_int1:CallR X (.type "int") (fun xs H Q=>(∃i,xs=[.int i]∧Q (.int i) H)∨∃k,xs=[.bl k]∧Q (.int (if k then 1 else 0)) H):=by
 intro pins s σ H xs us Q I r h
 rcases h with ⟨i,rfl,q⟩ | ⟨k,rfl,q⟩
 ·obtain⟨u,rfl,t,rfl⟩:=vals1 r
  exact call_int_int ⟨.int i,H,I,⟨_,rfl⟩,q⟩
 ·obtain⟨u,rfl,r1⟩:=vals1 r
  cases r1
  exact call_int_bool ⟨.int (if k then 1 else 0),H,I.tok _,⟨_,rfl⟩,q⟩
theorem call_str_int:CallR X (.type "str") (fun xs H Q=>∃i,xs=[.int i]∧i.natAbs.log2<1920∧Q (.str (toString i)) H):=by
 intro pins s σ H xs us Q I r h
 obtain⟨i,rfl,hz,q⟩:=h
 obtain⟨u,rfl,t,rfl⟩:=vals1 r
 exact PySem.P.str_of_int hz ⟨.str _,H,I.tok _,⟨_,rfl⟩,q⟩
def LenV (K:Wf) (x:V) (H:Hp) (n:Nat):Prop:=
 match x with
 | .str y=>y.length≤sizeLine∧n=y.length
 | .byt y=>y.size≤sizeLine∧n=y.size
 | .ref p=>(∃xs,SqL K H p xs∧n=xs.length)∨∃xs,SqT K H p xs∧n=xs.length
 | _=>False
theorem call_len:CallR X (.builtin "len") (fun xs H Q=>∃x n,xs=[x]∧LenV X.K x H n∧Q (.int n) H):=by
 intro pins s σ H xs us Q I r h
 obtain⟨x,n,rfl,e,q⟩:=h
 obtain⟨u,rfl,rx⟩:=vals1 r
 have hl:=line63
 have hs:sizeLine=16777216:=sizeLine_eq
 cases x with
 | str y=>
  obtain⟨t,rfl⟩:=rx
  obtain⟨hy,e'⟩:y.length≤sizeLine∧n=y.length:=e
  subst e'
  exact len_str (by omega) ⟨.int _,H,I.tok _,⟨_,rfl⟩,q⟩
 | byt y=>
  obtain⟨t,rfl⟩:=rx
  obtain⟨hy,e'⟩:y.size≤sizeLine∧n=y.size:=e
  subst e'
  exact PySem.W.len_bytes (by omega) ⟨.int _,H,I.tok _,⟨_,rfl⟩,q⟩
 | ref p=>
  cases rx
  have e':(∃xs,SqL X.K H p xs∧n=xs.length)∨∃xs,SqT X.K H p xs∧n=xs.length:=e
  rcases e' with ⟨xs,hx,e'⟩ | ⟨xs,hx,e'⟩
  ·subst e'
   obtain⟨its,r',pl,hz⟩:=I.list hx
   have hlen:=r'.length
   exact Calls.call_len_list pl.isList (by simp only[List.size_toArray];omega) ⟨.int xs.length,H,I.tok _,⟨_,by simp only[List.size_toArray];rw[hlen]⟩,q⟩
  ·subst e'
   obtain⟨its,r',pl,hz⟩:=I.tuple hx
   have hlen:=r'.length
   exact len_tuple pl (by simp only[List.size_toArray];omega) ⟨.int xs.length,H,I.tok _,⟨_,by simp only[List.size_toArray];rw[hlen]⟩,q⟩
 | _=>exact (show False from e).elim
end
end L2
namespace L2
open PySem PySem.Spec PyProof.Rows
set_option genInjectivity false in
structure ObjM (h:Heap) (x dx C:Addr) (mA:So):Prop where
 obj:h.get? x=some (PySem.W.instObj C dx)
 ns:h.Ns1 dx mA
 ne:dx≠x
theorem lookIn_ns {h:Heap}{dx:Addr}{mA:So}(n:h.Ns1 dx mA):∃od,h.get? dx=some od∧∀name,PySem.W.lookIn name od=some (mA name):=by
 obtain⟨o,es,ep,ho,hd,hk,_,hm⟩:=n
 refine⟨o,ho,fun name => ?_⟩
 have e:=hm name
 unfold nsFind findBy at e
 rw[←Array.find?_toList]at e
 unfold PySem.W.lookIn
 rw[hd]
 dsimp only
 split
 ·rename_i y q
  rw[q]at e
  exact congrArg some e
 ·rename_i q
  rw[q]at e
  have a:es.toList.any (·.refKey)=false:=by
   rw[List.any_eq_false]
   intro y hy
   obtain⟨z,t,hkey⟩:=hk y (Array.mem_toList_iff.mp hy)
   simp[DictEntry.refKey,hkey]
  have a':¬es.toList.any (·.refKey)=true:=by rw[a];exact Bool.false_ne_true
  rw[if_neg a']
  exact congrArg some e
theorem ObjM.look {h:Heap}{x dx C:Addr}{mA:So}(I:ObjM h x dx C mA):∃od,PySem.W.InstAt h x (PySem.W.instObj C dx) C (some od)∧∀name,PySem.W.lookIn name od=some (mA name):=
 let ⟨od,ho,hl⟩:=lookIn_ns I.ns
 ⟨od,⟨I.obj,rfl,rfl,ho⟩,hl⟩
section
variable {prog:Program}{w:World}{A:Around}{E:Vs}{s:Shared}{K:Wf}{x dx C f:Addr}{mA:So}{name:Str}{v:Value}
theorem get_map {expr:Bool}{Q:Vs}(X:K.In s.heap) (I:ObjM s.heap x dx C mA) (hg:PySem.W.plainGet K C name=true) (hh:PySem.W.hasDictIn K C=true)
  (ha:PySem.W.findIn K (.ref C) name=some none) (hv:mA name=some v) (hv':PySem.W.handedIn v=true) (h:Q v { s with toks:=s.toks+1 }):
  wpAny (model prog w) A (getAttr (.ref x) name expr) Q E s:=by
 obtain⟨od,J,hl⟩:=I.look
 exact PySem.W.get_value X J (PySem.W.plainGet_of hg).1 (PySem.W.findObj_own hh ha rfl (by rw[hl,hv])) hv' h
theorem get_meth {pl:Sem Bool}{Q:Value×List Value→Shared→Prop}(X:K.In s.heap) (I:ObjM s.heap x dx C mA) (hg:PySem.W.plainGet K C name=true)
  (hf:PySem.W.findIn K (.ref C) name=some (some (.ref f))) (ht:PySem.W.isFn K (.ref f)=true) (hv:mA name=none) (h:Q (.ref f,[.ref x]) s):
  wpAny (model prog w) A (getMethod (.ref x) name pl) Q E s:=by
 obtain⟨od,J,hl⟩:=I.look
 exact PySem.W.method_fn X J (PySem.W.plainGet_of hg).1 (PySem.W.plainGet_of hg).2 hf (beq_iff_eq.mp ht) (by show (PySem.W.lookIn name od).map (·.isSome)=some false;rw[hl,hv];rfl) h
theorem set_map {ns:List Str}{Q:Unit→Shared→Prop}(X:K.In s.heap) (I:ObjM s.heap x dx C mA)
  (hs:PySem.W.findIn K (.ref C) "__setattr__" = some (some (.builtin "object.__setattr__"))) (hp:PySem.W.plainOver K C=true) (ht:PySem.W.takerIn K C name=some none) (hh:PySem.W.hasDictIn K C=true)
  (hw:PySem.Within mA ns) (hsz:ns.length≤sizeLine)
  (h:∀h',ObjM h' x dx C (fun y=>if y=name then some v else mA y)→Heap.SameBut dx s.heap h'→Q () { s with heap:=h',toks:=s.toks+2 }):
  wpAny (model prog w) A (setAttr (.ref x) name v) Q E s:=by
 obtain⟨od,J,hl⟩:=I.look
 refine PySem.W.set_plain X J hs (PySem.W.osa_open (s:={ s with toks:=s.toks+1 }) (r:=none) X J hp ht fun b => ?_)
 obtain⟨cd,hc,hd'⟩:=PySem.W.any_some hh
 have hx:s.heap.get? x=some ⟨.ref C,some dx,.plain,#[]⟩:=I.obj
 refine wpAny_bind (wpAny_pure (wpAny_bind (wpAny_bind (wpAny_loadPart hx (wpAny_bind (PySem.W.Looks.here (s:={ s with toks:=s.toks+1 }) (PySem.W.looks_clsIn X hc) ?_))))))
 rw[hd']
 refine wpAny_pure (a:=some dx) (wpAny_bind (wpAny_pure (wpAny_bind ?_)))
 refine wpAny_nsSet1 (s:={ s with toks:=s.toks+1 }) I.ns fun h' hn2 hs2 => ?_
 obtain⟨oD,esD,epD,hoD,hdD,hcD⟩:=hn2.count (PySem.Within.cons name v hw)
 refine wpAny_bind (wpAny_lookBehind hoD (by rw[hdD];exact pastItsLine_dict (Nat.le_trans hcD (by rw[List.length_cons];omega))) ?_)
 exact wpAny_pure (h _ ⟨(hs2.2 _ (Ne.symm I.ne)).trans I.obj,hn2,I.ne⟩ hs2)
theorem make_map {R:Result→Shared→Prop}{vs:List Value}{kw:List (Str×Value)}(X:K.In s.heap) (hm:PySem.W.makesIn K C=true)
  (hi:PySem.W.findIn K (.ref C) "__init__" = some (some (.ref f))) (hf:PySem.W.typeIn K (.ref f)=some (.type "function"))
  (h:codeAny (model prog w) (A.under (.builtin "type.__call__" ⟨.ref C::vs,kw⟩)) (.call (.ref f) ⟨.ref (s.heap.objs.size+1)::vs,kw⟩) (PySem.W.InitBack (s.heap.objs.size+1) R)
   { s with heap:=(s.heap.push PySem.W.emptyDict).push (PySem.W.instObj C s.heap.objs.size) }):
  codeAny (model prog w) A (.call (.ref C) ⟨vs,kw⟩) R s:=by
 obtain⟨hh,g,d,t,os⟩:=s
 exact PySem.W.make_core (PySem.W.makes_of X hm) (PySem.W.looks_findIn X hi) (fun self=>PySem.W.bind_fn X self hf) (.inl rfl) h
end
noncomputable def putF (f:Str) (v:V):List (Str×V)→List (Str×V)
 | []=>[(f,v)]
 | (g,x)::r=>if g=f then (g,v)::r else (g,x)::putF f v r
theorem lookup_putF (f g:Str) (v:V):∀fs:List (Str×V),(putF f v fs).lookup g=if g=f then some v else fs.lookup g
 | []=>by
  show List.lookup g [(f,v)]=_
  by_cases h:g=f
  ·have hb:(g == f)=true:=beq_iff_eq.mpr h
   simp only[List.lookup,hb,if_pos h]
  ·have hb:(g == f)=false:=beq_eq_false_iff_ne.mpr h
   simp only[List.lookup,hb,if_neg h]
 | (k,x)::r=>by
  have ih:=lookup_putF f g v r
  rw[show putF f v ((k,x)::r)=(if k=f then (k,v)::r else (k,x)::putF f v r) from rfl]
  by_cases hk:k=f
  ·rw[if_pos hk]
   by_cases h:g=k
   ·have hb:(g == k)=true:=beq_iff_eq.mpr h
    simp only[List.lookup,hb,if_pos (h.trans hk)]
   ·have hb:(g == k)=false:=beq_eq_false_iff_ne.mpr h
    simp only[List.lookup,hb,if_neg (fun e:g=f=>h (e.trans hk.symm))]
  ·rw[if_neg hk]
   by_cases h:g=k
   ·have hb:(g == k)=true:=beq_iff_eq.mpr h
    simp only[List.lookup,hb,if_neg (fun e:g=f=>hk (h.symm.trans e))]
   ·have hb:(g == k)=false:=beq_eq_false_iff_ne.mpr h
    simp only[List.lookup,hb]
    exact ih
theorem keys_putF (f:Str) (v:V):∀fs:List (Str×V),f∈(putF f v fs).map (·.1)∧∀g,g∈fs.map (·.1)→g∈(putF f v fs).map (·.1)
 | []=>⟨by simp[putF],fun g h=>by simp at h⟩
 | (k,x)::r=>by
  obtain⟨i1,i2⟩:=keys_putF f v r
  rw[show putF f v ((k,x)::r)=(if k=f then (k,v)::r else (k,x)::putF f v r) from rfl]
  by_cases hk:k=f
  ·rw[if_pos hk]
   subst hk
   exact⟨by simp,fun g h=>by simpa using h⟩
  ·rw[if_neg hk]
   refine⟨?_,fun g h => ?_⟩
   ·rw[List.map_cons]
    exact List.mem_cons_of_mem _ i1
   ·rw[List.map_cons]at h ⊢
    rcases List.mem_cons.mp h with e | e
    ·exact List.mem_cons.mpr (.inl e)
    ·exact List.mem_cons_of_mem _ (i2 g e)
theorem length_putF (f:Str) (v:V):∀fs:List (Str×V),(putF f v fs).length≤fs.length+1
 | []=>by simp[putF]
 | (k,x)::r=>by
  have ih:=length_putF f v r
  rw[show putF f v ((k,x)::r)=(if k=f then (k,v)::r else (k,x)::putF f v r) from rfl]
  by_cases hk:k=f
  ·rw[if_pos hk,List.length_cons,List.length_cons];omega
  ·rw[if_neg hk,List.length_cons,List.length_cons];omega
theorem RelO.some_of {v:V}{o:Option Value}(r:RelO (some v) o):∃u,o=some u∧RelV v u:=by
 cases o with
 | none=>exact (show False from r).elim
 | some u=>exact⟨u,rfl,r⟩
theorem RelO.none_of {o:Option Value}(r:RelO none o):o=none:=by
 cases o with
 | none=>rfl
 | some u=>exact (show False from r).elim
theorem handed_of {v:V}{u:Value}(r:RelV v u):PySem.W.handedIn u=true:=by
 cases v with
 | non=>cases (show u=Value.none from r);rfl
 | bl b=>cases (show u=Value.bool b from r);rfl
 | int i=>obtain⟨t,e⟩:=(show ∃t,u=Value.int i t from r);cases e;rfl
 | str x=>obtain⟨t,e⟩:=(show ∃t,u=Value.str x t from r);cases e;rfl
 | byt b=>obtain⟨t,e⟩:=(show ∃t,u=Value.bytes b t from r);cases e;rfl
 | flt b=>obtain⟨t,e⟩:=(show ∃t,u=Value.float b t from r);cases e;rfl
 | ref a=>cases (show u=Value.ref a from r);rfl
 | ty n=>cases (show u=Value.type n from r);rfl
section
variable {P:Program}{w:World}{H H':Hp}{h h':Heap}{a C dx:Addr}{fs fs':List (Str×V)}
theorem ins_get (hok:HOk P w H h) (e:H a=some (.ins C dx fs)):∃mA,ObjM h a dx C mA∧(∀f,RelO (fs.lookup f) (mA f))∧PySem.Within mA (fs.map (·.1))∧fs.length≤1000∧H dx=some (.own a):=by
 obtain⟨d,z,ne,ob,mA,n,r,q⟩:=(show ObjOk P w H h a (.ins C dx fs) from hok a _ e)
 exact⟨mA,⟨ob,n,ne⟩,r,q,z,d⟩
end
set_option genInjectivity false in
structure Cls (K:Wf) (C:Addr):Prop where
 pg:PySem.W.plainGet K C Str.empty=true
 hd:PySem.W.hasDictIn K C=true
 po:PySem.W.plainOver K C=true
 sa:PySem.W.findIn K (.ref C) "__setattr__" = some (some (.builtin "object.__setattr__"))
theorem Cls.get {K:Wf}{C:Addr}(c:Cls K C) (f:Str):PySem.W.plainGet K C f=true:=c.pg
def NoAttr (K:Wf) (C:Addr) (f:Str):Prop:=PySem.W.findIn K (.ref C) f=some none
theorem NoAttr.taker {K:Wf}{C:Addr}{f:Str}(n:NoAttr K C f):PySem.W.takerIn K C f=some none:=by
 unfold PySem.W.takerIn
 rw[show PySem.W.findIn K (.ref C) f=some none from n]
 rfl
set_option genInjectivity false in
structure Meth (K:Wf) (C:Addr) (m:Str) (f:Addr):Prop where
 at_:PySem.W.findIn K (.ref C) m=some (some (.ref f))
 fn:PySem.W.isFn K (.ref f)=true
 kp:PySem.W.keepIn K (.ref f)=true
section
variable {X:Cx}{pins:Lo}{σ:St}{H:Hp}{s:Shared}{a C dx:Addr}{fs:List (Str×V)}{f:Str}{v:V}{A:Around}{E:Vs}
theorem getattr_ok {b:Bool}{Q:Vs}(I:Inv X pins σ H s) (e:H a=some (.ins C dx fs)) (c:Cls X.K C) (n:NoAttr X.K C f) (l:fs.lookup f=some v)
  (h:∀u s',Inv X pins σ H s'→RelV v u→Q u s'):wpAny (model X.prog X.w) A (getAttr (.ref a) f b) Q E s:=by
 obtain⟨mA,O,r,_,_,_⟩:=ins_get I.hok e
 obtain⟨u,hu,ru⟩:=RelO.some_of (v:=v) (o:=mA f) (by rw[←l];exact r f)
 exact get_map I.kIn O (c.get f) c.hd n hu (handed_of ru) (h u _ (I.tok _) ru)
theorem getmeth_ok {m:Str}{g:Addr}{pl:Sem Bool}{Q:Value×List Value→Shared→Prop}(I:Inv X pins σ H s) (e:H a=some (.ins C dx fs)) (c:Cls X.K C) (k:Meth X.K C m g) (l:fs.lookup m=none)
  (h:Q (.ref g,[.ref a]) s):wpAny (model X.prog X.w) A (getMethod (.ref a) m pl) Q E s:=by
 obtain⟨mA,O,r,_,_,_⟩:=ins_get I.hok e
 have hn:mA m=none:=RelO.none_of (by rw[←l];exact r m)
 exact get_meth I.kIn O (c.get m) k.at_ k.fn hn h
theorem setattr_ok {y:V}{u:Value}{Q:Unit→Shared→Prop}(I:Inv X pins σ H s) (e:H a=some (.ins C dx fs)) (c:Cls X.K C) (n:NoAttr X.K C f) (hl:fs.length<1000) (ry:RelV y u)
  (h:∀s',Inv X pins σ (upd H a (.ins C dx (putF f y fs))) s'→Q () s'):wpAny (model X.prog X.w) A (setAttr (.ref a) f u) Q E s:=by
 obtain⟨mA,O,r,wi,_,ho⟩:=ins_get I.hok e
 have hz:(fs.map (·.1)).length≤sizeLine:=by rw[List.length_map,sizeLine_eq];omega
 refine set_map I.kIn O c.sa c.po n.taker c.hd wi hz fun h' O' sb=>h _ ?_
 have hd:∃o,h'.get? dx=some o:=let ⟨o,_,_,e',_⟩:=O'.ns;⟨o,e'⟩
 refine I.write (x:=a) (e:=dx) (by rw[e];exact True.intro) (.inr ho) (fun b q hb z=>(sb.2 b hb).trans z) hd ?_
 refine⟨by rw[upd_ne O.ne];exact ho,?_,O.ne,O'.obj,_,O'.ns,fun g => ?_,fun g hg => ?_⟩
 ·have:=length_putF f y fs;omega
 ·show RelO ((putF f y fs).lookup g) (if g=f then some u else mA g)
  rw[lookup_putF]
  by_cases q:g=f
  ·rw[if_pos q,if_pos q];exact ry
  ·rw[if_neg q,if_neg q];exact r g
 ·by_cases q:g=f
  ·rw[q];exact (keys_putF f y fs).1
  ·refine (keys_putF f y fs).2 g (wi g fun z=>hg ?_)
   show (if g=f then some u else mA g)=none
   rw[if_neg q];exact z
theorem Inv.made (I:Inv X pins σ H s):Inv X pins σ (upd (upd H s.heap.objs.size (.own (s.heap.objs.size+1))) (s.heap.objs.size+1) (.ins C s.heap.objs.size []))
  { s with heap:=(s.heap.push PySem.W.emptyDict).push (PySem.W.instObj C s.heap.objs.size) }:=by
 have e1:(s.heap.push PySem.W.emptyDict).get? s.heap.objs.size=some PySem.W.emptyDict:=Heap.get?_push_size s.heap rfl
 have e2:((s.heap.push PySem.W.emptyDict).push (PySem.W.instObj C s.heap.objs.size)).get? (s.heap.objs.size+1)=some (PySem.W.instObj C s.heap.objs.size):=by
  have:=Heap.get?_push_size (s.heap.push PySem.W.emptyDict) (o:=PySem.W.instObj C s.heap.objs.size) rfl
  rwa [Heap.size_push]at this
 have e3:(s.heap.push PySem.W.emptyDict).Ns s.heap.objs.size (fun _=>none):=⟨PySem.W.emptyDict,#[],_,e1,rfl,(fun e he=>absurd he (by simp)),fun _=>rfl⟩
 have I1:=I.laid (a:=s.heap.objs.size) (o:=.own (s.heap.objs.size+1)) (h':=s.heap.push PySem.W.emptyDict) (t':=s.toks) (fun b u q=>Heap.get?_push_of_some _ q) (Nat.le_refl _) ⟨_,e1⟩
 refine I1.laid (a:=s.heap.objs.size+1) (o:=.ins C s.heap.objs.size []) (t':=s.toks) (fun b u q=>Heap.get?_push_of_some _ q) (Nat.le_of_eq (Heap.size_push _ _)) ?_
 have ne:s.heap.objs.size≠s.heap.objs.size+1:=Nat.ne_of_lt (Nat.lt_succ_self _)
 refine⟨by rw[upd_ne ne,zz1],Nat.zero_le _,ne,e2,fun _=>none,(Heap.Ns1.of_empty e3).at fun o q=>Heap.get?_push_of_some _ q,fun _=>True.intro,fun y hy=>absurd rfl hy⟩
theorem attr_of {prog:Program}{w:World}{env:Env}{e:Expr}{f:Str}{pos:Pos}{s:Shared}{Q:Vs}(hb:attributeBase e f env (eval e env)=eval e env)
  (h:wpAny (model prog w) A (eval e env) (fun o s₁=>wpAny (model prog w) A (getAttr o f true) Q E s₁) E s):wpAny (model prog w) A (eval (.Attribute e f pos) env) Q E s:=
 Attribute_any_ h (by rw[arm_eval_Attribute,hb])
end
def tFld (K:Wf) (ta:TE) (f:Str):TE:=fun σ H Q=>ta σ H fun x H1=>∃a C dx fs v,x=.ref a∧H1 a=some (.ins C dx fs)∧Cls K C∧NoAttr K C f∧fs.lookup f=some v∧Q v H1
def sFld (K:Wf) (ta tv:TE) (f:Str):TS:=fun D σ H=>tv σ H fun y H1=>ta σ H1 fun x H2=>∃a C dx fs,x=.ref a∧H2 a=some (.ins C dx fs)∧Cls K C∧NoAttr K C f∧fs.length<1000∧
 D.nx σ (upd H2 a (.ins C dx (putF f y fs)))
def sFldAug (K:Wf) (ta tv:TE) (rd:V→V→Hp→VK→Prop) (f:Str):TS:=fun D σ H=>ta σ H fun x H1=>∃a C dx fs v,x=.ref a∧H1 a=some (.ins C dx fs)∧Cls K C∧NoAttr K C f∧fs.lookup f=some v∧
 tv σ H1 fun y H2=>rd v y H2 fun z H3=>∃dx' fs',H3 a=some (.ins C dx' fs')∧fs'.length<1000∧D.nx σ (upd H3 a (.ins C dx' (putF f z fs')))
section
variable {X:Cx}{o e value:Expr}{f:Str}{pos pos' tpos:Pos}{ta tv:TE}
theorem pe_fld (he:PE X e ta) (hb:attributeBase e f X.env (eval e X.env)=eval e X.env):PE X (.Attribute e f pos) (tFld X.K ta f):=by
 intro pins s σ H Q I h
 refine attr_of hb (thn (he pins s σ H _ I h) fun u s1 ⟨x,H1,I1,rx,a,C,dx,fs,v,ex,ea,c,n,l,q⟩ => ?_)
 subst ex
 obtain rfl:u=Value.ref a:=rx
 exact getattr_ok I1 ea c n l fun u' s2 I2 ru=>⟨v,H1,I2,ru,q⟩
theorem ps_fld (ha:PE X o ta) (hv:PE X value tv) (hs:swapsWith value (some (.Attribute o f pos')) pos.line X.env=pure false):PS X (.Assign [.Attribute o f pos'] value pos) (sFld X.K ta tv f):=by
 intro pins s σ H D I h
 refine plainObj_wpAny_Assign_Attribute (thn (hv pins s σ H _ I h) fun u s1 ⟨y,H1,I1,ry,q⟩=>thn (ha pins s1 σ H1 _ I1 q) fun ov s2 ⟨x,H2,I2,rx,a,C,dx,fs,ex,ea,c,n,l,q2⟩ => ?_) hs
 subst ex
 obtain rfl:ov=Value.ref a:=rx
 exact setattr_ok I2 ea c n l ry fun s3 I3=>⟨σ,_,I3,q2⟩
end
section
variable {X:Cx}{pins:Lo}{σ:St}{H:Hp}{s:Shared}{A:Around}{E:Vs}{Q:Vs}{c:Value}{b:Bool}
inductive TyOf (K:Wf) (H:Hp):V→Value→Prop where
 | non:TyOf K H .non (.type "NoneType")
 | bl (x:Bool):TyOf K H (.bl x) (.type "bool")
 | int (i:Int):TyOf K H (.int i) (.type "int")
 | str (x:Str):TyOf K H (.str x) (.type "str")
 | flt (x:UInt64):TyOf K H (.flt x) (.type "float")
 | lst {a:Addr}{xs:List V}(e:H a=some (.lst xs)):TyOf K H (.ref a) (.type "list")
 | frz {a:Addr}{o:Obj}{xs:List V}(e:H a=some (.frz o (.lst xs))):TyOf K H (.ref a) (.type "list")
 | tup {a:Addr}{xs:List V}(e:H a=some (.tup xs)):TyOf K H (.ref a) (.type "tuple")
 | dK {a:Addr}{kvs:List (Key×V)}(e:H a=some (.dK kvs)):TyOf K H (.ref a) (.type "dict")
 | dT {a:Addr}{kvs:List (List Key×V)}(e:H a=some (.dT kvs)):TyOf K H (.ref a) (.type "dict")
 | ins {a C dx:Addr}{fs:List (Str×V)}(e:H a=some (.ins C dx fs)) (cl:Cls K C) (ha:PySem.W.findIn K (.ref C) "__class__" = some (some (.builtin "object.__class__")))
   (hn:PySem.W.specialIn K (.builtin "object.__class__") "__get__" = some (some (.builtin "getset_descriptor.__get__"))) (htk:PySem.W.takesIn K (.builtin "object.__class__")=some true)
   (hm:PySem.W.mroIn K C (.type "object")=some true):TyOf K H (.ref a) (.ref C)
theorem isinst_ok {x:V}{u t:Value}(I:Inv X pins σ H s) (rx:RelV x u) (ty:TyOf X.K H x t) (e:PySem.W.kitOne X.K t c=some b) (h:∀tk,Q (.bool b) { s with toks:=tk }):
  wpAny (model X.prog X.w) A (call (.builtin "isinstance") [u,c]) Q E s:=by
 cases ty with
 | non=>cases (show u=Value.none from rx);exact PySem.W.kia_one PySem.W.kitx_none I.kIn True.intro e (fun z=>nomatch z) h
 | bl y=>cases (show u=Value.bool y from rx);exact PySem.W.kia_one PySem.W.kitx_bool I.kIn True.intro e (fun z=>nomatch z) h
 | int i=>obtain⟨t,q⟩:=(show ∃t,u=Value.int i t from rx);cases q;exact PySem.W.kia_one PySem.W.kitx_int I.kIn True.intro e (fun z=>nomatch z) h
 | str y=>obtain⟨t,q⟩:=(show ∃t,u=Value.str y t from rx);cases q;exact PySem.W.kia_one PySem.W.kitx_str I.kIn True.intro e (fun z=>nomatch z) h
 | flt y=>obtain⟨t,q⟩:=(show ∃t,u=Value.float y t from rx);cases q;exact PySem.W.kia_one PySem.W.kitx_float I.kIn True.intro e (fun z=>nomatch z) h
 | @lst a xs ea=>
  cases (show u=Value.ref a from rx)
  obtain⟨_,_,n,_,h1⟩:=(show ObjOk X.prog X.w H s.heap a (.lst xs) from I.hok a _ ea)
  exact PySem.W.kia_one PySem.W.kitx_list I.kIn ⟨_,h1,rfl⟩ e (fun z=>nomatch z) h
 | @frz a ob xs ea=>
  cases (show u=Value.ref a from rx)
  obtain⟨_,_,_,n,_,h1⟩:=(show ObjOk X.prog X.w H s.heap a (.frz ob (.lst xs)) from I.hok a _ ea)
  exact PySem.W.kia_one PySem.W.kitx_list I.kIn ⟨_,h1,rfl⟩ e (fun z=>nomatch z) h
 | @tup a xs ea=>
  cases (show u=Value.ref a from rx)
  obtain⟨_,_,_,p⟩:=(show ObjOk X.prog X.w H s.heap a (.tup xs) from I.hok a _ ea)
  obtain⟨o,h1,h2,_⟩:=p
  exact PySem.W.kia_one PySem.W.kitx_tuple I.kIn ⟨o,h1,h2⟩ e (fun z=>nomatch z) h
 | @dK a kvs ea=>
  cases (show u=Value.ref a from rx)
  obtain⟨_,_,vs,_,p⟩:=(show ObjOk X.prog X.w H s.heap a (.dK kvs) from I.hok a _ ea)
  obtain⟨o,es,ep,h1,h2,_⟩:=p
  exact PySem.W.kia_one PySem.W.kitx_dict I.kIn ⟨o,h1,h2.1⟩ e (fun z=>nomatch z) h
 | @dT a kvs ea=>
  cases (show u=Value.ref a from rx)
  obtain⟨_,_,xs,_,o,es,ep,h1,h2,_⟩:=(show ObjOk X.prog X.w H s.heap a (.dT kvs) from I.hok a _ ea)
  exact PySem.W.kia_one PySem.W.kitx_dict I.kIn ⟨o,h1,h2.1⟩ e (fun z=>nomatch z) h
 | @ins a C dx fs ea cl ha hn htk hm=>
  cases (show u=Value.ref a from rx)
  obtain⟨mA,O,_⟩:=ins_get I.hok ea
  obtain⟨od,J,_⟩:=O.look
  exact PySem.W.kia_one (PySem.W.kitx_own (cl.get _) cl.hd ha hn htk hm) I.kIn J e (fun z=>nomatch z) h
end
end L2
namespace L2
open PySem PySem.Spec PyProof.Rows
set_option genInjectivity false in
structure Room (k:Nat) (A:Around):Prop where
 hd:A.handled=none
 dp:A.depth+3 * k+5<recursionLimit
 un:A.units+16 * k+200<cLine
theorem Room.mono {j k:Nat}{A:Around}(r:Room k A) (h:j≤k):Room j A:=⟨r.hd,by have:=r.dp;omega,by have:=r.un;omega⟩
theorem Room.deeper {k:Nat}{A:Around}(r:Room (k+1) A) (env:Env):Room k (A.deeper env):=
 ⟨r.hd,by have:=r.dp;show A.depth+1+3 * k+5<_;omega,by have:=r.un;show A.units+3+16 * k+200<_;omega⟩
theorem make_depth {A:Around}{C:Addr}{us:List Value}{kw:List (Str×Value)}:(A.under (.builtin "type.__call__" ⟨.ref C::us,kw⟩)).depth=A.depth+1:=by
 first | rfl | simp[Around.under,Code.weight,Code.isCreation,Code.isGuard,Code.isCaller,Code.frames,Code.isFrame,guardIds]
theorem make_units {A:Around}{C:Addr}{us:List Value}{kw:List (Str×Value)}:(A.under (.builtin "type.__call__" ⟨.ref C::us,kw⟩)).units=A.units+1:=by
 first | rfl | simp[Around.under,Code.cUnits,Code.frames,Code.isFrame]
theorem Room.make {k:Nat}{A:Around}(r:Room (k+1) A) (C:Addr) (us:List Value) (kw:List (Str×Value)):Room k (A.under (.builtin "type.__call__" ⟨.ref C::us,kw⟩)):=
 ⟨r.hd,by have:=r.dp;rw[make_depth];omega,by have:=r.un;rw[make_units];omega⟩
theorem Room.depth {k:Nat}{A:Around}(r:Room k A):A.depth<recursionLimit:=by have:=r.dp;omega
theorem Room.units {k:Nat}{A:Around}(r:Room k A):A.units+64<cLine:=by have:=r.un;omega
def tNil:TA:=fun _ H Q=>Q [] H
def tCons (ta:TE) (tr:TA):TA:=fun σ H Q=>ta σ H fun x H1=>tr σ H1 fun xs H2=>Q (x::xs) H2
section
variable {X:Cx}{e:Expr}{es:List Expr}{te:TE}{t:TA}{pos:Pos}
theorem pa_nil:PA X [] tNil:=fun _ _ _ _ H Q I h=>Calls.spliced_nil ⟨[],H,I,.nil,h⟩
theorem zz0 (ha:PE X e te) (hr:PA X es t) (hs:starEach (e::es) X.env=(false,eval e X.env)::starEach es X.env:=by rfl):PA X (e::es) (tCons te t):=by
 intro pos pins s σ H Q I h
 rw[hs]
 show wpAny _ _ (spliced ((false,eval e X.env)::backTo pos (starEach es X.env))) _ _ s
 refine Calls.spliced_cons (thn (ha pins s σ H _ I h) fun u s1 ⟨x,H1,I1,r1,q1⟩ => ?_)
 exact thn (hr pos pins s1 σ H1 _ I1 q1) fun us s2 ⟨xs,H2,I2,r2,q2⟩=>⟨x::xs,H2,I2,.cons r1 r2,q2⟩
def tTup (t:TA):TE:=fun σ H Q=>t σ H fun xs H1=>xs.length≤sizeLine∧∀p,H1 p=none→Q (.ref p) (upd H1 p (.tup xs))
def tLst (t:TA):TE:=fun σ H Q=>t σ H fun xs H1=>xs.length≤sizeLine∧∀p,H1 p=none→Q (.ref p) (upd H1 p (.lst xs))
theorem pe_tup {x1} (h:PA X es t):PE X (.Tuple es x1 pos) (tTup t):=by
 intro pins s σ H Q I hq
 refine wpAny_Tuple_spliced (thn (h pos pins s σ H _ I hq) fun us s1 ⟨xs,H1,I1,r,z,q⟩=>⟨by rw[←r.length];exact z,?_⟩)
 have hf:H1 s1.heap.objs.size=none:=I1.hok.fresh (Nat.le_refl _)
 refine⟨.ref s1.heap.objs.size,upd H1 s1.heap.objs.size (.tup xs),I1.laid (t':=s1.toks) (fun b u e=>Heap.get?_push_of_some _ e) (Nat.le_refl _) ?_,rfl,q _ hf⟩
 exact⟨z,us,r,⟨_,Heap.get?_push_size _ rfl,rfl,_,rfl⟩⟩
theorem pe_lst (h:PA X es t):PE X (.List es pos) (tLst t):=by
 intro pins s σ H Q I hq
 refine wpAny_List_spliced (thn (h pos pins s σ H _ I hq) fun us s1 ⟨xs,H1,I1,r,z,q⟩=>⟨by rw[←r.length];exact z,?_⟩)
 have hf:H1 s1.heap.objs.size=none:=I1.hok.fresh (Nat.le_refl _)
 refine⟨.ref s1.heap.objs.size,upd H1 s1.heap.objs.size (.lst xs),I1.laid (t':=s1.toks) (fun b u e=>Heap.get?_push_of_some _ e) (Nat.le_refl _) ?_,rfl,q _ hf⟩
 exact⟨z,us,0,r,Heap.get?_push_size _ rfl⟩
end
noncomputable abbrev Sp:=List V→Hp→VK→XK→Prop
noncomputable abbrev CXT:=List Env→Hp→Shared→XK→Value→Shared→Prop
set_option genInjectivity false in
structure Env0 (P:Program) (w:World) (K:Wf) (mg:So) (base:Heap) (A:Around) (outer:List Env) (s:Shared) (H:Hp):Prop where
 frames:A.frames=some outer
 mod:Mod K mg base
 bs:∀b o,base.get? b=some o→s.heap.get? b=some o∧H b=none
 bsz:base.objs.size≤s.heap.objs.size
 funs:s.heap.FunFrames base outer
 frf:∀b∈frs outer,H b=none
 hok:HOk P w H s.heap
 bare:AllBare s.gens
def CE (outer:List Env) (P:Program) (w:World) (H:Hp) (s:Shared) (Q:VK) (u:Value) (s':Shared):Prop:=
 ∃v H',s'.os=s.os∧AllBare s'.gens∧Un (frs outer) [] H H' s.heap s'.heap∧HOk P w H' s'.heap∧RelV v u∧Q v H'
def CR (CX:CXT) (outer:List Env) (P:Program) (w:World) (H:Hp) (s:Shared) (Q:VK) (E:XK) (r:Result) (s':Shared):Prop:=
 match r with
 | .ok (.ret u)=>CE outer P w H s Q u s'
 | .ok _=>False
 | .error e=>CX outer H s E e s'
set_option genInjectivity false in
structure FnOk (P:Program) (w:World) (K:Wf) (mg:So) (base:Heap) (CX:CXT) (k:Nat) (f:Addr) (fd:FuncData) (ps:List Str) (sp:Sp):Prop where
 len:∀vs H Q E,sp vs H Q E→vs.length=ps.length
 run:∀(A:Around) (outer:List Env) (s:Shared) (H:Hp) (args:Args) (us:List Value) (vs:List V) (Q:VK) (E:XK),Room k A→Env0 P w K mg base A outer s H→BindsTo s fd args (ps.zip us)→Vals vs us→sp vs H Q E→
  codeAny (model P w) A (.call (.ref f) args) (CR CX outer P w H s Q E) s
theorem Env0.make {P:Program}{w:World}{K:Wf}{mg:So}{base:Heap}{A:Around}{outer:List Env}{s:Shared}{H:Hp}(e:Env0 P w K mg base A outer s H) (C:Addr) (us:List Value) (kw:List (Str×Value)):
  Env0 P w K mg base (A.under (.builtin "type.__call__" ⟨.ref C::us,kw⟩)) outer s H:=⟨by first | exact e.frames | (simpa [Around.under,Code.envs,Code.isFrame,pushEnvs] using e.frames),e.mod,e.bs,e.bsz,e.funs,e.frf,e.hok,e.bare⟩
section
variable {X:Cx}{pins:Lo}{σ:St}{H:Hp}{s s':Shared}
theorem Inv.env0 (I:Inv X pins σ H s):Env0 X.prog X.w X.K X.mg X.base X.A X.stack s H:=
 ⟨I.ok.frames,I.ok.mod,I.bs,Nat.le_trans I.ok.bsz I.sz,I.stack,I.stkFree,I.hok,I.bare⟩
theorem Inv.after {Q:VK}{u:Value}(I:Inv X pins σ H s) (h:CE X.stack X.prog X.w H s Q u s'):EP X pins σ Q u s':=by
 obtain⟨v,H',os,bare,un,hok,r,q⟩:=h
 obtain⟨hh,g,d,t,os'⟩:=s'
 obtain rfl:os'=s.os:=os
 exact⟨v,H',I.call (h':=hh) (g':=g) (d':=d) (t':=t) (ch:=[]) un hok bare (fun b z=>absurd z (by simp)),r,q⟩
end
def tCall (sp:Sp) (dvs:List V) (E:XK) (t:TA):TE:=fun σ H Q=>t σ H fun vs H1=>sp (vs++dvs) H1 Q E
def tMeth (C:Addr) (m:Str) (sp:Sp) (dvs:List V) (E:XK) (ta:TE) (t:TA):TE:=fun σ H Q=>ta σ H fun x H1=>∃a dx fs,x=.ref a∧H1 a=some (.ins C dx fs)∧fs.lookup m=none∧
 t σ H1 fun vs H2=>sp (x::(vs++dvs)) H2 Q E
def tMake (C:Addr) (sp:Sp) (dvs:List V) (E:XK) (t:TA):TE:=fun σ H Q=>t σ H fun vs H1=>∀x dx,H1 x=none→H1 dx=none→dx≠x→
 sp (.ref x::(vs++dvs)) (upd (upd H1 dx (.own x)) x (.ins C dx [])) (fun v H2=>v=.non∧Q (.ref x) H2) E
def Binds (K:Wf) (fd:FuncData) (ps:List Str) (ds:List Value):Prop:=
 ∀(s:Shared) (us:List Value),K.In s.heap→(us++ds).length=ps.length→BindsTo s fd ⟨us,[]⟩ (ps.zip (us++ds))
theorem Binds.all {K:Wf}{fd:FuncData}{ps:List Str}(h:∀us:List Value,us.length=ps.length→bindArgs fd ⟨us,[]⟩=pure (ps.zip us)):Binds K fd ps []:=fun s us _ hl=>by
 rw[List.append_nil]at hl ⊢
 exact .of_eq (h us hl)
def Passes (CX:CXT) (X:Cx) (E:XK):Prop:=∀(pins:Lo) (σ:St) (H:Hp) (s:Shared) (e:Value) (s':Shared),Inv X pins σ H s→CX X.stack H s E e s'→X.xe e s'
section
variable {X:Cx}{CX:CXT}{k:Nat}{f C:Addr}{fd:FuncData}{ps:List Str}{sp:Sp}{dvs:List V}{ds:List Value}{E:XK}{x m:Str}{p pos apos:Pos}{e o:Expr}{es:List Expr}{ta:TE}{t:TA}
theorem run_fn {pins:Lo}{σ:St}{H:Hp}{s:Shared}{Q:VK}{us:List Value}{vs:List V}(F:FnOk X.prog X.w X.K X.mg X.base CX k f fd ps sp) (hr:Room k X.A) (hb:Binds X.K fd ps ds) (hd:Vals dvs ds) (hx:Passes CX X E)
  (I:Inv X pins σ H s) (r:Vals vs us) (h:sp (vs++dvs) H Q E):wpAny (model X.prog X.w) X.A (call (.ref f) us) (EP X pins σ Q) X.xe s:=by
 have r2:Vals (vs++dvs) (us++ds):=r.append hd
 have hl:(us++ds).length=ps.length:=by rw[←r2.length];exact F.len _ _ _ _ h
 refine wpAny_call (codeAny_mono (F.run X.A X.stack s H ⟨us,[]⟩ (us++ds) (vs++dvs) Q E hr I.env0 (hb s us I.kIn hl) r2 h) fun r s' hq => ?_)
 cases r with
 | error e=>exact hx pins σ H s e s' I hq
 | ok fl=>
  cases fl with
  | ret u=>exact I.after hq
  | next=>exact False.elim hq
  | brk=>exact False.elim hq
  | cont=>exact False.elim hq
theorem zz8 (F:FnOk X.prog X.w X.K X.mg X.base CX k f fd ps sp) (hr:Room k X.A) (hg:Gl X x) (hm:X.mg x=some (.ref f)) (hk:PySem.W.keepIn X.K (.ref f)=true) (hb:Binds X.K fd ps ds) (hd:Vals dvs ds) (hx:Passes CX X E)
  (ha:PA X (e::es) t) (hdb:(x == ("__debug__" : Str))=false:=by decide) (he:starEach (e::es) X.env=(false,eval e X.env)::starEach es X.env:=by rfl) (hpl:(backTo pos (starEach es X.env)).any (·.1)=false:=by rfl):
  PE X (.Call (.Name x p) (e::es) [] pos) (tCall sp dvs E t):=by
 intro pins s σ H Q I h
 refine wpAny_Call_Name_kw (ld_glob I hg hm ?_ hdb)
 refine PySem.W.callWith_K (h₀:=X.base) I.ok.mod.kin hk (thn (ha pos pins s σ H _ I h) fun us s1 ⟨vs,H1,I1,r,q⟩=>⟨I1.kIn,?_⟩) he hpl
 exact run_fn F hr hb hd hx I1 r q
theorem pe_meth {pl:Sem Bool}(he:PE X o ta) (c:Cls X.K C) (hm:Meth X.K C m f) (F:FnOk X.prog X.w X.K X.mg X.base CX k f fd ps sp) (hr:Room k X.A) (hb:Binds X.K fd ps ds) (hd:Vals dvs ds) (hx:Passes CX X E) (ha:PA X (e::es) t)
  (hst:starEach (e::es) X.env=(false,eval e X.env)::starEach es X.env:=by rfl) (hpl:(backTo pos (starEach es X.env)).any (·.1)=false:=by rfl)
  (ht:eval (.Call (.Attribute o m apos) (e::es) [] pos) X.env=(do
   let ov ←eval o X.env
   standAt apos.atName
   let (f,first) ←holding [ov] (getMethod ov m pl)
   callWith pos f first (backTo pos (starEach (e::es) X.env)) (backToKw pos (keywordEach [] X.env))):=by rfl):
  PE X (.Call (.Attribute o m apos) (e::es) [] pos) (tMeth C m sp dvs E ta t):=by
 intro pins s σ H Q I h
 refine PySem.W.methodCall_KW (pl:=pl) (thn (he pins s σ H _ I h) fun u s1 ⟨x,H1,I1,rx,a,dx,fs,ex,ea,l,q⟩ => ?_) ht
 subst ex
 obtain rfl:u=Value.ref a:=rx
 refine getmeth_ok I1 ea c hm l ?_
 refine PySem.W.callWith_K (first:=[.ref a]) (h₀:=X.base) I.ok.mod.kin hm.kp (thn (ha pos pins s1 σ H1 _ I1 q) fun us s2 ⟨vs,H2,I2,r,q2⟩=>⟨I2.kIn,?_⟩) hst hpl
 exact run_fn (us:=.ref a::us) (vs:=.ref a::vs) F hr hb hd hx I2 (.cons rfl r) q2
set_option genInjectivity false in
structure Mk (K:Wf) (C f:Addr):Prop where
 makes:PySem.W.makesIn K C=true
 init:PySem.W.findIn K (.ref C) "__init__" = some (some (.ref f))
 fn:PySem.W.isFn K (.ref f)=true
 kp:PySem.W.keepIn K (.ref C)=true
theorem run_make {pins:Lo}{σ:St}{H:Hp}{s:Shared}{Q:VK}{us:List Value}{vs:List V}(M:Mk X.K C f) (F:FnOk X.prog X.w X.K X.mg X.base CX k f fd ps sp) (hr:Room (k+1) X.A) (hb:Binds X.K fd ps ds) (hd:Vals dvs ds)
  (hx:Passes CX X E) (I:Inv X pins σ H s) (r:Vals vs us)
  (h:∀x dx,H x=none→H dx=none→dx≠x→sp (.ref x::(vs++dvs)) (upd (upd H dx (.own x)) x (.ins C dx [])) (fun v H2=>v=.non∧Q (.ref x) H2) E):
  wpAny (model X.prog X.w) X.A (call (.ref C) us) (EP X pins σ Q) X.xe s:=by
 have hq:=h (s.heap.objs.size+1) s.heap.objs.size (I.hok.fresh (Nat.le_succ _)) (I.hok.fresh (Nat.le_refl _)) (Nat.ne_of_lt (Nat.lt_succ_self _))
 have I2:=Inv.made (C:=C) I
 have r2:Vals (V.ref (s.heap.objs.size+1)::(vs++dvs)) (Value.ref (s.heap.objs.size+1)::(us++ds)):=.cons rfl (r.append hd)
 have hl:(Value.ref (s.heap.objs.size+1)::us++ds).length=ps.length:=by
  have e:=r2.length
  rw[F.len _ _ _ _ hq]at e
  exact e.symm
 refine wpAny_call (make_map (f:=f) I.kIn M.makes M.init (beq_iff_eq.mp M.fn) (codeAny_mono (F.run _ X.stack _ _ ⟨Value.ref (s.heap.objs.size+1)::us,[]⟩ (Value.ref (s.heap.objs.size+1)::(us++ds)) _ _ E (hr.make C us [])
  (I2.env0.make C us []) (hb _ (Value.ref (s.heap.objs.size+1)::us) I2.kIn hl) r2 hq) fun r s' hq' => ?_))
 cases r with
 | error e=>exact hx pins σ _ _ e s' I2 hq'
 | ok fl=>
  cases fl with
  | ret u=>
   obtain⟨v,H',I3,rv,ev,q3⟩:=I2.after hq'
   subst ev
   exact⟨rv,⟨V.ref (s.heap.objs.size+1),H',I3,rfl,q3⟩⟩
  | next=>exact False.elim hq'
  | brk=>exact False.elim hq'
  | cont=>exact False.elim hq'
theorem pe_make (M:Mk X.K C f) (F:FnOk X.prog X.w X.K X.mg X.base CX k f fd ps sp) (hr:Room (k+1) X.A) (hg:Gl X x) (hm:X.mg x=some (.ref C)) (hb:Binds X.K fd ps ds) (hd:Vals dvs ds) (hx:Passes CX X E)
  (ha:PA X (e::es) t) (hdb:(x == ("__debug__" : Str))=false:=by decide) (he:starEach (e::es) X.env=(false,eval e X.env)::starEach es X.env:=by rfl) (hpl:(backTo pos (starEach es X.env)).any (·.1)=false:=by rfl):
  PE X (.Call (.Name x p) (e::es) [] pos) (tMake C sp dvs E t):=by
 intro pins s σ H Q I h
 refine wpAny_Call_Name_kw (ld_glob I hg hm ?_ hdb)
 refine PySem.W.callWith_K (h₀:=X.base) I.ok.mod.kin M.kp (thn (ha pos pins s σ H _ I h) fun us s1 ⟨vs,H1,I1,r,q⟩=>⟨I1.kIn,?_⟩) he hpl
 exact run_make M F hr hb hd hx I1 r q
theorem pe_make0 (M:Mk X.K C f) (F:FnOk X.prog X.w X.K X.mg X.base CX k f fd ps sp) (hr:Room (k+1) X.A) (hg:Gl X x) (hm:X.mg x=some (.ref C)) (hb:Binds X.K fd ps ds) (hd:Vals dvs ds) (hx:Passes CX X E)
  (hdb:(x == ("__debug__" : Str))=false:=by decide):PE X (.Call (.Name x p) [] [] pos) (tMake C sp dvs E tNil):=by
 intro pins s σ H Q I h
 refine wpAny_Call_Name_kw (ld_glob I hg hm ?_ hdb)
 exact PySem.W.callWith_K0 I.kIn M.kp (run_make (us:=[]) M F hr hb hd hx I .nil h)
end
section
variable {X:Cx}{CX:CXT}{k:Nat}{f C:Addr}{fd:FuncData}{ps ks:List Str}{sp:Sp}{E:XK}{x m:Str}{p pos apos kpos:Pos}{e o:Expr}{es:List Expr}{kws:List Keyword}{te ta:TE}{t tk:TA}{nm:Option Str}
variable {g:List Value→List Value→List Value}{gV:List V→List V→List V}
end
set_option genInjectivity false in
structure FnScope (N P:List Str) (sc:Scope):Prop where
 kind:sc.kind=.function
 co:sc.isCoroutine=false
 gen:sc.isGenerator=false
 nd:N.Nodup
 pre:N.take P.length=P
 par:∀x∈P,sc.names.lookup x=some .local∨sc.names.lookup x=some .cell
 nofree:∀y∈sc.names,y.2≠.free
theorem bindL_out {kindOf:Str→Option NameKind}{x:Str}:∀{binds:List (Str×Value)}{m:So},(∀v,(x,v)∉binds)→bindL kindOf binds m x=m x
 | [],_,_=>rfl
 | (n,v)::r,m,h=>by
  unfold bindL
  rw[bindL_out fun w hw=>h w (List.mem_cons_of_mem _ hw)]
  split
  ·have:x≠n:=by rintro rfl;exact h v List.mem_cons_self
   simp[this]
  ·rfl
theorem bindC_out {kindOf:Str→Option NameKind}{x:Str}:∀{binds:List (Str×Value)}{m:So},(∀v,(x,v)∉binds)→bindC kindOf binds m x=m x
 | [],_,_=>rfl
 | (n,v)::r,m,h=>by
  unfold bindC
  rw[bindC_out fun w hw=>h w (List.mem_cons_of_mem _ hw)]
  split
  ·rfl
  ·have:x≠n:=by rintro rfl;exact h v List.mem_cons_self
   simp[this]
theorem bindL_get {kindOf:Str→Option NameKind}{x:Str}{v:Value}:∀{P:List Str}{vs:List Value}{i:Nat}{m:So},P.Nodup→P[i]?=some x→vs[i]?=some v→kindOf x=some .local→
  bindL kindOf (P.zip vs) m x=some v
 | [],_,_,_,_,h,_,_=>by simp at h
 | _::_,[],_,_,_,_,h,_=>by simp at h
 | p::P,w::vs,0,m,nd,h1,h2,hk=>by
  simp at h1 h2;subst h1;subst h2
  show bindL kindOf ((p,w)::P.zip vs) m p=_
  unfold bindL
  rw[bindL_out fun v hv=>(List.nodup_cons.mp nd).1 (List.of_mem_zip hv).1,if_pos hk]
  simp
 | p::P,w::vs,i+1,m,nd,h1,h2,hk=>by
  show bindL kindOf ((p,w)::P.zip vs) m x=_
  unfold bindL
  exact bindL_get (i:=i) (List.nodup_cons.mp nd).2 (by simpa using h1) (by simpa using h2) hk
theorem bindC_get {kindOf:Str→Option NameKind}{x:Str}{v:Value}:∀{P:List Str}{vs:List Value}{i:Nat}{m:So},P.Nodup→P[i]?=some x→vs[i]?=some v→kindOf x≠some .local→
  bindC kindOf (P.zip vs) m x=some v
 | [],_,_,_,_,h,_,_=>by simp at h
 | _::_,[],_,_,_,_,h,_=>by simp at h
 | p::P,w::vs,0,m,nd,h1,h2,hk=>by
  simp at h1 h2;subst h1;subst h2
  show bindC kindOf ((p,w)::P.zip vs) m p=_
  unfold bindC
  rw[bindC_out fun v hv=>(List.nodup_cons.mp nd).1 (List.of_mem_zip hv).1,if_neg hk]
  simp
 | p::P,w::vs,i+1,m,nd,h1,h2,hk=>by
  show bindC kindOf ((p,w)::P.zip vs) m x=_
  unfold bindC
  exact bindC_get (i:=i) (List.nodup_cons.mp nd).2 (by simpa using h1) (by simpa using h2) hk
noncomputable def start (N:List Str) (vs:List V):St:=vs.map some++List.replicate (N.length - vs.length) none
noncomputable def cxOf (CX:CXT) (P:Program) (w:World) (K:Wf) (mg:So) (base:Heap) (N:List Str) (qual:Str) (scope:Scope) (f:Addr) (cd:Value) (A:Around) (outer:List Env) (s:Shared) (H:Hp) (E:XK):Cx where
 prog:=P
 w:=w
 K:=K
 mg:=mg
 base:=base
 A:=A.deeper (envOfC qual scope s.heap.objs.size f cd)
 N:=N
 s₀:=s
 H₀:=H
 env:=envOfC qual scope s.heap.objs.size f cd
 outer:=outer
 stack:=envOfC qual scope s.heap.objs.size f cd::outer
 ex:=[]
 calm:=true
 fn:=fun _=>true
 pn:=[]
 xe:=fun e s'=>wpAny (model P w) (A.deeper (envOfC qual scope s.heap.objs.size f cd)) (leaving (envOfC qual scope s.heap.objs.size f cd) e) (fun _ s''=>CX outer H s E e s'') (fun e' s''=>CX outer H s E e' s'') s'
theorem cell_has {sc:Scope}{n:Nat}{x:Str}(h:sc.names.lookup x=some .cell):∃c,(cellsFrom n sc.names []).lookup x=some c:=by
 have q:=PySem.W.cellsFrom_some sc.names n [] (.inl h)
 exact Option.isSome_iff_exists.mp q
theorem inv_start {CX:CXT}{P:Program}{w:World}{K:Wf}{mg:So}{base:Heap}{N ps:List Str}{qual:Str}{scope:Scope}{f:Addr}{cd:Value}{A:Around}{outer:List Env}{s s1:Shared}{H:Hp}{E:XK}{us:List Value}{vs:List V}
  (S:FnScope N ps scope) (hd:A.handled=none) (e0:Env0 P w K mg base A outer s H) (hl:vs.length=ps.length) (r:Vals vs us)
  (x:InCallC s s.heap.objs.size (bindL (envOfC qual scope s.heap.objs.size f cd).kindOf (ps.zip us) fun _=>none) (cellsFrom (s.heap.objs.size+1) scope.names []) (bindC (envOfC qual scope s.heap.objs.size f cd).kindOf (ps.zip us) fun _=>none) s1):
  Inv (cxOf CX P w K mg base N qual scope f cd A outer s H E) [] (start N vs) H s1:=by
 have hpl:ps.length≤N.length:=by have:=congrArg List.length S.pre;rw[List.length_take]at this;omega
 obtain⟨h1,tk,rfl,hk⟩:=x.done
 have noA:∀b:Addr,b∉(cxOf CX P w K mg base N qual scope f cd A outer s H E).ex:=fun b z=>absurd (show b∈([]:List Addr) from z) (by simp)
 refine⟨⟨e0.mod,S.kind,rfl,rfl,Nat.le_refl _,fun y z c h1 h2 => ?_,fun y hy => ?_,fun y c _ h => ?_,fun _=>hd,Around.frames_deeper e0.frames,.inr ⟨rfl,rfl⟩,fun b z=>absurd z (noA b),e0.bs,e0.bsz,fun b _ _=>noA b,fun b z=>absurd z (noA b),e0.funs,e0.frf⟩,
  rfl,e0.bare,Un.kept hk,⟨_,x.toInCall.ns,fun i y v h1 h2 h3 => ?_⟩,fun y c h=>⟨_,x.cell y c h⟩,e0.hok.fresh (Nat.le_refl _),fun y c h => ?_,fun p hp=>absurd (show p∈([]:Lo) from hp) (by simp),e0.hok.kept hk,?_⟩
 ·exact name_of_addr x.apart (PySem.mem_of_lookup h1) (PySem.mem_of_lookup h2)
 ·have hy:scope.names.lookup y=some .cell∨scope.names.lookup y=some .free:=hy
  rcases hy with hy | hy
  ·exact cell_has hy
  ·exact absurd rfl (S.nofree _ (PySem.mem_of_lookup hy))
 ·exact Nat.le_of_lt (x.above y c (PySem.mem_of_lookup h))
 ·have hi:i<vs.length:=by
   unfold start at h2
   by_cases hi:i<vs.length
   ·exact hi
   ·rw[List.getElem?_append_right (by simpa using hi)]at h2
    rw[List.getElem?_replicate]at h2
    split at h2<;>cases h2
  have ha:vs[i]?=some v:=by
   unfold start at h2
   rw[List.getElem?_append_left (by simpa using hi),List.getElem?_map]at h2
   cases e:vs[i]? with
   | none=>rw[e]at h2;cases h2
   | some a=>rw[e]at h2;cases h2;rfl
  obtain⟨u,hu,rv⟩:=r.get ha
  have hp:ps[i]?=some y:=by
   rw[←S.pre,List.getElem?_take_of_lt (by omega)];exact h1
  have ndP:ps.Nodup:=by rw[←S.pre];exact S.nd.sublist (List.take_sublist _ _)
  refine⟨u,rv,?_⟩
  rcases S.par y (List.mem_of_getElem? hp) with k | k
  ·exact .inl ⟨k,bindL_get ndP hp hu k⟩
  ·obtain⟨c,e⟩:=cell_has (n:=s.heap.objs.size+1) k
   refine .inr ⟨.inl k,c,e,?_⟩
   have q:=x.cell y c e
   rw[bindC_get ndP hp hu (by show scope.names.lookup y≠_;rw[k];decide)]at q
   exact q
 ·exact e0.hok.fresh (Nat.le_of_lt (x.above y c (PySem.mem_of_lookup h)))
 ·unfold start
  show _=N.length
  rw[List.length_append,List.length_map,List.length_replicate]
  omega
theorem fn_of {CX:CXT}{P:Program}{w:World}{K:Wf}{mg:So}{base:Heap}{k:Nat}{f:Addr}{name qual:Str}{params:Arguments}{body:List Stmt}{scope:Scope}{dV kV doc pm cdv ct oc:Value}{an od:Option Addr}
  {osl:Array (Option Value)}{N ps:List Str}{sp:Sp}(lk:K.lookup f=some ⟨oc,od,.func (PySem.W.fnOf name qual params body scope dV kV doc pm an cdv ct),osl⟩) (hcd:PySem.W.codeIn K cdv qual=true) (S:FnScope N ps scope)
  (len:∀vs H Q E,sp vs H Q E→vs.length=ps.length)
  (hbody:∀(A:Around) (outer:List Env) (s:Shared) (H:Hp) (vs:List V) (Q:VK) (E:XK),Room k (A.deeper (envOfC qual scope s.heap.objs.size f cdv))→sp vs H Q E→
   ∃t,PSs (cxOf CX P w K mg base N qual scope f cdv A outer s H E) body t∧t { nx:=fun _ H'=>Q .non H',rt:=Q } (start N vs) H):
  FnOk P w K mg base CX (k+1) f (PySem.W.fnOf name qual params body scope dV kV doc pm an cdv ct) ps sp:=by
 refine⟨len,fun A outer s H args us vs Q E hr e0 hb r hsp => ?_⟩
 have hl:=len _ _ _ _ hsp
 have KX:K.In s.heap:=e0.mod.kin.keeps fun b o e=>(e0.bs b o e).1
 have lim:s.heap.NoLimit:=e0.mod.nolimit.keeps fun b o e=>(e0.bs b o e).1
 have hkind:∀y∈ps.zip us,scope.names.lookup y.1=some .local∨(scope.names.lookup y.1=some .cell∧((cellsFrom (s.heap.objs.size+1) scope.names []).lookup y.1).isSome=true):=fun⟨n,v⟩ hy=>by
  rcases S.par n (List.of_mem_zip hy).1 with q | q
  ·exact .inl q
  ·exact .inr ⟨q,PySem.W.cellsFrom_some _ _ _ (.inl q)⟩
 refine codeAny_call_function hr.depth (KX _ _ lk) rfl S.co S.gen rfl (PySem.W.codeRec_of KX hcd) (hb _ _ _ _ ?_)
 refine wpAny_newFunctionEnv_cells S.kind hkind fun env he s1 x => ?_
 subst he
 refine⟨lim.keeps x.toInCall.keep,codeAny_func ?_⟩
 obtain⟨t,ht,hq⟩:=hbody A outer s H vs Q E (hr.deeper _) hsp
 have I:Inv (cxOf CX P w K mg base N qual scope f cdv A outer s H E) [] (start N vs) H s1:=inv_start S hr.hd e0 hl r x
 refine wpAny_mono (ht [] s1 (start N vs) H _ I hq) (fun fl s' hs => ?_) fun e s' hs=>hs
 have fin:∀{σ':St}{H':Hp}{v:V}{u:Value},Inv (cxOf CX P w K mg base N qual scope f cdv A outer s H E) [] σ' H' s'→RelV v u→Q v H'→CE outer P w H s Q u s':=
  fun {σ' H' v u} J rv q=>⟨v,H',J.os,J.bare,J.base,J.hok,rv,q⟩
 cases fl with
 | ret u=>
  obtain⟨v,σ',H',J,rv,q⟩:=hs
  exact fin J rv q
 | next=>
  obtain⟨σ',H',J,q⟩:=hs
  exact fin (v:=V.non) (u:=Value.none) J rfl q
 | brk=>
  obtain⟨_,_,_,q⟩:=hs
  exact False.elim q
 | cont=>
  obtain⟨_,_,_,q⟩:=hs
  exact False.elim q
end L2
namespace L2
open PySem PySem.Spec PyProof.Rows
section
variable {X:Cx}{x:Str}{p pos:Pos}{e:Expr}{es:List Expr}{t:TA}{id T:String}{r:List V→Hp→VK→Prop}
def tCB (r:List V→Hp→VK→Prop) (t:TA):TE:=fun σ H Q=>t σ H fun vs H1=>r vs H1 Q
theorem zz16 (hc:CallR X (.builtin id) r) (hg:Gl X x) (hm:X.mg x=none) (hv:bootBuiltins x=some (.builtin id)) (ha:PA X (e::es) t) (hn:x ≠ "__name__" := by decide) (hdb:(x == ("__debug__" : Str))=false:=by decide)
  (he:starEach (e::es) X.env=(false,eval e X.env)::starEach es X.env:=by rfl) (hpl:(backTo pos (starEach es X.env)).any (·.1)=false:=by rfl):PE X (.Call (.Name x p) (e::es) [] pos) (tCB r t):=by
 intro pins s σ H Q I h
 refine wpAny_Call_Name_kw (ld_blt I hg hm hv ?_ hn hdb)
 exact PyProof.Rows.callWith_builtin1 (thn (ha pos pins s σ H _ I h) fun us s1 ⟨vs,H1,I1,r1,q1⟩=>hc pins s1 σ H1 vs us Q I1 r1 q1) he hpl
theorem pe_callTy (hc:CallR X (.type T) r) (hg:Gl X x) (hm:X.mg x=none) (hv:bootBuiltins x=some (.type T)) (ha:PA X (e::es) t) (hn:x ≠ "__name__" := by decide) (hdb:(x == ("__debug__" : Str))=false:=by decide)
  (he:starEach (e::es) X.env=(false,eval e X.env)::starEach es X.env:=by rfl) (hpl:(backTo pos (starEach es X.env)).any (·.1)=false:=by rfl):PE X (.Call (.Name x p) (e::es) [] pos) (tCB r t):=by
 intro pins s σ H Q I h
 refine wpAny_Call_Name_kw (ld_blt I hg hm hv ?_ hn hdb)
 exact PyProof.Rows.callWith_type1 (thn (ha pos pins s σ H _ I h) fun us s1 ⟨vs,H1,I1,r1,q1⟩=>hc pins s1 σ H1 vs us Q I1 r1 q1) he hpl
end
end L2
namespace HT
open PySem PyProof.Rows
section
open PySem.SeqAt
open PySem.AutoSeq1 (wpAny_loadPart')
open PySem.MeetsSeq PySem.MeetsSeq2 PySem.MeetsSeq3
end
section
variable {prog:Program}{w:World}{A:Around}{E:Vs}{s:Shared}
theorem cat_tup {t b:Addr}{vs ws:List Value}{Q:Vs}(ht:IsTup s.heap t vs.toArray) (hb:IsTup s.heap b ws.toArray) (hv:vs≠[])
  (h1:ws=[]→Q (.ref t) s) (h2:ws≠[]→Q (.ref s.heap.objs.size) { s with heap:=s.heap.push { cls:=.type "tuple", data:=.seq (vs++ws).toArray } })
  (hsz:vs.length+ws.length≤sizeLine):wpAny (model prog w) A (binaryOp .Add (.ref t) (.ref b)) Q E s:=by
 obtain⟨⟨cls,dd,data,sl⟩,ho,hc,n,hd⟩:=id ht
 obtain⟨⟨cls2,dd2,data2,sl2⟩,ho2,hc2,n2,hd2⟩:=id hb
 simp only at hc hd hc2 hd2
 subst hc hd hc2 hd2
 have e:vs.toArray++ws.toArray=(vs++ws).toArray:=by simp
 by_cases hw:ws=[]
 ·exact concat_meets ⟨_,ho,rfl⟩ ⟨_,ho2,rfl⟩ noFill_tuple_add seq_tuple_add PySem.F.slot_tuple_add PySem.F.entry_tuple_add (PySem.F.args_tuple_add_2 _ _)
   (tuple_addW1 t b vs.toArray ws.toArray n n2 dd dd2 sl sl2 (by simpa using hv) (by simp[hw])) ⟨ho,ho2,h1 hw⟩
 ·refine concat_meets ⟨_,ho,rfl⟩ ⟨_,ho2,rfl⟩ noFill_tuple_add seq_tuple_add PySem.F.slot_tuple_add PySem.F.entry_tuple_add (PySem.F.args_tuple_add_2 _ _)
   (tuple_addW2 t b vs.toArray ws.toArray n n2 dd dd2 sl sl2 (by simpa using hv) (by simpa using hw) (by rw[List.size_toArray,List.size_toArray];exact hsz)) ⟨ho,ho2,?_⟩
  rw[e]
  exact h2 hw
noncomputable def sIx (n d:Nat):Option Int→Nat
 | none=>d
 | some v=>if v<0 then (v+(n:Int)).toNat else min v.toNat n
end
end HT
namespace L2
open PySem PySem.Spec PyProof.Rows
noncomputable abbrev TO:=St→Hp→(Option Int→Hp→Prop)→Prop
def PO (X:Cx) (e:Option Expr) (t:TO):Prop:=
 ∀(pins:Lo) (s:Shared) (σ:St) (H:Hp) (Q:Option Int→Hp→Prop),Inv X pins σ H s→t σ H Q→
  wpAny (model X.prog X.w) X.A (evalPart e X.env) (fun u s'=>∃o H',Inv X pins σ H' s'∧IsPart u o∧Q o H') X.xe s
noncomputable def tNoPart:TO:=fun _ H Q=>Q none H
noncomputable def tPart (t:TE):TO:=fun σ H Q=>t σ H fun x H1=>∃i,x=.int i∧Q (some i) H1
section
variable {X:Cx}{e:Expr}{te:TE}{lo hi:Option Expr}{tl th:TO}{pos p2:Pos}
theorem po_none:PO X none tNoPart:=by
 intro pins s σ H Q I h
 rw[evalPart_none]
 exact wpAny_pure ⟨none,H,I,.none,h⟩
theorem po_some (h:PE X e te):PO X (some e) (tPart te):=by
 intro pins s σ H Q I hw
 rw[evalPart_some]
 refine thn (h pins s σ H _ I hw) fun u s1 ⟨x,H1,I1,r1,q1⟩ => ?_
 obtain⟨i,rfl,q⟩:=q1
 obtain⟨t,rfl⟩:=r1
 exact⟨some i,H1,I1,.int i t,q⟩
def SlR (X:Cx) (r:V→Option Int→Option Int→Hp→VK→Prop):Prop:=
 ∀(pins:Lo) (s:Shared) (σ:St) (H:Hp) (x:V) (v vl vu:Value) (lo hi:Option Int) (sl:Addr) (Q:VK),Inv X pins σ H s→RelV x v→s.heap.IsSliceOf sl vl vu .none→IsPart vl lo→IsPart vu hi→r x lo hi H Q→
  ∃T id,typeLookup (.type T) "__getitem__" = pure (some (.builtin id))∧s.TypeIs v T∧wpAny (model X.prog X.w) X.A (getItem v (.ref sl)) (EP X pins σ Q) X.xe s
def tSl (r:V→Option Int→Option Int→Hp→VK→Prop) (te:TE) (tl th:TO):TE:=fun σ H Q=>te σ H fun x H1=>tl σ H1 fun l H2=>th σ H2 fun u H3=>r x l u H3 Q
theorem pe_slice {r:V→Option Int→Option Int→Hp→VK→Prop}(hr:SlR X r) (he:PE X e te) (hl:PO X lo tl) (hu:PO X hi th):PE X (.Subscript e (.Slice lo hi none p2) pos) (tSl r te tl th):=by
 intro pins s σ H Q I h
 refine Subscript_ (thn (he pins s σ H _ I h) fun v s1 ⟨x,H1,I1,r1,q1⟩ => ?_)
 refine wpAny_Slice (thn (hl pins s1 σ H1 _ I1 q1) fun vl s2 ⟨l,H2,I2,pl,q2⟩=>thn (hu pins s2 σ H2 _ I2 q2) fun vu s3 ⟨u,H3,I3,pu,q3⟩ => ?_)
 rw[evalPart_none]
 refine wpAny_pure ?_
 have I4:Inv X pins σ H3 { s3 with heap:=s3.heap.push { cls:=.type "slice", data:=.fields #[vl,vu,.none] } }:=I3.kept (t':=s3.toks) fun b ob q=>Heap.get?_push_of_some _ q
 obtain⟨T,id,hT,ht,hg⟩:=hr pins { s3 with heap:=s3.heap.push { cls:=.type "slice", data:=.fields #[vl,vu,.none] } } σ H3 x v vl vu l u s3.heap.objs.size Q I4 r1 (Heap.IsSliceOf.new ..) pl pu q3
 show wpAny (model X.prog X.w) X.A (subscriptTail e (.Slice lo hi none p2) v (.ref s3.heap.objs.size)) (EP X pins σ Q) X.xe { s3 with heap:=s3.heap.push { cls:=.type "slice", data:=.fields #[vl,vu,.none] } }
 exact tail_any (ops:=[.ref s3.heap.objs.size,v]) ht hT hg (by with_unfolding_all rfl)
noncomputable def cutV (xs:List V) (lo hi:Option Int):List V:=(xs.drop (HT.sIx xs.length 0 lo)).take (HT.sIx xs.length xs.length hi - HT.sIx xs.length 0 lo)
theorem cutV_length (xs:List V) (lo hi:Option Int):(cutV xs lo hi).length≤xs.length:=by
 unfold cutV
 rw[List.length_take,List.length_drop]
 omega
noncomputable def rSlT (K:Wf):V→Option Int→Option Int→Hp→VK→Prop:=fun x lo hi H Q=>∃a xs,x=.ref a∧SqT K H a xs∧
 ¬(HT.sIx xs.length 0 lo=0∧HT.sIx xs.length xs.length hi=xs.length)∧∀p,H p=none→Q (.ref p) (upd H p (.tup (cutV xs lo hi)))
def rCatT (K:Wf):R2:=fun x y H Q=>∃a b xs ys,x=.ref a∧y=.ref b∧SqT K H a xs∧SqT K H b ys∧xs≠[]∧xs.length+ys.length≤sizeLine∧
 (ys=[]→Q (.ref a) H)∧(ys≠[]→∀p,H p=none→Q (.ref p) (upd H p (.tup (xs++ys))))
theorem Vals.nil_iff {xs:List V}{us:List Value}(r:Vals xs us):us=[]↔xs=[]:=by
 cases r with
 | nil=>simp
 | cons _ _=>simp
theorem op_catT:OpR X (binaryOp .Add) (rCatT X.K):=by
 intro pins s σ H x y v u Q I rx ry h
 obtain⟨a,b,xs,ys,rfl,rfl,ha,hb,hx,hz,q1,q2⟩:=h
 cases rx
 cases ry
 obtain⟨its,r1,p1,_⟩:=I.tuple ha
 obtain⟨its2,r2,p2,_⟩:=I.tuple hb
 refine HT.cat_tup p1 p2 (fun z=>hx (r1.nil_iff.mp z)) (fun z=>⟨.ref a,H,I,rfl,q1 (r2.nil_iff.mp z)⟩) (fun z => ?_) (by rw[←r1.length,←r2.length];exact hz)
 refine⟨.ref s.heap.objs.size,_,I.laid (t':=s.toks) (o:=.tup (xs++ys)) (fun b ob q=>Heap.get?_push_of_some _ q) (Nat.le_refl _) ?_,rfl,q2 (fun w=>z (r2.nil_iff.mpr w)) _ (I.hok.fresh (Nat.le_refl _))⟩
 exact⟨by rw[List.length_append];exact hz,_,r1.append r2,IsTup.new _ _⟩
end
end L2
namespace L2
open PySem PySem.Spec PyProof.Rows
noncomputable def ixN (n:Nat) (i:Int):Option Nat:=if 0≤i then (if i<n then some i.toNat else none) else if -(n:Int)≤i then some (i+n).toNat else none
noncomputable def atI {α:Type}(xs:List α) (i:Int):Option α:=(ixN xs.length i).bind fun j=>xs[j]?
theorem ixN_seq {n:Nat}{i:Int}{j:Nat}(h:ixN n i=some j):seqIndex? i n=some j∧j<n ∧ -(n:Int)≤i∧i<n:=by
 unfold ixN at h
 by_cases h0:0≤i
 ·rw[if_pos h0]at h
  by_cases h1:i<n
  ·rw[if_pos h1]at h
   have e:i.toNat=j:=Option.some.inj h
   exact⟨by rw[seqIndex_of h0 h1,e],by omega,by omega,h1⟩
  ·rw[if_neg h1]at h;cases h
 ·rw[if_neg h0]at h
  by_cases h1 : -(n:Int)≤i
  ·rw[if_pos h1]at h
   have e:(i+n).toNat=j:=Option.some.inj h
   exact⟨by rw[seqIndex_neg (by omega) h1,e],by omega,h1,by omega⟩
  ·rw[if_neg h1]at h;cases h
theorem atI_get {α:Type}{xs:List α}{i:Int}{v:α}(h:atI xs i=some v):∃j,seqIndex? i xs.length=some j∧xs[j]?=some v∧j<xs.length ∧ -(xs.length:Int)≤i∧i<xs.length:=by
 unfold atI at h
 cases e:ixN xs.length i with
 | none=>rw[e]at h;cases h
 | some j=>
  rw[e]at h
  obtain⟨h1,h2,h3,h4⟩:=ixN_seq e
  exact⟨j,h1,h,h2,h3,h4⟩
theorem atI_nat {α:Type}{xs:List α}{j:Nat}{v:α}(h:xs[j]?=some v):atI xs (j:Int)=some v:=by
 have hj:j<xs.length:=(List.getElem?_eq_some_iff.mp h).1
 have e:ixN xs.length (j:Int)=some j:=by
  unfold ixN
  rw[if_pos (by omega),if_pos (by omega)];simp
 unfold atI;rw[e];exact h
theorem atI_last {α:Type}(xs:List α) (v:α):atI (xs++[v]) (-1)=some v:=by
 have hl:(xs++[v]).length=xs.length+1:=by simp
 have e:ixN (xs++[v]).length (-1)=some xs.length:=by
  unfold ixN
  rw[hl,if_neg (by decide),if_pos (by omega)]
  congr 1
  omega
 unfold atI
 rw[e]
 show (xs++[v])[xs.length]?=some v
 simp
def PlainIx (b:Expr):Prop:=∀o i,subscripted b false o i=operate [o,i] (getItem o i)
def IxR (X:Cx) (r:R2):Prop:=
 ∀(value slice:Expr) (pins:Lo) (s:Shared) (σ:St) (H:Hp) (x y:V) (v u:Value) (Q:VK),Inv X pins σ H s→RelV x v→RelV y u→r x y H Q→
  subscripted slice false v u=operate [v,u] (getItem v u)→wpAny (model X.prog X.w) X.A (subscriptTail value slice v u) (EP X pins σ Q) X.xe s
def MtR (X:Cx) (id:String) (r:V→List V→Hp→VK→Prop):Prop:=
 ∀(pins:Lo) (s:Shared) (σ:St) (H:Hp) (x:V) (xs:List V) (v:Value) (us:List Value) (Q:VK),Inv X pins σ H s→RelV x v→Vals xs us→r x xs H Q→
  wpAny (model X.prog X.w) X.A (call (.builtin id) (v::us)) (EP X pins σ Q) X.xe s
section
variable {X:Cx}{a b:Expr}{ta tb:TE}{pos:Pos}
theorem pe_ix {r:R2}(hr:IxR X r) (ha:PE X a ta) (hb:PE X b tb) (hs:PlainIx b):PE X (.Subscript a b pos) (tOp r ta tb):=by
 intro pins s σ H Q I h
 exact Subscript_ (binT ha hb I h fun v u s2 x y H2 I2 rx ry q=>hr a b pins s2 σ H2 x y v u Q I2 rx ry q (hs _ _))
def rIxL (K:Wf):R2:=fun x y H Q=>∃p xs i v,x=.ref p∧y=.int i∧SqL K H p xs∧atI xs i=some v∧Q v H
def rIxT (K:Wf):R2:=fun x y H Q=>∃p xs i v,x=.ref p∧y=.int i∧SqT K H p xs∧atI xs i=some v∧Q v H
def rIxS:R2:=fun x y H Q=>∃z i c,x=.str z∧y=.int i∧z.length≤sizeLine∧atI z.cps.toList i=some c∧Q (.str ⟨#[c]⟩) H
theorem ix_list:IxR X (rIxL X.K):=by
 intro value slice pins s σ H x y v u Q I rx ry h hs
 obtain⟨p,xs,i,z,rfl,rfl,hq,he,q⟩:=h
 cases rx
 obtain⟨t,rfl⟩:=ry
 obtain⟨its,r,pl,hz⟩:=I.list hq
 obtain⟨j,h1,h2,h3,h4,h5⟩:=atI_get he
 obtain⟨w,ew,rw'⟩:=r.get h2
 have hl:=r.length
 have hn:=line63
 have fin:EP X pins σ Q w s:=⟨z,H,I,rw',q⟩
 by_cases h0:0≤i
 ·have hj:i.toNat=j:=by
   rw[seqIndex_of h0 h5]at h1
   exact Option.some.inj h1
  exact item_listR pl.isList h0 (by omega) (by rw[hj];simpa using ew) fin hs
 ·have hj:(i+(its.toArray.size:Int)).toNat=j:=by
   rw[seqIndex_neg (by omega) h4]at h1
   rw[List.size_toArray,←hl]
   exact Option.some.inj h1
  exact subscriptTail_builtinR (x:=w) pl.isList.typeIs slot_list_getitem.lookup
   (wpAny_getItem_list_neg (Q:=fun r s'=>r=w∧EP X pins σ Q r s') pl.isList (by omega) (by rw[List.size_toArray]<;>omega) (by omega) (by rw[hj];simpa using ew) ⟨rfl,fin⟩) hs
theorem ix_tup:IxR X (rIxT X.K):=by
 intro value slice pins s σ H x y v u Q I rx ry h hs
 obtain⟨p,xs,i,z,rfl,rfl,hq,he,q⟩:=h
 cases rx
 obtain⟨t,rfl⟩:=ry
 obtain⟨its,r,pl,hz⟩:=I.tuple hq
 obtain⟨j,h1,h2,h3,h4,h5⟩:=atI_get he
 obtain⟨w,ew,rw'⟩:=r.get h2
 have hl:=r.length
 have hn:=line63
 have fin:EP X pins σ Q w s:=⟨z,H,I,rw',q⟩
 exact subscriptTail_builtinR (x:=w) pl.typeIs slot_tuple_getitem.lookup
  (getItem_tuple (j:=j) (Q:=fun r s'=>r=w∧EP X pins σ Q r s') pl (by omega) (by omega) (by rw[List.size_toArray,←hl];exact h1) (by simpa using ew) ⟨rfl,fin⟩) hs
theorem ix_str:IxR X rIxS:=by
 intro value slice pins s σ H x y v u Q I rx ry h hs
 obtain⟨z,i,c,rfl,rfl,hz,he,q⟩:=h
 obtain⟨t,rfl⟩:=rx
 obtain⟨t',rfl⟩:=ry
 obtain⟨j,h1,h2,h3,h4,h5⟩:=atI_get he
 have hl:z.cps.toList.length=z.length:=by simp[Str.length]
 rw[hl]at h1 h4 h5
 have hn:=line63
 exact tail_any (typeIs_str s z t) slot_str_getitem.lookup (getItem_str (c:=c) (by
  have e1:decide (i < -(2 ^ 63:Int))=false:=decide_eq_false (by omega)
  have e2:decide (i≥2 ^ 63)=false:=decide_eq_false (by omega)
  rw[e1,e2,Bool.or_false]) (by rw[h1];simpa using h2) ⟨.str ⟨#[c]⟩,H,I.tok _,⟨_,rfl⟩,q⟩) hs
theorem mapSeq_set (its:List Value) (n j:Nat) (u:Value):Obj.mapSeq (·.setIfInBounds j u) { cls:=.type "list", data:=.seq its.toArray n }={ cls:=.type "list", data:=.seq (its.set j u).toArray n }:=by
 simp[Obj.mapSeq]
theorem Inv.lst {pins:Lo}{σ:St}{H:Hp}{s:Shared}{p:Addr}{xs:List V}(I:Inv X pins σ H s) (h:H p=some (.lst xs)):
  ∃(its:List Value) (n:Nat),Vals xs its∧s.heap.get? p=some { cls:=.type "list", data:=.seq its.toArray n }∧xs.length≤sizeLine:=by
 obtain⟨z,its,n,r,e⟩:=I.hok p _ h
 exact⟨its,n,r,e,z⟩
theorem Inv.lstUpd {pins:Lo}{σ:St}{H:Hp}{s:Shared}{p:Addr}{xs ys:List V}{its its':List Value}{n n':Nat}{f:Obj→Obj}(I:Inv X pins σ H s) (h:H p=some (.lst xs))
  (ho:s.heap.get? p=some { cls:=.type "list", data:=.seq its.toArray n }) (hf:f { cls:=.type "list", data:=.seq its.toArray n }={ cls:=.type "list", data:=.seq its'.toArray n' }) (r:Vals ys its') (hz:ys.length≤sizeLine) (t:Nat):
  Inv X pins σ (upd H p (.lst ys)) { s with heap:=s.heap.update p f,toks:=t }:=by
 have e:(s.heap.update p f).get? p=some { cls:=.type "list", data:=.seq its'.toArray n' }:=by
  rw[Heap.get?_update_self f ho (by rw[hf]<;>rfl),hf]
 refine I.write (x:=p) (e:=p) (by rw[h];trivial) (.inl rfl) (fun b u hb q=>(Heap.get?_update_other _ _ (Ne.symm hb)).trans q) ⟨_,e⟩ ?_
 exact⟨hz,its',n',r,e⟩
noncomputable def rSetL:V→V→V→Hp→(Hp→Prop)→Prop:=fun o i v H Q=>∃p xs k j,o=.ref p∧i=.int k∧H p=some (.lst xs)∧ixN xs.length k=some j∧Q (upd H p (.lst (xs.set j v)))
theorem set_list:PSet X rSetL:=by
 intro pins s σ H o i v ov iv u Q I ro ri rv h
 obtain⟨p,xs,k,j,rfl,rfl,hp,hj,q⟩:=h
 cases ro
 obtain⟨t,rfl⟩:=ri
 obtain⟨its,n,r,ho,hz⟩:=I.lst hp
 obtain⟨h1,h2,h3,h4⟩:=ixN_seq hj
 have hl:=r.length
 have hn:=line63
 have I':Inv X pins σ (upd H p (.lst (xs.set j v))) { s with heap:=s.heap.update p (Obj.mapSeq (·.setIfInBounds j u)) }:=
  I.lstUpd hp ho (mapSeq_set its n j u) (r.set rv j) (by rw[List.length_set];exact hz) s.toks
 by_cases h0:0≤k
 ·have hk:k.toNat=j:=by
   rw[seqIndex_of h0 h4]at h1
   exact Option.some.inj h1
  exact PySem.W.ki_setAt ho h0 (by omega) (by rw[List.size_toArray,←hl];exact h4) (by rw[hk];exact⟨_,I',q⟩)
 ·have hk:(k+(its.toArray.size:Int)).toNat=j:=by
   rw[seqIndex_neg (by omega) h3]at h1
   rw[List.size_toArray,←hl]
   exact Option.some.inj h1
  exact PySem.W.ki_setBack ho (by omega) (by rw[List.size_toArray,←hl];exact h3) (by omega) (by rw[hk];exact⟨_,I',q⟩)
theorem slice_bounds (lo hi:Option Int) (n:Nat):(sliceBounds lo hi none n).1=((HT.sIx n 0 lo:Nat):Int)∧(sliceBounds lo hi none n).2.1=((HT.sIx n n hi:Nat):Int)∧(sliceBounds lo hi none n).2.2=1:=by
 refine⟨?_,?_,rfl⟩
 ·cases lo with
  | none=>simp[sliceBounds,HT.sIx]
  | some i=>
   simp only[sliceBounds,HT.sIx,Option.getD_none,show (1:Int)>0 by decide,if_true]
   by_cases h:i<0
   ·simp only[h,if_true]<;>omega
   ·simp only[h,if_false]<;>omega
 ·cases hi with
  | none=>simp[sliceBounds,HT.sIx]
  | some i=>
   simp only[sliceBounds,HT.sIx,Option.getD_none,show (1:Int)>0 by decide,if_true]
   by_cases h:i<0
   ·simp only[h,if_true]<;>omega
   ·simp only[h,if_false]<;>omega
theorem slicePick_cut (its:List Value) (lo hi:Option Int):slicePick its.toArray lo hi none=((its.drop (HT.sIx its.length 0 lo)).take (HT.sIx its.length its.length hi - HT.sIx its.length 0 lo)).toArray:=by
 obtain⟨h1,h2,h3⟩:=slice_bounds lo hi its.toArray.size
 unfold slicePick
 rw[h1,h2,h3]
 simp only[sliceRange_one,pick_run,List.size_toArray]<;>rfl
noncomputable def rSlL (K:Wf):V→Option Int→Option Int→Hp→VK→Prop:=fun x lo hi H Q=>∃a xs,x=.ref a∧SqL K H a xs∧∀p,H p=none→Q (.ref p) (upd H p (.lst (cutV xs lo hi)))
theorem sl_list:SlR X (rSlL X.K):=by
 intro pins s σ H x v vl vu lo hi sl Q I rx hs pl pu h
 obtain⟨a,xs,rfl,hx,q⟩:=h
 cases rx
 obtain⟨its,r,ht,hz⟩:=I.list hx
 have hlen:=r.length
 refine⟨"list", _,slot_list_getitem.lookup,ht.isList.typeIs,?_⟩
 refine wpAny_getItem_list_slice ht.isList hs pl pu .none (by simp) ?_ (by rw[List.size_toArray]<;>omega)
 rw[slicePick_cut,←hlen]
 refine⟨.ref s.heap.objs.size,_,I.laid (t':=s.toks) (o:=.lst (cutV xs lo hi)) (fun b ob q=>Heap.get?_push_of_some _ q) (Nat.le_refl _) ?_,rfl,q _ (I.hok.fresh (Nat.le_refl _))⟩
 exact⟨Nat.le_trans (cutV_length xs lo hi) hz,_,0,(r.drop (HT.sIx xs.length 0 lo)).take (HT.sIx xs.length xs.length hi - HT.sIx xs.length 0 lo),Heap.get?_push_size _ rfl⟩
noncomputable def flatV:V→Bool
 | .non=>true
 | .bl _=>true
 | .int _=>true
 | .str _=>true
 | _=>false
noncomputable def eqV:V→V→Bool
 | .non,.non=>true
 | .bl a,.bl b=>a == b
 | .bl a,.int b=>(if a then 1 else 0) == b
 | .int a,.bl b=>a == (if b then 1 else 0)
 | .int a,.int b=>a == b
 | .str a,.str b=>a == b
 | _,_=>false
theorem eqAt_V {A:Around}{s:Shared}{y x:V}{u v:Value}(ry:RelV y u) (rx:RelV x v) (fy:flatV y=true) (fx:flatV x=true):SeqAt.EqAt A s u v (eqV y x):=by
 cases y with
 | non=>
  cases ry
  cases x with
  | non=>cases rx;exact SeqAt.EqAt.same _
  | bl b=>cases rx;exact SeqAt.EqAt.none_bool b
  | int b=>obtain⟨t,rfl⟩:=rx;exact SeqAt.EqAt.none_int b t
  | str b=>obtain⟨t,rfl⟩:=rx;exact SeqAt.EqAt.none_str b t
  | _=>exact absurd (show false=true from fx) Bool.false_ne_true
 | bl a=>
  cases ry
  cases x with
  | non=>cases rx;exact SeqAt.EqAt.bool_none a
  | bl b=>cases rx;exact SeqAt.EqAt.bool_bool a b
  | int b=>obtain⟨t,rfl⟩:=rx;exact SeqAt.EqAt.bool_int a b t
  | str b=>obtain⟨t,rfl⟩:=rx;exact SeqAt.EqAt.bool_str a b t
  | _=>exact absurd (show false=true from fx) Bool.false_ne_true
 | int a=>
  obtain⟨t',rfl⟩:=ry
  cases x with
  | non=>cases rx;exact SeqAt.EqAt.int_none a t'
  | bl b=>cases rx;exact SeqAt.EqAt.int_bool a t' b
  | int b=>obtain⟨t,rfl⟩:=rx;exact SeqAt.EqAt.int_int a t' b t
  | str b=>obtain⟨t,rfl⟩:=rx;exact SeqAt.EqAt.int_str a t' b t
  | _=>exact absurd (show false=true from fx) Bool.false_ne_true
 | str a=>
  obtain⟨t',rfl⟩:=ry
  cases x with
  | non=>cases rx;exact SeqAt.EqAt.str_none a t'
  | bl b=>cases rx;exact SeqAt.EqAt.str_bool a t' b
  | int b=>obtain⟨t,rfl⟩:=rx;exact SeqAt.EqAt.str_int a t' b t
  | str b=>obtain⟨t,rfl⟩:=rx;exact SeqAt.EqAt.str_str a t' b t
  | _=>exact absurd (show false=true from fx) Bool.false_ne_true
 | _=>exact absurd (show false=true from fy) Bool.false_ne_true
noncomputable def eqU (x:V) (u:Value):Bool:=match u with
 | .none=>eqV .non x
 | .bool b=>eqV (.bl b) x
 | .int i _=>eqV (.int i) x
 | .str z _=>eqV (.str z) x
 | _=>false
theorem eqU_of {x y:V}{u:Value}(r:RelV y u) (f:flatV y=true):eqU x u=eqV y x:=by
 cases y with
 | non=>cases r;rfl
 | bl b=>cases r;rfl
 | int i=>obtain⟨t,rfl⟩:=r;rfl
 | str z=>obtain⟨t,rfl⟩:=r;rfl
 | _=>exact absurd (show false=true from f) Bool.false_ne_true
theorem any_eqU {x:V}:∀{xs:List V}{us:List Value},Vals xs us→xs.all flatV=true→us.any (eqU x)=xs.any fun y=>eqV y x
 | _,_,.nil,_=>rfl
 | y::xs,u::us,.cons r t,f=>by
  rw[List.all_cons,Bool.and_eq_true]at f
  rw[List.any_cons,List.any_cons,eqU_of r f.1,any_eqU t f.2]
theorem mem_eqAt {A:Around}{s:Shared}{x:V}{v:Value}(rx:RelV x v) (fx:flatV x=true):∀{xs:List V}{us:List Value},Vals xs us→xs.all flatV=true→∀u∈us,SeqAt.EqAt A s u v (eqU x u)
 | _,_,.nil,_=>fun u hu=>by cases hu
 | y::xs,u::us,.cons r t,f=>fun u' hu=>by
  rw[List.all_cons,Bool.and_eq_true]at f
  rcases List.mem_cons.mp hu with rfl | hu
  ·rw[eqU_of r f.1];exact eqAt_V r rx f.1 fx
  ·exact mem_eqAt rx fx t f.2 u' hu
noncomputable def inV (x:V) (xs:List V):Bool:=xs.any fun y=>eqV y x
def rIn (K:Wf) (neg:Bool):R2:=fun x y H Q=>∃p xs,y=.ref p∧(SqL K H p xs∨SqT K H p xs)∧flatV x=true∧xs.all flatV=true∧Q (.bl (if neg then !inV x xs else inV x xs)) H
theorem op_in_seq:OpR X (compareOp .In) (rIn X.K false):=by
 intro pins s σ H x y v u Q I rx ry h
 obtain⟨p,xs,rfl,hq,fx,fs,q⟩:=h
 cases ry
 rcases hq with hq | hq
 ·obtain⟨its,r,pl,hz⟩:=I.list hq
  refine SeqAt.in_listAt (eqU x) pl.isList (fun w hw=>mem_eqAt rx fx r fs w (by simpa using hw)) ⟨.bl _,H,I,rfl,?_⟩
  rw[show its.toArray.any (eqU x)=its.any (eqU x) by simp,any_eqU r fs]
  exact q
 ·obtain⟨its,r,pl,hz⟩:=I.tuple hq
  refine SeqAt.in_tupleAt (eqU x) pl (fun w hw=>mem_eqAt rx fx r fs w (by simpa using hw)) ⟨.bl _,H,I,rfl,?_⟩
  rw[show its.toArray.any (eqU x)=its.any (eqU x) by simp,any_eqU r fs]
  exact q
theorem call_list_of:CallR X (.type "list") (fun xs H Q=>∃p ys,xs=[.ref p]∧(SqL X.K H p ys∨SqT X.K H p ys)∧∀l,H l=none→Q (.ref l) (upd H l (.lst ys))):=by
 intro pins s σ H xs us Q I r h
 obtain⟨p,ys,rfl,hq,q⟩:=h
 obtain⟨u,rfl,rx⟩:=vals1 r
 cases rx
 have fin:∀(its:List Value),Vals ys its→ys.length≤sizeLine→∀(h':Heap) (c':Nat),(∀b o',s.heap.get? b=some o'→h'.get? b=some o')→
   h'.get? s.heap.objs.size=some { cls:=.type "list", dict:=none,data:=.seq its.toArray c',slots:=#[] }→EP X pins σ Q (.ref s.heap.objs.size) { s with heap:=h' }:=fun its r' hz h' c' kp e=>
  ⟨.ref s.heap.objs.size,_,I.laid (t':=s.toks) kp (Nat.le_refl _) (show ObjOk X.prog X.w _ h' _ (.lst ys) from ⟨hz,its,c',r',e⟩),rfl,q _ (I.hok.fresh (Nat.le_refl _))⟩
 rcases hq with hq | hq
 ·obtain⟨its,r',pl,hz⟩:=I.list hq
  have hlen:=r'.length
  obtain⟨o,ho,hc,n,hd⟩:=pl.isList
  exact call_list_seq p (.inl rfl) ho hc hd (fun h' c' kp e=>fin its r' hz h' c' kp e) (by simp only[List.size_toArray]<;>omega)
 ·obtain⟨its,r',pl,hz⟩:=I.tuple hq
  have hlen:=r'.length
  obtain⟨o,ho,hc,n,hd⟩:=pl
  exact call_list_seq p (.inr rfl) ho hc hd (fun h' c' kp e=>fin its r' hz h' c' kp e) (by simp only[List.size_toArray]<;>omega)
def tyV (K:Wf) (T:String) (x:V) (H:Hp):Prop:=match x with
 | .str _=>T = "str"
 | .int _=>T = "int"
 | .ref p=>(T = "list" ∧ ∃xs,SqL K H p xs)∨(T = "tuple" ∧ ∃o,K.lookup p=some o∧o.cls=.type "tuple" ∧ o.dict=none) ∨
   (T = "dict" ∧ ((∃kvs,H p=some (.dK kvs))∨∃kvs,H p=some (.dT kvs)))∨(T = "set" ∧ ∃S n,H p=some (.set S n))
 | _=>False
theorem tyV_is {pins:Lo}{σ:St}{H:Hp}{s:Shared}{T:String}{x:V}{v:Value}(I:Inv X pins σ H s) (r:RelV x v) (ty:tyV X.K T x H):
  s.TypeIs v T∧∀a,v=.ref a→∃ob,s.heap.get? a=some ob∧ob.dict=none:=by
 cases x with
 | str z=>
  obtain⟨t,rfl⟩:=r
  cases (show T = "str" from ty)
  exact⟨typeIs_str s z t,fun _ e=>nomatch e⟩
 | int i=>
  obtain⟨t,rfl⟩:=r
  cases (show T = "int" from ty)
  exact⟨typeIs_int s i t,fun _ e=>nomatch e⟩
 | ref p=>
  cases r
  rcases ty with ⟨rfl,xs,hq⟩ | ⟨rfl,o,hk,hc,hd⟩ | ⟨rfl,hk⟩ | ⟨rfl,S,n,hk⟩
  ·obtain⟨its,_,pl,_⟩:=I.list hq
   refine⟨pl.isList.typeIs,fun a e => ?_⟩
   cases e
   obtain⟨o,n,e,c,hd,_⟩:=pl
   exact⟨o,e,hd⟩
  ·refine⟨⟨o,I.kIn p o hk,hc⟩,fun a e => ?_⟩
   cases e
   exact⟨o,I.kIn _ o hk,hd⟩
  ·have z:∃o,s.heap.get? p=some o∧o.ExactDict:=by
    rcases hk with ⟨kvs,hk⟩ | ⟨kvs,hk⟩
    ·obtain⟨_,_,_,_,o,_,_,e,ex,_⟩:=I.hok p _ hk
     exact⟨o,e,ex⟩
    ·obtain⟨_,_,_,_,o,_,_,e,ex,_⟩:=I.hok p _ hk
     exact⟨o,e,ex⟩
   obtain⟨o,e,ex⟩:=z
   refine⟨⟨o,e,ex.1⟩,fun a e2 => ?_⟩
   cases e2
   exact⟨o,e,ex.2.1⟩
  ·obtain⟨o,_,_,_,e,ex,_⟩:=I.hok p _ hk
   refine⟨⟨o,e,ex.1⟩,fun a e2 => ?_⟩
   cases e2
   exact⟨o,e,ex.2.1⟩
 | _=>exact False.elim ty
def tBM0 (K:Wf) (T:String) (r:V→List V→Hp→VK→Prop) (to:TE):TE:=fun σ H Q=>to σ H fun x H1=>tyV K T x H1∧r x [] H1 Q
def tBM (K:Wf) (T:String) (r:V→List V→Hp→VK→Prop) (to:TE) (t:TA):TE:=fun σ H Q=>to σ H fun x H1=>tyV K T x H1∧t σ H1 fun xs H2=>r x xs H2 Q
variable {o e:Expr}{es:List Expr}{to:TE}{t:TA}{name:Str}{apos cpos:Pos}{T id:String}{r:V→List V→Hp→VK→Prop}
theorem pe_bm (pa:PlainAttrs T) (slot:Slot T name id) (hty:typeOf (.builtin id)=pure (.type "method_descriptor")) (hm:MtR X id r) (ho:PE X o to) (ha:PA X (e::es) t)
  (hbase:attributeBase o name X.env (eval o X.env)=eval o X.env:=by rfl)
  (hfew:((backTo cpos (starEach (e::es) X.env)).all (fun x => !x.1)&&(backToKw cpos (keywordEach [] X.env)).all (fun x=>x.1.isSome)
   && decide ((e::es).length+([]:List Keyword).length+(if ([]:List Keyword).isEmpty then 0 else 1)<30))=true:=by rfl)
  (hline:(apos.endLine == cpos.line)=true:=by rfl) (hs:starEach (e::es) X.env=(false,eval e X.env)::starEach es X.env:=by rfl) (hplain:(backTo cpos (starEach es X.env)).any (·.1)=false:=by rfl):
  PE X (.Call (.Attribute o name apos) (e::es) [] cpos) (tBM X.K T r to t):=by
 intro pins s σ H Q I h
 refine wpAny_Call_method_late hbase hfew hline rfl (thn (ho pins s σ H _ I h) fun v s1 ⟨x,H1,I1,r1,ty,q1⟩ => ?_)
 obtain⟨h1,h2⟩:=tyV_is I1 r1 ty
 refine⟨T,id,pa,slot,hty,h1,h2,?_⟩
 have hA:=ha cpos pins s1 σ H1 _ I1 q1
 rw[hs]at hA ⊢
 refine Calls.callWith_builtin (by show (false || (backTo cpos (starEach es X.env)).any (·.1))=false;rw[hplain]<;>rfl) (Calls.evalArgs_plain ?_)
 exact thn hA fun us s2 ⟨vs,H2,I2,r2,q2⟩=>hm pins s2 σ H2 x vs v us Q I2 r1 r2 q2
/- xs.append(e),list.index on a module's tuple .. are MtR facts of 06m -/
end
end L2
namespace L2
open PySem PySem.Spec PyProof.Rows
def MtM (X:Cx) (id:String) (r:V→List V→Hp→VK→Prop):Prop:=
 ∀(pins:Lo) (s:Shared) (σ:St) (H:Hp) (x:V) (xs:List V) (v:Value) (us:List Value) (Q:VK),Inv X pins σ H s→RelV x v→Vals xs us→r x xs H Q→
  wpAny (model X.prog X.w) X.A (call (.builtin id) (v::us)) (EP X pins σ Q) X.xe s
theorem Vals.one:∀{x:V}{us:List Value},Vals [x] us→∃u,us=[u]∧RelV x u
 | _,_,.cons r .nil=>⟨_,rfl,r⟩
section
variable {X:Cx}{pins:Lo}{σ:St}{H:Hp}{s:Shared}{l b:Addr}{xs ys zs:List V}
theorem Inv.lset {its its':List Value}{n:Nat}{f:Array Value→Array Value}{t':Nat}(I:Inv X pins σ H s) (hH:H l=some (.lst xs))
  (e:s.heap.get? l=some { cls:=.type "list", data:=.seq its.toArray n }) (hf:f its.toArray=its'.toArray) (hv:Vals ys its') (hz:ys.length≤sizeLine):
  Inv X pins σ (upd H l (.lst ys)) { s with heap:=s.heap.update l (Obj.mapSeq f),toks:=t' }:=by
 have q:=PySem.IsL.update e f
 rw[hf]at q
 refine I.write (x:=l) (e:=l) (by rw[hH];exact trivial) (.inl rfl) (fun b' u hb hu=>(Heap.get?_update_other s.heap (Obj.mapSeq f) (Ne.symm hb)).trans hu) ⟨_,q⟩ ?_
 exact⟨hz,its',_,hv,q⟩
theorem Inv.lnew {its:List Value}{t':Nat}(I:Inv X pins σ H s) (hv:Vals ys its) (hz:ys.length≤sizeLine):
  Inv X pins σ (upd H s.heap.objs.size (.lst ys)) { s with heap:=s.heap.push { cls:=.type "list", data:=.seq its.toArray },toks:=t' }:=
 I.laid (fun _ _ q=>Heap.get?_push_of_some _ q) (Nat.le_refl _) ⟨hz,its,0,hv,Heap.get?_push_size _ rfl⟩
theorem Inv.fresh (I:Inv X pins σ H s):H s.heap.objs.size=none:=I.hok.fresh (Nat.le_refl _)
theorem Inv.lstM (I:Inv X pins σ H s) (hH:H l=some (.lst xs)):xs.length≤sizeLine∧∃(its:List Value) (n:Nat),Vals xs its∧xs.length=its.length∧s.heap.get? l=some { cls:=.type "list", data:=.seq its.toArray n }:=by
 obtain⟨z,its,n,r,e⟩:=I.hok l _ hH
 exact⟨z,its,n,r,r.length,e⟩
theorem notLongL {n:Nat}(h:n≤sizeLine):Builtin.List.listTooLong n=false:=by
 unfold Builtin.List.listTooLong
 exact decide_eq_false (by omega)
end
section
variable {X:Cx}
noncomputable def rAppend:V→List V→Hp→VK→Prop:=fun x vs H Q=>∃l xs y,x=.ref l∧vs=[y]∧H l=some (.lst xs)∧xs.length<sizeLine∧Q .non (upd H l (.lst (xs++[y])))
theorem zz19:MtM X "list.append" rAppend:=by
 intro pins s σ H x vs v us Q I rx rv h
 obtain⟨l,xs,y,rfl,rfl,hH,hz,q⟩:=h
 cases rx
 obtain⟨u,rfl,ru⟩:=rv.one
 obtain⟨z,its,n,r,hl,e⟩:=I.lstM hH
 refine call_meets F.slot_list_append ⟨_,e,rfl⟩ F.entry_list_append (F.args_list_append_2 _ _) (PySem.list_append l its.toArray n u (by rw[List.size_toArray];omega)) ⟨e,?_⟩
 refine⟨.non,_,I.lset (its':=its++[u]) hH e (by simp) (r.append (.cons ru .nil)) ?_,rfl,q⟩
 rw[List.length_append,List.length_singleton]
 omega
noncomputable def rExtend:V→List V→Hp→VK→Prop:=fun x vs H Q=>∃l b xs zs,x=.ref l∧vs=[.ref b]∧H l=some (.lst xs)∧H b=some (.lst zs)∧xs.length+zs.length≤sizeLine∧Q .non (upd H l (.lst (xs++zs)))
theorem mt_extend:MtM X "list.extend" rExtend:=by
 intro pins s σ H x vs v us Q I rx rv h
 obtain⟨l,b,xs,zs,rfl,rfl,hH,hB,hz,q⟩:=h
 cases rx
 obtain⟨u,rfl,ru⟩:=rv.one
 cases ru
 obtain⟨z,its,n,r,hl,e⟩:=I.lstM hH
 obtain⟨z2,its2,n2,r2,hl2,e2⟩:=I.lstM hB
 have hsz:its.toArray.size+its2.toArray.size≤sizeLine:=by rw[List.size_toArray,List.size_toArray];omega
 have hlong:¬(!its.toArray.isEmpty&&Builtin.List.listTooLong (its.toArray.size+its2.toArray.size))=true:=by
  rw[notLongL hsz,Bool.and_false]
  exact Bool.false_ne_true
 refine call_meets F.slot_list_extend ⟨_,e,rfl⟩ F.entry_list_extend (F.args_list_extend_2 _ _)
  (AutoSeq1.list_extend_list_list_0 l its.toArray n b its2.toArray n2 hlong (by rw[List.size_toArray];omega) (by omega)) ⟨e,e2,?_⟩
 refine⟨.non,_,I.lset (its':=its++its2) hH e (by simp) (r.append r2) ?_,rfl,q⟩
 rw[List.length_append]
 omega
noncomputable def rClear:V→List V→Hp→VK→Prop:=fun x vs H Q=>∃l xs,x=.ref l∧vs=[]∧H l=some (.lst xs)∧Q .non (upd H l (.lst []))
end
section
variable {prog:Program}{w:World}{A:Around}{E:Vs}{s:Shared}
set_option maxRecDepth 100000 in
end
section
variable {X:Cx}
end
end L2
namespace L2
open PySem PySem.Spec PyProof.Rows
section
variable {κ:Type} [DecidableEq κ]
noncomputable def valV (kvs:List (κ×V)) (k:κ):Option V:=(kvs.find? fun kv=>decide (kv.1=k)).map (·.2)
noncomputable def putK (kvs:List (κ×V)) (k:κ) (v:V):List (κ×V):=
 if (kvs.any fun kv=>decide (kv.1=k))=true then kvs.map (fun kv=>if kv.1=k then (kv.1,v) else kv) else kvs++[(k,v)]
theorem valV_pos {p:κ×V}{r:List (κ×V)}{k:κ}(e:p.1=k):valV (p::r) k=some p.2:=by simp[valV,List.find?_cons,e]
theorem valV_neg {p:κ×V}{r:List (κ×V)}{k:κ}(e:¬p.1=k):valV (p::r) k=valV r k:=by simp[valV,List.find?_cons,e]
theorem valV_any (k:κ):∀kvs:List (κ×V),(kvs.any fun kv=>decide (kv.1=k))=(valV kvs k).isSome
 | []=>rfl
 | p::r=>by
  rw[List.any_cons]
  by_cases e:p.1=k
  ·simp only[valV_pos e,decide_eq_true e,Bool.true_or,Option.isSome_some]
  ·rw[valV_neg e,decide_eq_false e,Bool.false_or];exact valV_any k r
theorem valV_map (k j:κ) (y:V):∀kvs:List (κ×V),valV (kvs.map fun kv=>if kv.1=k then (kv.1,y) else kv) j=(valV kvs j).map fun x=>if j=k then y else x
 | []=>rfl
 | p::r=>by
  have ih:=valV_map k j y r
  rw[List.map_cons]
  by_cases h:p.1=k
  ·rw[if_pos h]
   by_cases e:p.1=j
   ·rw[valV_pos (p:=(p.1,y)) e,valV_pos e,Option.map_some,if_pos (e.symm.trans h)]
   ·rw[valV_neg (p:=(p.1,y)) e,valV_neg e,ih]
  ·rw[if_neg h]
   by_cases e:p.1=j
   ·rw[valV_pos (p:=p) e,valV_pos e,Option.map_some,if_neg (fun z=>h (e.trans z))]
   ·rw[valV_neg (p:=p) e,valV_neg e,ih]
theorem valV_snoc (k j:κ) (y:V):∀kvs:List (κ×V),valV kvs k=none→valV (kvs++[(k,y)]) j=if j=k then some y else valV kvs j
 | [],_=>by
  by_cases e:k=j
  ·rw[if_pos e.symm];exact valV_pos (p:=(k,y)) e
  ·rw[if_neg (fun z=>e z.symm)];exact valV_neg (p:=(k,y)) e
 | p::r,hn=>by
  rw[List.cons_append]
  have hk:¬p.1=k:=fun z=>by rw[valV_pos z]at hn;cases hn
  rw[valV_neg hk]at hn
  have ih:=valV_snoc k j y r hn
  by_cases e:p.1=j
  ·rw[valV_pos e,valV_pos e,if_neg (fun z=>hk (e.trans z))]
  ·rw[valV_neg e,valV_neg e,ih]
theorem valV_put (kvs:List (κ×V)) (k j:κ) (y:V):valV (putK kvs k y) j=if j=k then some y else valV kvs j:=by
 unfold putK
 by_cases a:(kvs.any fun kv=>decide (kv.1=k))=true
 ·rw[if_pos a,valV_map]
  rw[valV_any]at a
  by_cases e:j=k
  ·obtain⟨x,hx⟩:=Option.isSome_iff_exists.mp a
   rw[if_pos e,e,hx,Option.map_some,if_pos rfl]
  ·rw[if_neg e]
   cases valV kvs j with
   | none=>rfl
   | some x=>rw[Option.map_some,if_neg e]
 ·rw[if_neg a]
  refine valV_snoc k j y kvs ?_
  rw[valV_any]at a
  cases q:valV kvs k with
  | none=>rfl
  | some x=>rw[q]at a;exact (a rfl).elim
theorem length_putK (kvs:List (κ×V)) (k:κ) (v:V):(putK kvs k v).length≤kvs.length+1:=by
 unfold putK
 split
 ·rw[List.length_map];omega
 ·rw[List.length_append,List.length_cons,List.length_nil];omega
theorem RelO.isSome_eq {o:Option V}{u:Option Value}(r:RelO o u):o.isSome=u.isSome:=by
 cases o with
 | none=>cases u with
  | none=>rfl
  | some _=>exact (show False from r).elim
 | some _=>cases u with
  | none=>exact (show False from r).elim
  | some _=>rfl
theorem RelO.getD {o:Option V}{u:Option Value}{d:V}{d':Value}(r:RelO o u) (rd:RelV d d'):RelV (o.getD d) (u.getD d'):=by
 cases o with
 | none=>cases u with
  | none=>exact rd
  | some _=>exact (show False from r).elim
 | some _=>cases u with
  | none=>exact (show False from r).elim
  | some _=>exact r
theorem KV.val {kvs:List (κ×V)}{vs:List (κ×Value)}(r:KV kvs vs) (k:κ):RelO (valV kvs k) (valueAt vs k):=by
 unfold KV at r
 induction r with
 | nil=>exact True.intro
 | @cons p q ps qs h t ih=>
  obtain⟨h1,h2⟩:=h
  by_cases e:p.1=k
  ·have e':q.1=k:=h1.symm.trans e
   have b:valueAt (q::qs) k=some q.2:=by simp[valueAt,List.find?_cons,e']
   rw[valV_pos e,b];exact h2
  ·have e':¬q.1=k:=fun z=>e (h1.trans z)
   have b:valueAt (q::qs) k=valueAt qs k:=by simp[valueAt,List.find?_cons,e']
   rw[valV_neg e,b];exact ih
theorem KV.any {kvs:List (κ×V)}{vs:List (κ×Value)}(r:KV kvs vs) (k:κ):(kvs.any fun kv=>decide (kv.1=k))=vs.any fun kv=>decide (kv.1=k):=by
 unfold KV at r
 induction r with
 | nil=>rfl
 | cons h t ih=>rw[List.any_cons,List.any_cons,ih,h.1]
theorem KV.repl {kvs:List (κ×V)}{vs:List (κ×Value)}(r:KV kvs vs) (k:κ) {y:V}{u:Value}(ry:RelV y u):
  KV (kvs.map fun kv=>if kv.1=k then (kv.1,y) else kv) (vs.map fun kv=>if kv.1=k then (kv.1,u) else kv):=by
 unfold KV at r ⊢
 induction r with
 | nil=>exact .nil
 | @cons p q ps qs h t ih=>
  rw[List.map_cons,List.map_cons]
  refine .cons ?_ ih
  obtain⟨h1,h2⟩:=h
  by_cases e:p.1=k
  ·rw[if_pos e,if_pos (h1.symm.trans e)];exact⟨h1,ry⟩
  ·rw[if_neg e,if_neg (fun z=>e (h1.trans z))];exact⟨h1,h2⟩
theorem KV.put {kvs:List (κ×V)}{vs:List (κ×Value)}(r:KV kvs vs) (k:κ) {y:V}{u:Value}(ry:RelV y u):KV (putK kvs k y) (stored vs k u):=by
 unfold putK stored
 rw[r.any k]
 by_cases e:(vs.any fun kv=>decide (kv.1=k))=true
 ·rw[if_pos e,if_pos e];exact r.repl k ry
 ·rw[if_neg e,if_neg e];exact Paired.snoc r ⟨rfl,ry⟩
theorem KV.length {kvs:List (κ×V)}{vs:List (κ×Value)}(r:KV kvs vs):kvs.length=vs.length:=Paired.length r
end
theorem kV_is {P:Program}{w:World}{k:Key}{u:Value}(r:RelV (kV k) u):(mixKind P w).is k u=true:=by
 cases k with
 | inl i=>obtain⟨t,e⟩:=(show ∃t,u=Value.int i t from r);subst e;exact mixKind_int P w i t
 | inr x=>obtain⟨t,e⟩:=(show ∃t,u=Value.str x t from r);subst e;exact mixKind_str P w x t
theorem items_are {P:Program}{w:World}:∀{ks:List Key}{us:List Value},Vals (ks.map kV) us→ItemsAre (mixKind P w) ks us
 | [],_,r=>by rw[List.map_nil]at r;cases r;exact .nil
 | k::ks,_,r=>by
  rw[List.map_cons]at r
  cases r with
  | cons h t=>exact .cons (kV_is h) (items_are t)
noncomputable abbrev KT (H:Hp):List (List Key×V)→List (List Key×Addr×Value)→Prop:=Paired fun p q=>p.1=q.1∧H q.2.1=some (.tup (p.1.map kV))∧RelV p.2 q.2.2
theorem KT.val {H:Hp}{kvs:List (List Key×V)}{xs:List (List Key×Addr×Value)}(r:KT H kvs xs) (k:List Key):RelO (valV kvs k) ((atKey xs k).map (·.2)):=by
 induction r with
 | nil=>exact True.intro
 | @cons p q ps qs h t ih=>
  obtain⟨h1,_,h2⟩:=h
  by_cases e:p.1=k
  ·have e':q.1=k:=h1.symm.trans e
   have b:atKey (q::qs) k=some q.2:=by simp[atKey,List.find?_cons,e']
   rw[valV_pos e,b];exact h2
  ·have e':¬q.1=k:=fun z=>e (h1.trans z)
   have b:atKey (q::qs) k=atKey qs k:=by simp[atKey,List.find?_cons,e']
   rw[valV_neg e,b];exact ih
theorem KT.repl {H:Hp}{kvs:List (List Key×V)}{xs:List (List Key×Addr×Value)}(r:KT H kvs xs) (k:List Key) {y:V}{u:Value}(ry:RelV y u):
  KT H (kvs.map fun kv=>if kv.1=k then (kv.1,y) else kv) (xs.map (putAt k u)):=by
 induction r with
 | nil=>exact .nil
 | @cons p q ps qs h t ih=>
  rw[List.map_cons,List.map_cons]
  refine .cons ?_ ih
  obtain⟨h1,h2,h3⟩:=h
  unfold putAt
  by_cases e:p.1=k
  ·rw[if_pos e,if_pos (h1.symm.trans e)];exact⟨h1,h2,ry⟩
  ·rw[if_neg e,if_neg (fun z=>e (h1.trans z))];exact⟨h1,h2,h3⟩
theorem KT.put {H:Hp}{kvs:List (List Key×V)}{xs:List (List Key×Addr×Value)}(r:KT H kvs xs) (k:List Key) {b:Addr}{y:V}{u:Value}(hb:H b=some (.tup (k.map kV))) (ry:RelV y u):
  KT H (putK kvs k y) (storedH xs k b u):=by
 have e:(kvs.any fun kv=>decide (kv.1=k))=(atKey xs k).isSome:=by
  rw[valV_any,(r.val k).isSome_eq,Option.isSome_map]
 unfold putK storedH
 rw[e]
 by_cases q:(atKey xs k).isSome=true
 ·rw[if_pos q,if_pos q];exact r.repl k ry
 ·rw[if_neg q,if_neg q];exact Paired.snoc r ⟨rfl,hb,ry⟩
theorem KT.keeps {H H':Hp}{kvs:List (List Key×V)}{xs:List (List Key×Addr×Value)}(r:KT H kvs xs) (ht:∀b ys,H b=some (.tup ys)→H' b=some (.tup ys)):KT H' kvs xs:=
 Paired.mapP r fun _ _ z=>⟨z.1,ht _ _ z.2.1,z.2.2⟩
section
variable {P:Program}{w:World}{H:Hp}{h:Heap}{a:Addr}
theorem rd_of {u:HO}(ok:HOk P w H h) (e:Rd H a u):ObjOk P w H h a u:=e.ok ok
theorem dk_rd {kvs:List (Key×V)}(ok:HOk P w H h) (e:Rd H a (.dK kvs)):kvs.length≤sizeLine∧(a == sysModules)=false∧∃vs,KV kvs vs∧h.DictOf (mixKind P w) a vs:=
 show ObjOk P w H h a (.dK kvs) from rd_of ok e
theorem dk_of {kvs:List (Key×V)}(ok:HOk P w H h) (e:H a=some (.dK kvs)):kvs.length≤sizeLine∧(a == sysModules)=false∧∃vs,KV kvs vs∧h.DictOf (mixKind P w) a vs:=dk_rd ok (.inl e)
theorem key_of {ks:List Key}(ok:HOk P w H h) (e:H a=some (.tup (ks.map kV))):(tupleKind (mixKind P w)).is h ks a:=by
 obtain⟨_,its,r,o,h1,h2,n,h3⟩:=(show ObjOk P w H h a (.tup (ks.map kV)) from ok a _ e)
 exact⟨o,its.toArray,n,h1,h2,h3,by simpa using items_are r⟩
theorem dt_rd {kvs:List (List Key×V)}(ok:HOk P w H h) (e:Rd H a (.dT kvs)):kvs.length≤sizeLine∧(a == sysModules)=false∧
  ∃xs,KT H kvs xs∧h.DictOfH (tupleKind (mixKind P w)) a xs:=by
 obtain⟨z,y,xs,r,o,es,ep,h1,h2,h3,h4,h5⟩:=(show ObjOk P w H h a (.dT kvs) from rd_of ok e)
 refine⟨z,y,xs,r,o,es,ep,h1,h2,h3,h4,fun x hx => ?_,h5⟩
 have all:∀{l:List (List Key×V)}{m:List (List Key×Addr×Value)},KT H l m→∀x∈m,(tupleKind (mixKind P w)).is h x.1 x.2.1:=by
  intro l m q
  induction q with
  | nil=>intro x hx;exact nomatch hx
  | @cons p q ps qs hq t ih=>
   intro x hx
   rcases List.mem_cons.mp hx with e | hx
   ·subst e
    exact key_of ok (by rw[←hq.1];exact hq.2.1)
   ·exact ih x hx
 exact all r x hx
theorem dt_of {kvs:List (List Key×V)}(ok:HOk P w H h) (e:H a=some (.dT kvs)):kvs.length≤sizeLine∧(a == sysModules)=false∧
  ∃xs,KT H kvs xs∧h.DictOfH (tupleKind (mixKind P w)) a xs:=dt_rd ok (.inl e)
end
def DGet (H:Hp) (a:Addr) (y:V) (r:Option V):Prop:=
 (∃kvs k,Rd H a (.dK kvs)∧y=kV k∧r=valV kvs k)∨∃kvs k b,Rd H a (.dT kvs)∧y=.ref b∧H b=some (.tup (k.map kV))∧r=valV kvs k
def DPut (H:Hp) (a:Addr) (y v:V) (H':Hp):Prop:=
 (∃kvs k,H a=some (.dK kvs)∧y=kV k∧kvs.length<sizeLine∧H'=upd H a (.dK (putK kvs k v))) ∨
 ∃kvs k b,H a=some (.dT kvs)∧y=.ref b∧H b=some (.tup (k.map kV))∧kvs.length<sizeLine∧H'=upd H a (.dT (putK kvs k v))
theorem DGet.k {H:Hp}{a:Addr}{kvs:List (Key×V)}{k:Key}(e:H a=some (.dK kvs)):DGet H a (kV k) (valV kvs k):=.inl ⟨kvs,k,.inl e,rfl,rfl⟩
theorem DGet.t {H:Hp}{a b:Addr}{kvs:List (List Key×V)}{k:List Key}(e:H a=some (.dT kvs)) (eb:H b=some (.tup (k.map kV))):DGet H a (.ref b) (valV kvs k):=.inr ⟨kvs,k,b,.inl e,rfl,eb,rfl⟩
theorem DPut.k {H:Hp}{a:Addr}{kvs:List (Key×V)}{k:Key}{v:V}(e:H a=some (.dK kvs)) (hl:kvs.length<sizeLine):DPut H a (kV k) v (upd H a (.dK (putK kvs k v))):=.inl ⟨kvs,k,e,rfl,hl,rfl⟩
theorem DPut.t {H:Hp}{a b:Addr}{kvs:List (List Key×V)}{k:List Key}{v:V}(e:H a=some (.dT kvs)) (eb:H b=some (.tup (k.map kV))) (hl:kvs.length<sizeLine):
  DPut H a (.ref b) v (upd H a (.dT (putK kvs k v))):=.inr ⟨kvs,k,b,e,rfl,eb,hl,rfl⟩
section
variable {X:Cx}{pins:Lo}{σ:St}{H:Hp}{s:Shared}{a:Addr}{y v:V}{u r:Value}{o:Option V}{A:Around}{E:Vs}
theorem Inv.big (I:Inv X pins σ H s):sysModules<s.heap.objs.size:=by
 have h:mainGlobals<s.heap.objs.size:=(I.mod.glob.keeps I.bk).lt
 exact Nat.lt_trans (by decide) h
theorem d_in {Q:Vs}(hu:A.units+1<cLine) (I:Inv X pins σ H s) (g:DGet H a y o) (ry:RelV y u) (h:∀s',Inv X pins σ H s'→Q (.bool o.isSome) s'):
  wpAny (model X.prog X.w) A (compareOp .In u (.ref a)) Q E s:=by
 rcases g with ⟨kvs,k,e,ey,l⟩ | ⟨kvs,k,b,e,ey,eb,l⟩
 ·subst ey
  obtain⟨z,hd,vs,rel,dd⟩:=dk_rd I.hok e
  refine wpAny_in_of (kV_is ry) hd dd.mapOf ?_
  rw[←(rel.val k).isSome_eq,←l]
  exact h _ (I.tok _)
 ·subst ey
  cases (show u=Value.ref b from ry)
  obtain⟨z,hd,xs,rel,dd⟩:=dt_rd I.hok e
  refine wpAny_in_heap (tupleKind_room_in1 hu) (key_of I.hok eb) hd dd ?_
  have q:=(rel.val k).isSome_eq
  rw[Option.isSome_map]at q
  rw[←q,←l]
  exact h _ (I.tok _)
theorem d_write {h':Heap}{t':Nat}{ob:HO}(I:Inv X pins σ H s) (mu:Mut (H a)) (hs:Heap.SameBut a s.heap h') (he:∃q,h'.get? a=some q) (new:ObjOk X.prog X.w (upd H a ob) h' a ob):
  Inv X pins σ (upd H a ob) { s with heap:=h',toks:=t' }:=
 I.write (x:=a) (e:=a) mu (.inl rfl) (fun b q hb z=>(hs.2 b hb).trans z) he new
theorem dk_new {P:Program}{w:World}{H':Hp}{h':Heap}{kvs:List (Key×V)}{vs:List (Key×Value)}(z:kvs.length≤sizeLine) (hd:(a == sysModules)=false) (rel:KV kvs vs) (dd:h'.DictOf (mixKind P w) a vs):
  ObjOk P w H' h' a (.dK kvs):=⟨z,hd,vs,rel,dd⟩
theorem d_setItem {H':Hp}{Q:Unit→Shared→Prop}(hu:A.units+1<cLine) (I:Inv X pins σ H s) (g:DPut H a y v H') (ry:RelV y u) (rv:RelV v r) (h:∀s',Inv X pins σ H' s'→Q () s'):
  wpAny (model X.prog X.w) A (setItem (.ref a) u r) Q E s:=by
 rcases g with ⟨kvs,k,e,ey,l,eH⟩ | ⟨kvs,k,b,e,ey,eb,l,eH⟩
 ·subst ey eH
  obtain⟨z,hd,vs,rel,dd⟩:=dk_of I.hok e
  have hz:vs.length≤sizeLine:=by rw[←rel.length];exact z
  have hl:(putK kvs k v).length≤sizeLine:=by have:=length_putK kvs k v;omega
  refine wpAny_setItem_pairs (hsz:=hz) (kV_is ry) dd fun h' dd' hs=>h _ ?_
  have he:∃q,h'.get? a=some q:=let ⟨q,_,_,hq,_⟩:=dd';⟨q,hq⟩
  exact d_write I (by rw[e];exact True.intro) hs he (dk_new hl hd (rel.put k rv) dd')
 ·subst ey eH
  cases (show u=Value.ref b from ry)
  obtain⟨z,hd,xs,rel,dd⟩:=dt_of I.hok e
  have hz:xs.length≤sizeLine:=by rw[←Paired.length rel];exact z
  have hl:(putK kvs k v).length≤sizeLine:=by have:=length_putK kvs k v;omega
  refine wpAny_setItem_heap (hsz:=hz) (tupleKind_room_in1 hu) (key_of I.hok eb) dd fun h' dd' hs=>h _ ?_
  obtain⟨q,es,ep,hq,h2,h3,h4,_,h5⟩:=dd'
  refine d_write I (by rw[e];exact True.intro) hs ⟨q,hq⟩ ⟨hl,hd,_,(rel.put k eb rv).keeps fun c ys ec => ?_,q,es,ep,hq,h2,h3,h4,h5⟩
  rw[upd_ne (ne_of ec e (fun z=>nomatch z))]
  exact ec
end
section
variable {X:Cx}{pins:Lo}{σ:St}{H:Hp}{s:Shared}{a:Addr}{kvs:List (Key×V)}{k:Key}{u:Value}{A:Around}{E:Vs}
end
def tDGet (td ty:TE):TE:=fun σ H Q=>td σ H fun x H1=>ty σ H1 fun y H2=>∃a v,x=.ref a∧DGet H2 a y (some v)∧Q v H2
def tDIn (ty td:TE):TE:=fun σ H Q=>ty σ H fun y H1=>td σ H1 fun x H2=>∃a o,x=.ref a∧DGet H2 a y o∧Q (.bl o.isSome) H2
def tDNotIn (ty td:TE):TE:=fun σ H Q=>ty σ H fun y H1=>td σ H1 fun x H2=>∃a o,x=.ref a∧DGet H2 a y o∧Q (.bl (!o.isSome)) H2
def sDPut (td ty tv:TE):TS:=fun D σ H=>tv σ H fun v H1=>td σ H1 fun x H2=>ty σ H2 fun y H3=>∃a H4,x=.ref a∧DPut H3 a y v H4∧D.nx σ H4
section
variable {X:Cx}{o i e value:Expr}{pos pos' tpos:Pos}{td ty tv:TE}
theorem pc_din (hu:X.A.units+1<cLine) (hi:PE X i ty) (ho:PE X o td):PC X .In i o (tDIn ty td):=by
 intro pins s σ H Q I h
 refine thn (hi pins s σ H _ I h) fun iv s1 ⟨y,H1,I1,ry,q1⟩=>thn (ho pins s1 σ H1 _ I1 q1) fun u s2 ⟨x,H2,I2,rx,a,ov,ex,g,q2⟩ => ?_
 subst ex
 obtain rfl:u=Value.ref a:=rx
 exact d_in hu I2 g ry fun s3 I3=>⟨.bl ov.isSome,H2,I3,rfl,q2⟩
theorem ps_dput (hu:X.A.units+1<cLine) (ho:PE X o td) (hi:PE X i ty) (hv:PE X value tv) (hs:swapsWith value (some (.Subscript o i pos')) pos.line X.env=pure false):
  PS X (.Assign [.Subscript o i pos'] value pos) (sDPut td ty tv):=by
 intro pins s σ H D I h
 refine wpAny_Assign_Subscript (thn (hv pins s σ H _ I h) fun r s1 ⟨v,H1,I1,rv,q1⟩=>thn (ho pins s1 σ H1 _ I1 q1) fun u s2 ⟨x,H2,I2,rx,q2⟩=>thn (hi pins s2 σ H2 _ I2 q2) fun iv s3 ⟨y,H3,I3,ry,a,H4,ex,g,q3⟩ => ?_) hs
 subst ex
 obtain rfl:u=Value.ref a:=rx
 exact d_setItem hu I3 g ry rv fun s4 I4=>⟨σ,H4,I4,q3⟩
end
theorem dk_empty {P:Program}{w:World}{H:Hp}(h:Heap) (hb:sysModules<h.objs.size):ObjOk P w H (h.push { cls:=.type "dict", data:=.dict #[] }) h.objs.size (.dK []):=
 ⟨Nat.zero_le _,beq_eq_false_iff_ne.mpr (Ne.symm (Nat.ne_of_lt hb)),[],.nil,Heap.DictOf.new h⟩
theorem dt_empty {P:Program}{w:World}{H:Hp}(h:Heap) (hb:sysModules<h.objs.size):ObjOk P w H (h.push { cls:=.type "dict", data:=.dict #[] }) h.objs.size (.dT []):=
 ⟨Nat.zero_le _,beq_eq_false_iff_ne.mpr (Ne.symm (Nat.ne_of_lt hb)),[],.nil,_,#[],0,Heap.get?_push_size _ rfl,⟨rfl,rfl,rfl⟩,rfl,rfl,List.nodup_nil⟩
def tDNewK:TE:=fun _ H Q=>∀p,H p=none→Q (.ref p) (upd H p (.dK []))
def tDNewT:TE:=fun _ H Q=>∀p,H p=none→Q (.ref p) (upd H p (.dT []))
section
variable {X:Cx}{pos:Pos}
theorem pe_dnewK:PE X (.Dict [] [] pos) tDNewK:=fun pins s σ H Q I h=>
 wpAny_Dict_empty ⟨.ref s.heap.objs.size,_,I.laid (a:=s.heap.objs.size) (o:=.dK []) (t':=s.toks) (fun _ _ q=>Heap.get?_push_of_some _ q) (Nat.le_refl _) (dk_empty s.heap I.big),rfl,h _ (I.hok.fresh (Nat.le_refl _))⟩
theorem pe_dnewT:PE X (.Dict [] [] pos) tDNewT:=fun pins s σ H Q I h=>
 wpAny_Dict_empty ⟨.ref s.heap.objs.size,_,I.laid (a:=s.heap.objs.size) (o:=.dT []) (t':=s.toks) (fun _ _ q=>Heap.get?_push_of_some _ q) (Nat.le_refl _) (dt_empty s.heap I.big),rfl,h _ (I.hok.fresh (Nat.le_refl _))⟩
end
set_option genInjectivity false in
structure M1 (X:Cx) (o:Expr) (m:Str) (apos:Pos) (e:Expr) (cpos:Pos):Prop where
 base:attributeBase o m X.env (eval o X.env)=eval o X.env
 few:((backTo cpos (starEach [e] X.env)).all (fun x => !x.1)&&(backToKw cpos (keywordEach [] X.env)).all (fun x=>x.1.isSome)
  && decide (([e]:List Expr).length+([]:List Keyword).length+(if ([]:List Keyword).isEmpty then 0 else 1)<30))=true
 line:(apos.endLine == cpos.line)=true
 trees:backTo cpos (starEach [e] X.env)=[(false,eval e X.env)]
set_option genInjectivity false in
structure M2 (X:Cx) (o:Expr) (m:Str) (apos:Pos) (e f:Expr) (cpos:Pos):Prop where
 base:attributeBase o m X.env (eval o X.env)=eval o X.env
 few:((backTo cpos (starEach [e,f] X.env)).all (fun x => !x.1)&&(backToKw cpos (keywordEach [] X.env)).all (fun x=>x.1.isSome)
  && decide (([e,f]:List Expr).length+([]:List Keyword).length+(if ([]:List Keyword).isEmpty then 0 else 1)<30))=true
 line:(apos.endLine == cpos.line)=true
 trees:backTo cpos (starEach [e,f] X.env)=[(false,eval e X.env),(false,eval f X.env)]
def IsD (H:Hp) (a:Addr):Prop:=(∃kvs,Rd H a (.dK kvs))∨∃kvs,Rd H a (.dT kvs)
theorem isD_at {X:Cx}{pins:Lo}{σ:St}{H:Hp}{s:Shared}{a:Addr}(I:Inv X pins σ H s) (d:IsD H a):
  s.TypeIs (.ref a) "dict" ∧ (∀b,Value.ref a=.ref b→∃ob,s.heap.get? b=some ob∧ob.dict=none)∧(a == sysModules)=false:=by
 rcases d with ⟨kvs,e⟩ | ⟨kvs,e⟩
 ·obtain⟨_,hd,vs,_,dd⟩:=dk_rd I.hok e
  refine⟨dd.typeIs,fun b q => ?_,hd⟩
  cases q
  obtain⟨ob,_,_,h1,h2,_⟩:=dd
  exact⟨ob,h1,h2.2.1⟩
 ·obtain⟨_,hd,xs,_,dd⟩:=dt_rd I.hok e
  refine⟨dd.typeIs,fun b q => ?_,hd⟩
  cases q
  obtain⟨ob,_,_,h1,h2,_⟩:=dd
  exact⟨ob,h1,h2.2.1⟩
section
variable {X:Cx}{pins:Lo}{σ:St}{H:Hp}{s:Shared}{a:Addr}{y d:V}{u r:Value}{o:Option V}{A:Around}{E:Vs}
theorem d_get2 {Q:Vs}(hu:A.units+1<cLine) (I:Inv X pins σ H s) (g:DGet H a y o) (ry:RelV y u) (rd:RelV d r) (h:∀w' s',Inv X pins σ H s'→RelV (o.getD d) w'→Q w' s'):
  wpAny (model X.prog X.w) A (call (.builtin "dict.get") [.ref a,u,r]) Q E s:=by
 rcases g with ⟨kvs,k,e,ey,l⟩ | ⟨kvs,k,b,e,ey,eb,l⟩
 ·subst ey
  obtain⟨z,hd,vs,rel,dd⟩:=dk_rd I.hok e
  refine call_meetsIn PySem.F.slot_dict_get dd.typeIs PySem.F.entry_dict_get (PySem.F.args_dict_get_3 _ _ _) (meets_dict_get_default (mixKind X.prog X.w) a (kV_is ry) hd r) ⟨_,dd.mapOf,h _ _ (I.tok _) ?_⟩
  rw[l]
  exact (rel.val k).getD rd
 ·subst ey
  cases (show u=Value.ref b from ry)
  obtain⟨z,hd,xs,rel,dd⟩:=dt_rd I.hok e
  refine call_meetsIn PySem.F.slot_dict_get dd.typeIs PySem.F.entry_dict_get (PySem.F.args_dict_get_3 _ _ _) (meetsH_dict_get_default (tupleKind (mixKind X.prog X.w)) a b hd r) ⟨tupleKind_room_in1 hu,k,xs,key_of I.hok eb,dd,h _ _ (I.tok _) ?_⟩
  rw[l]
  exact (rel.val k).getD rd
end
def tDGet1 (td ty:TE):TE:=fun σ H Q=>td σ H fun x H1=>∃a,x=.ref a∧IsD H1 a∧ty σ H1 fun y H2=>∃o,DGet H2 a y o∧Q (o.getD .non) H2
def tDGet2 (td ty tx:TE):TE:=fun σ H Q=>td σ H fun x H1=>∃a,x=.ref a∧IsD H1 a∧ty σ H1 fun y H2=>tx σ H2 fun z H3=>∃o,DGet H3 a y o∧Q (o.getD z) H3
section
variable {X:Cx}{o e f:Expr}{apos cpos:Pos}{td ty tx:TE}
theorem pe_dget2 (hu:X.A.units+1<cLine) (ho:PE X o td) (he:PE X e ty) (hf:PE X f tx) (m:M2 X o "get" apos e f cpos):PE X (.Call (.Attribute o "get" apos) [e,f] [] cpos) (tDGet2 td ty tx):=by
 intro pins s σ H Q I h
 refine wpAny_Call_method m.base m.few m.line PySem.F.plainAttrs_dict PySem.F.slot_dict_get PySem.F.type_dict_get (thn (ho pins s σ H _ I h) fun u s1 ⟨x,H1,I1,rx,a,ex,d,q1⟩ => ?_)
 subst ex
 obtain rfl:u=Value.ref a:=rx
 obtain⟨t1,t2,_⟩:=isD_at I1 d
 refine⟨t1,t2,?_⟩
 rw[m.trees]
 refine Calls.callWith_builtin rfl (Calls.evalArgs_plain (Calls.spliced_cons (thn (he pins s1 σ H1 _ I1 q1) fun iv s2 ⟨y,H2,I2,ry,q2⟩=>
  Calls.spliced_cons (thn (hf pins s2 σ H2 _ I2 q2) fun fv s3 ⟨z,H3,I3,rz,ov,g,q3⟩=>Calls.spliced_nil ?_))))
 exact d_get2 hu I3 g ry rz fun w' s4 I4 rw'=>⟨_,H3,I4,rw',q3⟩
end
section
variable {X:Cx}{pins:Lo}{σ:St}{H:Hp}{s:Shared}{a:Addr}{kvs:List (Key×V)}{A:Around}{E:Vs}
end
section
variable {X:Cx}{pins:Lo}{σ:St}{H:Hp}{s:Shared}{a:Addr}{y:V}{u:Value}{A:Around}{E:Vs}
end
end L2
namespace Att
open PySem PySem.W PySem.Calls PyProof.Rows
theorem ints_of_wellAll {P:Params}{h:Heap}:∀(ns:List Int) (vs:List Value),WellAll P h vs (ns.map WData.int)→IntsAre vs ns:=by
 intro ns
 induction ns with
 | nil=>
  intro vs w
  rw[List.map_nil]at w
  cases w
  exact .nil
 | cons n ns ih=>
  intro vs w
  rw[List.map_cons]at w
  cases w with
  | cons a b=>
   cases a
   exact .cons _ _ (ih _ b)
theorem script_of {l:OpenLaw}{n:Nat}(hn:l.most=some n) {P:Params}{h:Heap}{args:List WData}{vals:List Value}
  (hpre:l.row.toRowW.claim.pre args=true) (hwl:WellAll P h vals args):
  ∃a vs ns,vals=[Value.ref a]∧args=[WData.list (ns.map WData.int)]∧h.get? a=some { cls:=.type "list", data:=.seq vs.toArray }∧IntsAre vs ns∧ns.length≤n:=by
 have hsh:WShape.hasAll [] args [.list .int]=true:=(pre_splitW hpre).1
 have hc:l.pre.holds [] { args:=args }=true:=(pre_splitW hpre).2
 obtain⟨d,r,rfl,h1,h2⟩:=hasAllW_cons hsh
 obtain rfl:=hasAllW_nil h2
 obtain⟨xs,rfl,h3⟩:=hasW_list h1
 obtain⟨ns,rfl⟩:=items_int h3
 have hlen:ns.length≤n:=by
  unfold OpenLaw.pre at hc
  have h4:(WTm.not (.lt (.lit (.int (n:Int))) (.len (.arg 0)))).holds [] { args:=[.list (ns.map .int)] }=true:=by
   have h4:=(holds_andW hc).1
   rw[hn]at h4
   exact h4
  have h5:=condW_of h4 (w_not (w_lt w_lit (w_len_list (w_arg rfl))))
  rw[List.length_map]at h5
  refine Nat.le_of_not_lt fun q => ?_
  have q':(n:Int)<((ns.length:Nat):Int):=by omega
  first
   | (rw[decide_eq_true q']at h5;exact absurd h5 (by decide))
   | (simp at h5;omega)
 cases hwl with
 | cons w1 w2=>
  cases w2
  cases w1 with
  | list ho hall=>exact⟨_,_,ns,rfl,rfl,ho,ints_of_wellAll ns _ hall,hlen⟩
theorem post_true (l:OpenLaw) (args:List WData):l.row.toRowW.claim.post args (.bool true) args=true:=
 postW_of (r:=l.row.toRowW) (X:=(true == true))
  (show WShape.has [] (.bool true) .bool=true by first | rfl | decide | simp[WShape.has,WShape.arms,WShape.armsAll])
  (show (WTm.eq .res (.lit (.bool true))).value [] { args:=args,res:=some (.bool true),after:=args }=some (.bool (true == true)) from w_eq_bool (w_res rfl) w_lit) rfl
theorem attach_call {l:OpenLaw}{n:Nat}{q:Program}{loose:List Str}{XP:(Str→Option Value)→Heap→Prop}{YP:World→Heap→Prop}{d:DefRec}
  (hn:l.most=some n) (hdf:d.params.defaults=[])
  (call:∀(w:World) (s₀ s₁:Shared) (mg mb:So) (fa:Addr) (o:Obj) (pm cd doc:Value) (a:Addr) (vs:List Value) (ns:List Int),
   Ground q loose [] XP w s₀ mg mb s₁.heap→YP w s₁.heap→
   s₁.heap.get? fa=some o→o.data=.func (docDef d.name d.params d.body d.scope pm cd doc)→s₁.heap.CodeRec cd d.name→mg d.name=some (.ref fa)→
   s₁.heap.get? a=some { cls:=.type "list", data:=.seq vs.toArray }→IntsAre vs ns→ns.length≤n→s₁.gens=#[]→
   codeAny (model l.prog w) callerA (.call (.ref fa) ⟨[.ref a],[]⟩) (fun r s'=>r=.ok (.ret (.bool true))∧OldK s₁.heap s'.heap∧s'.os=s₁.os∧AllBare s'.gens) s₁):
  WalkO q loose XP YP l.row.toRowW d [] (fun f vs=>PySem.call f vs):=by
 intro w s₀ s₁ mg mb G Y fa o pm cd doc dV kV ho hd hcd hD hmg hg args vals as hpre hlay hrd hwl hlo
 obtain rfl:dV=.none:=Dflts.none hD hdf
 obtain rfl:kV=.none:=Dflts.noKw hD
 obtain⟨a,vs,ns,rfl,rfl,hobj,hints,hlen⟩:=script_of hn hpre hwl
 refine enter_call (codeAny_mono (call w s₀ s₁ mg mb fa o pm cd doc a vs ns G Y ho (fd_plain hd) hcd hmg hobj hints hlen hg) fun r s' hq => ?_)
 obtain⟨rfl,h2,h3,h4⟩:=hq
 exact⟨.inl ⟨.bool true,.bool true,[],rfl,fun _=>rfl,.bool true,post_true l _,fun _=>⟨List.Pairwise.nil,fun _ hm=>(nomatch hm)⟩⟩,h2,h3,h4⟩
section
variable {prog:Program}{w:World}{A:Around}{E:Vs}{s:Shared}{K:Frag}
noncomputable def ledger (h:Heap) (L d:Addr):Lo:=(List.range h.objs.size).filterMap fun a=>if a=L∨a=d then none else (h.get? a).map fun o=>(a,o)
end
end Att
namespace L2
open PySem PySem.Spec PyProof.Rows
theorem vals_ints:∀{vs:List Value}{ns:List Int},IntsAre vs ns→Vals (ns.map V.int) vs
 | _,_,.nil=>.nil
 | _,_,.cons n t h=>.cons ⟨t,rfl⟩ (vals_ints h)
def Only (H:Hp):Prop:=∀b,H b=none∨∃o xs,H b=some (.frz o (.lst xs))
theorem law_call {P:Program}{w:World}{K:Wf}{mg mb:So}{CX:CXT}{k:Nat}{fa a:Addr}{fd:FuncData}{x:Str}{sp:Sp}{s₁:Shared}{vs:List Value}{ns:List Int}
  (KX:K.In s₁.heap) (hns:s₁.heap.Ns mainGlobals mg) (hb:s₁.heap.Ns builtinsNs mb) (hbb:∀x:Str,x ≠ "__name__" → mb x=bootBuiltins x) (hlim:s₁.heap.NoLimit) (hg:s₁.gens=#[])
  (ha:s₁.heap.get? a=some { cls:=.type "list", data:=.seq vs.toArray }) (hi:IntsAre vs ns) (hl:ns.length≤sizeLine) (hr:Room k callerA)
  (F:∀base:Heap,K.In base→base.Ns mainGlobals mg→FnOk P w K mg base CX k fa fd [x] sp) (hbind:∀(s:Shared) (u:Value),BindsTo s fd ⟨[u],[]⟩ [(x,u)])
  (hsp:∀H:Hp,Only H→SqL K H a (ns.map V.int)→sp [.ref a] H (fun v _=>v=.bl true) fun _ _ _=>False)
  (hCX:∀H e s',CX [] H s₁ (fun _ _ _=>False) e s'→False):
  codeAny (model P w) callerA (.call (.ref fa) ⟨[.ref a],[]⟩) (fun r s'=>r=.ok (.ret (.bool true))∧OldK s₁.heap s'.heap∧s'.os=s₁.os∧AllBare s'.gens) s₁:=by
 have rv:=vals_ints hi
 have lenV:=hi.length
 have core:∀H:Hp,Only H→SqL K H a (ns.map V.int)→HOk P w H s₁.heap→(∀b,H b≠none→b=a)→(H a≠none→K.lookup a=none)→
   codeAny (model P w) callerA (.call (.ref fa) ⟨[.ref a],[]⟩) (fun r s'=>r=.ok (.ret (.bool true))∧OldK s₁.heap s'.heap∧s'.os=s₁.os∧AllBare s'.gens) s₁:=by
  intro H hO hS hok hA hK
  have base_of:∀{b:Addr}{o:Obj},s₁.heap.get? b=some o→H b=none→(hidT s₁.heap H).get? b=some o:=fun e n=>hidT_get e n
  have noA:∀{b:Addr}{o:Obj}{es:Array DictEntry}{ep:Nat},s₁.heap.get? b=some o→o.data=.dict es ep→H b=none:=fun {b o es ep} e d=>by
   cases q:H b with
   | none=>rfl
   | some u=>
    have e':b=a:=hA b (by rw[q];simp)
    subst e'
    rw[ha]at e;cases e
    have d':Data.seq vs.toArray _=Data.dict es ep:=d
    cases d'
  have nsK:∀{b:Addr}{m:So},s₁.heap.Ns b m→(hidT s₁.heap H).Ns b m:=fun {b m} ⟨o,es,ep,e,d,r⟩=>⟨o,es,ep,base_of e (noA e d),d,r⟩
  have hKb:K.In (hidT s₁.heap H):=fun b o e=>base_of (KX b o e) (by
   cases q:H b with
   | none=>rfl
   | some u=>
    have e':b=a:=hA b (by rw[q];simp)
    subst e'
    rw[hK (by rw[q];simp)]at e;cases e)
  have hM:Mod K mg (hidT s₁.heap H):=⟨hKb,nsK hns,⟨mb,nsK hb,hbb⟩,let ⟨mc,h1,h2⟩:=hlim;⟨mc,nsK h1,h2⟩⟩
  have e0:Env0 P w K mg (hidT s₁.heap H) callerA [] s₁ H:=⟨rfl,hM,fun b o e=>of_hidT e,Nat.le_of_eq (hidT_size _ _),trivial,fun b hb=>absurd (show b∈([]:List Addr) from hb) (by simp),hok,.of_eq hg⟩
  refine codeAny_mono ((F _ hKb (nsK hns)).run callerA [] s₁ H ⟨[.ref a],[]⟩ [.ref a] [.ref a] _ _ hr e0 (hbind s₁ (.ref a)) (.cons rfl .nil) (hsp H hO hS)) fun r s' h => ?_
  cases r with
  | error e=>exact (hCX H e s' h).elim
  | ok fl=>
   cases fl with
   | next=>exact False.elim h
   | brk=>exact False.elim h
   | cont=>exact False.elim h
   | ret u=>
    obtain⟨v,H',os,bare,un,hok',r',q⟩:=h
    have q':v=.bl true:=q
    subst q'
    obtain rfl:u=Value.bool true:=r'
    refine⟨rfl,OldK.of_keep fun b o e => ?_,os,bare⟩
    cases q:H b with
    | none=>exact un.keep b o e q (by intro z;exact absurd (show b∈([]:List Addr) from z) (by simp)) (by simp)
    | some u=>
     rcases hO b with z | ⟨ob,xs,z⟩
     ·rw[q]at z;cases z
     ·have z2:=un.frzs b ob _ z
      obtain⟨e1,_⟩:=hok b _ z
      obtain⟨e2,_⟩:=hok' b _ z2
      rw[e]at e1;cases e1
      exact e2
 cases hk:K.lookup a with
 | some o=>
  have e:=KX a o hk
  rw[ha]at e
  cases e
  refine core (fun _=>none) (fun _=>.inl rfl) (.inr ⟨_,vs.toArray,_,hk,rfl,rfl,rfl,by rw[List.size_toArray,lenV];exact hl,by simpa using rv⟩) (fun b u z=>by have z':(none:Option HO)=some u:=z;cases z') (fun b z=>absurd rfl z) fun z=>absurd rfl z
 | none=>
  refine core (fun b=>if b=a then some (.frz { cls:=.type "list", data:=.seq vs.toArray } (.lst (ns.map V.int))) else none) (fun b => ?_) (.inl (.inr ⟨{ cls:=.type "list", data:=.seq vs.toArray },if_pos rfl⟩)) (fun b u z => ?_) (fun b z => ?_) fun _=>hk
  ·by_cases hb:b=a
   ·exact .inr ⟨_,_,if_pos hb⟩
   ·exact .inl (if_neg hb)
  ·by_cases hb:b=a
   ·have z':=(if_pos hb).symm.trans z
    cases z'
    subst hb
    exact⟨ha,by rw[List.length_map];exact hl,vs,_,rv,ha⟩
   ·have z':=(if_neg hb).symm.trans z
    cases z'
  ·by_cases hb:b=a
   ·exact hb
   ·exact absurd (if_neg hb) z
end L2
namespace L2
open PySem PySem.Spec PyProof.Rows
theorem walk_of {l:PySem.W.OpenLaw}{n k:Nat}{q:Program}{loose:List Str}{XP:(Str→Option Value)→Heap→Prop}{YP:World→Heap→Prop}{d:DefRec}{K:Params→Wf}{CX:World→CXT}{sp:World→Sp}{x:Str}
  (hn:l.most=some n) (hn2:n≤sizeLine) (hdf:d.params.defaults=[]) (hr:Room k callerA)
  (hY:∀(w:World) (h:Heap),YP w h→(K w.params).In h)
  (F:∀(w:World) (mg:So) (fa:Addr) (h:Heap),(K w.params).In h→h.Ns mainGlobals mg→mg d.name=some (.ref fa)→
   ∃fd:FuncData,(∀(s:Shared) (u:Value),BindsTo s fd ⟨[u],[]⟩ [(x,u)])∧
    ∀base:Heap,(K w.params).In base→base.Ns mainGlobals mg→FnOk l.prog w (K w.params) mg base (CX w) k fa fd [x] (sp w))
  (hsp:∀(w:World) (H:Hp) (a:Addr) (ns:List Int),ns.length≤n→Only H→SqL (K w.params) H a (ns.map V.int)→sp w [.ref a] H (fun v _=>v=.bl true) fun _ _ _=>False)
  (hCX:∀(w:World) (H:Hp) (s:Shared) (e:Value) (s':Shared),CX w [] H s (fun _ _ _=>False) e s'→False):
  PySem.W.WalkO q loose XP YP l.row.toRowW d [] (fun f vs=>PySem.call f vs):=by
 refine Att.attach_call hn hdf fun w s₀ s₁ mg mb fa o pm cd doc a vs ns G Y ho hd hcd hmg hobj hints hlen hg => ?_
 have KX:=hY w _ Y
 obtain⟨fd,hb,hF⟩:=F w mg fa _ KX G.T.g hmg
 exact law_call KX G.T.g G.T.b G.T.builtins G.T.nolimit hg hobj hints (Nat.le_trans hlen hn2) hr hF hb (fun H hO hS=>hsp w H a ns hlen hO hS) fun H e s'=>hCX w H s₁ e s'
end L2
namespace L2
open PySem PySem.Spec PyProof.Rows
noncomputable def inClass (s:Stmt) (j:Nat):Stmt:=match s with
 | .ClassDef _ _ _ body _ _ _ _ _ _ _=>body.getD j (.Pass ⟨0,0,0,0⟩)
 | _=>.Pass ⟨0,0,0,0⟩
noncomputable def defArgs (s:Stmt):Arguments:=match s with
 | .FunctionDef _ a _ _ _ _ _ _ _ _=>a
 | _=>{ posonlyargs:=[],args:=[],vararg:=none,kwonlyargs:=[],kw_defaults:=[],kwarg:=none,defaults:=[] }
noncomputable def defBody (s:Stmt):List Stmt:=match s with
 | .FunctionDef _ _ b _ _ _ _ _ _ _=>b
 | _=>[]
noncomputable def defScope (s:Stmt):Scope:=match s with
 | .FunctionDef _ _ _ _ _ _ sc _ _ _=>sc
 | _=>{ kind:=.function,names:=[],isGenerator:=false,isCoroutine:=false }
noncomputable abbrev CX0:CXT:=fun _ _ _ _ _ _=>False
noncomputable abbrev E0:XK:=fun _ _ _=>False
theorem pass0 {X:Cx}:Passes CX0 X E0:=fun _ _ _ _ _ _ _ h=>h.elim
set_option genInjectivity false in
structure Fun (K:Wf) (x qual:Str) (st:Stmt) (f:Addr) (fd:FuncData):Prop where
 ex:∃(oc:Value) (od:Option Addr) (kV doc pm:Value) (an:Option Addr) (cdv ct:Value) (osl:Array (Option Value)),
  fd=PySem.W.fnOf x qual (defArgs st) (defBody st) (defScope st) .none kV doc pm an cdv ct∧K.lookup f=some ⟨oc,od,.func fd,osl⟩∧PySem.W.codeIn K cdv qual=true
 kp:PySem.W.keepIn K (.ref f)=true
section
variable {P:Program}{w:World}{K:Wf}{mg:So}{base:Heap}
theorem Fun.ok {x qual:Str}{st:Stmt}{f:Addr}{fd:FuncData}{N ps:List Str}{k:Nat}{sp:Sp}(F:Fun K x qual st f fd) (S:FnScope N ps (defScope st)) (len:∀vs H Q E,sp vs H Q E→vs.length=ps.length)
  (hbody:∀(cdv:Value) (A:Around) (outer:List Env) (s:Shared) (H:Hp) (vs:List V) (Q:VK) (E:XK),Room k (A.deeper (envOfC qual (defScope st) s.heap.objs.size f cdv))→sp vs H Q E→
   ∃t,PSs (cxOf CX0 P w K mg base N qual (defScope st) f cdv A outer s H E).nox (defBody st) t∧t { nx:=fun _ H'=>Q .non H',rt:=Q } (start N vs) H):FnOk P w K mg base CX0 (k+1) f fd ps sp:=by
 obtain⟨oc,od,kV,doc,pm,an,cdv,ct,osl,rfl,lk,hcd⟩:=F.ex
 refine fn_of lk hcd S len fun A outer s H vs Q E hr hsp => ?_
 obtain⟨t,h,q⟩:=hbody cdv A outer s H vs Q E hr hsp
 exact⟨t,h.nox,q⟩
theorem Fun.binds {x qual:Str}{st:Stmt}{f:Addr}{fd:FuncData}{ps:List Str}(F:Fun K x qual st f fd)
  (h:∀(kV doc pm:Value) (an:Option Addr) (cdv ct:Value) (us:List Value),us.length=ps.length→bindArgs (PySem.W.fnOf x qual (defArgs st) (defBody st) (defScope st) .none kV doc pm an cdv ct) ⟨us,[]⟩=pure (ps.zip us)):Binds K fd ps []:=by
 obtain⟨oc,od,kV,doc,pm,an,cdv,ct,osl,rfl,lk,hcd⟩:=F.ex
 exact .all (h kV doc pm an cdv ct)
theorem fun_mk {x qual:Str}{st:Stmt}{f:Addr}{oc:Value}{od an:Option Addr}{osl:Array (Option Value)}{kV doc pm cdv ct:Value}(l:K.lookup f=some ⟨oc,od,.func (PySem.W.fnOf x qual (defArgs st) (defBody st) (defScope st) .none kV doc pm an cdv ct),osl⟩)
  (c:PySem.W.codeIn K cdv qual=true) (k:PySem.W.keepIn K (.ref f)=true):Fun K x qual st f (PySem.W.fnOf x qual (defArgs st) (defBody st) (defScope st) .none kV doc pm an cdv ct):=⟨⟨oc,od,kV,doc,pm,an,cdv,ct,osl,rfl,l,c⟩,k⟩
end
theorem hu_of {A:Around}{k:Nat}(hr:Room k A):A.units+1<cLine:=Nat.lt_of_le_of_lt (Nat.add_le_add_left (by decide:1≤64) _) hr.units
section
variable {X:Cx}
theorem pv (i:Nat) {x:Str}{pos:Pos}(hN:X.N[i]?=some x:=by rfl) (hv:Vis X.env.scope x:=by first | exact Or.inl rfl | exact Or.inr (Or.inl rfl) | exact Or.inr (Or.inr rfl)) (hd:(x == ("__debug__" : Str))=false:=by decide)
  (hcd:(x == ("__classdict__" : Str))=false:=by decide):PE X (.Name x pos) (tVar i):=pe_var hN hv hd hcd
end
theorem iteF {A B:Prop}(h:B):if false=true then A else B:=by
 rw[if_neg Bool.false_ne_true]
 exact h
theorem iteT {A B:Prop}(h:A):if true=true then A else B:=by
 rw[if_pos rfl]
 exact h
theorem ite2 {c A B:Prop} [Decidable c] (h1:c→A) (h2:¬c→B):if c then A else B:=by
 by_cases h:c
 ·rw[if_pos h]
  exact h1 h
 ·rw[if_neg h]
  exact h2 h
def Same (H H':Hp):Prop:=∀b o,H b=some o→H' b=some o
theorem Same.refl (H:Hp):Same H H:=fun _ _ h=>h
theorem Same.trans {H H1 H2:Hp}(a:Same H H1) (b:Same H1 H2):Same H H2:=fun c o h=>b c o (a c o h)
theorem Same.free {H H':Hp}(e:Same H H') {l:Addr}(h:H' l=Option.none):H l=Option.none:=by
 cases q:H l with
 | none=>rfl
 | some o=>
  rw[e l o q]at h
  cases h
theorem Same.seq {K:Wf}{H H':Hp}{a:Addr}{xs:List V}(e:Same H H') (h:SqL K H a xs):SqL K H' a xs:=by
 rcases h with (h | ⟨o,h⟩) | h
 ·exact .inl (.inl (e _ _ h))
 ·exact .inl (.inr ⟨o,e _ _ h⟩)
 ·exact .inr h
end L2
namespace L2
open PySem PySem.Spec PyProof.Rows
section
variable {X:Cx}
end
section
variable {κ:Type} [DecidableEq κ]
end
end L2
namespace L2
open PySem PySem.Spec PyProof.Rows
noncomputable def clOf (env:Env):List (Str×NameKind)→List (Str×Addr)→List (Str×Addr)
 | [],acc=>acc
 | (n,k)::r,acc=>clOf env r (if (k == NameKind.free)=true then (n,(env.cells.lookup n).getD 0)::acc else acc)
theorem clOf_ok {env:Env}:∀(ns:List (Str×NameKind)) (acc:List (Str×Addr)),(∀x∈ns,x.2=.free→∃c,env.cells.lookup x.1=some c)→
  (∀x c,acc.lookup x=some c→env.cells.lookup x=some c)→∀x c,(clOf env ns acc).lookup x=some c→env.cells.lookup x=some c
 | [],acc,_,ha=>ha
 | (n,k)::r,acc,hn,ha=>by
  refine clOf_ok r _ (fun x hx=>hn x (List.mem_cons_of_mem _ hx)) ?_
  intro x c e
  by_cases hk:(k == NameKind.free)=true
  ·rw[if_pos hk]at e
   have hk':k=.free:=by simpa using hk
   obtain⟨c',ec⟩:=hn (n,k) List.mem_cons_self hk'
   rw[List.lookup_cons]at e
   cases hx:x == n with
   | true=>
    rw[hx]at e
    have:x=n:=by simpa using hx
    subst this
    have ec':List.lookup x env.cells=some c':=ec
    rw[ec']at e
    simp at e
    rw[←e];exact ec'
   | false=>rw[hx]at e;exact ha x c e
  ·rw[if_neg hk]at e;exact ha x c e
theorem clOf_keep {env:Env}:∀(ns:List (Str×NameKind)) (acc:List (Str×Addr)) (x:Str),(∃c,acc.lookup x=some c)→∃c,(clOf env ns acc).lookup x=some c
 | [],acc,x,h=>h
 | (n,k)::r,acc,x,h=>by
  refine clOf_keep r _ x ?_
  by_cases hk:(k == NameKind.free)=true
  ·rw[if_pos hk,List.lookup_cons]
   cases hx:x == n with
   | true=>exact⟨_,rfl⟩
   | false=>exact h
  ·rw[if_neg hk];exact h
theorem clOf_has {env:Env}:∀(ns:List (Str×NameKind)) (acc:List (Str×Addr)) (x:Str),(x,NameKind.free)∈ns→∃c,(clOf env ns acc).lookup x=some c
 | [],acc,x,h=>absurd h (by simp)
 | (n,k)::r,acc,x,h=>by
  rcases List.mem_cons.mp h with e | e
  ·injection e with e1 e2
   subst e1 e2
   refine clOf_keep r _ x ⟨(env.cells.lookup x).getD 0,?_⟩
   rw[if_pos (by decide)]
   simp
  ·exact clOf_has r _ x e
theorem closureFor_eq {scope:Scope}{env:Env}(h:∀x∈scope.names,x.2=.free→∃c,env.cells.lookup x.1=some c):closureFor scope env=pure (clOf env scope.names []):=by
 have key:∀(ns:List (Str×NameKind)) (acc:List (Str×Addr)),(∀x∈ns,x.2=.free→∃c,env.cells.lookup x.1=some c)→
   (do let r ←forIn (m:=Sem) ns acc (fun x r=>if (x.2 == NameKind.free)=true then do let c ←cellOf env x.1;pure (ForInStep.yield ((x.1,c)::r)) else pure (ForInStep.yield r));pure r:Sem (List (Str×Addr)))=pure (clOf env ns acc):=by
  intro ns
  induction ns with
  | nil=>intro acc _;rfl
  | cons y r ih=>
   intro acc hy
   obtain⟨n,k⟩:=y
   rw[List.forIn_cons]
   by_cases hk:(k == NameKind.free)=true
   ·have hk':k=.free:=by simpa using hk
    obtain⟨c,ec⟩:=hy (n,k) List.mem_cons_self hk'
    have ec':List.lookup n env.cells=some c:=ec
    have e1:cellOf env n=pure c:=by unfold cellOf;rw[ec']
    simp only[hk,if_true,e1]
    have:=ih ((n,c)::acc) fun x hx=>hy x (List.mem_cons_of_mem _ hx)
    show _=pure (clOf env r (if (k == NameKind.free)=true then (n,(List.lookup n env.cells).getD 0)::acc else acc))
    rw[if_pos hk,ec']
    exact this
   ·simp only[hk]
    have:=ih acc fun x hx=>hy x (List.mem_cons_of_mem _ hx)
    show _=pure (clOf env r (if (k == NameKind.free)=true then (n,(List.lookup n env.cells).getD 0)::acc else acc))
    rw[if_neg hk]
    exact this
 simp only[closureFor]
 rw[key scope.names [] h]
 rfl
section
variable {prog:Program}{w:World}{A:Around}{R:Result→Shared→Prop}{s:Shared}
theorem compLoop_any {elt target iter:Expr}{ifs:List Expr}{scope:Scope}{pos:Pos}{it acc:Value}{env:Env}(I:Nat→Shared→Prop)
  (turn:∀n s,I n s→wpAny (model prog w) A (pyNext it) (fun r s₁=>match r with
   | none=>R (.ok .next) s₁
   | some v=>wpAny (model prog w) A (letOwnedTupleGo target it v) (fun _ s₁'=>wpAny (model prog w) A (assign target env v) (fun _ s₂=>
     wpAny (model prog w) A (forIn ifs true fun c r=>if r=true then do let ok ←isTrue c env (eval c env);pure (ForInStep.yield ok) else pure (ForInStep.yield r)) (fun ok s₃=>
      if ok=true then wpAny (model prog w) A (eval elt env) (fun x s₄=>
       wpAny (model prog w) A (call (.builtin "list.append") [acc,x]) (fun _ s₅=>∃m,m<n∧I m s₅) (fun _ _=>False) s₄) (fun _ _=>False) s₃
      else ∃m,m<n∧I m s₃) (fun _ _=>False) s₂) (fun _ _=>False) s₁') (fun _ _=>False) s₁) (fun _ _=>False) s)
  (n:Nat) (h:I n s):
  codeAny (model prog w) A (.compLoop (.ListComp elt [⟨target,iter,ifs,0⟩] scope pos) 0 it acc env) R s:=by
 refine codeAny_loop rfl I (fun n s hI => ?_) n h
 show wpAny _ A ((compTurn (.ListComp elt [⟨target,iter,ifs,0⟩] scope pos) 0 it acc env).onRaise (fun x=>do noteFrame x env;theTreesLotGoes x)) _ _ s
 refine wpAny_noted ?_
 rw[compTurn_list]
 refine wpAny_bind (wpAny_standAt (wpAny_bind (wpAny_mono (turn n s hI) (fun r s₁ h₁ => ?_) fun _ _ h'=>h'.elim)))
 cases r with
 | none=>exact wpAny_pure h₁
 | some v=>
  refine wpAny_bind (wpAny_mono h₁ (fun _ s₁' h₁' => ?_) fun _ _ h'=>h'.elim)
  refine wpAny_bind (wpAny_mono h₁' (fun _ s₂ h₂=>wpAny_bind (wpAny_mono h₂ (fun ok s₃ h₃ => ?_) fun _ _ h'=>h'.elim)) fun _ _ h'=>h'.elim)
  cases ok with
  | false=>exact wpAny_pure ⟨rfl,h₃⟩
  | true=>
   exact wpAny_bind (wpAny_bind (wpAny_mono h₃ (fun x s₄ h₄=>wpAny_bind (wpAny_mono h₄ (fun _ s₅ h₅=>wpAny_pure (wpAny_pure ⟨rfl,h₅⟩)) fun _ _ h'=>h'.elim)) fun _ _ h'=>h'.elim))
end
noncomputable def blk (X:Cx) (N':List Str) (scope:Scope) (fp:List Addr) (s:Shared) (H:Hp):Cx:=
 { X with N:=N',s₀:=s,H₀:=H,env:=compEnvC scope (clOf X.env scope.names []) s.heap.objs.size X.env,outer:=X.stack,stack:=X.stack,ex:=fp,fn:=fun _=>false,xe:=fun _ _=>False }
def PTs (X:Cx) (ifs:List Expr) (t:TT):Prop:=
 ∀(pins:Lo) (s:Shared) (σ:St) (H:Hp) (Q:Bool→Hp→Prop),Inv X pins σ H s→t σ H Q→
  wpAny (model X.prog X.w) X.A (forIn ifs true fun c r=>if r=true then do let ok ←isTrue c X.env (eval c X.env);pure (ForInStep.yield ok) else pure (ForInStep.yield r)) (TP X pins σ Q) X.xe s
def tYes:TT:=fun _ H Q=>Q true H
theorem pts_nil {X:Cx}:PTs X [] tYes:=fun _ _ _ H _ I h=>wpAny_tests_nil ⟨H,I,h⟩
inductive Ext:St→St→Prop
 | nil:Ext [] []
 | no {σ τ:St}{a:Option V}:Ext σ τ→Ext (none::σ) (a::τ)
 | yes {σ τ:St}{v:V}:Ext σ τ→Ext (some v::σ) (some v::τ)
theorem Ext.len:∀{σ τ:St},Ext σ τ→σ.length=τ.length
 | _,_,.nil=>rfl
 | _,_,.no h=>by simp[h.len]
 | _,_,.yes h=>by simp[h.len]
theorem Ext.get:∀{σ τ:St},Ext σ τ→∀(i:Nat) (v:V),σ[i]?=some (some v)→τ[i]?=some (some v)
 | _,_,.nil,i,v,e=>e
 | _,_,.no h,0,v,e=>by simp at e
 | _,_,.no h,i+1,v,e=>by simpa using h.get i v (by simpa using e)
 | _,_,.yes h,0,v,e=>by simpa using e
 | _,_,.yes h,i+1,v,e=>by simpa using h.get i v (by simpa using e)
noncomputable def blkSt (k:Nat) (fm:List Nat) (σ:St):St:=List.replicate k none++fm.map fun j=>(σ[j]?).join
def tComp (k:Nat) (fm:List Nat) (wi:TI) (g:TG) (tt:TT) (te:TE):TE:=fun σ H Q=>wi σ H fun J H1=>∀D,H1 D=none→∃W:Nat→Nat→List V→Hp→Prop,
 (∃m,W 0 m [] (upd H1 D (.lst [])))∧∀i m ys H2,W i m ys H2→H2 D=some (.lst ys)∧ys.length<sizeLine∧((J.stop i H2∧Q (.ref D) H2)∨(J.go i H2∧∃N:List V→Hp→Prop,(∀ys' H',N ys' H'→∃m',m'<m∧W (i+1) m' ys' H')∧∀x H3,J.yld i H2 x H3→
  g x (blkSt k fm σ) H3 fun σ3 H4=>Ext (blkSt k fm σ) σ3∧tt σ3 H4 fun b H5=>if b=true then te σ3 H5 fun y H6=>H6 D=some (.lst ys)∧N (ys++[y]) (upd H6 D (.lst (ys++[y]))) else N ys H5))
theorem Un.tail {fs ex:List Addr}{H H':Hp}{h h1 h2:Heap}{C:Addr}(u:Un fs ex H H' h h1) (k:∀b o,b≠C→h1.get? b=some o→h2.get? b=some o) (hC:h.get? C=none):Un fs ex H H' h h2:=by
 have ne:∀b o,h.get? b=some o→b≠C:=fun b o e z=>by rw[z,hC]at e;cases e
 exact⟨fun b o e n hf hx=>k b o (ne b o e) (u.keep b o e n hf hx),fun b o e n hf hx=>let ⟨sl,q⟩:=u.slot b o e n hf hx;⟨sl,k b _ (ne b o e) q⟩,u.free,
  fun b o e hx=>let ⟨o',q⟩:=u.there b o e hx;⟨o',k b _ (ne b o e) q⟩,u.tups,u.frzs,u.tbls⟩
theorem HOk.tail {P:Program}{w:World}{H:Hp}{h1 h2:Heap}{C:Addr}(ok:HOk P w H h1) (k:∀b o,b≠C→h1.get? b=some o→h2.get? b=some o) (hC:H C=none):HOk P w H h2:=fun a o e=>by
 have ne:∀b u,H b=some u→b≠C:=fun b u q z=>by rw[z,hC]at q;cases q
 refine (ok a o e).stay (fun b u hb q=>k b u ?_ q) (fun _ q=>q) fun _ _ q=>q
 rcases hb with z | z
 ·rw[z];exact ne a o e
 ·exact ne b _ z
theorem lookup_relabel {env:Env}:∀{names:List (Str×NameKind)}{x:Str}{k:NameKind},
  (names.map fun (n,k)=>if (k == NameKind.free&&env.scope.kind == .function&&env.kindOf n == some .cell) then (n,NameKind.cell) else (n,k)).lookup x=some k→∃k',names.lookup x=some k'∧(k=k'∨(k'=.free∧k=.cell))
 | [],_,_,h=>by simp at h
 | (n,k0)::r,x,k,h=>by
  have ih:=@lookup_relabel env r x k
  have h:List.lookup x ((if (k0 == NameKind.free&&env.scope.kind == .function&&env.kindOf n == some .cell)=true then (n,NameKind.cell) else (n,k0))::(r.map fun (n,k)=>if (k == NameKind.free&&env.scope.kind == .function&&env.kindOf n == some .cell) then (n,NameKind.cell) else (n,k)))=some k:=h
  by_cases hc:(k0 == NameKind.free&&env.scope.kind == .function&&env.kindOf n == some .cell)=true
  ·rw[if_pos hc,List.lookup_cons]at h
   have k0f:k0=.free:=by
    simp only[Bool.and_eq_true]at hc
    simpa using hc.1.1
   rw[List.lookup_cons]
   cases hx:x == n with
   | true=>rw[hx]at h;injection h with h;exact⟨k0,rfl,.inr ⟨k0f,h.symm⟩⟩
   | false=>rw[hx]at h;exact ih h
  ·rw[if_neg hc,List.lookup_cons]at h
   rw[List.lookup_cons]
   cases hx:x == n with
   | true=>rw[hx]at h;injection h with h;exact⟨k0,rfl,.inl h.symm⟩
   | false=>rw[hx]at h;exact ih h
set_option genInjectivity false in
structure BlkScope (X:Cx) (N':List Str) (k:Nat) (fm:List Nat) (scope:Scope):Prop where
 kind:scope.kind=.function
 nocell:∀y∈scope.names,y.2≠.cell
 names:∀y∈scope.names,y.2=.local→scope.names.lookup y.1=some .local
 free:∀y∈scope.names,y.2=.free→X.env.kindOf y.1=some .cell∨X.env.kindOf y.1=some .free
 len:N'.length=k+fm.length
 slots:∀i x,k≤i→N'[i]?=some x→scope.names.lookup x=some .free∧∃j,fm[i - k]?=some j∧X.N[j]?=some x
section
variable {X:Cx}{pins:Lo}{σ:St}{H:Hp}{s:Shared}
theorem Inv.block {N':List Str}{k:Nat}{fm:List Nat}{scope:Scope}{fp:List Addr}{h':Heap}{tk:Nat}(B:BlkScope X N' k fm scope) (I:Inv X pins σ H s) (hf:∀b∈fp,FpOk X pins H b) (ho:∀b∈fp,∃o,s.heap.get? b=some o)
  (ns:h'.Ns s.heap.objs.size (fun _=>none)) (kp:∀b o,s.heap.get? b=some o→h'.get? b=some o):Inv (blk X N' scope fp s H) [] (blkSt k fm σ) H { s with heap:=h',toks:=tk }:=by
 have hfree:∀x∈scope.names,x.2=.free→∃c,X.env.cells.lookup x.1=some c:=fun x hx hk=>I.ok.has x.1 (B.free x hx hk)
 have hcl:∀x c,(clOf X.env scope.names []).lookup x=some c→X.env.cells.lookup x=some c:=clOf_ok scope.names [] hfree fun x c e=>by simp at e
 have stk:∀b∈frs X.stack,b∈X.env.locals::X.fs:=I.stkSub
 have hC:H s.heap.objs.size=none:=I.hok.fresh (Nat.le_refl _)
 have ok:(blk X N' scope fp s H).Ok:={
  mod:=I.ok.mod
  kind:=B.kind
  glob:=I.ok.glob
  blt:=I.ok.blt
  above:=Nat.le_refl _
  inj:=fun x y c h1 h2=>I.ok.inj x y c (hcl x c h1) (hcl y c h2)
  has:=fun x hx=>by
   have hx:(relabel scope X.env).names.lookup x=some .cell∨(relabel scope X.env).names.lookup x=some .free:=hx
   have:scope.names.lookup x=some .free:=by
    rcases hx with e | e
    ·obtain⟨k',e1,e2⟩:=lookup_relabel e
     rcases e2 with e2 | ⟨e2,_⟩
     ·subst e2;exact absurd rfl (B.nocell _ (PySem.mem_of_lookup e1))
     ·rw[e1,e2]
    ·obtain⟨k',e1,e2⟩:=lookup_relabel e
     rcases e2 with e2 | ⟨e2,e3⟩
     ·rw[e1,e2]
     ·rw[e1,e2]
   exact clOf_has scope.names [] x (PySem.mem_of_lookup this)
  cab:=fun x c e=>by cases e
  hd:=I.ok.hd
  frames:=I.ok.frames
  stk:=.inl rfl
  exf:=fun b hb=>⟨fun z=>by
    obtain⟨o,e⟩:=ho b hb
    have hlt:=Heap.lt_size e
    rw[z]at hlt
    exact Nat.lt_irrefl _ hlt,fun x c e=>(hf b hb).2.2.2.2.1 x c (hcl x c e)⟩
  bs:=I.bs
  bsz:=Nat.le_trans I.ok.bsz I.sz
  noex:=fun b o e hb=>by
   rcases (hf b hb).2.2.2.1 with z | z
   ·exact I.ok.noex b o e z
   ·exact absurd (Nat.lt_of_lt_of_le (Heap.lt_size e) (Nat.le_trans I.ok.bsz z)) (Nat.lt_irrefl _)
  exfs:=fun b hb z=>(List.mem_cons.mp (stk b z)).elim (hf b hb).2.1 (hf b hb).2.2.1
  funs:=I.stack
  frf:=I.stkFree }
 refine⟨ok,rfl,I.bare,Un.kept kp,⟨_,ns,fun i x v h1 h2 h3 => ?_⟩,fun x c e => ?_,hC,fun x c e=>I.freeC x c (hcl x c e),fun p hp => ?_,I.hok.kept kp,?_⟩
 ·have hk:k≤i:=by
   refine Nat.le_of_not_lt fun z => ?_
   unfold blkSt at h2
   rw[List.getElem?_append_left (by simpa using z),List.getElem?_replicate,if_pos z]at h2
   cases h2
  obtain⟨e1,j,e2,e3⟩:=B.slots i x hk h1
  have e4:σ[j]?=some (some v):=by
   unfold blkSt at h2
   rw[List.getElem?_append_right (by simpa using hk),List.length_replicate,List.getElem?_map,e2]at h2
   have h2:some (σ[j]?).join=some (some v):=h2
   injection h2 with h2
   cases e:σ[j]? with
   | none=>rw[e]at h2;cases h2
   | some o=>rw[e]at h2;rw[show o=some v from h2]
  have kf:=B.free (x,.free) (PySem.mem_of_lookup e1) rfl
  obtain⟨m,hn,hl⟩:=I.loc
  obtain⟨u,ru,lk⟩:=hl j x v e3 e4 (.inr kf)
  refine⟨u,ru,.inr ⟨?_,?_⟩⟩
  ·have h3:(relabel scope X.env).names.lookup x=some .local∨(relabel scope X.env).names.lookup x=some .cell∨(relabel scope X.env).names.lookup x=some .free:=h3
   rcases h3 with z | z
   ·obtain⟨k',q1,q2⟩:=lookup_relabel z
    rw[e1]at q1
    injection q1 with q1
    subst q1
    rcases q2 with q2 | ⟨_,q2⟩<;>cases q2
   ·exact z
  ·obtain⟨c,hc⟩:=clOf_has (env:=X.env) scope.names [] x (PySem.mem_of_lookup e1)
   refine⟨c,hc,?_⟩
   rcases lk with ⟨z,_⟩ | ⟨_,c',ec,ic⟩
   ·rcases kf with y | y<;>(rw[z]at y;cases y)
   ·rw[hcl x c hc]at ec
    injection ec with ec
    subst ec
    exact ic.keeps kp
 ·obtain⟨v,q⟩:=I.cell x c (hcl x c e)
  exact⟨v,q.keeps kp⟩
 ·obtain⟨p1,p2,p3,p4,p5⟩:=I.pin p ((List.mem_append.mp hp).elim (fun z=>List.mem_append_left _ z) fun z=>absurd z (by simp))
  refine⟨kp _ _ p1,p2,fun z => ?_,fun z=>(List.mem_cons.mp (stk _ z)).elim p3 p4,p5⟩
  have hlt:=Heap.lt_size p1
  rw[z]at hlt
  exact Nat.lt_irrefl _ hlt
 ·show (blkSt k fm σ).length=N'.length
  unfold blkSt
  rw[List.length_append,List.length_replicate,List.length_map,B.len]
theorem blk_loop {X:Cx}{elt iter tg:Expr}{ifs:List Expr}{scope:Scope}{pos:Pos}{g:TG}{tt:TT}{te:TE}{J:It}{fp:List Addr}{it D:Addr}{tn:Nat→Heap→Prop}{σ0:St}{H3:Hp}{s4:Shared}{Q:VK}{R:Result→Shared→Prop}{W:Nat→Nat→List V→Hp→Prop}{m0:Nat}
  (hx:X.xe=fun _ _=>False) (hc:X.calm=true) (T:Turn X.prog X.w X.K tg J fp it tn) (stat:∀{H':Hp},(∀b∈fp,H' b=none)→∀b∈fp,FpOk X [] H' b) (hg:PG X tg g) (ht:PTs X ifs tt) (he:PE X elt te)
  (turn:∀i m ys H2,W i m ys H2→H2 D=some (.lst ys)∧ys.length<sizeLine∧((J.stop i H2∧Q (.ref D) H2)∨(J.go i H2∧∃N:List V→Hp→Prop,(∀ys' H',N ys' H'→∃m',m'<m∧W (i+1) m' ys' H')∧∀x H3,J.yld i H2 x H3→
   g x σ0 H3 fun σ3 H4=>Ext σ0 σ3∧tt σ3 H4 fun b H5=>if b=true then te σ3 H5 fun y H6=>H6 D=some (.lst ys)∧N (ys++[y]) (upd H6 D (.lst (ys++[y]))) else N ys H5)))
  (I4:Inv X [] σ0 H3 s4) (st4:tn 0 s4.heap) (fr4:∀b∈fp,H3 b=none) (w4:W 0 m0 [] H3)
  (hR:∀H' s',Inv X [] σ0 H' s'→Q (.ref D) H'→R (.ok .next) s'):
  codeAny (model X.prog X.w) X.A (.compLoop (.ListComp elt [⟨tg,iter,ifs,0⟩] scope pos) 0 (.ref it) (.ref D) X.env) R s4:=by
 refine compLoop_any (fun n s'=>∃i ys H',Inv X [] σ0 H' s'∧tn i s'.heap∧(∀b∈fp,H' b=none)∧W i n ys H') ?_ m0 ⟨0,[],H3,I4,st4,fr4,w4⟩
 rintro n s5 ⟨i,ys,H5,I5,st5,fr5,w5⟩
 obtain⟨hD,hl,cs⟩:=turn i n ys H5 w5
 rcases cs with ⟨stop,q⟩ | ⟨go,N,hN,step⟩
 ·refine thn (T.done X rfl rfl rfl hc i [] s5 σ0 H5 _ I5 (stat fr5) st5 stop) fun r s6 ⟨hr,I6⟩ => ?_
  subst hr
  exact hR H5 s6 I6 q
 ·refine thn (T.item X rfl rfl rfl hc i [] s5 σ0 H5 _ I5 (stat fr5) st5 go) fun r s6 ⟨u,hr,h6⟩ => ?_
  subst hr
  refine thn h6 fun _ s7 ⟨x,H7,I7,r7,y7,st7,fr7⟩ => ?_
  have I7':=I7.pinned (stat fr7) (T.obj _ _ st7)
  have again:∀{σ':St}{H':Hp}{s':Shared},Ext σ0 σ'→Inv X ([]++pinsAt fp s7.heap) σ' H' s'→Inv X [] σ0 H' s'∧tn (i+1) s'.heap∧∀b∈fp,H' b=none:=fun {σ' H' s'} ex I'=>by
   refine⟨I'.unpinned.weak ex.len ex.get,T.keep _ _ _ st7 fun b hb o e=>(I'.pin (b,o) (List.mem_append_right _ (List.mem_append_right _ (mem_pinsAt hb e)))).1,fun b hb => ?_⟩
   obtain⟨o,e,d⟩:=T.obj _ _ st7 b hb
   exact (I'.pin (b,o) (List.mem_append_right _ (List.mem_append_right _ (mem_pinsAt hb e)))).2.1
  have w8:=hg _ s7 σ0 H7 x u _ I7' r7 (step x H7 y7)
  rw[hx]at w8
  refine thn w8 fun _ s8 ⟨σ8,H8,I8,ex8,q8⟩ => ?_
  have w9:=ht _ s8 σ8 H8 _ I8 q8
  rw[hx]at w9
  refine thn w9 fun ok s9 ⟨H9,I9,q9⟩ => ?_
  cases ok with
  | false=>
   obtain⟨m',hm,w'⟩:=hN _ _ q9
   obtain⟨a1,a2,a3⟩:=again ex8 I9
   exact⟨m',hm,i+1,ys,H9,a1,a2,a3,w'⟩
  | true=>
   have w10:=he _ s9 σ8 H9 _ I9 q9
   rw[hx]at w10
   refine thn w10 fun y s10 ⟨yv,H10,I10,r10,hD10,n10⟩ => ?_
   obtain⟨m',hm,w'⟩:=hN _ _ n10
   have w11:=zz19 (X:=X) _ s10 σ8 H10 (.ref D) [yv] (.ref D) [y] (fun v H'=>v=.non∧H'=upd H10 D (.lst (ys++[yv]))) I10 rfl (.cons r10 .nil) ⟨D,ys,yv,rfl,rfl,hD10,hl,rfl,rfl⟩
   rw[hx]at w11
   refine thn w11 fun _ s11 ⟨_,H11,I11,_,_,e11⟩ => ?_
   subst e11
   obtain⟨a1,a2,a3⟩:=again ex8 I11
   exact⟨m',hm,i+1,_,_,a1,a2,a3,w'⟩
theorem pe_comp {elt iter tg:Expr}{ifs:List Expr}{scope:Scope}{pos:Pos}{N':List Str}{k:Nat}{fm:List Nat}{wi:TI}{g:TG}{tt:TT}{te:TE}(B:BlkScope X N' k fm scope) (hc:X.calm=true) (hi:PI X tg iter wi)
  (hb:∀fp s H,PG (blk X N' scope fp s H) tg g∧PTs (blk X N' scope fp s H) ifs tt∧PE (blk X N' scope fp s H) elt te)
  (hs:∀x,foldedSetIterable iter X.env x=pure x:=by intro _;rfl):PE X (.ListComp elt [⟨tg,iter,ifs,0⟩] scope pos) (tComp k fm wi g tt te):=by
 intro pins s σ H Q I h
 have hfree:∀x∈scope.names,x.2=.free→∃c,X.env.cells.lookup x.1=some c:=fun x hx hk=>I.ok.has x.1 (B.free x hx hk)
 rw[eval_ListComp]
 refine wpAny_comprehension_free (use:=none) rfl hs (closureFor_eq hfree) B.kind B.names (thn (hi pins s σ H _ I h) fun v s1 h1=>thn h1 fun itv s2 h2 => ?_)
 obtain⟨it,fp,tn,J,H2,e,I2,T,st2,f2,h2⟩:=h2
 subst e
 obtain⟨W,⟨m0,w0⟩,turn⟩:=h2 s2.heap.objs.size I2.fresh
 refine wpAny_newObj_type (wpAny_newFunctionEnv B.nocell (by intro y hy;simp at hy) (fun h4 hns4 hsb4 => ?_) B.kind)
 have I3:=I2.lnew (its:=[]) (ys:=[]) (t':=s2.toks) .nil (Nat.zero_le _)
 have hf3:∀b∈fp,FpOk X pins (upd H2 s2.heap.objs.size (.lst [])) b:=fun b hb=>by
  obtain⟨o,e,_⟩:=T.obj _ _ st2 b hb
  refine⟨?_,(f2 b hb).2⟩
  rw[upd_ne (fun z=>Nat.lt_irrefl _ (z▸Heap.lt_size e))]
  exact (f2 b hb).1
 have ho3:∀b∈fp,∃o,(s2.heap.push { cls:=.type "list", data:=.seq ([]:List Value).toArray }).get? b=some o:=fun b hb=>by
  obtain⟨o,e,_⟩:=T.obj _ _ st2 b hb
  exact⟨o,Heap.get?_push_of_some _ e⟩
 have kp4:∀b o,(s2.heap.push { cls:=.type "list", data:=.seq ([]:List Value).toArray }).get? b=some o→h4.get? b=some o:=fun b o e=>
  hsb4.extBut b o (fun z=>Nat.lt_irrefl _ (z▸Heap.lt_size e)) (Heap.get?_push_of_some _ e)
 have I4:=I3.block (fp:=fp) (h':=h4) (tk:=s2.toks+([]:List (Str×Value)).length) B hf3 ho3 hns4 kp4
 generalize hs3:({ s2 with heap:=s2.heap.push { cls:=.type "list", data:=.seq ([]:List Value).toArray },toks:=s2.toks }:Shared)=s3 at *
 obtain⟨hg,ht,he⟩:=hb fp s3 (upd H2 s2.heap.objs.size (.lst []))
 have st4:tn 0 h4:=T.keep _ _ _ st2 fun b hb o e=>kp4 b o (Heap.get?_push_of_some _ e)
 have stat:∀{H':Hp},(∀b∈fp,H' b=none)→∀b∈fp,FpOk (blk X N' scope fp s3 (upd H2 s2.heap.objs.size (.lst []))) [] H' b:=fun {H'} hn b hb=>by
  obtain⟨f0,f1,f3,f4,f5,f6⟩:=hf3 b hb
  obtain⟨g1,g2⟩:=I4.ok.exf b hb
  exact⟨hn b hb,g1,I4.ok.exfs b hb,.inl hb,g2,fun p hp=>f6 p ((List.mem_append.mp hp).elim (fun z=>List.mem_append_left _ z) fun z=>absurd z (by simp))⟩
 have loop:codeAny (model X.prog X.w) X.A (.compLoop (.ListComp elt [⟨tg,iter,ifs,0⟩] scope pos) 0 (.ref it) (.ref s2.heap.objs.size) (compEnvC scope (clOf X.env scope.names []) s3.heap.objs.size X.env))
   (compPost (model X.prog X.w) X.A X.xe none (EP X pins σ Q) (.ref s2.heap.objs.size) s3.heap.objs.size) { s3 with heap:=h4,toks:=s2.toks+([]:List (Str×Value)).length }:=by
  refine blk_loop (X:=blk X N' scope fp s3 (upd H2 s2.heap.objs.size (.lst []))) (D:=s2.heap.objs.size) (Q:=Q) (W:=W) (m0:=m0) rfl hc T stat hg ht he turn I4 st4 (fun b hb=>(hf3 b hb).1) w0 ?_
  intro H' s' I' q
  obtain⟨m,hn,_⟩:=I'.loc
  refine⟨m,hn,fun h'' hs'' => ?_⟩
  have hC:s3.heap.get? s3.heap.objs.size=none:=by
   cases e:s3.heap.get? s3.heap.objs.size with
   | none=>rfl
   | some o=>exact absurd (Heap.lt_size e) (Nat.lt_irrefl _)
  have u:Un (frs X.stack) fp (upd H2 s2.heap.objs.size (.lst [])) H' s3.heap h'':=Un.tail I'.base (fun b o hb e=>hs''.extBut b o hb e) hC
  refine⟨.ref s2.heap.objs.size,H',?_,rfl,q⟩
  refine I3.call' (s':={ s' with heap:=h'' }) (ch:=fp) I'.os u (I'.hok.tail (fun b o hb e=>hs''.extBut b o hb e) I'.free) I'.bare fun b hb => ?_
  obtain⟨f0,f1,f3,f4,f5,f6⟩:=hf3 b hb
  exact⟨f4,f1,f5,f6⟩
 subst hs3
 exact codeAny_compStart_list loop (T.self X.A 0 _ _ _ st4 loop)
end
end L2
namespace L2
open PySem PySem.Spec PyProof.Rows
noncomputable def Its (z:Str):It:=⟨fun i _=>i<z.cps.size,fun i H x H'=>H'=H∧∃c,z.cps[i]?=some c∧x=.str ⟨#[c]⟩,fun i _=>z.cps.size≤i⟩
theorem turn_str {P:Program}{w:World}{K:Wf}{tg:Expr}(it:Addr) (z:Str) (t:Tok) (n:String) (hn:n = "str_ascii_iterator" ∨ n = "str_iterator"):
  Turn P w K tg (Its z) [it] it (fun i h=>h.IsStrIter it n z t i) where
 mem:=by simp
 obj:=fun i h st b hb=>by
  have e:b=it:=by simpa using hb
  subst e
  obtain⟨o,ho,_,hd⟩:=st
  exact⟨o,ho,fun v z=>by rw[hd]at z;cases z⟩
 keep:=fun i h h' st k=>let ⟨o,ho,r⟩:=st;⟨o,k it (by simp) o ho,r⟩
 item:=by
  intro X hP hw hK hc i pins s σ H E I hf st hg
  subst hP hw hK
  obtain⟨f0,f1,f2,f3,f4,f5⟩:=hf it (by simp)
  have main:∀(W:Walks X.prog X.w X.A it [it] [it] z.cps.size (SignAt z) (fun i h=>h.IsStrIter it n z t i)),
   wpAny (model X.prog X.w) X.A (pyNext (.ref it)) (fun r s1=>∃u,r=some u∧
    wpAny (model X.prog X.w) X.A (letOwnedTupleGo tg (.ref it) u) (fun _ s2=>∃x H',Inv X pins σ H' s2∧RelV x u∧(Its z).yld i H x H'∧s2.heap.IsStrIter it n z t (i+1)∧∀b∈[it],H' b=none) E s1) E s:=by
   intro W
   refine W.item i s _ _ hg st fun v h' tk hv st' kk => ?_
   obtain⟨c,u,hcx,rfl⟩:=hv
   have I1:Inv X pins σ H { s with heap:=h',toks:=tk }:=I.turned (fun b o hb e=>kk b o (by simpa using hb) e) f0 f1 f3 f4 f5
   obtain⟨o,ho,hcl,hd⟩:=id st'
   refine⟨_,rfl,go_of (s:={ s with heap:=h',toks:=tk }) (n:=n) ho hcl hd (by rcases hn with e | e<;>subst e<;>decide) ⟨.str ⟨#[c]⟩,H,I1,⟨u,rfl⟩,⟨rfl,c,hcx,rfl⟩,st',fun b hb=>(hf b hb).1⟩⟩
  rcases hn with e | e
  ·subst e;exact main (Walks.strAscii (I.ok.hd hc) it z t)
  ·subst e;exact main (Walks.strWide (I.ok.hd hc) it z t)
 done:=by
  intro X hP hw hK hc i pins s σ H E I hf st hg
  subst hP hw hK
  obtain⟨f0,f1,f2,f3,f4,f5⟩:=hf it (by simp)
  have hi:z.cps[i]?=none:=Array.getElem?_eq_none hg
  rcases hn with e | e
  ·subst e;exact wpAny_pyNext_ascii_end (I.ok.hd hc) st hi fun h' he'=>⟨rfl,I.turned (t':=s.toks) (fun b o hb e=>he' b o hb e) f0 f1 f3 f4 f5⟩
  ·subst e;exact wpAny_pyNext_wide_end (I.ok.hd hc) st hi fun h' he'=>⟨rfl,I.turned (t':=s.toks) (fun b o hb e=>he' b o hb e) f0 f1 f3 f4 f5⟩
 self:=fun _ _ _ _ _ st h=>by
  rcases hn with e | e
  ·subst e;exact wpAny_pyIter_striter_ascii st h
  ·subst e;exact wpAny_pyIter_striter_wide st h
section
variable {X:Cx}{tg:Expr}
def iStr (tl:TE):TI:=fun σ H R=>tl σ H fun x H1=>∃z,x=.str z∧R (Its z) H1
theorem pi_str {l:Expr}{tl:TE}(hl:PE X l tl):PI X tg l (iStr tl):=by
 intro pins s σ H R I h
 refine thn (hl pins s σ H _ I h) fun v s1 ⟨x,H1,I1,r,z,ez,q⟩ => ?_
 subst ez
 obtain⟨t,rfl⟩:=r
 have fin:∀(n:String) (hn:n = "str_ascii_iterator" ∨ n = "str_iterator"),PIE X pins σ tg R (.ref s1.heap.objs.size) { s1 with heap:=s1.heap.push { cls:=.type n,data:=.fields #[.str z t,.int 0 0] } }:=fun n hn=>
  ⟨s1.heap.objs.size,[s1.heap.objs.size],_,_,H1,rfl,I1.kept (t':=s1.toks) fun b o e=>Heap.get?_push_of_some _ e,turn_str _ z t n hn,⟨_,Heap.get?_push_size _ rfl,rfl,rfl⟩,fun b hb=>by
   have e:b=s1.heap.objs.size:=by simpa using hb
   subst e
   exact I1.fpOk (Nat.le_refl _) (I1.hok.fresh (Nat.le_refl _)),q⟩
 cases ha:z.cps.all (·<128)
 ·exact wpAny_pyIter_wide ha (fin _ (.inr rfl))
 ·exact wpAny_pyIter_ascii ha (fin _ (.inl rfl))
end
section
variable {X:Cx}
noncomputable def rSlS:V→Option Int→Option Int→Hp→VK→Prop:=fun x lo hi H Q=>∃z,x=.str z∧z.length≤sizeLine∧Q (.str (Txt.slice z lo hi)) H
theorem sl_str:SlR X rSlS:=by
 intro pins s σ H x v vl vu lo hi sl Q I rx hs pl pu h
 obtain⟨z,rfl,hz,q⟩:=h
 obtain⟨t,rfl⟩:=rx
 refine⟨"str", _,F.slot_str_getitem.lookup,typeIs_str _ _ _,?_⟩
 have fin:∀t' k,EP X pins σ Q (.str (Txt.slice z lo hi) t') { s with toks:=k }:=fun t' k=>⟨.str (Txt.slice z lo hi),H,I.tok k,⟨t',rfl⟩,q⟩
 obtain⟨o,ho,hc,hd⟩:=hs
 cases pl with
 | none=>
  cases pu with
  | none=>exact wpAny_getItem_str_slice (l:=none) (u:=none) (st:=none) ⟨o,ho,hc,hd⟩ rfl (post_val_or_str ⟨Nat.le_trans (Txt.slice_le z _ _) hz,fun t' k=>fin t' k⟩)
  | int j uj=>exact wpAny_getItem_str_slice (l:=none) (u:=some (j,uj)) (st:=none) ⟨o,ho,hc,hd⟩ rfl (post_val_or_str ⟨Nat.le_trans (Txt.slice_le z _ _) hz,fun t' k=>fin t' k⟩)
 | int i ui=>
  cases pu with
  | none=>exact wpAny_getItem_str_slice (l:=some (i,ui)) (u:=none) (st:=none) ⟨o,ho,hc,hd⟩ rfl (post_val_or_str ⟨Nat.le_trans (Txt.slice_le z _ _) hz,fun t' k=>fin t' k⟩)
  | int j uj=>exact wpAny_getItem_str_slice (l:=some (i,ui)) (u:=some (j,uj)) (st:=none) ⟨o,ho,hc,hd⟩ rfl (post_val_or_str ⟨Nat.le_trans (Txt.slice_le z _ _) hz,fun t' k=>fin t' k⟩)
noncomputable def rAll (K:Wf):List V→Hp→VK→Prop:=fun xs H Q=>∃(a:Addr) (bs:List Bool),xs=[.ref a]∧SqL K H a (bs.map V.bl)∧Q (.bl (bs.all id)) H
theorem Vals.bl_get {bs:List Bool}{us:List Value}(r:Vals (bs.map V.bl) us) {i:Nat}{v:Value}(h:us[i]?=some v):∃b,bs[i]?=some b∧v=.bool b:=by
 have hi:i<us.length:=(List.getElem?_eq_some_iff.mp h).1
 have hl:=r.length
 rw[List.length_map]at hl
 have hb:bs[i]?=some bs[i]:=List.getElem?_eq_getElem (by omega)
 obtain⟨u,hu,ru⟩:=r.get (i:=i) (x:=.bl bs[i]) (by rw[List.getElem?_map,hb];rfl)
 rw[h]at hu
 cases hu
 exact⟨_,hb,ru⟩
theorem call_all (hc:X.calm=true):CallR X (.builtin "all") (rAll X.K):=by
 intro pins s σ H xs us Q I r h
 obtain⟨a,bs,rfl,hs,q⟩:=h
 obtain⟨u,rfl,ru⟩:=vals1 r
 cases ru
 obtain⟨its,rv,p,hz⟩:=I.list hs
 have hne:a≠s.heap.objs.size:=fun z=>by
  obtain⟨o,n,e,_⟩:=p
  exact Nat.lt_irrefl _ (z▸Heap.lt_size e)
 have hh:(X.A.in1).handled=none:=I.ok.hd hc
 refine call_all_walk (wpAny_pyIter_list p.isList ?_)
 refine⟨s.heap.objs.size,_,_,_,_,_,fun i=>(bs[i]?).getD true,rfl,Walks.list hh s.heap.objs.size a hne its.toArray,⟨⟨_,Heap.get?_push_size _ rfl,rfl,rfl⟩,?_⟩,?_,?_⟩
 ·obtain⟨o,n,e,e1,e2,e3⟩:=p
  exact⟨o,Heap.get?_push_of_some _ e,e1,n,e3⟩
 ·intro i v s' Q' E' hP hQ
  obtain⟨b,hb,rfl⟩:=rv.bl_get (i:=i) (v:=v) (by simpa using hP)
  have hQ:Q' ((bs[i]?).getD true) s':=hQ
  rw[hb]at hQ
  exact wpAny_truthy_bool hQ
 ·intro h' tk kk
  have e1:(List.range its.toArray.size).all (fun i=>(bs[i]?).getD true)=bs.all id:=by
   have hl:=rv.length
   rw[List.length_map]at hl
   rw[List.size_toArray,←hl,Bool.eq_iff_iff,List.all_eq_true,List.all_eq_true]
   constructor
   ·intro hall b hb
    obtain⟨i,hi,e⟩:=List.getElem_of_mem hb
    have:=hall i (by simpa using hi)
    rw[List.getElem?_eq_getElem hi]at this
    rw[←e];exact this
   ·intro hall i hi
    have hi':i<bs.length:=by simpa using hi
    show (bs[i]?).getD true=true
    rw[List.getElem?_eq_getElem hi']
    exact hall _ (List.getElem_mem hi')
  rw[e1]
  refine⟨.bl (bs.all id),H,?_,rfl,q⟩
  exact I.kept fun b o e=>kk b o (by simpa using fun z=>Nat.lt_irrefl _ (z▸Heap.lt_size e)) (Heap.get?_push_of_some _ e)
noncomputable def rIsi (K:Wf):List V→Hp→VK→Prop:=fun xs H Q=>∃x n t b,xs=[x,.ty n]∧TyOf K H x t∧PySem.W.kitOne K t (.type n)=some b∧Q (.bl b) H
theorem call_isi:CallR X (.builtin "isinstance") (rIsi X.K):=by
 intro pins s σ H xs us Q I r h
 obtain⟨x,n,t,b,rfl,ty,e,q⟩:=h
 obtain⟨u,u2,rfl,ru,ru2⟩:=vals2 r
 cases ru2
 exact isinst_ok I ru ty e fun tk=>⟨.bl b,H,I.tok tk,rfl,q⟩
def rCatS (K:Wf):R2:=fun x y H Q=>∃l b xs zs,x=.ref l∧y=.ref b∧SqL K H l xs∧SqL K H b zs∧xs.length+zs.length≤sizeLine∧∀p,H p=none→Q (.ref p) (upd H p (.lst (xs++zs)))
theorem op_catS:OpR X (binaryOp .Add) (rCatS X.K):=by
 intro pins s σ H x y v u Q I rx ry h
 obtain⟨l,b,xs,zs,rfl,rfl,hH,hB,hz,q⟩:=h
 cases rx
 cases ry
 obtain⟨vs,r,p,z⟩:=I.list hH
 obtain⟨ws,r2,p2,z2⟩:=I.list hB
 have l1:=r.length
 have l2:=r2.length
 obtain⟨⟨cls,dd,data,sl⟩,n,ho,hc,hdd,hd⟩:=p
 obtain⟨⟨cls2,dd2,data2,sl2⟩,n2,ho2,hc2,hdd2,hd2⟩:=p2
 simp only at hc hd hc2 hd2
 subst hc hd hc2 hd2
 have e:vs.toArray++ws.toArray=(vs++ws).toArray:=by simp
 refine concat_meets ⟨_,ho,rfl⟩ ⟨_,ho2,rfl⟩ noFill_list_add seq_list_add PySem.F.slot_list_add PySem.F.entry_list_add (PySem.F.args_list_add_2 _ _) (list_addW l b vs.toArray ws.toArray n n2 dd dd2 sl sl2 (by simp;omega)) ⟨ho,ho2,?_⟩
 rw[e]
 exact⟨.ref _,_,I.lnew (t':=s.toks) (r.append r2) (by rw[List.length_append];omega),rfl,q _ I.fresh⟩
end
end L2
namespace L2
open PySem PySem.Spec PyProof.Rows
inductive Slots (X:Cx) (scope:Scope):List Str→List Nat→Prop
 | nil:Slots X scope [] []
 | cons {x:Str}{j:Nat}{xs:List Str}{js:List Nat}(h1:scope.names.lookup x=some .free) (h2:X.env.kindOf x=some .cell∨X.env.kindOf x=some .free) (h3:X.N[j]?=some x) (r:Slots X scope xs js):Slots X scope (x::xs) (j::js)
theorem Slots.len {X:Cx}{scope:Scope}:∀{xs:List Str}{js:List Nat},Slots X scope xs js→xs.length=js.length
 | _,_,.nil=>rfl
 | _,_,.cons _ _ _ r=>by simp[r.len]
theorem Slots.kind {X:Cx}{scope:Scope}:∀{xs:List Str}{js:List Nat},Slots X scope xs js→∀x∈xs,X.env.kindOf x=some .cell∨X.env.kindOf x=some .free
 | _,_,.nil,x,h=>absurd h (by simp)
 | _,_,.cons _ h2 _ r,x,h=>by
  rcases List.mem_cons.mp h with e | e
  ·subst e;exact h2
  ·exact r.kind x e
theorem Slots.get {X:Cx}{scope:Scope}:∀{xs:List Str}{js:List Nat},Slots X scope xs js→∀(i:Nat) (x:Str),xs[i]?=some x→scope.names.lookup x=some .free∧∃j,js[i]?=some j∧X.N[j]?=some x
 | _,_,.nil,i,x,h=>by simp at h
 | _,_,.cons h1 _ h3 r,0,x,h=>by
  simp only[List.getElem?_cons_zero,Option.some.injEq]at h
  subst h
  exact⟨h1,_,by simp,h3⟩
 | _,_,.cons _ _ _ r,i+1,x,h=>by simpa using r.get i x (by simpa using h)
theorem blk_mk {X:Cx}{own fr:List Str}{fm:List Nat}{scope:Scope}(kind:scope.kind=.function) (h1:∀y∈scope.names,y.2≠.cell) (h2:∀y∈scope.names,y.2=.local→scope.names.lookup y.1=some .local)
  (h3:∀y∈scope.names,y.2=.free→y.1∈fr) (S:Slots X scope fr fm):BlkScope X (own++fr) own.length fm scope:=
 ⟨kind,h1,h2,fun y hy hk=>S.kind y.1 (h3 y hy hk),by rw[List.length_append,S.len],fun i x hi h=>by
  rw[List.getElem?_append_right hi]at h
  exact S.get _ x h⟩
section
variable {X:Cx}
theorem op_addA:OpR X (binaryOp .Add) (fun x y H Q=>rI0 (fun i j=>.int (i+j)) x y H Q∨(∃i j,x=.str i∧y=.str j∧i.length+j.length≤sizeLine∧Q (.str (i++j)) H)∨rCatS X.K x y H Q∨rCatT X.K x y H Q):=
 op_add.or (zz15.or (op_catS.or op_catT))
end
theorem comp_str {z:Str}{g:TG}{tt:TT}{te:TE}{σ0:St}{H:Hp}{D:Addr}{Q:VK}(hz:z.cps.size<sizeLine) (Pv:Nat→List V→Hp→Prop) (h0:Pv 0 [] (upd H D (.lst [])))
  (hl:∀i ys H,i≤z.cps.size→Pv i ys H→H D=some (.lst ys)∧ys.length≤i)
  (hs:∀i c ys H,z.cps[i]?=some c→Pv i ys H→g (.str ⟨#[c]⟩) σ0 H fun σ3 H4=>Ext σ0 σ3∧tt σ3 H4 fun b H5=>if b=true then te σ3 H5 fun y H6=>H6 D=some (.lst ys)∧Pv (i+1) (ys++[y]) (upd H6 D (.lst (ys++[y]))) else Pv (i+1) ys H5)
  (hd:∀ys H,Pv z.cps.size ys H→Q (.ref D) H):
  ∃W:Nat→Nat→List V→Hp→Prop,(∃m,W 0 m [] (upd H D (.lst [])))∧∀i m ys H2,W i m ys H2→H2 D=some (.lst ys)∧ys.length<sizeLine∧(((Its z).stop i H2∧Q (.ref D) H2)∨((Its z).go i H2∧∃N:List V→Hp→Prop,(∀ys' H',N ys' H'→∃m',m'<m∧W (i+1) m' ys' H')∧∀x H3,(Its z).yld i H2 x H3→
   g x σ0 H3 fun σ3 H4=>Ext σ0 σ3∧tt σ3 H4 fun b H5=>if b=true then te σ3 H5 fun y H6=>H6 D=some (.lst ys)∧N (ys++[y]) (upd H6 D (.lst (ys++[y]))) else N ys H5)):=by
 refine⟨fun i m ys H=>m=z.cps.size - i∧i≤z.cps.size∧Pv i ys H,⟨z.cps.size,by simp,Nat.zero_le _,h0⟩,?_⟩
 rintro i m ys H2 ⟨rfl,hi,p⟩
 obtain⟨l1,l2⟩:=hl i ys H2 hi p
 refine⟨l1,by omega,?_⟩
 by_cases hlt:i<z.cps.size
 ·refine .inr ⟨hlt,Pv (i+1),fun ys' H' p'=>⟨_,(by omega:z.cps.size - (i+1)<z.cps.size - i),rfl,hlt,p'⟩,fun x H3 y => ?_⟩
  obtain⟨e,c,hc,ex⟩:=y
  subst e ex
  exact hs i c ys _ hc p
 ·have e:i=z.cps.size:=by omega
  subst e
  exact .inl ⟨Nat.le_refl _,hd ys H2 p⟩
theorem comp_list {K:Wf}{a:Addr}{xs:List V}{g:TG}{tt:TT}{te:TE}{σ0:St}{H:Hp}{D:Addr}{Q:VK}(hz:xs.length<sizeLine) (Pv:Nat→List V→Hp→Prop) (h0:Pv 0 [] (upd H D (.lst [])))
  (hl:∀i ys H,i≤xs.length→Pv i ys H→SqL K H a xs∧H D=some (.lst ys)∧ys.length≤i)
  (hs:∀i x ys H,xs[i]?=some x→Pv i ys H→g x σ0 H fun σ3 H4=>Ext σ0 σ3∧tt σ3 H4 fun b H5=>if b=true then te σ3 H5 fun y H6=>H6 D=some (.lst ys)∧Pv (i+1) (ys++[y]) (upd H6 D (.lst (ys++[y]))) else Pv (i+1) ys H5)
  (hd:∀ys H,Pv xs.length ys H→Q (.ref D) H):
  ∃W:Nat→Nat→List V→Hp→Prop,(∃m,W 0 m [] (upd H D (.lst [])))∧∀i m ys H2,W i m ys H2→H2 D=some (.lst ys)∧ys.length<sizeLine∧(((Itl K a).stop i H2∧Q (.ref D) H2)∨((Itl K a).go i H2∧∃N:List V→Hp→Prop,(∀ys' H',N ys' H'→∃m',m'<m∧W (i+1) m' ys' H')∧∀x H3,(Itl K a).yld i H2 x H3→
   g x σ0 H3 fun σ3 H4=>Ext σ0 σ3∧tt σ3 H4 fun b H5=>if b=true then te σ3 H5 fun y H6=>H6 D=some (.lst ys)∧N (ys++[y]) (upd H6 D (.lst (ys++[y]))) else N ys H5)):=by
 refine⟨fun i m ys H=>m=xs.length - i∧i≤xs.length∧Pv i ys H,⟨xs.length,by simp,Nat.zero_le _,h0⟩,?_⟩
 rintro i m ys H2 ⟨rfl,hi,p⟩
 obtain⟨l0,l1,l2⟩:=hl i ys H2 hi p
 refine⟨l1,by omega,?_⟩
 by_cases hlt:i<xs.length
 ·refine .inr ⟨⟨xs,xs[i],l0,by simp[hlt]⟩,Pv (i+1),fun ys' H' p'=>⟨_,(by omega:xs.length - (i+1)<xs.length - i),rfl,hlt,p'⟩,fun x H3 y => ?_⟩
  obtain⟨e,y⟩:=y
  subst e
  exact hs i x ys _ (y xs l0) p
 ·have e:i=xs.length:=by omega
  subst e
  exact .inl ⟨⟨xs,l0,Nat.le_refl _⟩,hd ys H2 p⟩
def ForW (g:TG) (tb:TS) (D:Ends) (σ:St) (J:It) (H1:Hp):Prop:=∃W:Nat→Nat→St→Hp→Prop,(∃m,W 0 m σ H1)∧∀i m σ H,W i m σ H→
 (J.stop i H∧D.nx σ H)∨(J.go i H∧∃N:St→Hp→Prop,(∀σ' H',N σ' H'→∃m',m'<m∧W (i+1) m' σ' H')∧∀x H',J.yld i H x H'→g x σ H' fun σ2 H2=>tb { D with nx:=N,ct:=N,bk:=D.nx } σ2 H2)
def ForL (K:Wf) (g:TG) (tb:TS) (D:Ends) (σ:St):VK:=fun x H1=>∃a,x=.ref a∧(∃xs,SqL K H1 a xs)∧ForW g tb D σ (Itl K a) H1
def ForT (K:Wf) (g:TG) (tb:TS) (D:Ends) (σ:St):VK:=fun x H1=>∃a,x=.ref a∧(∃xs,SqT K H1 a xs)∧ForW g tb D σ (Itt K a) H1
def ForS (g:TG) (tb:TS) (D:Ends) (σ:St):VK:=fun x H1=>∃z,x=.str z∧ForW g tb D σ (Its z) H1
noncomputable def ForR (g:TG) (tb:TS) (D:Ends) (σ:St):List V→Hp→Prop:=fun vs H1=>∃j:Int,vs=[.int j] ∧ -(2 ^ 62)≤j∧j<2 ^ 62∧ForW g tb D σ (Itr 0 j.toNat) H1
noncomputable def ForR2 (g:TG) (tb:TS) (D:Ends) (σ:St):List V→Hp→Prop:=fun vs H1=>∃i j:Int,vs=[.int i,.int j]∧(-(2 ^ 62)≤i∧i<2 ^ 62 ∧ -(2 ^ 62)≤j∧j<2 ^ 62)∧ForW g tb D σ (Itr i (j - i).toNat) H1
section
variable {K:Wf}{te:TE}{ta:TA}{g:TG}{tb:TS}{D:Ends}{σ:St}{H:Hp}
theorem tFor_list:tFor (iList K te) g tb D σ H=te σ H (ForL K g tb D σ):=rfl
theorem tFor_tup:tFor (iTup K te) g tb D σ H=te σ H (ForT K g tb D σ):=rfl
theorem tFor_str:tFor (iStr te) g tb D σ H=te σ H (ForS g tb D σ):=rfl
theorem tFor_rng1:tFor (iRng1 ta) g tb D σ H=ta σ H (ForR g tb D σ):=rfl
theorem tFor_rng2:tFor (iRng2 ta) g tb D σ H=ta σ H (ForR2 g tb D σ):=rfl
theorem ForL.of {a:Addr}{xs:List V}(Pv:Nat→St→Hp→Prop) (h0:Pv 0 σ H) (hl:∀i σ H,i≤xs.length→Pv i σ H→SqL K H a xs)
  (hs:∀i x σ H,xs[i]?=some x→Pv i σ H→g x σ H fun σ2 H2=>tb { D with nx:=Pv (i+1),ct:=Pv (i+1),bk:=D.nx } σ2 H2) (hd:∀σ H,Pv xs.length σ H→D.nx σ H):ForL K g tb D σ (.ref a) H:=
 ⟨a,rfl,⟨xs,hl 0 _ _ (Nat.zero_le _) h0⟩,for_list Pv h0 hl hs hd⟩
theorem ForR.of {n:Int}(h1:n<2 ^ 62) (h2 : -(2 ^ 62)≤n) (Pv:Nat→St→Hp→Prop) (h0:Pv 0 σ H)
  (hs:∀i σ H,i<n.toNat→Pv i σ H→g (.int (i:Int)) σ H fun σ2 H2=>tb { D with nx:=Pv (i+1),ct:=Pv (i+1),bk:=D.nx } σ2 H2) (hd:∀σ H,Pv n.toNat σ H→D.nx σ H):ForR g tb D σ [.int n] H:=
 ⟨n,rfl,h2,h1,for_range (n:=n.toNat) Pv h0 (fun i σ H hi p=>by
  have e:(0:Int)+(i:Int)=i:=by omega
  rw[e];exact hs i σ H hi p) hd⟩
end
def CompW (g:TG) (tt:TT) (te:TE) (σ0:St) (Q:VK) (J:It) (H1:Hp):Prop:=∀DD,H1 DD=none→∃W:Nat→Nat→List V→Hp→Prop,
 (∃m,W 0 m [] (upd H1 DD (.lst [])))∧∀i m ys H2,W i m ys H2→H2 DD=some (.lst ys)∧ys.length<sizeLine∧((J.stop i H2∧Q (.ref DD) H2)∨(J.go i H2∧∃N:List V→Hp→Prop,(∀ys' H',N ys' H'→∃m',m'<m∧W (i+1) m' ys' H')∧∀x H3,J.yld i H2 x H3→
  g x σ0 H3 fun σ3 H4=>Ext σ0 σ3∧tt σ3 H4 fun b H5=>if b=true then te σ3 H5 fun y H6=>H6 DD=some (.lst ys)∧N (ys++[y]) (upd H6 DD (.lst (ys++[y]))) else N ys H5))
def CompL (K:Wf) (g:TG) (tt:TT) (te:TE) (σ0:St) (Q:VK):VK:=fun x H1=>∃a,x=.ref a∧(∃xs,SqL K H1 a xs)∧CompW g tt te σ0 Q (Itl K a) H1
def CompT (K:Wf) (g:TG) (tt:TT) (te:TE) (σ0:St) (Q:VK):VK:=fun x H1=>∃a,x=.ref a∧(∃xs,SqT K H1 a xs)∧CompW g tt te σ0 Q (Itt K a) H1
def CompS (g:TG) (tt:TT) (te:TE) (σ0:St) (Q:VK):VK:=fun x H1=>∃z,x=.str z∧CompW g tt te σ0 Q (Its z) H1
noncomputable def CompR (g:TG) (tt:TT) (te:TE) (σ0:St) (Q:VK):List V→Hp→Prop:=fun vs H1=>∃j:Int,vs=[.int j] ∧ -(2 ^ 62)≤j∧j<2 ^ 62∧CompW g tt te σ0 Q (Itr 0 j.toNat) H1
section
variable {K:Wf}{k:Nat}{fm:List Nat}{tl te:TE}{ta:TA}{g:TG}{tt:TT}{σ σ0:St}{H H1:Hp}{Q:VK}
theorem tComp_list:tComp k fm (iList K tl) g tt te σ H Q=tl σ H (CompL K g tt te (blkSt k fm σ) Q):=rfl
theorem tComp_tup:tComp k fm (iTup K tl) g tt te σ H Q=tl σ H (CompT K g tt te (blkSt k fm σ) Q):=rfl
theorem tComp_str:tComp k fm (iStr tl) g tt te σ H Q=tl σ H (CompS g tt te (blkSt k fm σ) Q):=rfl
theorem tComp_rng1:tComp k fm (iRng1 ta) g tt te σ H Q=ta σ H (CompR g tt te (blkSt k fm σ) Q):=rfl
theorem CompL.of {a:Addr}{xs:List V}(hz:xs.length<sizeLine) (hx:SqL K H1 a xs) (Pv:Addr→Nat→List V→Hp→Prop) (h0:∀D,H1 D=none→Pv D 0 [] (upd H1 D (.lst [])))
  (hl:∀D i ys H',H1 D=none→i≤xs.length→Pv D i ys H'→SqL K H' a xs∧H' D=some (.lst ys)∧ys.length≤i)
  (hs:∀D i x ys H',H1 D=none→xs[i]?=some x→Pv D i ys H'→g x σ0 H' fun σ3 H4=>Ext σ0 σ3∧tt σ3 H4 fun b H5=>if b=true then te σ3 H5 fun y H6=>H6 D=some (.lst ys)∧Pv D (i+1) (ys++[y]) (upd H6 D (.lst (ys++[y]))) else Pv D (i+1) ys H5)
  (hd:∀D ys H',H1 D=none→Pv D xs.length ys H'→Q (.ref D) H'):CompL K g tt te σ0 Q (.ref a) H1:=
 ⟨a,rfl,⟨xs,hx⟩,fun D hD=>comp_list hz (Pv D) (h0 D hD) (fun i ys H'=>hl D i ys H' hD) (fun i x ys H'=>hs D i x ys H' hD) fun ys H'=>hd D ys H' hD⟩
theorem CompS.of {z:Str}(hz:z.cps.size<sizeLine) (Pv:Addr→Nat→List V→Hp→Prop) (h0:∀D,H1 D=none→Pv D 0 [] (upd H1 D (.lst [])))
  (hl:∀D i ys H',H1 D=none→i≤z.cps.size→Pv D i ys H'→H' D=some (.lst ys)∧ys.length≤i)
  (hs:∀D i c ys H',H1 D=none→z.cps[i]?=some c→Pv D i ys H'→g (.str ⟨#[c]⟩) σ0 H' fun σ3 H4=>Ext σ0 σ3∧tt σ3 H4 fun b H5=>if b=true then te σ3 H5 fun y H6=>H6 D=some (.lst ys)∧Pv D (i+1) (ys++[y]) (upd H6 D (.lst (ys++[y]))) else Pv D (i+1) ys H5)
  (hd:∀D ys H',H1 D=none→Pv D z.cps.size ys H'→Q (.ref D) H'):CompS g tt te σ0 Q (.str z) H1:=
 ⟨z,rfl,fun D hD=>comp_str hz (Pv D) (h0 D hD) (fun i ys H'=>hl D i ys H' hD) (fun i c ys H'=>hs D i c ys H' hD) fun ys H'=>hd D ys H' hD⟩
end
end L2
namespace L2
open PySem PySem.Spec PyProof.Rows
inductive D where
 | non | bl (b:Bool) | int (i:Int) | str (z:Str) | lst (xs:List D) | tup (xs:List D)
mutual
noncomputable def Rep (K:Wf) (H:Hp):D→V→Prop
 | .non,v=>v=.non
 | .bl b,v=>v=.bl b
 | .int i,v=>v=.int i
 | .str z,v=>v=.str z
 | .lst ds,v=>∃a xs,v=.ref a∧SqL K H a xs∧RepL K H ds xs
 | .tup ds,v=>∃a xs,v=.ref a∧SqT K H a xs∧RepL K H ds xs
noncomputable def RepL (K:Wf) (H:Hp):List D→List V→Prop
 | [],xs=>xs=[]
 | d::ds,xs=>∃y ys,xs=y::ys∧Rep K H d y∧RepL K H ds ys
end
mutual
noncomputable def deq:D→D→Bool
 | .non,.non=>true
 | .bl a,.bl b=>a == b
 | .bl a,.int b=>(if a then 1 else 0) == b
 | .int a,.bl b=>a == (if b then 1 else 0)
 | .int a,.int b=>a == b
 | .str a,.str b=>a == b
 | .lst a,.lst b=>deqL a b
 | .tup a,.tup b=>deqL a b
 | _,_=>false
noncomputable def deqL:List D→List D→Bool
 | [],[]=>true
 | a::as,b::bs=>deq a b&&deqL as bs
 | _,_=>false
end
mutual
noncomputable def dep:D→Nat
 | .lst ds=>depL ds+1
 | .tup ds=>depL ds+1
 | _=>0
noncomputable def depL:List D→Nat
 | []=>0
 | d::ds=>max (dep d) (depL ds)
end
mutual
theorem deq_refl:∀d:D,deq d d=true
 | .non=>rfl
 | .bl a=>by simp[deq]
 | .int a=>by simp[deq]
 | .str a=>by simp[deq]
 | .lst a=>by simp only[deq];exact deqL_refl a
 | .tup a=>by simp only[deq];exact deqL_refl a
theorem deqL_refl:∀ds:List D,deqL ds ds=true
 | []=>rfl
 | d::ds=>by simp only[deqL,deq_refl d,deqL_refl ds,Bool.and_self]
end
theorem RepL.len {K:Wf}{H:Hp}:∀{ds:List D}{xs:List V},RepL K H ds xs→ds.length=xs.length
 | [],xs,h=>by simp only[RepL]at h;subst h;rfl
 | d::ds,xs,h=>by
  simp only[RepL]at h
  obtain⟨y,ys,rfl,_,r⟩:=h
  simp[r.len]
noncomputable def eAt (ds es:List D) (j:Nat):Bool:=match ds[j]?,es[j]? with
 | some d,some e=>deq d e
 | _,_=>true
theorem eAt_all:∀(ds es:List D),((List.range (min ds.length es.length)).all (eAt ds es)&&ds.length == es.length)=deqL ds es
 | [],[]=>by simp[deqL]
 | [],e::es=>by simp[deqL]
 | d::ds,[]=>by simp[deqL]
 | d::ds,e::es=>by
  have ih:=eAt_all ds es
  have h1:min (d::ds).length (e::es).length=min ds.length es.length+1:=by simp only[List.length_cons];omega
  rw[h1,List.range_succ_eq_map,List.all_cons,List.all_map]
  have h2:(eAt (d::ds) (e::es) ∘ Nat.succ)=eAt ds es:=by funext j;simp[eAt]
  have h3:eAt (d::ds) (e::es) 0=deq d e:=by simp[eAt]
  rw[h2,h3]
  simp only[deqL,←ih,List.length_cons,Bool.and_assoc]
  congr 2
  simp
section
variable {X:Cx}{pins:Lo}{σ:St}{H:Hp}{s:Shared}
mutual
theorem rep_inj (I:Inv X pins σ H s):∀(d e:D) (x:V),Rep X.K H d x→Rep X.K H e x→d=e
 | d,e,x,hd,he=>by
  cases d with
  | non=>
   simp only[Rep]at hd;subst hd
   cases e<;>simp only[Rep]at he<;>first | rfl | (obtain⟨a,xs,z,_⟩:=he;cases z;done) | (cases he;done)
  | bl b=>
   simp only[Rep]at hd;subst hd
   cases e<;>simp only[Rep]at he<;>first | (obtain⟨a,xs,z,_⟩:=he;cases z;done) | (cases he;rfl) | (cases he;done)
  | int b=>
   simp only[Rep]at hd;subst hd
   cases e<;>simp only[Rep]at he<;>first | (obtain⟨a,xs,z,_⟩:=he;cases z;done) | (cases he;rfl) | (cases he;done)
  | str b=>
   simp only[Rep]at hd;subst hd
   cases e<;>simp only[Rep]at he<;>first | (obtain⟨a,xs,z,_⟩:=he;cases z;done) | (cases he;rfl) | (cases he;done)
  | lst ds=>
   simp only[Rep]at hd
   obtain⟨a,xs,rfl,hx,r⟩:=hd
   cases e with
   | lst es=>
    simp only[Rep]at he
    obtain⟨a',xs',z,hx',r'⟩:=he
    cases z
    have:=I.list_inj hx hx'
    subst this
    rw[repL_inj I ds es xs r r']
   | tup es=>
    simp only[Rep]at he
    obtain⟨a',xs',z,hx',r'⟩:=he
    cases z
    exfalso
    obtain⟨_,_,p,_⟩:=I.list hx
    obtain⟨_,_,q,_⟩:=I.tuple hx'
    obtain⟨o,n,e1,e2,_⟩:=p
    obtain⟨o',e1',e2',_⟩:=q
    rw[e1]at e1';cases e1'
    rw[e2]at e2';exact absurd e2' (by decide)
   | _=>simp only[Rep]at he;cases he
  | tup ds=>
   simp only[Rep]at hd
   obtain⟨a,xs,rfl,hx,r⟩:=hd
   cases e with
   | tup es=>
    simp only[Rep]at he
    obtain⟨a',xs',z,hx',r'⟩:=he
    cases z
    have:=I.tuple_inj hx hx'
    subst this
    rw[repL_inj I ds es xs r r']
   | lst es=>
    simp only[Rep]at he
    obtain⟨a',xs',z,hx',r'⟩:=he
    cases z
    exfalso
    obtain⟨_,_,p,_⟩:=I.list hx'
    obtain⟨_,_,q,_⟩:=I.tuple hx
    obtain⟨o,n,e1,e2,_⟩:=p
    obtain⟨o',e1',e2',_⟩:=q
    rw[e1]at e1';cases e1'
    rw[e2]at e2';exact absurd e2' (by decide)
   | _=>simp only[Rep]at he;cases he
theorem repL_inj (I:Inv X pins σ H s):∀(ds es:List D) (xs:List V),RepL X.K H ds xs→RepL X.K H es xs→ds=es
 | [],es,xs,hd,he=>by
  simp only[RepL]at hd
  subst hd
  cases es with
  | nil=>rfl
  | cons e es=>simp only[RepL]at he;obtain⟨y,ys,z,_⟩:=he;cases z
 | d::ds,es,xs,hd,he=>by
  simp only[RepL]at hd
  obtain⟨y,ys,rfl,r,rs⟩:=hd
  cases es with
  | nil=>simp only[RepL]at he;cases he
  | cons e es=>
   simp only[RepL]at he
   obtain⟨y',ys',z,r',rs'⟩:=he
   cases z
   rw[rep_inj I d e y r r',repL_inj I ds es ys rs rs']
end
theorem zz12 {h:Heap}{a:Addr}{its:Array Value}(p:IsTup h a its):h.IsTuple a its:=by
 obtain⟨o,e,c,n,d⟩:=p
 exact⟨o,e,c,n,d⟩
mutual
theorem eq_deep (I:Inv X pins σ H s):∀(d e:D) (x y:V) (u v:Value) (A:Around),A.units+dep d<cLine→Rep X.K H d x→Rep X.K H e y→RelV x u→RelV y v→SeqAt.EqAt A s u v (deq d e)
 | .non,e,x,y,u,v,A,hu,hd,he,rx,ry=>by
  have hu:A.units<cLine:=by omega
  simp only[Rep]at hd;subst hd;cases rx
  cases e<;>simp only[Rep]at he
  ·subst he;cases ry;exact SeqAt.EqAt.same _
  ·subst he;cases ry;exact SeqAt.EqAt.none_bool _
  ·subst he;obtain⟨t,rfl⟩:=ry;exact SeqAt.EqAt.none_int _ _
  ·subst he;obtain⟨t,rfl⟩:=ry;exact SeqAt.EqAt.none_str _ _
  ·obtain⟨a,xs,rfl,hx,_⟩:=he;cases ry;obtain⟨_,_,p,_⟩:=I.list hx;exact SeqAt.EqAt.none_list p.isList hu
  ·obtain⟨a,xs,rfl,hx,_⟩:=he;cases ry;obtain⟨_,_,p,_⟩:=I.tuple hx;exact SeqAt.EqAt.none_tuple (zz12 p) hu
 | .bl b,e,x,y,u,v,A,hu,hd,he,rx,ry=>by
  have hu:A.units<cLine:=by omega
  simp only[Rep]at hd;subst hd;cases rx
  cases e<;>simp only[Rep]at he
  ·subst he;cases ry;exact SeqAt.EqAt.bool_none _
  ·subst he;cases ry;exact SeqAt.EqAt.bool_bool _ _
  ·subst he;obtain⟨t,rfl⟩:=ry;exact SeqAt.EqAt.bool_int _ _ _
  ·subst he;obtain⟨t,rfl⟩:=ry;exact SeqAt.EqAt.bool_str _ _ _
  ·obtain⟨a,xs,rfl,hx,_⟩:=he;cases ry;obtain⟨_,_,p,_⟩:=I.list hx;exact SeqAt.EqAt.bool_list _ p.isList hu
  ·obtain⟨a,xs,rfl,hx,_⟩:=he;cases ry;obtain⟨_,_,p,_⟩:=I.tuple hx;exact SeqAt.EqAt.bool_tuple _ (zz12 p) hu
 | .int b,e,x,y,u,v,A,hu,hd,he,rx,ry=>by
  have hu:A.units<cLine:=by omega
  simp only[Rep]at hd;subst hd;obtain⟨t0,rfl⟩:=rx
  cases e<;>simp only[Rep]at he
  ·subst he;cases ry;exact SeqAt.EqAt.int_none _ _
  ·subst he;cases ry;exact SeqAt.EqAt.int_bool _ _ _
  ·subst he;obtain⟨t,rfl⟩:=ry;exact SeqAt.EqAt.int_int _ _ _ _
  ·subst he;obtain⟨t,rfl⟩:=ry;exact SeqAt.EqAt.int_str _ _ _ _
  ·obtain⟨a,xs,rfl,hx,_⟩:=he;cases ry;obtain⟨_,_,p,_⟩:=I.list hx;exact SeqAt.EqAt.int_list _ _ p.isList hu
  ·obtain⟨a,xs,rfl,hx,_⟩:=he;cases ry;obtain⟨_,_,p,_⟩:=I.tuple hx;exact SeqAt.EqAt.int_tuple _ _ (zz12 p) hu
 | .str b,e,x,y,u,v,A,hu,hd,he,rx,ry=>by
  have hu:A.units<cLine:=by omega
  simp only[Rep]at hd;subst hd;obtain⟨t0,rfl⟩:=rx
  cases e<;>simp only[Rep]at he
  ·subst he;cases ry;exact SeqAt.EqAt.str_none _ _
  ·subst he;cases ry;exact SeqAt.EqAt.str_bool _ _ _
  ·subst he;obtain⟨t,rfl⟩:=ry;exact SeqAt.EqAt.str_int _ _ _ _
  ·subst he;obtain⟨t,rfl⟩:=ry;exact SeqAt.EqAt.str_str _ _ _ _
  ·obtain⟨a,xs,rfl,hx,_⟩:=he;cases ry;obtain⟨_,_,p,_⟩:=I.list hx;exact SeqAt.EqAt.str_list _ _ p.isList hu
  ·obtain⟨a,xs,rfl,hx,_⟩:=he;cases ry;obtain⟨_,_,p,_⟩:=I.tuple hx;exact SeqAt.EqAt.str_tuple _ _ (zz12 p) hu
 | .lst ds,e,x,y,u,v,A,hu,hd,he,rx,ry=>by
  have hu0:A.units<cLine:=by omega
  simp only[dep]at hu
  simp only[Rep]at hd;obtain⟨a,xs,rfl,hx,r⟩:=hd;cases rx
  obtain⟨its,rv,p,hz⟩:=I.list hx
  cases e<;>simp only[Rep]at he
  ·subst he;cases ry;exact SeqAt.EqAt.list_none p.isList hu0
  ·subst he;cases ry;exact SeqAt.EqAt.list_bool _ p.isList hu0
  ·subst he;obtain⟨t,rfl⟩:=ry;exact SeqAt.EqAt.list_int _ _ p.isList hu0
  ·subst he;obtain⟨t,rfl⟩:=ry;exact SeqAt.EqAt.list_str _ _ p.isList hu0
  ·rename_i es
   obtain⟨b,ys,rfl,hy,r'⟩:=he;cases ry
   obtain⟨its',rv',p',hz'⟩:=I.list hy
   by_cases hab:a=b
   ·subst hab
    have:=I.list_inj hx hy
    subst this
    rw[repL_inj I ds es xs r r',deq_refl]
    exact SeqAt.EqAt.same _
   ·have l1:=r.len
    have l2:=rv.length
    have l3:=r'.len
    have l4:=rv'.length
    have key:=eAt_all ds es
    simp only[deq]
    rw[←key]
    by_cases hl:its.length=its'.length
    ·have:=SeqAt.EqAt.of_refs hab (SeqAt.RcAt.lists (e:=eAt ds es) p.isList p'.isList (by simpa using hl) hu0 (fun j h1 h2=>by
      have q:=eq_deepL I ds es xs ys its its' A.in1 (by show A.units+1+depL ds<cLine;omega) r r' rv rv' j (by simpa using h1) (by simpa using h2)
      simpa using q))
     have e1:its.toArray.size=min ds.length es.length:=by rw[List.size_toArray];omega
     rw[e1]at this
     have e2:(ds.length == es.length)=true:=by simp;omega
     rw[e2,Bool.and_true]
     exact this
    ·have e2:(ds.length == es.length)=false:=by simp;omega
     rw[e2,Bool.and_false]
     exact SeqAt.EqAt.of_refs hab (SeqAt.RcAt.lists_lengths p.isList p'.isList (by simpa using hl) hu0)
  ·obtain⟨b,ys,rfl,hy,r'⟩:=he;cases ry
   obtain⟨_,_,q,_⟩:=I.tuple hy
   exact SeqAt.EqAt.list_tuple p.isList (zz12 q) hu0
 | .tup ds,e,x,y,u,v,A,hu,hd,he,rx,ry=>by
  have hu0:A.units<cLine:=by omega
  simp only[dep]at hu
  simp only[Rep]at hd;obtain⟨a,xs,rfl,hx,r⟩:=hd;cases rx
  obtain⟨its,rv,p,hz⟩:=I.tuple hx
  cases e<;>simp only[Rep]at he
  ·subst he;cases ry;exact SeqAt.EqAt.tuple_none (zz12 p) hu0
  ·subst he;cases ry;exact SeqAt.EqAt.tuple_bool _ (zz12 p) hu0
  ·subst he;obtain⟨t,rfl⟩:=ry;exact SeqAt.EqAt.tuple_int _ _ (zz12 p) hu0
  ·subst he;obtain⟨t,rfl⟩:=ry;exact SeqAt.EqAt.tuple_str _ _ (zz12 p) hu0
  ·obtain⟨b,ys,rfl,hy,r'⟩:=he;cases ry
   obtain⟨_,_,q,_⟩:=I.list hy
   exact SeqAt.EqAt.tuple_list (zz12 p) q.isList hu0
  ·rename_i es
   obtain⟨b,ys,rfl,hy,r'⟩:=he;cases ry
   obtain⟨its',rv',p',hz'⟩:=I.tuple hy
   by_cases hab:a=b
   ·subst hab
    have:=I.tuple_inj hx hy
    subst this
    rw[repL_inj I ds es xs r r',deq_refl]
    exact SeqAt.EqAt.same _
   ·have l1:=r.len
    have l2:=rv.length
    have l3:=r'.len
    have l4:=rv'.length
    have key:=eAt_all ds es
    simp only[deq]
    rw[←key]
    have:=SeqAt.EqAt.of_refs hab (SeqAt.RcAt.tuples (e:=eAt ds es) (zz12 p) (zz12 p') hu0 (fun j h1 h2=>by
      have q:=eq_deepL I ds es xs ys its its' A.in1 (by show A.units+1+depL ds<cLine;omega) r r' rv rv' j (by simpa using h1) (by simpa using h2)
      simpa using q))
    have e1:its.toArray.size=ds.length:=by rw[List.size_toArray];omega
    have e2:its'.toArray.size=es.length:=by rw[List.size_toArray];omega
    rw[e1,e2]at this
    exact this
theorem eq_deepL (I:Inv X pins σ H s):∀(ds es:List D) (xs ys:List V) (us vs:List Value) (A:Around),A.units+depL ds<cLine→RepL X.K H ds xs→RepL X.K H es ys→Vals xs us→Vals ys vs→
  ∀(j:Nat) (h1:j<us.length) (h2:j<vs.length),SeqAt.EqAt A s us[j] vs[j] (eAt ds es j)
 | [],es,xs,ys,us,vs,A,hu,hd,he,rx,ry,j,h1,h2=>by
  simp only[RepL]at hd
  subst hd
  cases rx
  exact absurd h1 (by simp)
 | d::ds,es,xs,ys,us,vs,A,hu,hd,he,rx,ry,j,h1,h2=>by
  simp only[depL]at hu
  simp only[RepL]at hd
  obtain⟨x,xs',rfl,rd,rds⟩:=hd
  cases rx with
  | cons r0 rr=>
   cases es with
   | nil=>
    simp only[RepL]at he
    subst he
    cases ry
    exact absurd h2 (by simp)
   | cons e es=>
    simp only[RepL]at he
    obtain⟨y,ys',rfl,re,res⟩:=he
    cases ry with
    | cons q0 qr=>
     cases j with
     | zero=>
      have:eAt (d::ds) (e::es) 0=deq d e:=by simp[eAt]
      rw[this]
      exact eq_deep I d e x y _ _ A (by omega) rd re r0 q0
     | succ j=>
      have:eAt (d::ds) (e::es) (j+1)=eAt ds es j:=by simp[eAt]
      rw[this]
      exact eq_deepL I ds es xs' ys' _ _ A (by omega) rds res rr qr j (by simpa using h1) (by simpa using h2)
end
def rEqD (K:Wf):R2:=fun x y H Q=>∃ds es,((Rep K H (.lst ds) x∧Rep K H (.lst es) y)∨(Rep K H (.tup ds) x∧Rep K H (.tup es) y))∧depL ds≤20∧Q (.bl (deqL ds es)) H
theorem op_eqD (hu:X.A.units+64<cLine):OpR X (compareOp .Eq) (rEqD X.K):=by
 intro pins s σ H x y v u Q I rx ry h
 obtain⟨ds,es,h,hdep,q⟩:=h
 have hu0:X.A.units<cLine:=by omega
 have hin:X.A.in1.units+depL ds<cLine:=by show X.A.units+1+depL ds<cLine;omega
 have key:=eAt_all ds es
 rcases h with ⟨h1,h2⟩ | ⟨h1,h2⟩
 ·simp only[Rep]at h1 h2
  obtain⟨a,xs,rfl,hx,r⟩:=h1
  obtain⟨b,ys,rfl,hy,r'⟩:=h2
  cases rx
  cases ry
  obtain⟨its,rv,p,hz⟩:=I.list hx
  obtain⟨its',rv',p',hz'⟩:=I.list hy
  have l1:=r.len
  have l2:=rv.length
  have l3:=r'.len
  have l4:=rv'.length
  by_cases hl:its.length=its'.length
  ·refine SeqAt.eq_listAt (e:=eAt ds es) p.isList p'.isList (by simpa using hl) hu0 (fun j h1 h2 => ?_) ?_
   ·have q:=eq_deepL I ds es xs ys its its' X.A.in1 hin r r' rv rv' j (by simpa using h1) (by simpa using h2)
    simpa using q
   ·have e1:its.toArray.size=min ds.length es.length:=by rw[List.size_toArray];omega
    have e2:(ds.length == es.length)=true:=by simp;omega
    rw[e2,Bool.and_true]at key
    rw[e1,key]
    exact⟨.bl (deqL ds es),H,I,rfl,q⟩
  ·have e2:(ds.length == es.length)=false:=by simp;omega
   rw[e2,Bool.and_false]at key
   rw[←key]at q
   exact SeqAt.eq_list_lengthsAt p.isList p'.isList (by simpa using hl) hu0 ⟨.bl false,H,I,rfl,q⟩
 ·simp only[Rep]at h1 h2
  obtain⟨a,xs,rfl,hx,r⟩:=h1
  obtain⟨b,ys,rfl,hy,r'⟩:=h2
  cases rx
  cases ry
  obtain⟨its,rv,p,hz⟩:=I.tuple hx
  obtain⟨its',rv',p',hz'⟩:=I.tuple hy
  have l1:=r.len
  have l2:=rv.length
  have l3:=r'.len
  have l4:=rv'.length
  refine SeqAt.eq_tupleAt (e:=eAt ds es) (zz12 p) (zz12 p') hu0 (fun j h1 h2 => ?_) ?_
  ·have q:=eq_deepL I ds es xs ys its its' X.A.in1 hin r r' rv rv' j (by simpa using h1) (by simpa using h2)
   simpa using q
  ·have e1:its.toArray.size=ds.length:=by rw[List.size_toArray];omega
   have e2:its'.toArray.size=es.length:=by rw[List.size_toArray];omega
   rw[e1,e2,key]
   exact⟨.bl (deqL ds es),H,I,rfl,q⟩
def rNeD (K:Wf):R2:=fun x y H Q=>∃ds es,((Rep K H (.lst ds) x∧Rep K H (.lst es) y)∨(Rep K H (.tup ds) x∧Rep K H (.tup es) y))∧depL ds≤20∧Q (.bl (!deqL ds es)) H
theorem op_neD (hu:X.A.units+64<cLine):OpR X (compareOp .NotEq) (rNeD X.K):=by
 intro pins s σ H x y v u Q I rx ry h
 obtain⟨ds,es,h,hdep,q⟩:=h
 have hu0:X.A.units<cLine:=by omega
 have hin:X.A.in1.units+depL ds<cLine:=by show X.A.units+1+depL ds<cLine;omega
 have key:=eAt_all ds es
 rcases h with ⟨h1,h2⟩ | ⟨h1,h2⟩
 ·simp only[Rep]at h1 h2
  obtain⟨a,xs,rfl,hx,r⟩:=h1
  obtain⟨b,ys,rfl,hy,r'⟩:=h2
  cases rx
  cases ry
  obtain⟨its,rv,p,hz⟩:=I.list hx
  obtain⟨its',rv',p',hz'⟩:=I.list hy
  have l1:=r.len
  have l2:=rv.length
  have l3:=r'.len
  have l4:=rv'.length
  by_cases hl:its.length=its'.length
  ·refine SeqAt.RcNeAt.lists (e:=eAt ds es) p.isList p'.isList (by simpa using hl) hu0 (fun j h1 h2 => ?_) X.prog X.w X.xe _ ?_
   ·have q:=eq_deepL I ds es xs ys its its' X.A.in1 hin r r' rv rv' j (by simpa using h1) (by simpa using h2)
    simpa using q
   ·have e1:its.toArray.size=min ds.length es.length:=by rw[List.size_toArray];omega
    have e2:(ds.length == es.length)=true:=by simp;omega
    rw[e2,Bool.and_true]at key
    rw[e1,key]
    exact⟨.bl (!deqL ds es),H,I,rfl,q⟩
  ·have e2:(ds.length == es.length)=false:=by simp;omega
   rw[e2,Bool.and_false]at key
   rw[←key]at q
   exact SeqAt.RcNeAt.lists_lengths p.isList p'.isList (by simpa using hl) hu0 X.prog X.w X.xe _ ⟨.bl true,H,I,rfl,q⟩
 ·simp only[Rep]at h1 h2
  obtain⟨a,xs,rfl,hx,r⟩:=h1
  obtain⟨b,ys,rfl,hy,r'⟩:=h2
  cases rx
  cases ry
  obtain⟨its,rv,p,hz⟩:=I.tuple hx
  obtain⟨its',rv',p',hz'⟩:=I.tuple hy
  have l1:=r.len
  have l2:=rv.length
  have l3:=r'.len
  have l4:=rv'.length
  refine SeqAt.RcNeAt.tuples (e:=eAt ds es) (zz12 p) (zz12 p') hu0 (fun j h1 h2 => ?_) X.prog X.w X.xe _ ?_
  ·have q:=eq_deepL I ds es xs ys its its' X.A.in1 hin r r' rv rv' j (by simpa using h1) (by simpa using h2)
   simpa using q
  ·have e1:its.toArray.size=ds.length:=by rw[List.size_toArray];omega
   have e2:its'.toArray.size=es.length:=by rw[List.size_toArray];omega
   rw[e1,e2,key]
   exact⟨.bl (!deqL ds es),H,I,rfl,q⟩
theorem RepL.ints {K:Wf}{H:Hp}:∀ns:List Int,RepL K H (ns.map D.int) (ns.map V.int)
 | []=>by simp only[List.map_nil,RepL]
 | n::ns=>by simp only[List.map_cons,RepL];exact⟨_,_,rfl,by simp only[Rep],RepL.ints ns⟩
end
section
variable {X:Cx}{K:Wf}
theorem zz14 (e:X.K=K):IxR X (rIxL K):=e▸ix_list
theorem zz10 (e:X.K=K):IxR X (rIxT K):=e▸ix_tup
theorem sl_listK (e:X.K=K):SlR X (rSlL K):=e▸sl_list
theorem op_catSK (e:X.K=K):OpR X (binaryOp .Add) (rCatS K):=e▸op_catS
theorem op_addAK (e:X.K=K):OpR X (binaryOp .Add) (fun x y H Q=>rI0 (fun i j=>.int (i+j)) x y H Q∨(∃i j,x=.str i∧y=.str j∧i.length+j.length≤sizeLine∧Q (.str (i++j)) H)∨rCatS K x y H Q∨rCatT K x y H Q):=e▸op_addA
theorem op_inSK (e:X.K=K):OpR X (compareOp .In) (rIn K false):=e▸op_in_seq
theorem op_eqDK (hu:X.A.units+64<cLine) (e:X.K=K):OpR X (compareOp .Eq) (rEqD K):=e▸op_eqD hu
theorem op_neDK (hu:X.A.units+64<cLine) (e:X.K=K):OpR X (compareOp .NotEq) (rNeD K):=e▸op_neD hu
theorem zz18 (e:X.K=K):CallR X (.builtin "len") (fun xs H Q=>∃x n,xs=[x]∧LenV K x H n∧Q (.int n) H):=e▸call_len
theorem call_allK (hc:X.calm=true) (e:X.K=K):CallR X (.builtin "all") (rAll K):=e▸call_all hc
theorem call_isiK (e:X.K=K):CallR X (.builtin "isinstance") (rIsi K):=e▸call_isi
theorem call_list_ofK (e:X.K=K):CallR X (.type "list") (fun xs H Q=>∃p ys,xs=[.ref p]∧(SqL K H p ys∨SqT K H p ys)∧∀l,H l=none→Q (.ref l) (upd H l (.lst ys))):=e▸call_list_of
theorem pi_listK {tg l:Expr}{tl:TE}(e:X.K=K) (hl:PE X l tl):PI X tg l (iList K tl):=e▸pi_list hl
theorem pg_tupK {es:List Expr}{k:Nat}{t:TGs}{n:Nat}{pos:Pos}(e:X.K=K) (hc:X.calm=true) (h:PGs X es t)
  (hn:(assignEach es X.env).length=n:=by rfl) (hst:(assignEach es X.env).findIdx? (·.1)=none:=by rfl):PG X (.Tuple es k pos) (gTup K n t):=e▸pg_tup hc h hn hst
end
end L2
namespace L2
open PySem PySem.Spec PyProof.Rows
section
variable {X:Cx}
noncomputable def rStarts:V→List V→Hp→VK→Prop:=fun x vs H Q=>∃z y,x=.str z∧vs=[.str y]∧Q (.bl (Txt.startswith z y)) H
theorem mt_starts:MtM X "str.startswith" rStarts:=by
 intro pins s σ H x vs v us Q I rx rv h
 obtain⟨z,y,rfl,rfl,q⟩:=h
 obtain⟨t,rfl⟩:=rx
 obtain⟨u,rfl,ru⟩:=rv.one
 obtain⟨t',rfl⟩:=ru
 exact SC.startswith ⟨.bl (Txt.startswith z y),H,I,rfl,q⟩
noncomputable def rIndex:V→List V→Hp→VK→Prop:=fun x vs H Q=>∃z y i,x=.str z∧vs=[.str y]∧(∃rest,Builtin.Str.occurrences z y 0 z.length 1=i::rest)∧Q (.int (i:Nat)) H
theorem call_intT:CallR X (.type "int") (fun xs H Q=>∃z n,xs=[.str z]∧PySem.intText? z=some n∧z.length≤640∧Q (.int n) H):=by
 intro pins s σ H xs us Q I r h
 obtain⟨z,n,rfl,hn,hl,q⟩:=h
 obtain⟨u,rfl,ru⟩:=vals1 r
 obtain⟨t,rfl⟩:=ru
 exact PySem.W.KIN.call_text hn hl ⟨.int n,H,I.tok _,⟨_,rfl⟩,q⟩
end
end L2
namespace L2
open PySem PySem.Spec PyProof.Rows
def ExcIs (h:Heap) (e:Addr) (cls:Value) (dx:Option Addr) (fl:Value) (T:Addr):Prop:=
 ∃oe vs oT ts,h.get? e=some oe∧oe.cls=cls∧oe.dict=dx∧oe.data=.fields vs∧vs[1]?=some (.ref T)∧T≠e∧h.get? T=some oT∧oT.data=.fields ts∧ts[3]?=some fl
set_option genInjectivity false in
structure LeftX (fs:List Addr) (e T0:Addr) (cls:Value) (dx:Option Addr) (fl:Value) (h h':Heap):Prop where
 keep:∀b o,b∉fs→b≠e→b≠T0→h.get? b=some o→h'.get? b=some o
 slot:∀b o,b∈fs→b≠e→b≠T0→h.get? b=some o→∃sl,h'.get? b=some { o with slots:=sl }
 there:∀b o,h.get? b=some o→∃o',h'.get? b=some o'
 exc:∃T,h.objs.size≤T∧ExcIs h' e cls dx fl T
section
variable {M:Model}{A:Around}{E:Vs}{s:Shared}
theorem cls_dict_mapFields (f:Array Value→Array Value) (o:Obj):(Obj.mapFields f o).dict=o.dict:=by
 obtain⟨c,d,da,sl⟩:=o
 cases da<;>rfl
theorem newEntryX {base:Heap}{env:Env}{outer:List Env}{L e T0:Addr}{oe:Obj}{vs:Array Value}{head:Value}{hadNext:Bool}{Q:Unit→Shared→Prop}
  (hfr:A.frames=some (env::outer)) (hl:s.heap.FunFrames base (env::outer)) (hf:env.frame=some L)
  (he:s.heap.get? e=some oe) (hd:oe.data=.fields vs) (hsz:1<vs.size)
  (h:∀h',LeftX (frs (env::outer)) e T0 oe.cls oe.dict (rawInt L) s.heap h'→Q () { s with heap:=h' }):
  wpAny M A (do let a ←frameOf env;let pl ←entryPlaceOf L hadNext;let b ←EntryCells.newEntry head a .none (rawInt L) .none pl;setField (.ref e) 1 b) Q E s:=by
 have hene:e∉(env::outer).filterMap (·.frame):=fun hm=>by
  obtain⟨_,o,ho,hnf⟩:=hl.mem hm
  rw[he]at ho;injection ho with ho;subst ho;exact hnf vs hd
 refine wpAny_bind (wpAny_frameOf_fun hfr hl hf fun h₁ hs₁ => ?_)
 refine wpAny_bind (wpAny_entryPlaceOf fun pl hpl => ?_)
 unfold EntryCells.newEntry newFields
 refine wpAny_bind (wpAny_newObj_type ?_ (hpl.sizeOk5 _ _ _ _ _))
 have he₁:h₁.get? e=some oe:=(hs₁.2.1 e hene).trans he
 have he₂:=Heap.get?_push_of_some (h:=h₁) { cls:=.type "traceback", dict:=none,data:=.fields ([head,.ref L,.none,rawInt L,.none]++(if pl.isEmpty then List.replicate 6 Value.none else pl)).toArray } he₁
 refine wpAny_setField he₂ hd hsz (h _ ?_)
 have hTe:h₁.objs.size≠e:=Nat.ne_of_gt (Heap.lt_size he₁)
 have hd₃:=Obj.data_mapFields hd (·.setIfInBounds 1 (Value.ref h₁.objs.size))
 have he₃:=Heap.get?_update_self (Obj.mapFields (·.setIfInBounds 1 (Value.ref h₁.objs.size))) he₂ (Obj.isFreed_of_fields hd₃)
 have hT₃:=(Heap.get?_update_other (h₁.push { cls:=.type "traceback", dict:=none,data:=.fields ([head,.ref L,.none,rawInt L,.none]++(if pl.isEmpty then List.replicate 6 Value.none else pl)).toArray })
  (Obj.mapFields (·.setIfInBounds 1 (Value.ref h₁.objs.size))) (Ne.symm hTe)).trans (Heap.get?_push_size h₁ rfl)
 have keep:∀b o,b≠e→h₁.get? b=some o→
   ((h₁.push { cls:=.type "traceback", dict:=none,data:=.fields ([head,.ref L,.none,rawInt L,.none]++(if pl.isEmpty then List.replicate 6 Value.none else pl)).toArray }).update e (Obj.mapFields (·.setIfInBounds 1 (Value.ref h₁.objs.size)))).get? b=some o:=
  fun b o hbe hb=>by
   rw[Heap.get?_update_other _ _ (Ne.symm hbe)]
   exact Heap.get?_push_of_some _ hb
 have new:s.heap.objs.size≤h₁.objs.size:=Nat.le_of_eq hs₁.1.symm
 refine⟨fun b o hb hbe _ hbo=>keep b o hbe ((hs₁.2.1 b hb).trans hbo),fun b o _ hbe _ hbo => ?_,fun b o hbo => ?_,h₁.objs.size,new,_,_,_,_,he₃,Obj.cls_mapFields _ _,cls_dict_mapFields _ _,hd₃,by simp[hsz],hTe,hT₃,rfl,?_⟩
 ·obtain⟨sl,hs⟩:=hs₁.2.2 b o hbo
  exact⟨sl,keep b _ hbe hs⟩
 ·by_cases hbe:b=e
  ·subst hbe;exact⟨_,he₃⟩
  ·obtain⟨sl,hs⟩:=hs₁.2.2 b o hbo
   exact⟨_,keep b _ hbe hs⟩
 ·first | (simp;done) | (rcases hpl with rfl | ⟨_,_,_,_,_,_,_,rfl⟩<;>simp)
def ExcNew (h:Heap) (e:Addr) (cls:Value) (dx:Option Addr):Prop:=∃oe vs,h.get? e=some oe∧oe.cls=cls∧oe.dict=dx∧oe.data=.fields vs∧vs[1]?=some .none
theorem note_new {base:Heap}{env:Env}{outer:List Env}{L e:Addr}{cls:Value}{dx:Option Addr}{Q:Unit→Shared→Prop}
  (hfr:A.frames=some (env::outer)) (hl:s.heap.FunFrames base (env::outer)) (hf:env.frame=some L) (hx:ExcNew s.heap e cls dx)
  (h:∀h',LeftX (frs (env::outer)) e e cls dx (rawInt L) s.heap h'→Q () { s with heap:=h' }):wpAny M A (noteFrame (.ref e) env) Q E s:=by
 obtain⟨oe,vs,he,hc,hdx,hd,h1⟩:=hx
 subst hc hdx
 unfold noteFrame
 simp only[hf]
 refine wpAny_bind (wpAny_field he hd h1 ?_)
 rw[if_neg (by decide)]
 exact newEntryX hfr hl hf he hd (Array.getElem?_eq_some_iff.mp h1).1 h
theorem note_next {base:Heap}{env:Env}{outer:List Env}{L e T:Addr}{cls:Value}{dx:Option Addr}{Q:Unit→Shared→Prop}
  (hfr:A.frames=some (env::outer)) (hl:s.heap.FunFrames base (env::outer)) (hf:env.frame=some L) (hx:ExcIs s.heap e cls dx .none T)
  (h:∀h',LeftX (frs (env::outer)) e T cls dx (rawInt L) s.heap h'→Q () { s with heap:=h' }):wpAny M A (noteFrame (.ref e) env) Q E s:=by
 obtain⟨oe,vs,oT,ts,he,hc,hdx,hd,h1,hTe,hT,hdT,h3⟩:=hx
 subst hc hdx
 unfold noteFrame
 simp only[hf]
 refine wpAny_bind (wpAny_field he hd h1 ?_)
 rw[if_pos (show (Value.ref T != Value.none)=true from by simp)]
 refine wpAny_bind (wpAny_field hT hdT h3 ?_)
 rw[if_neg (show ¬((Value.none == rawInt L)=true) from by simp[rawInt])]
 refine wpAny_bind (wpAny_setField hT hdT (Array.getElem?_eq_some_iff.mp h3).1 ?_)
 have other:∀b,b≠T→(s.heap.update T (Obj.mapFields (·.setIfInBounds 3 Value.none))).get? b=s.heap.get? b:=fun b hb=>Heap.get?_update_other _ _ (Ne.symm hb)
 have noRecord:∀b o,s.heap.get? b=some o→(∀vs,o.data≠.fields vs)→b≠T:=fun b o hb hnf q=>by
  rw[q,hT]at hb;injection hb with hb;subst hb;exact hnf ts hdT
 have hT':=Heap.get?_update_self (Obj.mapFields (·.setIfInBounds 3 Value.none)) hT (Obj.isFreed_of_fields (Obj.data_mapFields hdT _))
 refine newEntryX (T0:=T) hfr (hl.of_keeps fun b o hb hnf=>⟨o,(other b (noRecord b o hb hnf)).trans hb,rfl⟩) hf ((other e (Ne.symm hTe)).trans he) hd (Array.getElem?_eq_some_iff.mp h1).1 fun h' x=>h h' ?_
 refine⟨fun b o hb hbe hbT hbo=>x.keep b o hb hbe hbT ((other b hbT).trans hbo),fun b o hb hbe hbT hbo=>x.slot b o hb hbe hbT ((other b hbT).trans hbo),fun b o hbo => ?_,?_⟩
 ·by_cases hb:b=T
  ·subst hb;exact x.there b _ hT'
  ·exact x.there b o ((other b hb).trans hbo)
 ·obtain⟨T',hn,y⟩:=x.exc
  exact⟨T',by rw[Heap.size_update]at hn;exact hn,y⟩
theorem note_again {env:Env}{L e T:Addr}{cls:Value}{dx:Option Addr}{Q:Unit→Shared→Prop}(hf:env.frame=some L) (hx:ExcIs s.heap e cls dx (rawInt L) T) (h:Q () s):
  wpAny M A (noteFrame (.ref e) env) Q E s:=by
 obtain⟨oe,vs,oT,ts,he,hc,hdx,hd,h1,hTe,hT,hdT,h3⟩:=hx
 unfold noteFrame
 simp only[hf]
 refine wpAny_bind (wpAny_field he hd h1 ?_)
 rw[if_pos (show (Value.ref T != Value.none)=true from by simp)]
 refine wpAny_bind (wpAny_field hT hdT h3 ?_)
 rw[if_pos (show (rawInt L == rawInt L)=true from by simp)]
 exact wpAny_pure h
theorem flight_off {e T:Addr}{cls:Value}{dx:Option Addr}{fl:Value}{Q:Unit→Shared→Prop}(hx:ExcIs s.heap e cls dx fl T)
  (h:∀h',(∀b o,b≠T→s.heap.get? b=some o→h'.get? b=some o)→(∃o,h'.get? T=some o)→ExcIs h' e cls dx .none T→Q () { s with heap:=h' }):wpAny M A (setFlight (.ref e) none) Q E s:=by
 obtain⟨oe,vs,oT,ts,he,hc,hdx,hd,h1,hTe,hT,hdT,h3⟩:=hx
 unfold setFlight
 refine wpAny_bind (wpAny_field he hd h1 ?_)
 rw[if_pos (show (Value.ref T != Value.none)=true from by simp)]
 have hs:=(Array.getElem?_eq_some_iff.mp h3).1
 refine wpAny_setField hT hdT hs (h _ (fun b o hb hbo => ?_) ?_ ?_)
 ·rw[Heap.get?_update_other _ _ (Ne.symm hb)];exact hbo
 ·exact⟨_,Heap.get?_update_self _ hT (Obj.isFreed_of_fields (Obj.data_mapFields hdT _))⟩
 ·refine⟨oe,vs,_,_,?_,hc,hdx,hd,h1,hTe,Heap.get?_update_self _ hT (Obj.isFreed_of_fields (Obj.data_mapFields hdT _)),Obj.data_mapFields hdT _,?_⟩
  ·rw[Heap.get?_update_other _ _ hTe];exact he
  ·simp[hs]
theorem LeftX.off {fs:List Addr}{e T0 T:Addr}{cls:Value}{dx:Option Addr}{fl:Value}{h h1 h2:Heap}(x:LeftX fs e T0 cls dx fl h h1) (hT:h.objs.size≤T) (k:∀b o,b≠T→h1.get? b=some o→h2.get? b=some o)
  (hT2:∃o,h2.get? T=some o) (y:ExcIs h2 e cls dx .none T):LeftX fs e T0 cls dx .none h h2:=by
 have ne:∀b o,h.get? b=some o→b≠T:=fun b o e z=>by
  have:=Heap.lt_size e
  rw[z]at this
  exact absurd (Nat.lt_of_lt_of_le this hT) (Nat.lt_irrefl _)
 refine⟨fun b o hb hbe hb0 hbo=>k b o (ne b o hbo) (x.keep b o hb hbe hb0 hbo),fun b o hb hbe hb0 hbo => ?_,fun b o hbo => ?_,T,hT,y⟩
 ·obtain⟨sl,q⟩:=x.slot b o hb hbe hb0 hbo
  exact⟨sl,k b _ (ne b o hbo) q⟩
 ·obtain⟨o',q⟩:=x.there b o hbo
  exact⟨o',k b _ (ne b o hbo) q⟩
theorem leave_new {base:Heap}{env:Env}{outer:List Env}{L e:Addr}{cls:Value}{dx:Option Addr}{Q:Unit→Shared→Prop}
  (hfr:A.frames=some (env::outer)) (hl:s.heap.FunFrames base (env::outer)) (hf:env.frame=some L) (hx:ExcNew s.heap e cls dx)
  (h:∀h',LeftX (frs (env::outer)) e e cls dx .none s.heap h'→Q () { s with heap:=h' }):wpAny M A (leaving env (.ref e)) Q E s:=by
 unfold leaving
 refine wpAny_bind (note_new hfr hl hf hx fun h1 x => ?_)
 obtain⟨T,hT,y⟩:=x.exc
 exact flight_off (s:={ s with heap:=h1 }) y fun h2 k hT2 z=>h h2 (x.off hT k hT2 z)
theorem leave_next {base:Heap}{env:Env}{outer:List Env}{L e T0:Addr}{cls:Value}{dx:Option Addr}{Q:Unit→Shared→Prop}
  (hfr:A.frames=some (env::outer)) (hl:s.heap.FunFrames base (env::outer)) (hf:env.frame=some L) (hx:ExcIs s.heap e cls dx .none T0)
  (h:∀h',LeftX (frs (env::outer)) e T0 cls dx .none s.heap h'→Q () { s with heap:=h' }):wpAny M A (leaving env (.ref e)) Q E s:=by
 unfold leaving
 refine wpAny_bind (note_next hfr hl hf hx fun h1 x => ?_)
 obtain⟨T,hT,y⟩:=x.exc
 exact flight_off (s:={ s with heap:=h1 }) y fun h2 k hT2 z=>h h2 (x.off hT k hT2 z)
end
noncomputable def CXE (P:Program) (w:World):CXT:=fun outer H s E e s'=>∃(a T:Addr) (cls:Value) (dx:Option Addr) (H':Hp),e=.ref a∧s'.os=s.os∧AllBare s'.gens∧Un (frs outer) [] H H' s.heap s'.heap∧HOk P w H' s'.heap∧
 s.heap.get? a=none∧s.heap.get? T=none∧H' a=none∧H' T=none∧ExcIs s'.heap a cls dx .none T∧E cls dx H'
def ExcAt (X:Cx) (H:Hp) (h:Heap) (a:Addr) (cls:Value) (dx:Option Addr):Prop:=
 X.s₀.heap.get? a=none∧H a=none∧(ExcNew h a cls dx∨∃T,X.s₀.heap.get? T=none∧H T=none∧ExcIs h a cls dx .none T)
def Xe (X:Cx) (E:XK):Prop:=∀(pins:Lo) (σ:St) (H:Hp) (s:Shared) (a:Addr) (cls:Value) (dx:Option Addr),Inv X pins σ H s→ExcAt X H s.heap a cls dx→E cls dx H→X.xe (.ref a) s
theorem HOk.tracked {P:Program}{w:World}{H:Hp}{h h':Heap}(ok:HOk P w H h) (k:∀b o u,H b=some u→h.get? b=some o→h'.get? b=some o):HOk P w H h':=fun a o e=>
 (ok a o e).stay (fun b u hb q=>by
  rcases hb with z | z
  ·subst z;exact k b u o e q
  ·exact k b u _ z q) (fun _ q=>q) fun _ _ q=>q
theorem Un.left {X:Cx}{pins:Lo}{σ:St}{H:Hp}{s:Shared}{a T0:Addr}{cls:Value}{dx:Option Addr}{h':Heap}(I:Inv X pins σ H s) (hex:X.ex=[]) (hst:X.stack=X.env::X.outer) (hfr:X.env.frame=some X.env.locals)
  (ha:X.s₀.heap.get? a=none) (hT:X.s₀.heap.get? T0=none) (x:LeftX (frs (X.env::X.outer)) a T0 cls dx .none s.heap h'):Un X.fs [] X.H₀ H X.s₀.heap h':=by
 have hfs:frs (X.env::X.outer)=X.env.locals::X.fs:=by simp[frs,hfr]
 have nl:∀b o,X.s₀.heap.get? b=some o→b≠X.env.locals:=fun b o e z=>by
  have:=Heap.lt_size e
  rw[z]at this
  exact absurd (Nat.lt_of_lt_of_le this I.ok.above) (Nat.lt_irrefl _)
 have na:∀b o,X.s₀.heap.get? b=some o→b≠a:=fun b o e z=>by rw[z,ha]at e;cases e
 have nT:∀b o,X.s₀.heap.get? b=some o→b≠T0:=fun b o e z=>by rw[z,hT]at e;cases e
 have nx:∀b:Addr,b∉X.ex:=fun b=>by rw[hex];simp
 have B:=I.base
 have nfs:∀b o,X.s₀.heap.get? b=some o→b∉X.fs→b∉frs (X.env::X.outer):=fun b o e hb z=>by
  rw[hfs]at z
  rcases List.mem_cons.mp z with q | q
  ·exact nl b o e q
  ·exact hb q
 refine⟨fun b o e n hb _=>x.keep b o (nfs b o e hb) (na b o e) (nT b o e) (B.keep b o e n hb (nx b)),fun b o e n hb _ => ?_,fun b o e n _=>B.free b o e n (nx b),fun b o e _ => ?_,B.tups,B.frzs,B.tbls⟩
 ·obtain⟨sl,q⟩:=B.slot b o e n hb (nx b)
  obtain⟨sl2,q2⟩:=x.slot b _ (by rw[hfs];exact List.mem_cons_of_mem _ hb) (na b o e) (nT b o e) q
  exact⟨sl2,q2⟩
 ·obtain⟨o',q⟩:=B.there b o e (nx b)
  exact x.there b o' q
theorem xe_cx {P:Program}{w:World}{K:Wf}{mg:So}{base:Heap}{N:List Str}{qual:Str}{scope:Scope}{f:Addr}{cd:Value}{A:Around}{outer:List Env}{s₀:Shared}{H₀:Hp}{E₀:XK}:
  Xe (cxOf (CXE P w) P w K mg base N qual scope f cd A outer s₀ H₀ E₀) E₀:=by
 intro pins σ H s a cls dx I hx hE
 obtain⟨ha,hHa,hx⟩:=hx
 have hfr:(envOfC qual scope s₀.heap.objs.size f cd).frame=some s₀.heap.objs.size:=rfl
 have fin:∀(T0:Addr) (h':Heap),s₀.heap.get? T0=none→H T0=none→LeftX (frs (envOfC qual scope s₀.heap.objs.size f cd::outer)) a T0 cls dx .none s.heap h'→CXE P w outer H₀ s₀ E₀ (.ref a) { s with heap:=h' }:=by
  intro T0 h' hT0 hHT0 x
  obtain⟨T,hT,y⟩:=x.exc
  have hTn:s₀.heap.get? T=none:=by
   cases q:s₀.heap.get? T with
   | none=>rfl
   | some o=>exact absurd (Nat.lt_of_lt_of_le (Heap.lt_size q) (Nat.le_trans I.sz hT)) (Nat.lt_irrefl _)
  refine⟨a,T,cls,dx,H,rfl,I.os,I.bare,Un.left I rfl rfl rfl ha hT0 x,?_,ha,hTn,hHa,I.hok.fresh hT,y,hE⟩
  refine I.hok.tracked fun b o u hb q=>x.keep b o (fun z => ?_) (fun z=>by rw[z,hHa]at hb;cases hb) (fun z=>by rw[z,hHT0]at hb;cases hb) q
  have:=I.stkFree b z
  rw[this]at hb;cases hb
 rcases hx with hx | ⟨T0,hT0,hHT0,hx⟩
 ·exact leave_new (base:=base) I.ok.frames I.stack hfr hx fun h' x=>fin a h' ha hHa x
 ·exact leave_next (base:=base) I.ok.frames I.stack hfr hx fun h' x=>fin T0 h' hT0 hHT0 x
end L2
namespace L2
open PySem PySem.Spec PyProof.Rows
theorem ObjOk.there {P:Program}{w:World}{H:Hp}{h:Heap}{a:Addr}{o:HO}(x:ObjOk P w H h a o):∃ob,h.get? a=some ob:=by
 cases o with
 | lst xs=>obtain⟨_,_,_,_,e⟩:=x;exact⟨_,e⟩
 | tup xs=>obtain⟨_,_,_,o,e,_⟩:=x;exact⟨_,e⟩
 | dK kvs=>obtain⟨_,_,_,_,o,_,_,e,_⟩:=x;exact⟨_,e⟩
 | dT kvs=>obtain⟨_,_,_,_,o,_,_,e,_⟩:=x;exact⟨_,e⟩
 | set S n=>obtain⟨o,_,_,_,e,_⟩:=x;exact⟨_,e⟩
 | ins C dx fs=>obtain⟨_,_,_,e,_⟩:=x;exact⟨_,e⟩
 | own y=>obtain⟨_,e⟩:=x;exact⟨_,e⟩
 | xd fs=>obtain⟨_,⟨_,_,_,e,_⟩,_⟩:=x;exact⟨_,e⟩
 | rng lo hi=>obtain⟨_,_,_,e⟩:=x;exact⟨_,e⟩
 | frz ob u=>obtain⟨e,_⟩:=x;exact⟨_,e⟩
 | tbl ps=>exact⟨_,(show h.get? a=some _ from x)⟩
 | met f y=>exact⟨_,(show h.get? a=some _ from x)⟩
 | ext φ=>obtain⟨_,⟨_,e⟩,_⟩:=x;exact⟨_,e⟩
theorem HOk.none_of {P:Program}{w:World}{H:Hp}{h:Heap}{a:Addr}(ok:HOk P w H h) (e:h.get? a=none):H a=none:=by
 cases q:H a with
 | none=>rfl
 | some u=>
  obtain⟨o,z⟩:=(ok a u q).there
  rw[e]at z;cases z
theorem own_obj {K:Wf}{h:Heap}{C:Addr}{bmB:List Value}{newId:String}(X:K.In h) (q:PySem.W.excIn K C bmB newId=true):
  ∃bm N nm q bs hdct sn sub ab col dd k0 k1 k2 k3 k5 mN,h.get? C=some (excClassObj nm q C N bs bm hdct sn sub ab col dd k0 k1 k2 k3 k5 newId)∧h.Ns N mN∧mN "__init__" = none∧OwnTail h bmB bm:=by
 unfold PySem.W.excIn at q
 split at q
 ·rename_i dd cd sl ho
  split at q
  ·rename_i C' bm k0 k1 k2 k3 n k5 hm hs
   simp only[Bool.and_eq_true,beq_iff_eq,Bool.not_eq_true']at q
   obtain⟨⟨⟨⟨⟨rfl,rfl⟩,hdel⟩,ht⟩,hok⟩,hni⟩:=q
   obtain⟨nm,bs,mro,ns,qn,hd,sn,sub,ab,col,del⟩:=cd
   dsimp only at hm hdel hok hni
   subst hm hdel
   have hsl:sl=#[k0,k1,k2,k3,some (.builtin n),k5]:=by
    obtain⟨l⟩:=sl
    simp only at hs
    rw[hs]
   subst hsl
   exact⟨bm,ns,nm,qn,bs,hd,sn,sub,ab,col,dd,k0,k1,k2,k3,k5,_,X _ _ ho,.of_isNs (PySem.W.isNs_of_in X hok),PySem.W.nsMap_none_of_in X hok hni,PySem.W.tail_of_in X ht⟩
  ·cases q
 ·cases q
section
variable {X:Cx}
def tRaise (C:Addr) (E:XK) (t:TA):TS:=fun _ σ H=>t σ H fun vs H1=>vs.length≤sizeLine∧E (.ref C) none H1
theorem ps_raise {x:Str}{C:Addr}{bmB:List Value}{B newId initId:String}{e₀:Expr}{rest:List Expr}{np cpos pos:Pos}{t:TA}{E:XK}(hg:Gl X x) (hm:X.mg x=some (.ref C)) (q:PySem.W.excIn X.K C bmB newId=true)
  (FB:ExcBaseFacts B newId initId bmB) (hc:X.calm=true) (hX:Xe X E) (ha:PA X (e₀::rest) t) (hex:X.ex=[]:=by rfl)
  (he:starEach (e₀::rest) X.env=(false,eval e₀ X.env)::starEach rest X.env:=by rfl) (hplain:(backTo cpos (starEach rest X.env)).any (·.1)=false:=by rfl) (hdb:(x == ("__debug__" : Str))=false:=by decide):
  PS X (.Raise (some (.Call (.Name x np) (e₀::rest) [] cpos)) none pos) (tRaise C E t):=by
 intro pins s σ H D I h
 obtain⟨tl,N,nm,qn,bs,hdct,sn,sub,ab,col,dd,k0,k1,k2,k3,k5,mN,hC,hN,hni,T⟩:=own_obj I.ok.mod.kin q
 refine wpAny_Raise_call_subT (C:=C) (nm:=nm) (q:=qn) (N:=N) (bs:=bs) (bm:=tl) (hdct:=hdct) (sn:=sn) (sub:=sub) (ab:=ab) (col:=col) (dd:=dd) (k0:=k0) (k1:=k1) (k2:=k2) (k3:=k3) (k5:=k5)
  FB (mN:=mN) (T.hasType FB.hasBase) (I.ok.hd hc) (by rw[he];show (false || (backTo cpos (starEach rest X.env)).any (·.1))=false;rw[hplain];rfl) hni (ld_glob I hg hm ⟨rfl,?_⟩ hdb)
 have h1:=ha cpos pins s σ H _ I h
 rw[he]at h1 ⊢
 refine Calls.evalArgs_plain (wpAny_mono h1 (fun us s2 h2 => ?_) fun _ _ y=>y)
 obtain⟨vs,H2,I2,rv,hz,hE⟩:=h2
 refine⟨rfl,by rw[←rv.length];exact hz,I2.bk _ _ hC,hN.keeps I2.bk,T.keeps I2.bk,fun h' e me => ?_⟩
 have I3:Inv X pins σ H2 { s2 with heap:=h' }:=I2.kept (t':=s2.toks) me.keeps
 obtain⟨t',hx,_,_⟩:=me.there
 refine hX pins σ H2 _ e (.ref C) none I3 ⟨?_,I2.hok.none_of me.new,.inl ⟨_,_,hx,rfl,rfl,rfl,rfl⟩⟩ hE
 cases qq:X.s₀.heap.get? e with
 | none=>rfl
 | some o=>
  obtain⟨o',q'⟩:=I2.base.there e o qq (by rw[hex];simp)
  rw[me.new]at q';cases q'
end
end L2
namespace L2
open PySem PySem.Spec PyProof.Rows PySem.W
set_option genInjectivity false in
structure XCls (K:Frag) (C:Addr):Prop where
 ga:findIn K (.ref C) "__getattribute__" = some (some (.builtin "BaseException.__getattribute__"))
 gn:findIn K (.ref C) "__getattr__" = some none
 cl:findIn K (.ref C) "__class__" = some (some (.builtin "object.__class__"))
 sg:specialIn K (.builtin "object.__class__") "__get__" = some (some (.builtin "getset_descriptor.__get__"))
 tk:takesIn K (.builtin "object.__class__")=some true
 mo:mroIn K C (.type "object")=some true
 mb:mroIn K C (.type "BaseException")=some true
section
variable {prog:Program}{w:World}{A:Around}{E:Vs}{s:Shared}{K:Frag}{x C:Addr}{ox:Obj}{od:Option Obj}{name:Str}
theorem xc_some {K:Frag}{C:Addr}{b:Value}{r:Bool}(e:mroIn K C b=some r):∃cd,clsIn K C=some cd:=by
 obtain⟨cd,a,_⟩:=Option.bind_eq_some_iff.mp e
 exact⟨cd,a⟩
end
end L2
namespace L2
open PySem PySem.Spec PyProof.Rows
set_option genInjectivity false in
structure Catch (K:Wf) (B C:Addr):Prop where
 ty:PySem.W.instIn K (.ref B) (.type "tuple")=some false
 bb:PySem.W.mroIn K B (.type "BaseException")=some true
 sub:PySem.W.mroIn K C (.ref B)=some true
theorem isType_of {K:Wf}{M:Model}{h:Heap}{C:Addr}{cd:ClassData}(X:K.In h) (hc:PySem.W.clsIn K C=some cd):PySem.W.Looks M h (isType (.ref C)) true:=by
 unfold PySem.W.clsIn at hc
 split at hc
 ·rename_i c' d' cd' sl' ho
  intro A' Q' E' s' k q
  unfold isType loadHead
  exact wpAny_bind (wpAny_loadPart (k _ _ (X _ _ ho)) (wpAny_pure q))
 ·cases hc
theorem excMatches_in {K:Wf}{M:Model}{A:Around}{E:Vs}{s:Shared}{a B C:Addr}{ox:Obj}{od:Option Obj}{Q:Bool→Shared→Prop}(X:K.In s.heap) (I:PySem.W.InstAt s.heap a ox C od) (c:Catch K B C) (h:Q true s):
  wpAny M A (excMatches (.ref a) (.ref B)) Q E s:=by
 obtain⟨cd,hcd⟩:=xc_some c.bb
 have L0:=PySem.W.looks_instIn (M:=M) X c.ty
 have L1:=isType_of (M:=M) X hcd
 have L2:=PySem.W.looks_mroIn (M:=M) X c.bb
 have L3:=I.type (M:=M)
 have L4:=PySem.W.looks_mroIn (M:=M) X c.sub
 unfold excMatches
 refine wpAny_bind (L0.here ?_)
 simp only[Bool.false_eq_true,if_false]
 refine wpAny_bind (wpAny_pure ?_)
 rw[List.forIn_cons]
 refine wpAny_bind (wpAny_bind (wpAny_bind ?_))
 unfold isExcClass
 refine wpAny_bind (L1.here ?_)
 simp only[if_true]
 refine L2.here ?_
 simp only[Bool.not_true,Bool.false_eq_true,if_false]
 refine wpAny_pure ?_
 simp only[List.forIn_nil]
 refine wpAny_pure ?_
 refine wpAny_bind (L3.here ?_)
 rw[List.forIn_cons]
 refine wpAny_bind (wpAny_bind (wpAny_bind (L4.here ?_)))
 simp only[if_true]
 exact wpAny_pure (wpAny_pure (wpAny_pure h))
noncomputable abbrev Cx.hand (X:Cx) (a:Addr):Cx:={ X with A:=X.A.mark (some (.ref a)),calm:=false,xe:=fun _ _=>False }
theorem Cx.Ok.hand {X:Cx}(ok:X.Ok) (a:Addr):(X.hand a).Ok:=
 ⟨ok.mod,ok.kind,ok.glob,ok.blt,ok.above,ok.inj,ok.has,ok.cab,(fun z=>by cases z),ok.frames,ok.stk,ok.exf,ok.bs,ok.bsz,ok.noex,ok.exfs,ok.funs,ok.frf⟩
section
variable {X:Cx}{pins:Lo}{σ:St}{H:Hp}{s:Shared}{a:Addr}
theorem Inv.hand (I:Inv X pins σ H s) (a:Addr):Inv (X.hand a) pins σ H s:=⟨I.ok.hand a,I.os,I.bare,I.base,I.loc,I.cell,I.free,I.freeC,I.pin,I.hok,I.len⟩
theorem Inv.unhand (ok:X.Ok) (I:Inv (X.hand a) pins σ H s):Inv X pins σ H s:=⟨ok,I.os,I.bare,I.base,I.loc,I.cell,I.free,I.freeC,I.pin,I.hok,I.len⟩
theorem SP.unhand (ok:X.Ok) {D:Ends}{f:Flow}{s':Shared}(h:SP (X.hand a) pins D f s'):SP X pins D f s':=by
 cases f with
 | next=>obtain⟨σ',H',I,q⟩:=h;exact⟨σ',H',I.unhand ok,q⟩
 | brk=>obtain⟨σ',H',I,q⟩:=h;exact⟨σ',H',I.unhand ok,q⟩
 | cont=>obtain⟨σ',H',I,q⟩:=h;exact⟨σ',H',I.unhand ok,q⟩
 | ret u=>obtain⟨v,σ',H',I,r,q⟩:=h;exact⟨v,σ',H',I.unhand ok,r,q⟩
end
noncomputable def XO (a C:Addr) (dx:Option Addr):HO:=.ext fun h=>∃ob vs,h.get? a=some ob∧ob.cls=.ref C∧ob.dict=dx∧ob.data=.fields vs
noncomputable abbrev XS:=St→XK
def XP (X:Cx) (pins:Lo) (E:XS) (e:Value) (s':Shared):Prop:=∃σ H s,Inv X pins σ H s∧CXE X.prog X.w X.stack H s (E σ) e s'
noncomputable abbrev TEX:=St→Hp→VK→XK→Prop
noncomputable abbrev TSX:=Ends→XS→St→Hp→Prop
def PEX (X:Cx) (e:Expr) (t:TEX):Prop:=∀(pins:Lo) (s:Shared) (σ:St) (H:Hp) (Q:VK) (E:XS),Inv X pins σ H s→t σ H Q (E σ)→
 wpAny (model X.prog X.w) X.A (eval e X.env) (EP X pins σ Q) (XP X pins E) s
def PSX (X:Cx) (st:Stmt) (t:TSX):Prop:=∀(pins:Lo) (s:Shared) (σ:St) (H:Hp) (D:Ends) (E:XS),Inv X pins σ H s→t D E σ H→
 wpAny (model X.prog X.w) X.A (exec st X.env) (SP X pins D) (XP X pins E) s
def PSsX (X:Cx) (st:List Stmt) (t:TSX):Prop:=∀(pins:Lo) (s:Shared) (σ:St) (H:Hp) (D:Ends) (E:XS),Inv X pins σ H s→t D E σ H→
 wpAny (model X.prog X.w) X.A (execs st X.env) (SP X pins D) (XP X pins E) s
section
variable {X:Cx}{k:Nat}{f C:Addr}{fd:FuncData}{ps:List Str}{sp:Sp}{dvs:List V}{ds:List Value}{x m:Str}{p pos apos:Pos}{e o:Expr}{es:List Expr}{ta:TE}{t:TA}
theorem runX {pins:Lo}{σ:St}{H:Hp}{s:Shared}{Q:VK}{E:XS}{us:List Value}{vs:List V}(F:FnOk X.prog X.w X.K X.mg X.base (CXE X.prog X.w) k f fd ps sp) (hr:Room k X.A) (hb:Binds X.K fd ps ds) (hd:Vals dvs ds)
  (I:Inv X pins σ H s) (r:Vals vs us) (h:sp (vs++dvs) H Q (E σ)):wpAny (model X.prog X.w) X.A (call (.ref f) us) (EP X pins σ Q) (XP X pins E) s:=by
 have r2:Vals (vs++dvs) (us++ds):=r.append hd
 have hl:(us++ds).length=ps.length:=by rw[←r2.length];exact F.len _ _ _ _ h
 refine wpAny_call (codeAny_mono (F.run X.A X.stack s H ⟨us,[]⟩ (us++ds) (vs++dvs) Q (E σ) hr I.env0 (hb s us I.kIn hl) r2 h) fun r s' hq => ?_)
 cases r with
 | error e=>exact⟨σ,H,s,I,hq⟩
 | ok fl=>
  cases fl with
  | ret u=>exact I.after hq
  | next=>exact False.elim hq
  | brk=>exact False.elim hq
  | cont=>exact False.elim hq
noncomputable def xCall (sp:Sp) (dvs:List V) (t:TA):TEX:=fun σ H Q E=>t σ H fun vs H1=>sp (vs++dvs) H1 Q E
noncomputable def xMeth (C:Addr) (m:Str) (sp:Sp) (dvs:List V) (ta:TE) (t:TA):TEX:=fun σ H Q E=>ta σ H fun x H1=>∃a dx fs,x=.ref a∧H1 a=some (.ins C dx fs)∧fs.lookup m=none∧
 t σ H1 fun vs H2=>sp (x::(vs++dvs)) H2 Q E
theorem noE {α:Type}{t:Sem α}{Q:α→Shared→Prop}{M:Model}{A:Around}{E:Vs}{s:Shared}(h:wpAny M A t Q (fun _ _=>False) s):wpAny M A t Q E s:=wpAny_mono h (fun _ _ q=>q) fun _ _ z=>False.elim z
theorem pex_call (F:FnOk X.prog X.w X.K X.mg X.base (CXE X.prog X.w) k f fd ps sp) (hr:Room k X.A) (hg:Gl X x) (hm:X.mg x=some (.ref f)) (hk:PySem.W.keepIn X.K (.ref f)=true) (hb:Binds X.K fd ps ds) (hd:Vals dvs ds)
  (ha:PA X.nox (e::es) t) (hdb:(x == ("__debug__" : Str))=false:=by decide) (he:starEach (e::es) X.env=(false,eval e X.env)::starEach es X.env:=by rfl) (hpl:(backTo pos (starEach es X.env)).any (·.1)=false:=by rfl):
  PEX X (.Call (.Name x p) (e::es) [] pos) (xCall sp dvs t):=by
 intro pins s σ H Q E I h
 refine wpAny_Call_Name_kw (ld_glob I hg hm ?_ hdb)
 refine PySem.W.callWith_K (h₀:=X.base) I.ok.mod.kin hk (noE (thn (ha pos pins s σ H _ (I.wish _) h) fun us s1 ⟨vs,H1,I1,r,q⟩=>⟨I1.kIn,?_⟩)) he hpl
 exact runX F hr hb hd I1.unwish r q
end
section
variable {X:Cx}{st:Stmt}{rest:List Stmt}{t:TS}{tx ux:TSX}{e:Expr}{te:TEX}{pos:Pos}
noncomputable def xDrop (te:TEX):TSX:=fun D E σ H=>te σ H (fun _ H1=>D.nx σ H1) (E σ)
theorem psx_expr (he:PEX X e te) (hs:swapsWith e none pos.line X.env=pure false:=by rfl):PSX X (.Expr e pos) (xDrop te):=by
 intro pins s σ H D E I h
 exact wpAny_Expr_any (thn (he pins s σ H _ E I h) fun v s1 ⟨x,H1,I1,r1,q1⟩=>⟨σ,H1,I1,q1⟩) I.quiet hs
noncomputable def xSet (i:Nat) (te:TEX):TSX:=fun D E σ H=>te σ H (fun v H1=>D.nx (σ.set i (some v)) H1) (E σ)
noncomputable def xRet (te:TEX):TSX:=fun D E σ H=>te σ H D.rt (E σ)
noncomputable def xOf (t:TS):TSX:=fun D _ σ H=>t D σ H
noncomputable def xSeq (t u:TSX):TSX:=fun D E σ H=>t { D with nx:=u D E } E σ H
theorem pssx_one (h1:PSX X st tx):PSsX X [st] tx:=by
 intro pins s σ H D E I h
 refine wpAny_execs_cons (thn (h1 pins s σ H D E I h) fun f s1 q => ?_)
 cases f with
 | next=>exact wpAny_execs_nil q
 | ret v=>exact q
 | brk=>exact q
 | cont=>exact q
end
set_option genInjectivity false in
structure Land (X:Cx) (H:Hp) (s:Shared) (a T:Addr) (cls:Value) (dx:Option Addr) (H':Hp) (s':Shared):Prop where
 os:s'.os=s.os
 bare:AllBare s'.gens
 un:Un (frs X.stack) [] H H' s.heap s'.heap
 hok:HOk X.prog X.w H' s'.heap
 fa:s.heap.get? a=none
 fT:s.heap.get? T=none
 na:H' a=none
 nT:H' T=none
 ex:ExcIs s'.heap a cls dx .none T
section
variable {X:Cx}{pins:Lo}{σ:St}{H H':Hp}{s s':Shared}{a T:Addr}{cls:Value}{dx:Option Addr}{M:Model}{A:Around}{E:Vs}
theorem Land.inv (L:Land X H s a T cls dx H' s') (I:Inv X pins σ H s):Inv X pins σ H' s':=I.call' (ch:=[]) L.os L.un L.hok L.bare fun b hb=>absurd hb (by simp)
theorem Land.left {h':Heap}(L:Land X H s a T cls dx H' s') (I:Inv X pins σ H s) (x:LeftX (frs X.stack) a T cls dx .none s'.heap h'):∃T',Land X H s a T' cls dx H' { s' with heap:=h' }:=by
 have J:=L.inv I
 have na:∀b o,s.heap.get? b=some o→b≠a:=fun b o e z=>by rw[z,L.fa]at e;cases e
 have nT:∀b o,s.heap.get? b=some o→b≠T:=fun b o e z=>by rw[z,L.fT]at e;cases e
 obtain⟨T',hT,y⟩:=x.exc
 have hT':s.heap.get? T'=none:=by
  cases q:s.heap.get? T' with
  | none=>rfl
  | some o=>
   obtain⟨o',q'⟩:=L.un.there T' o q (by simp)
   exact absurd (Nat.lt_of_lt_of_le (Heap.lt_size q') hT) (Nat.lt_irrefl _)
 refine⟨T',L.os,L.bare,⟨fun b o e n hb hx=>x.keep b o hb (na b o e) (nT b o e) (L.un.keep b o e n hb hx),fun b o e n hb hx => ?_,L.un.free,fun b o e hx => ?_,L.un.tups,L.un.frzs,L.un.tbls⟩,?_,L.fa,hT',L.na,L.hok.fresh hT,y⟩
 ·obtain⟨sl,q⟩:=L.un.slot b o e n hb hx
  obtain⟨sl2,q2⟩:=x.slot b _ hb (na b o e) (nT b o e) q
  exact⟨sl2,q2⟩
 ·obtain⟨o',q⟩:=L.un.there b o e hx
  exact x.there b o' q
 ·refine L.hok.tracked fun b o u hb q=>x.keep b o (fun z => ?_) (fun z=>by rw[z,L.na]at hb;cases hb) (fun z=>by rw[z,L.nT]at hb;cases hb) q
  have:=J.stkFree b z
  rw[this]at hb;cases hb
theorem Land.off {h':Heap}(L:Land X H s a T cls dx H' s') (k:∀b o,b≠T→s'.heap.get? b=some o→h'.get? b=some o) (hT:∃o,h'.get? T=some o) (y:ExcIs h' a cls dx .none T):Land X H s a T cls dx H' { s' with heap:=h' }:=by
 have nT:∀b o,s.heap.get? b=some o→b≠T:=fun b o e z=>by rw[z,L.fT]at e;cases e
 refine⟨L.os,L.bare,⟨fun b o e n hb hx=>k b o (nT b o e) (L.un.keep b o e n hb hx),fun b o e n hb hx => ?_,L.un.free,fun b o e hx => ?_,L.un.tups,L.un.frzs,L.un.tbls⟩,?_,L.fa,L.fT,L.na,L.nT,y⟩
 ·obtain⟨sl,q⟩:=L.un.slot b o e n hb hx
  exact⟨sl,k b _ (nT b o e) q⟩
 ·obtain⟨o',q⟩:=L.un.there b o e hx
  exact⟨o',k b o' (nT b o e) q⟩
 ·exact L.hok.tracked fun b o u hb q=>k b o (fun z=>by rw[z,L.nT]at hb;cases hb) q
def DxOk (dx:Option Addr) (H:Hp):Prop:=dx=none∨∃d fs,dx=some d∧H d=some (.xd fs)
theorem Land.inst {C:Addr}(L:Land X H s a T (.ref C) dx H' s') (hd:DxOk dx H'):∃ox od,PySem.W.InstAt s'.heap a ox C od:=by
 obtain⟨oe,vs,oT,ts,he,hc,hdx,hdt,_⟩:=L.ex
 rcases hd with e | ⟨d,fs,e,hd⟩
 ·refine⟨oe,none,he,hc,?_,?_⟩
  ·unfold PySem.W.notCls;rw[hdt]
  ·rw[hdx,e];trivial
 ·obtain⟨o,q⟩:=(L.hok d _ hd).there
  refine⟨oe,some o,he,hc,?_,?_⟩
  ·unfold PySem.W.notCls;rw[hdt]
  ·rw[hdx,e];exact q
theorem land_note {R:Shared→Prop}(hst:X.stack=X.env::X.outer) (hfr:X.env.frame=some X.env.locals) (L:Land X H s a T cls dx H' s') (I:Inv X pins σ H s)
  (h:∀T' s3,Land X H s a T' cls dx H' s3→R s3):wpAny M X.A (noteFrame (.ref a) X.env) (fun _ s2=>wpAny M X.A (setFlight (.ref a) none) (fun _ s3=>R s3) E s2) E s':=by
 have J:=L.inv I
 refine note_next (base:=X.base) (by rw[J.ok.frames,hst]) (by rw[←hst];exact J.stack) hfr L.ex fun h1 x => ?_
 obtain⟨T1,hT,y⟩:=x.exc
 refine flight_off (s:={ s' with heap:=h1 }) y fun h2 k hT2 z => ?_
 obtain⟨T2,L2⟩:=L.left (h':=h2) I (by rw[hst];exact x.off hT k hT2 z)
 exact h T2 _ L2
end
noncomputable def un1 (i:Nat) (D:Ends):Ends:={ nx:=fun σ H=>D.nx (σ.set i none) H,rt:=D.rt,bk:=fun σ H=>D.bk (σ.set i none) H,ct:=fun σ H=>D.ct (σ.set i none) H }
def tTryAs (K:Wf) (B:Addr) (i:Nat) (tb:TSX) (th:TS):TS:=fun D σ H=>
 tb D (fun σ' cls dx H'=>∃C,cls=.ref C∧Catch K B C∧DxOk dx H'∧∀a,H' a=none→th (un1 i D) (σ'.set i (some (.ref a))) (upd H' a (XO a C dx))) σ H
def tTry0 (K:Wf) (B:Addr) (tb:TSX) (th:TS):TS:=fun D σ H=>
 tb D (fun σ' cls dx H'=>∃C,cls=.ref C∧Catch K B C∧DxOk dx H'∧th D σ' H') σ H
section
variable {X:Cx}{body suite:List Stmt}{b₀:Stmt}{x n:Str}{B:Addr}{i:Nat}{np hpos pos:Pos}{tb:TSX}{th:TS}
theorem ps_try0 (hst:X.stack=X.env::X.outer) (hfr:X.env.frame=some X.env.locals) (hg:Gl X x) (hm:X.mg x=some (.ref B)) (hb:PSsX X body tb)
  (hs:∀a,PSs (X.hand a) (b₀::suite) th) (hd:(x == ("__debug__" : Str))=false:=by decide):PS X (.Try body [.ExceptHandler (some (.Name x np)) none (b₀::suite) hpos] [] [] pos) (tTry0 X.K B tb th):=by
 intro pins s σ H D I h
 refine wpAny_Try_except (wpAny_mono (hb pins s σ H D _ I h) (fun f s1 q => ?_) fun e s1 hx => ?_)
 ·cases f with
  | next=>exact wpAny_execs_nil q
  | ret v=>exact q
  | brk=>exact q
  | cont=>exact q
 ·obtain⟨σ1,H1,s2,I1,a,T,cls,dx,H',rfl,ho,hg',u,hok,ha,hT,hHa,hHT,y,C,rfl,hcat,hdx,hth⟩:=hx
  have L:Land X H1 s2 a T (.ref C) dx H' s1:=⟨ho,hg',u,hok,ha,hT,hHa,hHT,y⟩
  refine land_note hst hfr L I1 fun T3 s3 L3 => ?_
  have J:=L3.inv I1
  obtain⟨ox,od,ins⟩:=L3.inst hdx
  refine wpAny_handleBy_cons (codeAny_handlers_test (ld_glob (X:=X.hand a) (J.hand a) hg hm ?_ hd)) (by intro q;cases q)
  refine excMatches_in J.kIn ins hcat ?_
  refine codeAny_handlers_suite ?_
  refine flight_off L3.ex fun h4 k4 hT4 y4 => ?_
  have J4:=(L3.off k4 hT4 y4).inv I1
  refine noE (thn (hs a pins _ _ _ D (J4.hand a) hth) fun f s6 q => ?_)
  exact q.unhand I.ok
theorem ps_try0K {K:Wf}(e:X.K=K) (hst:X.stack=X.env::X.outer) (hfr:X.env.frame=some X.env.locals) (hg:Gl X x) (hm:X.mg x=some (.ref B)) (hb:PSsX X body tb)
  (hs:∀a,PSs (X.hand a) (b₀::suite) th) (hd:(x == ("__debug__" : Str))=false:=by decide):PS X (.Try body [.ExceptHandler (some (.Name x np)) none (b₀::suite) hpos] [] [] pos) (tTry0 K B tb th):=e▸ps_try0 hst hfr hg hm hb hs hd
end
end L2
namespace L2
open PySem PySem.Spec PyProof.Rows
section
variable {X:Cx}
def Sg (z:Str):Prop:=∀c∈z.cps.toList,c<16 ^ 8
def tRepr (t:TE):TE:=fun σ H Q=>t σ H fun x H1=>∃z,x=.str z∧(reprText z).length≤sizeLine∧Q (.str (reprText z)) H1
theorem pe_repr {e:Expr}{t:TE}{pos:Pos}(he:PE X e t):PE X (.FormattedValue e 114 none pos) (tRepr t):=by
 intro pins s σ H Q I h
 refine wpAny_FormattedValue_repr (thn (he pins s σ H _ I h) fun v s1 ⟨x,H1,I1,r1,z,ez,hz,q⟩ => ?_)
 subst ez
 obtain⟨t',rfl⟩:=r1
 refine pyReprObj_str ?_ hz
 exact formatField_str (fun t'' tk=>⟨.str (reprText z),H1,I1.tok tk,⟨t'',rfl⟩,q⟩) hz
def tFmt (t:TE):TE:=fun σ H Q=>t σ H fun x H1=>(∃z,x=.str z∧z.length≤sizeLine∧Q (.str z) H1)∨∃i:Int,x=.int i∧i.natAbs.log2<1920∧Q (.str (toString i)) H1
theorem pe_fmt {e:Expr}{t:TE}{pos:Pos}(he:PE X e t):PE X (.FormattedValue e (-1) none pos) (tFmt t):=by
 intro pins s σ H Q I h
 refine FormattedValue_plain (thn (he pins s σ H _ I h) fun v s1 ⟨x,H1,I1,r1,q⟩ => ?_)
 rcases q with ⟨z,rfl,hz,q⟩ | ⟨i,rfl,hi,q⟩
 ·obtain⟨t',rfl⟩:=r1
  exact formatField_str (fun t'' tk=>⟨.str z,H1,I1.tok tk,⟨t'',rfl⟩,q⟩) hz
 ·obtain⟨t',rfl⟩:=r1
  exact formatField_int_small hi ⟨.str (toString i),H1,I1.tok _,⟨_,rfl⟩,q⟩
noncomputable abbrev TJ:=Str→St→Hp→VK→Prop
def PJ (X:Cx) (es:List Expr) (t:TJ):Prop:=∀(acc:Str) (pins:Lo) (s:Shared) (σ:St) (H:Hp) (Q:VK),Inv X pins σ H s→t acc σ H Q→
 wpAny (model X.prog X.w) X.A (joinParts acc (evalEach es X.env)) (EP X pins σ Q) X.xe s
noncomputable def jNil:TJ:=fun acc _ H Q=>acc.length≤sizeLine∧Q (.str acc) H
noncomputable def jCons (t:TE) (u:TJ):TJ:=fun acc σ H Q=>t σ H fun x H1=>∃y,x=.str y∧(acc++y).length≤sizeLine∧u (acc++y) σ H1 Q
theorem pj_nil:PJ X [] jNil:=fun acc pins s σ H Q I h=>joinParts_nilE (joinParts_nil ⟨.str acc,H,I.tok _,⟨_,rfl⟩,h.2⟩ h.1)
theorem zz13 {e:Expr}{es:List Expr}{t:TE}{u:TJ}(he:PE X e t) (hr:PJ X es u):PJ X (e::es) (jCons t u):=by
 intro acc pins s σ H Q I h
 refine joinParts_consE (joinParts_cons (thn (he pins s σ H _ I h) fun v s1 ⟨x,H1,I1,r1,y,ey,hy,q⟩ => ?_))
 subst ey
 obtain⟨t',rfl⟩:=r1
 exact⟨hy,hr (acc++y) pins s1 σ H1 Q I1 q⟩
def tJoined (t:TJ):TE:=fun σ H Q=>t Str.empty σ H Q
theorem pe_joined {v₁ v₂:Expr}{rest:List Expr}{pos:Pos}{t:TJ}(h:PJ X (v₁::v₂::rest) t):PE X (.JoinedStr (v₁::v₂::rest) pos) (tJoined t):=
 fun pins s σ H Q I hw=>JoinedStr_many (h Str.empty pins s σ H Q I hw)
theorem strs_of:∀{zs:List Str}{us:List Value},Vals (zs.map V.str) us→∃l:List (Str×Tok),us=strValues l∧l.map (·.1)=zs
 | [],_,.nil=>⟨[],rfl,rfl⟩
 | z::zs,_,.cons ⟨t,e⟩ r=>by
  obtain⟨l,h1,h2⟩:=strs_of r
  subst e
  exact⟨(z,t)::l,by rw[h1];rfl,by simp[h2]⟩
noncomputable def rJoin (K:Wf):V→List V→Hp→VK→Prop:=fun x vs H Q=>∃z a zs,x=.str z∧vs=[.ref a]∧SqL K H a (zs.map V.str)∧JoinOk z zs=true∧Q (.str (Txt.join z zs)) H
theorem mt_join:MtM X "str.join" (rJoin X.K):=by
 intro pins s σ H x vs v us Q I rx rv h
 obtain⟨z,a,zs,rfl,rfl,hS,hok,q⟩:=h
 obtain⟨t,rfl⟩:=rx
 obtain⟨u,rfl,ru⟩:=rv.one
 cases ru
 obtain⟨its,r,p,_⟩:=I.list hS
 obtain⟨l,e1,e2⟩:=strs_of r
 subst e1
 refine SC.join (l:=l) p.isList e2 hok fun t' k=>⟨.str (Txt.join z zs),H,I.tok k,⟨t',rfl⟩,q⟩
theorem mt_joinK {K:Wf}(e:X.K=K):MtM X "str.join" (rJoin K):=e▸mt_join
def TyX (K:Wf) (H:Hp) (x:V) (t:Value):Prop:=TyOf K H x t∨∃a C dx,x=.ref a∧t=.ref C∧H a=some (XO a C dx)∧DxOk dx H∧XCls K C
noncomputable def vOf:V→Value
 | .ref a=>.ref a
 | .ty n=>.type n
 | _=>.none
noncomputable def isCl:V→Bool
 | .ref _=>true
 | .ty _=>true
 | _=>false
noncomputable def rIsx (K:Wf):List V→Hp→VK→Prop:=fun xs H Q=>∃x c t b,xs=[x,c]∧isCl c=true∧TyX K H x t∧PySem.W.kitOne K t (vOf c)=some b∧Q (.bl b) H
noncomputable def rIst (K:Wf):List V→Hp→VK→Prop:=fun xs H Q=>∃x tp cs t b,xs=[x,.ref tp]∧H tp=some (.tup cs)∧cs.all isCl=true∧TyX K H x t∧PySem.W.kitAny K t (cs.map vOf)=some b∧Q (.bl b) H
end
section
variable {P:Program}{w:World}{K:Wf}{mg:So}{base:Heap}
theorem Fun.okE {x qual:Str}{st:Stmt}{f:Addr}{fd:FuncData}{N ps:List Str}{k:Nat}{sp:Sp}(F:Fun K x qual st f fd) (S:FnScope N ps (defScope st)) (len:∀vs H Q E,sp vs H Q E→vs.length=ps.length)
  (hbody:∀(cdv:Value) (A:Around) (outer:List Env) (s:Shared) (H:Hp) (vs:List V) (Q:VK) (E:XK),Room k (A.deeper (envOfC qual (defScope st) s.heap.objs.size f cdv))→sp vs H Q E→
   ∃t,PSs (cxOf (CXE P w) P w K mg base N qual (defScope st) f cdv A outer s H E) (defBody st) t∧t { nx:=fun _ H'=>Q .non H',rt:=Q } (start N vs) H):FnOk P w K mg base (CXE P w) (k+1) f fd ps sp:=by
 obtain⟨oc,od,kV,doc,pm,an,cdv,ct,osl,rfl,lk,hcd⟩:=F.ex
 refine fn_of lk hcd S len fun A outer s H vs Q E hr hsp => ?_
 obtain⟨t,h,q⟩:=hbody cdv A outer s H vs Q E hr hsp
 exact⟨t,h,q⟩
end
end L2
namespace L2
end L2
namespace L2
open PySem PySem.Spec PyProof.Rows
theorem pass0E {X:Cx}:Passes (CXE X.prog X.w) X E0:=fun _ _ _ _ _ _ _ h=>by
 obtain⟨_,_,_,_,_,_,_,_,_,_,_,_,_,_,_,z⟩:=h
 exact z.elim
theorem txt_join (sep:Str) (ts:List Str):Txt.join sep ts=Str.join sep ts:=StrLaws.glued_eq_join sep ts
theorem sum_le {ts:List Str}{B:Nat}:(∀t∈ts,t.length≤B)→(ts.map (·.length)).sum≤ts.length * B:=by
 induction ts with
 | nil=>intro _;simp
 | cons a r ih=>
  intro h
  have h1:=h a (List.mem_cons_self ..)
  have h2:=ih fun t ht=>h t (List.mem_cons_of_mem _ ht)
  simp only[List.map_cons,List.sum_cons,List.length_cons]
  rw[Nat.add_mul];omega
theorem join_le {sep:Str}{ts:List Str}{B:Nat}(h:∀t∈ts,t.length≤B):(Txt.join sep ts).length≤ts.length * B+ts.length * sep.length:=by
 rw[txt_join]
 exact Nat.le_trans (StrLaws.join_length_le sep ts) (Nat.add_le_add_right (sum_le h) _)
theorem joinOk_of {sep:Str}{ts:List Str}{B:Nat}(h:∀t∈ts,t.length≤B) (hz:ts.length * B+ts.length * sep.length≤16777216):JoinOk sep ts=true:=by
 unfold JoinOk
 rw[StrLaws.joinFits h hz];rfl
theorem repr_le {z:Str}{n:Nat}(h:Sg z) (hz:z.length≤n):(reprText z).length≤10 * n+2:=Nat.le_trans (StrLaws.reprText_len z h) (by omega)
end L2
namespace L2
open PySem PySem.Spec PyProof.Rows
set_option genInjectivity false in
structure FillM where
 a:Addr
 at_:Int
 rule:Str
 name:Str
 add:Int
 soft:Bool
set_option genInjectivity false in
structure StM where
 t:Addr
 lw:Addr
 lf:Addr
 kind:Str
 step:Int
 words:List Int
 fills:List FillM
set_option genInjectivity false in
structure ToldM where
 a:Addr
 name:Str
 sort:Str
 st:Int
 off:Int
set_option genInjectivity false in
structure PcM where
 t:Addr
 ls:Addr
 ln:Addr
 name:Str
 sts:List StM
 nms:List ToldM
noncomputable abbrev FillM.v (f:FillM):V:=.ref f.a
noncomputable abbrev StM.v (s:StM):V:=.ref s.t
noncomputable abbrev ToldM.v (n:ToldM):V:=.ref n.a
noncomputable abbrev PcM.v (p:PcM):V:=.ref p.t
def FillM.At (H:Hp) (f:FillM):Prop:=H f.a=some (.tup [.int f.at_,.str f.rule,.str f.name,.int f.add,.bl f.soft])
def ToldM.At (H:Hp) (n:ToldM):Prop:=H n.a=some (.tup [.str n.name,.str n.sort,.int n.st,.int n.off])
set_option genInjectivity false in
structure StM.At (H:Hp) (s:StM):Prop where
 top:H s.t=some (.tup [.str s.kind,.int s.step,.ref s.lw,.ref s.lf])
 wd:H s.lw=some (.lst (s.words.map V.int))
 fl:H s.lf=some (.lst (s.fills.map FillM.v))
 fs:∀f∈s.fills,f.At H
set_option genInjectivity false in
structure PcM.At (H:Hp) (p:PcM):Prop where
 top:H p.t=some (.tup [.str p.name,.ref p.ls,.ref p.ln])
 sl:H p.ls=some (.lst (p.sts.map StM.v))
 nl:H p.ln=some (.lst (p.nms.map ToldM.v))
 ss:∀s∈p.sts,s.At H
 ns:∀n∈p.nms,n.At H
noncomputable def StM.lists (s:StM):List Addr:=[s.lw,s.lf]
noncomputable def PcM.lists (p:PcM):List Addr:=p.ls::p.ln::p.sts.flatMap StM.lists
noncomputable def listsOf (ps:List PcM):List Addr:=ps.flatMap PcM.lists
set_option genInjectivity false in
structure Pcs (H:Hp) (L:Addr) (ps:List PcM):Prop where
 top:H L=some (.lst (ps.map PcM.v))
 at_:∀p∈ps,p.At H
 nd:(L::listsOf ps).Nodup
theorem FillM.At.mono {H H':Hp}{f:FillM}(h:f.At H) (e:Same H H'):f.At H':=e _ _ h
theorem ToldM.At.mono {H H':Hp}{n:ToldM}(h:n.At H) (e:Same H H'):n.At H':=e _ _ h
theorem StM.At.mono {H H':Hp}{s:StM}(h:s.At H) (e:Same H H'):s.At H':=⟨e _ _ h.top,e _ _ h.wd,e _ _ h.fl,fun f hf=>(h.fs f hf).mono e⟩
theorem PcM.At.mono {H H':Hp}{p:PcM}(h:p.At H) (e:Same H H'):p.At H':=⟨e _ _ h.top,e _ _ h.sl,e _ _ h.nl,fun s hs=>(h.ss s hs).mono e,fun n hn=>(h.ns n hn).mono e⟩
def But (H H':Hp) (l:Addr):Prop:=(∃xs,H l=some (.lst xs))∧∀b o,H b=some o→b≠l→H' b=some o
theorem But.upd {H:Hp}{l:Addr}{xs:List V}{o:HO}(h:H l=some (.lst xs)):But H (L2.upd H l o) l:=⟨⟨xs,h⟩,fun b u e n=>by rw[upd_ne n];exact e⟩
theorem But.tup {H H':Hp}{l a:Addr}{xs:List V}(b:But H H' l) (h:H a=some (.tup xs)):H' a=some (.tup xs):=by
 obtain⟨ys,hl⟩:=b.1
 exact b.2 _ _ h fun e=>by rw[e,hl]at h;cases h
theorem FillM.At.but {H H':Hp}{l:Addr}{f:FillM}(h:f.At H) (b:But H H' l):f.At H':=b.tup h
theorem ToldM.At.but {H H':Hp}{l:Addr}{n:ToldM}(h:n.At H) (b:But H H' l):n.At H':=b.tup h
theorem StM.At.but {H H':Hp}{l:Addr}{s:StM}(h:s.At H) (b:But H H' l) (n:l∉s.lists):s.At H':=
 ⟨b.tup h.top,b.2 _ _ h.wd fun e=>n (by simp[StM.lists,e]),b.2 _ _ h.fl fun e=>n (by simp[StM.lists,e]),fun f hf=>(h.fs f hf).but b⟩
theorem PcM.At.but {H H':Hp}{l:Addr}{p:PcM}(h:p.At H) (b:But H H' l) (n:l∉p.lists):p.At H':=
 ⟨b.tup h.top,b.2 _ _ h.sl fun e=>n (by simp[PcM.lists,e]),b.2 _ _ h.nl fun e=>n (by simp[PcM.lists,e]),
  fun s hs=>(h.ss s hs).but b fun z=>n (by simp only[PcM.lists,List.mem_cons];exact .inr (.inr (List.mem_flatMap.mpr ⟨s,hs,z⟩))),fun m hm=>(h.ns m hm).but b⟩
theorem StM.At.list {H:Hp}{s:StM}(h:s.At H) {b:Addr}(hb:b∈s.lists):∃xs,H b=some (.lst xs):=by
 simp only[StM.lists,List.mem_cons,List.not_mem_nil,or_false]at hb
 rcases hb with e | e
 ·rw[e];exact⟨_,h.wd⟩
 ·rw[e];exact⟨_,h.fl⟩
theorem PcM.At.list {H:Hp}{p:PcM}(h:p.At H) {b:Addr}(hb:b∈p.lists):∃xs,H b=some (.lst xs):=by
 simp only[PcM.lists,List.mem_cons]at hb
 rcases hb with e | e | e
 ·rw[e];exact⟨_,h.sl⟩
 ·rw[e];exact⟨_,h.nl⟩
 ·obtain⟨s,hs,z⟩:=List.mem_flatMap.mp e
  exact (h.ss s hs).list z
theorem listsOf_snoc (ps:List PcM) (p:PcM):listsOf (ps++[p])=listsOf ps++p.lists:=by simp[listsOf,List.flatMap_append]
theorem Pcs.apart {H:Hp}{L:Addr}{ps:List PcM}{p:PcM}(h:Pcs H L (ps++[p])):(∀q∈ps,∀b∈p.lists,b∉q.lists)∧p.lists.Nodup∧L∉p.lists∧∀q∈ps,L∉q.lists:=by
 have n:=h.nd
 rw[listsOf_snoc]at n
 obtain⟨n1,n2⟩:=List.nodup_cons.mp n
 obtain⟨n3,n4,n5⟩:=List.nodup_append.mp n2
 refine⟨fun q hq b hb z=>n5 b (List.mem_flatMap.mpr ⟨q,hq,z⟩) b hb rfl,n4,fun z=>n1 (List.mem_append_right _ z),fun q hq z=>n1 (List.mem_append_left _ (List.mem_flatMap.mpr ⟨q,hq,z⟩))⟩
theorem Pcs.last {H:Hp}{L l:Addr}{ps:List PcM}{p p':PcM}{o:HO}(h:Pcs H L (ps++[p])) (hl:l∈p.lists) (ht:p'.t=p.t) (hp:p'.At (upd H l o)) (hn:(L::listsOf (ps++[p'])).Nodup):Pcs (upd H l o) L (ps++[p']):=by
 obtain⟨a1,a2,a3,a4⟩:=h.apart
 obtain⟨xs,hx⟩:=(h.at_ p (by simp)).list hl
 have b:But H (upd H l o) l:=But.upd hx
 refine⟨?_,fun q hq => ?_,hn⟩
 ·rw[b.2 _ _ h.top fun e=>a3 (by rw[e];exact hl)]
  simp[PcM.v,ht]
 ·rcases List.mem_append.mp hq with z | z
  ·exact (h.at_ q (List.mem_append_left _ z)).but b (a1 q z l hl)
  ·rw[List.mem_singleton.mp z];exact hp
theorem Pcs.newStretch {H:Hp}{L t lw lf:Addr}{kind:Str}{step:Int}{ps:List PcM}{p:PcM}(h:Pcs H L (ps++[p])) (h1:H t=some (.tup [.str kind,.int step,.ref lw,.ref lf])) (h2:H lw=some (.lst [])) (h3:H lf=some (.lst []))
  (n1:lw≠lf) (n2:lw∉L::listsOf (ps++[p])) (n3:lf∉L::listsOf (ps++[p])):
  Pcs (upd H p.ls (.lst (p.sts.map StM.v++[.ref t]))) L (ps++[{ p with sts:=p.sts++[⟨t,lw,lf,kind,step,[],[]⟩] }]):=by
 have hp:=h.at_ p (by simp)
 obtain⟨a1,a2,a3,a4⟩:=h.apart
 have b:But H (upd H p.ls (.lst (p.sts.map StM.v++[.ref t]))) p.ls:=But.upd hp.sl
 have in1:∀x,x∈p.lists→x∈L::listsOf (ps++[p]):=fun x hx=>List.mem_cons_of_mem _ (by rw[listsOf_snoc];exact List.mem_append_right _ hx)
 have hls:p.ls∈p.lists:=by simp[PcM.lists]
 have nd:p.ls≠p.ln∧p.ls∉p.sts.flatMap StM.lists:=by
  have:=a2
  simp only[PcM.lists,List.nodup_cons,List.mem_cons,not_or]at this
  exact this.1
 refine h.last hls rfl ⟨b.tup hp.top,by rw[zz1];simp,b.2 _ _ hp.nl (Ne.symm nd.1),fun s hs => ?_,fun n hn=>(hp.ns n hn).but b⟩ ?_
 ·rcases List.mem_append.mp hs with z | z
  ·exact (hp.ss s z).but b fun q=>nd.2 (List.mem_flatMap.mpr ⟨s,z,q⟩)
  ·have e:=List.mem_singleton.mp z
   subst e
   exact⟨b.tup h1,b.2 _ _ h2 fun (e:lw=p.ls)=>n2 (in1 _ (e▸hls)),b.2 _ _ h3 fun (e:lf=p.ls)=>n3 (in1 _ (e▸hls)),fun f hf=>absurd hf (by simp)⟩
 ·have e:L::listsOf (ps++[{ p with sts:=p.sts++[⟨t,lw,lf,kind,step,[],[]⟩] }])=(L::listsOf (ps++[p]))++[lw,lf]:=by
   rw[listsOf_snoc,listsOf_snoc]
   simp[PcM.lists,StM.lists,List.flatMap_append]
  rw[e]
  refine List.nodup_append.mpr ⟨h.nd,by simp[n1],fun x hx y hy e => ?_⟩
  subst e
  simp only[List.mem_cons,List.not_mem_nil,or_false]at hy
  rcases hy with e | e
  ·subst e;exact n2 hx
  ·subst e;exact n3 hx
end L2
namespace L2
open PySem PySem.Spec PyProof.Rows
noncomputable def FillM.d (f:FillM):D:=.tup [.int f.at_,.str f.rule,.str f.name,.int f.add,.bl f.soft]
noncomputable def StM.d (s:StM):D:=.tup [.str s.kind,.int s.step,.lst (s.words.map D.int),.lst (s.fills.map FillM.d)]
noncomputable def ToldM.d (n:ToldM):D:=.tup [.str n.name,.str n.sort,.int n.st,.int n.off]
noncomputable def PcM.d (p:PcM):D:=.tup [.str p.name,.lst (p.sts.map StM.d),.lst (p.nms.map ToldM.d)]
theorem RepL.map {K:Wf}{H:Hp}{α:Type}{f:α→D}{g:α→V}:∀{xs:List α},(∀x∈xs,Rep K H (f x) (g x))→RepL K H (xs.map f) (xs.map g)
 | [],_=>by simp[RepL]
 | x::xs,h=>by
  simp only[List.map_cons,RepL]
  exact⟨_,_,rfl,h x (List.mem_cons_self ..),RepL.map fun y hy=>h y (List.mem_cons_of_mem _ hy)⟩
theorem FillM.At.rep {K:Wf}{H:Hp}{f:FillM}(h:f.At H):Rep K H f.d f.v:=by
 simp only[FillM.d,Rep]
 exact⟨_,_,rfl,SqT.of h,by simp[RepL,Rep]⟩
theorem ToldM.At.rep {K:Wf}{H:Hp}{n:ToldM}(h:n.At H):Rep K H n.d n.v:=by
 simp only[ToldM.d,Rep]
 exact⟨_,_,rfl,SqT.of h,by simp[RepL,Rep]⟩
theorem StM.At.rep {K:Wf}{H:Hp}{s:StM}(h:s.At H):Rep K H s.d s.v:=by
 simp only[StM.d,Rep]
 refine⟨_,_,rfl,SqT.of h.top,?_⟩
 simp only[RepL,Rep]
 exact⟨_,_,rfl,rfl,_,_,rfl,rfl,_,_,rfl,⟨_,_,rfl,SqL.of h.wd,RepL.ints _⟩,_,_,rfl,⟨_,_,rfl,SqL.of h.fl,RepL.map fun f hf=>(h.fs f hf).rep⟩,rfl⟩
theorem PcM.At.rep {K:Wf}{H:Hp}{p:PcM}(h:p.At H):Rep K H p.d p.v:=by
 simp only[PcM.d,Rep]
 refine⟨_,_,rfl,SqT.of h.top,?_⟩
 simp only[RepL,Rep]
 exact⟨_,_,rfl,rfl,_,_,rfl,⟨_,_,rfl,SqL.of h.sl,RepL.map fun s hs=>(h.ss s hs).rep⟩,_,_,rfl,⟨_,_,rfl,SqL.of h.nl,RepL.map fun n hn=>(h.ns n hn).rep⟩,rfl⟩
theorem depL_le {α:Type}{f:α→D}{n:Nat}:∀{xs:List α},(∀x∈xs,dep (f x)≤n)→depL (xs.map f)≤n
 | [],_=>by simp[depL]
 | x::xs,h=>by
  simp only[List.map_cons,depL]
  exact Nat.max_le.mpr ⟨h x (List.mem_cons_self ..),depL_le fun y hy=>h y (List.mem_cons_of_mem _ hy)⟩
theorem dep_fill (f:FillM):dep f.d≤1:=by simp[FillM.d,dep,depL]
theorem dep_told (n:ToldM):dep n.d≤1:=by simp[ToldM.d,dep,depL]
theorem dep_st (s:StM):dep s.d≤3:=by
 have h1:depL (s.words.map D.int)≤0:=depL_le fun x _=>by simp[dep]
 have h2:depL (s.fills.map FillM.d)≤1:=depL_le fun x _=>dep_fill x
 simp only[StM.d,dep,depL]
 omega
theorem dep_pc (p:PcM):dep p.d≤5:=by
 have h1:depL (p.sts.map StM.d)≤3:=depL_le fun x _=>dep_st x
 have h2:depL (p.nms.map ToldM.d)≤1:=depL_le fun x _=>dep_told x
 simp only[PcM.d,dep,depL]
 omega
theorem deqL_nil (ds:List D):deqL ds []=decide (ds=[]):=by cases ds<;>simp[deqL]
noncomputable def StM.core (s:StM):Str×Int×List Int×List FillM:=(s.kind,s.step,s.words,s.fills)
theorem StM.d_core {s r:StM}(h:s.core=r.core):s.d=r.d:=by
 simp only[StM.core,Prod.mk.injEq]at h
 simp[StM.d,h]
theorem map_d_core:∀{ss rs:List StM},ss.map StM.core=rs.map StM.core→ss.map StM.d=rs.map StM.d
 | [],[],_=>rfl
 | [],_::_,h=>by simp at h
 | _::_,[],h=>by simp at h
 | s::ss,r::rs,h=>by
  simp only[List.map_cons,List.cons.injEq]at h ⊢
  exact⟨StM.d_core h.1,map_d_core h.2⟩
set_option genInjectivity false in
structure PcM.Copy (p q:PcM):Prop where
 name:q.name=p.name
 nms:q.nms=p.nms
 sts:q.sts.map StM.core=p.sts.map StM.core
theorem PcM.Copy.d {p q:PcM}(h:p.Copy q):q.d=p.d:=by simp[PcM.d,h.name,h.nms,map_d_core h.sts]
end L2
namespace L2
open PySem PySem.Spec PyProof.Rows PySem.W
noncomputable abbrev VE:List Value:=[.type "ValueError", .type "Exception", .type "BaseException", .type "object"]
noncomputable def ownInit (K:Frag) (C fI:Addr):Bool:=
 match K.lookup C with
 | none=>false
 | some ob=>
  match ob.cls,ob.data,ob.slots.toList with
  | .type "type", .cls cd,[_,_,_,_,some (.builtin n),_]=>
   (match cd.mro with
    | .ref C'::bm=>C' == C&&(n == "ValueError.__new__" && (!cd.hasDel&&(tailIn K VE bm&&(nsOkIn K cd.ns&&(cd.hasDict&&nsIn K cd.ns "__init__" == some (some (.ref fI)))))))
    | _=>false)
  | _,_,_=>false
theorem ns_has {K:Frag}{h:Heap}{N:Addr}{m:So}{n:Str}{v:Value}(X:K.In h) (G:h.Ns N m) (e:nsIn K N n=some (some v)):m n=some v:=by
 obtain⟨o,es,ep,ho,hd,_,hf⟩:=G
 unfold nsIn at e
 split at e
 ·rename_i c d es' n' sl q
  have z:=X _ _ q
  rw[ho]at z
  cases z
  cases hd
  split at e
  ·rename_i en he
   cases e
   rw[←hf]
   unfold nsFind findBy
   rw[←Array.find?_toList,he]
   rfl
  ·split at e<;>cases e
 ·cases e
theorem init_obj {K:Frag}{h:Heap}{C fI:Addr}(X:K.In h) (q:ownInit K C fI=true):
  ∃bm N nm q bs sn sub ab col dd k0 k1 k2 k3 k5 mN,h.get? C=some (excClassObj nm q C N bs bm true sn sub ab col dd k0 k1 k2 k3 k5 "ValueError.__new__")∧h.Ns N mN∧mN "__init__" = some (.ref fI)∧OwnTail h VE bm:=by
 unfold ownInit at q
 split at q
 ·cases q
 ·rename_i ob ho
  split at q
  ·rename_i cd _ _ _ _ n _ hc hd hs
   split at q
   ·rename_i C' bm hm
    simp only[Bool.and_eq_true,beq_iff_eq,Bool.not_eq_true']at q
    obtain⟨rfl,rfl,hdel,ht,hok,hdi,hni⟩:=q
    obtain⟨oc,odi,oda,osl⟩:=ob
    dsimp only at hc hd hs
    subst hc hd
    obtain⟨nm,bs,mro,ns,qn,hdd,sn,sub,ab,col,del⟩:=cd
    dsimp only at hm hdel hok hni hdi
    subst hm hdel hdi
    obtain⟨l⟩:=osl
    simp only at hs
    subst hs
    refine⟨bm,ns,nm,qn,bs,sn,sub,ab,col,odi,_,_,_,_,_,_,X _ _ ho,.of_isNs (PySem.W.isNs_of_in X hok),?_,PySem.W.tail_of_in X ht⟩
    exact ns_has X (.of_isNs (PySem.W.isNs_of_in X hok)) hni
   ·cases q
  ·cases q
section
variable {prog:Program}{w:World}{A:Around}{E:Vs}{h:Heap}{g:Array GenState}{d:Drawn}{t:Nat}{os:OsState}
variable {nm q:Str}{C N:Addr}{bs bm bmB:List Value}{hdct:Bool}{sn:List Str}{sub:List Value}{ab:Bool}{col:Option Bool}{dd:Option Addr}{k0 k1 k2 k3 k5:Option Value}{B newId initId:String}
theorem type_call_init (F:ExcBaseFacts B newId initId bmB) (T:OwnTail h bmB bm) {mN:So}{rest:List Value}{fI:Addr}{oI:Obj}{Q:Fin→Shared→Prop}
  (hC:h.get? C=some (excClassObj nm q C N bs bm hdct sn sub ab col dd k0 k1 k2 k3 k5 newId)) (hn:h.Ns N mN) (hi:mN "__init__" = some (.ref fI))
  (hfI:h.get? fI=some oI) (hfc:oI.cls=.type "function")
  (hq:∀h' e,h.objs.size≤e→Heap.MadeExcOf h h' e (.ref C) rest→
   wpAny (model prog w) A (call (.ref fI) (.ref e::rest)) (fun r s'=>r=.none∧Q (.done (.ret (.ref e))) s') E ⟨h',g,d,t,os⟩) (hrest:rest.length≤sizeLine):
  wpAny (model prog w) A (Builtin.«type.__call__» ⟨.ref C::rest,[]⟩) Q E ⟨h,g,d,t,os⟩:=by
 repeat (first | with_reducible refine wpAny_loadPart_at hC ?_ | with_reducible refine wpAny_madeBy_exc hC ?_ | wp_step)
 refine codeAny_call_builtin_code (Code.quiet_builtin _ F.quiet) (wpAny_check_new_subT F T hC ?_)
 refine codeAny_exc_new_subT F T hC ?_ hrest
 show wpAny _ _ _ _ _ _
 have up:∀b o,h.get? b=some o→((h.push { cls:=.type "tuple", data:=.seq rest.toArray }).push { cls:=.ref C,data:=.fields #[.ref h.objs.size,.none,.none,.none,.bool false,.none] }).get? b=some o:=
  fun b o e=>Heap.get?_push_of_some _ (Heap.get?_push_of_some _ e)
 have hC₁:=up _ _ hC
 have hfI₁:=up _ _ hfI
 have hn₁:=hn.keeps up
 have hget:((h.push { cls:=.type "tuple", data:=.seq rest.toArray }).push
   { cls:=.ref C,data:=.fields #[.ref h.objs.size,.none,.none,.none,.bool false,.none] }).get? (h.objs.size+1)=some
   { cls:=.ref C,data:=.fields #[.ref h.objs.size,.none,.none,.none,.bool false,.none] }:=by heap_get
 have hcC:(Value.ref C::bm).contains (.ref C)=true:=by simp
 unfold isInstance
 repeat (first | with_reducible refine wpAny_loadPart_at hget ?_ | (with_reducible refine wpAny_isSubtype_exc hC₁ ?_;rw[hcC]) | wp_step)
 show wpAny _ _ (typeLookup (.ref C) _) _ _ _
 refine wpAny_typeLookup_tail hC₁ hn₁ (T.keeps up) F.mroIs F.init.lookup ?_
 rw[hi]
 refine wpAny_holding (wpAny_bind ?_)
 unfold bindSpecial
 refine wpAny_bind (wpAny_typeOf (T := "function") ⟨_,hfI₁,hfc⟩ ?_)
 rw[if_pos (by decide)]
 refine wpAny_pure (wpAny_bind (wpAny_mono (hq _ (h.objs.size+1) (Nat.le_succ _) ⟨up,Heap.get?_none_of_le (Nat.le_succ _),h.objs.size,hget,Heap.get?_none_of_le (Nat.le_refl _),?_⟩) (fun r s' hr => ?_) fun _ _ x=>x))
 ·exact Heap.get?_push_of_some _ (Heap.get?_push_at rfl rfl)
 ·obtain⟨rfl,hQ⟩:=hr
  wp_walk
  exact hQ
theorem call_init (F:ExcBaseFacts B newId initId bmB) (T:OwnTail h bmB bm) {mN:So}{rest:List Value}{fI:Addr}{oI:Obj}{Q:Vs}
  (hC:h.get? C=some (excClassObj nm q C N bs bm hdct sn sub ab col dd k0 k1 k2 k3 k5 newId)) (hn:h.Ns N mN) (hi:mN "__init__" = some (.ref fI))
  (hfI:h.get? fI=some oI) (hfc:oI.cls=.type "function")
  (hq:∀h' e,h.objs.size≤e→Heap.MadeExcOf h h' e (.ref C) rest→
   wpAny (model prog w) (A.under (.builtin "type.__call__" ⟨.ref C::rest,[]⟩)) (call (.ref fI) (.ref e::rest)) (fun r s'=>r=.none∧Q (.ref e) s') E ⟨h',g,d,t,os⟩) (hrest:rest.length≤sizeLine):
  wpAny (model prog w) A (call (.ref C) rest) Q E ⟨h,g,d,t,os⟩:=by
 have f1:=tc_lookup
 have f2:=tc_bind (.ref C)
 have hT:(⟨h,g,d,t,os⟩:Shared).TypeIs (.ref C) "type" := ⟨_,hC,rfl⟩
 refine wpAny_call (codeAny_of_tree ?_)
 show wpAny _ _ (callAny (.ref C) _) _ _ _
 repeat (any_goals (first | assumption | with_reducible refine wpAny_loadPart_at hC ?_ | wp_step))
 refine⟨rfl,?_⟩
 refine codeAny_call_builtin_at (Code.quiet_builtin _ (by decide +kernel)) entry_typeCall (wpAny_check_type_call_sub hC (type_call_init (hrest:=hrest) F T hC hn hi hfI hfc fun h' e hz hm => ?_))
 exact hq h' e hz hm
theorem base_init (F:ExcBaseFacts B newId initId bmB) (T:OwnTail h bmB bm) {e:Addr}{oe:Obj}{vs:Array Value}{v0:Value}{rest:List Value}{Q:Vs}
  (hC:h.get? C=some (excClassObj nm q C N bs bm hdct sn sub ab col dd k0 k1 k2 k3 k5 newId)) (he:h.get? e=some oe) (hcls:oe.cls=.ref C) (hd:oe.data=.fields vs) (h0:vs[0]?=some v0)
  (hq:∀h' T,(∀b o,b≠e→h.get? b=some o→h'.get? b=some o)→h'.get? e=some { oe with data:=.fields (vs.setIfInBounds 0 T) }→Q .none ⟨h',g,d,t,os⟩) (hrest:rest.length≤sizeLine):
  wpAny (model prog w) A (call (.builtin initId) (.ref e::rest)) Q E ⟨h,g,d,t,os⟩:=by
 refine wpAny_call (codeAny_call_builtin F.init.plain F.initEntry (wpAny_check_init_subT F T hC he hcls ?_))
 have he1:=Heap.get?_push_of_some { cls:=.type "tuple", data:=.seq rest.toArray } he
 have hsz:=(Array.getElem?_eq_some_iff.mp h0).1
 unfold Builtin.«BaseException.__init__»
 repeat (first | with_reducible refine wpAny_field he1 hd h0 ?_ | with_reducible refine wpAny_setField he1 hd hsz ?_ | wp_step)
 have hd3:(Obj.mapFields (·.setIfInBounds 0 (Value.ref h.objs.size)) oe).data=.fields (vs.setIfInBounds 0 (Value.ref h.objs.size)):=Obj.data_mapFields hd _
 have e3:=Heap.get?_update_self (Obj.mapFields (·.setIfInBounds 0 (Value.ref h.objs.size))) he1 (Obj.isFreed_of_fields hd3)
 have e4:Obj.mapFields (·.setIfInBounds 0 (Value.ref h.objs.size)) oe={ oe with data:=.fields (vs.setIfInBounds 0 (Value.ref h.objs.size)) }:=by
  obtain⟨oc,od,oda,osl⟩:=oe
  dsimp only at hd
  subst hd
  rfl
 rw[e4]at e3
 have fin:=hq _ (.ref h.objs.size) (fun b o hb ho=>by rw[Heap.get?_update_other _ _ (Ne.symm hb)];exact Heap.get?_push_of_some _ ho) e3
 cases v0<;>repeat (first | exact fin | (unfold letGo;done) | with_reducible exact wpAny_holding (wpAny_point (wpAny_pure ?_)) | wp_step)
end
noncomputable def onlyErr:List Value→Bool
 | .ref _::r=>onlyErr r
 | l=>l == VE
noncomputable def errIn (K:Frag) (C:Addr):Bool:=(clsIn K C).any fun cd=>cd.hasDict&&onlyErr cd.mro
theorem refuse_err (self:Value):∀{l:List Value},onlyErr l=true→refuseLoop self "__setattr__" l=pure ()
 | .ref c::r,e=>by rw[refuseLoop_ref];exact refuse_err self (l:=r) e
 | [],e=>by cases (show ([]:List Value)=VE from beq_iff_eq.mp e)
 | .type n::r,e=>by rw[show (Value.type n::r)=VE from beq_iff_eq.mp e];exact PySem.F.store_ValueError.passes self
 | .none::r,e=>nomatch (show (Value.none::r)=VE from beq_iff_eq.mp e)
 | .bool b::r,e=>nomatch (show (Value.bool b::r)=VE from beq_iff_eq.mp e)
 | .int b t::r,e=>nomatch (show (Value.int b t::r)=VE from beq_iff_eq.mp e)
 | .str b t::r,e=>nomatch (show (Value.str b t::r)=VE from beq_iff_eq.mp e)
 | .bytes b t::r,e=>nomatch (show (Value.bytes b t::r)=VE from beq_iff_eq.mp e)
 | .float b t::r,e=>nomatch (show (Value.float b t::r)=VE from beq_iff_eq.mp e)
 | .builtin b::r,e=>nomatch (show (Value.builtin b::r)=VE from beq_iff_eq.mp e)
theorem err_has:∀{l:List Value},onlyErr l=true→l.contains (.type "object")=true
 | .ref c::r,e=>by rw[List.contains_cons,err_has (l:=r) e,Bool.or_true]
 | [],e=>by cases (show ([]:List Value)=VE from beq_iff_eq.mp e)
 | .type n::r,e=>by rw[show (Value.type n::r)=VE from beq_iff_eq.mp e];decide
 | .none::r,e=>nomatch (show (Value.none::r)=VE from beq_iff_eq.mp e)
section
variable {prog:Program}{w:World}{A:Around}{E:Vs}{s:Shared}{K:Frag}{x C:Addr}{R:Result→Shared→Prop}
theorem osa_err {ox:Obj}{od:Option Obj}{name:Str}{tk:Tok}{v:Value}(X:K.In s.heap) (I:InstAt s.heap x ox C od) (hp:errIn K C=true) (hf:findIn K (.ref C) name=some none)
  (h:wpAny (model prog w) A.in1 (Builtin.ObjectAttr.storeInOwnDict (.ref x) (.ref C) (.str name tk) name v false)
   (fun fin s'=>match fin with | .done f=>R (.ok f) s' | .again c'=>c'.quiet=true∧codeAny (model prog w) A c' R s') (fun e s'=>R (.error e) s') s):
  codeAny (model prog w) A (.call (.builtin "object.__setattr__") ⟨[.ref x,.str name tk,v],[]⟩) R s:=by
 have SF:=PySem.F.store_object
 obtain⟨cd,hc,ho⟩:=any_some hp
 rw[Bool.and_eq_true]at ho
 obtain⟨_,ho⟩:=ho
 have ne:cd.mro.isEmpty=false:=by cases q:cd.mro with | nil=>rw[q]at ho;cases ho | cons _ _=>rfl
 have sub:Looks (model prog w) s.heap (isInstance (.ref x) (.type "object")) true:=I.type.andThen (looks_mroIn X (by unfold mroIn;rw[hc,Option.bind_some,if_neg (by rw[ne];decide),err_has ho]))
 refine codeAny_call_builtin SF.slot.plain SF.entry (@check_slot (model prog w) _ _ s "object.__setattr__" "object" "__setattr__" (.ref x) [.str name tk,v] [] _ SF.kind SF.split sub (SF.args (.ref x) (.str name tk) v) ?_)
 have hm:Looks (model prog w) s.heap (mroOf (.ref C)) cd.mro:=(looks_clsIn X hc).andThen .now
 rw[osa_eq,refuse_eq]
 refine wpAny_bind (wpAny_bind (I.type.here (wpAny_bind (hm.here ?_))))
 rw[refuse_err _ ho]
 refine wpAny_pure (wpAny_bind (I.type.here (wpAny_bind ((looks_findIn X hf).here (wpAny_bind (wpAny_pure ?_))))))
 exact h
theorem set_err0 {ox:Obj}{vs:Array Value}{name:Str}{v:Value}{Q:Unit→Shared→Prop}(X:K.In s.heap) (hx:s.heap.get? x=some ox) (hcl:ox.cls=.ref C) (hdn:ox.dict=none) (hda:ox.data=.fields vs) (hp:errIn K C=true)
  (hs:findIn K (.ref C) "__setattr__" = some (some (.builtin "object.__setattr__"))) (hf:findIn K (.ref C) name=some none)
  (h:∀h' tk,h'.get? x=some { ox with dict:=some s.heap.objs.size }→h'.Ns1 s.heap.objs.size (fun y=>if y=name then some v else none)→(∀b o,b≠x→s.heap.get? b=some o→h'.get? b=some o)→Q () { s with heap:=h',toks:=tk }):
  wpAny (model prog w) A (setAttr (.ref x) name v) Q E s:=by
 obtain⟨hh,g,d,t,os⟩:=s
 have J:InstAt hh x ox C none:=⟨hx,hcl,by unfold notCls;rw[hda],by rw[hdn];trivial⟩
 refine set_plain X J hs (osa_err (s:=⟨hh,g,d,t+1,os⟩) X J hp hf ?_)
 obtain⟨cd,hc,ho⟩:=any_some hp
 rw[Bool.and_eq_true]at ho
 refine wpAny_bind (wpAny_pure (wpAny_bind (wpAny_bind (wpAny_loadPart hx ?_))))
 rw[hcl]
 refine wpAny_bind (Looks.here (s:=⟨hh,g,d,t+1,os⟩) (looks_clsIn X hc) ?_)
 rw[ho.1,hdn,hda]
 rw[if_neg (by decide)]
 dsimp only
 rw[if_neg (by simp[typeHasDict])]
 have hx₁:(hh.push { cls:=.type "dict", data:=.dict #[] }).get? x=some ox:=Heap.get?_push_of_some _ hx
 have hxs:x≠hh.objs.size:=Nat.ne_of_lt (Heap.lt_size hx)
 refine wpAny_bind (wpAny_alloc' ?_)
 refine wpAny_bind (wpAny_update' hx₁ ?_)
 refine wpAny_pure ?_
 have hgd:((hh.push { cls:=.type "dict", data:=.dict #[] }).update x fun o=>{ cls:=o.cls,dict:=some hh.objs.size,data:=o.data,slots:=o.slots }).get? hh.objs.size
   = some { cls:=.type "dict", data:=.dict #[] }:=(Heap.get?_update_ne _ _ _ _ hxs.symm).trans (Heap.get?_push_at rfl rfl)
 have hnd:((hh.push { cls:=.type "dict", data:=.dict #[] }).update x fun o=>{ cls:=o.cls,dict:=some hh.objs.size,data:=o.data,slots:=o.slots }).Ns hh.objs.size (fun _=>none):=
  ⟨_,#[],_,hgd,rfl,fun e he=>absurd he (by simp),fun _=>rfl⟩
 show wpAny _ _ (Builtin.ObjectAttr.storeInDict hh.objs.size (.str name t) name v) _ _ _
 unfold Builtin.ObjectAttr.storeInDict Builtin.ObjectAttr.newKeyGuard
 refine wpAny_bind (wpAny_pure (wpAny_bind (wpAny_nsSet1 (Heap.Ns1.of_empty hnd) fun h' hn' hs => ?_)))
 obtain⟨oD,esD,epD,hoD,hdD,hcD⟩:=hn'.count (Within.cons name v Within.nil)
 refine wpAny_bind (wpAny_lookBehind hoD (by rw[hdD];exact pastItsLine_dict (Nat.le_trans hcD (by rw[List.length_cons,List.length_nil,sizeLine_eq];omega))) ?_)
 refine wpAny_pure (h h' _ ?_ hn' fun b o hb hbo => ?_)
 ·refine (hs.2 x hxs).trans (Heap.get?_update_self _ hx₁ ?_)
  obtain⟨oc,od,odt,osl⟩:=ox
  dsimp only at hda
  subst hda
  rfl
 ·exact (hs.2 b (Nat.ne_of_lt (Heap.lt_size hbo))).trans ((Heap.get?_update_ne _ _ _ _ hb).trans (Heap.get?_push_of_some _ hbo))
theorem set_err1 {ox:Obj}{dx:Addr}{mA:So}{vs:Array Value}{name:Str}{v:Value}{ns:List Str}{Q:Unit→Shared→Prop}(X:K.In s.heap) (hx:s.heap.get? x=some ox) (hcl:ox.cls=.ref C) (hdn:ox.dict=some dx) (hda:ox.data=.fields vs)
  (hns:s.heap.Ns1 dx mA) (hp:errIn K C=true) (hs:findIn K (.ref C) "__setattr__" = some (some (.builtin "object.__setattr__"))) (hf:findIn K (.ref C) name=some none) (hw:Within mA ns) (hsz:ns.length≤sizeLine)
  (h:∀h' tk,h'.Ns1 dx (fun y=>if y=name then some v else mA y)→Heap.SameBut dx s.heap h'→Q () { s with heap:=h',toks:=tk }):
  wpAny (model prog w) A (setAttr (.ref x) name v) Q E s:=by
 obtain⟨hh,g,d,t,os⟩:=s
 obtain⟨oD,_,_,hoD,_⟩:=id hns
 have J:InstAt hh x ox C (some oD):=⟨hx,hcl,by unfold notCls;rw[hda],by rw[hdn];exact hoD⟩
 refine set_plain X J hs (osa_err (s:=⟨hh,g,d,t+1,os⟩) X J hp hf ?_)
 obtain⟨cd,hc,ho⟩:=any_some hp
 rw[Bool.and_eq_true]at ho
 refine wpAny_bind (wpAny_pure (wpAny_bind (wpAny_bind (wpAny_loadPart hx ?_))))
 rw[hcl]
 refine wpAny_bind (Looks.here (s:=⟨hh,g,d,t+1,os⟩) (looks_clsIn X hc) ?_)
 rw[ho.1,hdn]
 rw[if_neg (by decide)]
 refine wpAny_pure ?_
 show wpAny _ _ (Builtin.ObjectAttr.storeInDict dx (.str name t) name v) _ _ _
 unfold Builtin.ObjectAttr.storeInDict Builtin.ObjectAttr.newKeyGuard
 refine wpAny_bind (wpAny_pure (wpAny_bind (wpAny_nsSet1 hns fun h' hn' hs => ?_)))
 obtain⟨oD,esD,epD,hoD,hdD,hcD⟩:=hn'.count (Within.cons name v hw)
 refine wpAny_bind (wpAny_lookBehind hoD (by rw[hdD];exact pastItsLine_dict (Nat.le_trans hcD (by rw[List.length_cons];omega))) ?_)
 exact wpAny_pure (h h' _ hn' hs)
end
end L2
namespace L2
open PySem PySem.Spec PyProof.Rows PySem.W
section
variable {M:Model}{A:Around}{E:Vs}{env:Env}
variable {nm q:Str}{C N:Addr}{bs bm:List Value}{hdct:Bool}{sn:List Str}{sub:List Value}{ab:Bool}{col:Option Bool}{dd:Option Addr}{k0 k1 k2 k3 k5:Option Value}{newId:String}
theorem raise_made {s:Shared}{x:Sem Value}{Q:Flow→Shared→Prop}(hbase:bm.contains (.type "BaseException")=true) (hh:A.handled=none)
  (h:wpAny M A x (fun v s₁=>∃e oe vs,v=.ref e∧s₁.heap.get? C=some (excClassObj nm q C N bs bm hdct sn sub ab col dd k0 k1 k2 k3 k5 newId)∧
   s₁.heap.get? e=some oe∧oe.cls=.ref C∧oe.data=.fields vs∧vs[1]?=some .none∧E (.ref e) s₁) E s):
  wpAny M A (raiseStmt env (some x) none) Q E s:=by
 have hcB:(Value.ref C::bm).contains (.type "BaseException")=true:=by rw[List.contains_cons,hbase,Bool.or_true]
 unfold raiseStmt
 refine wpAny_bind (wpAny_mono h (fun v s₁ h₁ => ?_) fun _ _ x=>x)
 obtain⟨e,oe,vs,rfl,hC,he,hcls,hd,h1,hE⟩:=h₁
 obtain⟨hp,g,d,tk,os⟩:=s₁
 obtain⟨oc,odi,oda,osl⟩:=oe
 dsimp only at hcls hd
 subst hcls hd
 repeat (first | with_reducible refine wpAny_loadPart_at he ?_ | with_reducible refine wpAny_loadPart_at hC ?_ | (with_reducible refine wpAny_isSubtype_exc hC ?_;rw[hcB]) | with_reducible refine wpAny_field he rfl h1 ?_ | wp_step)
 exact wpAny_raiseNew_none hh hE
end
section
variable {prog:Program}{w:World}{A:Around}{E:Vs}{s:Shared}{env:Env}
variable {nm q:Str}{C N:Addr}{bs bm bmB:List Value}{hdct:Bool}{sn:List Str}{sub:List Value}{ab:Bool}{col:Option Bool}{dd:Option Addr}{k0 k1 k2 k3 k5:Option Value}{B newId initId:String}
theorem raise_init (F:ExcBaseFacts B newId initId bmB) {mN:So}{x:Str}{np cpos pos:Pos}{args:List Expr}{fI:Addr}{oI:Obj}{Q:Flow→Shared→Prop}
  (hbase:bm.contains (.type "BaseException")=true) (hh:A.handled=none) (hplain:(backTo cpos (starEach args env)).any (·.1)=false) (hi:mN "__init__" = some (.ref fI)) (hfc:oI.cls=.type "function")
  (h:wpAny (model prog w) A (eval (.Name x np) env) (fun f s₁=>f=.ref C∧wpAny (model prog w) A (evalArgs (.ref C) true (backTo cpos (starEach args env)) [])
   (fun a s₂=>a.kw=[]∧a.pos.length≤sizeLine∧s₂.heap.get? C=some (excClassObj nm q C N bs bm hdct sn sub ab col dd k0 k1 k2 k3 k5 newId)∧s₂.heap.Ns N mN∧OwnTail s₂.heap bmB bm∧s₂.heap.get? fI=some oI∧
    ∀h' e,s₂.heap.objs.size≤e→Heap.MadeExcOf s₂.heap h' e (.ref C) a.pos→
     wpAny (model prog w) (A.under (.builtin "type.__call__" ⟨.ref C::a.pos,[]⟩)) (call (.ref fI) (.ref e::a.pos)) (fun r s'=>r=.none∧∃oe vs,s'.heap.get? C=some (excClassObj nm q C N bs bm hdct sn sub ab col dd k0 k1 k2 k3 k5 newId)∧
      s'.heap.get? e=some oe∧oe.cls=.ref C∧oe.data=.fields vs∧vs[1]?=some .none∧E (.ref e) s') E { s₂ with heap:=h' }) E s₁) E s):
  wpAny (model prog w) A (exec (.Raise (some (.Call (.Name x np) args [] cpos)) none pos) env) Q E s:=by
 rw[arm_exec_Raise]
 refine wpAny_bind (wpAny_standAt (raise_made (C:=C) (nm:=nm) (q:=q) (N:=N) (bs:=bs) (bm:=bm) (hdct:=hdct) (sn:=sn) (sub:=sub) (ab:=ab) (col:=col) (dd:=dd) (k0:=k0) (k1:=k1) (k2:=k2) (k3:=k3) (k5:=k5) (newId:=newId) hbase hh
  (wpAny_bind (wpAny_mono (wpAny_Call_ofName (wpAny_mono h (fun f s₁ h₁ => ?_) fun _ _ x=>x)) (fun v s₃ h₃=>wpAny_bind (wpAny_standAt (wpAny_pure h₃))) fun _ _ x=>x))))
 obtain⟨rfl,h₁⟩:=h₁
 unfold callWith
 refine wpAny_bind (wpAny_holding (wpAny_mono h₁ (fun a s₂ h₂=>wpAny_bind (wpAny_standAt ?_)) fun _ _ x=>x))
 obtain⟨apos,akw⟩:=a
 obtain⟨hkw,hlen,hC,hn,T,hfI,h₂⟩:=h₂
 obtain rfl:akw=[]:=hkw
 obtain⟨hp,g,d,tk,os⟩:=s₂
 simp only[hplain]
 refine wpAny_bind (wpAny_keeperOf_exc hC ?_)
 refine wpAny_bind (call_init (hrest:=hlen) F T hC hn hi hfI hfc fun h' e hz hm=>wpAny_mono (h₂ h' e hz hm) (fun r s' hr=>⟨hr.1,wpAny_bind (wpAny_holding (wpAny_point (wpAny_pure ?_)))⟩) fun _ _ x=>x)
 obtain⟨_,oe,vs,k1,k2,k3,k4,k5,k6⟩:=hr
 exact⟨e,oe,vs,rfl,k1,k2,k3,k4,k5,k6⟩
end
noncomputable def XN (a C:Addr) (dx:Option Addr):HO:=.ext fun h=>∃ob vs v0,h.get? a=some ob∧ob.cls=.ref C∧ob.dict=dx∧ob.data=.fields vs∧vs[0]?=some v0∧vs[1]?=some .none
noncomputable def XD (d:Addr) (fs:List (Str×V)):HO:=.ext fun h=>∃mA,h.Ns1 d mA∧(∀f,RelO (fs.lookup f) (mA f))∧PySem.Within mA (fs.map (·.1))
noncomputable def del (H:Hp) (a:Addr):Hp:=fun b=>if b=a then none else H b
theorem del_ne {H:Hp}{a b:Addr}(h:b≠a):del H a b=H b:=by unfold del;rw[if_neg h]
theorem del_same {H:Hp}{a:Addr}:del H a a=none:=by unfold del;rw[if_pos rfl]
theorem XN.get {P:Program}{w:World}{H:Hp}{h:Heap}{a C:Addr}{dx:Option Addr}(ok:HOk P w H h) (e:H a=some (XN a C dx)):∃ob vs v0,h.get? a=some ob∧ob.cls=.ref C∧ob.dict=dx∧ob.data=.fields vs∧vs[0]?=some v0∧vs[1]?=some .none:=(ok a _ e).1
theorem XD.get {P:Program}{w:World}{H:Hp}{h:Heap}{d:Addr}{fs:List (Str×V)}(ok:HOk P w H h) (e:H d=some (XD d fs)):∃mA,h.Ns1 d mA∧(∀f,RelO (fs.lookup f) (mA f))∧PySem.Within mA (fs.map (·.1)):=(ok d _ e).1
theorem XN.ok {P:Program}{w:World}{H:Hp}{h:Heap}{a C:Addr}{dx:Option Addr}(x:∃ob vs v0,h.get? a=some ob∧ob.cls=.ref C∧ob.dict=dx∧ob.data=.fields vs∧vs[0]?=some v0∧vs[1]?=some .none):ObjOk P w H h a (XN a C dx):=by
 obtain⟨ob,vs,v0,he,r⟩:=x
 exact⟨⟨ob,vs,v0,he,r⟩,⟨ob,he⟩,fun h1 h2 ⟨ob,ws,v0,q,r⟩ k=>⟨ob,ws,v0,k _ q,r⟩⟩
theorem XD.ok {P:Program}{w:World}{H:Hp}{h:Heap}{d:Addr}{fs:List (Str×V)}(x:∃mA,h.Ns1 d mA∧(∀f,RelO (fs.lookup f) (mA f))∧PySem.Within mA (fs.map (·.1))):ObjOk P w H h d (XD d fs):=by
 obtain⟨mA,n,r⟩:=x
 obtain⟨o,_,_,e,_⟩:=id n
 exact⟨⟨mA,n,r⟩,⟨o,e⟩,fun h1 h2 ⟨mA,n,r⟩ k=>⟨mA,n.at k,r⟩⟩
section
variable {X:Cx}{pins:Lo}{σ:St}{H:Hp}{s:Shared}{a C:Addr}{φ:Heap→Prop}
theorem Inv.untrack (I:Inv X pins σ H s) (e:H a=some (.ext φ)):Inv X pins σ (del H a) s:=by
 have ne:∀b u,H b=some u→(∀ψ,u≠.ext ψ)→b≠a:=fun b u q n z=>by rw[z,e]at q;exact n φ (Option.some.inj q).symm
 refine I.un (h':=s.heap) (t':=s.toks) ⟨fun b o q _ _ _=>q,fun b o q _ _ _=>⟨o.slots,q⟩,fun b o q n _ => ?_,fun b o q _=>⟨o,q⟩,fun b xs q => ?_,fun b o u q => ?_,fun b ps q=>⟨#[],?_⟩⟩ fun b u q => ?_
 ·by_cases hb:b=a
  ·rw[hb];exact del_same
  ·rw[del_ne hb];exact n
 ·rw[del_ne (ne b _ q (by intro ψ z;cases z))];exact q
 ·rw[del_ne (ne b _ q (by intro ψ z;cases z))];exact q
 ·rw[del_ne (ne b _ q (by intro ψ z;cases z)),q];simp
 ·by_cases hb:b=a
  ·rw[hb,del_same]at q;cases q
  ·rw[del_ne hb]at q
   exact (I.hok b u q).stay (fun _ _ _ z=>z) (fun c z=>by rw[del_ne (ne c _ z (by intro ψ z;cases z))];exact z) fun c xs z=>by rw[del_ne (ne c _ z (by intro ψ z;cases z))];exact z
theorem Inv.dictDone {d:Addr}{fs:List (Str×V)}(I:Inv X pins σ H s) (e:H d=some (XD d fs)):Inv X pins σ (upd H d (.xd fs)) s:=by
 obtain⟨mA,n,r,_⟩:=XD.get I.hok e
 obtain⟨o,_,_,q,_⟩:=id n
 exact I.write (h':=s.heap) (t':=s.toks) (x:=d) (e:=d) (by rw[e];exact True.intro) (.inl rfl) (fun _ _ _ z=>z) ⟨o,q⟩ ⟨mA,n,r⟩
end
end L2
namespace L2
open PySem PySem.Spec PyProof.Rows PySem.W
set_option genInjectivity false in
structure ErrC (K:Frag) (C f:Addr):Prop where
 ini:ownInit K C f=true
 ei:errIn K C=true
 sa:findIn K (.ref C) "__setattr__" = some (some (.builtin "object.__setattr__"))
 fn:isFn K (.ref f)=true
set_option genInjectivity false in
structure BaseI (K:Frag) (B:Addr):Prop where
 rd:readsIn K B (.type "type")=true
 fc:findCls K (.ref B) (.type "type") "__init__" = some (.val (.builtin "ValueError.__init__"))
 ga:specialIn K (.ref B) "__getattribute__" = some (some (.builtin "type.__getattribute__"))
theorem upd_id {H:Hp}{a:Addr}{o:HO}(e:H a=some o):upd H a o=H:=by
 funext b
 by_cases hb:b=a
 ·subst hb;rw[zz1,e]
 ·rw[upd_ne hb]
def tRaiseI (C:Addr) (sp:Sp) (E:XK) (t:TA):TS:=fun _ σ H=>t σ H fun vs H1=>vs.length≤sizeLine∧∀x,H1 x=none→sp (.ref x::vs) (upd H1 x (XN x C none)) (fun v H2=>v=.non∧
 ((H2 x=some (XN x C none)∧E (.ref C) none (del H2 x))∨∃d fs,d≠x∧H2 x=some (XN x C (some d))∧H2 d=some (XD d fs)∧E (.ref C) (some d) (del (upd H2 d (.xd fs)) x))) E0
def tXInit (K:Frag) (t:TA):TE:=fun σ H Q=>t σ H fun vs H1=>∃a C dx rest f,vs=.ref a::rest∧H1 a=some (XN a C dx)∧ErrC K C f∧rest.length≤sizeLine∧Q .non H1
def sXFld (K:Frag) (ta tv:TE) (f:Str):TS:=fun D σ H=>tv σ H fun y H1=>ta σ H1 fun x H2=>∃a C fI dx,x=.ref a∧H2 a=some (XN a C dx)∧ErrC K C fI∧NoAttr K C f∧
 ((dx=none∧∀d,H2 d=none→D.nx σ (upd (upd H2 d (XD d [(f,y)])) a (XN a C (some d))))∨∃d fs,dx=some d∧H2 d=some (XD d fs)∧fs.length<1000∧D.nx σ (upd H2 d (XD d (putF f y fs))))
def tXFld (K:Frag) (ta:TE) (f:Str):TE:=fun σ H Q=>ta σ H fun x H1=>∃a C d fs v,x=.ref a∧H1 a=some (XO a C (some d))∧H1 d=some (.xd fs)∧XCls K C∧hasDictIn K C=true∧NoAttr K C f∧fs.lookup f=some v∧Q v H1
section
variable {X:Cx}{x f:Str}{B C fI:Addr}{k:Nat}{fd:FuncData}{ps:List Str}{sp:Sp}{E:XK}{e o value:Expr}{es:List Expr}{p np apos cpos pos pos':Pos}{t:TA}{ta tv:TE}
theorem ps_raiseI (F:FnOk X.prog X.w X.K X.mg X.base CX0 k fI fd ps sp) (hr:Room (k+1) X.A) (hb:Binds X.K fd ps []) (M:ErrC X.K C fI) (hg:Gl X x) (hm:X.mg x=some (.ref C)) (hc:X.calm=true) (hX:Xe X E) (ha:PA X (e::es) t) (hex:X.ex=[]:=by rfl)
  (he:starEach (e::es) X.env=(false,eval e X.env)::starEach es X.env:=by rfl) (hplain:(backTo cpos (starEach es X.env)).any (·.1)=false:=by rfl) (hdb:(x == ("__debug__" : Str))=false:=by decide):
  PS X (.Raise (some (.Call (.Name x np) (e::es) [] cpos)) none pos) (tRaiseI C sp E t):=by
 intro pins s σ H D I h
 obtain⟨tl,N,nm,qn,bs,sn,sub,ab,col,dd,k0,k1,k2,k3,k5,mN,hC,hN,hni,T⟩:=init_obj I.ok.mod.kin M.ini
 obtain⟨oI,hoI,hfc⟩:∃oI,X.K.lookup fI=some oI∧oI.cls=.type "function" := Option.map_eq_some_iff.mp (beq_iff_eq.mp M.fn)
 have hfI:=I.ok.mod.kin _ _ hoI
 refine raise_init (C:=C) (nm:=nm) (q:=qn) (N:=N) (bs:=bs) (bm:=tl) (hdct:=true) (sn:=sn) (sub:=sub) (ab:=ab) (col:=col) (dd:=dd) (k0:=k0) (k1:=k1) (k2:=k2) (k3:=k3) (k5:=k5) (fI:=fI) (oI:=oI)
  PySem.F.excBase_ValueError (mN:=mN) (T.hasType PySem.F.excBase_ValueError.hasBase) (I.ok.hd hc) (by rw[he];show (false || (backTo cpos (starEach es X.env)).any (·.1))=false;rw[hplain];rfl) hni hfc (ld_glob I hg hm ⟨rfl,?_⟩ hdb)
 have h1:=ha cpos pins s σ H _ I h
 rw[he]at h1 ⊢
 refine Calls.evalArgs_plain (wpAny_mono h1 (fun us s2 h2 => ?_) fun _ _ y=>y)
 obtain⟨vs,H2,I2,rv,hz,hE⟩:=h2
 refine⟨rfl,by rw[←rv.length];exact hz,I2.bk _ _ hC,hN.keeps I2.bk,T.keeps I2.bk,I2.bk _ _ hfI,fun h' e hsz me => ?_⟩
 obtain⟨t',hx,_,_⟩:=me.there
 have I3:Inv X pins σ (upd H2 e (XN e C none)) { s2 with heap:=h' }:=I2.laid (t':=s2.toks) me.keeps hsz (XN.ok ⟨_,_,_,hx,rfl,rfl,rfl,rfl,rfl⟩)
 have hq:=hE e (I2.hok.fresh hsz)
 have r2:Vals (V.ref e::vs) (Value.ref e::us):=.cons rfl rv
 have hl:(Value.ref e::us++[]).length=ps.length:=by
  have z:=r2.length
  rw[F.len _ _ _ _ hq]at z
  rw[List.append_nil];exact z.symm
 have hbb:=hb { s2 with heap:=h' } (Value.ref e::us) I3.kIn hl
 rw[List.append_nil]at hbb
 have hs0:X.s₀.heap.get? e=none:=by
  cases qq:X.s₀.heap.get? e with
  | none=>rfl
  | some o=>
   obtain⟨o',q'⟩:=I2.base.there e o qq (by rw[hex];simp)
   rw[me.new]at q';cases q'
 refine wpAny_call (codeAny_mono (F.run _ X.stack _ _ ⟨Value.ref e::us,[]⟩ (Value.ref e::us) _ _ E0 (hr.make C us []) (I3.env0.make C us []) hbb r2 hq) fun r s' hq' => ?_)
 cases r with
 | error e=>exact False.elim hq'
 | ok fl=>
  cases fl with
  | ret u=>
   obtain⟨v,H',I4,rv',ev,alt⟩:=I3.after hq'
   subst ev
   rcases alt with ⟨e1,hE⟩ | ⟨d,fs,dne,e1,e2,hE⟩
   ·obtain⟨ob,ws,v0,g1,g2,g3,g4,g5,g6⟩:=XN.get I4.hok e1
    exact⟨rv',ob,ws,I4.bk _ _ hC,g1,g2,g4,g6,hX pins σ _ _ e (.ref C) none (I4.untrack e1) ⟨hs0,del_same,.inl ⟨ob,ws,g1,g2,g3,g4,g6⟩⟩ hE⟩
   ·obtain⟨ob,ws,v0,g1,g2,g3,g4,g5,g6⟩:=XN.get I4.hok e1
    have I5:=I4.dictDone e2
    have e3:upd H' d (.xd fs) e=some (XN e C (some d)):=by rw[upd_ne (Ne.symm dne)];exact e1
    exact⟨rv',ob,ws,I4.bk _ _ hC,g1,g2,g4,g6,hX pins σ _ _ e (.ref C) (some d) (I5.untrack e3) ⟨hs0,del_same,.inl ⟨ob,ws,g1,g2,g3,g4,g6⟩⟩ hE⟩
  | next=>exact False.elim hq'
  | brk=>exact False.elim hq'
  | cont=>exact False.elim hq'
theorem pe_xinit {pl:Sem Bool}(hg:Gl X x) (hm:X.mg x=some (.ref B)) (b:BaseI X.K B) (ha:PA X (e::es) t) (hdb:(x == ("__debug__" : Str))=false:=by decide)
  (hst:starEach (e::es) X.env=(false,eval e X.env)::starEach es X.env:=by rfl) (hpl:(backTo pos (starEach es X.env)).any (·.1)=false:=by rfl)
  (ht:eval (.Call (.Attribute (.Name x p) "__init__" apos) (e::es) [] pos) X.env=(do
   let ov ←eval (.Name x p) X.env
   standAt apos.atName
   let (f,first) ←holding [ov] (getMethod ov "__init__" pl)
   callWith pos f first (backTo pos (starEach (e::es) X.env)) (backToKw pos (keywordEach [] X.env))):=by rfl):
  PE X (.Call (.Attribute (.Name x p) "__init__" apos) (e::es) [] pos) (tXInit X.K t):=by
 intro pins s σ H Q I h
 refine methodCall_KW (pl:=pl) (ld_glob I hg hm ?_ hdb) ht
 refine method_cls I.kIn b.ga (cls_value I.kIn b.rd b.fc (by rfl) ?_)
 refine callWith_builtin1 (thn (ha pos pins _ σ H _ (I.tok (s.toks+1)) h) fun us s1 ⟨vs,H1,I2,r,q⟩ => ?_) hst hpl
 obtain⟨a,C,dx,rest,f,rfl,e1,M,hz,q⟩:=q
 cases r with
 | cons ra rr=>
  rename_i u us _
  obtain rfl:u=Value.ref a:=ra
  obtain⟨tl,N,nm,qn,bs,sn,sub,ab,col,dd,k0,k1,k2,k3,k5,mN,hC,hN,hni,T⟩:=init_obj I2.kIn M.ini
  obtain⟨ob,ws,v0,g1,g2,g3,g4,g5,g6⟩:=XN.get I2.hok e1
  obtain⟨hh,g,d,tk,os⟩:=s1
  have h0:=(Array.getElem?_eq_some_iff.mp g5).1
  refine base_init PySem.F.excBase_ValueError T hC g1 g2 g4 g5 (fun h' T' kk e' => ?_) (by rw[←rr.length];exact hz)
  have I3:=I2.write (h':=h') (t':=tk) (x:=a) (e:=a) (o:=XN a C dx) (by rw[e1];exact True.intro) (.inl rfl) kk ⟨_,e'⟩
   (XN.ok ⟨_,ws.setIfInBounds 0 T',T',e',g2,g3,rfl,by simp[h0],by rw[Array.getElem?_setIfInBounds_ne (by decide)];exact g6⟩)
  rw[upd_id e1]at I3
  exact⟨.non,H1,I3,rfl,q⟩
theorem ps_xfld (ha:PE X o ta) (hv:PE X value tv) (hs:swapsWith value (some (.Attribute o f pos')) pos.line X.env=pure false):PS X (.Assign [.Attribute o f pos'] value pos) (sXFld X.K ta tv f):=by
 intro pins s σ H D I h
 refine plainObj_wpAny_Assign_Attribute (thn (hv pins s σ H _ I h) fun u s1 hz => ?_) hs
 obtain⟨y,H1,I1,ry,q⟩:=hz
 refine thn (ha pins s1 σ H1 _ I1 q) fun ov s2 hz => ?_
 obtain⟨x,H2,I2,rx,a,C,fI,dx,ex,ea,M,n,q2⟩:=hz
 subst ex
 obtain rfl:ov=Value.ref a:=rx
 obtain⟨ob,ws,v0,g1,g2,g3,g4,g5,g6⟩:=XN.get I2.hok ea
 rcases q2 with ⟨rfl,q2⟩ | ⟨d,fs,rfl,ed,hl,q2⟩
 ·refine set_err0 I2.kIn g1 g2 g3 g4 M.ei M.sa n fun h' tk k1 k2 k3 => ?_
  have hne:s2.heap.objs.size≠a:=Ne.symm (Nat.ne_of_lt (Heap.lt_size g1))
  have hn:=I2.hok.fresh (Nat.le_refl s2.heap.objs.size)
  refine⟨σ,_,?_,q2 s2.heap.objs.size hn⟩
  have na:∀b u,H2 b=some u→(∀ψ,u≠.ext ψ)→b≠a:=fun b u q nx z=>by rw[z,ea]at q;exact nx _ (Option.some.inj q).symm
  have nd:∀b u,H2 b=some u→b≠s2.heap.objs.size:=fun b u q=>zz3 q hn
  have n0:∀b,H2 b=none→b≠a:=fun b q z=>by rw[z,ea]at q;cases q
  have up:∀b,b≠a→b≠s2.heap.objs.size→upd (upd H2 s2.heap.objs.size (XD s2.heap.objs.size [(f,y)])) a (XN a C (some s2.heap.objs.size)) b=H2 b:=fun b z1 z2=>by rw[upd_ne z1,upd_ne z2]
  refine I2.un (h':=h') (t':=tk) ⟨fun b o q m _ _=>k3 b o (n0 b m) q,fun b o q m _ _=>⟨o.slots,k3 b o (n0 b m) q⟩,fun b o q m _ => ?_,fun b o q _ => ?_,fun b xs q => ?_,fun b o u q => ?_,fun b ps q=>⟨#[],?_⟩⟩ fun b u q => ?_
  ·rw[up b (n0 b m) (Nat.ne_of_lt (Heap.lt_size q))];exact m
  ·by_cases hb:b=a
   ·rw[hb];exact⟨_,k1⟩
   ·exact⟨o,k3 b o hb q⟩
  ·rw[up b (na b _ q (by intro ψ z;cases z)) (nd b _ q)];exact q
  ·rw[up b (na b _ q (by intro ψ z;cases z)) (nd b _ q)];exact q
  ·rw[up b (na b _ q (by intro ψ z;cases z)) (nd b _ q),q];simp
  ·by_cases hb:b=a
   ·subst hb
    rw[zz1]at q;cases q
    exact XN.ok ⟨_,ws,v0,k1,g2,rfl,g4,g5,g6⟩
   ·by_cases hd:b=s2.heap.objs.size
    ·subst hd
     rw[upd_ne hb,zz1]at q;cases q
     refine XD.ok ⟨_,k2,fun g => ?_,fun g hg => ?_⟩
     ·by_cases z:g=f
      ·rw[if_pos z,z];simp[List.lookup];exact ry
      ·have zb:(g == f)=false:=beq_eq_false_iff_ne.mpr z
       rw[if_neg z];simp only[List.lookup,zb];trivial
     ·by_cases z:g=f
      ·rw[z];simp
      ·exact absurd (if_neg z) hg
    ·rw[up b hb hd]at q
     refine (I2.hok b u q).stay (fun c v hc z=>k3 c v ?_ z) (fun c z=>by rw[up c (na c _ z (by intro ψ z;cases z)) (nd c _ z)];exact z) fun c xs z=>by rw[up c (na c _ z (by intro ψ z;cases z)) (nd c _ z)];exact z
     rcases hc with z | z
     ·rw[z];exact hb
     ·exact na c _ z (by intro ψ z;cases z)
 ·obtain⟨mA,n1,r,wi⟩:=XD.get I2.hok ed
  have hz:(fs.map (·.1)).length≤sizeLine:=by rw[List.length_map,sizeLine_eq];omega
  refine set_err1 I2.kIn g1 g2 g3 g4 n1 M.ei M.sa n wi hz fun h' tk k1 sb => ?_
  refine⟨σ,_,?_,q2⟩
  obtain⟨od,_,_,hod,_⟩:=id k1
  refine I2.write (x:=d) (e:=d) (by rw[ed];exact True.intro) (.inl rfl) (fun b q hb z=>(sb.2 b hb).trans z) ⟨od,hod⟩ (XD.ok ⟨_,k1,fun g => ?_,fun g hg => ?_⟩)
  ·show RelO ((putF f y fs).lookup g) (if g=f then some u else mA g)
   rw[lookup_putF]
   by_cases q:g=f
   ·rw[if_pos q,if_pos q];exact ry
   ·rw[if_neg q,if_neg q];exact r g
  ·by_cases q:g=f
   ·rw[q];exact (keys_putF f y fs).1
   ·refine (keys_putF f y fs).2 g (wi g fun z=>hg ?_)
    show (if g=f then some u else mA g)=none
    rw[if_neg q];exact z
end
end L2
namespace L2
open PySem PySem.Spec PyProof.Rows
section
variable {X:Cx}
theorem pss_weak {b:List Stmt}{t u:TS}(h:PSs X b t) (w:∀D σ H,u D σ H→t D σ H):PSs X b u:=fun pins s σ H D I q=>h pins s σ H D I (w D σ H q)
theorem pe_weak {e:Expr}{t u:TE}(h:PE X e t) (w:∀σ H Q,u σ H Q→t σ H Q):PE X e u:=fun pins s σ H Q I q=>h pins s σ H Q I (w σ H Q q)
end
end L2
namespace L2
open PySem PySem.Spec PyProof.Rows
section
variable {X:Cx}
theorem ps_setC {elt iter tg:Expr}{ifs:List Expr}{scope:Scope}{pos spos py:Pos}{y:Str}{i:Nat}{N':List Str}{k:Nat}{fm:List Nat}{wi:TI}{g:TG}{tt:TT}{te:TE}(hN:X.N.Nodup) (hi':X.N[i]?=some y) (hy:Loc X.env.scope y) (B:BlkScope X N' k fm scope) (hc:X.calm=true) (hi:PI X tg iter wi)
  (hb:∀fp s H,PG (blk X N' scope fp s H) tg g∧PTs (blk X N' scope fp s H) ifs tt∧PE (blk X N' scope fp s H) elt te)
  (hsw:swapsWith (.ListComp elt [⟨tg,iter,ifs,0⟩] scope pos) (some (.Name y py)) spos.line X.env=pure true:=by rfl)
  (hs:∀x,foldedSetIterable iter X.env x=pure x:=by intro _;rfl) (hfn:X.fn y=true∨X.env.scope.names.lookup y=some .local:=by first | exact .inl rfl | exact .inr rfl | assumption):
  PS X (.Assign [.Name y py] (.ListComp elt [⟨tg,iter,ifs,0⟩] scope pos) spos) (tAsg (tComp k fm wi g tt te) (gName i)):=by
 intro pins s σ H DD I h
 have hfree:∀x∈scope.names,x.2=.free→∃c,X.env.cells.lookup x.1=some c:=fun x hx hk=>I.ok.has x.1 (B.free x hx hk)
 rw[exec_Assign_Name_used _ _ _ _ hsw]
 refine wpAny_bind (wpAny_standAt (wpAny_bind ?_))
 show wpAny _ X.A (do let _ ←comprehension (.ListComp elt [⟨tg,iter,ifs,0⟩] scope pos) scope X.env _ (newList []) false (eval iter X.env) (some (assign (.Name y py) X.env))) _ _ s
 refine wpAny_bind (wpAny_mono (wpAny_comprehension_free (use:=some (assign (.Name y py) X.env)) (Q:=fun _ s'=>SP X pins DD .next s') rfl hs (closureFor_eq hfree) B.kind B.names (thn (hi pins s σ H _ I h) fun v s1 h1=>thn h1 fun itv s2 h2 => ?_)) (fun _ s' hq=>wpAny_pure (wpAny_pure hq)) fun _ _ e=>e)
 obtain⟨it,fp,tn,J,H2,e,I2,T,st2,f2,h2⟩:=h2
 subst e
 obtain⟨W,⟨m0,w0⟩,turn⟩:=h2 s2.heap.objs.size I2.fresh
 refine wpAny_newObj_type (wpAny_newFunctionEnv B.nocell (by intro y hy;simp at hy) (fun h4 hns4 hsb4 => ?_) B.kind)
 have I3:=I2.lnew (its:=[]) (ys:=[]) (t':=s2.toks) .nil (Nat.zero_le _)
 have hf3:∀b∈fp,FpOk X pins (upd H2 s2.heap.objs.size (.lst [])) b:=fun b hb=>by
  obtain⟨o,e,_⟩:=T.obj _ _ st2 b hb
  refine⟨?_,(f2 b hb).2⟩
  rw[upd_ne (fun z=>Nat.lt_irrefl _ (z▸Heap.lt_size e))]
  exact (f2 b hb).1
 have ho3:∀b∈fp,∃o,(s2.heap.push { cls:=.type "list", data:=.seq ([]:List Value).toArray }).get? b=some o:=fun b hb=>by
  obtain⟨o,e,_⟩:=T.obj _ _ st2 b hb
  exact⟨o,Heap.get?_push_of_some _ e⟩
 have kp4:∀b o,(s2.heap.push { cls:=.type "list", data:=.seq ([]:List Value).toArray }).get? b=some o→h4.get? b=some o:=fun b o e=>
  hsb4.extBut b o (fun z=>Nat.lt_irrefl _ (z▸Heap.lt_size e)) (Heap.get?_push_of_some _ e)
 have I4:=I3.block (fp:=fp) (h':=h4) (tk:=s2.toks+([]:List (Str×Value)).length) B hf3 ho3 hns4 kp4
 generalize hs3:({ s2 with heap:=s2.heap.push { cls:=.type "list", data:=.seq ([]:List Value).toArray },toks:=s2.toks }:Shared)=s3 at *
 obtain⟨hg,ht,he⟩:=hb fp s3 (upd H2 s2.heap.objs.size (.lst []))
 have st4:tn 0 h4:=T.keep _ _ _ st2 fun b hb o e=>kp4 b o (Heap.get?_push_of_some _ e)
 have stat:∀{H':Hp},(∀b∈fp,H' b=none)→∀b∈fp,FpOk (blk X N' scope fp s3 (upd H2 s2.heap.objs.size (.lst []))) [] H' b:=fun {H'} hn b hb=>by
  obtain⟨f0,f1,f3,f4,f5,f6⟩:=hf3 b hb
  obtain⟨g1,g2⟩:=I4.ok.exf b hb
  exact⟨hn b hb,g1,I4.ok.exfs b hb,.inl hb,g2,fun p hp=>f6 p ((List.mem_append.mp hp).elim (fun z=>List.mem_append_left _ z) fun z=>absurd z (by simp))⟩
 have loop:codeAny (model X.prog X.w) X.A (.compLoop (.ListComp elt [⟨tg,iter,ifs,0⟩] scope pos) 0 (.ref it) (.ref s2.heap.objs.size) (compEnvC scope (clOf X.env scope.names []) s3.heap.objs.size X.env))
   (compPost (model X.prog X.w) X.A X.xe (some (assign (.Name y py) X.env)) (fun _ s'=>SP X pins DD .next s') (.ref s2.heap.objs.size) s3.heap.objs.size) { s3 with heap:=h4,toks:=s2.toks+([]:List (Str×Value)).length }:=by
  refine blk_loop (X:=blk X N' scope fp s3 (upd H2 s2.heap.objs.size (.lst []))) (D:=s2.heap.objs.size) (Q:=fun v H'=>DD.nx (σ.set i (some v)) H') (W:=W) (m0:=m0) rfl hc T stat hg ht he turn I4 st4 (fun b hb=>(hf3 b hb).1) w0 ?_
  intro H' s' I' q
  obtain⟨m,hn,_⟩:=I'.loc
  have hCn:s3.heap.get? s3.heap.objs.size=none:=by
   cases e:s3.heap.get? s3.heap.objs.size with
   | none=>rfl
   | some o=>exact absurd (Heap.lt_size e) (Nat.lt_irrefl _)
  have J:∀h'':Heap,(∀b o,b≠s3.heap.objs.size→s'.heap.get? b=some o→h''.get? b=some o)→Inv X pins σ H' { s' with heap:=h'' }:=fun h'' hk=>by
   have u:Un (frs X.stack) fp (upd H2 s2.heap.objs.size (.lst [])) H' s3.heap h'':=Un.tail I'.base hk hCn
   refine I3.call' (s':={ s' with heap:=h'' }) (ch:=fp) I'.os u (I'.hok.tail hk I'.free) I'.bare fun b hb => ?_
   obtain⟨f0,f1,f3,f4,f5,f6⟩:=hf3 b hb
   exact⟨f4,f1,f5,f6⟩
  have J1:Inv X pins σ H' s':=J s'.heap fun _ _ _ e=>e
  obtain⟨oC,es,ep,hoC,hdC,rC⟩:=hn
  have hCf:H' s3.heap.objs.size=none:=I'.free
  have hCL:s3.heap.objs.size≠X.env.locals:=Ne.symm (Nat.ne_of_lt I3.lt)
  have hCfs:=I3.nofs (Nat.le_refl _)
  have J2:Inv X (pins++[(s3.heap.objs.size,oC)]) σ H' s':=J1.pins_of fun p hp=>by
   rcases List.mem_append.mp hp with z | z
   ·exact J1.pin p (List.mem_append_right _ z)
   ·rw[List.mem_singleton.mp z]
    exact⟨hoC,hCf,hCL,hCfs,fun v e=>by rw[hdC]at e;cases e⟩
  show wpAny _ X.A (assign (.Name y py) X.env (.ref s2.heap.objs.size)) _ _ _
  refine wpAny_assign_Name (store_ok J2 hN hi' hy (v:=.ref s2.heap.objs.size) rfl (fun s5 I5 => ?_) hfn)
  have hC5:=(I5.pin (s3.heap.objs.size,oC) (List.mem_append_right _ (List.mem_append_right _ (List.mem_singleton.mpr rfl)))).1
  refine⟨m,⟨oC,es,ep,hC5,hdC,rC⟩,fun h'' hs'' => ?_⟩
  have I6:Inv X pins (σ.set i (some (.ref s2.heap.objs.size))) H' s5:=I5.pins_of fun p hp=>I5.pin p (List.mem_append_right _ (List.mem_append_left _ hp))
  refine⟨_,H',I6.turned (t':=s5.toks) (it:=s3.heap.objs.size) (fun b o hb e=>hs''.extBut b o hb e) hCf hCL (.inr I3.sz) (fun x c e z => ?_) (fun p hp z => ?_),q⟩
  ·obtain⟨v,o,ho,_⟩:=I3.cell x c e
   rw[z]at ho
   exact absurd (Heap.lt_size ho) (Nat.lt_irrefl _)
  ·have z':=(I3.pin p hp).1
   rw[z]at z'
   exact absurd (Heap.lt_size z') (Nat.lt_irrefl _)
 subst hs3
 exact codeAny_compStart_list loop (T.self X.A 0 _ _ _ st4 loop)
end
end L2
namespace L2
open PySem PySem.Spec PyProof.Rows
section
variable {prog:Program}{w:World}{K:Type} [DecidableEq K] {knd:KeyKind prog w K}{A:Around}{E:Vs}{s:Shared}
end
section
variable {X:Cx}
def rEqDict (K:Wf):R2:=fun x y H Q=>∃p q kvs,x=.ref p∧y=.ref q∧H p=some (.dK kvs)∧H q=some (.dK kvs)∧(∀kv∈kvs,∃d,Rep K H d kv.2∧dep d≤20)∧Q (.bl true) H
noncomputable def rDictOf:List V→Hp→VK→Prop:=fun xs H Q=>∃p kvs,xs=[.ref p]∧H p=some (.dK kvs)∧∀q,H q=none→Q (.ref q) (upd H q (.dK kvs))
noncomputable def cntV (x:V) (xs:List V):Nat:=xs.countP fun y=>eqV y x
noncomputable def rCount (K:Wf):V→List V→Hp→VK→Prop:=fun x vs H Q=>∃p xs y,x=.ref p∧vs=[y]∧SqL K H p xs∧flatV y=true∧xs.all flatV=true∧Q (.int (cntV y xs:Nat)) H
end
end L2
namespace L2
open PySem PySem.Spec PyProof.Rows
section
variable {M:Model}{A:Around}{E:Vs}{s:Shared}
end
section
variable {prog:Program}{w:World}{A:Around}{R:Result→Shared→Prop}{s:Shared}
end
section
variable {X:Cx}
def tCompX (E:XK) (k:Nat) (fm:List Nat) (wi:TI) (g:TG) (tt:TT) (te:TEX):TE:=fun σ H Q=>wi σ H fun J H1=>∀D,H1 D=none→∃W:Nat→Nat→List V→Hp→Prop,
 (∃m,W 0 m [] (upd H1 D (.lst [])))∧∀i m ys H2,W i m ys H2→H2 D=some (.lst ys)∧ys.length<sizeLine∧((J.stop i H2∧Q (.ref D) H2)∨(J.go i H2∧∃N:List V→Hp→Prop,(∀ys' H',N ys' H'→∃m',m'<m∧W (i+1) m' ys' H')∧∀x H3,J.yld i H2 x H3→
  g x (blkSt k fm σ) H3 fun σ3 H4=>Ext (blkSt k fm σ) σ3∧tt σ3 H4 fun b H5=>if b=true then te σ3 H5 (fun y H6=>H6 D=some (.lst ys)∧N (ys++[y]) (upd H6 D (.lst (ys++[y])))) E else N ys H5))
end
def CompWX (E:XK) (g:TG) (tt:TT) (te:TEX) (σ0:St) (Q:VK) (J:It) (H1:Hp):Prop:=∀DD,H1 DD=none→∃W:Nat→Nat→List V→Hp→Prop,
 (∃m,W 0 m [] (upd H1 DD (.lst [])))∧∀i m ys H2,W i m ys H2→H2 DD=some (.lst ys)∧ys.length<sizeLine∧((J.stop i H2∧Q (.ref DD) H2)∨(J.go i H2∧∃N:List V→Hp→Prop,(∀ys' H',N ys' H'→∃m',m'<m∧W (i+1) m' ys' H')∧∀x H3,J.yld i H2 x H3→
  g x σ0 H3 fun σ3 H4=>Ext σ0 σ3∧tt σ3 H4 fun b H5=>if b=true then te σ3 H5 (fun y H6=>H6 DD=some (.lst ys)∧N (ys++[y]) (upd H6 DD (.lst (ys++[y])))) E else N ys H5))
def CompLX (K:Wf) (E:XK) (g:TG) (tt:TT) (te:TEX) (σ0:St) (Q:VK):VK:=fun x H1=>∃a,x=.ref a∧(∃xs,SqL K H1 a xs)∧CompWX E g tt te σ0 Q (Itl K a) H1
section
variable {K:Wf}{k:Nat}{fm:List Nat}{tl:TE}{te:TEX}{g:TG}{tt:TT}{σ σ0:St}{H H1:Hp}{Q:VK}{E:XK}
theorem tCompX_list:tCompX E k fm (iList K tl) g tt te σ H Q=tl σ H (CompLX K E g tt te (blkSt k fm σ) Q):=rfl
end
section
variable {M:Model}{A:Around}{E:Vs}{s:Shared}
end
end L2
namespace L2
open PySem PySem.Spec PyProof.Rows
section
variable {X:Cx}
noncomputable def rClearD:V→List V→Hp→VK→Prop:=fun x vs H Q=>∃l kvs,x=.ref l∧vs=[]∧H l=some (.dK kvs)∧Q .non (upd H l (.dK []))
end
end L2
namespace L2
open PySem PySem.Spec PyProof.Rows
section
variable {X:Cx}
end
end L2
namespace L2
open PySem
section
variable {prog:Program}{w:World}{A:Around}{E:Vs}{s:Shared}
set_option maxHeartbeats 3200000 in
set_option maxHeartbeats 3200000 in
set_option maxHeartbeats 3200000 in
end
section
open PyProof.Rows PySem.Spec
variable {X:Cx}
end
end L2
namespace L2
open PySem PySem.Spec PyProof.Rows
section
variable {X:Cx}{pins:Lo}{σ:List (Option V)}{H H':Hp}{s:Shared}{h':Heap}
theorem Inv.turnedL {t':Nat}{fp:List Addr}(I:Inv X pins σ H s) (k:∀b o,b∉fp→s.heap.get? b=some o→h'.get? b=some o) (hf:∀b∈fp,FpOk X pins H b):Inv X pins σ H { s with heap:=h',toks:=t' }:=by
 have nit:∀b u,H b=some u→b∉fp:=fun b u e z=>by rw[(hf b z).1]at e;cases e
 have hL:X.env.locals∉fp:=fun z=>(hf _ z).2.1 rfl
 refine I.step (g':=s.gens) (d':=s.drawn) (ch:=fp) (fun b hb => ?_) (fun b o _ _ hc e _=>k b o hc e) (fun b o _ _ hc e _=>⟨o.slots,k b o hc e⟩) (fun _ _ _ _ n=>n)
  (fun b o hc e=>⟨o,k b o hc e⟩) (fun _ _ e=>e) (fun _ _ _ e=>e) (fun b ps e=>⟨#[],by rw[e];simp⟩) (fun m hm => ?_) (fun b u e => ?_) I.bare
 ·obtain⟨_,a1,_,a2,a3,a4⟩:=hf b hb
  exact⟨a2,a1,a3,a4⟩
 ·obtain⟨o,es,ep,ho,r⟩:=hm
  exact⟨o,es,ep,k _ o hL ho,r⟩
 ·refine (I.hok b u e).stay (fun c v hc q=>k c v ?_ q) (fun _ q=>q) fun _ _ q=>q
  rcases hc with z | z
  ·rw[z];exact nit b u e
  ·exact nit c _ z
theorem Inv.turnedT {t':Nat}{fp:List Addr}{q:Addr}{xs:List V}(I:Inv X pins σ H s) (k:∀b o,b∉fp→s.heap.get? b=some o→h'.get? b=some o) (hf:∀b∈fp,FpOk X pins H b) (hq:s.heap.objs.size≤q) (new:ObjOk X.prog X.w (upd H q (.tup xs)) h' q (.tup xs)):
  Inv X pins σ (upd H q (.tup xs)) { s with heap:=h',toks:=t' }:=by
 have nit:∀b u,H b=some u→b∉fp:=fun b u e z=>by rw[(hf b z).1]at e;cases e
 have hL:X.env.locals∉fp:=fun z=>(hf _ z).2.1 rfl
 have fq:H q=none:=I.hok.fresh hq
 have ne:∀b u,H b=some u→b≠q:=fun b u e z=>by rw[z,fq]at e;cases e
 have ne':∀b (o:Obj),s.heap.get? b=some o→b≠q:=fun b o e z=>absurd (Heap.lt_size e) (by rw[z];exact Nat.not_lt.mpr hq)
 refine I.step (g':=s.gens) (d':=s.drawn) (ch:=fp) (fun b hb => ?_) (fun b o _ _ hc e _=>k b o hc e) (fun b o _ _ hc e _=>⟨o.slots,k b o hc e⟩) (fun b o _ e n=>by rw[upd_ne (ne' b o e)];exact n)
  (fun b o hc e=>⟨o,k b o hc e⟩) (fun b _ e=>by rw[upd_ne (ne b _ e)];exact e) (fun b _ _ e=>by rw[upd_ne (ne b _ e)];exact e) (fun b ps e=>⟨#[],by rw[upd_ne (ne b _ e),e];simp⟩) (fun m hm => ?_) (fun b u e => ?_) I.bare
 ·obtain⟨_,a1,_,a2,a3,a4⟩:=hf b hb
  exact⟨a2,a1,a3,a4⟩
 ·obtain⟨o,es,ep,ho,r⟩:=hm
  exact⟨o,es,ep,k _ o hL ho,r⟩
 ·by_cases z:b=q
  ·subst z
   rw[zz1]at e
   cases e
   exact new
  ·rw[upd_ne z]at e
   refine (I.hok b u e).stay (fun c v hc q=>k c v ?_ q) (fun c q => ?_) fun c o q => ?_
   ·rcases hc with z | z
    ·rw[z];exact nit b u e
    ·exact nit c _ z
   ·rw[upd_ne (ne c _ q)];exact q
   ·rw[upd_ne (ne c _ q)];exact q
end
section
variable {X:Cx}
end
section
variable {K:Wf}{k:Nat}{fm:List Nat}{te:TE}{ta:TA}{g:TG}{tt:TT}{σ σ0:St}{H H1:Hp}{Q:VK}
end
end L2
namespace L2
open PySem PySem.Spec PyProof.Rows
noncomputable def Ite (K:Wf) (a:Addr):It:=
 ⟨fun i H => ∃ xs x, SqL K H a xs ∧ xs[i]? = some x,
  fun i H v H'=>∃q x,v=.ref q∧H q=none∧(∀xs,SqL K H a xs→xs[i]?=some x)∧H'=upd H q (.tup [.int i,x]),
  fun i H=>∃xs,SqL K H a xs∧xs.length≤i⟩
def Te (e it l:Addr) (i:Nat) (h:Heap):Prop:=(∃old,IsEnum h e it i old)∧h.IsListIter it l i
theorem turn_enum {P:Program}{w:World}{K:Wf}{elts:List Expr}{x1} {pos:Pos}{e it:Addr}(l:Addr) (f:e≠it):Turn P w K (.Tuple elts x1 pos) (Ite K l) [e,it] e (Te e it l) where
 mem:=by simp
 obj:=fun i h st b hb=>by
  obtain⟨⟨old,t1⟩,⟨o4,t4,c4,d4⟩⟩:=st
  simp only[List.mem_cons,List.not_mem_nil,or_false]at hb
  rcases hb with rfl | rfl
  ·exact⟨_,t1,fun v q=>by cases q⟩
  ·exact⟨_,t4,fun v q=>by rw[d4]at q;cases q⟩
 keep:=fun i h h' st k=>by
  obtain⟨⟨old,t1⟩,t4⟩:=st
  exact⟨⟨old,k e (by simp) _ t1⟩,t4.at fun o q=>k it (by simp) o q⟩
 item:=by
  intro X hP hw hK hc i pins s σ H E I hf st hg
  subst hP hw hK
  obtain⟨xs,x,q1,hx⟩:=hg
  obtain⟨its1,rv1,p1,_⟩:=I.list q1
  obtain⟨u,hu,ru⟩:=rv1.get hx
  obtain⟨⟨old,t1⟩,t4⟩:=id st
  have lt:∀b∈[e,it],b<s.heap.objs.size:=fun b hb=>by
   simp only[List.mem_cons,List.not_mem_nil,or_false]at hb
   rcases hb with rfl | rfl
   ·exact Heap.lt_size t1
   ·obtain⟨_,q,_⟩:=t4;exact Heap.lt_size q
  refine wpAny_pyNext_enum_item t1 t4 p1.isList (x:=u) (by simpa using hu) f fun h' z' i1' pr sz kp=>⟨.ref s.heap.objs.size,rfl,?_⟩
  refine wpAny_letOwnedTupleGo_enum z' fun h'' z'' sb => ?_
  have nz:s.heap.objs.size≠e:=Nat.ne_of_gt (lt e (by simp))
  have kk:∀b o,b∉[e,it]→s.heap.get? b=some o→h''.get? b=some o:=fun b o nb q=>by
   simp only[List.mem_cons,List.not_mem_nil,or_false,not_or]at nb
   exact (sb.2 b nb.1).trans (kp b o nb.1 nb.2 q)
  have new:IsTup h'' s.heap.objs.size #[.int i s.toks,u]:=⟨_,(sb.2 _ nz).trans pr,rfl,0,rfl⟩
  refine⟨.ref s.heap.objs.size,_,I.turnedT (q:=s.heap.objs.size) (xs:=[.int i,x]) (t':=s.toks+1) kk hf (Nat.le_refl _) ⟨by rw[sizeLine_eq];exact (by decide:(2:Nat)≤16777216),[_,u],.cons ⟨_,rfl⟩ (.cons ru .nil),new⟩,rfl,⟨_,x,rfl,I.hok.fresh (Nat.le_refl _),fun zs hz=>by rw[I.list_inj hz q1];exact hx,rfl⟩,?_,fun b hb => ?_⟩
  ·exact ⟨⟨_, by have : ((i + 1 : Nat) : Int) = (i : Int) + 1 := by push_cast; rfl
                 rw[this];exact z''⟩,i1'.at fun o q=>(sb.2 _ (Ne.symm f)).trans q⟩
  ·rw[upd_ne (Nat.ne_of_lt (lt b hb))];exact (hf b hb).1
 done:=by
  intro X hP hw hK hc i pins s σ H E I hf st hg
  subst hP hw hK
  obtain⟨xs,q1,hx⟩:=hg
  obtain⟨its1,rv1,p1,_⟩:=I.list q1
  obtain⟨⟨old,t1⟩,t4⟩:=id st
  have e1:=rv1.length
  refine wpAny_pyNext_enum_end (I.ok.hd hc) t1 t4 p1.isList (by simp;omega) fun h' kp=>⟨rfl,I.turnedL (t':=s.toks) (fun b o nb q => ?_) hf⟩
  simp only[List.mem_cons,List.not_mem_nil,or_false,not_or]at nb
  exact kp b o nb.2 q
 self:=fun _ _ _ _ _ st h=>by
  obtain⟨⟨old,t1⟩,_⟩:=st
  exact wpAny_pyIter_enum t1 h
section
variable {X:Cx}
theorem boot_enumerate:bootBuiltins "enumerate" = some (.type "enumerate"):=by decide +kernel
def iEnum (K:Wf) (ta:TA):TI:=fun σ H R=>ta σ H fun vs H1=>∃a xs,vs=[.ref a]∧SqL K H1 a xs∧R (Ite K a) H1
theorem pi_enum {K:Wf}(eK:X.K=K) {elts:List Expr}{x1} {tp:Pos}{a:Expr}{ta:TA}{p pos:Pos}(hg:Gl X "enumerate") (hm:X.mg "enumerate" = none) (ha:PA X [a] ta) (hs:starEach [a] X.env=[(false,eval a X.env)]:=by rfl):
  PI X (.Tuple elts x1 tp) (.Call (.Name "enumerate" p) [a] [] pos) (iEnum K ta):=by
 subst eK
 intro pins s σ H R I h
 refine Call_ (ld_blt I hg hm boot_enumerate (PyProof.Rows.callWith_type1 (thn (ha pos pins s σ H _ I h) fun us s1 ⟨vs,H1,I1,r1,q1⟩ => ?_) (by rw[hs];rfl) (by rfl)))
 obtain⟨l1,xs,e,h1,q⟩:=q1
 subst e
 cases r1 with
 | cons r rr=>
  cases rr
  cases r
  obtain⟨its1,rv1,p1,_⟩:=I1.list h1
  refine call_enumerate_list p1.isList fun h' z j1 sz kp => ?_
  have I2:=I1.kept (h':=h') (t':=s1.toks) kp
  refine wpAny_pyIter_enum z ?_
  refine⟨_,_,_,_,H1,rfl,I2,turn_enum l1 (Nat.succ_ne_self _),⟨⟨_,z⟩,j1⟩,fun b hb => ?_,q⟩
  have lb:s1.heap.objs.size≤b:=by
   simp only[List.mem_cons,List.not_mem_nil,or_false]at hb
   rcases hb with rfl | rfl
   ·exact Nat.le_add_right _ 1
   ·exact Nat.le_refl _
  exact I1.fpOk lb (I1.hok.fresh lb)
end
noncomputable def ForE (K:Wf) (g:TG) (tb:TS) (D:Ends) (σ:St):List V→Hp→Prop:=fun vs H1=>∃a xs,vs=[.ref a]∧SqL K H1 a xs∧ForW g tb D σ (Ite K a) H1
section
variable {K:Wf}{te:TE}{ta:TA}{g:TG}{tb:TS}{D:Ends}{σ:St}{H:Hp}
theorem tFor_enum:tFor (iEnum K ta) g tb D σ H=ta σ H (ForE K g tb D σ):=rfl
theorem ForE.of {a:Addr}{xs:List V}(Pv:Nat→St→Hp→Prop) (h0:Pv 0 σ H) (hl:∀i σ H,i≤xs.length→Pv i σ H→SqL K H a xs)
  (hs:∀i x σ H q,xs[i]?=some x→Pv i σ H→H q=none→g (.ref q) σ (upd H q (.tup [.int i,x])) fun σ2 H2=>tb { D with nx:=Pv (i+1),ct:=Pv (i+1),bk:=D.nx } σ2 H2) (hd:∀σ H,Pv xs.length σ H→D.nx σ H):ForE K g tb D σ [.ref a] H:=by
 refine⟨a,xs,rfl,hl 0 _ _ (Nat.zero_le _) h0,fun i m σ H=>m=xs.length - i∧i≤xs.length∧Pv i σ H,⟨xs.length,by simp,Nat.zero_le _,h0⟩,?_⟩
 rintro i m σ H ⟨rfl,hi,p⟩
 have q:=hl i σ H hi p
 by_cases hlt:i<xs.length
 ·refine .inr ⟨⟨xs,xs[i],q,by simp[hlt]⟩,Pv (i+1),fun σ' H' p'=>⟨xs.length - (i+1),by omega,rfl,hlt,p'⟩,fun x H' y => ?_⟩
  obtain⟨b,u,rfl,nb,y,rfl⟩:=y
  exact hs i u σ H b (y xs q) p nb
 ·have e:i=xs.length:=by omega
  subst e
  exact .inl ⟨⟨xs,q,Nat.le_refl _⟩,hd σ H p⟩
end
end L2
namespace L2
open PySem PySem.Spec PyProof.Rows
section
variable {X:Cx}
end
section
variable {te:TE}{g:TG}{tb:TS}{D:Ends}{σ:St}{H:Hp}
end
end L2
namespace L2
open PySem PySem.Spec PyProof.Rows
theorem vals_strs:∀l:List (Str×Tok),Vals ((l.map (·.1)).map V.str) (strValues l)
 | []=>.nil
 | p::r=>.cons ⟨p.2,rfl⟩ (vals_strs r)
theorem join_len (sep:Str):∀ps:List Str,(ps.length - 1) * sep.length≤(Str.join sep ps).length
 | []=>by simp
 | [x]=>by simp
 | x::y::r=>by
  have h:=join_len sep (y::r)
  show _≤(x++sep++Str.join sep (y::r)).length
  rw[Str.length_append,Str.length_append]
  simp only[List.length_cons,Nat.add_sub_cancel]at h ⊢
  rw[Nat.succ_mul]
  omega
theorem split_len (x y:Str) (hy:1≤y.length):(Txt.split x y).length≤x.length+1:=by
 have h:=join_len y (Txt.split x y)
 rw[StrLaws.join_split]at h
 have:(Txt.split x y).length - 1≤((Txt.split x y).length - 1) * y.length:=Nat.le_mul_of_pos_right _ hy
 omega
section
variable {X:Cx}
noncomputable def rSplit:V→List V→Hp→VK→Prop:=fun x vs H Q=>∃z y,x=.str z∧vs=[.str y]∧1≤y.length∧z.length<sizeLine∧∀l,H l=none→Q (.ref l) (upd H l (.lst ((Txt.split z y).map V.str)))
theorem mt_split:MtM X "str.split" rSplit:=by
 intro pins s σ H x vs v us Q I rx rv h
 obtain⟨z,y,rfl,rfl,hy1,hz,q⟩:=h
 obtain⟨t,rfl⟩:=rx
 obtain⟨u,rfl,ru⟩:=rv.one
 obtain⟨u,rfl⟩:=ru
 have hy:(y.length == 0)=false:=by simp;omega
 have hlen:=split_len z y hy1
 have fin:∀(l:List (Str×Tok)) (k:Nat),l.map (·.1)=Txt.split z y→EP X pins σ Q (.ref s.heap.objs.size) { s with heap:=s.heap.push { cls:=.type "list", data:=.seq (strValues l).toArray },toks:=k }:=fun l k e=>by
  have hv:=vals_strs l
  rw[e]at hv
  exact⟨.ref s.heap.objs.size,_,I.lnew hv (by rw[List.length_map];omega),rfl,q _ I.fresh⟩
 cases h1:(decide (z.length<y.length) || decide (Builtin.Str.strKind z<Builtin.Str.strKind y))
 ·cases hf:(Builtin.Str.occurrences z y 0 z.length (z.length+1)).isEmpty
  ·have es:Txt.split z y=Builtin.Str.partsBetween z (Builtin.Str.occurrences z y 0 z.length (z.length+1)) y.length:=(if_neg (ne_true_of_eq_false h1)).trans (if_neg (ne_true_of_eq_false hf))
   refine call_meets F.slot_str_split (typeIs_str _ _ _) F.entry_str_split (F.args_str_split_2 _ _) (meets_str_split_sep z y t u h1 hy hf (by omega) (by rw[←es];omega)) ?_
   show wants _ _ _ { s with toks:=_,heap:=s.heap.push { cls:=.type "list", data:=.seq (strsFrom s.toks (Builtin.Str.partsBetween z (Builtin.Str.occurrences z y 0 z.length (z.length+1)) y.length)).toArray } }
   rw[strsFrom_eq]
   exact fin (numbered s.toks _) _ ((numbered_texts _ _).trans es.symm)
  ·exact call_meets F.slot_str_split (typeIs_str _ _ _) F.entry_str_split (F.args_str_split_2 _ _) (meets_str_split_not_found z y t u h1 hy hf)
    (fin [(z,t)] s.toks ((if_neg (ne_true_of_eq_false h1)).trans (if_pos hf)).symm)
 ·exact call_meets F.slot_str_split (typeIs_str _ _ _) F.entry_str_split (F.args_str_split_2 _ _) (meets_str_split_cannot_occur z y t u h1)
   (fin [(z,t)] s.toks (if_pos h1).symm)
end
theorem cut_one {c:Nat}:∀{a b u v:List Nat},c∉a→c∉b→a++c::u=b++c::v→a=b∧u=v
 | [],[],_,_,_,_,h=>⟨rfl,(List.cons.inj h).2⟩
 | [],x::b,_,_,_,hb,h=>absurd (by rw[(List.cons.inj h).1];exact List.mem_cons_self) hb
 | x::a,[],_,_,ha,_,h=>absurd (by rw[←(List.cons.inj h).1];exact List.mem_cons_self) ha
 | x::a,y::b,_,_,ha,hb,h=>by
  have h:=List.cons.inj h
  obtain⟨e1,e2⟩:=cut_one (fun z=>ha (List.mem_cons_of_mem _ z)) (fun z=>hb (List.mem_cons_of_mem _ z)) h.2
  exact⟨by rw[h.1,e1],e2⟩
theorem str_ext {x y:Str}(h:x.cps.toList=y.cps.toList):x=y:=
 PySem.Str.ext' (Array.toList_inj.mp h)
theorem join_cps (c:Nat) (x y:Str) (r:List Str):(Str.join ⟨#[c]⟩ (x::y::r)).cps.toList=x.cps.toList++c::(Str.join ⟨#[c]⟩ (y::r)).cps.toList:=by
 show (x.cps++#[c]++(Str.join ⟨#[c]⟩ (y::r)).cps).toList=_
 simp
theorem join_inj {c:Nat}:∀{ps qs:List Str},ps≠[]→qs≠[]→(∀p∈ps,c∉p.cps.toList)→(∀p∈qs,c∉p.cps.toList)→Str.join ⟨#[c]⟩ ps=Str.join ⟨#[c]⟩ qs→ps=qs
 | [],_,h,_,_,_,_=>absurd rfl h
 | _,[],_,h,_,_,_=>absurd rfl h
 | [x],[y],_,_,_,_,h=>by rw[show x=y from h]
 | [x],y::z::r,_,_,hp,_,h=>by
  have e:(Str.join ⟨#[c]⟩ [x]).cps.toList=(Str.join ⟨#[c]⟩ (y::z::r)).cps.toList:=by rw[h]
  rw[join_cps]at e
  exact absurd (by rw[show x.cps.toList=_ from e];simp) (hp x List.mem_cons_self)
 | x::z::r,[y],_,_,_,hq,h=>by
  have e:(Str.join ⟨#[c]⟩ (x::z::r)).cps.toList=(Str.join ⟨#[c]⟩ [y]).cps.toList:=by rw[h]
  rw[join_cps]at e
  exact absurd (by rw[←show _=y.cps.toList from e];simp) (hq y List.mem_cons_self)
 | x::x2::r,y::y2::q,_,_,hp,hq,h=>by
  have e:(Str.join ⟨#[c]⟩ (x::x2::r)).cps.toList=(Str.join ⟨#[c]⟩ (y::y2::q)).cps.toList:=by rw[h]
  rw[join_cps,join_cps]at e
  obtain⟨e1,e2⟩:=cut_one (hp x List.mem_cons_self) (hq y List.mem_cons_self) e
  rw[str_ext e1,join_inj (ps:=x2::r) (qs:=y2::q) (by simp) (by simp) (fun p h=>hp p (List.mem_cons_of_mem _ h)) (fun p h=>hq p (List.mem_cons_of_mem _ h)) (str_ext e2)]
theorem split_join {c:Nat}{ps:List Str}(hn:ps≠[]) (h:∀p∈ps,c∉p.cps.toList):Txt.split (Txt.join ⟨#[c]⟩ ps) ⟨#[c]⟩=ps:=by
 show Txt.split (Builtin.Str.glued ⟨#[c]⟩ ps) ⟨#[c]⟩=ps
 rw[StrLaws.glued_eq_join]
 refine join_inj ?_ hn (StrLaws.split_free _ c) h (StrLaws.join_split _ _)
 intro e
 unfold Txt.split at e
 split at e
 ·cases e
 ·split at e
  ·cases e
  ·unfold Builtin.Str.partsBetween at e
   simp at e
end L2
namespace L2
open PySem PySem.Spec PyProof.Rows
noncomputable def occ (j i:Str):Bool := !(Builtin.Str.occurrences j i 0 j.length 1).isEmpty
noncomputable abbrev dig (c:Nat):Bool:=occ "0123456789" ⟨#[c]⟩
noncomputable def figs (z:Str):List Nat:=if Txt.startswith z "-" then z.cps.toList.drop 1 else z.cps.toList
noncomputable def valD (cs:List Nat):Nat:=cs.foldl (fun acc c=>acc * 10+(c - 48)) 0
noncomputable def numF (z:Str) (lo hi:Int):V:=
 if (figs z).length=0∨10<(figs z).length∨(figs z).all dig=false∨((figs z).take 1=[48]∧z≠Str.ofString "0") then .non
 else if lo≤(if Txt.startswith z "-" then -((valD (figs z):Nat):Int) else ((valD (figs z):Nat):Int))∧(if Txt.startswith z "-" then -((valD (figs z):Nat):Int) else ((valD (figs z):Nat):Int))≤hi
 then .int (if Txt.startswith z "-" then -((valD (figs z):Nat):Int) else ((valD (figs z):Nat):Int)) else .non
theorem occNil {x y:Str}{lim:Nat}(h:∀i,i+y.length≤x.length→Builtin.Str.subAt x y i=false):Builtin.Str.occurrences x y 0 x.length lim=[]:=PySem.W.occ_nil_of_no x y lim h
theorem lenL (z:Str):z.cps.toList.length=z.length:=Array.length_toList
theorem nilOf {z:Str}(h:z.length=0):z.cps.toList=[]:=List.eq_nil_of_length_eq_zero (by rw[lenL];exact h)
theorem sl_from1 (z:Str):(Txt.slice z (some 1) none).cps.toList=z.cps.toList.drop 1:=by
 by_cases h:1≤z.length
 ·have e:=PyProof.Rows.slice_from_eq (x:=z) (i:=1) (b:=(z.length:Int)) (by decide) (by omega) rfl
  rw[e]
  show List.take ((z.length:Int) - 1).toNat (List.drop 1 z.cps.toList)=_
  exact List.take_of_length_le (by rw[List.length_drop,lenL];omega)
 ·have h1:=Txt.slice_le z (some 1) none
  rw[nilOf (z:=Txt.slice z (some 1) none) (by omega),nilOf (z:=z) (by omega)];rfl
theorem zero_list:(Str.ofString "0").cps.toList=[48]:=by decide +kernel
theorem starts_iff (z:Str):Txt.startswith z (Str.ofString "-")=decide (z.cps.toList.take 1=[45]):=by
 unfold Txt.startswith Builtin.Str.subAt
 have hl:(Str.ofString "-").length=1:=by decide +kernel
 have hc:(Str.ofString "-").cps=#[45]:=by decide +kernel
 rw[hl,hc]
 have e:z.cps.extract 0 (0+1)=(z.cps.toList.take 1).toArray:=by
  refine Array.ext' ?_
  rw[Array.toList_extract]
  rfl
 rw[e]
 have e2:((z.cps.toList.take 1).toArray == #[45])=decide (z.cps.toList.take 1=[45]):=by
  by_cases h:z.cps.toList.take 1=[45]
  ·rw[h];rfl
  ·rw[decide_eq_false h]
   refine beq_eq_false_iff_ne.mpr fun q=>h ?_
   have:=congrArg Array.toList q
   simpa using this
 rw[e2]
 by_cases h:z.cps.toList.take 1=[45]
 ·have:1≤z.length:=by
   have q:=congrArg List.length h
   rw[List.length_take,lenL]at q
   simp at q;omega
  rw[decide_eq_true h]
  simp;omega
 ·rw[decide_eq_false h];simp
theorem occ_digit (c:Nat) (h:48≤c∧c≤57):Builtin.Str.occurrences (Str.ofString "0123456789") ⟨#[c]⟩ 0 (Str.ofString "0123456789").length 1=[c - 48]:=by
 have:c=48∨c=49∨c=50∨c=51∨c=52∨c=53∨c=54∨c=55∨c=56∨c=57:=by omega
 rcases this with e | e | e | e | e | e | e | e | e | e<;>subst e<;>decide +kernel
theorem occ_other (c:Nat) (h:¬(48≤c∧c≤57)):Builtin.Str.occurrences (Str.ofString "0123456789") ⟨#[c]⟩ 0 (Str.ofString "0123456789").length 1=[]:=by
 refine occNil fun i hi => ?_
 have hl:(Str.ofString "0123456789").length=10:=by decide +kernel
 have h1:(⟨#[c]⟩:Str).length=1:=rfl
 rw[hl,h1]at hi
 have hx:(Str.ofString "0123456789").cps=#[48,49,50,51,52,53,54,55,56,57]:=by decide +kernel
 unfold Builtin.Str.subAt
 rw[hx,h1]
 have:i=0∨i=1∨i=2∨i=3∨i=4∨i=5∨i=6∨i=7∨i=8∨i=9:=by omega
 refine beq_eq_false_iff_ne.mpr fun q=>h ?_
 rcases this with e | e | e | e | e | e | e | e | e | e<;>subst e<;>(
  have q2:=congrArg Array.toList q
  simp at q2
  omega)
theorem dig_iff (c:Nat):dig c=decide (48≤c∧c≤57):=by
 unfold dig occ
 by_cases h:48≤c∧c≤57
 ·rw[occ_digit c h,decide_eq_true h];rfl
 ·rw[occ_other c h,decide_eq_false h];rfl
theorem all_dig {cs:List Nat}(h:cs.all dig=true):PySem.NumText.AllDigits cs:=fun c hc=>by
 have:=List.all_eq_true.mp h c hc
 rw[dig_iff]at this
 exact of_decide_eq_true this
theorem sign_zero (x:Nat):decide ((⟨#[x]⟩:Str)=Str.ofString "0")=decide (x=48):=by
 by_cases h:x=48
 ·subst h;decide +kernel
 ·rw[decide_eq_false h,decide_eq_false]
  intro q
  have:=congrArg (fun s:Str=>s.cps.toList) q
  rw[zero_list]at this
  simp at this
  exact h this
theorem first_at {cs:List Nat}(h:cs≠[]):∃x,atI cs 0=some x∧cs.take 1=[x]:=by
 cases cs with
 | nil=>exact absurd rfl h
 | cons c r=>exact⟨c,atI_nat (j:=0) (by simp),by simp⟩
theorem signsOf (t:String):(Str.ofString t).cps.toList=List.map Char.toNat t.toList:=by
 open PySem PySem.W PyProof.Rows in exact signs_ofString t
theorem numF_non1 {z:Str}{lo hi:Int}(h:figs z=[]):numF z lo hi=.non:=by unfold numF;rw[if_pos (Or.inl (by rw[h];rfl))]
theorem numF_non2 {z:Str}{lo hi:Int}(h:10<(figs z).length):numF z lo hi=.non:=by unfold numF;rw[if_pos (Or.inr (Or.inl h))]
theorem numF_non3 {z:Str}{lo hi:Int}(h:(figs z).all dig=false):numF z lo hi=.non:=by unfold numF;rw[if_pos (Or.inr (Or.inr (Or.inl h)))]
theorem numF_non4 {z:Str}{lo hi:Int}(h:(figs z).take 1=[48]) (h':z≠Str.ofString "0"):numF z lo hi=.non:=by unfold numF;rw[if_pos (Or.inr (Or.inr (Or.inr ⟨h,h'⟩)))]
noncomputable def valS (z:Str):Int:=if Txt.startswith z "-" then -((valD (figs z):Nat):Int) else ((valD (figs z):Nat):Int)
theorem numF_val {z:Str}{lo hi:Int}(h1:figs z≠[]) (h2:(figs z).length≤10) (h3:(figs z).all dig=true) (h4:¬((figs z).take 1=[48]∧z≠Str.ofString "0")):
  numF z lo hi=if lo≤valS z∧valS z≤hi then .int (valS z) else .non:=by
 unfold numF
 rw[if_neg]
 ·rfl
 ·rintro (h | h | h | h)
  ·exact h1 (List.eq_nil_of_length_eq_zero h)
  ·omega
  ·rw[h3]at h;cases h
  ·exact h4 h
theorem take_snocN {l:List Nat}{i:Nat}{c:Nat}(h:l[i]?=some c):l.take (i+1)=l.take i++[c]:=by
 rw[List.take_succ,h];rfl
theorem getL {z:Str}{i c:Nat}(h:z.cps[i]?=some c):z.cps.toList[i]?=some c:=by rw[Array.getElem?_toList];exact h
theorem take_all (z:Str):z.cps.toList.take z.cps.size=z.cps.toList:=List.take_of_length_le (Nat.le_of_eq Array.length_toList)
theorem intDigits {x:Str}(h:PySem.NumText.AllDigits x.cps.toList) (h1:x.cps.toList≠[]) (h2:x.length≤4300):PySem.intText? x=some ((valD x.cps.toList:Nat):Int):=by
 open PySem PySem.W PySem.NumText in exact intText_digits h h1 h2
theorem int_text {z:Str}(hz:z.length≤600) (hne:figs z≠[]) (hv:(figs z).all dig=true):PySem.intText? z=some (valS z):=by
 have ha:=all_dig hv
 unfold valS
 cases hs:Txt.startswith z "-" with
 | true=>
  have ht:z.cps.toList.take 1=[45]:=by
   have:=starts_iff z
   rw[show Txt.startswith z (Str.ofString "-")=true from hs]at this
   exact of_decide_eq_true this.symm
  have hf:figs z=z.cps.toList.drop 1:=by unfold figs;rw[hs,if_pos rfl]
  have hx:z.cps.toList=45::figs z:=by
   have:=List.take_append_drop 1 z.cps.toList
   rw[ht,←hf]at this
   exact this.symm
  have:=PySem.intText_neg hx ha hne (by omega)
  rw[if_pos rfl]
  exact this
 | false=>
  have hf:figs z=z.cps.toList:=by unfold figs;rw[hs,if_neg (by decide)]
  rw[hf]at ha hne
  have:=intDigits ha hne (by omega)
  rw[if_neg (by decide),hf]
  exact this
theorem num_end {z:Str}{lo hi:Int}{H:Hp}{Q:VK}(hne:figs z≠[]) (hle:(figs z).length≤10) (hv:(figs z).all dig=true) (hq:¬((figs z).take 1=[48]∧z≠Str.ofString "0")) (k:Q (numF z lo hi) H):
  if decide (lo≤valS z)=true then if decide (valS z≤hi)=true then Q (V.int (valS z)) H else Q V.non H else Q V.non H:=by
 rw[numF_val hne hle hv hq]at k
 refine ite2 (fun a=>ite2 (fun b => ?_) (fun b => ?_)) (fun a => ?_)
 ·rw[if_pos ⟨of_decide_eq_true a,of_decide_eq_true b⟩]at k
  exact k
 ·have b:¬valS z≤hi:=of_decide_eq_false (by simpa using b)
  rw[if_neg (fun q=>b q.2)]at k
  exact k
 ·have a:¬lo≤valS z:=of_decide_eq_false (by simpa using a)
  rw[if_neg (fun q=>a q.1)]at k
  exact k
theorem numF_int {z:Str}{lo hi:Int}(h:numF z lo hi≠.non):∃n,numF z lo hi=.int n:=by
 have e:numF z lo hi=if (figs z).length=0∨10<(figs z).length∨(figs z).all dig=false∨((figs z).take 1=[48]∧z≠Str.ofString "0") then .non
  else if lo≤valS z∧valS z≤hi then .int (valS z) else .non:=rfl
 rw[e]at h ⊢
 by_cases c1:(figs z).length=0∨10<(figs z).length∨(figs z).all dig=false∨((figs z).take 1=[48]∧z≠Str.ofString "0")
 ·rw[if_pos c1]at h;exact absurd rfl h
 ·rw[if_neg c1]at h ⊢
  by_cases c2:lo≤valS z∧valS z≤hi
  ·rw[if_pos c2];exact⟨_,rfl⟩
  ·rw[if_neg c2]at h;exact absurd rfl h
theorem figs_pos {z:Str}(h:z.cps.toList.take 1≠[45]):figs z=z.cps.toList∧valS z=((valD z.cps.toList:Nat):Int):=by
 have e:Txt.startswith z "-" = false:=by
  have:=starts_iff z
  rw[decide_eq_false h]at this
  exact this
 have e1:figs z=z.cps.toList:=by unfold figs;rw[e,if_neg (by decide)]
 exact⟨e1,by unfold valS;rw[e,if_neg (by decide),e1]⟩
theorem figs_neg {z:Str}{cs:List Nat}(h:z.cps.toList=45::cs):figs z=cs∧valS z = -((valD cs:Nat):Int):=by
 have e:Txt.startswith z "-" = true:=by
  have:=starts_iff z
  rw[h]at this
  exact this
 have e1:figs z=cs:=by unfold figs;rw[e,if_pos rfl,h];rfl
 exact⟨e1,by unfold valS;rw[e,if_pos rfl,e1]⟩
noncomputable def dgs (m:Nat):List Nat:=(Nat.toDigits 10 m).map Char.toNat
theorem dgs_val (m:Nat):valD (dgs m)=m:=PySem.W.KIN.val_back m
theorem dgs_ne (m:Nat):dgs m≠[]:=fun e=>Nat.toDigits_ne_nil (List.map_eq_nil_iff.mp e)
theorem dgs_rng {m c:Nat}(h:c∈dgs m):48≤c∧c≤57:=by
 obtain⟨ch,hch,e⟩:=List.mem_map.mp h
 have r:=digit_range (Nat.isDigit_of_mem_toDigits (by decide) (by decide) hch)
 rw[←e]
 exact r
theorem dgs_dig (m:Nat):(dgs m).all dig=true:=List.all_eq_true.mpr fun c hc=>by rw[dig_iff];exact decide_eq_true (dgs_rng hc)
theorem dgs_len {m:Nat}(h:m<10 ^ 10):(dgs m).length≤10:=by
 unfold dgs
 rw[List.length_map]
 exact (Nat.length_toDigits_le_iff (b:=10) (k:=10) (by decide) (by decide)).mpr h
theorem dgs_first {m:Nat}(h:0<m):(dgs m).take 1≠[48]:=by
 induction m using Nat.strongRecOn with
 | _ m ih=>
  by_cases h10:m<10
  ·have:∀d:Nat,d<10→0<d→([Nat.digitChar d].map Char.toNat).take 1≠[48]:=by decide
   unfold dgs
   rw[Nat.toDigits_of_lt_base h10]
   exact this m h10 h
  ·have e:dgs m=dgs (m / 10)++[(Nat.digitChar (m % 10)).toNat]:=by
    unfold dgs
    rw[Nat.toDigits_of_base_le (by decide) (by omega),List.map_append]
    rfl
   have q:=ih (m / 10) (by omega) (by omega)
   rw[e,List.take_append_of_le_length (by have:=List.length_pos_iff.mpr (dgs_ne (m / 10));omega)]
   exact q
theorem sgn_pos (m:Nat):(Str.ofString (toString (m:Int))).cps.toList=dgs m:=PySem.W.KIN.signs_num m
theorem sgn_neg (m:Nat):(Str.ofString (toString (Int.negSucc m))).cps.toList=45::dgs (m+1):=by
 rw[signsOf]
 show ("-" ++ Nat.repr (m+1)).toList.map Char.toNat=_
 rw[String.toList_append,List.map_append,Nat.toList_repr]
 rfl
theorem numF_str {n lo hi:Int}(h1 : -9999999999≤n) (h2:n≤9999999999):numF (Str.ofString (toString n)) lo hi=if lo≤n∧n≤hi then .int n else .non:=by
 cases n with
 | ofNat m=>
  have em:(Str.ofString (toString (Int.ofNat m))).cps.toList=dgs m:=sgn_pos m
  have h2':(m:Int)≤9999999999:=h2
  have hm:m<10 ^ 10:=by omega
  obtain⟨e1,e2⟩:=figs_pos (z:=Str.ofString (toString (Int.ofNat m))) (by
   rw[em]
   cases hd:dgs m with
   | nil=>simp
   | cons c r=>
    intro e
    have:c=45:=by simpa using e
    have:=dgs_rng (m:=m) (c:=c) (by rw[hd];exact List.mem_cons_self)
    omega)
  rw[em]at e1 e2
  rw[dgs_val]at e2
  rw[numF_val (by rw[e1];exact dgs_ne m) (by rw[e1];exact dgs_len hm) (by rw[e1];exact dgs_dig m) (by
   rw[e1]
   rintro⟨z1,z2⟩
   by_cases z:0<m
   ·exact dgs_first z z1
   ·have:m=0:=by omega
    rw[this]at z2
    exact z2 rfl),e2]
  rfl
 | negSucc m=>
  have em:=sgn_neg m
  have hm:m+1<10 ^ 10:=by omega
  obtain⟨e1,e2⟩:=figs_neg em
  rw[dgs_val]at e2
  have e3:valS (Str.ofString (toString (Int.negSucc m)))=Int.negSucc m:=by rw[e2];rfl
  rw[numF_val (by rw[e1];exact dgs_ne _) (by rw[e1];exact dgs_len hm) (by rw[e1];exact dgs_dig _) (by
   rw[e1]
   rintro⟨z1,_⟩
   exact dgs_first (Nat.succ_pos m) z1),e3]
end L2
namespace L2
open PySem PySem.Spec PyProof.Rows
section
variable {M:Model}{A:Around}{E:Vs}{s:Shared}{env:Env}
theorem callWith_typeKw {pos:Pos}{T:String}{first:List Value}{args:List (Bool×Sem Value)}{kws:List (Option Str×Sem Value)}{Q:Vs}
  (hp:args.any (·.1)=false) (hk:kws.any (·.1.isNone)=false)
  (h:wpAny M A (evalArgs (.type T) true args kws) (fun a s₁=>wpAny M A (call (.type T) (first++a.pos) a.kw) Q E s₁) E s):
  wpAny M A (callWith pos (.type T) first args kws) Q E s:=by
 unfold callWith
 refine wpAny_bind (wpAny_holding (wpAny_mono h (fun a s₁ h₁=>wpAny_bind (wpAny_standAt ?_)) fun _ _ x=>x))
 simp only[hp,hk,Bool.or_false]
 refine wpAny_bind (wpAny_pure ?_)
 exact wpAny_bind (wpAny_mono h₁ (fun r s₂ hr=>wpAny_bind (wpAny_holding (wpAny_point (wpAny_pure hr)))) fun _ _ x=>x)
end
section
variable {prog:Program}{w:World}{A:Around}{E:Vs}{s:Shared}
theorem objInitKw {T newId:String}{self:Value}{rest:List Value}{kw:List (Str×Value)}(hl:typeLookup (.type T) "__init__" = pure (some (.builtin "object.__init__")))
  (hm:Bind.madeBy (.type T)=pure (some newId)) (hne:(some newId != some "object.__new__")=true) (a:Value):
  Meets (Builtin.«object.__init__» ⟨self::a::rest,kw⟩) (fun _ R s=>s.TypeIs self T∧R (.ok (.ret .none)) s):=by
 refine Meets.of_wp fun prog w A R s hs => ?_
 obtain⟨hT,hq⟩:=hs
 repeat (any_goals (first | assumption | wp_step))
 exact⟨_,rfl,hq⟩
theorem callType_newKw {T newId:String}{Bn:Builtin}{a:Value}{args:List Value}{kw:List (Str×Value)}{S:PySem.Spec}{Q:Vs}(ft:TypeCalled T newId "object.__init__")
  (hne:(some newId != some "object.__new__")=true) (hct:checkTypeCall T ⟨a::args,kw⟩=pure ()) (hcn:checkBuiltinCall newId ⟨.type T::a::args,kw⟩=pure ())
  (hok:∀obj,argsOk "object.__init__" ⟨obj::a::args,kw⟩) (entryN:entryFor table newId=some Bn) (g:Meets (Bn ⟨.type T::a::args,kw⟩) S)
  (h:S A.in1 (wants (fun obj s₁=>s₁.TypeIs obj T∧Q obj s₁) E) s):wpAny (model prog w) A (call (.type T) (a::args) kw) Q E s:=by
 obtain⟨c,tl,hmro⟩:=ft.mro
 have hmade:=ft.made
 have hsub:=ft.sub
 refine wpAny_call (codeAny_of_tree ?_)
 show wpAny _ _ (callAny (.type T) _) _ _ _
 refine wpAny_pure ⟨Code.quiet_builtin _ (by decide +kernel),codeAny_builtin F.entry_type_call ?_⟩
 rw[Around.under_plain (weight_type_call_type T (a::args) kw) (units_type_call_type T (a::args) kw)]
 have h1:=ft.notType
 have h2:=ft.canCreate
 repeat (any_goals (first | assumption | wp_step))
 refine codeAny_mono (codeAny_call_builtin ft.plain entryN (wpAny_of_eq hcn (g prog w A.in1 _ s h))) fun r s₁ hr => ?_
 cases r with
 | error e=>exact hr
 | ok fl=>
  cases fl with
  | ret obj=>
   obtain⟨hT,hq⟩:=hr
   have hli:=ft.init.lookup
   have hbi:=ft.init.bind obj
   repeat (any_goals (first | assumption | wp_step))
   refine codeAny_mono (codeAny_call_builtin ft.init.plain F.entry_object_init (ft.init.check _ _ _ _ _ _ _ _ hT (hok obj) ((objInitKw (kw:=kw) (rest:=args) ft.init.lookup ft.made hne a) prog w A.in1 (wants (fun r s₂=>r=.none∧Q obj s₂) E) s₁ ⟨hT,rfl,hq⟩))) fun r₂ s₂ hr₂ => ?_
   cases r₂ with
   | error e=>exact hr₂
   | ok fl₂=>
    cases fl₂ with
    | ret r=>
     obtain⟨rfl,hq⟩:=hr₂
     repeat (any_goals (first | assumption | wp_step))
    | _=>exact hr₂.elim
  | _=>exact hr.elim
theorem typeCall_enumS (a b:Value):checkTypeCall "enumerate" ⟨[a],[("start", b)]⟩=pure ():=by kernel_rfl
theorem newCall_enumS (a b:Value):checkBuiltinCall "enumerate.__new__" ⟨[.type "enumerate", a],[("start", b)]⟩=pure ():=by kernel_rfl
theorem meets_enumS (l:Addr) (items:Array Value) (n:Nat) (dct:Option Addr) (sl:Array (Option Value)) (t:Tok):
  Meets (Builtin.«enumerate.__new__» ⟨[.type "enumerate", .ref l],[("start", .int 1 t)]⟩) (fun _ R s=>s.heap.get? l=some { cls:=.type "list", dict:=dct,data:=.seq items n,slots:=sl }∧
   R (.ok (.ret (.ref (s.heap.push { cls:=.type "list_iterator", data:=.fields #[.ref l,.int 0 0] }).objs.size)))
    { s with heap:=(s.heap.push { cls:=.type "list_iterator", data:=.fields #[.ref l,.int 0 0] }).push { cls:=.type "enumerate", data:=.fields #[.none,.bool false,.ref s.heap.objs.size,rawInt 1,.none,.none] } }):=
 .of_wp fun prog w A R s h=>by
  obtain⟨hp,g,d,tk,os⟩:=s;obtain⟨hl,h⟩:=h
  have hsub:=sub_enumerate
  have hL:Heap.IsList (Shared.heap ⟨hp,g,d,tk,os⟩) l items:=⟨_,hl,rfl,n,rfl⟩
  wp_walk using AutoSeq1.wpAny_loadPart' hl
  refine wpAny_stack_any fun st=>wpAny_pure ?_
  split
  ·rename_i c _ _ _ _ _
   cases (c == Value.type "enumerate")
   ·wp_walk using AutoSeq1.wpAny_loadPart' hl,wpAny_pyIter_list hL
    exact⟨_,rfl,h⟩
   ·wp_walk using AutoSeq1.wpAny_loadPart' hl,wpAny_pyIter_list hL
    exact⟨_,rfl,h⟩
  ·wp_walk using AutoSeq1.wpAny_loadPart' hl,wpAny_pyIter_list hL
   exact⟨_,rfl,h⟩
end
end L2
namespace L2
open PySem PySem.Spec PyProof.Rows
section
variable {prog:Program}{w:World}{A:Around}{E:Vs}{s:Shared}
theorem args_objInitS (a b c:Value):argsOk "object.__init__" ⟨[a,b],[("start", c)]⟩:=by
 unfold argsOk;rw[signature?_of (id := "object.__init__") (n:=['_','_','t','i','n','i','_','_']) (o:=['t','c','e','j','b','o']) (by kernel_rfl) F.owner_object];kernel_rfl
theorem call_enumS {l:Addr}{items:Array Value}{t:Tok}{Q:Vs}(hL:s.heap.IsList l items)
  (h:∀h',IsEnum h' (s.heap.objs.size+1) s.heap.objs.size 1 .none→h'.IsListIter s.heap.objs.size l 0→(∀b o,s.heap.get? b=some o→h'.get? b=some o)→Q (.ref (s.heap.objs.size+1)) { s with heap:=h' }):
  wpAny (model prog w) A (call (.type "enumerate") [.ref l] [("start", .int 1 t)]) Q E s:=by
 obtain⟨⟨c,dct,dt,sl⟩,hl,hc,n,hd⟩:=hL
 replace hc:c=.type "list" := hc
 replace hd:dt=.seq items n:=hd
 subst hc hd
 refine callType_newKw F.called_enumerate (by decide) (typeCall_enumS _ _) (newCall_enumS _ _) (fun obj=>args_objInitS obj _ _) F.entry_enumerate_new (meets_enumS l items n dct sl t) ⟨hl,?_⟩
 have hz:(s.heap.push { cls:=.type "list_iterator", data:=.fields #[.ref l,.int 0 0] }).objs.size=s.heap.objs.size+1:=Heap.size_push ..
 show _∧_
 rw[hz]
 have he:IsEnum ((s.heap.push { cls:=.type "list_iterator", data:=.fields #[.ref l,.int 0 0] }).push
   { cls:=.type "enumerate", data:=.fields #[.none,.bool false,.ref s.heap.objs.size,rawInt 1,.none,.none] }) (s.heap.objs.size+1) s.heap.objs.size 1 .none:=by
  have:=Heap.get?_push_size (s.heap.push { cls:=.type "list_iterator", data:=.fields #[.ref l,.int 0 0] })
   (o:={ cls:=.type "enumerate", data:=.fields #[.none,.bool false,.ref s.heap.objs.size,rawInt 1,.none,.none] }) rfl
  rw[hz]at this;exact this
 exact⟨⟨_,he,rfl⟩,h _ he ⟨_,Heap.get?_push_of_some _ (Heap.get?_push_size _ rfl),rfl,rfl⟩ fun b o x=>Heap.get?_push_of_some _ (Heap.get?_push_of_some _ x)⟩
theorem draws_shift {it:Addr}{fp:List Addr}{n:Nat}{Pv:Nat→Value→Prop}{St:Nat→Heap→Prop}(D:Draws prog w A it fp n Pv St):
  Draws prog w A it fp (n+1) (fun k x=>∃j,k=j+1∧Pv j x) (fun k h=>∃j,k=j+1∧St j h) where
 live:=fun i h ⟨j,_,st⟩=>D.live j h st
 frame:=fun i h h' ⟨j,e,st⟩ k=>⟨j,e,D.frame j h h' st k⟩
 item:=fun i s Q E hi ⟨j,e,st⟩ k=>by
  subst e
  exact D.item j s Q E (by omega) st fun x h' tk p st' sb=>k x h' tk ⟨j,rfl,p⟩ ⟨j+1,rfl,st'⟩ sb
 done:=fun s Q E ⟨j,e,st⟩ k=>by
  have e:n=j:=by omega
  subst e
  exact D.done s Q E st k
end
section
variable {prog:Program}{w:World}{A:Around}{E:Vs}{s:Shared}
theorem wpAny_pyNext_enumS_end {e it l:Addr}{i:Nat}{k:Int}{items:Array Value}{old:Value}{Q:Option Value→Shared→Prop}(hh:A.handled=none)
  (he:IsEnum s.heap e it k old) (hit:s.heap.IsListIter it l i) (hl:s.heap.IsList l items) (hx:items[i]?=none)
  (hQ:∀h',Heap.ExtBut it s.heap h'→Q none { s with heap:=h' }):wpAny (model prog w) A (pyNext (.ref e)) Q E s:=by
 have hT:s.TypeIs (.ref e) "enumerate" := ⟨_,he,rfl⟩
 unfold pyNext
 refine wpAny_bind (wpAny_attempt (wpAny_callSpecial?_slot (name:=Str.ofString "__next__") hT F.slot_enumerate_next
  (wpAny_call_entry F.slot_enumerate_next hT F.entry_enumerate_next ?_ (F.args_enumerate_next_1 _))))
 show wpAny _ _ (field (.ref e) 2 >>= _) _ _ _
 refine wpAny_bind (wpAny_field he rfl (x:=.ref it) rfl ?_)
 refine wpAny_bind (wpAny_nextOf_list_end hh hit hl hx fun h' x he' hx' => ?_)
 obtain⟨o,ho,hc⟩:=hx'
 refine wpAny_bind (wpAny_isInstance (T := "StopIteration") (b:=true) ⟨o,ho,hc⟩ isSubtype_stop ?_)
 exact wpAny_pure (hQ _ he')
end
noncomputable def Ite1 (K:Wf) (a:Addr):It:=
 ⟨fun i H => ∃ xs x, SqL K H a xs ∧ xs[i]? = some x,
  fun i H v H'=>∃q x,v=.ref q∧H q=none∧(∀xs,SqL K H a xs→xs[i]?=some x)∧H'=upd H q (.tup [.int ((i+1:Nat):Int),x]),
  fun i H=>∃xs,SqL K H a xs∧xs.length≤i⟩
def Te1 (e it l:Addr) (i:Nat) (h:Heap):Prop:=(∃old,IsEnum h e it ((i+1:Nat):Int) old)∧h.IsListIter it l i
theorem turn_enum1 {P:Program}{w:World}{K:Wf}{elts:List Expr}{x1} {pos:Pos}{e it:Addr}(l:Addr) (f:e≠it):Turn P w K (.Tuple elts x1 pos) (Ite1 K l) [e,it] e (Te1 e it l) where
 mem:=by simp
 obj:=fun i h st b hb=>by
  obtain⟨⟨old,t1⟩,⟨o4,t4,c4,d4⟩⟩:=st
  simp only[List.mem_cons,List.not_mem_nil,or_false]at hb
  rcases hb with rfl | rfl
  ·exact⟨_,t1,fun v q=>by cases q⟩
  ·exact⟨_,t4,fun v q=>by rw[d4]at q;cases q⟩
 keep:=fun i h h' st k=>by
  obtain⟨⟨old,t1⟩,t4⟩:=st
  exact⟨⟨old,k e (by simp) _ t1⟩,t4.at fun o q=>k it (by simp) o q⟩
 item:=by
  intro X hP hw hK hc i pins s σ H E I hf st hg
  subst hP hw hK
  obtain⟨xs,x,q1,hx⟩:=hg
  obtain⟨its1,rv1,p1,_⟩:=I.list q1
  obtain⟨u,hu,ru⟩:=rv1.get hx
  obtain⟨⟨old,t1⟩,t4⟩:=id st
  have lt:∀b∈[e,it],b<s.heap.objs.size:=fun b hb=>by
   simp only[List.mem_cons,List.not_mem_nil,or_false]at hb
   rcases hb with rfl | rfl
   ·exact Heap.lt_size t1
   ·obtain⟨_,q,_⟩:=t4;exact Heap.lt_size q
  have nl:l≠it:=by
   rintro rfl
   obtain⟨o,a1,a2,_⟩:=p1.isList
   obtain⟨o',b1,b2,_⟩:=t4
   rw[a1]at b1;cases b1;rw[a2]at b2;exact absurd (Value.type.inj b2) (by decide)
  have ne:e≠l:=by
   rintro rfl
   obtain⟨o,a1,a2,_⟩:=p1.isList
   rw[show s.heap.get? e=_ from t1]at a1;cases a1;exact absurd (Value.type.inj a2) (by decide)
  have D:=draws_shift (Draws.list (prog:=X.prog) (w:=X.w) (A:=X.A.in1) (I.ok.hd hc) it l nl its1.toArray)
  refine wpAny_pyNext_enum_itemD D t1 ⟨i,rfl,t4,p1.isList⟩ (by have:=(List.getElem?_eq_some_iff.mp hu).1;simp;omega) f (by simp[f,ne]) fun x' h' tk hP z' i1' pr sz kp => ?_
  obtain⟨j,ej,hP⟩:=hP
  have ej:i=j:=by omega
  subst ej
  obtain⟨j2,ej2,i1',_⟩:=i1'
  have ej2:i+1=j2:=by omega
  subst ej2
  have ex:x'=u:=by
   have:its1.toArray[i]?=some u:=by simpa using hu
   rw[this]at hP;exact (Option.some.inj hP).symm
  subst ex
  refine⟨.ref s.heap.objs.size,rfl,?_⟩
  refine wpAny_letOwnedTupleGo_enum z' fun h'' z'' sb => ?_
  have nz:s.heap.objs.size≠e:=Nat.ne_of_gt (lt e (by simp))
  have kk:∀b o,b∉[e,it]→s.heap.get? b=some o→h''.get? b=some o:=fun b o nb q=>by
   simp only[List.mem_cons,List.not_mem_nil,or_false,not_or]at nb
   exact (sb.2 b nb.1).trans (kp b o nb.1 nb.2 q)
  have new:IsTup h'' s.heap.objs.size #[.int ((i+1:Nat):Int) tk,x']:=⟨_,(sb.2 _ nz).trans pr,rfl,0,rfl⟩
  refine⟨.ref s.heap.objs.size,_,I.turnedT (q:=s.heap.objs.size) (xs:=[.int ((i+1:Nat):Int),x]) (t':=tk+1) kk hf (Nat.le_refl _) ⟨by rw[sizeLine_eq];exact (by decide:(2:Nat)≤16777216),[_,x'],.cons ⟨_,rfl⟩ (.cons ru .nil),new⟩,rfl,⟨_,x,rfl,I.hok.fresh (Nat.le_refl _),fun zs hz=>by rw[I.list_inj hz q1];exact hx,rfl⟩,?_,fun b hb => ?_⟩
  ·exact ⟨⟨_, by have : ((i + 1 + 1 : Nat) : Int) = ((i + 1 : Nat) : Int) + 1 := by push_cast; rfl
                 rw[this];exact z''⟩,i1'.at fun o q=>(sb.2 _ (Ne.symm f)).trans q⟩
  ·rw[upd_ne (Nat.ne_of_lt (lt b hb))];exact (hf b hb).1
 done:=by
  intro X hP hw hK hc i pins s σ H E I hf st hg
  subst hP hw hK
  obtain⟨xs,q1,hx⟩:=hg
  obtain⟨its1,rv1,p1,_⟩:=I.list q1
  obtain⟨⟨old,t1⟩,t4⟩:=id st
  have e1:=rv1.length
  refine wpAny_pyNext_enumS_end (I.ok.hd hc) t1 t4 p1.isList (by simp;omega) fun h' kp=>⟨rfl,I.turnedL (t':=s.toks) (fun b o nb q => ?_) hf⟩
  simp only[List.mem_cons,List.not_mem_nil,or_false,not_or]at nb
  exact kp b o nb.2 q
 self:=fun _ _ _ _ _ st h=>by
  obtain⟨⟨old,t1⟩,_⟩:=st
  exact wpAny_pyIter_enum t1 h
section
variable {X:Cx}
def iEnum1 (K:Wf) (ta:TA):TI:=fun σ H R=>ta σ H fun vs H1=>∃a xs,vs=[.ref a]∧SqL K H1 a xs∧R (Ite1 K a) H1
theorem pi_enum1 {K:Wf}(eK:X.K=K) {elts:List Expr}{x1} {tp:Pos}{a:Expr}{ta:TA}{p pos kp cp:Pos}{j} (hg:Gl X "enumerate") (hm:X.mg "enumerate" = none) (ha:PA X [a] ta) (hs:starEach [a] X.env=[(false,eval a X.env)]:=by rfl):
  PI X (.Tuple elts x1 tp) (.Call (.Name "enumerate" p) [a] [⟨some "start", .Constant (.int 1) j cp,kp⟩] pos) (iEnum1 K ta):=by
 subst eK
 intro pins s σ H R I h
 refine wpAny_Call_Name_kw (ld_blt I hg hm boot_enumerate (callWith_typeKw (by rw[hs];rfl) rfl ?_))
 have key:=ha pos pins s σ H _ I h
 rw[hs]at key ⊢
 refine evalArgs_kwB (rest:=[]) rfl (thn key fun us s1 q0 => ?_)
 obtain⟨vs,H1,I1,r1,q1⟩:=q0
 obtain⟨l1,xs,e,h1,q⟩:=q1
 subst e
 cases r1 with
 | cons r rr=>
  cases rr
  cases r
  refine kws_cons (wpAny_Constant_int (kws_nil ?_))
  obtain⟨its1,rv1,p1,_⟩:=I1.list h1
  refine call_enumS p1.isList fun h' z j1 kp => ?_
  have I2:=I1.kept (h':=h') (t':=s1.toks+1) kp
  refine wpAny_pyIter_enum z ?_
  refine⟨_,_,_,_,H1,rfl,I2,turn_enum1 l1 (Nat.succ_ne_self _),⟨⟨_,z⟩,j1⟩,fun b hb => ?_,q⟩
  have lb:s1.heap.objs.size≤b:=by
   simp only[List.mem_cons,List.not_mem_nil,or_false]at hb
   rcases hb with rfl | rfl
   ·exact Nat.le_add_right _ 1
   ·exact Nat.le_refl _
  exact I1.fpOk lb (I1.hok.fresh lb)
end
noncomputable def ForE1 (K:Wf) (g:TG) (tb:TS) (D:Ends) (σ:St):List V→Hp→Prop:=fun vs H1=>∃a xs,vs=[.ref a]∧SqL K H1 a xs∧ForW g tb D σ (Ite1 K a) H1
section
variable {K:Wf}{te:TE}{ta:TA}{g:TG}{tb:TS}{D:Ends}{σ:St}{H:Hp}
theorem tFor_enum1:tFor (iEnum1 K ta) g tb D σ H=ta σ H (ForE1 K g tb D σ):=rfl
theorem ForE1.of {a:Addr}{xs:List V}(Pv:Nat→St→Hp→Prop) (h0:Pv 0 σ H) (hl:∀i σ H,i≤xs.length→Pv i σ H→SqL K H a xs)
  (hs:∀i x σ H q,xs[i]?=some x→Pv i σ H→H q=none→g (.ref q) σ (upd H q (.tup [.int ((i+1:Nat):Int),x])) fun σ2 H2=>tb { D with nx:=Pv (i+1),ct:=Pv (i+1),bk:=D.nx } σ2 H2) (hd:∀σ H,Pv xs.length σ H→D.nx σ H):ForE1 K g tb D σ [.ref a] H:=by
 refine⟨a,xs,rfl,hl 0 _ _ (Nat.zero_le _) h0,fun i m σ H=>m=xs.length - i∧i≤xs.length∧Pv i σ H,⟨xs.length,by simp,Nat.zero_le _,h0⟩,?_⟩
 rintro i m σ H ⟨rfl,hi,p⟩
 have q:=hl i σ H hi p
 by_cases hlt:i<xs.length
 ·refine .inr ⟨⟨xs,xs[i],q,by simp[hlt]⟩,Pv (i+1),fun σ' H' p'=>⟨xs.length - (i+1),by omega,rfl,hlt,p'⟩,fun x H' y => ?_⟩
  obtain⟨b,u,rfl,nb,y,rfl⟩:=y
  exact hs i u σ H b (y xs q) p nb
 ·have e:i=xs.length:=by omega
  subst e
  exact .inl ⟨⟨xs,q,Nat.le_refl _⟩,hd σ H p⟩
end
end L2
namespace L2
open PySem PySem.Spec PyProof.Rows
noncomputable def strE (w:World) (e:Str×Tok×Value):DictEntry:=⟨hashStr w e.1,.str e.1 e.2.1,e.2.2⟩
def KDict (w:World) (K:Wf) (a:Addr) (kvs:List (Key×V)):Prop:=
 (a == sysModules)=false∧∃(es:List (Str×Tok×Value)) (ep:Nat),K.lookup a=some ⟨.type "dict", none,.dict (es.map (strE w)).toArray ep,#[]⟩∧(es.map (·.1)).Nodup∧
  KV kvs (es.map fun e=>((Sum.inr e.1:Key),e.2.2))
theorem pairs_str (P:Program) (w:World):∀es:List (Str×Tok×Value),Pairs (mixKind P w) (es.map (strE w)) (es.map fun e=>((Sum.inr e.1:Key),e.2.2))
 | []=>.nil
 | e::r=>.cons (keyIs_str e.1 e.2.1) rfl (pairs_str P w r)
theorem KDict.dict {X:Cx}{pins:Lo}{σ:St}{H:Hp}{s:Shared}{a:Addr}{kvs:List (Key×V)}(I:Inv X pins σ H s) (h:KDict X.w X.K a kvs):
  ∃vs,KV kvs vs∧s.heap.DictOf (mixKind X.prog X.w) a vs:=by
 obtain⟨_,es,ep,hk,nd,rel⟩:=h
 refine⟨_,rel,_,_,_,I.kIn a _ hk,⟨rfl,rfl,rfl⟩,rfl,fun e he => ?_,?_,?_⟩
 ·obtain⟨q,hq,rfl⟩:=List.mem_map.mp (Array.mem_toList_iff.mpr he)
  exact⟨.inr q.1,keyIs_str q.1 q.2.1,rfl⟩
 ·exact pairs_str _ _ es
 ·rw[List.map_map]
  have:=List.Pairwise.map (S:=fun x y:Key=>x≠y) (fun x:Str=>(Sum.inr x:Key)) (fun x y z=>fun q=>z (Sum.inr.inj q)) nd
  rw[List.map_map]at this
  exact this
section
variable {X:Cx}{o e:Expr}{ty:TE}{a:Addr}{kvs:List (Key×V)}{apos cpos:Pos}
def tKGet (kvs:List (Key×V)) (ty:TE):TE:=fun σ H Q=>ty σ H fun y H2=>∃k,y=kV k∧Q ((valV kvs k).getD .non) H2
theorem pe_kget (ho:PE X o (tC (.ref a))) (hk:KDict X.w X.K a kvs) (he:PE X e ty) (m:M1 X o "get" apos e cpos):PE X (.Call (.Attribute o "get" apos) [e] [] cpos) (tKGet kvs ty):=by
 intro pins s σ H Q I h
 refine wpAny_Call_method m.base m.few m.line PySem.F.plainAttrs_dict PySem.F.slot_dict_get PySem.F.type_dict_get (thn (ho pins s σ H (fun v H'=>v=.ref a∧H'=H) I ⟨rfl,rfl⟩) fun u s1 q0 => ?_)
 obtain⟨x,H1,I1,rx,rfl,rfl⟩:=q0
 obtain rfl:u=Value.ref a:=rx
 obtain⟨vs,rel,dd⟩:=hk.dict I1
 refine⟨dd.typeIs,fun b q => ?_,?_⟩
 ·cases q
  obtain⟨ob,_,_,h1,h2,_⟩:=dd
  exact⟨ob,h1,h2.2.1⟩
 rw[m.trees]
 refine Calls.callWith_builtin rfl (Calls.evalArgs_plain (Calls.spliced_cons (thn (he pins s1 σ _ _ I1 h) fun iv s2 q0=>Calls.spliced_nil ?_)))
 obtain⟨y,H2,I2,ry,k,rfl,q2⟩:=q0
 obtain⟨vs,rel,dd⟩:=hk.dict I2
 refine call_meetsIn PySem.F.slot_dict_get dd.typeIs PySem.F.entry_dict_get (PySem.F.args_dict_get_2 _ _) (meets_dict_get (mixKind X.prog X.w) a (kV_is ry) hk.1) ⟨_,dd.mapOf,⟨_,H2,I2.tok _,?_,q2⟩⟩
 exact (rel.val k).getD rfl
end
section
variable {K:Wf}{te:TE}{g:TG}{tt:TT}{σ0:St}{H1:Hp}{Q:VK}
end
end L2
namespace L2
open PySem PySem.Spec PyProof.Rows
section
variable {M:Model}{A:Around}{E:Vs}{s:Shared}
theorem flight_setL {e T L:Addr}{cls:Value}{dx:Option Addr}{fl:Value}{Q:Unit→Shared→Prop}(hx:ExcIs s.heap e cls dx fl T)
  (h:∀h',(∀b o,b≠T→s.heap.get? b=some o→h'.get? b=some o)→(∃o,h'.get? T=some o)→ExcIs h' e cls dx (rawInt L) T→Q () { s with heap:=h' }):wpAny M A (setFlight (.ref e) (some L)) Q E s:=by
 obtain⟨oe,vs,oT,ts,he,hc,hdx,hd,h1,hTe,hT,hdT,h3⟩:=hx
 unfold setFlight
 refine wpAny_bind (wpAny_field he hd h1 ?_)
 rw[if_pos (show (Value.ref T != Value.none)=true from by simp)]
 have hs:=(Array.getElem?_eq_some_iff.mp h3).1
 refine wpAny_setField hT hdT hs (h _ (fun b o hb hbo => ?_) ?_ ?_)
 ·rw[Heap.get?_update_other _ _ (Ne.symm hb)];exact hbo
 ·exact⟨_,Heap.get?_update_self _ hT (Obj.isFreed_of_fields (Obj.data_mapFields hdT _))⟩
 ·refine⟨oe,vs,_,_,?_,hc,hdx,hd,h1,hTe,Heap.get?_update_self _ hT (Obj.isFreed_of_fields (Obj.data_mapFields hdT _)),Obj.data_mapFields hdT _,?_⟩
  ·rw[Heap.get?_update_other _ _ hTe];exact he
  ·simp[hs]
end
noncomputable def EXL (X:Cx) (E:XK):Value→Shared→Prop:=fun e s'=>∃(pins:Lo) (σ:St) (H:Hp) (a:Addr) (cls:Value) (dx:Option Addr),e=.ref a∧Inv X pins σ H s'∧ExcAt X H s'.heap a cls dx∧E cls dx H
theorem xe_wish {X:Cx}{E:XK}:Xe (X.wish (EXL X E)) E:=fun pins σ H s a cls dx I hx hE=>⟨pins,σ,H,a,cls,dx,rfl,I.unwish,hx,hE⟩
def PassL (X:Cx) (E:XK):Prop:=∀e s',EXL X E e s'→notedBy (model X.prog X.w) X.A X.env (cameBackBy (model X.prog X.w) X.A X.env X.xe) e s'
theorem passL_cx {P:Program}{w:World}{K:Wf}{mg:So}{base:Heap}{N:List Str}{qual:Str}{scope:Scope}{f:Addr}{cd:Value}{A:Around}{outer:List Env}{s₀:Shared}{H₀:Hp}{E₀:XK}:
  PassL (cxOf (CXE P w) P w K mg base N qual scope f cd A outer s₀ H₀ E₀) E₀:=by
 rintro e s ⟨pins,σ,H,a,cls,dx,rfl,I,⟨ha,hHa,hx⟩,hE⟩
 have hfr:(envOfC qual scope s₀.heap.objs.size f cd).frame=some s₀.heap.objs.size:=rfl
 have fin:∀(T0:Addr) (h':Heap),s₀.heap.get? T0=none→H T0=none→LeftX (frs (envOfC qual scope s₀.heap.objs.size f cd::outer)) a T0 cls dx .none s.heap h'→CXE P w outer H₀ s₀ E₀ (.ref a) { s with heap:=h' }:=by
  intro T0 h' hT0 hHT0 x
  obtain⟨T,hT,y⟩:=x.exc
  have hTn:s₀.heap.get? T=none:=by
   cases q:s₀.heap.get? T with
   | none=>rfl
   | some o=>exact absurd (Nat.lt_of_lt_of_le (Heap.lt_size q) (Nat.le_trans I.sz hT)) (Nat.lt_irrefl _)
  refine⟨a,T,cls,dx,H,rfl,I.os,I.bare,Un.left I rfl rfl rfl ha hT0 x,?_,ha,hTn,hHa,I.hok.fresh hT,y,hE⟩
  refine I.hok.tracked fun b o u hb q=>x.keep b o (fun z => ?_) (fun z=>by rw[z,hHa]at hb;cases hb) (fun z=>by rw[z,hHT0]at hb;cases hb) q
  have:=I.stkFree b z
  rw[this]at hb;cases hb
 have back:∀(T0:Addr) (h1:Heap),s₀.heap.get? T0=none→H T0=none→LeftX (frs (envOfC qual scope s₀.heap.objs.size f cd::outer)) a T0 cls dx (rawInt s₀.heap.objs.size) s.heap h1→
   cameBackBy (model P w) (A.deeper (envOfC qual scope s₀.heap.objs.size f cd)) (envOfC qual scope s₀.heap.objs.size f cd) (cxOf (CXE P w) P w K mg base N qual scope f cd A outer s₀ H₀ E₀).xe (.ref a) { s with heap:=h1 }:=by
  intro T0 h1 hT0 hHT0 x
  obtain⟨T,hT,y⟩:=x.exc
  unfold cameBackBy
  obtain⟨oe,vs,oT,ts,he,hc,hdx,hd,hv1,hTe,hT',hdT,h3⟩:=id y
  refine wpAny_bind (wpAny_field (s:={ s with heap:=h1 }) he hd hv1 ?_)
  rw[if_neg (by simp)]
  refine flight_setL (s:={ s with heap:=h1 }) y fun h2 k hT2 y2 => ?_
  show wpAny _ _ (leaving (envOfC qual scope s₀.heap.objs.size f cd) (.ref a)) _ _ _
  unfold leaving
  refine wpAny_bind (note_again (s:={ s with heap:=h2 }) hfr y2 (flight_off (s:={ s with heap:=h2 }) y2 fun h3 k3 hT3 y3 => ?_))
  exact fin T0 h3 hT0 hHT0 (x.off hT (fun b o hb e=>k3 b o hb (k b o hb e)) hT3 y3)
 rcases hx with hx | ⟨T0,hT0,hHT0,hx⟩
 ·exact note_new (base:=base) I.ok.frames I.stack hfr hx fun h' x=>back a h' ha hHa x
 ·exact note_next (base:=base) I.ok.frames I.stack hfr hx fun h' x=>back T0 h' hT0 hHT0 x
section
variable {X:Cx}{tg:Expr}{E:XK}
theorem ps_forX {iter:Expr}{body:List Stmt}{wi:TI}{g:TG}{tb:TS}{pos:Pos}(hp:PassL X E) (hc:X.calm=true) (hi:PI X tg iter wi) (hg:PG X.nox tg g) (hb:PSs (X.wish (EXL X E)) body tb)
  (hs:∀x,foldedSetIterable iter X.env x=pure x:=by intro _;rfl):PS X (.For tg iter body [] pos) (tFor wi g tb):=by
 intro pins s σ H D I h
 have ff:∀{α:Type}{m:Sem α}{Q Q':α→Shared→Prop}{F:Vs}{s:Shared},wpAny (model X.prog X.w) X.A m Q (fun _ _=>False) s→(∀a s',Q a s'→Q' a s')→wpAny (model X.prog X.w) X.A m Q' F s:=fun h k=>wpAny_mono h k fun _ _ z=>z.elim
 refine wpAny_For (thn (hi pins s σ H _ I h) fun v s1 h1=>thn h1 fun itv s2 h2 => ?_) hs
 obtain⟨it,fp,tn,J,H2,e,I2,T,st2,f2,W,⟨m0,w0⟩,turn⟩:=h2
 subst e
 have stat:∀{H':Hp},(∀b∈fp,H' b=none)→∀b∈fp,FpOk X pins H' b:=fun hn b hb=>⟨hn b hb,(f2 b hb).2⟩
 refine codeAny_forLoop_any (fun n s'=>∃i σ' H',Inv X pins σ' H' s'∧tn i s'.heap∧(∀b∈fp,H' b=none)∧W i n σ' H') ?_ m0 ⟨0,σ,H2,I2,st2,fun b hb=>(f2 b hb).1,w0⟩
 rintro n s3 ⟨i,σ3,H3,I3,st3,fr3,w3⟩
 rcases turn i n σ3 H3 w3 with ⟨stop,qn⟩ | ⟨go,N,hN,step⟩
 ·refine ff (T.done X rfl rfl rfl hc i pins s3 σ3 H3 (fun _ _=>False) I3 (stat fr3) st3 stop) fun r s4 ⟨hr,I4⟩ => ?_
  subst hr
  exact wpAny_execs_nil ⟨σ3,H3,I4,qn⟩
 ·refine ff (T.item X rfl rfl rfl hc i pins s3 σ3 H3 (fun _ _=>False) I3 (stat fr3) st3 go) fun r s4 ⟨u,hr,h4⟩ => ?_
  subst hr
  refine ff h4 fun _ s5 ⟨x,H5,I5,r5,y5,st5,fr5⟩ => ?_
  have I5':=I5.pinned (stat fr5) (T.obj _ _ st5)
  refine ff (hg _ s5 σ3 H5 x u _ (I5'.wish _) r5 (step x H5 y5)) fun _ s6 ⟨σ6,H6,I6,q6⟩ => ?_
  refine wpAny_mono (hb _ s6 σ6 H6 _ (I6.unwish.wish _) q6) (fun f s7 q7 => ?_) fun e s' z=>hp e s' z
  have q7:=q7.unwish
  have again:∀{σ7:St}{H7:Hp},Inv X (pins++pinsAt fp s5.heap) σ7 H7 s7→N σ7 H7→∃m,m<n∧∃i σ' H',Inv X pins σ' H' s7∧tn i s7.heap∧(∀b∈fp,H' b=none)∧W i m σ' H':=fun {σ7 H7} I7 n7=>by
   obtain⟨m',hm,w7⟩:=hN σ7 H7 n7
   refine⟨m',hm,i+1,σ7,H7,I7.unpinned,T.keep _ _ _ st5 fun b hb o e=>(I7.pin (b,o) (List.mem_append_right _ (List.mem_append_right _ (mem_pinsAt hb e)))).1,fun b hb => ?_,w7⟩
   obtain⟨o,e,d⟩:=T.obj _ _ st5 b hb
   exact (I7.pin (b,o) (List.mem_append_right _ (List.mem_append_right _ (mem_pinsAt hb e)))).2.1
  cases f with
  | next=>obtain⟨σ7,H7,I7,n7⟩:=q7;exact again I7 n7
  | cont=>obtain⟨σ7,H7,I7,n7⟩:=q7;exact again I7 n7
  | brk=>obtain⟨σ7,H7,I7,q7⟩:=q7;exact⟨σ7,H7,I7.unpinned,q7⟩
  | ret v=>obtain⟨x7,σ7,H7,I7,r7,q7⟩:=q7;exact⟨x7,σ7,H7,I7.unpinned,r7,q7⟩
end
end L2
namespace L2
open PySem
section
variable {prog:Program}{w:World}{A:Around}{E:Vs}{s:Shared}{a:Addr}{L:List Str}
end
end L2
namespace L2
open PySem
section
variable {prog:Program}{w:World}{A:Around}{E:Vs}{s:Shared}{it a:Addr}{i n ep slot next:Nat}{es:Array (Int×Value)}{t:SetTable}{Q:Option Value→Shared→Prop}{x:Value}
end
end L2
namespace L2
open PySem
section
variable {prog:Program}{w:World}{A:Around}{E:Vs}{s:Shared}{I a:Addr}{n ep:Nat}{es:Array (Int×Value)}{t:SetTable}
end
end L2
namespace L2
open PySem
section
variable {prog:Program}{w:World}{A:Around}{E:Vs}{s:Shared}{a:Addr}{L:List Str}
end
end L2
namespace L2
open PySem PySem.Spec
section
variable {prog:Program}{w:World}{A:Around}{E:Vs}
set_option maxHeartbeats 3200000 in
end
section
open PyProof.Rows
variable {X:Cx}
end
end L2
namespace L2
open PySem PySem.Spec PyProof.Rows
section
variable {X:Cx}
noncomputable def rZfill:V→List V→Hp→VK→Prop:=fun x vs H Q=>∃(z:Str) (n:Int),x=.str z∧vs=[.int n]∧0≤n∧n≤1000∧Q (.str (Txt.zfill z n)) H
theorem mt_zfill:MtM X "str.zfill" rZfill:=by
 intro pins s σ H x vs v us Q I rx rv h
 obtain⟨z,n,rfl,rfl,h0,h1,q⟩:=h
 obtain⟨t,rfl⟩:=rx
 obtain⟨u,rfl,ru⟩:=rv.one
 obtain⟨t',rfl⟩:=ru
 have hp:PadOk n=true:=by
  unfold PadOk fitsSsize Builtin.Str.tooLong
  rw[show sizeLine=16777216 from sizeLine_eq]
  simp
  omega
 exact call_gives F.slot_str_zfill (typeIs_str _ _ _) F.entry_str_zfill (F.args_str_zfill_2 _ _) (gives_str_zfill z n t t' (PadOk.parts hp).1 (PadOk.parts hp).2) (post_val_or_made (fits_zfilled (PadOk.parts hp).2) fun t2 k=>⟨.str (Txt.zfill z n),H,I.tok _,⟨_,rfl⟩,q⟩)
end
end L2
namespace L2
open PySem PySem.Spec PyProof.Rows
set_option genInjectivity false in
structure Pr (H:Hp) (p:PcM):Prop where
 sl:H p.ls=some (.lst (p.sts.map StM.v))
 nl:H p.ln=some (.lst (p.nms.map ToldM.v))
 ss:∀s∈p.sts,s.At H
 ns:∀n∈p.nms,n.At H
 nd:p.lists.Nodup
theorem Pr.mono {H H':Hp}{p:PcM}(h:Pr H p) (e:Same H H'):Pr H' p:=⟨e _ _ h.sl,e _ _ h.nl,fun s hs=>(h.ss s hs).mono e,fun n hn=>(h.ns n hn).mono e,h.nd⟩
theorem Pr.list {H:Hp}{p:PcM}(h:Pr H p) {b:Addr}(hb:b∈p.lists):∃xs,H b=some (.lst xs):=by
 simp only[PcM.lists,List.mem_cons]at hb
 rcases hb with rfl | rfl | hb
 ·exact⟨_,h.sl⟩
 ·exact⟨_,h.nl⟩
 ·obtain⟨s,hs,hb⟩:=List.mem_flatMap.mp hb
  exact (h.ss s hs).list hb
theorem Pr.fresh {H:Hp}{p:PcM}(h:Pr H p) {b:Addr}(hb:H b=none):b∉p.lists:=fun z=>by
 obtain⟨xs,e⟩:=h.list z
 rw[hb]at e;cases e
theorem Pr.but {H H':Hp}{p:PcM}{l:Addr}(h:Pr H p) (b:But H H' l) (n:l∉p.lists):Pr H' p:=by
 simp only[PcM.lists,List.mem_cons,not_or]at n
 exact⟨b.2 _ _ h.sl (Ne.symm n.1),b.2 _ _ h.nl (Ne.symm n.2.1),fun s hs=>(h.ss s hs).but b fun q=>n.2.2 (List.mem_flatMap.mpr ⟨s,hs,q⟩),fun m hm=>(h.ns m hm).but b,h.nd⟩
theorem Pr.start {H:Hp}{t ls ln:Addr}{nm:Str}(h1:H ls=some (.lst [])) (h2:H ln=some (.lst [])) (n:ls≠ln):Pr H ⟨t,ls,ln,nm,[],[]⟩:=
 ⟨h1,h2,fun s hs=>(nomatch hs),fun s hs=>(nomatch hs),by simp[PcM.lists,n]⟩
theorem Pr.newStretch {H:Hp}{t lw lf:Addr}{kind:Str}{step:Int}{p:PcM}(h:Pr H p) (h1:H t=some (.tup [.str kind,.int step,.ref lw,.ref lf])) (h2:H lw=some (.lst [])) (h3:H lf=some (.lst []))
  (n1:lw≠lf) (n2:lw∉p.lists) (n3:lf∉p.lists):Pr (upd H p.ls (.lst (p.sts.map StM.v++[.ref t]))) { p with sts:=p.sts++[⟨t,lw,lf,kind,step,[],[]⟩] }:=by
 have b:But H (upd H p.ls (.lst (p.sts.map StM.v++[.ref t]))) p.ls:=But.upd h.sl
 have hls:p.ls∈p.lists:=by simp[PcM.lists]
 have nd:p.ls≠p.ln∧p.ls∉p.sts.flatMap StM.lists:=by
  have:=h.nd
  simp only[PcM.lists,List.nodup_cons,List.mem_cons,not_or]at this
  exact this.1
 refine⟨by rw[zz1];simp,b.2 _ _ h.nl (Ne.symm nd.1),fun s hs => ?_,fun n hn=>(h.ns n hn).but b,?_⟩
 ·rcases List.mem_append.mp hs with z | z
  ·exact (h.ss s z).but b fun q=>nd.2 (List.mem_flatMap.mpr ⟨s,z,q⟩)
  ·have e:=List.mem_singleton.mp z
   subst e
   exact⟨b.tup h1,b.2 _ _ h2 fun (e:lw=p.ls)=>n2 (e▸hls),b.2 _ _ h3 fun (e:lf=p.ls)=>n3 (e▸hls),fun f hf=>(nomatch hf)⟩
 ·have e:PcM.lists { p with sts:=p.sts++[⟨t,lw,lf,kind,step,[],[]⟩] }=p.lists++[lw,lf]:=by simp[PcM.lists,StM.lists,List.flatMap_append]
  rw[e]
  refine List.nodup_append.mpr ⟨h.nd,by simp[n1],fun x hx y hy e => ?_⟩
  subst e
  simp only[List.mem_cons,List.not_mem_nil,or_false]at hy
  rcases hy with e | e
  ·subst e;exact n2 hx
  ·subst e;exact n3 hx
theorem Pr.newTold {H:Hp}{p:PcM}{n:ToldM}(h:Pr H p) (h1:n.At H):Pr (upd H p.ln (.lst (p.nms.map ToldM.v++[n.v]))) { p with nms:=p.nms++[n] }:=by
 have b:But H (upd H p.ln (.lst (p.nms.map ToldM.v++[n.v]))) p.ln:=But.upd h.nl
 have nd:p.ls≠p.ln∧p.ln∉p.sts.flatMap StM.lists:=by
  have:=h.nd
  simp only[PcM.lists,List.nodup_cons,List.mem_cons,not_or]at this
  exact⟨this.1.1,this.2.1⟩
 refine⟨b.2 _ _ h.sl nd.1,by rw[zz1];simp,fun s hs=>(h.ss s hs).but b fun q=>nd.2 (List.mem_flatMap.mpr ⟨s,hs,q⟩),fun m hm => ?_,h.nd⟩
 rcases List.mem_append.mp hm with z | z
 ·exact (h.ns m z).but b
 ·rw[List.mem_singleton.mp z];exact h1.but b
theorem Pr.lastSt {H:Hp}{p:PcM}{ss:List StM}{s:StM}(h:Pr H p) (e:p.sts=ss++[s]):s.lw∈p.lists∧s.lf∈p.lists∧s.lw≠s.lf∧(∀b∈s.lists,b≠p.ls∧b≠p.ln∧∀r∈ss,b∉r.lists):=by
 have a2:=h.nd
 have hs:s∈p.sts:=by rw[e];simp
 have m:∀b∈s.lists,b∈p.sts.flatMap StM.lists:=fun b hb=>List.mem_flatMap.mpr ⟨s,hs,hb⟩
 have m':∀b∈s.lists,b∈p.lists:=fun b hb=>by simp only[PcM.lists,List.mem_cons];exact .inr (.inr (m b hb))
 simp only[PcM.lists,List.nodup_cons,List.mem_cons,not_or]at a2
 obtain⟨⟨_,b1⟩,b2,b3⟩:=a2
 rw[e,List.flatMap_append]at b3
 obtain⟨_,c2,c3⟩:=List.nodup_append.mp b3
 have c2':s.lists.Nodup:=by simpa using c2
 refine⟨m' _ (by simp[StM.lists]),m' _ (by simp[StM.lists]),?_,fun b hb=>⟨fun z=>b1 (z▸m b hb),fun z=>b2 (z▸m b hb),fun r hr z=>c3 b (List.mem_flatMap.mpr ⟨r,hr,z⟩) b (by simpa using hb) rfl⟩⟩
 simpa [StM.lists] using c2'
theorem Pr.newFill {H:Hp}{p:PcM}{ss:List StM}{s:StM}{f:FillM}(h:Pr H p) (e:p.sts=ss++[s]) (h1:f.At H):Pr (upd H s.lf (.lst (s.fills.map FillM.v++[f.v]))) { p with sts:=ss++[{ s with fills:=s.fills++[f] }] }:=by
 obtain⟨m1,m2,n1,n2⟩:=h.lastSt e
 have hs:s.At H:=h.ss s (by rw[e];simp)
 have b:But H (upd H s.lf (.lst (s.fills.map FillM.v++[f.v]))) s.lf:=But.upd hs.fl
 obtain⟨q1,q2,q3⟩:=n2 s.lf (by simp[StM.lists])
 refine⟨?_,b.2 _ _ h.nl (Ne.symm q2),fun r hr => ?_,fun n hn=>(h.ns n hn).but b,?_⟩
 ·rw[b.2 _ _ h.sl (Ne.symm q1),e];simp[StM.v]
 ·rcases List.mem_append.mp hr with z | z
  ·exact (h.ss r (by rw[e];exact List.mem_append_left _ z)).but b (q3 r z)
  ·have er:=List.mem_singleton.mp z
   subst er
   refine⟨b.tup hs.top,b.2 _ _ hs.wd n1,by rw[zz1];simp,fun g hg => ?_⟩
   rcases List.mem_append.mp hg with y | y
   ·exact (hs.fs g y).but b
   ·rw[List.mem_singleton.mp y];exact h1.but b
 ·have:=h.nd
  simp only[PcM.lists,e,List.flatMap_append]at this ⊢
  exact this
theorem Pr.newWord {H:Hp}{p:PcM}{ss:List StM}{s:StM}{i:Int}(h:Pr H p) (e:p.sts=ss++[s]):Pr (upd H s.lw (.lst (s.words.map V.int++[.int i]))) { p with sts:=ss++[{ s with words:=s.words++[i] }] }:=by
 obtain⟨m1,m2,n1,n2⟩:=h.lastSt e
 have hs:s.At H:=h.ss s (by rw[e];simp)
 have b:But H (upd H s.lw (.lst (s.words.map V.int++[.int i]))) s.lw:=But.upd hs.wd
 obtain⟨q1,q2,q3⟩:=n2 s.lw (by simp[StM.lists])
 refine⟨?_,b.2 _ _ h.nl (Ne.symm q2),fun r hr => ?_,fun n hn=>(h.ns n hn).but b,?_⟩
 ·rw[b.2 _ _ h.sl (Ne.symm q1),e];simp[StM.v]
 ·rcases List.mem_append.mp hr with z | z
  ·exact (h.ss r (by rw[e];exact List.mem_append_left _ z)).but b (q3 r z)
  ·have er:=List.mem_singleton.mp z
   subst er
   exact⟨b.tup hs.top,by rw[zz1];simp,b.2 _ _ hs.fl (Ne.symm n1),fun g hg=>(hs.fs g hg).but b⟩
 ·have:=h.nd
  simp only[PcM.lists,e,List.flatMap_append]at this ⊢
  exact this
end L2
namespace L2
open PySem PySem.Spec PyProof.Rows
section
variable {prog:Program}{w:World}{K:Type} [DecidableEq K] {knd:HeapKind prog w K}{A:Around}{E:Vs}{s:Shared}
theorem grown {d a:Addr}{o:Obj}{es:Array DictEntry}{ep:Nat}{xs:List (K×Addr×Value)}{k:K}{v:Value}{h:Heap}(ho:h.get? d=some o) (hd:o.data=.dict es ep) (hc:o.ExactDict)
  (he:es.toList=xs.map (entryOfKey knd)) (his:∀x∈xs,knd.is h x.1 x.2.1) (hn:(xs.map (·.1)).Nodup) (hkey:knd.is h k a) (hno:∀(j:Nat) (p:Addr×Value),xs[j]?≠some (k,p)):
  (h.update d (Obj.mapDictKeys fun l=>l.push ⟨knd.hash k,.ref a,v⟩)).DictOfH knd d (storedH xs k a v):=by
 have e:storedH xs k a v=xs++[(k,a,v)]:=storedH_new (atKey_none_of_get hno) a v
 have keep:∀{c:K}{b:Addr},knd.is h c b→knd.is (h.update d (Obj.mapDictKeys fun l=>l.push ⟨knd.hash k,.ref a,v⟩)) c b:=fun q=>knd.keeps q ho hd (Heap.SameBut.update ..)
 have dat:=Obj.data_mapDictKeys hd fun l=>l.push ⟨knd.hash k,.ref a,v⟩
 refine e▸⟨_,es.push ⟨knd.hash k,.ref a,v⟩,ep+1,Heap.get?_update_self _ ho (Obj.isFreed_of_dict dat),hc.mapDictKeys _,dat,?_,?_,?_⟩
 ·rw[Array.toList_push,he,List.map_append];rfl
 ·exact fun x hx=>(List.mem_append.mp hx).elim (fun q=>keep (his x q)) fun q=>by cases List.mem_singleton.mp q;exact keep hkey
 ·rw[List.map_append]
  refine List.nodup_append.mpr ⟨hn,by simp,fun x hx y hy q=>not_mem_keys_of_get hno ?_⟩
  have ey:y=k:=by simpa using hy
  rw[←ey,←q];exact hx
theorem setdef_heap {d a:Addr}{xs:List (K×Addr×Value)}{k:K}{v:Value}{Q:Vs}(hu:knd.room A) (hkey:knd.is s.heap k a) (hm:s.heap.DictOfH knd d xs) (hsz:xs.length≤sizeLine)
  (there:∀u,(atKey xs k).map (·.2)=some u→Q u { s with toks:=s.toks+knd.draws k })
  (new:(atKey xs k).map (·.2)=none→∀h',h'.DictOfH knd d (storedH xs k a v)→Heap.SameBut d s.heap h'→Q v { s with heap:=h',toks:=s.toks+knd.draws k }):
  wpAny (model prog w) A (dictSetDefault d (.ref a) v) Q E s:=by
 obtain⟨o,es,ep,ho,hc,hd,he,his,hn⟩:=hm
 have hes:es.size≤sizeLine:=by rw[size_of_entries he];exact hsz
 have none_of:∀hno:(∀(j:Nat) (p:Addr×Value),xs[j]?≠some (k,p)),(atKey xs k).map (·.2)=none:=fun hno=>by rw[atKey_none_of_get hno];rfl
 exact wpAny_holding (wpAny_bind (knd.pyHash hu hkey (wpAny_bind (wpAny_dictFind_heap (s:={ s with toks:=s.toks+knd.draws k }) hu hkey ho hd he his hn
  (fun hno=>wpAny_bind (wpAny_rule (wpAny_bind (wpAny_updateDictKeys (hz:=hes) (s:={ s with toks:=s.toks+knd.draws k }) ho hd (wpAny_pure (new (none_of hno) _ (grown ho hd hc he his hn hkey hno) (Heap.SameBut.update ..)))))))
  fun j p hj=>wpAny_bind (wpAny_dictEntries (s:={ s with toks:=s.toks+knd.draws k }) ho hd (by
   rw[entry_at he j,hj]
   exact wpAny_bind (wpAny_rule (wpAny_pure (there p.2 (by rw[atKey_of_get hn hj];rfl))))))))))
theorem meets_sd (knd:HeapKind prog w K) {d:Addr}(a:Addr) (hd:(d == sysModules)=false) (x:Value):
  MeetsIn prog w (Builtin.«dict.setdefault» ⟨[.ref d,.ref a,x],[]⟩) fun A R s=>knd.room A.in1∧∃k xs,knd.is s.heap k a∧s.heap.DictOfH knd d xs∧xs.length≤sizeLine∧
   (∀v,(atKey xs k).map (·.2)=some v→R (.ok (.ret v)) { s with toks:=s.toks+knd.draws k })∧
   ((atKey xs k).map (·.2)=none→∀h',h'.DictOfH knd d (storedH xs k a x)→Heap.SameBut d s.heap h'→R (.ok (.ret x)) { s with heap:=h',toks:=s.toks+knd.draws k }):=by
 refine .of_wp ?_
 rintro A R s ⟨hu,k,xs,hkey,hm,hz,there,new⟩
 have main:=setdef_heap (v:=x) (E:=fun e s'=>R (.error e) s') (Q:=fun v s'=>R (.ok (.ret v)) s') hu hkey hm hz there new
 refine wpAny_bind (wpAny_bind (wpAny_notOrdered_dict hm.typeIs (wpAny_pure ?_)))
 simp only[hd,Bool.false_eq_true,if_false]
 exact wpAny_bind (wpAny_mono main (fun v s' q=>wpAny_pure ⟨v,rfl,q⟩) fun _ _ q=>q)
end
section
variable {X:Cx}{pins:Lo}{σ:St}{H:Hp}{s:Shared}{a:Addr}{y d:V}{u r:Value}{o:Option V}{A:Around}{E:Vs}
theorem d_setdef {H':Hp}{Q:Vs}(hu:A.units+1<cLine) (I:Inv X pins σ H s) (g:DGet H a y o) (p:DPut H a y d H') (ry:RelV y u) (rd:RelV d r)
  (h1:∀v w' s',o=some v→Inv X pins σ H s'→RelV v w'→Q w' s') (h2:∀w' s',o=none→Inv X pins σ H' s'→RelV d w'→Q w' s'):
  wpAny (model X.prog X.w) A (call (.builtin "dict.setdefault") [.ref a,u,r]) Q E s:=by
 rcases p with ⟨kvs,k,e,ey,l,eH⟩ | ⟨kvs,k,b,e,ey,eb,l,eH⟩
 ·subst ey eH
  obtain⟨z,hd,vs,rel,dd⟩:=dk_of I.hok e
  have go:o=valV kvs k:=by
   rcases g with ⟨kvs',k',e',ey',l'⟩ | ⟨kvs',k',b,e',ey',eb',l'⟩
   ·have ek:k'=k:=by cases k<;>cases k'<;>simp_all [kV]
    rcases e' with e' | ⟨ob,e'⟩
    ·rw[e]at e';cases e';rw[l',ek]
    ·rw[e]at e';cases e'
   ·cases k<;>cases ey'
  have hz:vs.length≤sizeLine:=by rw[←rel.length];exact z
  have hl:(putK kvs k d).length≤sizeLine:=by have:=length_putK kvs k d;omega
  refine call_meetsIn PySem.F.slot_dict_setdefault dd.typeIs PySem.F.entry_dict_setdefault (PySem.F.args_dict_setdefault_3 _ _ _) (kt_meets_setdefault (mixKind X.prog X.w) a (kV_is ry) hd r) ⟨vs,dd,hz,fun v hv => ?_,fun hn h' dd' hs => ?_⟩
  ·have q:=rel.val k
   rw[hv]at q
   cases ho:valV kvs k with
   | none=>rw[ho]at q;exact q.elim
   | some v'=>rw[ho]at q;exact h1 v' v _ (by rw[go,ho]) (I.tok _) q
  ·have q:=rel.val k
   rw[hn]at q
   have ho:valV kvs k=none:=by
    cases ho:valV kvs k with
    | none=>rfl
    | some v'=>rw[ho]at q;exact q.elim
   have he:∃q,h'.get? a=some q:=let ⟨q,_,_,hq,_⟩:=dd';⟨q,hq⟩
   exact h2 r _ (by rw[go,ho]) (d_write I (by rw[e];exact True.intro) hs he (dk_new hl hd (rel.put k rd) dd')) rd
 ·subst ey eH
  cases (show u=Value.ref b from ry)
  obtain⟨z,hd,xs,rel,dd⟩:=dt_of I.hok e
  have go:o=valV kvs k:=by
   rcases g with ⟨kvs',k',e',ey',l'⟩ | ⟨kvs',k',b',e',ey',eb',l'⟩
   ·cases k'<;>cases ey'
   ·cases ey'
    have ek:k'=k:=by
     rw[eb]at eb'
     injection eb' with eb'
     injection eb' with eb'
     exact (List.map_inj_right (f:=kV) (by intro x y q;cases x<;>cases y<;>simp_all [kV])).mp eb'.symm
    rcases e' with e' | ⟨ob,e'⟩
    ·rw[e]at e';cases e';rw[l',ek]
    ·rw[e]at e';cases e'
  have hz:xs.length≤sizeLine:=by rw[←Paired.length rel];exact z
  have hl:(putK kvs k d).length≤sizeLine:=by have:=length_putK kvs k d;omega
  refine call_meetsIn PySem.F.slot_dict_setdefault dd.typeIs PySem.F.entry_dict_setdefault (PySem.F.args_dict_setdefault_3 _ _ _) (meets_sd (tupleKind (mixKind X.prog X.w)) b hd r) ⟨tupleKind_room_in1 hu,k,xs,key_of I.hok eb,dd,hz,fun v hv => ?_,fun hn h' dd' hs => ?_⟩
  ·have q:=rel.val k
   rw[hv]at q
   cases ho:valV kvs k with
   | none=>rw[ho]at q;exact q.elim
   | some v'=>rw[ho]at q;exact h1 v' v _ (by rw[go,ho]) (I.tok _) q
  ·have q:=rel.val k
   rw[hn]at q
   have ho:valV kvs k=none:=by
    cases ho:valV kvs k with
    | none=>rfl
    | some v'=>rw[ho]at q;exact q.elim
   obtain⟨qo,es,ep,hq,g2,g3,g4,_,g5⟩:=dd'
   refine h2 r _ (by rw[go,ho]) (d_write I (by rw[e];exact True.intro) hs ⟨qo,hq⟩ ⟨hl,hd,_,(rel.put k eb rd).keeps fun c ys ec => ?_,qo,es,ep,hq,g2,g3,g4,g5⟩) rd
   rw[upd_ne (ne_of ec e (fun z=>nomatch z))]
   exact ec
end
def tDSd (td ty tx:TE):TE:=fun σ H Q=>td σ H fun x H1=>∃a,x=.ref a∧IsD H1 a∧ty σ H1 fun y H2=>tx σ H2 fun z H3=>∃o H4,DGet H3 a y o∧DPut H3 a y z H4∧(∀v,o=some v→Q v H3)∧(o=none→Q z H4)
section
variable {X:Cx}{o e f:Expr}{apos cpos:Pos}{td ty tx:TE}
theorem pe_dsd (hu:X.A.units+1<cLine) (ho:PE X o td) (he:PE X e ty) (hf:PE X f tx) (m:M2 X o "setdefault" apos e f cpos):PE X (.Call (.Attribute o "setdefault" apos) [e,f] [] cpos) (tDSd td ty tx):=by
 intro pins s σ H Q I h
 refine wpAny_Call_method m.base m.few m.line PySem.F.plainAttrs_dict PySem.F.slot_dict_setdefault PySem.F.type_dict_setdefault (thn (ho pins s σ H _ I h) fun u s1 ⟨x,H1,I1,rx,a,ex,d,q1⟩ => ?_)
 subst ex
 obtain rfl:u=Value.ref a:=rx
 obtain⟨t1,t2,_⟩:=isD_at I1 d
 refine⟨t1,t2,?_⟩
 rw[m.trees]
 refine Calls.callWith_builtin rfl (Calls.evalArgs_plain (Calls.spliced_cons (thn (he pins s1 σ H1 _ I1 q1) fun iv s2 ⟨y,H2,I2,ry,q2⟩=>
  Calls.spliced_cons (thn (hf pins s2 σ H2 _ I2 q2) fun fv s3 ⟨z,H3,I3,rz,ov,H4,g,p,q3,q4⟩=>Calls.spliced_nil ?_))))
 exact d_setdef hu I3 g p ry rz (fun v w' s4 e4 I4 rw'=>⟨v,H3,I4,rw',q3 v e4⟩) (fun w' s4 e4 I4 rw'=>⟨z,H4,I4,rw',q4 e4⟩)
end
end L2
set_option maxHeartbeats 0
set_option pp.deepTerms true
set_option pp.maxSteps 100000
namespace My
open PySem PySem.Spec PyProof.Rows L2
set_option hygiene false in
local macro_rules | `(tactic| walk_at "0") => `(tactic| obtain ⟨p, dx, nm0, ls, ln, lw, lf, td, bw⟩ := R)
set_option hygiene false in
local macro_rules | `(tactic| walk_at "1") => `(tactic| have es : S.sts = ss.map sC ++ [sC s] := by rw [← h.sts, e, List.map_append]; rfl)
set_option hygiene false in
local macro_rules | `(tactic| walk_at "2") => `(tactic| obtain ⟨rfl, rfl⟩ := List.cons.inj er)
set_option hygiene false in
local macro_rules | `(tactic| walk_at "3") => `(tactic| obtain ⟨ss, s, es, elw, elf, sa, eS⟩ := hR.last (show S.sts ≠ [] from tk.2.1))
set_option hygiene false in
local macro_rules | `(tactic| walk_at "4") => `(tactic| have cs := hR.n1.2.2 s (by rw [es]; simp))
set_option hygiene false in
local macro_rules | `(tactic| walk_at "5") => `(tactic| rw [elw, if_neg (by simp)])
set_option hygiene false in
local macro_rules | `(tactic| walk_at "6") => `(tactic| obtain ⟨ss, s, es, elw, elf, sa, eS⟩ := hR.last (show S.sts ≠ [] from hs))
set_option hygiene false in
local macro_rules | `(tactic| walk_at "7") => `(tactic| have w1 : (Str.ofString " ").length = 1 := by decide +kernel)
set_option hygiene false in
local macro_rules | `(tactic| walk_at "8") => `(tactic| obtain ⟨xs, x, rfl⟩ : ∃ xs x, sts = xs ++ [x] := ⟨sts.dropLast, sts.getLast t0, (List.dropLast_concat_getLast t0).symm⟩)
local macro_rules | `(tactic| walk_at "o") => `(tactic| first | exact Or.inl rfl | exact Or.inr rfl)
local macro_rules | `(tactic| walk_at "s") => `(tactic| (rw [sizeLine_eq]; decide))
local macro_rules | `(tactic| walk_at "p") => `(tactic| first | exact Or.inl rfl | exact Or.inr (Or.inl rfl) | exact Or.inr (Or.inr rfl))
local macro_rules | `(tactic| walk_at "q") => `(tactic| first | exact .inl rfl | exact .inr rfl | assumption)
noncomputable def top (i:Nat):Stmt:=PySem.Challenge.pw_joinload_k13_whole_pieces_both_ways.main.body.getD i (.Pass ⟨0,0,0,0⟩)
noncomputable abbrev s_qqj:Stmt:=inClass (top 4) 0
noncomputable abbrev s_qxy:Stmt:=top 12
noncomputable abbrev s_qww:Stmt:=inClass (top 13) 0
noncomputable abbrev s_qxz:Stmt:=top 25
noncomputable abbrev s_qyq:Stmt:=top 26
noncomputable abbrev s_qyj:Stmt:=top 27
noncomputable abbrev s_qyx:Stmt:=top 28
noncomputable abbrev s_qzk:Stmt:=top 29
noncomputable abbrev s_qqv:Stmt:=inClass (top 30) 0
noncomputable abbrev s_qwz:Stmt:=inClass (top 30) 1
noncomputable abbrev s_qqw:Stmt:=inClass (top 30) 2
noncomputable abbrev s_qqq:Stmt:=inClass (top 30) 3
noncomputable abbrev s_qqx:Stmt:=inClass (top 30) 4
noncomputable abbrev s_qqy:Stmt:=inClass (top 30) 5
noncomputable abbrev s_qqz:Stmt:=inClass (top 30) 6
noncomputable abbrev s_qzz:Stmt:=top 31
noncomputable abbrev s_qyz:Stmt:=top 32
noncomputable abbrev s_qwk:Stmt:=top 33
noncomputable abbrev s_qzj:Stmt:=top 34
noncomputable abbrev s_qwx:Stmt:=top 36
noncomputable abbrev s_qwv:Stmt:=top 37
noncomputable abbrev s_qzw:Stmt:=top 38
noncomputable abbrev s_qzq:Stmt:=top 39
noncomputable abbrev s_qwy:Stmt:=top 40
noncomputable abbrev s_qwj:Stmt:=top 41
noncomputable abbrev s_qyy:Stmt:=top 42
noncomputable abbrev s_qzy:Stmt:=top 43
noncomputable abbrev s_qyw:Stmt:=top 44
noncomputable abbrev s_qqk:Stmt:=top 45
noncomputable abbrev s_law:Stmt:=top 46
theorem bt_all:bootBuiltins "all" = some (.builtin "all"):=by decide +kernel
theorem bt_int:bootBuiltins "int" = some (.type "int"):=by decide +kernel
theorem bt_isinstance:bootBuiltins "isinstance" = some (.builtin "isinstance"):=by decide +kernel
theorem bt_len:bootBuiltins "len" = some (.builtin "len"):=by decide +kernel
theorem bt_list:bootBuiltins "list" = some (.type "list"):=by decide +kernel
theorem bt_str:bootBuiltins "str" = some (.type "str"):=by decide +kernel
theorem relI {i:Int}{t:Tok}:RelV (.int i) (.int i t):=⟨t,rfl⟩
theorem relT {n:String}:RelV (.ty n) (.type n):=rfl
theorem relS {x:Str}{t:Tok}:RelV (.str x) (.str x t):=⟨t,rfl⟩
set_option genInjectivity false in
structure Ad where
 qqj:Addr
 fd_qqj:FuncData
 qxy:Addr
 fd_qxy:FuncData
 qww:Addr
 fd_qww:FuncData
 qxz:Addr
 fd_qxz:FuncData
 qyq:Addr
 fd_qyq:FuncData
 qyj:Addr
 fd_qyj:FuncData
 qyx:Addr
 fd_qyx:FuncData
 qzk:Addr
 fd_qzk:FuncData
 qqv:Addr
 fd_qqv:FuncData
 qwz:Addr
 fd_qwz:FuncData
 qqw:Addr
 fd_qqw:FuncData
 qqq:Addr
 fd_qqq:FuncData
 qqx:Addr
 fd_qqx:FuncData
 qqy:Addr
 fd_qqy:FuncData
 qqz:Addr
 fd_qqz:FuncData
 qzz:Addr
 fd_qzz:FuncData
 qyz:Addr
 fd_qyz:FuncData
 qwk:Addr
 fd_qwk:FuncData
 qzj:Addr
 fd_qzj:FuncData
 qwx:Addr
 fd_qwx:FuncData
 qwv:Addr
 fd_qwv:FuncData
 qzw:Addr
 fd_qzw:FuncData
 qzq:Addr
 fd_qzq:FuncData
 qwy:Addr
 fd_qwy:FuncData
 qwj:Addr
 fd_qwj:FuncData
 qyy:Addr
 fd_qyy:FuncData
 qzy:Addr
 fd_qzy:FuncData
 qyw:Addr
 fd_qyw:FuncData
 qqk:Addr
 fd_qqk:FuncData
 law:Addr
 fd_law:FuncData
 t_qyv:Tok
 o_qwq:Addr
 t_qyk:Tok
 t_qzx:Tok
 c_High:Addr
 c_qzv:Addr
 c_Low:Addr
 c_Near:Addr
 c_qxw:Addr
 c_qxx:Addr
 c_qxq:Addr
 c_qxk:Addr
 c_qxj:Addr
set_option genInjectivity false in
structure Txt (w:World) (K:Wf) (mg:So) (A:Ad):Prop where
 k_qqj:PySem.W.keepIn K (.ref A.qqj)=true
 b_qqj:Binds K A.fd_qqj ["self", "row"] []
 F_qqj:Fun K "__init__" "NoPiece.__init__" s_qqj A.qqj A.fd_qqj
 m_qxy:mg "rule_of" = some (.ref A.qxy)
 k_qxy:PySem.W.keepIn K (.ref A.qxy)=true
 b_qxy:Binds K A.fd_qxy ["title"] []
 F_qxy:Fun K "rule_of" "rule_of" s_qxy A.qxy A.fd_qxy
 k_qww:PySem.W.keepIn K (.ref A.qww)=true
 b_qww:Binds K A.fd_qww ["self", "title"] []
 F_qww:Fun K "__init__" "Rule.__init__" s_qww A.qww A.fd_qww
 m_qxz:mg "is_name" = some (.ref A.qxz)
 k_qxz:PySem.W.keepIn K (.ref A.qxz)=true
 b_qxz:Binds K A.fd_qxz ["text"] []
 F_qxz:Fun K "is_name" "is_name" s_qxz A.qxz A.fd_qxz
 m_qyq:mg "number_of" = some (.ref A.qyq)
 k_qyq:PySem.W.keepIn K (.ref A.qyq)=true
 b_qyq:Binds K A.fd_qyq ["text", "least", "most"] []
 F_qyq:Fun K "number_of" "number_of" s_qyq A.qyq A.fd_qyq
 m_qyj:mg "step_in" = some (.ref A.qyj)
 k_qyj:PySem.W.keepIn K (.ref A.qyj)=true
 b_qyj:Binds K A.fd_qyj ["text"] []
 F_qyj:Fun K "step_in" "step_in" s_qyj A.qyj A.fd_qyj
 m_qyx:mg "is_title" = some (.ref A.qyx)
 k_qyx:PySem.W.keepIn K (.ref A.qyx)=true
 b_qyx:Binds K A.fd_qyx ["text"] []
 F_qyx:Fun K "is_title" "is_title" s_qyx A.qyx A.fd_qyx
 m_qzk:mg "read_piece" = some (.ref A.qzk)
 k_qzk:PySem.W.keepIn K (.ref A.qzk)=true
 b_qzk:Binds K A.fd_qzk ["text"] []
 F_qzk:Fun K "read_piece" "read_piece" s_qzk A.qzk A.fd_qzk
 k_qqv:PySem.W.keepIn K (.ref A.qqv)=true
 b_qqv:Binds K A.fd_qqv ["self"] []
 F_qqv:Fun K "__init__" "Reading.__init__" s_qqv A.qqv A.fd_qqv
 k_qwz:PySem.W.keepIn K (.ref A.qwz)=true
 b_qwz:Binds K A.fd_qwz ["self", "parts"] []
 F_qwz:Fun K "takes" "Reading.takes" s_qwz A.qwz A.fd_qwz
 k_qqw:PySem.W.keepIn K (.ref A.qqw)=true
 b_qqw:Binds K A.fd_qqw ["self", "name"] []
 F_qqw:Fun K "takes_piece" "Reading.takes_piece" s_qqw A.qqw A.fd_qqw
 k_qqq:PySem.W.keepIn K (.ref A.qqq)=true
 b_qqq:Binds K A.fd_qqq ["self", "kind", "text"] []
 F_qqq:Fun K "takes_stretch" "Reading.takes_stretch" s_qqq A.qqq A.fd_qqq
 k_qqx:PySem.W.keepIn K (.ref A.qqx)=true
 b_qqx:Binds K A.fd_qqx ["self", "text"] []
 F_qqx:Fun K "takes_word" "Reading.takes_word" s_qqx A.qqx A.fd_qqx
 k_qqy:PySem.W.keepIn K (.ref A.qqy)=true
 b_qqy:Binds K A.fd_qqy ["self", "soft", "rule", "name", "text"] []
 F_qqy:Fun K "takes_fill" "Reading.takes_fill" s_qqy A.qqy A.fd_qqy
 k_qqz:PySem.W.keepIn K (.ref A.qqz)=true
 b_qqz:Binds K A.fd_qqz ["self", "sort", "name"] []
 F_qqz:Fun K "takes_told" "Reading.takes_told" s_qqz A.qqz A.fd_qqz
 m_qzz:mg "shown_piece" = some (.ref A.qzz)
 k_qzz:PySem.W.keepIn K (.ref A.qzz)=true
 b_qzz:Binds K A.fd_qzz ["piece"] []
 F_qzz:Fun K "shown_piece" "shown_piece" s_qzz A.qzz A.fd_qzz
 m_qyz:mg "name_rows" = some (.ref A.qyz)
 k_qyz:PySem.W.keepIn K (.ref A.qyz)=true
 b_qyz:Binds K A.fd_qyz ["names"] []
 F_qyz:Fun K "name_rows" "name_rows" s_qyz A.qyz A.fd_qyz
 m_qwk:mg "stretch_rows" = some (.ref A.qwk)
 k_qwk:PySem.W.keepIn K (.ref A.qwk)=true
 b_qwk:Binds K A.fd_qwk ["number", "stretch", "names"] []
 F_qwk:Fun K "stretch_rows" "stretch_rows" s_qwk A.qwk A.fd_qwk
 m_qzj:mg "fill_rows" = some (.ref A.qzj)
 k_qzj:PySem.W.keepIn K (.ref A.qzj)=true
 b_qzj:Binds K A.fd_qzj ["fills"] []
 F_qzj:Fun K "fill_rows" "fill_rows" s_qzj A.qzj A.fd_qzj
 m_qwx:mg "_law_cell_at" = some (.ref A.qwx)
 k_qwx:PySem.W.keepIn K (.ref A.qwx)=true
 b_qwx:Binds K A.fd_qwx ["_law_script", "_law_k"] []
 F_qwx:Fun K "_law_cell_at" "_law_cell_at" s_qwx A.qwx A.fd_qwx
 m_qwv:mg "_law_name_by" = some (.ref A.qwv)
 k_qwv:PySem.W.keepIn K (.ref A.qwv)=true
 b_qwv:Binds K A.fd_qwv ["_law_cell", "_law_k"] []
 F_qwv:Fun K "_law_name_by" "_law_name_by" s_qwv A.qwv A.fd_qwv
 m_qzw:mg "_law_add_by" = some (.ref A.qzw)
 k_qzw:PySem.W.keepIn K (.ref A.qzw)=true
 b_qzw:Binds K A.fd_qzw ["_law_number"] []
 F_qzw:Fun K "_law_add_by" "_law_add_by" s_qzw A.qzw A.fd_qzw
 m_qzq:mg "_law_fill_by" = some (.ref A.qzq)
 k_qzq:PySem.W.keepIn K (.ref A.qzq)=true
 b_qzq:Binds K A.fd_qzq ["_law_number", "_law_at", "_law_names_by"] []
 F_qzq:Fun K "_law_fill_by" "_law_fill_by" s_qzq A.qzq A.fd_qzq
 m_qwy:mg "_law_fill_row" = some (.ref A.qwy)
 k_qwy:PySem.W.keepIn K (.ref A.qwy)=true
 b_qwy:Binds K A.fd_qwy ["_law_fill"] []
 F_qwy:Fun K "_law_fill_row" "_law_fill_row" s_qwy A.qwy A.fd_qwy
 m_qwj:mg "_law_word_by" = some (.ref A.qwj)
 k_qwj:PySem.W.keepIn K (.ref A.qwj)=true
 b_qwj:Binds K A.fd_qwj ["_law_cell"] []
 F_qwj:Fun K "_law_word_by" "_law_word_by" s_qwj A.qwj A.fd_qwj
 m_qyy:mg "_law_put" = some (.ref A.qyy)
 k_qyy:PySem.W.keepIn K (.ref A.qyy)=true
 b_qyy:Binds K A.fd_qyy ["_law_cell", "_law_names_by", "_law_stretches", "_law_told"] []
 F_qyy:Fun K "_law_put" "_law_put" s_qyy A.qyy A.fd_qyy
 m_qzy:mg "_law_built" = some (.ref A.qzy)
 k_qzy:PySem.W.keepIn K (.ref A.qzy)=true
 b_qzy:Binds K A.fd_qzy ["_law_script"] []
 F_qzy:Fun K "_law_built" "_law_built" s_qzy A.qzy A.fd_qzy
 m_qyw:mg "_law_copy" = some (.ref A.qyw)
 k_qyw:PySem.W.keepIn K (.ref A.qyw)=true
 b_qyw:Binds K A.fd_qyw ["_law_piece"] []
 F_qyw:Fun K "_law_copy" "_law_copy" s_qyw A.qyw A.fd_qyw
 m_qqk:mg "_law_word_turned" = some (.ref A.qqk)
 k_qqk:PySem.W.keepIn K (.ref A.qqk)=true
 b_qqk:Binds K A.fd_qqk ["_law_piece", "_law_text"] []
 F_qqk:Fun K "_law_word_turned" "_law_word_turned" s_qqk A.qqk A.fd_qqk
 m_law:mg "law" = some (.ref A.law)
 k_law:PySem.W.keepIn K (.ref A.law)=true
 b_law:Binds K A.fd_law ["_law_script"] []
 F_law:Fun K "law" "law" s_law A.law A.fd_law
 g_qyv:mg "FIGURES" = some (.str "0123456789" A.t_qyv)
 g_qwq:mg "HOW_MANY_PARTS" = some (.ref A.o_qwq)
 q_qwq:KDict w K A.o_qwq [(Sum.inr "piece", V.int 2),(Sum.inr "code", V.int 2),(Sum.inr "data", V.int 2),(Sum.inr "word", V.int 2),(Sum.inr "fill", V.int 4),(Sum.inr "soft", V.int 4),(Sum.inr "tell", V.int 2),(Sum.inr "weak", V.int 2),(Sum.inr "own", V.int 2)]
 g_qyk:mg "LETTERS" = some (.str "abcdefghijklmnopqrstuvwxyz" A.t_qyk)
 g_qzx:mg "NAME_SIGNS" = some (.str "abcdefghijklmnopqrstuvwxyz0123456789_" A.t_qzx)
 n_all:mg "all" = none
 n_enumerate:mg "enumerate" = none
 n_int:mg "int" = none
 n_isinstance:mg "isinstance" = none
 n_len:mg "len" = none
 n_list:mg "list" = none
 n_range:mg "range" = none
 n_str:mg "str" = none
 mc_High:mg "High" = some (.ref A.c_High)
 cl_High:Cls K A.c_High
 mc_qzv:mg "JoinError" = some (.ref A.c_qzv)
 mc_Low:mg "Low" = some (.ref A.c_Low)
 cl_Low:Cls K A.c_Low
 mc_Near:mg "Near" = some (.ref A.c_Near)
 cl_Near:Cls K A.c_Near
 mc_qxw:mg "NoPiece" = some (.ref A.c_qxw)
 mc_qxx:mg "NoRule" = some (.ref A.c_qxx)
 mc_qxq:mg "Reading" = some (.ref A.c_qxq)
 cl_qxq:Cls K A.c_qxq
 mc_qxk:mg "Split" = some (.ref A.c_qxk)
 cl_qxk:Cls K A.c_qxk
 mc_qxj:mg "Whole" = some (.ref A.c_qxj)
 cl_qxj:Cls K A.c_qxj
 kj:PySem.W.mroIn K A.c_qxx (.ref A.c_qxx)=some true
 xg_qxx:PySem.W.findIn K (.ref A.c_qxx) "__getattribute__" = some (some (.builtin "BaseException.__getattribute__"))
 xn_qxx:PySem.W.findIn K (.ref A.c_qxx) "__getattr__" = some none
 xl_qxx:PySem.W.findIn K (.ref A.c_qxx) "__class__" = some (some (.builtin "object.__class__"))
 xo_qxx:PySem.W.mroIn K A.c_qxx (.type "object")=some true
 xb_qxx:PySem.W.mroIn K A.c_qxx (.type "BaseException")=some true
 xg_qxw:PySem.W.findIn K (.ref A.c_qxw) "__getattribute__" = some (some (.builtin "BaseException.__getattribute__"))
 xn_qxw:PySem.W.findIn K (.ref A.c_qxw) "__getattr__" = some none
 xl_qxw:PySem.W.findIn K (.ref A.c_qxw) "__class__" = some (some (.builtin "object.__class__"))
 xo_qxw:PySem.W.mroIn K A.c_qxw (.type "object")=some true
 xb_qxw:PySem.W.mroIn K A.c_qxw (.type "BaseException")=some true
 sp_cl:PySem.W.specialIn K (.builtin "object.__class__") "__get__" = some (some (.builtin "getset_descriptor.__get__"))
 tk_cl:PySem.W.takesIn K (.builtin "object.__class__")=some true
 xi_qxx:PySem.W.excIn K A.c_qxx [.type "ValueError", .type "Exception", .type "BaseException", .type "object"] "ValueError.__new__" = true
 ei_qxw:ownInit K A.c_qxw A.qqj=true
 ee_qxw:errIn K A.c_qxw=true
 es_qxw:PySem.W.findIn K (.ref A.c_qxw) "__setattr__" = some (some (.builtin "object.__setattr__"))
 br_qzv:PySem.W.readsIn K A.c_qzv (.type "type")=true
 bf_qzv:PySem.W.findCls K (.ref A.c_qzv) (.type "type") "__init__" = some (.val (.builtin "ValueError.__init__"))
 bg_qzv:PySem.W.specialIn K (.ref A.c_qzv) "__getattribute__" = some (some (.builtin "type.__getattribute__"))
 ct_qxx:PySem.W.instIn K (.ref A.c_qxx) (.type "tuple")=some false
 cb_qxx:PySem.W.mroIn K A.c_qxx (.type "BaseException")=some true
 er_qxw:ErrC K A.c_qxw A.qqj
 bi_qzv:BaseI K A.c_qzv
 mk_High:Mk K A.c_High A.qww
 mk_Low:Mk K A.c_Low A.qww
 mk_Near:Mk K A.c_Near A.qww
 mk_qxq:Mk K A.c_qxq A.qqv
 mk_qxk:Mk K A.c_qxk A.qww
 mk_qxj:Mk K A.c_qxj A.qww
 me_qwz:Meth K A.c_qxq "takes" A.qwz
 me_qqy:Meth K A.c_qxq "takes_fill" A.qqy
 me_qqw:Meth K A.c_qxq "takes_piece" A.qqw
 me_qqq:Meth K A.c_qxq "takes_stretch" A.qqq
 me_qqz:Meth K A.c_qxq "takes_told" A.qqz
 me_qqx:Meth K A.c_qxq "takes_word" A.qqx
 no_qxw_row:NoAttr K A.c_qxw "row"
 no_qxq_name:NoAttr K A.c_qxq "name"
 no_qxq_stretches:NoAttr K A.c_qxq "stretches"
 no_qxq_names:NoAttr K A.c_qxq "names"
 no_qxq_last_words:NoAttr K A.c_qxq "last_words"
 no_qxq_last_fills:NoAttr K A.c_qxq "last_fills"
 no_qxq_told:NoAttr K A.c_qxq "told"
 no_qxq_behind_word:NoAttr K A.c_qxq "behind_word"
 no_qxj_title:NoAttr K A.c_qxj "title"
 no_High_title:NoAttr K A.c_High "title"
 no_Low_title:NoAttr K A.c_Low "title"
 no_Near_title:NoAttr K A.c_Near "title"
 no_qxk_title:NoAttr K A.c_qxk "title"
theorem sc_qqj:FnScope ["self", "row"] ["self", "row"] (defScope s_qqj):=⟨rfl,rfl,rfl,by decide +kernel,rfl,by decide +kernel,by decide +kernel⟩
theorem sc_qxy:FnScope ["title"] ["title"] (defScope s_qxy):=⟨rfl,rfl,rfl,by decide +kernel,rfl,by decide +kernel,by decide +kernel⟩
theorem sc_qww:FnScope ["self", "title"] ["self", "title"] (defScope s_qww):=⟨rfl,rfl,rfl,by decide +kernel,rfl,by decide +kernel,by decide +kernel⟩
theorem sc_qxz:FnScope ["text"] ["text"] (defScope s_qxz):=⟨rfl,rfl,rfl,by decide +kernel,rfl,by decide +kernel,by decide +kernel⟩
theorem sc_qyq:FnScope ["text", "least", "most", "figures", "number"] ["text", "least", "most"] (defScope s_qyq):=⟨rfl,rfl,rfl,by decide +kernel,rfl,by decide +kernel,by decide +kernel⟩
theorem sc_qyj:FnScope ["text", "step"] ["text"] (defScope s_qyj):=⟨rfl,rfl,rfl,by decide +kernel,rfl,by decide +kernel,by decide +kernel⟩
theorem sc_qyx:FnScope ["text"] ["text"] (defScope s_qyx):=⟨rfl,rfl,rfl,by decide +kernel,rfl,by decide +kernel,by decide +kernel⟩
theorem sc_qzk:FnScope ["text", "reading", "number", "row"] ["text"] (defScope s_qzk):=⟨rfl,rfl,rfl,by decide +kernel,rfl,by decide +kernel,by decide +kernel⟩
theorem sc_qqv:FnScope ["self"] ["self"] (defScope s_qqv):=⟨rfl,rfl,rfl,by decide +kernel,rfl,by decide +kernel,by decide +kernel⟩
theorem sc_qwz:FnScope ["self", "parts", "head", "behind_word"] ["self", "parts"] (defScope s_qwz):=⟨rfl,rfl,rfl,by decide +kernel,rfl,by decide +kernel,by decide +kernel⟩
theorem sc_qqw:FnScope ["self", "name"] ["self", "name"] (defScope s_qqw):=⟨rfl,rfl,rfl,by decide +kernel,rfl,by decide +kernel,by decide +kernel⟩
theorem sc_qqq:FnScope ["self", "kind", "text", "step"] ["self", "kind", "text"] (defScope s_qqq):=⟨rfl,rfl,rfl,by decide +kernel,rfl,by decide +kernel,by decide +kernel⟩
theorem sc_qqx:FnScope ["self", "text", "word"] ["self", "text"] (defScope s_qqx):=⟨rfl,rfl,rfl,by decide +kernel,rfl,by decide +kernel,by decide +kernel⟩
theorem sc_qqy:FnScope ["self", "soft", "rule", "name", "text", "add"] ["self", "soft", "rule", "name", "text"] (defScope s_qqy):=⟨rfl,rfl,rfl,by decide +kernel,rfl,by decide +kernel,by decide +kernel⟩
theorem sc_qqz:FnScope ["self", "sort", "name"] ["self", "sort", "name"] (defScope s_qqz):=⟨rfl,rfl,rfl,by decide +kernel,rfl,by decide +kernel,by decide +kernel⟩
theorem sc_qzz:FnScope ["piece", "name", "names", "rows", "number", "stretch"] ["piece"] (defScope s_qzz):=⟨rfl,rfl,rfl,by decide +kernel,rfl,by decide +kernel,by decide +kernel⟩
theorem sc_qyz:FnScope ["names", "rows", "name", "sort", "stretch", "offset"] ["names"] (defScope s_qyz):=⟨rfl,rfl,rfl,by decide +kernel,rfl,by decide +kernel,by decide +kernel⟩
theorem sc_qwk:FnScope ["number", "stretch", "names", "kind", "step", "words", "fills", "rows", "at", "word"] ["number", "stretch", "names"] (defScope s_qwk):=⟨rfl,rfl,rfl,by decide +kernel,rfl,by decide +kernel,by decide +kernel⟩
theorem sc_qzj:FnScope ["fills", "rows", "at", "rule", "name", "add", "soft", "head"] ["fills"] (defScope s_qzj):=⟨rfl,rfl,rfl,by decide +kernel,rfl,by decide +kernel,by decide +kernel⟩
theorem sc_qwx:FnScope ["_law_script", "_law_k"] ["_law_script", "_law_k"] (defScope s_qwx):=⟨rfl,rfl,rfl,by decide +kernel,rfl,by decide +kernel,by decide +kernel⟩
theorem sc_qwv:FnScope ["_law_cell", "_law_k", "_law_signs", "_law_base", "_law_j", "_law_at", "_law_figures"] ["_law_cell", "_law_k"] (defScope s_qwv):=⟨rfl,rfl,rfl,by decide +kernel,rfl,by decide +kernel,by decide +kernel⟩
theorem sc_qzw:FnScope ["_law_number"] ["_law_number"] (defScope s_qzw):=⟨rfl,rfl,rfl,by decide +kernel,rfl,by decide +kernel,by decide +kernel⟩
theorem sc_qzq:FnScope ["_law_number", "_law_at", "_law_names_by", "_law_rule", "_law_soft"] ["_law_number", "_law_at", "_law_names_by"] (defScope s_qzq):=⟨rfl,rfl,rfl,by decide +kernel,rfl,by decide +kernel,by decide +kernel⟩
theorem sc_qwy:FnScope ["_law_fill"] ["_law_fill"] (defScope s_qwy):=⟨rfl,rfl,rfl,by decide +kernel,rfl,by decide +kernel,by decide +kernel⟩
theorem sc_qwj:FnScope ["_law_cell"] ["_law_cell"] (defScope s_qwj):=⟨rfl,rfl,rfl,by decide +kernel,rfl,by decide +kernel,by decide +kernel⟩
theorem sc_qyy:FnScope ["_law_cell", "_law_names_by", "_law_stretches", "_law_told", "_law_number", "_law_kind", "_law_step", "_law_stretch", "_law_name", "_law_sort", "_law_rows"] ["_law_cell", "_law_names_by", "_law_stretches", "_law_told"] (defScope s_qyy):=⟨rfl,rfl,rfl,by decide +kernel,rfl,by decide +kernel,by decide +kernel⟩
theorem sc_qzy:FnScope ["_law_script", "_law_names_by", "_law_title", "_law_stretches", "_law_told", "_law_rows", "_law_cell"] ["_law_script"] (defScope s_qzy):=⟨rfl,rfl,rfl,by decide +kernel,rfl,by decide +kernel,by decide +kernel⟩
theorem sc_qyw:FnScope ["_law_piece", "_law_stretches"] ["_law_piece"] (defScope s_qyw):=⟨rfl,rfl,rfl,by decide +kernel,rfl,by decide +kernel,by decide +kernel⟩
theorem sc_qqk:FnScope ["_law_piece", "_law_text", "_law_kind", "_law_step", "_law_words", "_law_fills", "_law_kept", "_law_other"] ["_law_piece", "_law_text"] (defScope s_qqk):=⟨rfl,rfl,rfl,by decide +kernel,rfl,by decide +kernel,by decide +kernel⟩
theorem sc_law:FnScope ["_law_script", "_law_rows", "_law_piece", "_law_due", "_law_handed", "_law_text", "_law_found"] ["_law_script"] (defScope s_law):=⟨rfl,rfl,rfl,by decide +kernel,rfl,by decide +kernel,by decide +kernel⟩
theorem cK {CX P w K mg base N qual scope f cd Ar outer s H E}:(cxOf CX P w K mg base N qual scope f cd Ar outer s H E).K=K:=rfl
theorem bK {X:Cx}{N':List Str}{scope:Scope}{fp:List Addr}{s:Shared}{H:Hp}:(blk X N' scope fp s H).K=X.K:=rfl
theorem slen (a b:Str):(a++b).length=a.length+b.length:=Array.size_append
theorem atI_ex {α:Type}{xs:List α}{i:Int}(h1 : -(xs.length:Int)≤i) (h2:i<xs.length):∃v,atI xs i=some v∧v∈xs:=by
 unfold atI ixN
 by_cases h0:0≤i
 ·have hl:i.toNat<xs.length:=by omega
  refine⟨xs[i.toNat],?_,List.getElem_mem hl⟩
  rw[if_pos h0,if_pos h2]
  show xs[i.toNat]?=_
  rw[List.getElem?_eq_getElem hl]
 ·have hl:(i+xs.length).toNat<xs.length:=by omega
  refine⟨xs[(i+xs.length).toNat],?_,List.getElem_mem hl⟩
  rw[if_neg h0,if_pos h1]
  show xs[(i+xs.length).toNat]?=_
  rw[List.getElem?_eq_getElem hl]
def RC (A:Ad) (C:Addr):Prop:=C=A.c_qxj∨C=A.c_High∨C=A.c_Low∨C=A.c_Near∨C=A.c_qxk
noncomputable def clsOf (A:Ad) (z:Str):Option Addr:=if z=Str.ofString "whole" then some A.c_qxj else if z=Str.ofString "high" then some A.c_High else if z=Str.ofString "low" then some A.c_Low else if z=Str.ofString "near" then some A.c_Near else if z=Str.ofString "split" then some A.c_qxk else none
def isT (z:Str):Prop:=z=Str.ofString "whole" ∨ z=Str.ofString "high" ∨ z=Str.ofString "low" ∨ z=Str.ofString "near" ∨ z=Str.ofString "split"
def IsRule (C:Addr) (z:Str) (H:Hp) (p:Addr):Prop:=∃dx,H p=some (.ins C dx [("title", .str z)])
def sp_init (A:Ad):Sp:=fun vs H Q _=>∃(p dx C:Addr) (x:V),vs=[.ref p,x]∧H p=some (.ins C dx [])∧RC A C∧Q .non (upd H p (.ins C dx [("title", x)]))
def sp_rule (A:Ad):Sp:=fun vs H Q E=>∃z:Str,vs=[.str z]∧z.length≤600∧Sg z∧(∀C,clsOf A z=some C→∀p H',Same H H'→IsRule C z H' p→Q (.ref p) H')∧(clsOf A z=none→E (.ref A.c_qxx) none H)
noncomputable def occ (j i:Str):Bool := !(Builtin.Str.occurrences j i 0 j.length 1).isEmpty
noncomputable def isNm (z:Str):Bool:=decide (1≤z.length)&&decide (z.length≤16)&&(z.cps.toList.take 1).all (fun c=>occ "abcdefghijklmnopqrstuvwxyz" ⟨#[c]⟩)&&z.cps.toList.all (fun c=>occ "abcdefghijklmnopqrstuvwxyz0123456789_" ⟨#[c]⟩)
def sp_nm:Sp:=fun vs H Q _=>∃z:Str,vs=[.str z]∧z.length≤600∧∀H',Same H H'→Q (.bl (isNm z)) H'
def sp_num:Sp:=fun vs H Q _=>∃(z:Str) (lo hi:Int),vs=[.str z,.int lo,.int hi]∧z.length≤600∧∀H',Same H H'→Q (numF z lo hi) H'
noncomputable def stepF (z:Str):V:=match numF z 1 65536 with | .int n=>if Builtin.bitAnd n (n - 1)=0 then .int n else .non | _=>.non
def sp_stepT:Sp:=fun vs H Q _=>∃z:Str,vs=[.str z]∧z.length≤600∧∀H',Same H H'→Q (stepF z) H'
noncomputable def nS (n:Int):Str:=Str.ofString (toString n)
instance (z:Str):Decidable (isT z):=by unfold isT;exact inferInstance
def sp_istitle:Sp:=fun vs H Q _=>∃z:Str,vs=[.str z]∧z.length≤600∧Sg z∧∀H',Same H H'→Q (.bl (decide (isT z))) H'
set_option genInjectivity false in
structure Pd where
 p:Addr
 dx:Addr
 nm:V
 ls:Addr
 ln:Addr
 lw:V
 lf:V
 td:Addr
 bw:Bool
noncomputable def Pd.fs (R:Pd):List (Str×V):=[("name", R.nm),("stretches", .ref R.ls),("names", .ref R.ln),("last_words", R.lw),("last_fills", R.lf),("told", .ref R.td),("behind_word", .bl R.bw)]
def sp_dinit (A:Ad):Sp:=fun vs H Q _=>∃p dx:Addr,vs=[.ref p]∧H p=some (.ins A.c_qxq dx [])∧
 ∀a b d H',a≠b→H a=none→H b=none→H d=none→(∀x o,x≠p→H x=some o→H' x=some o)→H' a=some (.lst [])→H' b=some (.lst [])→H' d=some (.dK [])→
  H' p=some (.ins A.c_qxq dx (Pd.fs ⟨p,dx,.non,a,b,.non,.non,d,false⟩))→Q .non H'
def sp_dpiece (A:Ad):Sp:=fun vs H Q _=>∃(R:Pd) (z:Str),vs=[.ref R.p,.str z]∧H R.p=some (.ins A.c_qxq R.dx R.fs)∧z.length≤600∧
 ((isNm z=true∧∀H',(∀x o,x≠R.p→H x=some o→H' x=some o)→H' R.p=some (.ins A.c_qxq R.dx (Pd.fs { R with nm:=.str z }))→Q (.bl true) H')∨(isNm z=false∧∀H',Same H H'→Q (.bl false) H'))
def sp_dst (A:Ad):Sp:=fun vs H Q _=>∃(R:Pd) (kd z:Str) (xs:List V),vs=[.ref R.p,.str kd,.str z]∧H R.p=some (.ins A.c_qxq R.dx R.fs)∧H R.ls=some (.lst xs)∧xs.length≤1000∧z.length≤600∧
 ((∃n,stepF z=.int n∧∀lw lf t H',lw≠lf→H lw=none→H lf=none→H t=none→(∀x o,x≠R.p→x≠R.ls→H x=some o→H' x=some o)→H' lw=some (.lst [])→H' lf=some (.lst [])→H' t=some (.tup [.str kd,.int n,.ref lw,.ref lf])→H' R.ls=some (.lst (xs++[.ref t]))→
  H' R.p=some (.ins A.c_qxq R.dx (Pd.fs { R with lw:=.ref lw,lf:=.ref lf }))→Q (.bl true) H')∨(stepF z=.non∧∀H',Same H H'→Q (.bl false) H'))
def sp_dword (A:Ad):Sp:=fun vs H Q _=>∃(R:Pd) (z:Str) (l:Addr) (ws:List V),vs=[.ref R.p,.str z]∧H R.p=some (.ins A.c_qxq R.dx R.fs)∧R.lw=.ref l∧H l=some (.lst ws)∧ws.length≤1000∧z.length≤600∧
 ((∃n,numF z 0 4294967295=.int n∧∀H',(∀x o,x≠l→H x=some o→H' x=some o)→H' l=some (.lst (ws++[.int n]))→Q (.bl true) H')∨(numF z 0 4294967295=.non∧∀H',Same H H'→Q (.bl false) H'))
def softBad (soft:Bool) (r:Str):Prop:=soft=true∧(r=Str.ofString "near" ∨ r=Str.ofString "split")
def sp_dfill (A:Ad):Sp:=fun vs H Q _=>∃(R:Pd) (soft:Bool) (r nm z:Str) (l l2:Addr) (ws gs:List V),vs=[.ref R.p,.bl soft,.str r,.str nm,.str z]∧H R.p=some (.ins A.c_qxq R.dx R.fs)∧R.lw=.ref l∧H l=some (.lst ws)∧R.lf=.ref l2∧H l2=some (.lst gs)∧ws.length≤1000∧gs.length≤1000∧z.length≤600∧nm.length≤600∧r.length≤600∧Sg r∧
 ((∃ n, numF z (-2147483648) 2147483647 = .int n ∧ isT r ∧ isNm nm = true ∧ ¬ softBad soft r ∧ ∀ t H', H t = none → (∀ x o, x ≠ l2 → H x = some o → H' x = some o) → H' t = some (.tup [.int ((ws.length : Int) - 1), .str r, .str nm, .int n, .bl soft]) → H' l2 = some (.lst (gs ++ [.ref t])) → Q (.bl true) H') ∨
  ((numF z (-2147483648) 2147483647=.non∨¬isT r∨isNm nm=false∨softBad soft r)∧∀H',Same H H'→Q (.bl false) H'))
def sp_dtold (A:Ad):Sp:=fun vs H Q _=>∃(R:Pd) (sort nm:Str) (l:Addr) (ws xs ns:List V) (kvs:List (Key×V)),vs=[.ref R.p,.str sort,.str nm]∧H R.p=some (.ins A.c_qxq R.dx R.fs)∧R.lw=.ref l∧H l=some (.lst ws)∧H R.ls=some (.lst xs)∧H R.ln=some (.lst ns)∧H R.td=some (.dK kvs)∧ns.length≤1000∧kvs.length≤1000∧nm.length≤600∧
 ((valV kvs (.inr nm) = none ∧ isNm nm = true ∧ ∀ t H', H t = none → (∀ x o, x ≠ R.ln → x ≠ R.td → H x = some o → H' x = some o) → H' R.td = some (.dK (putK kvs (.inr nm) (.bl true))) → H' t = some (.tup [.str nm, .str sort, .int ((xs.length : Int) - 1), .int (ws.length : Int)]) → H' R.ln = some (.lst (ns ++ [.ref t])) → Q (.bl true) H') ∨
  (((valV kvs (.inr nm)).isSome=true∨isNm nm=false)∧∀H',Same H H'→Q (.bl false) H'))
noncomputable abbrev FillC:=Int×Str×Str×Int×Bool
noncomputable abbrev StC:=Str×Int×List Int×List FillC
noncomputable abbrev ToldC:=Str×Str×Int×Int
noncomputable def fC (f:FillM):FillC:=(f.at_,f.rule,f.name,f.add,f.soft)
noncomputable def sC (s:StM):StC:=(s.kind,s.step,s.words,s.fills.map fC)
noncomputable def nC (n:ToldM):ToldC:=(n.name,n.sort,n.st,n.off)
inductive PRow where
 | piece (nm:Str)
 | st (kd:Str) (s:Int)
 | word (n:Int)
 | fill (soft:Bool) (r nm:Str) (add:Int)
 | told (sort nm:Str)
noncomputable def PRow.parts:PRow→List Str
 | .piece nm=>["piece", nm]
 | .st kd s=>[kd,nS s]
 | .word n=>["word", nS n]
 | .fill soft r nm add=>[if soft=true then "soft" else "fill", r,nm,nS add]
 | .told sort nm=>[sort,nm]
set_option genInjectivity false in
structure RP where
 nm:Option Str
 sts:List StC
 nms:List ToldC
 bw:Bool
noncomputable def modL {α:Type}(f:α→α):List α→List α
 | []=>[]
 | [x]=>[f x]
 | x::r=>x::modL f r
noncomputable def addWd (n:Int) (x:StC):StC:=(x.1,x.2.1,x.2.2.1++[n],x.2.2.2)
noncomputable def addFl (soft:Bool) (r nm:Str) (add:Int) (x:StC):StC:=(x.1,x.2.1,x.2.2.1,x.2.2.2++[((x.2.2.1.length:Int) - 1,r,nm,add,soft)])
noncomputable def lastW (S:RP):Int:=match S.sts.getLast? with | none=>0 | some x=>(x.2.2.1.length:Int)
noncomputable def RP.next (S:RP):PRow→RP
 | .piece nm=>{ S with nm:=some nm,bw:=false }
 | .st kd s=>{ S with sts:=S.sts++[(kd,s,[],[])],bw:=false }
 | .word n=>{ S with sts:=modL (addWd n) S.sts,bw:=true }
 | .fill soft r nm add=>{ S with sts:=modL (addFl soft r nm add) S.sts,bw:=false }
 | .told sort nm=>{ S with nms:=S.nms++[(nm,sort,(S.sts.length:Int) - 1,lastW S)],bw:=false }
set_option genInjectivity false in
structure Pd.Ok (A:Ad) (H0 H:Hp) (R:Pd) (q:PcM) (S:RP) (m:Nat):Prop where
 sm:Same H0 H
 f:H0 R.p=none∧H0 R.td=none
 fl:∀b∈q.lists,H0 b=none
 top:H R.p=some (.ins A.c_qxq R.dx R.fs)
 nm:R.nm=match S.nm with | none=>.non | some z=>.str z
 ql:q.ls=R.ls∧q.ln=R.ln
 pr:Pr H q
 sts:q.sts.map sC=S.sts
 nms:q.nms.map nC=S.nms
 lw:R.lw=match q.sts.getLast? with | none=>.non | some s=>.ref s.lw
 lf:R.lf=match q.sts.getLast? with | none=>.non | some s=>.ref s.lf
 td:H R.td=some (.dK (S.nms.map fun n=>(Sum.inr n.1,V.bl true)))
 bw:R.bw=S.bw
 n1:q.sts.length≤m∧q.nms.length≤m∧∀s∈q.sts,s.words.length≤m∧s.fills.length≤m
def isSortP (z:Str):Prop:=z=Str.ofString "tell" ∨ z=Str.ofString "weak" ∨ z=Str.ofString "own"
def isKindP (z:Str):Prop:=z=Str.ofString "code" ∨ z=Str.ofString "data"
noncomputable def RP.Takes (S:RP):PRow→Prop
 | .piece nm=>S.nm=none∧isNm nm=true
 | .st kd s=>S.nm≠none∧isKindP kd∧stepF (nS s)=.int s
 | .word n=>S.nm≠none∧S.sts≠[]∧0≤n∧n≤4294967295
 | .fill soft r nm add=>S.nm≠none∧S.sts≠[]∧S.bw=true∧isT r∧isNm nm=true∧¬softBad soft r ∧ -2147483648≤add∧add≤2147483647
 | .told sort nm=>S.nm≠none∧S.sts≠[]∧isSortP sort∧isNm nm=true∧nm∉S.nms.map (·.1)
noncomputable def HMPp:List (Key×V):=[(Sum.inr (Str.ofString "piece"),V.int 2),(Sum.inr (Str.ofString "code"),V.int 2),(Sum.inr (Str.ofString "data"),V.int 2),(Sum.inr (Str.ofString "word"),V.int 2),(Sum.inr (Str.ofString "fill"),V.int 4),(Sum.inr (Str.ofString "soft"),V.int 4),(Sum.inr (Str.ofString "tell"),V.int 2),(Sum.inr (Str.ofString "weak"),V.int 2),(Sum.inr (Str.ofString "own"),V.int 2)]
inductive BadP (S:RP):List Str→Prop where
 | len {h:Str}{r:List Str}:(valV HMPp (.inr h)).getD .non≠V.int ((h::r).length:Int)→BadP S (h::r)
 | first {h:Str}{r:List Str}:¬(h=Str.ofString "piece" ↔ S.nm=none)→BadP S (h::r)
 | piece {a:Str}:isNm a=false→BadP S [Str.ofString "piece", a]
 | st {k a:Str}:isKindP k→stepF a=.non→BadP S [k,a]
 | empty {h:Str}{r:List Str}:S.sts=[]→¬isKindP h→h≠Str.ofString "piece" → BadP S (h::r)
 | word {a:Str}:numF a 0 4294967295=.non→BadP S [Str.ofString "word", a]
 | fill {h a b c:Str}:(h=Str.ofString "fill" ∨ h=Str.ofString "soft")→(S.bw=false∨numF c (-2147483648) 2147483647=.non∨¬isT a∨isNm b=false∨softBad (decide (h=Str.ofString "soft")) a)→BadP S [h,a,b,c]
 | told {h a:Str}:isSortP h→(a∈S.nms.map (·.1)∨isNm a=false)→BadP S [h,a]
def TkQ (A:Ad) (H0:Hp) (R:Pd) (S:RP) (m:Nat) (ps:List Str) (Q:VK):Prop:=
 (∃r:PRow,ps=r.parts∧S.Takes r∧∀(R':Pd) (q':PcM) (H':Hp),R'.p=R.p→Pd.Ok A H0 H' R' q' (S.next r) (m+1)→Q (.bl true) H')∨(BadP S ps∧∀H',Same H0 H'→Q (.bl false) H')
def sp_dtakes (A:Ad):Sp:=fun vs H Q _=>∃(H0:Hp) (R:Pd) (q:PcM) (l:Addr) (h:Str) (ps:List Str) (S:RP) (m:Nat),vs=[.ref R.p,.ref l]∧H l=some (.lst ((h::ps).map V.str))∧Pd.Ok A H0 H R q S m∧m≤400∧(∀p∈h::ps,p.length≤600∧Sg p)∧TkQ A H0 R S m (h::ps) Q
def kA (A:Ad):TS:=fun D σ H=>∃(H0:Hp) (R:Pd) (q:PcM) (l:Addr) (h:Str) (ps:List Str) (S:RP) (m:Nat),σ=[some (.ref R.p),some (.ref l),some (.str h),some (.bl S.bw)]∧H l=some (.lst ((h::ps).map V.str))∧Pd.Ok A H0 H R q { S with bw:=decide (h=Str.ofString "word") } m∧m≤400∧(∀p∈h::ps,p.length≤600∧Sg p)∧(valV HMPp (.inr h)).getD .non=.int ((h::ps).length:Int)∧(h=Str.ofString "piece" ↔ S.nm=none)∧TkQ A H0 R S m (h::ps) D.rt
def Few (p:Int):Prop := -(10 ^ 70)≤p∧p≤10 ^ 70
noncomputable def xdR (p:Int):HO:=.xd [("row", .int p)]
def sp_npinit (A:Ad):Sp:=fun vs H Q _=>∃(a:Addr) (p:Int),vs=[.ref a,.int p]∧H a=some (XN a A.c_qxw none)∧Few p∧
 ∀d H',H d=none→d≠a→(∀b o,b≠a→H b=some o→H' b=some o)→H' a=some (XN a A.c_qxw (some d))→H' d=some (XD d [("row", .int p)])→Q .non H'
noncomputable def prowT (r:PRow):Str:=Txt.join (Str.ofString " ") r.parts
noncomputable def RP0:RP:=⟨none,[],[],false⟩
noncomputable def runP (rows:List PRow) (i:Nat):RP:=(rows.take i).foldl RP.next RP0
def SmP (p:Str):Prop:=p.length≤241∧10∉p.cps.toList∧32∉p.cps.toList∧Sg p
def PRow.Small (r:PRow):Prop:=∀p∈r.parts,SmP p
set_option genInjectivity false in
structure BadAtP (ts:List Str) (good:List PRow) (b:Str) (rest:List Str):Prop where
 eq:ts=good.map prowT++b::rest
 small:∀r∈good,r.Small
 takes:∀(i:Nat) (r:PRow),good[i]?=some r→(runP good i).Takes r
 bad:BadP (runP good good.length) (Txt.split b (Str.ofString " "))
 nl:∀t∈ts,10∉t.cps.toList
 len:∀t∈ts,t.length≤1000
 n:ts.length≤300
 bl:∀p∈Txt.split b (Str.ofString " "),p.length≤600∧Sg p
def sp_readP (A:Ad):Sp:=fun vs H Q E=>(∃rows:List PRow,vs=[.str (Txt.join (Str.ofString "\n") (rows.map prowT))]∧rows≠[]∧rows.length≤300∧(∀r∈rows,r.Small)∧(∀(i:Nat) (r:PRow),rows[i]?=some r→(runP rows i).Takes r)∧
 ∀(t:Addr) (R:Pd) (q:PcM) (H':Hp),Same H H'→H' t=some (.tup [R.nm,.ref R.ls,.ref R.ln])→Pd.Ok A H H' R q (runP rows rows.length) rows.length→Q (.ref t) H') ∨
 ∃(ts:List Str) (good:List PRow) (b:Str) (rest:List Str),vs=[.str (Txt.join (Str.ofString "\n") ts)]∧BadAtP ts good b rest∧
 ∀d H',Same H H'→H' d=some (xdR ((good.length:Int)+1))→E (.ref A.c_qxw) (some d) H'
def sp_whole:Sp:=fun vs H Q _=>∃n:Int,vs=[.int n]∧Q (.bl true) H
def sp_cellat (K:Wf):Sp:=fun vs H Q _=>∃(a:Addr) (ns:List Int) (k:Int),vs=[.ref a,.int k]∧SqL K H a (ns.map V.int)∧0≤k∧∀m:Int,Q (.int m) H
def sp_addby:Sp:=fun vs H Q _=>∃c:Int,vs=[.int c]∧∀(m:Int) (H':Hp),Same H H' → -2147483648≤m→m≤2147483647→Q (.int m) H'
noncomputable def wordF (c:Int):Int:=if c / 8 % 5=0 then (if c / 40 % 2=0 then 0 else 4294967295) else c * 48271 % 4294967296
def sp_wordbyP:Sp:=fun vs H Q _=>∃c:Int,vs=[.int c]∧∀H',Same H H'→Q (.int (wordF c)) H'
def sp_nameP:Sp:=fun vs H Q _=>∃c k:Int,vs=[.int c,.int k]∧∀(z:Str) (H':Hp),Same H H'→isNm z=true→Q (.str z) H'
set_option genInjectivity false in
structure FillP (f:FillM):Prop where
 rule:isT f.rule
 name:isNm f.name=true
 lo : -2147483648≤f.add
 hi:f.add≤2147483647
 soft:¬softBad f.soft f.rule
def sp_fillby:Sp:=fun vs H Q _=>∃n at_ nb:Int,vs=[.int n,.int at_,.int nb]∧∀(f:FillM) (H':Hp),Same H H'→f.At H'→H f.a=none→f.at_=at_→FillP f→Q f.v H'
def sp_fillrow:Sp:=fun vs H Q _=>∃f:FillM,vs=[f.v]∧f.At H∧FillP f∧∀H',Same H H'→Q (.str (prowT (.fill f.soft f.rule f.name f.add))) H'
noncomputable def RP.TakesAll:RP→List PRow→Prop
 | _,[]=>True
 | S,r::rs=>S.Takes r∧RP.TakesAll (S.next r) rs
set_option genInjectivity false in
structure PB (H:Hp) (q:PcM) (S:RP) (m:Nat):Prop where
 pr:Pr H q
 sts:q.sts.map sC=S.sts
 nms:q.nms.map nC=S.nms
 nm:S.nm=some q.name
 n1:q.sts.length≤m∧q.nms.length≤m∧∀s∈q.sts,s.words.length≤m∧s.fills.length≤m
set_option genInjectivity false in
structure PBTo (H:Hp) (q:PcM) (S:RP) (m:Nat) (H':Hp) (q':PcM) (l:Addr) (rows:List PRow):Prop where
 ids:q'.ls=q.ls∧q'.ln=q.ln∧q'.t=q.t∧q'.name=q.name
 fr:∀x o,x∉q.lists→H x=some o→H' x=some o
 nw:∀x∈q'.lists,x∈q.lists∨H x=none
 top:H' l=some (.lst (rows.map fun r=>V.str (prowT r)))
 fl:H l=none
 nl:l∉q'.lists
 n2:rows.length≤2
 tk:S.TakesAll rows
 pb:PB H' q' (rows.foldl RP.next S) (m+1)
def sp_putP:Sp:=fun vs H Q _=>∃(c nb:Int) (q:PcM) (S:RP) (m:Nat),vs=[.int c,.int nb,.ref q.ls,.ref q.ln]∧PB H q S m∧m≤400∧
 ∀(q':PcM) (l:Addr) (rows:List PRow) (H':Hp),PBTo H q S m H' q' l rows→Q (.ref l) H'
def pkQ (H:Hp) (q:PcM) (S:RP) (m:Nat) (Q:VK):Prop:=∀(q':PcM) (l:Addr) (rows:List PRow) (H':Hp),PBTo H q S m H' q' l rows→Q (.ref l) H'
def pkA:TS:=fun D σ H=>∃(c nb n:Int) (q:PcM) (S:RP) (m:Nat) (H0:Hp) (b5 b6 b7 b8 b9 b10:Option V),σ=[some (.int c),some (.int nb),some (.ref q.ls),some (.ref q.ln),some (.int n),b5,b6,b7,b8,b9,b10]∧Same H0 H∧PB H0 q S m∧m≤400∧pkQ H0 q S m D.rt
def pkB:TS:=fun D σ H=>∃(c nb n:Int) (q:PcM) (S:RP) (m:Nat) (H0:Hp) (b5 b6 b7 b8 b9 b10:Option V),σ=[some (.int c),some (.int nb),some (.ref q.ls),some (.ref q.ln),some (.int n),b5,b6,b7,b8,b9,b10]∧Same H0 H∧PB H0 q S m∧m≤400∧q.sts≠[]∧pkQ H0 q S m D.rt
def pkC:TS:=fun D σ H=>∃(c nb n:Int) (q:PcM) (S:RP) (m:Nat) (H0:Hp) (ss:List StM) (s:StM) (b5 b6 b8 b9 b10:Option V),σ=[some (.int c),some (.int nb),some (.ref q.ls),some (.ref q.ln),some (.int n),b5,b6,some (.ref s.t),b8,b9,b10]∧Same H0 H∧PB H0 q S m∧m≤400∧q.sts=ss++[s]∧pkQ H0 q S m D.rt
def pkD:TS:=fun D σ H=>∃(c nb n:Int) (q:PcM) (S:RP) (m:Nat) (H0:Hp) (ss:List StM) (s:StM) (l:Addr) (fs:List FillM) (rows:List PRow) (b5 b6 b8 b9:Option V),σ=[some (.int c),some (.int nb),some (.ref q.ls),some (.ref q.ln),some (.int n),b5,b6,some (.ref s.t),b8,b9,some (.ref l)]∧
 q.sts=ss++[s]∧PB H0 q S m∧m≤400∧Pr H { q with sts:=ss++[{ s with fills:=s.fills++fs }] }∧(∀x o,x≠s.lf→H0 x=some o→H x=some o)∧H l=some (.lst (rows.map fun r=>V.str (prowT r)))∧H0 l=none∧
 ((fs=[]∧rows=[.word (wordF c)])∨∃f,fs=[f]∧FillP f∧f.at_=(s.words.length:Int)∧rows=[.word (wordF c),.fill f.soft f.rule f.name f.add])∧pkQ H0 q S m D.rt
set_option genInjectivity false in
structure BuiltP (H H':Hp) (pr:Addr) (q:PcM) (rows:List PRow):Prop where
 sm:Same H H'
 rw_:H' pr=some (.lst (rows.map fun r=>V.str (prowT r)))
 at_:q.At H'
 nd:q.lists.Nodup
 fl:∀b∈q.lists,H b=none
 ne:rows≠[]
 len:rows.length≤130
 tk:RP0.TakesAll rows
 run:∃bw,runP rows rows.length=⟨some q.name,q.sts.map sC,q.nms.map nC,bw⟩
 n1:q.sts.length≤100∧q.nms.length≤100∧∀s∈q.sts,s.words.length≤100∧s.fills.length≤100
 hd:∃z r,rows=.piece z::r
def sp_builtP (K:Wf):Sp:=fun vs H Q _=>∃(a:Addr) (ns:List Int),vs=[.ref a]∧SqL K H a (ns.map V.int)∧ns.length≤63∧∀(t pr:Addr) (q:PcM) (rows:List PRow) (H':Hp),H' t=some (.tup [.ref pr,.ref q.t])→BuiltP H H' pr q rows→Q (.ref t) H'
set_option genInjectivity false in
structure FndP (H0 H:Hp) (p q:PcM):Prop where
 at_:p.At H
 d:p.d=q.d
 nd:p.lists.Nodup
 fl:∀b∈p.lists,H0 b=none
 n1:p.sts.length≤400
 n2:p.nms.length≤400
 n3:∀s∈p.sts,s.words.length≤400∧s.fills.length≤400
 len:p.sts.length=q.sts.length
noncomputable def nmsAt (ns:List ToldC) (a b:Int):List PRow:=(ns.filter fun n=>decide (n.2.2.1=a)&&decide (n.2.2.2=b)).map fun n=>.told n.2.1 n.1
noncomputable def flsAt (fs:List FillC) (a:Int):List PRow:=fs.foldl (fun acc f=>if f.1=a then [.fill f.2.2.2.2 f.2.1 f.2.2.1 f.2.2.2.1] else acc) []
noncomputable def wdRows (ns:List ToldC) (i:Int) (x:StC) (j:Nat):List PRow:=(List.range j).flatMap fun k:Nat=>nmsAt ns i (k:Int)++.word (x.2.2.1.getD k 0)::flsAt x.2.2.2 (k:Int)
noncomputable def stRows (ns:List ToldC) (i:Int) (x:StC):List PRow:=.st x.1 x.2.1::(wdRows ns i x x.2.2.1.length++nmsAt ns i (x.2.2.1.length:Int))
noncomputable def bdRows (ns:List ToldC):Int→List StC→List PRow
 | _,[]=>[]
 | i,x::r=>stRows ns i x++bdRows ns (i+1) r
noncomputable def pcRows (nm:Str) (sts:List StC) (ns:List ToldC):List PRow:=.piece nm::bdRows ns 0 sts
set_option genInjectivity false in
structure RIP (pre:List PRow) (S:RP):Prop where
 rows:pre=bdRows S.nms 0 S.sts
 n1:∀n∈S.nms,n.2.2.1<(S.sts.length:Int)
 n2:∀n∈S.nms,n.2.2.1=(S.sts.length:Int) - 1→n.2.2.2≤lastW S
 f1:∀x∈S.sts.getLast?,∀f∈x.2.2.2,f.1<(x.2.2.1.length:Int)
 bw:S.bw=true→(∀n∈S.nms,n.2.2.1=(S.sts.length:Int) - 1→n.2.2.2<lastW S)∧∀x∈S.sts.getLast?,1≤x.2.2.1.length∧∀f∈x.2.2.2,f.1<(x.2.2.1.length:Int) - 1
def NAt (H:Hp) (o:Option V) (rs:List PRow):Prop:=(o=none∧rs=[])∨∃l,o=some (.ref l)∧H l=some (.lst (rs.map fun r=>V.str (prowT r)))
def NRs (H:Hp) (kvs:List (List Key×V)) (ns:List ToldC):Prop:=∀a b:Int,NAt H (valV kvs [.inl a,.inl b]) (nmsAt ns a b)
def FRs (H:Hp) (kvs:List (Key×V)) (fs:List FillC):Prop:=∀a:Int,NAt H (valV kvs (.inl a)) (flsAt fs a)
def ToldP (n:ToldM):Prop:=isNm n.name=true∧isSortP n.sort
set_option genInjectivity false in
structure StP (s:StM):Prop where
 kind:isKindP s.kind
 s1:1≤s.step
 s2:s.step≤65536
 wd:∀u∈s.words,0≤u∧u≤4294967295
 fl:∀f∈s.fills,FillP f
set_option genInjectivity false in
structure ShP (H:Hp) (p:PcM):Prop where
 at_:p.At H
 nm:isNm p.name=true
 ss:∀s∈p.sts,StP s
 ns:∀n∈p.nms,ToldP n
 len:(pcRows p.name (p.sts.map sC) (p.nms.map nC)).length≤300
 n1:p.sts.length≤400∧p.nms.length≤400∧∀s∈p.sts,s.words.length≤400∧s.fills.length≤400
noncomputable def pcTxt (p:PcM):Str:=Txt.join (Str.ofString "\n") ((pcRows p.name (p.sts.map sC) (p.nms.map nC)).map prowT)
def sp_nmRows:Sp:=fun vs H Q _=>∃(b:Addr) (ns:List ToldM),vs=[.ref b]∧H b=some (.lst (ns.map ToldM.v))∧(∀n∈ns,n.At H∧ToldP n)∧ns.length≤400∧∀d kvs H',Same H H'→H' d=some (.dT kvs)→NRs H' kvs (ns.map nC)→Q (.ref d) H'
def sp_flRows:Sp:=fun vs H Q _=>∃(b:Addr) (fs:List FillM),vs=[.ref b]∧H b=some (.lst (fs.map FillM.v))∧(∀f∈fs,f.At H∧FillP f)∧fs.length≤400∧∀d kvs H',Same H H'→H' d=some (.dK kvs)→FRs H' kvs (fs.map fC)→Q (.ref d) H'
def sp_stRows:Sp:=fun vs H Q _=>∃(i:Int) (s:StM) (d:Addr) (kvs:List (List Key×V)) (ns:List ToldC),vs=[.int i,s.v,.ref d]∧s.At H∧StP s∧H d=some (.dT kvs)∧NRs H kvs ns∧s.fills.length≤400∧s.words.length≤400∧(stRows ns i (sC s)).length≤300∧
 ∀l H',Same H H'→H l=none→H' l=some (.lst ((stRows ns i (sC s)).map fun r=>V.str (prowT r)))→Q (.ref l) H'
def sp_shownP:Sp:=fun vs H Q _=>∃p:PcM,vs=[p.v]∧ShP H p∧∀H',Same H H'→Q (.str (pcTxt p)) H'
def nmT:TE:=fun σ H Q=>∃so z:Str,σ[3]?=some (some (.str so))∧σ[2]?=some (some (.str z))∧so.length≤600∧z.length≤600∧Q (.str (prowT (.told so z))) H
def flT:TE:=fun σ H Q=>∃(hd r z:Str) (n:Int),σ[7]?=some (some (.str hd))∧σ[3]?=some (some (.str r))∧σ[4]?=some (some (.str z))∧σ[5]?=some (some (.int n))∧hd.length≤300∧r.length≤300∧z.length≤300∧Few n∧Q (.str (hd++Str.ofString " " ++ r++Str.ofString " " ++ z++Str.ofString " " ++ nS n)) H
def stT:TE:=fun σ H Q=>∃(kd:Str) (n:Int),σ[3]?=some (some (.str kd))∧σ[4]?=some (some (.int n))∧kd.length≤300∧Few n∧Q (.str (prowT (.st kd n))) H
def wdT:TE:=fun σ H Q=>∃n:Int,σ[9]?=some (some (.int n))∧Few n∧Q (.str (prowT (.word n))) H
def pcT:TE:=fun σ H Q=>∃z:Str,σ[1]?=some (some (.str z))∧z.length≤300∧Q (.str (prowT (.piece z))) H
set_option genInjectivity false in
structure RPSm (S:RP):Prop where
 nm:∀z,S.nm=some z→isNm z=true
 st:∀x∈S.sts,isKindP x.1∧(1≤x.2.1∧x.2.1≤65536)∧(∀u∈x.2.2.1,0≤u∧u≤4294967295)∧∀f∈x.2.2.2,isT f.2.1∧isNm f.2.2.1=true ∧ -2147483648≤f.2.2.2.1∧f.2.2.2.1≤2147483647∧¬softBad f.2.2.2.2 f.2.1
 ns:∀n∈S.nms,isNm n.1=true∧isSortP n.2.1
def sp_copyP:Sp:=fun vs H Q _=>∃p:PcM,vs=[p.v]∧p.At H∧p.sts.length≤100∧p.nms.length≤100∧(∀s∈p.sts,s.words.length≤100∧s.fills.length≤100)∧∀(q:PcM) (H':Hp),Same H H'→q.At H'→p.Copy q→(∀b∈q.lists,H b=none)→q.lists.Nodup→Q q.v H'
def sp_turnP:Sp:=fun vs H Q _=>∃p:PcM,vs=[p.v,.str (pcTxt p)]∧ShP H p∧p.lists.Nodup∧∀H',Same H H'→Q (.bl true) H'
def sp_law (K:Wf):Sp:=fun vs H Q _=>∃(a:Addr) (ns:List Int),vs=[.ref a]∧SqL K H a (ns.map V.int)∧ns.length≤63∧∀H',Q (.bl true) H'
local macro_rules | `(tactic| walk_at "rdd") => `(tactic| (try dsimp only [tSeq, tAsg, gName, tC, tOp, tUn, tVar, tRet, tIfS, tOr, tAnd, tNot, tTest, tB, tChain, tCB, tCons, tNil, tCall, tSl, tNoPart, tPart, tNext, tDrop, tLst, tTup, tYes, tNotV, tAndV, tOrV, L2.start, List.set, List.map, List.length, List.replicate, List.cons_append, List.nil_append, List.append_nil, cK, bK, rI0, rI, rU, rIxS, rIxL, rIxT, tRetN, rSlL, rIn, rCatT, gTup, gCons, gNil, tRaiseI, tXInit, tDGet, tDGet1, tDGet2, tDIn, tDNotIn, sDPut, tDNewK, rDictOf, rEqDict, rCount, tCompX_list, xCall, sXFld, tXFld, rSlS, rEq, rNe, sc0, sc1, sc2, sc3, sc4, sc5, sc6, sc7, sc8, sc9, sc10, sc11, sc12, sc13, rCatS, rIsi, LenV, rAll, tFor_list, tFor_tup, tFor_str, tFor_rng1, tFor_rng2, tComp_list, tComp_tup, tComp_str, tComp_rng1, blkSt, tBM, rAppend, rStarts, rIndex, tIf, tMake, tMeth, sFld, tFld, tRepr, tFmt, jNil, jCons, tJoined, rJoin, rIsx, rIst, tRaise, tTryAs, tTry0, un1, xMeth, xDrop, xSet, xRet, xOf, xSeq, List.getElem?_cons_zero, List.getElem?_cons_succ, Option.some.injEq, V.int.injEq, V.str.injEq, V.bl.injEq, V.ref.injEq, V.ty.injEq, List.cons.injEq, exists_eq_left', exists_eq_left, exists_eq', and_assoc, if_true, if_false, Bool.not_false, Bool.not_true, Bool.not_not, Bool.false_eq_true, exists_and_left, and_true, true_and, List.set_cons_zero, List.set_cons_succ, Option.join_some, false_and, or_false, false_or, exists_false, sp_init, sp_rule, sp_nm, sp_num, sp_stepT, sp_istitle, sp_dinit, sp_dpiece, sp_dst, sp_dword, sp_dfill, sp_dtold, sp_dtakes, sp_npinit, sp_readP, sp_whole, sp_cellat, sp_addby, sp_wordbyP, sp_nameP, sp_fillby, sp_fillrow, sp_putP, sp_builtP, sp_nmRows, sp_flRows, sp_stRows, sp_shownP, sp_copyP, sp_turnP, tFor_enum1, rSplit, tKGet, rClear, rClearD, tBM0, rSlT, sFldAug, rExtend, tFor_enum, gSub, rSetL, rZfill, tDSd, tDNewT, Ends.nx, Nat.reduceSub, Nat.reduceAdd]))
local macro_rules | `(tactic| walk_at "rd") => `(tactic| (walk_at "rdd"; (try simp only [tSeq, tAsg, gName, tC, tOp, tUn, tVar, tRet, tIfS, tOr, tAnd, tNot, tTest, tB, tChain, tCB, tCons, tNil, tCall, tSl, tNoPart, tPart, tNext, tDrop, tLst, tTup, tYes, tNotV, tAndV, tOrV, L2.start, List.set, List.map, List.length, List.replicate, List.cons_append, List.nil_append, List.append_nil, cK, bK, rI0, rI, rU, rIxS, rIxL, rIxT, tRetN, rSlL, rIn, rCatT, gTup, gCons, gNil, tRaiseI, tXInit, tDGet, tDGet1, tDGet2, tDIn, tDNotIn, sDPut, tDNewK, rDictOf, rEqDict, rCount, tCompX_list, xCall, sXFld, tXFld, rSlS, rEq, rNe, sc0, sc1, sc2, sc3, sc4, sc5, sc6, sc7, sc8, sc9, sc10, sc11, sc12, sc13, rCatS, rIsi, LenV, rAll, tFor_list, tFor_tup, tFor_str, tFor_rng1, tFor_rng2, tComp_list, tComp_tup, tComp_str, tComp_rng1, blkSt, tBM, rAppend, rStarts, rIndex, tIf, tMake, tMeth, sFld, tFld, tRepr, tFmt, jNil, jCons, tJoined, rJoin, rIsx, rIst, tRaise, tTryAs, tTry0, un1, xMeth, xDrop, xSet, xRet, xOf, xSeq, List.getElem?_cons_zero, List.getElem?_cons_succ, Option.some.injEq, V.int.injEq, V.str.injEq, V.bl.injEq, V.ref.injEq, V.ty.injEq, List.cons.injEq, exists_eq_left', exists_eq_left, exists_eq', and_assoc, if_true, if_false, Bool.not_false, Bool.not_true, Bool.not_not, Bool.false_eq_true, exists_and_left, and_true, true_and, List.set_cons_zero, List.set_cons_succ, Option.join_some, false_and, or_false, false_or, exists_false, sp_init, sp_rule, sp_nm, sp_num, sp_stepT, sp_istitle, sp_dinit, sp_dpiece, sp_dst, sp_dword, sp_dfill, sp_dtold, sp_dtakes, sp_npinit, sp_readP, sp_whole, sp_cellat, sp_addby, sp_wordbyP, sp_nameP, sp_fillby, sp_fillrow, sp_putP, sp_builtP, sp_nmRows, sp_flRows, sp_stRows, sp_shownP, sp_copyP, sp_turnP, tFor_enum1, rSplit, tKGet, rClear, rClearD, tBM0, rSlT, sFldAug, rExtend, tFor_enum, gSub, rSetL, rZfill, tDSd, tDNewT, Ends.nx, Nat.reduceSub, Nat.reduceAdd, reduceCtorEq])))
theorem pow_and {n:Int}(h:∃k:Nat,n=2 ^ k) (h2:n≤65536):Builtin.bitAnd n (n - 1)=0:=by
 obtain⟨k,rfl⟩:=h
 have hk:k<17:=by
  rcases Nat.lt_or_ge k 17 with z | z
  ·exact z
  ·have h3:(2:Nat) ^ 17≤2 ^ k:=Nat.pow_le_pow_right (by decide) z
   have h4:((2 ^ k:Nat):Int)=(2:Int) ^ k:=by push_cast;rfl
   omega
 have key:∀k:Nat,k<17→Builtin.bitAnd ((2:Int) ^ k) ((2:Int) ^ k - 1)=0:=by decide +kernel
 exact key k hk
section
variable {P:Program}{w:World}{K:Wf}{mg:So}{base:Heap}{A:Ad}
theorem cl_rc (T:Txt w K mg A) {C:Addr}(h:RC A C):Cls K C∧NoAttr K C "title" := by
 rcases h with e | e | e | e | e<;>subst e
 ·exact⟨T.cl_qxj,T.no_qxj_title⟩
 ·exact⟨T.cl_High,T.no_High_title⟩
 ·exact⟨T.cl_Low,T.no_Low_title⟩
 ·exact⟨T.cl_Near,T.no_Near_title⟩
 ·exact⟨T.cl_qxk,T.no_qxk_title⟩
theorem G_qww (T:Txt w K mg A):FnOk P w K mg base CX0 1 A.qww A.fd_qww ["self", "title"] (sp_init A):=by
 refine T.F_qww.ok sc_qww (fun vs H Q E h => ?_) (fun cdv Ar outer s H vs Q E hr h => ?_)
 ·obtain⟨p,dx,C,x,rfl,_⟩:=h
  rfl
 ·obtain⟨p,dx,C,x,rfl,hp,hC,k⟩:=h
  refine⟨_,(zz5 (ps_fld (pv 0) (pv 1) rfl)),?_⟩
  walk_at "rd"
  exact⟨C,dx,[],hp,(cl_rc T hC).1,(cl_rc T hC).2,by decide,k⟩
theorem G_qxy (T:Txt w K mg A):FnOk P w K mg base (CXE P w) 4 A.qxy A.fd_qxy ["title"] (sp_rule A):=by
 refine T.F_qxy.okE sc_qxy (fun vs H Q E h => ?_) (fun cdv Ar outer s H vs Q E hr h => ?_)
 ·obtain⟨z,rfl,_⟩:=h
  rfl
 ·obtain⟨z,rfl,hz,hs,k,ke⟩:=h
  refine⟨_,(zz2 (ps_if (zz6 op_eq (pv 0) pe_str (nomark _)) (zz5 (ps_ret (pe_make T.mk_qxj (G_qww T) (hr.mono (by decide)) rfl T.mc_qxj T.b_qww .nil pass0 (zz0 (pv 0) pa_nil)))) zz7) (zz2 (ps_if (zz6 op_eq (pv 0) pe_str (nomark _)) (zz5 (ps_ret (pe_make T.mk_High (G_qww T) (hr.mono (by decide)) rfl T.mc_High T.b_qww .nil pass0 (zz0 (pv 0) pa_nil)))) zz7) (zz2 (ps_if (zz6 op_eq (pv 0) pe_str (nomark _)) (zz5 (ps_ret (pe_make T.mk_Low (G_qww T) (hr.mono (by decide)) rfl T.mc_Low T.b_qww .nil pass0 (zz0 (pv 0) pa_nil)))) zz7) (zz2 (ps_if (zz6 op_eq (pv 0) pe_str (nomark _)) (zz5 (ps_ret (pe_make T.mk_Near (G_qww T) (hr.mono (by decide)) rfl T.mc_Near T.b_qww .nil pass0 (zz0 (pv 0) pa_nil)))) zz7) (zz2 (ps_if (zz6 op_eq (pv 0) pe_str (nomark _)) (zz5 (ps_ret (pe_make T.mk_qxk (G_qww T) (hr.mono (by decide)) rfl T.mc_qxk T.b_qww .nil pass0 (zz0 (pv 0) pa_nil)))) zz7) (zz5 (ps_raise rfl T.mc_qxx T.xi_qxx PySem.F.excBase_ValueError rfl xe_cx (zz0 (pe_joined (zz13 pe_str (zz13 (pe_repr (pv 0)) pj_nil))) pa_nil)))))))),?_⟩
  walk_at "rd"
  have go:∀C,RC A C→clsOf A z=some C→∀(x dx:Addr),H x=none→H dx=none→dx≠x→
    ∃x_1 x_2,upd (upd H dx (HO.own x)) x (HO.ins C dx []) x=some (HO.ins x_2 x_1 [])∧RC A x_2∧Q (V.ref x) (upd (upd (upd H dx (HO.own x)) x (HO.ins C dx [])) x (HO.ins x_2 x_1 [(Str.ofString "title", V.str z)])):=by
   intro C hC hc x dx hx hd hne
   refine⟨dx,C,zz1,hC,k C hc x _ (fun b o e => ?_) ⟨dx,zz1⟩⟩
   rw[upd_ne (zz3 e hx),upd_ne (zz3 e hx),upd_ne (zz3 e hd)]
   exact e
  unfold clsOf at go ke
  refine ite2 (fun h => ?_) (fun h => ?_)
  ·have h:=of_decide_eq_true h
   exact go _ (.inl rfl) (by rw[if_pos h])
  have h1:¬z=Str.ofString "whole" := by simpa using h
  refine ite2 (fun h => ?_) (fun h => ?_)
  ·have h:=of_decide_eq_true h
   exact go _ (.inr (.inl rfl)) (by rw[if_neg h1,if_pos h])
  have h2:¬z=Str.ofString "high" := by simpa using h
  refine ite2 (fun h => ?_) (fun h => ?_)
  ·have h:=of_decide_eq_true h
   exact go _ (.inr (.inr (.inl rfl))) (by rw[if_neg h1,if_neg h2,if_pos h])
  have h3:¬z=Str.ofString "low" := by simpa using h
  refine ite2 (fun h => ?_) (fun h => ?_)
  ·have h:=of_decide_eq_true h
   exact go _ (.inr (.inr (.inr (.inl rfl)))) (by rw[if_neg h1,if_neg h2,if_neg h3,if_pos h])
  have h4:¬z=Str.ofString "near" := by simpa using h
  refine ite2 (fun h => ?_) (fun h => ?_)
  ·have h:=of_decide_eq_true h
   exact go _ (.inr (.inr (.inr (.inr rfl)))) (by rw[if_neg h1,if_neg h2,if_neg h3,if_neg h4,if_pos h])
  have h5:¬z=Str.ofString "split" := by simpa using h
  rw[if_neg h1,if_neg h2,if_neg h3,if_neg h4,if_neg h5]at ke
  have l1:(Str.empty++Str.ofString "no rule is called ").length=18:=by decide +kernel
  have l2:=repr_le hs hz
  have l3:=slen (Str.empty++Str.ofString "no rule is called ") (reprText z)
  have l4:=sizeLine_eq
  exact⟨by omega,by omega,by omega,by omega,by omega,ke rfl⟩
theorem take_snoc {l:List Nat}{i:Nat}{c:Nat}(h:l[i]?=some c):l.take (i+1)=l.take i++[c]:=by
 rw[List.take_succ,h];rfl
theorem getL {z:Str}{i c:Nat}(h:z.cps[i]?=some c):z.cps.toList[i]?=some c:=by rw[Array.getElem?_toList];exact h
noncomputable abbrev okS (c:Nat):Bool:=occ "abcdefghijklmnopqrstuvwxyz0123456789_" ⟨#[c]⟩
theorem first_of {z:Str}{x:Nat}(h:atI z.cps.toList 0=some x):z.cps.toList.take 1=[x]:=by
 obtain⟨j,h1,h2,h3,_⟩:=atI_get h
 have:j=0:=by
  unfold atI ixN at h
  have e:seqIndex? 0 z.cps.toList.length=some j:=h1
  unfold seqIndex? at e
  simp at e
  omega
 subst this
 rw[List.take_one,List.head?_eq_getElem?,h2];rfl
theorem at0 {z:Str}(h:1≤z.length):∃x,atI z.cps.toList 0=some x:=by
 have hl:z.cps.toList.length=z.length:=Array.length_toList
 obtain⟨v,hv,_⟩:=atI_ex (xs:=z.cps.toList) (i:=0) (by omega) (by omega)
 exact⟨v,hv⟩
theorem nm_empty {z:Str}(h:¬1≤z.length):isNm z=false:=by unfold isNm;rw[decide_eq_false h];simp
theorem nm_long {z:Str}(h:¬z.length≤16):isNm z=false:=by unfold isNm;rw[decide_eq_false h];simp
theorem nm_first {z:Str}{x:Nat}(hx:atI z.cps.toList 0=some x) (h:occ "abcdefghijklmnopqrstuvwxyz" ⟨#[x]⟩=false):isNm z=false:=by
 unfold isNm;rw[first_of hx];simp[h]
theorem nm_rest {z:Str}{x:Nat}(h1:1≤z.length) (h2:z.length≤16) (hx:atI z.cps.toList 0=some x) (h:occ "abcdefghijklmnopqrstuvwxyz" ⟨#[x]⟩=true):isNm z=z.cps.toList.all okS:=by
 unfold isNm;rw[first_of hx,decide_eq_true h1,decide_eq_true h2];simp[h]
theorem G_qxz (T:Txt w K mg A):FnOk P w K mg base CX0 1 A.qxz A.fd_qxz ["text"] sp_nm:=by
 refine T.F_qxz.ok sc_qxz (fun vs H Q E h => ?_) (fun cdv Ar outer s H vs Q E hr h => ?_)
 ·obtain⟨z,rfl,_⟩:=h
  rfl
 ·obtain⟨z,rfl,hz,k⟩:=h
  refine⟨_,(zz2 (ps_if (PW.pt (pw_or (pt_not (pt_chain op_le op_le pe_int (zz16 (zz18 (K:=K) rfl) (by rfl) T.n_len bt_len (zz0 (pv 0) pa_nil)) pe_int)) (pw_or1 (zz6 op_notin_str (pe_ix ix_str (pv 0) pe_int (fun _ _=>rfl)) (pe_glob rfl T.g_qyk relS) (by with_unfolding_all rfl))))) (zz5 (ps_ret pe_bl)) zz7) (zz5 (ps_ret (zz16 (call_allK rfl (K:=K) rfl) (by rfl) T.n_all bt_all (zz0 (pe_comp (blk_mk (own:=["sign"]) (fr:=[]) (fm:=[]) rfl (by decide +kernel) (by decide +kernel) (by decide +kernel) .nil) rfl (pi_str (pv 0)) (fun _ _ _=>⟨(zz9 (i:=0) (by show List.Nodup (["sign"]:List Str);decide +kernel) rfl (by walk_at "o")),pts_nil,(pe_cmpR op_in_str (pv 0) (pe_glob rfl T.g_qzx relS) (by with_unfolding_all rfl))⟩)) pa_nil))))),?_⟩
  walk_at "rd"
  have hsz:z.length≤sizeLine:=by rw[sizeLine_eq];omega
  refine⟨hsz,ite2 (fun h=>ite2 (fun h2 => ?_) (fun h2 => ?_)) (fun h => ?_)⟩
  ·have:=k H (Same.refl H)
   rw[nm_long (by
    have h2:decide ((z.length:Int)≤16)=false:=by simpa using h2
    have:=of_decide_eq_false h2
    omega)]at this
   exact this
  ·have h1:1≤z.length:=by have:=of_decide_eq_true h;omega
   have h3:z.length≤16:=by
    have h2:decide ((z.length:Int)≤16)=true:=by simpa using h2
    have:=of_decide_eq_true h2
    omega
   obtain⟨x,hx⟩:=at0 h1
   refine⟨hsz,x,hx,ite2 (fun h4 => ?_) (fun h4 => ?_)⟩
   ·have:=k H (Same.refl H)
    rw[nm_first hx (by unfold occ;rw[h4];rfl)]at this
    exact this
   ·rw[nm_rest h1 h3 hx (by unfold occ;simpa using h4)]at k
    refine CompS.of (by rw[sizeLine_eq];have:z.length=z.cps.size:=rfl;omega) (fun D i ys H'=>ys=(z.cps.toList.take i).map (fun c=>V.bl (okS c))∧H'=upd H D (.lst ys)) (fun D hD=>⟨rfl,rfl⟩) ?_ ?_ ?_
    ·rintro D i ys H' hD hi ⟨rfl,rfl⟩
     exact⟨zz1,by rw[List.length_map,List.length_take];omega⟩
    ·rintro D i c ys H' hD hc ⟨rfl,rfl⟩
     walk_at "rd"
     refine⟨.no .nil,zz1,?_,upd_upd⟩
     rw[take_snoc (getL hc),List.map_append]
     rfl
    ·rintro D ys H' hD ⟨rfl,rfl⟩
     refine⟨D,rfl,z.cps.toList.map okS,SqL.of ?_,?_⟩
     ·rw[zz1,List.take_of_length_le (Nat.le_of_eq Array.length_toList),List.map_map];rfl
     ·rw[List.all_map]
      exact k _ fun b o e=>by rw[upd_ne (zz3 e hD)];exact e
  ·have:=k H (Same.refl H)
   rw[nm_empty (by
    have h:decide (1≤(z.length:Int))=false:=by simpa using h
    have:=of_decide_eq_false h
    omega)]at this
   exact this
theorem same_upd {H0 H:Hp}{L:Addr}{o:HO}(h:H0 L=none) (e:Same H0 H):Same H0 (upd H L o):=fun b u q=>by rw[upd_ne (zz3 q h)];exact e b u q
theorem zz4 {H:Hp}{p:Addr}{o:HO}(h:H p=none):Same H (upd H p o):=fun b u e=>by rw[upd_ne (zz3 e h)];exact e
theorem G_qyq (T:Txt w K mg A):FnOk P w K mg base CX0 1 A.qyq A.fd_qyq ["text", "least", "most"] sp_num:=by
 refine T.F_qyq.ok sc_qyq (fun vs H Q E h => ?_) (fun cdv Ar outer s H vs Q E hr h => ?_)
 ·obtain⟨z,lo,hi,rfl,_⟩:=h
  rfl
 ·obtain⟨z,lo,hi,rfl,hz,k⟩:=h
  refine⟨_,(zz2 (ps_set (i:=3) sc_qyq.nd rfl (by walk_at "o") (pe_ifExp (pt_val (pe_bm PySem.F.plainAttrs_str PySem.F.slot_str_startswith PySem.F.type_str_startswith mt_starts (pv 0) (zz0 pe_str pa_nil))) (pe_slice sl_str (pv 0) (po_some pe_int) po_none) (pv 0))) (zz2 (ps_if (PW.pt (pw_or (pt_not (pt_chain op_le op_le pe_int (zz16 (zz18 (K:=K) rfl) (by rfl) T.n_len bt_len (zz0 (pv 3) pa_nil)) pe_int)) (pw_or1 (pt_not (pt_val (zz16 (call_allK rfl (K:=K) rfl) (by rfl) T.n_all bt_all (zz0 (pe_comp (blk_mk (own:=["sign"]) (fr:=[]) (fm:=[]) rfl (by decide +kernel) (by decide +kernel) (by decide +kernel) .nil) rfl (pi_str (pv 3)) (fun _ _ _=>⟨(zz9 (i:=0) (by show List.Nodup (["sign"]:List Str);decide +kernel) rfl (by walk_at "o")),pts_nil,(pe_cmpR op_in_str (pv 0) (pe_glob rfl T.g_qyv relS) (by with_unfolding_all rfl))⟩)) pa_nil))))))) (zz5 (ps_ret pe_non)) zz7) (zz2 (ps_if (PW.pt (pw_and (zz6 op_eq (pe_ix ix_str (pv 3) pe_int (fun _ _=>rfl)) pe_str (nomark _)) (pw_and1 (zz6 op_ne (pv 0) pe_str (nomark _))))) (zz5 (ps_ret pe_non)) zz7) (zz2 (ps_set (i:=4) sc_qyq.nd rfl (by walk_at "o") (pe_callTy call_intT (by rfl) T.n_int bt_int (zz0 (pv 0) pa_nil))) (zz5 (ps_ret (pe_ifExp (pt_chain op_le op_le (pv 1) (pv 4) (pv 2)) (pv 4) pe_non))))))),?_⟩
  walk_at "rd"
  have lz:z.length≤sizeLine:=by rw[sizeLine_eq];omega
  refine⟨rfl,ite2 (fun hn=>⟨lz,?_⟩) (fun hn => ?_)⟩
  ·have hfig:(Txt.slice z (some 1) none).cps.toList=figs z:=by unfold figs;rw[if_pos hn,sl_from1]
   have hyl:=Txt.slice_le z (some 1) none
   generalize Txt.slice z (some 1) none=y at *
   have lY:y.length≤sizeLine:=by rw[sizeLine_eq];omega
   refine⟨lY,ite2 (fun h=>ite2 (fun h2 => ?_) (fun h2 => ?_)) (fun h => ?_)⟩
   ·have h2:decide ((y.length:Int)≤10)=false:=by simpa using h2
    have h2:=of_decide_eq_false h2
    have:=k H (Same.refl H)
    rw[numF_non2 (by rw[←hfig,lenL];omega)]at this
    exact this
   ·have h2:decide ((y.length:Int)≤10)=true:=by simpa using h2
    have h2:=of_decide_eq_true h2
    have h:=of_decide_eq_true h
    have hne:figs z≠[]:=fun q=>by
     have:=congrArg List.length hfig
     rw[lenL,q]at this
     simp at this;omega
    have hle:(figs z).length≤10:=by rw[←hfig,lenL];omega
    refine CompS.of (by rw[sizeLine_eq];have:y.length=y.cps.size:=rfl;omega) (fun D i ys H'=>ys=(y.cps.toList.take i).map (fun c=>V.bl (dig c))∧H'=upd H D (.lst ys)) (fun D hD=>⟨rfl,rfl⟩) ?_ ?_ ?_
    ·rintro D i ys H' hD hi ⟨rfl,rfl⟩
     exact⟨zz1,by rw[List.length_map,List.length_take];omega⟩
    ·rintro D i c ys H' hD hc ⟨rfl,rfl⟩
     walk_at "rd"
     refine⟨.no .nil,zz1,?_,upd_upd⟩
     rw[take_snocN (getL hc),List.map_append]
     rfl
    ·rintro D ys H' hD ⟨rfl,rfl⟩
     have sm:Same H (upd H D (.lst ((y.cps.toList.take y.cps.size).map (fun c=>V.bl (dig c))))):=fun b o e=>by rw[upd_ne (zz3 e hD)];exact e
     have kk:=k _ sm
     refine⟨D,rfl,y.cps.toList.map dig,SqL.of ?_,?_⟩
     ·rw[zz1,take_all,List.map_map];rfl
     ·rw[List.all_map]
      have ea:(y.cps.toList.all (id ∘ dig))=(figs z).all dig:=by rw[hfig];rfl
      rw[ea]
      cases hv:(figs z).all dig with
      | false=>
       rw[numF_non3 hv]at kk
       exact iteT kk
      | true=>
       refine iteF ⟨lY,?_⟩
       obtain⟨x,hx,ht⟩:=first_at (cs:=y.cps.toList) (by rw[hfig];exact hne)
       refine⟨x,hx,?_⟩
       rw[sign_zero]
       have hi':=int_text hz hne hv
       refine ite2 (fun h3=>ite2 (fun h4 => ?_) (fun h4 => ?_)) (fun h3 => ?_)
       ·have h3:=of_decide_eq_true h3
        rw[numF_non4 (by rw[←hfig,ht,h3]) (of_decide_eq_false (by simpa using h4))]at kk
        exact kk
       ·have hq:¬((figs z).take 1=[48]∧z≠Str.ofString "0"):=fun q=>q.2 (of_decide_eq_true (by simpa using h4))
        exact⟨valS z,hi',by omega,num_end hne hle hv hq kk⟩
       ·have hq:¬((figs z).take 1=[48]∧z≠Str.ofString "0"):=fun q=>by
         have h3:¬x=48:=of_decide_eq_false (by simpa using h3)
         have:=q.1
         rw[←hfig,ht]at this
         simp at this
         exact h3 this
        exact⟨valS z,hi',by omega,num_end hne hle hv hq kk⟩
   ·have h:decide (1≤(y.length:Int))=false:=by simpa using h
    have h:=of_decide_eq_false h
    have:=k H (Same.refl H)
    rw[numF_non1 (by rw[←hfig];exact nilOf (by omega))]at this
    exact this
  ·have hfig:z.cps.toList=figs z:=by unfold figs;rw[if_neg hn]
   have lY:z.length≤sizeLine:=by rw[sizeLine_eq];omega
   refine⟨lY,ite2 (fun h=>ite2 (fun h2 => ?_) (fun h2 => ?_)) (fun h => ?_)⟩
   ·have h2:decide ((z.length:Int)≤10)=false:=by simpa using h2
    have h2:=of_decide_eq_false h2
    have:=k H (Same.refl H)
    rw[numF_non2 (by rw[←hfig,lenL];omega)]at this
    exact this
   ·have h2:decide ((z.length:Int)≤10)=true:=by simpa using h2
    have h2:=of_decide_eq_true h2
    have h:=of_decide_eq_true h
    have hne:figs z≠[]:=fun q=>by
     have:=congrArg List.length hfig
     rw[lenL,q]at this
     simp at this;omega
    have hle:(figs z).length≤10:=by rw[←hfig,lenL];omega
    refine CompS.of (by rw[sizeLine_eq];have:z.length=z.cps.size:=rfl;omega) (fun D i ys H'=>ys=(z.cps.toList.take i).map (fun c=>V.bl (dig c))∧H'=upd H D (.lst ys)) (fun D hD=>⟨rfl,rfl⟩) ?_ ?_ ?_
    ·rintro D i ys H' hD hi ⟨rfl,rfl⟩
     exact⟨zz1,by rw[List.length_map,List.length_take];omega⟩
    ·rintro D i c ys H' hD hc ⟨rfl,rfl⟩
     walk_at "rd"
     refine⟨.no .nil,zz1,?_,upd_upd⟩
     rw[take_snocN (getL hc),List.map_append]
     rfl
    ·rintro D ys H' hD ⟨rfl,rfl⟩
     have sm:Same H (upd H D (.lst ((z.cps.toList.take z.cps.size).map (fun c=>V.bl (dig c))))):=fun b o e=>by rw[upd_ne (zz3 e hD)];exact e
     have kk:=k _ sm
     refine⟨D,rfl,z.cps.toList.map dig,SqL.of ?_,?_⟩
     ·rw[zz1,take_all,List.map_map];rfl
     ·rw[List.all_map]
      have ea:(z.cps.toList.all (id ∘ dig))=(figs z).all dig:=by rw[hfig];rfl
      rw[ea]
      cases hv:(figs z).all dig with
      | false=>
       rw[numF_non3 hv]at kk
       exact iteT kk
      | true=>
       refine iteF ⟨lY,?_⟩
       obtain⟨x,hx,ht⟩:=first_at (cs:=z.cps.toList) (by rw[hfig];exact hne)
       refine⟨x,hx,?_⟩
       rw[sign_zero]
       have hi':=int_text hz hne hv
       refine ite2 (fun h3=>ite2 (fun h4 => ?_) (fun h4 => ?_)) (fun h3 => ?_)
       ·have h3:=of_decide_eq_true h3
        rw[numF_non4 (by rw[←hfig,ht,h3]) (of_decide_eq_false (by simpa using h4))]at kk
        exact kk
       ·have hq:¬((figs z).take 1=[48]∧z≠Str.ofString "0"):=fun q=>q.2 (of_decide_eq_true (by simpa using h4))
        exact⟨valS z,hi',by omega,num_end hne hle hv hq kk⟩
       ·have hq:¬((figs z).take 1=[48]∧z≠Str.ofString "0"):=fun q=>by
         have h3:¬x=48:=of_decide_eq_false (by simpa using h3)
         have:=q.1
         rw[←hfig,ht]at this
         simp at this
         exact h3 this
        exact⟨valS z,hi',by omega,num_end hne hle hv hq kk⟩
   ·have h:decide (1≤(z.length:Int))=false:=by simpa using h
    have h:=of_decide_eq_false h
    have:=k H (Same.refl H)
    rw[numF_non1 (by rw[←hfig];exact nilOf (by omega))]at this
    exact this
theorem numF_cases (z:Str) (lo hi:Int):numF z lo hi=.non∨∃n,numF z lo hi=.int n:=by
 by_cases h:numF z lo hi=.non
 ·exact .inl h
 ·exact .inr (numF_int h)
theorem stepF_str {n:Int}(h1:1≤n) (h2:n≤65536) (hk:∃k:Nat,n=2 ^ k):stepF (nS n)=.int n:=by
 unfold stepF nS
 rw[numF_str (by omega) (by omega),if_pos ⟨h1,h2⟩]
 show (if _ then _ else _)=_
 rw[if_pos (pow_and hk h2)]
theorem G_qyj (T:Txt w K mg A):FnOk P w K mg base CX0 2 A.qyj A.fd_qyj ["text"] sp_stepT:=by
 refine T.F_qyj.ok sc_qyj (fun vs H Q E h => ?_) (fun cdv Ar outer s H vs Q E hr h => ?_)
 ·obtain⟨z,rfl,_⟩:=h
  rfl
 ·obtain⟨z,rfl,hz,k⟩:=h
  refine⟨_,(zz2 (ps_set (i:=1) sc_qyj.nd rfl (by walk_at "o") (zz8 (G_qyq T) (hr.mono (by decide)) rfl T.m_qyq T.k_qyq T.b_qyq .nil pass0 (zz0 (pv 0) (zz0 pe_int (zz0 pe_int pa_nil))))) (zz2 (ps_if (PW.pt (pw_or (zz6 op_isN (pv 1) pe_non (nomark _)) (pw_or1 (zz6 op_ne (pe_op op_and (pv 1) (pe_op op_sub (pv 1) pe_int)) pe_int (nomark _))))) (zz5 (ps_ret pe_non)) zz7) (zz5 (ps_ret (pv 1))))),?_⟩
  walk_at "rd"
  refine⟨hz,fun H' s' => ?_⟩
  have k:=k H' s'
  unfold stepF at k
  rcases numF_cases z 1 65536 with e | ⟨n,e⟩
  ·rw[e]at k ⊢
   rw[if_pos (by simp)];exact k
  ·rw[e]at k ⊢
   rw[if_neg (by simp)]
   refine⟨n,rfl,n,rfl,?_⟩
   by_cases h:Builtin.bitAnd n (n - 1)=0
   ·have k:Q (if _ then _ else _) H':=k
    rw[if_pos h]at k
    rw[if_neg (by rw[h];decide)];exact k
   ·have k:Q (if _ then _ else _) H':=k
    rw[if_neg h]at k
    rw[if_pos (by simpa using h)];exact k
theorem G_qyx (T:Txt w K mg A):FnOk P w K mg base CX0 6 A.qyx A.fd_qyx ["text"] sp_istitle:=by
 refine T.F_qyx.ok sc_qyx (fun vs H Q E h => ?_) (fun cdv Ar outer s H vs Q E hr h => ?_)
 ·obtain⟨z,rfl,_⟩:=h
  rfl
 ·obtain⟨z,rfl,hz,hs,k⟩:=h
  refine⟨_,(zz2 (ps_try0K (K:=K) rfl rfl rfl rfl T.mc_qxx (pssx_one (psx_expr (pex_call (G_qxy T) (hr.mono (by decide)) rfl T.m_qxy T.k_qxy T.b_qxy .nil (zz0 (pv 0) pa_nil)))) (fun _=>(zz5 (ps_ret pe_bl)))) (zz5 (ps_ret pe_bl))),?_⟩
  walk_at "rd"
  have hi:isT z↔clsOf A z≠none:=by
   unfold isT clsOf
   constructor
   ·rintro (rfl | rfl | rfl | rfl | rfl)
    ·rw[if_pos rfl];simp
    ·rw[if_neg (by decide +kernel),if_pos rfl];simp
    ·rw[if_neg (by decide +kernel),if_neg (by decide +kernel),if_pos rfl];simp
    ·rw[if_neg (by decide +kernel),if_neg (by decide +kernel),if_neg (by decide +kernel),if_pos rfl];simp
    ·rw[if_neg (by decide +kernel),if_neg (by decide +kernel),if_neg (by decide +kernel),if_neg (by decide +kernel),if_pos rfl];simp
   ·intro h
    by_cases h1:z=Str.ofString "whole"
    ·exact .inl h1
    by_cases h2:z=Str.ofString "high"
    ·exact .inr (.inl h2)
    by_cases h3:z=Str.ofString "low"
    ·exact .inr (.inr (.inl h3))
    by_cases h4:z=Str.ofString "near"
    ·exact .inr (.inr (.inr (.inl h4)))
    by_cases h5:z=Str.ofString "split"
    ·exact .inr (.inr (.inr (.inr h5)))
    rw[if_neg h1,if_neg h2,if_neg h3,if_neg h4,if_neg h5]at h
    exact absurd rfl h
  refine⟨hz,hs,fun C hC p H' s1 _ => ?_,fun hn=>⟨_,rfl,⟨T.ct_qxx,T.cb_qxx,T.kj⟩,.inl rfl,?_⟩⟩
  ·have:=k H' s1
   rwa [decide_eq_true (hi.mpr (by rw[hC];simp))]at this
  ·have:=k H (Same.refl H)
   rwa [decide_eq_false (fun q=>hi.mp q hn)]at this
theorem G_qqv (T:Txt w K mg A):FnOk P w K mg base CX0 1 A.qqv A.fd_qqv ["self"] (sp_dinit A):=by
 refine T.F_qqv.ok sc_qqv (fun vs H Q E h => ?_) (fun cdv Ar outer s H vs Q E hr h => ?_)
 ·obtain⟨p,dx,rfl,_⟩:=h
  rfl
 ·obtain⟨p,dx,rfl,hp,k⟩:=h
  refine⟨_,(zz2 (ps_fld (pv 0) pe_non rfl) (zz2 (ps_fld (pv 0) (pe_lst pa_nil) rfl) (zz2 (ps_fld (pv 0) (pe_lst pa_nil) rfl) (zz2 (ps_fld (pv 0) pe_non rfl) (zz2 (ps_fld (pv 0) pe_non rfl) (zz2 (ps_fld (pv 0) pe_dnewK rfl) (zz5 (ps_fld (pv 0) pe_bl rfl)))))))),?_⟩
  walk_at "rd"
  refine⟨_,_,_,hp,T.cl_qxq,T.no_qxq_name,by show 0<1000;decide,Nat.zero_le _,fun p1 hp1 => ?_⟩
  have n1:p1≠p:=fun z=>by rw[z,zz1]at hp1;cases hp1
  have f1:H p1=none:=by rw[upd_ne n1]at hp1;exact hp1
  refine⟨_,_,_,by rw[upd_ne n1.symm];exact zz1,T.cl_qxq,T.no_qxq_stretches,by show 1<1000;decide,Nat.zero_le _,fun p2 hp2 => ?_⟩
  have n2:p2≠p:=fun z=>by rw[z,zz1]at hp2;cases hp2
  rw[upd_ne n2]at hp2
  have n3:p2≠p1:=fun z=>by rw[z,zz1]at hp2;cases hp2
  have f2:H p2=none:=by rw[upd_ne n3,upd_ne n2]at hp2;exact hp2
  refine⟨_,_,_,by rw[upd_ne n2.symm];exact zz1,T.cl_qxq,T.no_qxq_names,by show 2<1000;decide,_,_,_,zz1,T.cl_qxq,T.no_qxq_last_words,by show 3<1000;decide,_,_,_,zz1,T.cl_qxq,T.no_qxq_last_fills,by show 4<1000;decide,fun p3 hp3 => ?_⟩
  rw[upd_upd,upd_upd]at hp3 ⊢
  have m1:p3≠p:=fun z=>by rw[z,zz1]at hp3;cases hp3
  rw[upd_ne m1]at hp3
  have m2:p3≠p2:=fun z=>by rw[z,zz1]at hp3;cases hp3
  rw[upd_ne m2,upd_ne m1]at hp3
  have m3:p3≠p1:=fun z=>by rw[z,zz1]at hp3;cases hp3
  have f3:H p3=none:=by rw[upd_ne m3,upd_ne m1]at hp3;exact hp3
  refine⟨_,_,_,by rw[upd_ne m1.symm];exact zz1,T.cl_qxq,T.no_qxq_told,by show 5<1000;decide,_,_,_,zz1,T.cl_qxq,T.no_qxq_behind_word,by show 6<1000;decide,?_⟩
  rw[upd_upd]
  refine k p1 p2 p3 _ n3.symm f1 f2 f3 (fun x o nx e => ?_) ?_ ?_ ?_ zz1
  ·rw[upd_ne nx,upd_ne (zz3 e f3),upd_ne nx,upd_ne (zz3 e f2),upd_ne nx,upd_ne (zz3 e f1),upd_ne nx];exact e
  ·rw[upd_ne n1,upd_ne m3.symm,upd_ne n1,upd_ne n3.symm,upd_ne n1];exact zz1
  ·rw[upd_ne n2,upd_ne m2.symm,upd_ne n2];exact zz1
  ·rw[upd_ne m1];exact zz1
theorem G_qqw (T:Txt w K mg A):FnOk P w K mg base CX0 2 A.qqw A.fd_qqw ["self", "name"] (sp_dpiece A):=by
 refine T.F_qqw.ok sc_qqw (fun vs H Q E h => ?_) (fun cdv Ar outer s H vs Q E hr h => ?_)
 ·obtain⟨R,z,rfl,_⟩:=h
  rfl
 ·obtain⟨R,z,rfl,hR,hz,k⟩:=h
  refine⟨_,(zz2 (ps_if (pt_not (pt_val (zz8 (G_qxz T) (hr.mono (by decide)) rfl T.m_qxz T.k_qxz T.b_qxz .nil pass0 (zz0 (pv 1) pa_nil)))) (zz5 (ps_ret pe_bl)) zz7) (zz2 (ps_fld (pv 0) (pv 1) rfl) (zz5 (ps_ret pe_bl)))),?_⟩
  walk_at "rd"
  walk_at "0"
  dsimp only at *
  refine⟨hz,fun H1 s1 => ?_⟩
  rcases k with ⟨e,k⟩ | ⟨e,k⟩
  ·rw[e,if_neg (by simp)]
   exact⟨_,_,_,s1 _ _ hR,T.cl_qxq,T.no_qxq_name,by show 7<1000;decide,k _ (fun x o n e=>by rw[upd_ne n];exact s1 _ _ e) zz1⟩
  ·rw[e,if_pos (by simp)];exact k H1 s1
theorem G_qqq (T:Txt w K mg A):FnOk P w K mg base CX0 3 A.qqq A.fd_qqq ["self", "kind", "text"] (sp_dst A):=by
 refine T.F_qqq.ok sc_qqq (fun vs H Q E h => ?_) (fun cdv Ar outer s H vs Q E hr h => ?_)
 ·obtain⟨R,kd,z,xs,rfl,_⟩:=h
  rfl
 ·obtain⟨R,kd,z,xs,rfl,hR,hA,hl,hz,k⟩:=h
  refine⟨_,(zz2 (ps_set (i:=3) sc_qqq.nd rfl (by walk_at "o") (zz8 (G_qyj T) (hr.mono (by decide)) rfl T.m_qyj T.k_qyj T.b_qyj .nil pass0 (zz0 (pv 2) pa_nil))) (zz2 (ps_if (zz6 op_isN (pv 3) pe_non (nomark _)) (zz5 (ps_ret pe_bl)) zz7) (zz2 (ps_fld (pv 0) (pe_lst pa_nil) rfl) (zz2 (ps_fld (pv 0) (pe_lst pa_nil) rfl) (zz2 (ps_expr (pe_bm PySem.F.plainAttrs_list PySem.F.slot_list_append PySem.F.type_list_append zz19 (pe_fld (pv 0) rfl) (zz0 (pe_tup (zz0 (pv 1) (zz0 (pv 3) (zz0 (pe_fld (pv 0) rfl) (zz0 (pe_fld (pv 0) rfl) pa_nil))))) pa_nil))) (zz5 (ps_ret pe_bl))))))),?_⟩
  walk_at "rd"
  walk_at "0"
  dsimp only at *
  refine⟨hz,fun H1 s1 => ?_⟩
  rcases k with ⟨n,en,k⟩ | ⟨en,k⟩
  ·rw[en,if_neg (by simp)]
   have nlp:ls≠p:=ne_of hA hR (by intro z;cases z)
   have back:∀{x:Addr},H1 x=none→H x=none:=fun {x} h=>by
    cases hh:H x with
    | none=>rfl
    | some o=>rw[s1 _ _ hh]at h;cases h
   refine⟨Nat.zero_le _,fun a ha => ?_⟩
   have npa:p≠a:=zz3 (s1 _ _ hR) ha
   have nla:ls≠a:=zz3 (s1 _ _ hA) ha
   refine⟨_,_,_,by rw[upd_ne npa];exact s1 _ _ hR,T.cl_qxq,T.no_qxq_last_words,by show 7<1000;decide,Nat.zero_le _,fun b hb => ?_⟩
   have nbp:b≠p:=fun z=>by rw[z,zz1]at hb;cases hb
   rw[upd_ne nbp]at hb
   have nba:b≠a:=fun z=>by rw[z,zz1]at hb;cases hb
   rw[upd_ne nba]at hb
   have nlb:ls≠b:=zz3 (s1 _ _ hA) hb
   refine⟨_,_,_,by rw[upd_ne nbp.symm];exact zz1,T.cl_qxq,T.no_qxq_last_fills,by show 7<1000;decide,_,_,_,zz1,T.cl_qxq,T.no_qxq_stretches,.ref ls,rfl,.inl ⟨rfl,_,SqL.of (by rw[upd_ne nlp,upd_ne nlb,upd_ne nlp,upd_ne nla];exact s1 _ _ hA)⟩,_,_,_,zz1,T.cl_qxq,T.no_qxq_last_words,_,rfl,_,_,_,zz1,T.cl_qxq,T.no_qxq_last_fills,_,rfl,by walk_at "s", fun t ht => ?_⟩
   have ntp:t≠p:=fun z=>by rw[z,zz1]at ht;cases ht
   rw[upd_ne ntp]at ht
   have ntb:t≠b:=fun z=>by rw[z,zz1]at ht;cases ht
   rw[upd_ne ntb,upd_ne ntp]at ht
   have nta:t≠a:=fun z=>by rw[z,zz1]at ht;cases ht
   rw[upd_ne nta]at ht
   have nlt:ls≠t:=zz3 (s1 _ _ hA) ht
   refine⟨ls,rfl,xs,by rw[upd_ne nlt,upd_ne nlp,upd_ne nlb,upd_ne nlp,upd_ne nla];exact s1 _ _ hA,by rw[sizeLine_eq];omega,?_⟩
   refine k a b t _ nba.symm (back ha) (back hb) (back ht) (fun x o n1 n2 e => ?_) ?_ ?_ ?_ zz1 ?_
   ·have e:=s1 _ _ e
    rw[upd_ne n2,upd_ne (zz3 e ht),upd_ne n1,upd_ne (zz3 e hb),upd_ne n1,upd_ne (zz3 e ha)];exact e
   ·rw[upd_ne nla.symm,upd_ne nta.symm,upd_ne npa.symm,upd_ne nba.symm,upd_ne npa.symm];exact zz1
   ·rw[upd_ne nlb.symm,upd_ne ntb.symm,upd_ne nbp];exact zz1
   ·rw[upd_ne nlt.symm];exact zz1
   ·rw[upd_ne nlp.symm,upd_ne ntp.symm];exact zz1
  ·rw[en,if_pos (by simp)];exact k H1 s1
theorem G_qqx (T:Txt w K mg A):FnOk P w K mg base CX0 2 A.qqx A.fd_qqx ["self", "text"] (sp_dword A):=by
 refine T.F_qqx.ok sc_qqx (fun vs H Q E h => ?_) (fun cdv Ar outer s H vs Q E hr h => ?_)
 ·obtain⟨R,z,l,ws,rfl,_⟩:=h
  rfl
 ·obtain⟨R,z,l,ws,rfl,hR,hw,hl,hwl,hz,k⟩:=h
  refine⟨_,(zz2 (ps_set (i:=2) sc_qqx.nd rfl (by walk_at "o") (zz8 (G_qyq T) (hr.mono (by decide)) rfl T.m_qyq T.k_qyq T.b_qyq .nil pass0 (zz0 (pv 1) (zz0 pe_int (zz0 pe_int pa_nil))))) (zz2 (ps_if (zz6 op_isN (pv 2) pe_non (nomark _)) (zz5 (ps_ret pe_bl)) zz7) (zz2 (ps_expr (pe_bm PySem.F.plainAttrs_list PySem.F.slot_list_append PySem.F.type_list_append zz19 (pe_fld (pv 0) rfl) (zz0 (pv 2) pa_nil))) (zz5 (ps_ret pe_bl))))),?_⟩
  walk_at "rd"
  walk_at "0"
  dsimp only at *
  subst hw
  refine⟨hz,fun H1 s1 => ?_⟩
  rcases k with ⟨n,en,k⟩ | ⟨en,k⟩
  ·rw[en,if_neg (by simp)]
   exact⟨_,_,_,s1 _ _ hR,T.cl_qxq,T.no_qxq_last_words,.ref l,rfl,.inl ⟨rfl,_,SqL.of (s1 _ _ hl)⟩,l,rfl,ws,s1 _ _ hl,by rw[sizeLine_eq];omega,k _ (fun x o n e=>by rw[upd_ne n];exact s1 _ _ e) zz1⟩
  ·rw[en,if_pos (by simp)];exact k H1 s1
theorem G_qqy (T:Txt w K mg A):FnOk P w K mg base CX0 7 A.qqy A.fd_qqy ["self", "soft", "rule", "name", "text"] (sp_dfill A):=by
 refine T.F_qqy.ok sc_qqy (fun vs H Q E h => ?_) (fun cdv Ar outer s H vs Q E hr h => ?_)
 ·obtain⟨R,soft,r,nm,z,l,l2,ws,gs,rfl,_⟩:=h
  rfl
 ·obtain⟨R,soft,r,nm,z,l,l2,ws,gs,rfl,hR,hw,hl,hf,hl2,hwl,hgl,hz,hn,hr0,sg,k⟩:=h
  refine⟨_,(zz2 (ps_set (i:=5) sc_qqy.nd rfl (by walk_at "o") (zz8 (G_qyq T) (hr.mono (by decide)) rfl T.m_qyq T.k_qyq T.b_qyq .nil pass0 (zz0 (pv 4) (zz0 (pe_un un_neg pe_int) (zz0 pe_int pa_nil))))) (zz2 (ps_if (PW.pt (pw_or (pt_not (pt_val (zz8 (G_qyx T) (hr.mono (by decide)) rfl T.m_qyx T.k_qyx T.b_qyx .nil pass0 (zz0 (pv 2) pa_nil)))) (pw_or (pt_not (pt_val (zz8 (G_qxz T) (hr.mono (by decide)) rfl T.m_qxz T.k_qxz T.b_qxz .nil pass0 (zz0 (pv 3) pa_nil)))) (pw_or1 (zz6 op_isN (pv 5) pe_non (nomark _)))))) (zz5 (ps_ret pe_bl)) zz7) (zz2 (ps_if (PW.pt (pw_and (pt_val (pv 1)) (pw_and1 (PW.pt (pw_or (zz6 op_eq (pv 2) pe_str (nomark _)) (pw_or1 (zz6 op_eq (pv 2) pe_str (nomark _)))))))) (zz5 (ps_ret pe_bl)) zz7) (zz2 (ps_expr (pe_bm PySem.F.plainAttrs_list PySem.F.slot_list_append PySem.F.type_list_append zz19 (pe_fld (pv 0) rfl) (zz0 (pe_tup (zz0 (pe_op op_sub (zz16 (zz18 (K:=K) rfl) (by rfl) T.n_len bt_len (zz0 (pe_fld (pv 0) rfl) pa_nil)) pe_int) (zz0 (pv 2) (zz0 (pv 3) (zz0 (pv 5) (zz0 (pv 1) pa_nil)))))) pa_nil))) (zz5 (ps_ret pe_bl)))))),?_⟩
  walk_at "rd"
  walk_at "0"
  dsimp only at *
  subst hw hf
  refine⟨hz,fun H1 s1=>⟨hr0,sg,fun H2 s2 => ?_⟩⟩
  by_cases hT:isT r
  ·rw[decide_eq_true hT,if_neg (by simp)]
   refine⟨hn,fun H3 s3 => ?_⟩
   have sm:=s1.trans (s2.trans s3)
   have back:∀{x:Addr},H3 x=none→H x=none:=fun {x} h=>by
    cases hh:H x with
    | none=>rfl
    | some o=>rw[sm _ _ hh]at h;cases h
   cases hm:isNm nm with
   | false=>
    rw[if_pos (by simp)]
    exact k.elim (fun⟨_,_,_,q,_⟩=>by rw[hm]at q;cases q) fun q=>q.2 _ sm
   | true=>
    rw[if_neg (by simp)]
    rcases numF_cases z (-2147483648) 2147483647 with en | ⟨n,en⟩
    ·rw[en,if_pos (by simp)]
     exact k.elim (fun⟨_,q,_⟩=>by rw[en]at q;cases q) fun q=>q.2 _ sm
    rw[en,if_neg (by simp)]
    by_cases hb:softBad soft r
    ·have kb:=k.elim (fun⟨_,_,_,_,q,_⟩=>absurd hb q) fun q=>q.2 _ sm
     obtain⟨rfl,e⟩:=hb
     rw[if_pos rfl]
     by_cases e1:r=Str.ofString "near"
     ·rw[decide_eq_true e1,if_pos rfl];exact kb
     ·rw[decide_eq_false e1,if_neg (by simp),decide_eq_true (e.resolve_left e1),if_pos rfl];exact kb
    obtain⟨k⟩:Nonempty (∀t H',H t=none→(∀x o,x≠l2→H x=some o→H' x=some o)→H' t=some (.tup [.int ((ws.length:Int) - 1),.str r,.str nm,.int n,.bl soft])→H' l2=some (.lst (gs++[.ref t]))→Q (.bl true) H'):=by
     rcases k with ⟨n',en',_,_,_,k⟩ | ⟨bad,_⟩
     ·rw[en]at en';cases en';exact⟨k⟩
     ·rcases bad with q | q | q | q
      ·rw[en]at q;cases q
      ·exact absurd hT q
      ·rw[hm]at q;cases q
      ·exact absurd q hb
    have fin:∀t,H3 t=none→upd H3 t (HO.tup [V.int ((ws.length:Int) - 1),V.str r,V.str nm,V.int n,V.bl soft]) l2=some (HO.lst gs)∧gs.length<sizeLine∧Q (V.bl true) (upd (upd H3 t (HO.tup [V.int ((ws.length:Int) - 1),V.str r,V.str nm,V.int n,V.bl soft])) l2 (HO.lst (gs++[V.ref t]))):=fun t ht=>by
     have n2:l2≠t:=zz3 (sm _ _ hl2) ht
     refine⟨by rw[upd_ne n2];exact sm _ _ hl2,by rw[sizeLine_eq];omega,k t _ (back ht) (fun x o n e => ?_) ?_ zz1⟩
     ·have e:=sm _ _ e
      rw[upd_ne n,upd_ne (zz3 e ht)];exact e
     ·rw[upd_ne n2.symm];exact zz1
    have h5:5≤sizeLine:=by rw[sizeLine_eq];decide
    cases soft with
    | true=>
     rw[if_pos rfl,decide_eq_false (fun q=>hb ⟨rfl,.inl q⟩),if_neg (by simp),decide_eq_false (fun q=>hb ⟨rfl,.inr q⟩),if_neg (by simp)]
     exact⟨_,_,_,sm _ _ hR,T.cl_qxq,T.no_qxq_last_fills,.ref l2,rfl,.inl ⟨rfl,_,SqL.of (sm _ _ hl2)⟩,_,_,_,sm _ _ hR,T.cl_qxq,T.no_qxq_last_words,.ref l,rfl,ws.length,.inl ⟨_,SqL.of (sm _ _ hl),rfl⟩,h5,fun t ht=>⟨l2,rfl,gs,fin t ht⟩⟩
    | false=>
     rw[if_neg (by simp)]
     exact⟨_,_,_,sm _ _ hR,T.cl_qxq,T.no_qxq_last_fills,.ref l2,rfl,.inl ⟨rfl,_,SqL.of (sm _ _ hl2)⟩,_,_,_,sm _ _ hR,T.cl_qxq,T.no_qxq_last_words,.ref l,rfl,ws.length,.inl ⟨_,SqL.of (sm _ _ hl),rfl⟩,h5,fun t ht=>⟨l2,rfl,gs,fin t ht⟩⟩
  ·rw[decide_eq_false hT,if_pos (by simp)]
   exact k.elim (fun⟨_,_,q,_⟩=>absurd q hT) fun q=>q.2 _ (s1.trans s2)
theorem G_qqz (T:Txt w K mg A):FnOk P w K mg base CX0 2 A.qqz A.fd_qqz ["self", "sort", "name"] (sp_dtold A):=by
 refine T.F_qqz.ok sc_qqz (fun vs H Q E h => ?_) (fun cdv Ar outer s H vs Q E hr h => ?_)
 ·obtain⟨R,sort,nm,l,ws,xs,ns,kvs,rfl,_⟩:=h
  rfl
 ·obtain⟨R,sort,nm,l,ws,xs,ns,kvs,rfl,hR,hw,hl,hls,hln,htd,hnl,hkl,hn,k⟩:=h
  refine⟨_,(zz2 (ps_if (PW.pt (pw_or (pt_cmp (pc_din (hu_of hr) (pv 2) (pe_fld (pv 0) rfl))) (pw_or1 (pt_not (pt_val (zz8 (G_qxz T) (hr.mono (by decide)) rfl T.m_qxz T.k_qxz T.b_qxz .nil pass0 (zz0 (pv 2) pa_nil))))))) (zz5 (ps_ret pe_bl)) zz7) (zz2 (ps_dput (hu_of hr) (pe_fld (pv 0) rfl) (pv 2) pe_bl rfl) (zz2 (ps_expr (pe_bm PySem.F.plainAttrs_list PySem.F.slot_list_append PySem.F.type_list_append zz19 (pe_fld (pv 0) rfl) (zz0 (pe_tup (zz0 (pv 2) (zz0 (pv 1) (zz0 (pe_op op_sub (zz16 (zz18 (K:=K) rfl) (by rfl) T.n_len bt_len (zz0 (pe_fld (pv 0) rfl) pa_nil)) pe_int) (zz0 (zz16 (zz18 (K:=K) rfl) (by rfl) T.n_len bt_len (zz0 (pe_fld (pv 0) rfl) pa_nil)) pa_nil))))) pa_nil))) (zz5 (ps_ret pe_bl))))),?_⟩
  walk_at "rd"
  walk_at "0"
  dsimp only at *
  subst hw
  refine⟨_,_,_,hR,T.cl_qxq,T.no_qxq_told,.ref td,rfl,td,rfl,_,DGet.k (k:=Sum.inr nm) htd,?_⟩
  rcases k with ⟨e1,e2,k⟩ | ⟨bad,k⟩
  ·rw[e1,if_neg (by simp)]
   refine⟨hn,fun H1 s1 => ?_⟩
   rw[e2,if_neg (by simp)]
   have npd:p≠td:=ne_of hR htd (by intro z;cases z)
   have nnd:ln≠td:=ne_of hln htd (by intro z;cases z)
   have nsd:ls≠td:=ne_of hls htd (by intro z;cases z)
   have nld:l≠td:=ne_of hl htd (by intro z;cases z)
   have hp1:upd H1 td (.dK (putK kvs (.inr nm) (.bl true))) p=some (.ins A.c_qxq dx (Pd.fs ⟨p,dx,nm0,ls,ln,.ref l,lf,td,bw⟩)):=by rw[upd_ne npd];exact s1 _ _ hR
   have hn1:upd H1 td (.dK (putK kvs (.inr nm) (.bl true))) ln=some (.lst ns):=by rw[upd_ne nnd];exact s1 _ _ hln
   have hs1:upd H1 td (.dK (putK kvs (.inr nm) (.bl true))) ls=some (.lst xs):=by rw[upd_ne nsd];exact s1 _ _ hls
   have hw1:upd H1 td (.dK (putK kvs (.inr nm) (.bl true))) l=some (.lst ws):=by rw[upd_ne nld];exact s1 _ _ hl
   refine⟨_,_,_,s1 _ _ hR,T.cl_qxq,T.no_qxq_told,.ref td,rfl,td,rfl,_,DPut.k (k:=Sum.inr nm) (s1 _ _ htd) (by rw[sizeLine_eq];omega),_,_,_,hp1,T.cl_qxq,T.no_qxq_names,.ref ln,rfl,.inl ⟨rfl,_,SqL.of hn1⟩,_,_,_,hp1,T.cl_qxq,T.no_qxq_stretches,.ref ls,rfl,xs.length,.inl ⟨_,SqL.of hs1,rfl⟩,_,_,_,hp1,T.cl_qxq,T.no_qxq_last_words,.ref l,rfl,ws.length,.inl ⟨_,SqL.of hw1,rfl⟩,by walk_at "s", fun t ht => ?_⟩
   have ntd:t≠td:=fun z=>by rw[z,zz1]at ht;cases ht
   have nnt:ln≠t:=zz3 hn1 ht
   have ht1:H1 t=none:=by rw[upd_ne ntd]at ht;exact ht
   have ht0:H t=none:=by
    cases hh:H t with
    | none=>rfl
    | some o=>rw[s1 _ _ hh]at ht1;cases ht1
   refine⟨ln,rfl,ns,by rw[upd_ne nnt];exact hn1,by rw[sizeLine_eq];omega,k t _ ht0 (fun x o n1 n2 e => ?_) ?_ ?_ zz1⟩
   ·have e:=s1 _ _ e
    rw[upd_ne n1,upd_ne (zz3 e ht1),upd_ne n2];exact e
   ·rw[upd_ne nnd.symm,upd_ne ntd.symm];exact zz1
   ·rw[upd_ne nnt.symm];exact zz1
  ·by_cases hs:(valV kvs (.inr nm)).isSome=true
   ·rw[if_pos hs];exact k H (Same.refl H)
   ·rw[if_neg hs]
    refine⟨hn,fun H1 s1 => ?_⟩
    rw[bad.resolve_left hs,if_pos (by simp)]
    exact k H1 s1
theorem upd_id {H:Hp}{l:Addr}{o:HO}(h:H l=some o):upd H l o=H:=by
 funext x
 by_cases e:x=l
 ·rw[e,zz1,h]
 ·rw[upd_ne e]
def Seqs (H G:Hp):Prop:=(∀x ys,H x=some (.lst ys)→G x=some (.lst ys))∧∀x ys,H x=some (.tup ys)→G x=some (.tup ys)
theorem pr_near {H G:Hp}{q:PcM}(h:Pr H q) (s:Seqs H G):Pr G q:=
 ⟨s.1 _ _ h.sl,s.1 _ _ h.nl,fun x hx=>⟨s.2 _ _ (h.ss x hx).top,s.1 _ _ (h.ss x hx).wd,s.1 _ _ (h.ss x hx).fl,fun f hf=>s.2 _ _ ((h.ss x hx).fs f hf)⟩,fun n hn=>s.2 _ _ (h.ns n hn),h.nd⟩
theorem modL_snoc {α:Type}(f:α→α):∀(xs:List α) (x:α),modL f (xs++[x])=xs++[f x]
 | [],_=>rfl
 | [y],x=>rfl
 | y::z::r,x=>by
  show y::modL f (z::r++[x])=_
  rw[modL_snoc f (z::r) x];rfl
theorem Pd.Ok.mono {H0 H H':Hp}{R:Pd}{q:PcM}{S:RP}{m:Nat}(h:Pd.Ok A H0 H R q S m) (s:Same H H'):Pd.Ok A H0 H' R q S m:={ h with sm:=h.sm.trans s,top:=s _ _ h.top,pr:=h.pr.mono s,td:=s _ _ h.td }
theorem Pd.Ok.obj {H0 H H':Hp}{R R':Pd}{q:PcM}{S S':RP}{m:Nat}(h:Pd.Ok A H0 H R q S m) (fr:∀x o,x≠R.p→H x=some o→H' x=some o) (e1:R'.p=R.p) (e2:R'.td=R.td) (e3:R'.ls=R.ls∧R'.ln=R.ln) (ht:H' R'.p=some (.ins A.c_qxq R'.dx R'.fs))
  (hn:R'.nm=match S'.nm with | none=>.non | some z=>.str z) (e4:R'.lw=R.lw∧R'.lf=R.lf) (hb:R'.bw=S'.bw) (es:S'.sts=S.sts∧S'.nms=S.nms):Pd.Ok A H0 H' R' q S' m:=by
 have ne:∀{x:Addr}{o:HO},(∀C dx fs,o≠.ins C dx fs)→H x=some o→H' x=some o:=fun {x o} n e=>fr x o (fun z=>by rw[z,h.top]at e;exact n _ _ _ (Option.some.inj e).symm) e
 refine⟨fun x o e=>fr _ _ (zz3 e h.f.1) (h.sm _ _ e),by rw[e1,e2];exact h.f,h.fl,ht,hn,by rw[e3.1,e3.2];exact h.ql,pr_near h.pr ⟨fun x ys e=>ne (by simp) e,fun x ys e=>ne (by simp) e⟩,by rw[es.1];exact h.sts,by rw[es.2];exact h.nms,by rw[e4.1];exact h.lw,by rw[e4.2];exact h.lf,by rw[e2,es.2];exact ne (by simp) h.td,hb,h.n1⟩
theorem f_back {H0 H:Hp}{x:Addr}(s:Same H0 H) (e:H x=none):H0 x=none:=by
 cases hh:H0 x with
 | none=>rfl
 | some o=>rw[s _ _ hh]at e;cases e
theorem Pd.Ok.stretch {H0 H H':Hp}{R:Pd}{q:PcM}{S:RP}{m:Nat}(h:Pd.Ok A H0 H R q S m) {kd:Str}{n:Int}{lw lf t:Addr}(n1:lw≠lf) (f1:H lw=none) (f2:H lf=none) (f3:H t=none)
  (fr:∀x o,x≠R.p→x≠R.ls→H x=some o→H' x=some o) (h1:H' lw=some (.lst [])) (h2:H' lf=some (.lst [])) (h3:H' t=some (.tup [.str kd,.int n,.ref lw,.ref lf])) (h4:H' R.ls=some (.lst (q.sts.map StM.v++[.ref t])))
  (h5:H' R.p=some (.ins A.c_qxq R.dx (Pd.fs { R with lw:=.ref lw,lf:=.ref lf }))):Pd.Ok A H0 H' { R with lw:=.ref lw,lf:=.ref lf } { q with sts:=q.sts++[⟨t,lw,lf,kd,n,[],[]⟩] } { S with sts:=S.sts++[(kd,n,[],[])] } (m+1):=by
 have hls:=h.pr.sl
 rw[h.ql.1]at hls
 have nlp:R.ls≠R.p:=ne_of hls h.top (by intro z;cases z)
 have fls:H0 R.ls=none:=by rw[←h.ql.1];exact h.fl _ (by simp[PcM.lists])
 have np:∀{x:Addr}{o:HO},(∀C dx fs,o≠.ins C dx fs)→H x=some o→x≠R.p:=fun {x o} n e z=>by rw[z,h.top]at e;exact n _ _ _ (Option.some.inj e).symm
 have G:Pr (upd H' R.ls (.lst (q.sts.map StM.v))) q:=by
  refine pr_near h.pr ⟨fun x ys e => ?_,fun x ys e => ?_⟩
  ·by_cases z:x=R.ls
   ·rw[z]at e ⊢;rw[zz1,←hls,e]
   ·rw[upd_ne z];exact fr x _ (np (by simp) e) z e
  ·rw[upd_ne (ne_of e hls (by intro z;cases z))];exact fr x _ (np (by simp) e) (ne_of e hls (by intro z;cases z)) e
 have a1:lw≠R.ls:=Ne.symm (zz3 hls f1)
 have a2:lf≠R.ls:=Ne.symm (zz3 hls f2)
 have a3:t≠R.ls:=Ne.symm (zz3 hls f3)
 have P:=G.newStretch (t:=t) (lw:=lw) (lf:=lf) (kind:=kd) (step:=n) (by rw[upd_ne a3];exact h3) (by rw[upd_ne a1];exact h1) (by rw[upd_ne a2];exact h2) n1 (h.pr.fresh f1) (h.pr.fresh f2)
 have e5:upd (upd H' R.ls (.lst (q.sts.map StM.v))) q.ls (.lst (q.sts.map StM.v++[.ref t]))=H':=by rw[h.ql.1,upd_upd,upd_id h4]
 rw[e5]at P
 obtain⟨c1,c2,c3⟩:=h.n1
 refine⟨fun x o e=>fr _ _ (zz3 e h.f.1) (zz3 e fls) (h.sm _ _ e),h.f,fun b hb => ?_,h5,h.nm,h.ql,P,?_,h.nms,?_,?_,?_,h.bw,?_⟩
 ·have e:PcM.lists { q with sts:=q.sts++[⟨t,lw,lf,kd,n,[],[]⟩] }=q.lists++[lw,lf]:=by simp[PcM.lists,StM.lists,List.flatMap_append]
  rw[e]at hb
  rcases List.mem_append.mp hb with z | z
  ·exact h.fl b z
  ·simp only[List.mem_cons,List.not_mem_nil,or_false]at z
   rcases z with rfl | rfl
   ·exact f_back h.sm f1
   ·exact f_back h.sm f2
 ·show (q.sts++[_]).map sC=S.sts++[_]
  rw[List.map_append,h.sts];rfl
 ·show _=match (q.sts++[_]).getLast? with | none=>V.non | some s=>V.ref s.lw
  rw[List.getLast?_append];rfl
 ·show _=match (q.sts++[_]).getLast? with | none=>V.non | some s=>V.ref s.lf
  rw[List.getLast?_append];rfl
 ·exact fr _ _ (ne_of h.td h.top (by intro z;cases z)) (ne_of h.td hls (by intro z;cases z)) h.td
 ·refine⟨by show (q.sts++[_]).length≤m+1;rw[List.length_append,List.length_singleton];omega,by show q.nms.length≤m+1;omega,fun s hs => ?_⟩
  rcases List.mem_append.mp hs with z | z
  ·have:=c3 s z;exact⟨by omega,by omega⟩
  ·rw[List.mem_singleton.mp z];exact⟨Nat.zero_le _,Nat.zero_le _⟩
theorem Pd.Ok.last {H0 H:Hp}{R:Pd}{q:PcM}{S:RP}{m:Nat}(h:Pd.Ok A H0 H R q S m) (hne:S.sts≠[]):∃ss s,q.sts=ss++[s]∧R.lw=.ref s.lw∧R.lf=.ref s.lf∧s.At H∧S.sts=ss.map sC++[sC s]:=by
 have qne:q.sts≠[]:=fun z=>hne (by rw[←h.sts,z];rfl)
 obtain⟨ss,s,e⟩:∃ss s,q.sts=ss++[s]:=⟨q.sts.dropLast,q.sts.getLast qne,(List.dropLast_concat_getLast qne).symm⟩
 have g:q.sts.getLast?=some s:=by rw[e,List.getLast?_append];rfl
 refine⟨ss,s,e,by rw[h.lw,g],by rw[h.lf,g],h.pr.ss s (by rw[e];simp),by rw[←h.sts,e,List.map_append];rfl⟩
theorem Pd.Ok.word {H0 H H':Hp}{R:Pd}{q:PcM}{S:RP}{m:Nat}(h:Pd.Ok A H0 H R q S m) {ss:List StM}{s:StM}(e:q.sts=ss++[s]) {n:Int}
  (fr:∀x o,x≠s.lw→H x=some o→H' x=some o) (h1:H' s.lw=some (.lst (s.words.map V.int++[.int n]))):Pd.Ok A H0 H' R { q with sts:=ss++[{ s with words:=s.words++[n] }] } { S with sts:=modL (addWd n) S.sts } (m+1):=by
 have sa:=h.pr.ss s (by rw[e];simp)
 have hm:=(h.pr.lastSt e).1
 have f0:=h.fl _ hm
 walk_at "1"
 have P:Pr (upd H' s.lw (.lst (s.words.map V.int))) q:=by
  refine pr_near h.pr ⟨fun x ys ex => ?_,fun x ys ex => ?_⟩
  ·by_cases z:x=s.lw
   ·rw[z]at ex ⊢;rw[zz1,←sa.wd,ex]
   ·rw[upd_ne z];exact fr x _ z ex
  ·have z:=ne_of ex sa.wd (by intro z;cases z)
   rw[upd_ne z];exact fr x _ z ex
 have P:=P.newWord (i:=n) e
 have e5:upd (upd H' s.lw (.lst (s.words.map V.int))) s.lw (.lst (s.words.map V.int++[.int n]))=H':=by rw[upd_upd,upd_id h1]
 rw[e5]at P
 obtain⟨c1,c2,c3⟩:=h.n1
 have g:q.sts.getLast?=some s:=by rw[e,List.getLast?_append];rfl
 refine⟨fun x o ex=>fr _ _ (zz3 ex f0) (h.sm _ _ ex),h.f,fun b hb=>h.fl b ?_,fr _ _ (ne_of h.top sa.wd (by intro z;cases z)) h.top,h.nm,h.ql,P,?_,h.nms,?_,?_,fr _ _ (ne_of h.td sa.wd (by intro z;cases z)) h.td,h.bw,?_⟩
 ·simp only[PcM.lists,e,List.flatMap_append]at hb ⊢
  exact hb
 ·show (ss++[_]).map sC=modL (addWd n) S.sts
  rw[es,modL_snoc,List.map_append];rfl
 ·show _=match (ss++[_]).getLast? with | none=>V.non | some s=>V.ref s.lw
  rw[List.getLast?_append,h.lw,g];rfl
 ·show _=match (ss++[_]).getLast? with | none=>V.non | some s=>V.ref s.lf
  rw[List.getLast?_append,h.lf,g];rfl
 ·have cl:(ss++[s]).length≤m:=by rw[←e];exact c1
  rw[List.length_append,List.length_singleton]at cl
  refine⟨by show (ss++[_]).length≤m+1;rw[List.length_append,List.length_singleton];omega,by show q.nms.length≤m+1;omega,fun x hx => ?_⟩
  have cs:=c3 s (by rw[e];simp)
  rcases List.mem_append.mp hx with z | z
  ·have:=c3 x (by rw[e];exact List.mem_append_left _ z);exact⟨by omega,by omega⟩
  ·rw[List.mem_singleton.mp z];exact⟨by show (s.words++[n]).length≤m+1;rw[List.length_append,List.length_singleton];omega,by show s.fills.length≤m+1;omega⟩
theorem Pd.Ok.fill {H0 H H':Hp}{R:Pd}{q:PcM}{S:RP}{m:Nat}(h:Pd.Ok A H0 H R q S m) {ss:List StM}{s:StM}(e:q.sts=ss++[s]) {soft:Bool}{r nm:Str}{n:Int}{t:Addr}(ft:H t=none)
  (fr:∀x o,x≠s.lf→H x=some o→H' x=some o) (h1:H' t=some (.tup [.int ((s.words.length:Int) - 1),.str r,.str nm,.int n,.bl soft])) (h2:H' s.lf=some (.lst (s.fills.map FillM.v++[.ref t]))):Pd.Ok A H0 H' R { q with sts:=ss++[{ s with fills:=s.fills++[⟨t,(s.words.length:Int) - 1,r,nm,n,soft⟩] }] } { S with sts:=modL (addFl soft r nm n) S.sts } (m+1):=by
 have sa:=h.pr.ss s (by rw[e];simp)
 have hm:=(h.pr.lastSt e).2.1
 have f0:=h.fl _ hm
 walk_at "1"
 have P:Pr (upd H' s.lf (.lst (s.fills.map FillM.v))) q:=by
  refine pr_near h.pr ⟨fun x ys ex => ?_,fun x ys ex => ?_⟩
  ·by_cases z:x=s.lf
   ·rw[z]at ex ⊢;rw[zz1,←sa.fl,ex]
   ·rw[upd_ne z];exact fr x _ z ex
  ·have z:=ne_of ex sa.fl (by intro z;cases z)
   rw[upd_ne z];exact fr x _ z ex
 have nt:t≠s.lf:=Ne.symm (zz3 sa.fl ft)
 have P:=P.newFill (f:=⟨t,(s.words.length:Int) - 1,r,nm,n,soft⟩) e (by show upd H' s.lf _ t=_;rw[upd_ne nt];exact h1)
 have e5:upd (upd H' s.lf (.lst (s.fills.map FillM.v))) s.lf (.lst (s.fills.map FillM.v++[.ref t]))=H':=by rw[upd_upd,upd_id h2]
 have P:Pr (upd (upd H' s.lf (.lst (s.fills.map FillM.v))) s.lf (.lst (s.fills.map FillM.v++[.ref t]))) _:=P
 rw[e5]at P
 obtain⟨c1,c2,c3⟩:=h.n1
 have g:q.sts.getLast?=some s:=by rw[e,List.getLast?_append];rfl
 refine⟨fun x o ex=>fr _ _ (zz3 ex f0) (h.sm _ _ ex),h.f,fun b hb=>h.fl b ?_,fr _ _ (ne_of h.top sa.fl (by intro z;cases z)) h.top,h.nm,h.ql,P,?_,h.nms,?_,?_,fr _ _ (ne_of h.td sa.fl (by intro z;cases z)) h.td,h.bw,?_⟩
 ·simp only[PcM.lists,e,List.flatMap_append]at hb ⊢
  exact hb
 ·show (ss++[_]).map sC=modL (addFl soft r nm n) S.sts
  rw[es,modL_snoc,List.map_append]
  simp[sC,addFl,fC]
 ·show _=match (ss++[_]).getLast? with | none=>V.non | some s=>V.ref s.lw
  rw[List.getLast?_append,h.lw,g];rfl
 ·show _=match (ss++[_]).getLast? with | none=>V.non | some s=>V.ref s.lf
  rw[List.getLast?_append,h.lf,g];rfl
 ·have cl:(ss++[s]).length≤m:=by rw[←e];exact c1
  rw[List.length_append,List.length_singleton]at cl
  refine⟨by show (ss++[_]).length≤m+1;rw[List.length_append,List.length_singleton];omega,by show q.nms.length≤m+1;omega,fun x hx => ?_⟩
  have cs:=c3 s (by rw[e];simp)
  rcases List.mem_append.mp hx with z | z
  ·have:=c3 x (by rw[e];exact List.mem_append_left _ z);exact⟨by omega,by omega⟩
  ·rw[List.mem_singleton.mp z];exact⟨by show s.words.length≤m+1;omega,by show (s.fills++[_]).length≤m+1;rw[List.length_append,List.length_singleton];omega⟩
theorem Pd.Ok.told {H0 H H':Hp}{R:Pd}{q:PcM}{S:RP}{m:Nat}(h:Pd.Ok A H0 H R q S m) {ss:List StM}{s:StM}(e:q.sts=ss++[s]) {sort nm:Str}{t:Addr}(hnew:nm∉S.nms.map (·.1)) (ft:H t=none)
  (fr:∀x o,x≠R.ln→x≠R.td→H x=some o→H' x=some o) (h1:H' R.td=some (.dK (putK (S.nms.map fun n=>(Sum.inr n.1,V.bl true)) (.inr nm) (.bl true)))) (h2:H' t=some (.tup [.str nm,.str sort,.int ((q.sts.length:Int) - 1),.int (s.words.length:Int)]))
  (h3:H' R.ln=some (.lst (q.nms.map ToldM.v++[.ref t]))):Pd.Ok A H0 H' R { q with nms:=q.nms++[⟨t,nm,sort,(q.sts.length:Int) - 1,(s.words.length:Int)⟩] } { S with nms:=S.nms++[(nm,sort,(S.sts.length:Int) - 1,lastW S)] } (m+1):=by
 have hln:=h.pr.nl
 rw[h.ql.2]at hln
 have fln:H0 R.ln=none:=by rw[←h.ql.2];exact h.fl _ (by simp[PcM.lists])
 walk_at "1"
 have P:Pr (upd H' R.ln (.lst (q.nms.map ToldM.v))) q:=by
  refine pr_near h.pr ⟨fun x ys ex => ?_,fun x ys ex => ?_⟩
  ·by_cases z:x=R.ln
   ·rw[z]at ex ⊢;rw[zz1,←hln,ex]
   ·rw[upd_ne z];exact fr x _ z (ne_of ex h.td (by intro z;cases z)) ex
  ·have z:=ne_of ex hln (by intro z;cases z)
   rw[upd_ne z];exact fr x _ z (ne_of ex h.td (by intro z;cases z)) ex
 have nt:t≠R.ln:=Ne.symm (zz3 hln ft)
 have P:=P.newTold (n:=⟨t,nm,sort,(q.sts.length:Int) - 1,(s.words.length:Int)⟩) (by show upd H' R.ln _ t=_;rw[upd_ne nt];exact h2)
 have e5:upd (upd H' R.ln (.lst (q.nms.map ToldM.v))) q.ln (.lst (q.nms.map ToldM.v++[.ref t]))=H':=by rw[h.ql.2,upd_upd,upd_id h3]
 have P:Pr (upd (upd H' R.ln (.lst (q.nms.map ToldM.v))) q.ln (.lst (q.nms.map ToldM.v++[.ref t]))) _:=P
 rw[e5]at P
 obtain⟨c1,c2,c3⟩:=h.n1
 refine⟨fun x o ex=>fr _ _ (zz3 ex fln) (zz3 ex h.f.2) (h.sm _ _ ex),h.f,h.fl,fr _ _ (ne_of h.top hln (by intro z;cases z)) (ne_of h.top h.td (by intro z;cases z)) h.top,h.nm,h.ql,P,h.sts,?_,h.lw,h.lf,?_,h.bw,?_⟩
 ·show (q.nms++[_]).map nC=S.nms++[_]
  have el:lastW S=(s.words.length:Int):=by unfold lastW;rw[es,List.getLast?_append];rfl
  have eq:(q.sts.length:Int)=(S.sts.length:Int):=by rw[←h.sts,List.length_map]
  rw[List.map_append,h.nms,el,←eq];rfl
 ·rw[h1]
  have nn:((S.nms.map fun n=>((Sum.inr n.1:Key),V.bl true)).any fun kv=>decide (kv.1=(.inr nm:Key)))=false:=by
   refine Bool.eq_false_iff.mpr fun z => ?_
   obtain⟨kv,hkv,ek⟩:=List.any_eq_true.mp z
   obtain⟨x,hx,rfl⟩:=List.mem_map.mp hkv
   have:=of_decide_eq_true ek
   injection this with this
   exact hnew (List.mem_map.mpr ⟨x,hx,this⟩)
  unfold putK
  rw[nn,if_neg (by simp)]
  show _=some (HO.dK ((S.nms++[_]).map _))
  rw[List.map_append];rfl
 ·exact⟨by show q.sts.length≤m+1;omega,by show (q.nms++[_]).length≤m+1;rw[List.length_append,List.length_singleton];omega,fun x hx=>by have:=c3 x hx;exact⟨by omega,by omega⟩⟩
theorem d_piece_piece:decide (Str.ofString "piece" = Str.ofString "piece")=true:=by decide +kernel
theorem d_piece_word:decide (Str.ofString "piece" = Str.ofString "word")=false:=by decide +kernel
theorem d_code_piece:decide (Str.ofString "code" = Str.ofString "piece")=false:=by decide +kernel
theorem d_code_code:decide (Str.ofString "code" = Str.ofString "code")=true:=by decide +kernel
theorem d_code_word:decide (Str.ofString "code" = Str.ofString "word")=false:=by decide +kernel
theorem d_data_piece:decide (Str.ofString "data" = Str.ofString "piece")=false:=by decide +kernel
theorem d_data_code:decide (Str.ofString "data" = Str.ofString "code")=false:=by decide +kernel
theorem d_data_data:decide (Str.ofString "data" = Str.ofString "data")=true:=by decide +kernel
theorem d_data_word:decide (Str.ofString "data" = Str.ofString "word")=false:=by decide +kernel
theorem d_word_piece:decide (Str.ofString "word" = Str.ofString "piece")=false:=by decide +kernel
theorem d_word_code:decide (Str.ofString "word" = Str.ofString "code")=false:=by decide +kernel
theorem d_word_data:decide (Str.ofString "word" = Str.ofString "data")=false:=by decide +kernel
theorem d_word_word:decide (Str.ofString "word" = Str.ofString "word")=true:=by decide +kernel
theorem d_fill_piece:decide (Str.ofString "fill" = Str.ofString "piece")=false:=by decide +kernel
theorem d_fill_code:decide (Str.ofString "fill" = Str.ofString "code")=false:=by decide +kernel
theorem d_fill_data:decide (Str.ofString "fill" = Str.ofString "data")=false:=by decide +kernel
theorem d_fill_word:decide (Str.ofString "fill" = Str.ofString "word")=false:=by decide +kernel
theorem d_fill_fill:decide (Str.ofString "fill" = Str.ofString "fill")=true:=by decide +kernel
theorem d_fill_soft:decide (Str.ofString "fill" = Str.ofString "soft")=false:=by decide +kernel
theorem d_soft_piece:decide (Str.ofString "soft" = Str.ofString "piece")=false:=by decide +kernel
theorem d_soft_code:decide (Str.ofString "soft" = Str.ofString "code")=false:=by decide +kernel
theorem d_soft_data:decide (Str.ofString "soft" = Str.ofString "data")=false:=by decide +kernel
theorem d_soft_word:decide (Str.ofString "soft" = Str.ofString "word")=false:=by decide +kernel
theorem d_soft_fill:decide (Str.ofString "soft" = Str.ofString "fill")=false:=by decide +kernel
theorem d_soft_soft:decide (Str.ofString "soft" = Str.ofString "soft")=true:=by decide +kernel
theorem d_tell_piece:decide (Str.ofString "tell" = Str.ofString "piece")=false:=by decide +kernel
theorem d_tell_code:decide (Str.ofString "tell" = Str.ofString "code")=false:=by decide +kernel
theorem d_tell_data:decide (Str.ofString "tell" = Str.ofString "data")=false:=by decide +kernel
theorem d_tell_word:decide (Str.ofString "tell" = Str.ofString "word")=false:=by decide +kernel
theorem d_tell_fill:decide (Str.ofString "tell" = Str.ofString "fill")=false:=by decide +kernel
theorem d_tell_soft:decide (Str.ofString "tell" = Str.ofString "soft")=false:=by decide +kernel
theorem d_weak_piece:decide (Str.ofString "weak" = Str.ofString "piece")=false:=by decide +kernel
theorem d_weak_code:decide (Str.ofString "weak" = Str.ofString "code")=false:=by decide +kernel
theorem d_weak_data:decide (Str.ofString "weak" = Str.ofString "data")=false:=by decide +kernel
theorem d_weak_word:decide (Str.ofString "weak" = Str.ofString "word")=false:=by decide +kernel
theorem d_weak_fill:decide (Str.ofString "weak" = Str.ofString "fill")=false:=by decide +kernel
theorem d_weak_soft:decide (Str.ofString "weak" = Str.ofString "soft")=false:=by decide +kernel
theorem d_own_piece:decide (Str.ofString "own" = Str.ofString "piece")=false:=by decide +kernel
theorem d_own_code:decide (Str.ofString "own" = Str.ofString "code")=false:=by decide +kernel
theorem d_own_data:decide (Str.ofString "own" = Str.ofString "data")=false:=by decide +kernel
theorem d_own_word:decide (Str.ofString "own" = Str.ofString "word")=false:=by decide +kernel
theorem d_own_fill:decide (Str.ofString "own" = Str.ofString "fill")=false:=by decide +kernel
theorem d_own_soft:decide (Str.ofString "own" = Str.ofString "soft")=false:=by decide +kernel
theorem atI_head {α:Type}{x:α}{xs:List α}:atI (x::xs) 0=some x:=by
 unfold atI ixN
 rw[if_pos (by decide),if_pos (by rw[List.length_cons];omega)]
 rfl
theorem v_piece:(valV HMPp (Sum.inr (Str.ofString "piece"):Key)).getD .non=.int 2:=by kernel_rfl
theorem v_code:(valV HMPp (Sum.inr (Str.ofString "code"):Key)).getD .non=.int 2:=by kernel_rfl
theorem v_data:(valV HMPp (Sum.inr (Str.ofString "data"):Key)).getD .non=.int 2:=by kernel_rfl
theorem v_word:(valV HMPp (Sum.inr (Str.ofString "word"):Key)).getD .non=.int 2:=by kernel_rfl
theorem v_fill:(valV HMPp (Sum.inr (Str.ofString "fill"):Key)).getD .non=.int 4:=by kernel_rfl
theorem v_soft:(valV HMPp (Sum.inr (Str.ofString "soft"):Key)).getD .non=.int 4:=by kernel_rfl
theorem v_tell:(valV HMPp (Sum.inr (Str.ofString "tell"):Key)).getD .non=.int 2:=by kernel_rfl
theorem v_weak:(valV HMPp (Sum.inr (Str.ofString "weak"):Key)).getD .non=.int 2:=by kernel_rfl
theorem v_own:(valV HMPp (Sum.inr (Str.ofString "own"):Key)).getD .non=.int 2:=by kernel_rfl
theorem good_len {S:RP}{r:PRow}{h:Str}{ps:List Str}(er:h::ps=r.parts) (tk:S.Takes r):(valV HMPp (.inr h)).getD .non=.int ((h::ps).length:Int):=by
 cases r with
 | piece nm=>obtain⟨rfl,rfl⟩:=List.cons.inj er;exact v_piece
 | st kd s=>
  walk_at "2"
  rcases tk.2.1 with rfl | rfl
  ·exact v_code
  ·exact v_data
 | word n=>obtain⟨rfl,rfl⟩:=List.cons.inj er;exact v_word
 | fill soft r nm add=>
  walk_at "2"
  cases soft
  ·exact v_fill
  ·exact v_soft
 | told sort nm=>
  walk_at "2"
  rcases tk.2.2.1 with rfl | rfl | rfl
  ·exact v_tell
  ·exact v_weak
  ·exact v_own
theorem good_first {S:RP}{r:PRow}{h:Str}{ps:List Str}(er:h::ps=r.parts) (tk:S.Takes r):h=Str.ofString "piece" ↔ S.nm=none:=by
 have no:∀{x:Str},decide (x=Str.ofString "piece")=false→S.nm≠none→(x=Str.ofString "piece" ↔ S.nm=none):=fun {x} a b=>⟨fun q=>absurd q (of_decide_eq_false a),fun q=>absurd q b⟩
 cases r with
 | piece nm=>obtain⟨rfl,rfl⟩:=List.cons.inj er;exact⟨fun _=>tk.1,fun _=>rfl⟩
 | st kd s=>
  walk_at "2"
  rcases tk.2.1 with rfl | rfl
  ·exact no d_code_piece tk.1
  ·exact no d_data_piece tk.1
 | word n=>obtain⟨rfl,rfl⟩:=List.cons.inj er;exact no d_word_piece tk.1
 | fill soft r nm add=>
  walk_at "2"
  cases soft
  ·exact no d_fill_piece tk.1
  ·exact no d_soft_piece tk.1
 | told sort nm=>
  walk_at "2"
  rcases tk.2.2.1 with rfl | rfl | rfl
  ·exact no d_tell_piece tk.1
  ·exact no d_weak_piece tk.1
  ·exact no d_own_piece tk.1
theorem val_none {ns:List ToldC}{nm:Str}(h:nm∉ns.map (·.1)):valV (ns.map fun n=>((Sum.inr n.1:Key),V.bl true)) (.inr nm)=none:=by
 unfold valV
 rw[List.find?_eq_none.mpr]
 ·rfl
 ·intro x hx e
  obtain⟨n,hn,rfl⟩:=List.mem_map.mp hx
  have e:=of_decide_eq_true e
  injection e with e
  exact h (List.mem_map.mpr ⟨n,hn,e⟩)
theorem val_some {ns:List ToldC}{nm:Str}(h:nm∈ns.map (·.1)):(valV (ns.map fun n=>((Sum.inr n.1:Key),V.bl true)) (.inr nm)).isSome=true:=by
 cases e:valV (ns.map fun n=>((Sum.inr n.1:Key),V.bl true)) (.inr nm) with
 | some v=>rfl
 | none=>
  unfold valV at e
  have e:=Option.map_eq_none_iff.mp e
  obtain⟨n,hn,en⟩:=List.mem_map.mp h
  exact absurd (decide_eq_true (by rw[en])) (List.find?_eq_none.mp e (Sum.inr n.1,V.bl true) (List.mem_map.mpr ⟨n,hn,rfl⟩))
theorem Pd.Ok.weak {H0 H:Hp}{R:Pd}{q:PcM}{S S':RP}{m m':Nat}(h:Pd.Ok A H0 H R q S m) (e:S=S') (hm:m≤m'):Pd.Ok A H0 H R q S' m':=by
 subst e
 obtain⟨c1,c2,c3⟩:=h.n1
 exact { h with n1:=⟨by omega,by omega,fun s hs=>by have:=c3 s hs;exact⟨by omega,by omega⟩⟩ }
theorem hmpp_val (h:Str):(valV HMPp (.inr h)).getD .non=.non∨∃n,(valV HMPp (.inr h)).getD .non=.int n:=by
 cases e:valV HMPp (.inr h) with
 | none=>exact .inl rfl
 | some v=>
  refine .inr ?_
  unfold valV at e
  obtain⟨p,hp,rfl⟩:=Option.map_eq_some_iff.mp e
  have hm:=List.mem_of_find?_eq_some hp
  unfold HMPp at hm
  simp only[List.mem_cons,List.not_mem_nil,or_false]at hm
  rcases hm with rfl | rfl | rfl | rfl | rfl | rfl | rfl | rfl | rfl<;>exact⟨_,rfl⟩
theorem G_qwz (T:Txt w K mg A):FnOk P w K mg base CX0 9 A.qwz A.fd_qwz ["self", "parts"] (sp_dtakes A):=by
 refine T.F_qwz.ok sc_qwz (fun vs H Q E h => ?_) (fun cdv Ar outer s H vs Q E hr h => ?_)
 ·obtain⟨H0,R,q,l,h,ps,S,m,rfl,_⟩:=h
  rfl
 ·obtain⟨H0,R,q,l,h,ps,S,m,rfl,hl,hR,hm,hpl,k⟩:=h
  refine⟨_,(zz2 (ps_set (i:=2) sc_qwz.nd rfl (by walk_at "o") (pe_ix (zz14 (K:=K) rfl) (pv 1) pe_int (fun _ _=>rfl))) (zz2 (ps_set (i:=3) sc_qwz.nd rfl (by walk_at "o") (pe_fld (pv 0) rfl)) (zz2 (ps_fld (pv 0) (pe_cmpR op_eq (pv 2) pe_str (nomark _)) rfl) (zz2 (ps_if (PW.pt (pw_or (zz6 op_ne (zz16 (zz18 (K:=K) rfl) (by rfl) T.n_len bt_len (zz0 (pv 1) pa_nil)) (pe_kget (pe_glob (v:=.ref A.o_qwq) rfl T.g_qwq rfl) T.q_qwq (pv 2) ⟨rfl,rfl,rfl,rfl⟩) (nomark _)) (pw_or1 (zz6 op_ne (pe_cmpR op_eq (pv 2) pe_str (nomark _)) (pe_cmpR op_isN (pe_fld (pv 0) rfl) pe_non (nomark _)) (nomark _))))) (zz5 (ps_ret pe_bl)) zz7) (pss_weak (u:=kA A) (zz2 (ps_if (zz6 op_eq (pv 2) pe_str (nomark _)) (zz5 (ps_ret (pe_meth (pv 0) T.cl_qxq T.me_qqw (G_qqw T) (hr.mono (by decide)) T.b_qqw .nil pass0 (zz0 (pe_ix (zz14 (K:=K) rfl) (pv 1) pe_int (fun _ _=>rfl)) pa_nil)))) zz7) (zz2 (ps_if (PW.pt (pw_or (zz6 op_eq (pv 2) pe_str (nomark _)) (pw_or1 (zz6 op_eq (pv 2) pe_str (nomark _))))) (zz5 (ps_ret (pe_meth (pv 0) T.cl_qxq T.me_qqq (G_qqq T) (hr.mono (by decide)) T.b_qqq .nil pass0 (zz0 (pv 2) (zz0 (pe_ix (zz14 (K:=K) rfl) (pv 1) pe_int (fun _ _=>rfl)) pa_nil))))) zz7) (zz2 (ps_if (zz6 op_isN (pe_fld (pv 0) rfl) pe_non (nomark _)) (zz5 (ps_ret pe_bl)) zz7) (zz2 (ps_if (zz6 op_eq (pv 2) pe_str (nomark _)) (zz5 (ps_ret (pe_meth (pv 0) T.cl_qxq T.me_qqx (G_qqx T) (hr.mono (by decide)) T.b_qqx .nil pass0 (zz0 (pe_ix (zz14 (K:=K) rfl) (pv 1) pe_int (fun _ _=>rfl)) pa_nil)))) zz7) (zz2 (ps_if (PW.pt (pw_or (zz6 op_eq (pv 2) pe_str (nomark _)) (pw_or1 (zz6 op_eq (pv 2) pe_str (nomark _))))) (zz5 (ps_ret (pe_and (pv 3) (pe_one (pe_meth (pv 0) T.cl_qxq T.me_qqy (G_qqy T) (hr.mono (by decide)) T.b_qqy .nil pass0 (zz0 (pe_cmpR op_eq (pv 2) pe_str (nomark _)) (zz0 (pe_ix (zz14 (K:=K) rfl) (pv 1) pe_int (fun _ _=>rfl)) (zz0 (pe_ix (zz14 (K:=K) rfl) (pv 1) pe_int (fun _ _=>rfl)) (zz0 (pe_ix (zz14 (K:=K) rfl) (pv 1) pe_int (fun _ _=>rfl)) pa_nil))))))))) zz7) (zz5 (ps_ret (pe_meth (pv 0) T.cl_qxq T.me_qqz (G_qqz T) (hr.mono (by decide)) T.b_qqz .nil pass0 (zz0 (pv 2) (zz0 (pe_ix (zz14 (K:=K) rfl) (pv 1) pe_int (fun _ _=>rfl)) pa_nil)))))))))) ?ka))))),?main⟩
  case main=>
   walk_at "rd"
   have hlp:l≠R.p:=ne_of hl hR.top (by intro z;cases z)
   have e1:decide (V.str h=V.str (Str.ofString "word"))=decide (h=Str.ofString "word"):=by simp
   have O:Pd.Ok A H0 (upd H R.p (.ins A.c_qxq R.dx (Pd.fs { R with bw:=decide (h=Str.ofString "word") }))) { R with bw:=decide (h=Str.ofString "word") } q { S with bw:=decide (h=Str.ofString "word") } m:=
    hR.obj (fun x o n e=>by rw[upd_ne n];exact e) rfl rfl ⟨rfl,rfl⟩ zz1 hR.nm ⟨rfl,rfl⟩ rfl ⟨rfl,rfl⟩
   have l1:∀o,upd H R.p o l=some (.lst ((h::ps).map V.str)):=fun o=>by rw[upd_ne hlp];exact hl
   have hn:R.nm=.non↔S.nm=none:=by
    rw[hR.nm]
    cases S.nm with
    | none=>exact⟨fun _=>rfl,fun _=>rfl⟩
    | some z=>exact⟨(fun q=>by cases q),(fun q=>by cases q)⟩
   refine⟨_,SqL.of hl,_,atI_head,_,_,_,hR.top,T.cl_qxq,T.no_qxq_behind_word,.bl R.bw,rfl,rfl,_,_,_,hR.top,T.cl_qxq,T.no_qxq_behind_word,by show 7<1000;decide,(h::ps).length,.inl ⟨_,SqL.of (l1 _),by rw[List.length_map]⟩,Sum.inr h,rfl,?_,?_⟩
   ·show (match V.int _,(valV HMPp (.inr h)).getD .non with | V.non,V.non=>true | V.non,V.int i=>true | V.int i,V.non=>true | V.non,V.bl b=>true | V.bl b,V.non=>true | V.non,V.str x=>true | V.str x,V.non=>true | V.int i,V.int i_1=>true | V.bl b,V.bl b_1=>true | V.str x,V.str x_8=>true | V.byt b,V.byt b_1=>true | V.int i,V.str x=>true | V.str x,V.int i=>true | V.bl b,V.str x=>true | V.str x,V.bl b=>true | x,x_8=>false)=true
    rcases hmpp_val h with e | ⟨n,e⟩<;>rw[e]
   rw[e1,show putF (Str.ofString "behind_word") (V.bl (decide (h=Str.ofString "word"))) R.fs=Pd.fs { R with bw:=decide (h=Str.ofString "word") } from rfl]
   have l2:=l1 (.ins A.c_qxq R.dx (Pd.fs { R with bw:=decide (h=Str.ofString "word") }))
   generalize upd H R.p (.ins A.c_qxq R.dx (Pd.fs { R with bw:=decide (h=Str.ofString "word") }))=H1 at *
   show if (!decide (V.int _=(valV HMPp (.inr h)).getD V.non))=true then _ else _
   by_cases hv:(valV HMPp (.inr h)).getD .non=.int ((h::ps).length:Int)
   ·rw[decide_eq_true hv.symm,if_neg (by simp)]
    refine⟨rfl,_,_,_,O.top,T.cl_qxq,T.no_qxq_name,R.nm,rfl,?_⟩
    have e2:decide (V.str h=V.str (Str.ofString "piece"))=decide (h=Str.ofString "piece"):=by simp
    rw[e2]
    by_cases hf:h=Str.ofString "piece" ↔ S.nm=none
    ·have e3:decide (h=Str.ofString "piece")=decide (R.nm=V.non):=by rw[decide_eq_decide];exact hf.trans hn.symm
     rw[e3,if_neg (by simp)]
     exact⟨H0,{ R with bw:=decide (h=Str.ofString "word") },q,l,h,ps,S,m,by rw[hR.bw],l2,O,hm,hpl,hv,hf,k⟩
    ·have e3:¬decide (h=Str.ofString "piece")=decide (R.nm=V.non):=by rw[decide_eq_decide];exact fun z=>hf (z.trans hn)
     rw[decide_eq_false e3,if_pos (by simp)]
     exact k.elim (fun⟨r,er,tk,_⟩=>absurd (good_first er tk) hf) fun z=>z.2 _ O.sm
   ·rw[decide_eq_false (fun z=>hv z.symm),if_pos (by simp)]
    exact k.elim (fun⟨r,er,tk,_⟩=>absurd (good_len er tk) hv) fun z=>z.2 _ O.sm
  case ka=>
   rintro D σ H ⟨H0,R,q,l,h,ps,S,m,rfl,hl,hR,hm,hpl,hv,hn,k⟩
   walk_at "rd"
   rcases k with ⟨r,er,tk,k⟩ | ⟨bad,k⟩
   ·cases r with
    | piece nm=>
     walk_at "2"
     rw[show decide ((Str.ofString "piece")=Str.ofString "piece")=true from d_piece_piece,if_pos rfl]
     refine⟨_,_,hR.top,rfl,_,SqL.of hl,_,rfl,R,rfl,nm,rfl,hR.top,(hpl nm (by simp)).1,.inl ⟨tk.2,fun H' fr ht => ?_⟩⟩
     refine k { R with nm:=.str nm } q H' rfl ((hR.obj (R':={ R with nm:=.str nm }) (S':=S.next (.piece nm)) fr rfl rfl ⟨rfl,rfl⟩ ht rfl ⟨rfl,rfl⟩ ?_ ⟨rfl,rfl⟩).weak rfl (Nat.le_succ _))
     show R.bw=false
     rw[hR.bw];exact d_piece_word
    | st kd s=>
     walk_at "2"
     rcases tk.2.1 with rfl | rfl
     ·rw[d_code_piece,if_neg (by simp),d_code_code,if_pos rfl]
      refine⟨_,_,hR.top,rfl,_,SqL.of hl,_,rfl,R,rfl,_,rfl,hR.top,_,by rw[←hR.ql.1];exact hR.pr.sl,by rw[List.length_map];have:=hR.n1.1;omega,(hpl (nS s) (by simp)).1,.inl ⟨s,tk.2.2,fun lw lf t H' n1 f1 f2 f3 fr a1 a2 a3 a4 a5 => ?_⟩⟩
      exact k { R with lw:=.ref lw,lf:=.ref lf } _ H' rfl ((hR.stretch n1 f1 f2 f3 fr a1 a2 a3 a4 a5).weak (S':=S.next (.st (Str.ofString "code") s)) (by simp[RP.next,d_code_word]) (Nat.le_refl _))
     ·rw[d_data_piece,if_neg (by simp),d_data_code,if_neg (by simp),d_data_data,if_pos rfl]
      refine⟨_,_,hR.top,rfl,_,SqL.of hl,_,rfl,R,rfl,_,rfl,hR.top,_,by rw[←hR.ql.1];exact hR.pr.sl,by rw[List.length_map];have:=hR.n1.1;omega,(hpl (nS s) (by simp)).1,.inl ⟨s,tk.2.2,fun lw lf t H' n1 f1 f2 f3 fr a1 a2 a3 a4 a5 => ?_⟩⟩
      exact k { R with lw:=.ref lw,lf:=.ref lf } _ H' rfl ((hR.stretch n1 f1 f2 f3 fr a1 a2 a3 a4 a5).weak (S':=S.next (.st (Str.ofString "data") s)) (by simp[RP.next,d_data_word]) (Nat.le_refl _))
    | word n=>
     walk_at "2"
     walk_at "3"
     walk_at "4"
     rw[show decide ((Str.ofString "word")=Str.ofString "piece")=false from d_word_piece,if_neg (by simp),d_word_code,if_neg (by simp),d_word_data,if_neg (by simp)]
     refine⟨_,_,_,hR.top,T.cl_qxq,T.no_qxq_last_words,R.lw,rfl,?_⟩
     walk_at "5"
     rw[d_word_word,if_pos rfl]
     refine⟨_,_,hR.top,rfl,_,SqL.of hl,_,rfl,R,rfl,_,rfl,hR.top,s.lw,elw,_,sa.wd,by rw[List.length_map];omega,(hpl (nS n) (by simp)).1,.inl ⟨n,?_,fun H' fr a1 => ?_⟩⟩
     ·have e:=numF_str (n:=n) (lo:=0) (hi:=4294967295) (by have:=tk.2.2;omega) (by have:=tk.2.2;omega)
      rw[if_pos tk.2.2]at e;exact e
     ·exact k R _ H' rfl ((hR.word es fr a1).weak (S':=S.next (.word n)) (by simp[RP.next,d_word_word]) (Nat.le_refl _))
    | fill soft r nm add=>
     walk_at "3"
     walk_at "4"
     cases soft
     ·have er:h::ps=[Str.ofString "fill", r,nm,nS add]:=er
      walk_at "2"
      rw[d_fill_piece,if_neg (by simp),d_fill_code,if_neg (by simp),d_fill_data,if_neg (by simp)]
      refine⟨_,_,_,hR.top,T.cl_qxq,T.no_qxq_last_words,R.lw,rfl,?_⟩
      walk_at "5"
      rw[d_fill_word,if_neg (by simp),d_fill_fill,if_pos rfl,if_pos tk.2.2.1]
      refine⟨_,_,hR.top,rfl,_,SqL.of hl,_,rfl,_,SqL.of hl,_,rfl,_,SqL.of hl,_,rfl,R,rfl,r,rfl,nm,rfl,nS add,rfl,hR.top,s.lw,elw,s.lf,_,sa.wd,elf,_,sa.fl,by rw[List.length_map];omega,by rw[List.length_map];omega,(hpl (nS add) (by simp)).1,(hpl nm (by simp)).1,(hpl r (by simp)).1,(hpl r (by simp)).2,.inl ⟨add,?_,tk.2.2.2.1,tk.2.2.2.2.1,?_,fun t H' ft fr a1 a2 => ?_⟩⟩
      ·have e:=numF_str (n:=add) (lo := -2147483648) (hi:=2147483647) (by have:=tk.2.2.2.2.2.2;omega) (by have:=tk.2.2.2.2.2.2;omega)
       rw[if_pos tk.2.2.2.2.2.2]at e;exact e
      ·rw[d_fill_soft];exact tk.2.2.2.2.2.1
      ·rw[d_fill_soft,List.length_map]at a1
       exact k R _ H' rfl ((hR.fill es ft fr a1 a2).weak (S':=S.next (.fill false r nm add)) (by simp[RP.next,d_fill_word]) (Nat.le_refl _))
     ·have er:h::ps=[Str.ofString "soft", r,nm,nS add]:=er
      walk_at "2"
      rw[d_soft_piece,if_neg (by simp),d_soft_code,if_neg (by simp),d_soft_data,if_neg (by simp)]
      refine⟨_,_,_,hR.top,T.cl_qxq,T.no_qxq_last_words,R.lw,rfl,?_⟩
      walk_at "5"
      rw[d_soft_word,if_neg (by simp),d_soft_fill,if_neg (by simp),d_soft_soft,if_pos rfl,if_pos tk.2.2.1]
      refine⟨_,_,hR.top,rfl,_,SqL.of hl,_,rfl,_,SqL.of hl,_,rfl,_,SqL.of hl,_,rfl,R,rfl,r,rfl,nm,rfl,nS add,rfl,hR.top,s.lw,elw,s.lf,_,sa.wd,elf,_,sa.fl,by rw[List.length_map];omega,by rw[List.length_map];omega,(hpl (nS add) (by simp)).1,(hpl nm (by simp)).1,(hpl r (by simp)).1,(hpl r (by simp)).2,.inl ⟨add,?_,tk.2.2.2.1,tk.2.2.2.2.1,?_,fun t H' ft fr a1 a2 => ?_⟩⟩
      ·have e:=numF_str (n:=add) (lo := -2147483648) (hi:=2147483647) (by have:=tk.2.2.2.2.2.2;omega) (by have:=tk.2.2.2.2.2.2;omega)
       rw[if_pos tk.2.2.2.2.2.2]at e;exact e
      ·exact tk.2.2.2.2.2.1
      ·rw[List.length_map]at a1
       exact k R _ H' rfl ((hR.fill es ft fr a1 a2).weak (S':=S.next (.fill true r nm add)) (by simp[RP.next,d_soft_word]) (Nat.le_refl _))
    | told sort nm=>
     walk_at "2"
     walk_at "3"
     walk_at "4"
     rcases tk.2.2.1 with rfl | rfl | rfl
     ·rw[d_tell_piece,if_neg (by simp),d_tell_code,if_neg (by simp),d_tell_data,if_neg (by simp)]
      refine⟨_,_,_,hR.top,T.cl_qxq,T.no_qxq_last_words,R.lw,rfl,?_⟩
      walk_at "5"
      rw[d_tell_word,if_neg (by simp),d_tell_fill,if_neg (by simp),d_tell_soft,if_neg (by simp)]
      refine⟨_,_,hR.top,rfl,_,SqL.of hl,_,rfl,R,rfl,nm,rfl,hR.top,s.lw,elw,_,sa.wd,_,by rw[←hR.ql.1];exact hR.pr.sl,_,by rw[←hR.ql.2];exact hR.pr.nl,_,hR.td,by rw[List.length_map];have:=hR.n1.2.1;omega,by rw[List.length_map,←hR.nms,List.length_map];have:=hR.n1.2.1;omega,(hpl nm (by simp)).1,.inl ⟨val_none tk.2.2.2.2,tk.2.2.2.1,fun t H' ft fr a1 a2 a3 => ?_⟩⟩
      rw[List.length_map,List.length_map]at a2
      exact k R _ H' rfl ((hR.told es tk.2.2.2.2 ft fr a1 a2 a3).weak (S':=S.next (.told (Str.ofString "tell") nm)) (by simp[RP.next,d_tell_word,lastW]) (Nat.le_refl _))
     ·rw[d_weak_piece,if_neg (by simp),d_weak_code,if_neg (by simp),d_weak_data,if_neg (by simp)]
      refine⟨_,_,_,hR.top,T.cl_qxq,T.no_qxq_last_words,R.lw,rfl,?_⟩
      walk_at "5"
      rw[d_weak_word,if_neg (by simp),d_weak_fill,if_neg (by simp),d_weak_soft,if_neg (by simp)]
      refine⟨_,_,hR.top,rfl,_,SqL.of hl,_,rfl,R,rfl,nm,rfl,hR.top,s.lw,elw,_,sa.wd,_,by rw[←hR.ql.1];exact hR.pr.sl,_,by rw[←hR.ql.2];exact hR.pr.nl,_,hR.td,by rw[List.length_map];have:=hR.n1.2.1;omega,by rw[List.length_map,←hR.nms,List.length_map];have:=hR.n1.2.1;omega,(hpl nm (by simp)).1,.inl ⟨val_none tk.2.2.2.2,tk.2.2.2.1,fun t H' ft fr a1 a2 a3 => ?_⟩⟩
      rw[List.length_map,List.length_map]at a2
      exact k R _ H' rfl ((hR.told es tk.2.2.2.2 ft fr a1 a2 a3).weak (S':=S.next (.told (Str.ofString "weak") nm)) (by simp[RP.next,d_weak_word,lastW]) (Nat.le_refl _))
     ·rw[d_own_piece,if_neg (by simp),d_own_code,if_neg (by simp),d_own_data,if_neg (by simp)]
      refine⟨_,_,_,hR.top,T.cl_qxq,T.no_qxq_last_words,R.lw,rfl,?_⟩
      walk_at "5"
      rw[d_own_word,if_neg (by simp),d_own_fill,if_neg (by simp),d_own_soft,if_neg (by simp)]
      refine⟨_,_,hR.top,rfl,_,SqL.of hl,_,rfl,R,rfl,nm,rfl,hR.top,s.lw,elw,_,sa.wd,_,by rw[←hR.ql.1];exact hR.pr.sl,_,by rw[←hR.ql.2];exact hR.pr.nl,_,hR.td,by rw[List.length_map];have:=hR.n1.2.1;omega,by rw[List.length_map,←hR.nms,List.length_map];have:=hR.n1.2.1;omega,(hpl nm (by simp)).1,.inl ⟨val_none tk.2.2.2.2,tk.2.2.2.1,fun t H' ft fr a1 a2 a3 => ?_⟩⟩
      rw[List.length_map,List.length_map]at a2
      exact k R _ H' rfl ((hR.told es tk.2.2.2.2 ft fr a1 a2 a3).weak (S':=S.next (.told (Str.ofString "own") nm)) (by simp[RP.next,d_own_word,lastW]) (Nat.le_refl _))
   ·have lwn:S.sts=[]→R.lw=.non:=fun e=>by
     have e2:q.sts=[]:=by have:=hR.sts;rw[show ({ S with bw:=decide (h=Str.ofString "word") }:RP).sts=S.sts from rfl,e]at this;exact List.map_eq_nil_iff.mp this
     rw[hR.lw,e2];rfl
    cases bad with
    | len hb=>exact absurd hv hb
    | first hb=>exact absurd hn hb
    | piece ha=>
     rw[d_piece_piece,if_pos rfl]
     exact⟨_,_,hR.top,rfl,_,SqL.of hl,_,rfl,R,rfl,_,rfl,hR.top,(hpl _ (by simp)).1,.inr ⟨ha,fun H' s=>k _ (hR.sm.trans s)⟩⟩
    | st hk ha=>
     rcases hk with rfl | rfl
     ·rw[d_code_piece,if_neg (by simp),d_code_code,if_pos rfl]
      exact⟨_,_,hR.top,rfl,_,SqL.of hl,_,rfl,R,rfl,_,rfl,hR.top,_,by rw[←hR.ql.1];exact hR.pr.sl,by rw[List.length_map];have:=hR.n1.1;omega,(hpl _ (by simp)).1,.inr ⟨ha,fun H' s=>k _ (hR.sm.trans s)⟩⟩
     ·rw[d_data_piece,if_neg (by simp),d_data_code,if_neg (by simp),d_data_data,if_pos rfl]
      exact⟨_,_,hR.top,rfl,_,SqL.of hl,_,rfl,R,rfl,_,rfl,hR.top,_,by rw[←hR.ql.1];exact hR.pr.sl,by rw[List.length_map];have:=hR.n1.1;omega,(hpl _ (by simp)).1,.inr ⟨ha,fun H' s=>k _ (hR.sm.trans s)⟩⟩
    | empty he h1 h2=>
     rw[decide_eq_false h2,if_neg (by simp),decide_eq_false (fun z=>h1 (.inl z)),if_neg (by simp),decide_eq_false (fun z=>h1 (.inr z)),if_neg (by simp)]
     refine⟨_,_,_,hR.top,T.cl_qxq,T.no_qxq_last_words,R.lw,rfl,?_⟩
     rw[lwn he,if_pos (by simp)];exact k _ hR.sm
    | word ha=>
     rw[d_word_piece,if_neg (by simp),d_word_code,if_neg (by simp),d_word_data,if_neg (by simp)]
     refine⟨_,_,_,hR.top,T.cl_qxq,T.no_qxq_last_words,R.lw,rfl,?_⟩
     by_cases hs:S.sts=[]
     ·rw[lwn hs,if_pos (by simp)];exact k _ hR.sm
     walk_at "6"
     walk_at "4"
     walk_at "5"
     rw[d_word_word,if_pos rfl]
     exact⟨_,_,hR.top,rfl,_,SqL.of hl,_,rfl,R,rfl,_,rfl,hR.top,s.lw,elw,_,sa.wd,by rw[List.length_map];omega,(hpl _ (by simp)).1,.inr ⟨ha,fun H' s=>k _ (hR.sm.trans s)⟩⟩
    | fill hh ha=>
     rcases hh with rfl | rfl
     ·rw[d_fill_piece,if_neg (by simp),d_fill_code,if_neg (by simp),d_fill_data,if_neg (by simp)]
      refine⟨_,_,_,hR.top,T.cl_qxq,T.no_qxq_last_words,R.lw,rfl,?_⟩
      by_cases hs:S.sts=[]
      ·rw[lwn hs,if_pos (by simp)];exact k _ hR.sm
      walk_at "6"
      walk_at "4"
      walk_at "5"
      rw[d_fill_word,if_neg (by simp),d_fill_fill,if_pos rfl]
      by_cases hb:S.bw=true
      ·rw[if_pos hb]
       refine⟨_,_,hR.top,rfl,_,SqL.of hl,_,rfl,_,SqL.of hl,_,rfl,_,SqL.of hl,_,rfl,R,rfl,_,rfl,_,rfl,_,rfl,hR.top,s.lw,elw,s.lf,_,sa.wd,elf,_,sa.fl,by rw[List.length_map];omega,by rw[List.length_map];omega,(hpl _ (by simp)).1,(hpl _ (by simp)).1,(hpl _ (by simp)).1,(hpl _ (by simp)).2,.inr ⟨?_,fun H' s=>k _ (hR.sm.trans s)⟩⟩
       have ha:=ha.resolve_left (fun z=>by rw[hb]at z;cases z)
       exact ha
      ·rw[if_neg hb];exact k _ hR.sm
     ·rw[d_soft_piece,if_neg (by simp),d_soft_code,if_neg (by simp),d_soft_data,if_neg (by simp)]
      refine⟨_,_,_,hR.top,T.cl_qxq,T.no_qxq_last_words,R.lw,rfl,?_⟩
      by_cases hs:S.sts=[]
      ·rw[lwn hs,if_pos (by simp)];exact k _ hR.sm
      walk_at "6"
      walk_at "4"
      walk_at "5"
      rw[d_soft_word,if_neg (by simp),d_soft_fill,if_neg (by simp),d_soft_soft,if_pos rfl]
      by_cases hb:S.bw=true
      ·rw[if_pos hb]
       refine⟨_,_,hR.top,rfl,_,SqL.of hl,_,rfl,_,SqL.of hl,_,rfl,_,SqL.of hl,_,rfl,R,rfl,_,rfl,_,rfl,_,rfl,hR.top,s.lw,elw,s.lf,_,sa.wd,elf,_,sa.fl,by rw[List.length_map];omega,by rw[List.length_map];omega,(hpl _ (by simp)).1,(hpl _ (by simp)).1,(hpl _ (by simp)).1,(hpl _ (by simp)).2,.inr ⟨?_,fun H' s=>k _ (hR.sm.trans s)⟩⟩
       have ha:=ha.resolve_left (fun z=>by rw[hb]at z;cases z)
       rw[d_soft_soft]at ha
       exact ha
      ·rw[if_neg hb];exact k _ hR.sm
    | told hh ha=>
     rcases hh with rfl | rfl | rfl
     ·rw[d_tell_piece,if_neg (by simp),d_tell_code,if_neg (by simp),d_tell_data,if_neg (by simp)]
      refine⟨_,_,_,hR.top,T.cl_qxq,T.no_qxq_last_words,R.lw,rfl,?_⟩
      by_cases hs:S.sts=[]
      ·rw[lwn hs,if_pos (by simp)];exact k _ hR.sm
      walk_at "6"
      walk_at "4"
      walk_at "5"
      rw[d_tell_word,if_neg (by simp),d_tell_fill,if_neg (by simp),d_tell_soft,if_neg (by simp)]
      refine⟨_,_,hR.top,rfl,_,SqL.of hl,_,rfl,R,rfl,_,rfl,hR.top,s.lw,elw,_,sa.wd,_,by rw[←hR.ql.1];exact hR.pr.sl,_,by rw[←hR.ql.2];exact hR.pr.nl,_,hR.td,by rw[List.length_map];have:=hR.n1.2.1;omega,by rw[List.length_map,←hR.nms,List.length_map];have:=hR.n1.2.1;omega,(hpl _ (by simp)).1,.inr ⟨ha.imp (fun z=>val_some z) id,fun H' s=>k _ (hR.sm.trans s)⟩⟩
     ·rw[d_weak_piece,if_neg (by simp),d_weak_code,if_neg (by simp),d_weak_data,if_neg (by simp)]
      refine⟨_,_,_,hR.top,T.cl_qxq,T.no_qxq_last_words,R.lw,rfl,?_⟩
      by_cases hs:S.sts=[]
      ·rw[lwn hs,if_pos (by simp)];exact k _ hR.sm
      walk_at "6"
      walk_at "4"
      walk_at "5"
      rw[d_weak_word,if_neg (by simp),d_weak_fill,if_neg (by simp),d_weak_soft,if_neg (by simp)]
      refine⟨_,_,hR.top,rfl,_,SqL.of hl,_,rfl,R,rfl,_,rfl,hR.top,s.lw,elw,_,sa.wd,_,by rw[←hR.ql.1];exact hR.pr.sl,_,by rw[←hR.ql.2];exact hR.pr.nl,_,hR.td,by rw[List.length_map];have:=hR.n1.2.1;omega,by rw[List.length_map,←hR.nms,List.length_map];have:=hR.n1.2.1;omega,(hpl _ (by simp)).1,.inr ⟨ha.imp (fun z=>val_some z) id,fun H' s=>k _ (hR.sm.trans s)⟩⟩
     ·rw[d_own_piece,if_neg (by simp),d_own_code,if_neg (by simp),d_own_data,if_neg (by simp)]
      refine⟨_,_,_,hR.top,T.cl_qxq,T.no_qxq_last_words,R.lw,rfl,?_⟩
      by_cases hs:S.sts=[]
      ·rw[lwn hs,if_pos (by simp)];exact k _ hR.sm
      walk_at "6"
      walk_at "4"
      walk_at "5"
      rw[d_own_word,if_neg (by simp),d_own_fill,if_neg (by simp),d_own_soft,if_neg (by simp)]
      refine⟨_,_,hR.top,rfl,_,SqL.of hl,_,rfl,R,rfl,_,rfl,hR.top,s.lw,elw,_,sa.wd,_,by rw[←hR.ql.1];exact hR.pr.sl,_,by rw[←hR.ql.2];exact hR.pr.nl,_,hR.td,by rw[List.length_map];have:=hR.n1.2.1;omega,by rw[List.length_map,←hR.nms,List.length_map];have:=hR.n1.2.1;omega,(hpl _ (by simp)).1,.inr ⟨ha.imp (fun z=>val_some z) id,fun H' s=>k _ (hR.sm.trans s)⟩⟩
theorem Pd.Ok.below {H0 H1 H:Hp}{R:Pd}{q:PcM}{S:RP}{m:Nat}(h:Pd.Ok A H1 H R q S m) (s:Same H0 H1):Pd.Ok A H0 H R q S m:=
 { h with sm:=s.trans h.sm,f:=⟨f_back s h.f.1,f_back s h.f.2⟩,fl:=fun b hb=>f_back s (h.fl b hb) }
theorem PRow.ne (r:PRow):r.parts≠[]:=by cases r<;>simp[PRow.parts]
theorem PRow.cons (r:PRow):∃h ps,r.parts=h::ps:=by cases r<;>exact⟨_,_,rfl⟩
theorem sp_one:Str.ofString " " = ⟨#[32]⟩:=by decide +kernel
theorem nl_one:Str.ofString "\n" = ⟨#[10]⟩:=by decide +kernel
theorem runP_succ {rows:List PRow}{i:Nat}{r:PRow}(h:rows[i]?=some r):runP rows (i+1)=(runP rows i).next r:=by
 unfold runP
 rw[List.take_succ,h]
 simp
theorem mem_join {c:Nat}{sep:Str}:∀{ps:List Str},c∈(Str.join sep ps).cps.toList→(∃p∈ps,c∈p.cps.toList)∨c∈sep.cps.toList
 | [],h=>by
  have h:c∈(Str.empty).cps.toList:=h
  rw[show (Str.empty).cps.toList=[] from rfl]at h
  cases h
 | [x],h=>.inl ⟨x,List.mem_singleton.mpr rfl,h⟩
 | x::y::r,h=>by
  have h:c∈(x++sep++Str.join sep (y::r)).cps.toList:=h
  rw[show (x++sep++Str.join sep (y::r)).cps=x.cps++sep.cps++(Str.join sep (y::r)).cps from rfl,Array.toList_append,Array.toList_append]at h
  rcases List.mem_append.mp h with h | h
  ·rcases List.mem_append.mp h with h | h
   ·exact .inl ⟨x,List.mem_cons_self,h⟩
   ·exact .inr h
  ·rcases mem_join h with ⟨p,hp,hc⟩ | hc
   ·exact .inl ⟨p,List.mem_cons_of_mem _ hp,hc⟩
   ·exact .inr hc
theorem PRow.good {r:PRow}(h:r.Small):(prowT r).length≤1000∧10∉(prowT r).cps.toList∧∀p∈r.parts,32∉p.cps.toList:=by
 have l4:r.parts.length≤4:=by cases r<;>simp[PRow.parts]
 have lb:(Str.ofString " ").length=1:=by decide +kernel
 refine⟨?_,fun hc => ?_,fun p hp=>(h p hp).2.2.1⟩
 ·have:=join_le (sep:=Str.ofString " ") (B:=241) fun t ht=>(h t ht).1
  rw[lb]at this
  unfold prowT
  omega
 ·unfold prowT at hc
  rw[txt_join]at hc
  rcases mem_join hc with ⟨p,hp,hc⟩ | hc
  ·exact (h p hp).2.1 hc
  ·revert hc;decide +kernel
theorem few_log {p:Int}(h:Few p):p.natAbs.log2<240:=by
 unfold Few at h
 by_cases hz:p.natAbs=0
 ·rw[hz];decide
 ·exact (Nat.log2_lt (n:=p.natAbs) (k:=240) hz).mpr (by omega)
theorem few_len {p:Int}(h:Few p):(Str.ofString (toString p)).length≤241:=by
 open PySem in
 rw[PySem.ofString_length]
 exact int_text_length_le (by decide) (few_log h)
theorem free_of {H:Hp}{p q:Addr}{o:HO}(h:upd H p o q=none):q≠p∧H q=none:=by
 have n:q≠p:=fun e=>by rw[e,zz1]at h;cases h
 exact⟨n,by rw[upd_ne n]at h;exact h⟩
theorem G_qqj (T:Txt w K mg A):FnOk P w K mg base CX0 1 A.qqj A.fd_qqj ["self", "row"] (sp_npinit A):=by
 refine T.F_qqj.ok sc_qqj (fun vs H Q E h => ?_) (fun cdv Ar outer s H vs Q E hr h => ?_)
 ·obtain⟨a,p,rfl,_⟩:=h
  rfl
 ·obtain⟨a,p,rfl,ha,hp,k⟩:=h
  refine⟨_,(zz2 (ps_expr (pe_xinit rfl T.mc_qzv T.bi_qzv (zz0 (pv 0) (zz0 (pe_joined (zz13 pe_str (zz13 (pe_fmt (pv 1)) (zz13 pe_str pj_nil)))) pa_nil)))) (zz5 (ps_xfld (pv 0) (pv 1) rfl))),?_⟩
  walk_at "rd"
  have l1:=few_len hp
  have l0:Str.empty.length=0:=rfl
  have l3:(Str.ofString "row ").length=4:=by decide +kernel
  have l4:(Str.ofString " cannot stand in a piece").length=24:=by decide +kernel
  have sz:∀m:Nat,m≤400→m≤sizeLine:=fun m h=>by rw[sizeLine_eq];omega
  refine⟨sz _ (by rw[slen];omega),by have:=few_log hp;omega,sz _ (by rw[slen,slen];omega),sz _ (by rw[slen,slen,slen];omega),sz _ (by rw[slen,slen,slen];omega),A.c_qxw,none,ha,A.qqj,T.er_qxw,sz _ (by decide),A.c_qxw,A.qqj,none,ha,T.er_qxw,T.no_qxw_row,.inl ⟨rfl,fun d hd => ?_⟩⟩
  have hne:d≠a:=Ne.symm (zz3 ha hd)
  refine k d _ hd hne (fun b o hb q => ?_) zz1 ?_
  ·rw[upd_ne hb,upd_ne (zz3 q hd)];exact q
  ·rw[upd_ne hne,zz1]
theorem G_qzk (T:Txt w K mg A):FnOk P w K mg base (CXE P w) 10 A.qzk A.fd_qzk ["text"] (sp_readP A):=by
 refine T.F_qzk.okE sc_qzk (fun vs H Q E h => ?_) (fun cdv Ar outer s H vs Q E hr h => ?_)
 ·rcases h with ⟨rows,rfl,_⟩ | ⟨ts,g,b,r,rfl,_⟩<;>rfl
 ·refine⟨_,(zz2 (ps_set (i:=1) sc_qzk.nd rfl (by walk_at "o") (pe_make0 T.mk_qxq (G_qqv T) (hr.mono (by decide)) rfl T.mc_qxq T.b_qqv .nil pass0 )) (zz2 (ps_forX passL_cx rfl (pi_enum1 (K:=K) rfl rfl T.n_enumerate (zz0 (pe_bm PySem.F.plainAttrs_str PySem.F.slot_str_split PySem.F.type_str_split mt_split (pv 0) (zz0 pe_str pa_nil)) pa_nil)) (pg_tupK (K:=K) (n:=2) rfl rfl (zz11 (zz9 (i:=2) sc_qzk.nd rfl (by walk_at "o")) (zz11 (zz9 (i:=3) sc_qzk.nd rfl (by walk_at "o")) pgs_nil))) (zz5 (ps_if (pt_not (pt_val (pe_meth (pv 1) T.cl_qxq T.me_qwz (G_qwz T) (hr.mono (by decide)) T.b_qwz .nil pass0 (zz0 (pe_bm PySem.F.plainAttrs_str PySem.F.slot_str_split PySem.F.type_str_split mt_split (pv 3) (zz0 pe_str pa_nil)) pa_nil)))) (zz5 (ps_raiseI (G_qqj T) (hr.mono (by decide)) T.b_qqj T.er_qxw rfl T.mc_qxw rfl xe_wish (zz0 (pv 2) pa_nil))) zz7))) (zz5 (ps_ret (pe_tup (zz0 (pe_fld (pv 1) rfl) (zz0 (pe_fld (pv 1) rfl) (zz0 (pe_fld (pv 1) rfl) pa_nil)))))))),?_⟩
  obtain⟨ts,good,rfl,tne,tlen,tl,tnl,hsm,hok,fin⟩:∃(ts:List Str) (good:List PRow),vs=[.str (Txt.join (Str.ofString "\n") ts)]∧ts≠[]∧ts.length≤300∧(∀t∈ts,t.length≤1000)∧(∀t∈ts,10∉t.cps.toList)∧(∀r∈good,r.Small)∧(∀(i:Nat) (r:PRow),good[i]?=some r→(runP good i).Takes r)∧
    ((ts = good.map prowT ∧ ∀ (t : Addr) (R : Pd) (q : PcM) (H' : Hp), Same H H' → H' t = some (.tup [R.nm, .ref R.ls, .ref R.ln]) → Pd.Ok A H H' R q (runP good good.length) good.length → Q (.ref t) H') ∨
     (∃(b:Str) (rest:List Str),ts=good.map prowT++b::rest∧(∀p∈Txt.split b (Str.ofString " "),p.length≤600∧Sg p)∧BadP (runP good good.length) (Txt.split b (Str.ofString " "))∧∀d H',Same H H'→H' d=some (xdR ((good.length:Int)+1))→E (.ref A.c_qxw) (some d) H')):=by
   rcases h with ⟨rows,rfl,hne,hlen,hsm,hok,k⟩ | ⟨ts,good,b,rest,rfl,hB,k⟩
   ·refine⟨rows.map prowT,rows,rfl,by simpa using hne,by rw[List.length_map];exact hlen,fun t ht => ?_,fun t ht => ?_,hsm,hok,.inl ⟨rfl,k⟩⟩
    ·obtain⟨r,hr,rfl⟩:=List.mem_map.mp ht
     exact (PRow.good (hsm r hr)).1
    ·obtain⟨r,hr,rfl⟩:=List.mem_map.mp ht
     exact (PRow.good (hsm r hr)).2.1
   ·exact⟨ts,good,rfl,by rw[hB.eq];simp,hB.n,hB.len,hB.nl,hB.small,hB.takes,.inr ⟨b,rest,hB.eq,hB.bl,hB.bad,k⟩⟩
  walk_at "rd"
  have lb:(Str.ofString "\n").length=1:=by decide +kernel
  have hzl:(Txt.join (Str.ofString "\n") ts).length<sizeLine:=Nat.lt_of_le_of_lt (join_le tl) (by rw[lb,sizeLine_eq];omega)
  have es:Txt.split (Txt.join (Str.ofString "\n") ts) (Str.ofString "\n")=ts:=by
   rw[nl_one]
   exact split_join tne tnl
  intro x dx fx fdx ndx
  refine⟨dx,zz1,fun a b dd H1 nab fa fb fd0 fr ha hb hd hx=>⟨rfl,by decide +kernel,hzl,fun l fl => ?_⟩⟩
  rw[es]
  have bk:∀{y:Addr},upd (upd H dx (HO.own x)) x (HO.ins A.c_qxq dx []) y=none→H y=none:=fun {y} h=>by
   have n1:y≠x:=fun z=>by rw[z,zz1]at h;cases h
   rw[upd_ne n1]at h
   by_cases z:y=dx
   ·rw[z];exact fdx
   ·rw[upd_ne z]at h;exact h
  have nxa:a≠x:=fun z=>by rw[z,zz1]at fa;cases fa
  have nxb:b≠x:=fun z=>by rw[z,zz1]at fb;cases fb
  have nxd:dd≠x:=fun z=>by rw[z,zz1]at fd0;cases fd0
  have s1:Same H H1:=fun y o e=>fr _ _ (zz3 e fx) (by rw[upd_ne (zz3 e fx),upd_ne (zz3 e fdx)];exact e)
  have fl0:H l=none:=f_back s1 fl
  have nlx:l≠x:=Ne.symm (zz3 hx fl)
  have nla:l≠a:=Ne.symm (zz3 ha fl)
  have nlb:l≠b:=Ne.symm (zz3 hb fl)
  have nld:l≠dd:=Ne.symm (zz3 hd fl)
  have O0:Pd.Ok A (upd H l (.lst (ts.map V.str))) (upd H1 l (.lst (ts.map V.str))) ⟨x,dx,.non,a,b,.non,.non,dd,false⟩ ⟨0,a,b,Str.empty,[],[]⟩ (runP good 0) 0:=by
   refine⟨fun y o e => ?_,⟨by rw[upd_ne nlx.symm];exact fx,by rw[upd_ne nld.symm];exact bk fd0⟩,fun y hy => ?_,by rw[upd_ne nlx.symm];exact hx,rfl,⟨rfl,rfl⟩,Pr.start (by rw[upd_ne nla.symm];exact ha) (by rw[upd_ne nlb.symm];exact hb) nab,rfl,rfl,rfl,rfl,by rw[upd_ne nld.symm];exact hd,rfl,⟨Nat.zero_le _,Nat.zero_le _,fun y hy=>by cases hy⟩⟩
   ·by_cases z:y=l
    ·rw[z,zz1]at e ⊢;exact e
    ·rw[upd_ne z]at e ⊢;exact s1 _ _ e
   ·have hy:y∈[a,b]:=hy
    simp only[List.mem_cons,List.not_mem_nil,or_false]at hy
    rcases hy with rfl | rfl
    ·rw[upd_ne nla.symm];exact bk fa
    ·rw[upd_ne nlb.symm];exact bk fb
  have sH:Same H (upd H l (.lst (ts.map V.str))):=zz4 fl0
  have lH:upd H l (.lst (ts.map V.str)) l=some (.lst (ts.map V.str)):=zz1
  generalize upd H l (.lst (ts.map V.str))=H0 at O0 sH lH
  refine ForE1.of (xs:=ts.map V.str) (fun i σ H'=>i≤good.length∧∃(R:Pd) (q:PcM) (b2 b3:Option V),σ=[some (.str (Txt.join (Str.ofString "\n") ts)),some (.ref R.p),b2,b3]∧Pd.Ok A H0 H' R q (runP good i) i)
   ⟨Nat.zero_le _,_,_,_,_,rfl,O0⟩ ?_ ?_ ?_
  ·rintro i σ H' hi ⟨hig,R,q,b2,b3,rfl,O⟩
   exact SqL.of (O.sm _ _ lH)
  ·rintro i v σ H' tq hv ⟨hig,R,q,b2,b3,rfl,O⟩ fq
   rw[List.getElem?_map]at hv
   obtain⟨t,ht,rfl⟩:=Option.map_eq_some_iff.mp hv
   have htm:=List.mem_of_getElem? ht
   have hi:i<ts.length:=(List.getElem?_eq_some_iff.mp ht).1
   walk_at "rd"
   have s2:=zz4 (o:=HO.tup [V.int ((i+1:Nat):Int),V.str t]) fq
   refine⟨_,SqT.of zz1,rfl,_,_,rfl,_,_,rfl,rfl,_,_,s2 _ _ O.top,rfl,rfl,t,rfl,by decide +kernel,Nat.lt_of_le_of_lt (tl t htm) (by walk_at "s"),fun l' fl' => ?_⟩
   have s3:=zz4 (o:=HO.lst (List.map V.str (Txt.split t (Str.ofString " ")))) fl'
   have O2:=O.mono (s2.trans s3)
   rcases Nat.lt_or_ge i good.length with hlt | hge
   ·have hr:good[i]?=some good[i]:=List.getElem?_eq_getElem hlt
    generalize good[i]=r at hr
    have hrm:=List.mem_of_getElem? hr
    have et:t=prowT r:=by
     have e1:(good.map prowT)[i]?=some (prowT r):=by rw[List.getElem?_map,hr];rfl
     rcases fin with ⟨e,_⟩ | ⟨b,rest,e,_⟩
     ·rw[e,e1]at ht;cases ht;rfl
     ·rw[e,List.getElem?_append_left (by rw[List.length_map];exact hlt),e1]at ht;cases ht;rfl
    have ep:Txt.split t (Str.ofString " ")=r.parts:=by
     rw[et]
     unfold prowT
     rw[sp_one]
     exact split_join r.ne (PRow.good (hsm r hrm)).2.2
    obtain⟨h,ps,ecp⟩:=r.cons
    refine⟨H0,R,rfl,q,h,ps,by rw[zz1,ep,ecp];rfl,runP good i,i,O2,by omega,fun p hp => ?_,.inl ⟨r,ecp.symm,hok i r hr,fun R' q' H'' e1 O3=>⟨true,rfl,?_⟩⟩⟩
    ·have:=hsm r hrm p (by rw[ecp];exact hp)
     exact⟨Nat.le_trans this.1 (by decide),this.2.2.2⟩
    ·rw[if_neg (by simp)]
     exact⟨hlt,R',e1.symm,q',by rw[runP_succ hr];exact O3⟩
   ·have eg:i=good.length:=Nat.le_antisymm hig hge
    subst eg
    obtain⟨b',rest,e,hbl,hbad,k⟩:=fin.elim (fun f=>absurd hi (by rw[f.1,List.length_map];exact Nat.lt_irrefl _)) id
    have et:t=b':=by
     rw[e,List.getElem?_append_right (by rw[List.length_map];exact Nat.le_refl _),List.length_map,Nat.sub_self]at ht
     cases ht;rfl
    subst et
    obtain⟨h,ps,ecp⟩:∃h ps,Txt.split t (Str.ofString " ")=h::ps:=by
     cases e:Txt.split t (Str.ofString " ") with
     | nil=>rw[e]at hbad;cases hbad
     | cons h ps=>exact⟨h,ps,rfl⟩
    refine⟨H0,R,rfl,q,h,ps,by rw[zz1,ecp];rfl,_,_,O2,by omega,fun p hp=>hbl p (by rw[ecp];exact hp),.inr ⟨by rw[←ecp];exact hbad,fun H2 sm=>⟨false,rfl,?_⟩⟩⟩
    rw[if_pos (by simp)]
    refine⟨by rw[sizeLine_eq];decide,fun y hy=>⟨_,rfl,zz1,⟨by omega,by omega⟩,fun d H' hd hne hk hx' hd'=>.inr ⟨d,hne,hx',_,hd',k d _ (fun c o q => ?_) ?_⟩⟩⟩
    ·have q:=sm _ _ (sH _ _ q)
     have hc:=zz3 q hy
     have hdn:=(free_of hd).2
     rw[del_ne hc,upd_ne (zz3 q hdn)]
     exact hk c o hc (by rw[upd_ne hc];exact q)
    ·rw[del_ne hne,zz1]
     exact congrArg (fun z=>some (HO.xd [(Str.ofString "row", V.int z)])) (by omega)
  ·rintro σ H' ⟨hig,R,q,b2,b3,rfl,O⟩
   rw[List.length_map]at O hig
   have k:=fin.elim (fun f=>f) fun⟨b,rest,e,_⟩=>by
    have:=congrArg List.length e
    rw[List.length_append,List.length_map,List.length_cons]at this
    omega
   have eg:ts.length=good.length:=by rw[k.1,List.length_map]
   rw[eg]at O
   walk_at "rd"
   refine⟨_,_,_,O.top,T.cl_qxq,T.no_qxq_name,R.nm,rfl,_,_,_,O.top,T.cl_qxq,T.no_qxq_stretches,.ref R.ls,rfl,_,_,_,O.top,T.cl_qxq,T.no_qxq_names,.ref R.ln,rfl,by walk_at "s", fun p fp => ?_⟩
   have s2:=zz4 (o:=HO.tup [R.nm,.ref R.ls,.ref R.ln]) fp
   exact k.2 p R q _ ((sH.trans O.sm).trans s2) zz1 ((O.mono s2).below sH)
theorem G_qwx (T:Txt w K mg A):FnOk P w K mg base CX0 1 A.qwx A.fd_qwx ["_law_script", "_law_k"] (sp_cellat K):=by
 refine T.F_qwx.ok sc_qwx (fun vs H Q E h => ?_) (fun cdv Ar outer s H vs Q E hr h => ?_)
 ·obtain⟨a,ns,k0,rfl,_⟩:=h
  rfl
 ·obtain⟨a,ns,k0,rfl,hl,h0,k⟩:=h
  refine⟨_,(zz2 (ps_if (zz6 op_lt (pv 1) (zz16 (zz18 (K:=K) rfl) (by rfl) T.n_len bt_len (zz0 (pv 0) pa_nil)) (nomark _)) (zz5 (ps_ret (pe_ix (zz14 (K:=K) rfl) (pv 0) (pv 1) (fun _ _=>rfl)))) zz7) (zz5 (ps_ret pe_int))),?_⟩
  walk_at "rd"
  refine⟨_,.inl ⟨_,hl,rfl⟩,ite2 (fun h => ?_) (fun _=>k 0)⟩
  have h:=of_decide_eq_true h
  obtain⟨v,e,hm⟩:=atI_ex (xs:=ns.map V.int) (i:=k0) (by omega) h
  obtain⟨m,_,rfl⟩:=List.mem_map.mp hm
  exact⟨_,hl,_,e,k m⟩
theorem G_qzw (T:Txt w K mg A):FnOk P w K mg base CX0 1 A.qzw A.fd_qzw ["_law_number"] sp_addby:=by
 refine T.F_qzw.ok sc_qzw (fun vs H Q E h => ?_) (fun cdv Ar outer s H vs Q E hr h => ?_)
 ·obtain⟨c,rfl,_⟩:=h
  rfl
 ·obtain⟨c,rfl,k⟩:=h
  refine⟨_,(zz2 (ps_if (zz6 op_eq (pe_op op_mod (pv 0) pe_int) pe_int (nomark _)) (zz5 (ps_ret (pe_op op_sub (pe_op op_mod (pe_op op_fdiv (pv 0) pe_int) pe_int) pe_int))) zz7) (zz2 (ps_if (zz6 op_eq (pe_op op_mod (pv 0) pe_int) pe_int (nomark _)) (zz5 (ps_ret (pe_op op_sub (pe_op op_mod (pe_op op_mul (pe_op op_fdiv (pv 0) pe_int) pe_int) pe_int) pe_int))) zz7) (zz5 (ps_ret (pe_ix (zz14 (K:=K) rfl) (pe_lst (zz0 (pe_un un_neg pe_int) (zz0 (pe_un un_neg pe_int) (zz0 pe_int (zz0 pe_int pa_nil))))) (pe_op op_mod (pe_op op_fdiv (pv 0) pe_int) pe_int) (fun _ _=>rfl)))))),?_⟩
  walk_at "rd"
  refine⟨by decide,ite2 (fun _=>⟨⟨by decide,by decide⟩,by decide,k _ H (Same.refl H) (by omega) (by omega)⟩) fun _=>⟨by decide,ite2 (fun _=>⟨⟨by decide,by decide⟩,.inr ⟨by decide,by decide⟩,by decide,k _ H (Same.refl H) (by omega) (by omega)⟩) fun _=>⟨by rw[sizeLine_eq];decide,fun p hp=>⟨⟨by decide,by decide⟩,by decide,?_⟩⟩⟩⟩
  obtain⟨v,e,hv⟩:=atI_ex (xs:=[V.int (-2147483648),V.int (-2147483647),V.int 2147483646,V.int 2147483647]) (i:=c / 3 % 4) (by show -(4:Int)≤_;omega) (by show _<(4:Int);omega)
  refine⟨_,SqL.of zz1,v,e,?_⟩
  simp only[List.mem_cons,List.not_mem_nil,or_false]at hv
  rcases hv with rfl | rfl | rfl | rfl<;>exact k _ _ (zz4 hp) (by decide) (by decide)
theorem G_qwj (T:Txt w K mg A):FnOk P w K mg base CX0 1 A.qwj A.fd_qwj ["_law_cell"] sp_wordbyP:=by
 refine T.F_qwj.ok sc_qwj (fun vs H Q E h => ?_) (fun cdv Ar outer s H vs Q E hr h => ?_)
 ·obtain⟨c,rfl,_⟩:=h
  rfl
 ·obtain⟨c,rfl,k⟩:=h
  refine⟨_,(zz2 (ps_if (zz6 op_eq (pe_op op_mod (pe_op op_fdiv (pv 0) pe_int) pe_int) pe_int (nomark _)) (zz5 (ps_ret (pe_ix (zz14 (K:=K) rfl) (pe_lst (zz0 pe_int (zz0 pe_int pa_nil))) (pe_op op_mod (pe_op op_fdiv (pv 0) pe_int) pe_int) (fun _ _=>rfl)))) zz7) (zz5 (ps_ret (pe_op op_mod (pe_op op_mul (pv 0) pe_int) pe_int)))),?_⟩
  walk_at "rd"
  refine⟨⟨by decide,by decide⟩,by decide,ite2 (fun h => ?_) fun h => ?_⟩
  ·have h:=of_decide_eq_true h
   refine⟨by rw[sizeLine_eq];decide,fun p hp=>⟨⟨by decide,by decide⟩,by decide,_,SqL.of zz1,?_⟩⟩
   have k:=k _ (zz4 (o:=HO.lst [V.int 0,V.int 4294967295]) hp)
   unfold wordF at k
   rw[if_pos h]at k
   by_cases h2:c / 40 % 2=0
   ·rw[if_pos h2]at k
    exact⟨_,by rw[h2];rfl,k⟩
   ·rw[if_neg h2]at k
    exact⟨_,by rw[show c / 40 % 2=1 by omega];rfl,k⟩
  ·have h:¬c / 8 % 5=0:=fun z=>h (decide_eq_true z)
   have k:=k H (Same.refl H)
   unfold wordF at k
   rw[if_neg h]at k
   exact⟨.inr ⟨by decide,by decide⟩,by decide,k⟩
noncomputable def letS (c:Nat):Bool:=occ "abcdefghijklmnopqrstuvwxyz" ⟨#[c]⟩
set_option genInjectivity false in
structure NmB (z:Str):Prop where
 all:∀c∈z.cps.toList,okS c=true
 hd:∀c∈z.cps.toList.take 1,letS c=true
theorem sgnP {i:Int}(h0:0≤i) (h1:i<37):∃c,atI (Str.ofString "abcdefghijklmnopqrstuvwxyz0123456789_").cps.toList i=some c∧okS c=true∧(i<26→letS c=true):=by
 obtain⟨m,rfl⟩:=Int.eq_ofNat_of_zero_le h0
 have hm:m<37:=by omega
 have key:∀m:Nat,m<37→∃c,atI (Str.ofString "abcdefghijklmnopqrstuvwxyz0123456789_").cps.toList (m:Int)=some c∧okS c=true∧(m<26→letS c=true):=by
  have h:(List.range 37).all (fun m=>match atI (Str.ofString "abcdefghijklmnopqrstuvwxyz0123456789_").cps.toList (m:Int) with | none=>false | some c=>okS c&&(!decide (m<26) || letS c))=true:=by decide +kernel
  intro m hm
  have h:=List.all_eq_true.mp h m (List.mem_range.mpr hm)
  cases e:atI (Str.ofString "abcdefghijklmnopqrstuvwxyz0123456789_").cps.toList (m:Int) with
  | none=>rw[e]at h;cases h
  | some c=>
   rw[e]at h
   simp only[Bool.and_eq_true,Bool.or_eq_true,Bool.not_eq_true',decide_eq_false_iff_not]at h
   exact⟨c,rfl,h.1,fun q=>h.2.resolve_left (fun z=>z q)⟩
 obtain⟨c,e1,e2,e3⟩:=key m hm
 exact⟨c,e1,e2,fun q=>e3 (by omega)⟩
theorem G_figP {m:Nat}(h:m<400):(Str.ofString (toString (m:Int))).length≤3∧(∀c∈(Str.ofString (toString (m:Int))).cps.toList,okS c=true)∧(Txt.zfill (Str.ofString (toString (m:Int))) 3).length≤3∧∀c∈(Txt.zfill (Str.ofString (toString (m:Int))) 3).cps.toList,okS c=true:=by
 have key:(List.range 400).all (fun m=>decide ((Str.ofString (toString (m:Int))).length≤3)&&(Str.ofString (toString (m:Int))).cps.toList.all okS&&decide ((Txt.zfill (Str.ofString (toString (m:Int))) 3).length≤3)&&(Txt.zfill (Str.ofString (toString (m:Int))) 3).cps.toList.all okS)=true:=by decide +kernel
 have q:=List.all_eq_true.mp key m (List.mem_range.mpr h)
 simp only[Bool.and_eq_true,decide_eq_true_eq]at q
 exact⟨q.1.1.1,List.all_eq_true.mp q.1.1.2,q.1.2,List.all_eq_true.mp q.2⟩
theorem NmB.push {z:Str}(h:NmB z) {c:Nat}(hc:okS c=true) (hl:z.length=0→letS c=true):NmB (z++(⟨#[c]⟩:Str)):=by
 have e:(z++(⟨#[c]⟩:Str)).cps.toList=z.cps.toList++[c]:=by rw[show (z++(⟨#[c]⟩:Str)).cps=z.cps++#[c] from rfl,Array.toList_append]
 refine⟨fun x hx => ?_,fun x hx => ?_⟩
 ·rw[e]at hx
  rcases List.mem_append.mp hx with q | q
  ·exact h.all x q
  ·rw[List.mem_singleton.mp q];exact hc
 ·rw[e]at hx
  cases hz:z.cps.toList with
  | nil=>
   rw[hz]at hx
   rw[List.mem_singleton.mp hx]
   refine hl ?_
   have:z.cps.toList.length=0:=by rw[hz];rfl
   rw[Array.length_toList]at this
   exact this
  | cons a r=>
   rw[hz]at hx
   exact h.hd x (by rw[hz];exact hx)
theorem nm_put {b f:Str}{i:Nat}(h:NmB b) (h1:1≤b.length) (h2:b.length≤13) (i1:1≤i) (i2:i≤b.length) (f1:f.length≤3) (f2:∀c∈f.cps.toList,okS c=true):isNm (Txt.slice b none (some (i:Int))++f++Txt.slice b (some (i:Int)) none)=true:=by
 have lb:b.cps.toList.length=b.length:=Array.length_toList
 have lf:f.cps.toList.length=f.length:=Array.length_toList
 have e1:(Txt.slice b none (some (i:Int))).cps.toList=b.cps.toList.take i:=by
  have e:=beq_iff_eq.mp (PyProof.Rows.slice_closes_toL (x:=b) (j:=(i:Int)) (by omega) (by omega))
  rw[e]
  show List.take ((i:Int) - 0).toNat (List.drop 0 b.cps.toList)=_
  rw[show ((i:Int) - 0).toNat=i by omega,List.drop_zero]
 have e2:(Txt.slice b (some (i:Int)) none).cps.toList=b.cps.toList.drop i:=by
  have e:=PyProof.Rows.slice_from_eq (x:=b) (i:=(i:Int)) (b:=(b.length:Int)) (by omega) (by omega) rfl
  rw[e]
  show List.take ((b.length:Int) - (i:Int)).toNat (List.drop (i:Int).toNat b.cps.toList)=_
  rw[show (i:Int).toNat=i from rfl,List.take_of_length_le (by rw[List.length_drop,lb];omega)]
 have e:(Txt.slice b none (some (i:Int))++f++Txt.slice b (some (i:Int)) none).cps.toList=b.cps.toList.take i++f.cps.toList++b.cps.toList.drop i:=by
  rw[show (Txt.slice b none (some (i:Int))++f++Txt.slice b (some (i:Int)) none).cps=(Txt.slice b none (some (i:Int))).cps++f.cps++(Txt.slice b (some (i:Int)) none).cps from rfl,Array.toList_append,Array.toList_append,e1,e2]
 have ln:(Txt.slice b none (some (i:Int))++f++Txt.slice b (some (i:Int)) none).length=b.length+f.length:=by
  have:=congrArg List.length e
  rw[List.length_append,List.length_append,List.length_take,List.length_drop,lb,lf]at this
  have q:(Txt.slice b none (some (i:Int))++f++Txt.slice b (some (i:Int)) none).cps.toList.length=(Txt.slice b none (some (i:Int))++f++Txt.slice b (some (i:Int)) none).length:=Array.length_toList
  omega
 unfold isNm
 rw[ln,decide_eq_true (by omega),decide_eq_true (by omega),e]
 simp only[Bool.true_and,Bool.and_eq_true]
 constructor
 ·refine List.all_eq_true.mpr fun c hc=>h.hd c ?_
  obtain⟨x,r,ex⟩:∃x r,b.cps.toList=x::r:=by
   cases q:b.cps.toList with
   | nil=>rw[q]at lb;simp at lb;omega
   | cons x r=>exact⟨x,r,rfl⟩
  obtain⟨j,rfl⟩:∃j,i=j+1:=⟨i - 1,by omega⟩
  rw[ex]at hc ⊢
  exact hc
 ·refine List.all_eq_true.mpr fun c hc => ?_
  rcases List.mem_append.mp hc with q | q
  ·rcases List.mem_append.mp q with q | q
   ·exact h.all c (List.mem_of_mem_take q)
   ·exact f2 c q
  ·exact h.all c (List.mem_of_mem_drop q)
theorem G_qwv (T:Txt w K mg A):FnOk P w K mg base CX0 1 A.qwv A.fd_qwv ["_law_cell", "_law_k"] sp_nameP:=by
 refine T.F_qwv.ok sc_qwv (fun vs H Q E h => ?_) (fun cdv Ar outer s H vs Q E hr h => ?_)
 ·obtain⟨c,k,rfl,_⟩:=h
  rfl
 ·obtain⟨c,i,rfl,k⟩:=h
  refine⟨_,(zz2 (ps_set (i:=2) sc_qwv.nd rfl (by walk_at "o") pe_str) (zz2 (ps_set (i:=3) sc_qwv.nd rfl (by walk_at "o") pe_str) (zz2 (ps_for PassesOwn.never rfl (pi_range1 rfl T.n_range (zz0 (pe_op op_add pe_int (pe_op op_mod (pv 0) pe_int)) pa_nil)) (zz9 (i:=4) sc_qwv.nd rfl (by walk_at "o")) (zz5 (ps_set (i:=3) sc_qwv.nd rfl (by walk_at "o") (pe_op zz15 (pv 3) (pe_ix ix_str (pv 2) (pe_op op_mod (pe_op op_add (pe_op op_fdiv (pv 0) (pe_op op_add (pv 4) pe_int)) (pe_op op_mul (pv 4) (pv 4))) (pe_op op_sub pe_int (pe_op op_mul pe_int (pe_callTy call_int1 (by rfl) T.n_int bt_int (zz0 (pe_cmpR op_eq (pv 4) pe_int (nomark _)) pa_nil))))) (fun _ _=>rfl)))))) (zz2 (ps_set (i:=5) sc_qwv.nd rfl (by walk_at "o") (pe_op op_add pe_int (pe_op op_mod (pe_op op_fdiv (pv 0) pe_int) (zz16 (zz18 (K:=K) rfl) (by rfl) T.n_len bt_len (zz0 (pv 3) pa_nil))))) (zz2 (ps_set (i:=6) sc_qwv.nd rfl (by walk_at "o") (pe_callTy call_str_int (by rfl) T.n_str bt_str (zz0 (pe_op op_mod (pv 1) pe_int) pa_nil))) (zz2 (ps_if (zz6 op_eq (pe_op op_mod (pe_op op_fdiv (pv 0) pe_int) pe_int) pe_int (nomark _)) (zz5 (ps_set (i:=6) sc_qwv.nd rfl (by walk_at "o") (pe_bm PySem.F.plainAttrs_str PySem.F.slot_str_zfill PySem.F.type_str_zfill mt_zfill (pv 6) (zz0 pe_int pa_nil)))) zz7) (zz5 (ps_ret (pe_op zz15 (pe_op zz15 (pe_slice sl_str (pv 3) po_none (po_some (pv 5))) (pv 6)) (pe_slice sl_str (pv 3) (po_some (pv 5)) po_none)))))))))),?_⟩
  walk_at "rd"
  refine⟨by decide,?_⟩
  refine ForR.of (by omega) (by omega) (fun n σ H'=>H'=H∧∃(z:Str) (b4 b5 b6:Option V),σ=[some (.int c),some (.int i),some (.str (Str.ofString "abcdefghijklmnopqrstuvwxyz0123456789_")),some (.str z),b4,b5,b6]∧NmB z∧z.length=n) ⟨rfl,Str.ofString "", _,_,_,rfl,⟨fun x hx=>(nomatch hx),fun x hx=>(nomatch hx)⟩,by decide +kernel⟩ ?_ ?_
  ·rintro n σ H' hn ⟨rfl,z,b4,b5,b6,rfl,hz,hl⟩
   have h13:n<13:=by omega
   walk_at "rd"
   generalize c / ((n:Int)+3)+(n:Int) * (n:Int)=y
   have em:(37 - 11 * (if decide ((n:Int)=0)=true then (1:Int) else 0))=if n=0 then 26 else 37:=by
    by_cases h:n=0
    ·subst h;rfl
    ·rw[if_neg h,decide_eq_false (by omega)];rfl
   have lo:0≤y % (if n=0 then (26:Int) else 37)∧y % (if n=0 then (26:Int) else 37)<37∧(n=0→y % (if n=0 then (26:Int) else 37)<26):=by
    by_cases h:n=0
    ·rw[if_pos h];omega
    ·rw[if_neg h];omega
   obtain⟨x,ex,ok,lt⟩:=sgnP lo.1 lo.2.1
   refine⟨⟨by omega,by omega⟩,.inl ⟨by omega,by omega⟩,.inl ⟨by decide,by decide⟩,by rw[em];split<;>decide,by rw[sizeLine_eq];decide +kernel,x,by rw[em];exact ex,?_,hz.push ok fun q=>lt (lo.2.2 (by omega)),?_⟩
   ·rw[sizeLine_eq];show z.length+1≤_;omega
   ·rw[slen,hl];rfl
  ·rintro σ H' ⟨rfl,z,b4,b5,b6,rfl,hz,hl⟩
   have h1:1≤z.length∧z.length≤13:=by omega
   walk_at "rd"
   obtain⟨m,em⟩:=Int.eq_ofNat_of_zero_le (show 0≤i % 400 by omega)
   have m4:m<400:=by omega
   obtain⟨g1,g2,g3,g4⟩:=G_figP m4
   rw[em]
   have ai:=Int.emod_nonneg (c / 13) (show (z.length:Int)≠0 by omega)
   have aj:=Int.emod_lt_of_pos (c / 13) (show 0<(z.length:Int) by omega)
   obtain⟨j,ej⟩:=Int.eq_ofNat_of_zero_le (show 0≤1+c / 13 % (z.length:Int) by omega)
   rw[ej]
   have s1:=Txt.slice_le z none (some (j:Int))
   have s2:=Txt.slice_le z (some (j:Int)) none
   have sz:∀m:Nat,m≤2000→m≤sizeLine:=fun m h=>by rw[sizeLine_eq];omega
   have lg:(m:Int).natAbs.log2<1920:=by
    by_cases h:m=0
    ·subst h;decide
    ·exact (Nat.log2_lt (n:=m) (k:=1920) h).mpr (Nat.lt_trans m4 (Nat.lt_of_lt_of_le (by decide:400<2 ^ 9) (Nat.pow_le_pow_right (by decide) (by decide))))
   refine⟨⟨by decide,by decide⟩,sz _ (by omega),by omega,by decide,lg,⟨by decide,by decide⟩,by decide,ite2 (fun _ => ?_) fun _ => ?_⟩
   ·exact⟨rfl,by decide,by decide,sz _ (by omega),sz _ (by omega),sz _ (by omega),sz _ (by rw[slen];omega),k _ _ (Same.refl _) (nm_put hz h1.1 h1.2 (by omega) (by omega) g3 g4)⟩
   ·exact⟨sz _ (by omega),sz _ (by omega),sz _ (by omega),sz _ (by rw[slen];omega),k _ _ (Same.refl _) (nm_put hz h1.1 h1.2 (by omega) (by omega) g1 g2)⟩
theorem G_qzq (T:Txt w K mg A):FnOk P w K mg base CX0 2 A.qzq A.fd_qzq ["_law_number", "_law_at", "_law_names_by"] sp_fillby:=by
 refine T.F_qzq.ok sc_qzq (fun vs H Q E h => ?_) (fun cdv Ar outer s H vs Q E hr h => ?_)
 ·obtain⟨n,a,b,rfl,_⟩:=h
  rfl
 ·obtain⟨n,a,b,rfl,k⟩:=h
  refine⟨_,(zz2 (ps_set (i:=3) sc_qzq.nd rfl (by walk_at "o") (pe_ix (zz14 (K:=K) rfl) (pe_lst (zz0 pe_str (zz0 pe_str (zz0 pe_str (zz0 pe_str (zz0 pe_str pa_nil)))))) (pe_op op_mod (pv 0) pe_int) (fun _ _=>rfl))) (zz2 (ps_set (i:=4) sc_qzq.nd rfl (by walk_at "o") (pe_and (pe_cmpR op_lt (pe_op op_mod (pv 0) pe_int) pe_int (nomark _)) (pe_one (pe_cmpR op_eq (pe_op op_mod (pe_op op_fdiv (pv 0) pe_int) pe_int) pe_int (nomark _))))) (zz5 (ps_ret (pe_tup (zz0 (pv 1) (zz0 (pv 3) (zz0 (zz8 (G_qwv T) (hr.mono (by decide)) rfl T.m_qwv T.k_qwv T.b_qwv .nil pass0 (zz0 (pv 2) (zz0 (pe_op op_fdiv (pv 0) pe_int) pa_nil))) (zz0 (zz8 (G_qzw T) (hr.mono (by decide)) rfl T.m_qzw T.k_qzw T.b_qzw .nil pass0 (zz0 (pe_op op_fdiv (pv 0) pe_int) pa_nil)) (zz0 (pv 4) pa_nil)))))))))),?_⟩
  walk_at "rd"
  have h5:5≤sizeLine:=by rw[sizeLine_eq];decide
  have key:∃r,atI [V.str (Str.ofString "whole"),V.str (Str.ofString "high"),V.str (Str.ofString "low"),V.str (Str.ofString "near"),V.str (Str.ofString "split")] (n % 5)=some (V.str r)∧isT r∧(n % 5<3→r≠Str.ofString "near" ∧ r≠Str.ofString "split"):=by
   have h:n % 5=0∨n % 5=1∨n % 5=2∨n % 5=3∨n % 5=4:=by omega
   rcases h with h | h | h | h | h<;>rw[h]
   ·exact⟨_,rfl,.inl rfl,fun _=>by decide +kernel⟩
   ·exact⟨_,rfl,.inr (.inl rfl),fun _=>by decide +kernel⟩
   ·exact⟨_,rfl,.inr (.inr (.inl rfl)),fun _=>by decide +kernel⟩
   ·exact⟨_,rfl,.inr (.inr (.inr (.inl rfl))),fun q=>by omega⟩
   ·exact⟨_,rfl,.inr (.inr (.inr (.inr rfl))),fun q=>by omega⟩
  obtain⟨r,er,hr1,hr2⟩:=key
  refine⟨h5,fun p hp=>⟨by decide,_,SqL.of zz1,_,er,by decide,ite2 (fun h => ?_) fun h => ?_⟩⟩
  ·have h:=of_decide_eq_true h
   refine⟨⟨by decide,by decide⟩,by decide,⟨by decide,by decide⟩,fun z H1 s1 hz=>⟨⟨by decide,by decide⟩,fun m H2 s2 m0 m1=>⟨h5,fun t ht => ?_⟩⟩⟩
   have sm:=(zz4 hp).trans (s1.trans s2)
   exact k ⟨t,a,r,z,m,decide (n / 5 % 2=1)⟩ _ (sm.trans (zz4 ht)) zz1 (f_back sm ht) rfl ⟨hr1,hz,m0,m1,fun q=>q.2.elim (hr2 h).1 (hr2 h).2⟩
  ·refine⟨⟨by decide,by decide⟩,fun z H1 s1 hz=>⟨⟨by decide,by decide⟩,fun m H2 s2 m0 m1=>⟨h5,fun t ht => ?_⟩⟩⟩
   have sm:=(zz4 hp).trans (s1.trans s2)
   exact k ⟨t,a,r,z,m,false⟩ _ (sm.trans (zz4 ht)) zz1 (f_back sm ht) rfl ⟨hr1,hz,m0,m1,fun q=>by cases q.1⟩
theorem G_qwy (T:Txt w K mg A):FnOk P w K mg base CX0 2 A.qwy A.fd_qwy ["_law_fill"] sp_fillrow:=by
 refine T.F_qwy.ok sc_qwy (fun vs H Q E h => ?_) (fun cdv Ar outer s H vs Q E hr h => ?_)
 ·obtain⟨f,rfl,_⟩:=h
  rfl
 ·obtain⟨f,rfl,hf,fp,k⟩:=h
  refine⟨_,(zz5 (ps_ret (pe_op zz15 (pe_op zz15 (pe_op zz15 (pe_op zz15 (pe_op (op_addAK (K:=K) rfl) (pe_ix (zz14 (K:=K) rfl) (pe_lst (zz0 pe_str (zz0 pe_str pa_nil))) (pe_callTy call_int1 (by rfl) T.n_int bt_int (zz0 (pe_ix (zz10 (K:=K) rfl) (pv 0) pe_int (fun _ _=>rfl)) pa_nil)) (fun _ _=>rfl)) (pe_ix (zz10 (K:=K) rfl) (pv 0) pe_int (fun _ _=>rfl))) pe_str) (pe_ix (zz10 (K:=K) rfl) (pv 0) pe_int (fun _ _=>rfl))) pe_str) (pe_callTy call_str_int (by rfl) T.n_str bt_str (zz0 (pe_ix (zz10 (K:=K) rfl) (pv 0) pe_int (fun _ _=>rfl)) pa_nil))))),?_⟩
  walk_at "rd"
  have s1:∀{p:Addr},H p=none→Same H (upd H p (HO.lst [V.str (Str.ofString "fill "),V.str (Str.ofString "soft ")])):=fun {p} hp=>zz4 hp
  have sz:∀m:Nat,m≤2000→m≤sizeLine:=fun m h=>by rw[sizeLine_eq];omega
  have l1:f.rule.length≤5:=by rcases fp.rule with e | e | e | e | e<;>rw[e]<;>decide +kernel
  have l2:f.name.length≤16:=by
   by_cases h:f.name.length≤16
   ·exact h
   ·have:=fp.name;rw[nm_long h]at this;cases this
  have few:Few f.add:=⟨by have:=fp.lo;omega,by have:=fp.hi;omega⟩
  have l3:=few_len few
  have l4:=few_log few
  walk_at "7"
  have w2:(Str.ofString "fill ").length=5:=by decide +kernel
  have w3:(Str.ofString "soft ").length=5:=by decide +kernel
  have et:prowT (.fill f.soft f.rule f.name f.add)=(if f.soft=true then Str.ofString "soft " else Str.ofString "fill ")++f.rule++Str.ofString " " ++ f.name++Str.ofString " " ++ Str.ofString (toString f.add):=by
   unfold prowT
   rw[txt_join]
   show (if f.soft=true then Str.ofString "soft" else Str.ofString "fill")++Str.ofString " " ++ (f.rule++Str.ofString " " ++ (f.name++Str.ofString " " ++ nS f.add))=_
   have e:(if f.soft=true then Str.ofString "soft " else Str.ofString "fill ")=(if f.soft=true then Str.ofString "soft" else Str.ofString "fill")++Str.ofString " " := by
    cases f.soft<;>decide +kernel
   rw[e]
   simp only[Str.append_assoc];rfl
  have w4:(if f.soft=true then Str.ofString "soft " else Str.ofString "fill ").length=5:=by cases f.soft<;>decide +kernel
  refine⟨sz _ (by decide),fun p hp=>⟨_,SqT.of (s1 hp _ _ hf),_,rfl,?_⟩⟩
  have hf1:=s1 hp _ _ hf
  refine .inr ⟨f.soft,rfl,_,SqL.of zz1,V.str (if f.soft=true then Str.ofString "soft " else Str.ofString "fill "),?_,_,SqT.of hf1,_,rfl,.inr (.inl ⟨_,rfl,_,rfl,sz _ (by omega),sz _ (by rw[slen];omega),_,SqT.of hf1,_,rfl,_,rfl,sz _ (by rw[slen,slen];omega),sz _ (by rw[slen,slen,slen];omega),_,SqT.of hf1,_,rfl,_,rfl,by omega,sz _ (by rw[slen,slen,slen,slen];omega),?_⟩)⟩
  ·cases f.soft<;>rfl
  ·rw[←et];exact k _ (s1 hp)
theorem d_fill_of {f g:FillM}(h:fC f=fC g):f.d=g.d:=by
 simp only[fC,Prod.mk.injEq]at h
 simp[FillM.d,h.1,h.2.1,h.2.2.1,h.2.2.2.1,h.2.2.2.2]
theorem d_map_of {α β:Type}{c:α→β}{d:α→D}(h:∀x y,c x=c y→d x=d y):∀{xs ys:List α},xs.map c=ys.map c→xs.map d=ys.map d
 | [],[],_=>rfl
 | [],_::_,e=>by cases e
 | _::_,[],e=>by cases e
 | x::xs,y::ys,e=>by
  rw[List.map_cons,List.map_cons]at e
  obtain⟨e1,e2⟩:=List.cons.inj e
  rw[List.map_cons,List.map_cons,h x y e1,d_map_of h e2]
theorem d_st_of {s r:StM}(h:sC s=sC r):s.d=r.d:=by
 simp only[sC,Prod.mk.injEq]at h
 have:=d_map_of (d:=FillM.d) (fun x y e=>d_fill_of e) h.2.2.2
 simp[StM.d,h.1,h.2.1,h.2.2.1,this]
theorem d_told_of {n m:ToldM}(h:nC n=nC m):n.d=m.d:=by
 simp only[nC,Prod.mk.injEq]at h
 simp[ToldM.d,h.1,h.2.1,h.2.2.1,h.2.2.2]
theorem d_piece_of {p q:PcM}(h:p.name=q.name) (h1:p.sts.map sC=q.sts.map sC) (h2:p.nms.map nC=q.nms.map nC):p.d=q.d:=by
 have e1:=d_map_of (d:=StM.d) (fun x y e=>d_st_of e) h1
 have e2:=d_map_of (d:=ToldM.d) (fun x y e=>d_told_of e) h2
 simp[PcM.d,h,e1,e2]
theorem occ_one {z:Str}{c:Nat}(h:occ z ⟨#[c]⟩=true):c∈z.cps.toList:=by
 by_cases hc:c∈z.cps.toList
 ·exact hc
 ·exfalso
  have e:Builtin.Str.occurrences z ⟨#[c]⟩ 0 z.length 1=[]:=occNil fun i hi=>by
   have h1:(⟨#[c]⟩:Str).length=1:=rfl
   unfold Builtin.Str.subAt
   rw[h1]
   refine beq_eq_false_iff_ne.mpr fun q=>hc ?_
   have q2:=congrArg Array.toList q
   rw[Array.toList_extract]at q2
   have m:c∈List.extract z.cps.toList i (i+1):=by rw[q2];exact List.mem_singleton.mpr rfl
   exact List.mem_of_mem_drop (List.mem_of_mem_take m)
  unfold occ at h
  rw[e]at h
  cases h
theorem nm_small {z:Str}(h:isNm z=true):SmP z∧z.length≤16:=by
 have l:z.length≤16:=by
  by_cases l:z.length≤16
  ·exact l
  ·rw[nm_long l]at h;cases h
 unfold isNm at h
 simp only[Bool.and_eq_true,List.all_eq_true]at h
 have all:(Str.ofString "abcdefghijklmnopqrstuvwxyz0123456789_").cps.toList.all (fun c=>decide (c≠10)&&decide (c≠32)&&decide (c<16 ^ 8))=true:=by decide +kernel
 have key:∀c∈z.cps.toList,c≠10∧c≠32∧c<16 ^ 8:=fun c hc=>by
  have:=List.all_eq_true.mp all c (occ_one (h.2 c hc))
  simp only[Bool.and_eq_true,decide_eq_true_eq]at this
  exact⟨this.1.1,this.1.2,this.2⟩
 exact⟨⟨by omega,fun q=>(key _ q).1 rfl,fun q=>(key _ q).2.1 rfl,fun c hc=>(key c hc).2.2⟩,l⟩
theorem num_sg (n:Int):Sg (nS n):=fun c hc=>by
 by_cases h:c<16 ^ 8
 ·exact h
 ·exact absurd hc (int_text_free' c (by omega) n)
theorem num_small {n:Int}(h1 : -9999999999≤n) (h2:n≤9999999999):SmP (nS n):=
 ⟨few_len ⟨by omega,by omega⟩,int_text_free' 10 (by decide) n,int_text_free' 32 (by decide) n,num_sg n⟩
theorem numF_range {z:Str}{lo hi n:Int}(h:numF z lo hi=.int n):lo≤n∧n≤hi:=by
 unfold numF at h
 generalize (if Txt.startswith z "-" = true then -((valD (figs z):Nat):Int) else ((valD (figs z):Nat):Int))=x at h
 split at h
 ·cases h
 ·split at h
  ·next q=>injection h with h;rw[←h];exact q
  ·cases h
theorem stepF_lo {z:Str}{n:Int}(h:stepF z=.int n):1≤n∧n≤65536:=by
 unfold stepF at h
 split at h
 ·next m e=>
  split at h
  ·injection h with h
   subst h
   exact numF_range e
  ·cases h
 ·cases h
instance (z:Str):Decidable (Sg z):=by unfold Sg;exact inferInstance
instance (z:Str):Decidable (SmP z):=by unfold SmP;exact inferInstance
theorem takes_small {S:RP}{r:PRow}(h:S.Takes r):r.Small:=by
 intro p hp
 cases r with
 | piece nm=>
  simp only[PRow.parts,List.mem_cons,List.not_mem_nil,or_false]at hp
  rcases hp with rfl | rfl
  ·decide +kernel
  ·exact (nm_small h.2).1
 | st kd s=>
  simp only[PRow.parts,List.mem_cons,List.not_mem_nil,or_false]at hp
  rcases hp with rfl | rfl
  ·rcases h.2.1 with e | e<;>rw[e]<;>decide +kernel
  ·have:=stepF_lo h.2.2;exact num_small (by omega) (by omega)
 | word n=>
  simp only[PRow.parts,List.mem_cons,List.not_mem_nil,or_false]at hp
  rcases hp with rfl | rfl
  ·decide +kernel
  ·have:=h.2.2;exact num_small (by omega) (by omega)
 | fill soft r nm add=>
  obtain⟨_,_,_,h1,h2,_,h3,h4⟩:=h
  simp only[PRow.parts,List.mem_cons,List.not_mem_nil,or_false]at hp
  rcases hp with rfl | rfl | rfl | rfl
  ·cases soft<;>decide +kernel
  ·rcases h1 with e | e | e | e | e<;>rw[e]<;>decide +kernel
  ·exact (nm_small h2).1
  ·exact num_small (by omega) (by omega)
 | told sort nm=>
  obtain⟨_,_,h1,h2,_⟩:=h
  simp only[PRow.parts,List.mem_cons,List.not_mem_nil,or_false]at hp
  rcases hp with rfl | rfl
  ·rcases h1 with e | e | e<;>rw[e]<;>decide +kernel
  ·exact (nm_small h2).1
theorem takesAll_run:∀{rows:List PRow}{S:RP},S.TakesAll rows→∀(i:Nat) (r:PRow),rows[i]?=some r→((rows.take i).foldl RP.next S).Takes r
 | [],_,_,i,r,h=>by cases i<;>cases h
 | a::rows,S,t,0,r,h=>by cases h;exact t.1
 | a::rows,S,t,i+1,r,h=>takesAll_run (rows:=rows) t.2 i r h
theorem takesAll_app:∀{a b:List PRow}{S:RP},S.TakesAll a→(a.foldl RP.next S).TakesAll b→S.TakesAll (a++b)
 | [],_,_,_,h=>h
 | x::a,b,S,t,h=>⟨t.1,takesAll_app t.2 h⟩
theorem takesAll_small:∀{rows:List PRow}{S:RP},S.TakesAll rows→∀r∈rows,r.Small
 | [],_,_,r,h=>(nomatch h)
 | a::rows,S,t,r,h=>by
  rcases List.mem_cons.mp h with rfl | h
  ·exact takes_small t.1
  ·exact takesAll_small t.2 r h
theorem wordF_lo (c:Int):0≤wordF c∧wordF c≤4294967295:=by
 unfold wordF
 split
 ·split<;>decide
 ·omega
theorem prow_st (kd:Str) (s:Int):prowT (.st kd s)=kd++Str.ofString " " ++ nS s:=by
 unfold prowT;rw[txt_join];rfl
theorem prow_word (n:Int):prowT (.word n)=Str.ofString "word " ++ nS n:=by
 unfold prowT
 rw[txt_join,show Str.ofString "word " = Str.ofString "word" ++ Str.ofString " " from by decide +kernel];rfl
theorem prow_told (a b:Str):prowT (.told a b)=a++Str.ofString " " ++ b:=by
 unfold prowT;rw[txt_join];rfl
theorem prow_piece (b:Str):prowT (.piece b)=Str.ofString "piece " ++ b:=by
 unfold prowT
 rw[txt_join,show Str.ofString "piece " = Str.ofString "piece" ++ Str.ofString " " from by decide +kernel];rfl
theorem sz_of {m:Nat}(h:m≤2000):m≤sizeLine:=by rw[sizeLine_eq];omega
theorem pr_repS {H:Hp}{q:PcM}(h:Pr H q):Rep K H (.lst (q.sts.map StM.d)) (.ref q.ls):=by
 simp only[Rep]
 exact⟨_,_,rfl,SqL.of h.sl,RepL.map fun s hs=>(h.ss s hs).rep⟩
theorem sts_nil {H:Hp}{q:PcM}{p:Addr}{R:Bool→Hp→Prop}(h:Pr H q) (hp:H p=none) (k1:q.sts=[]→R true (upd H p (HO.lst []))) (k2:q.sts≠[]→R false (upd H p (HO.lst []))):
  rEqD K (V.ref q.ls) (V.ref p) (upd H p (HO.lst [])) fun x H'=>∃k,x=V.bl k∧R k H':=by
 refine⟨q.sts.map StM.d,[],.inl ⟨pr_repS (h.mono (zz4 hp)),⟨p,[],rfl,SqL.of zz1,by simp[RepL]⟩⟩,Nat.le_trans (depL_le fun p _=>dep_st p) (by decide),_,rfl,?_⟩
 rw[deqL_nil]
 by_cases z:q.sts=[]
 ·rw[decide_eq_true (by rw[z];rfl)];exact k1 z
 ·rw[decide_eq_false (fun e=>z (List.map_eq_nil_iff.mp e))];exact k2 z
theorem inV_strP {z:Str}{xs:List Str}:inV (.str z) (xs.map V.str)=true↔z∈xs:=by
 unfold inV
 rw[List.any_map,List.any_eq_true]
 constructor
 ·rintro⟨y,hy,e⟩
  have:y=z:=by simpa [Function.comp,eqV] using e
  exact this▸hy
 ·intro h
  exact⟨z,h,by simp[Function.comp,eqV]⟩
theorem kind_at (c:Int):∃kd,atI [V.str (Str.ofString "code"),V.str (Str.ofString "data")] (c % 2)=some (V.str kd)∧isKindP kd:=by
 have h:c % 2=0∨c % 2=1:=by omega
 rcases h with e | e<;>rw[e]
 ·exact⟨_,rfl,.inl rfl⟩
 ·exact⟨_,rfl,.inr rfl⟩
theorem sort_atP (c:Int):∃z:Str,atI [V.str (Str.ofString "tell"),V.str (Str.ofString "weak"),V.str (Str.ofString "own")] (c % 3)=some (V.str z)∧isSortP z∧z.length≤4:=by
 have hd:c % 3=0∨c % 3=1∨c % 3=2:=by omega
 rcases hd with e | e | e<;>rw[e]
 ·exact⟨_,rfl,.inl rfl,by decide +kernel⟩
 ·exact⟨_,rfl,.inr (.inl rfl),by decide +kernel⟩
 ·exact⟨_,rfl,.inr (.inr rfl),by decide +kernel⟩
theorem step_pow (c:Int):∃n:Int,1 * 2 ^ (c % 17).toNat=n∧1≤n∧n≤65536∧stepF (nS n)=.int n:=by
 have h:(c % 17).toNat≤16:=by omega
 generalize (c % 17).toNat=x at *
 have e:(1:Int) * 2 ^ x=((2 ^ x:Nat):Int):=by rw[Int.one_mul,Int.natCast_pow];rfl
 have l1:1≤2 ^ x:=Nat.one_le_two_pow
 have l2:2 ^ x≤2 ^ 16:=Nat.pow_le_pow_right (by decide) h
 refine⟨_,e,by omega,by omega,stepF_str (by omega) (by omega) ⟨x,by rw[Int.natCast_pow];rfl⟩⟩
theorem G_qyy (T:Txt w K mg A):FnOk P w K mg base CX0 3 A.qyy A.fd_qyy ["_law_cell", "_law_names_by", "_law_stretches", "_law_told"] sp_putP:=by
 refine T.F_qyy.ok sc_qyy (fun vs H Q E h => ?_) (fun cdv Ar outer s H vs Q E hr h => ?_)
 ·obtain⟨c,nb,q,S,m,rfl,_⟩:=h
  rfl
 ·obtain⟨c,nb,q,S,m,rfl,B,hm,k⟩:=h
  refine⟨_,(zz2 (ps_set (i:=4) sc_qyy.nd rfl (by walk_at "o") (pe_op op_mod (pe_op op_mul (pv 0) pe_int) pe_int)) (zz2 (ps_if (PW.pt (pw_or (zz6 (op_eqDK hr.units (K:=K) rfl) (pv 2) (pe_lst pa_nil) (nomark _)) (pw_or1 (zz6 op_eq (pe_op op_mod (pv 0) pe_int) pe_int (nomark _))))) (pss_weak (u:=pkA) (zz2 (ps_set (i:=5) sc_qyy.nd rfl (by walk_at "o") (pe_ix (zz14 (K:=K) rfl) (pe_lst (zz0 pe_str (zz0 pe_str pa_nil))) (pe_op op_mod (pe_op op_fdiv (pv 0) pe_int) pe_int) (fun _ _=>rfl))) (zz2 (ps_set (i:=6) sc_qyy.nd rfl (by walk_at "o") (pe_op op_shl pe_int (pe_op op_mod (pe_op op_fdiv (pv 0) pe_int) pe_int))) (zz2 (ps_expr (pe_bm PySem.F.plainAttrs_list PySem.F.slot_list_append PySem.F.type_list_append zz19 (pv 2) (zz0 (pe_tup (zz0 (pv 5) (zz0 (pv 6) (zz0 (pe_lst pa_nil) (zz0 (pe_lst pa_nil) pa_nil))))) pa_nil))) (zz5 (ps_ret (pe_lst (zz0 (pe_op zz15 (pe_op zz15 (pv 5) pe_str) (pe_callTy call_str_int (by rfl) T.n_str bt_str (zz0 (pv 6) pa_nil))) pa_nil))))))) ?pka) zz7) (pss_weak (u:=pkB) (zz2 (ps_set (i:=7) sc_qyy.nd rfl (by walk_at "o") (pe_ix (zz14 (K:=K) rfl) (pv 2) (pe_un un_neg pe_int) (fun _ _=>rfl))) (zz2 (ps_if (zz6 op_gt (pe_op op_mod (pv 0) pe_int) pe_int (nomark _)) (pss_weak (u:=pkC) (zz2 (ps_set (i:=8) sc_qyy.nd rfl (by walk_at "o") (zz8 (G_qwv T) (hr.mono (by decide)) rfl T.m_qwv T.k_qwv T.b_qwv .nil pass0 (zz0 (pv 1) (zz0 (pv 4) pa_nil)))) (zz2 (ps_set (i:=9) sc_qyy.nd rfl (by walk_at "o") (pe_ix (zz14 (K:=K) rfl) (pe_lst (zz0 pe_str (zz0 pe_str (zz0 pe_str pa_nil)))) (pe_op op_mod (pe_op op_fdiv (pv 4) pe_int) pe_int) (fun _ _=>rfl))) (zz2 (ps_if (zz6 (op_inSK (K:=K) rfl) (pv 8) (pe_comp (blk_mk (own:=["_law_row"]) (fr:=[]) (fm:=[]) rfl (by decide +kernel) (by decide +kernel) (by decide +kernel) .nil) rfl (pi_listK (K:=K) rfl (pv 3)) (fun _ _ _=>⟨(zz9 (i:=0) (by show List.Nodup (["_law_row"]:List Str);decide +kernel) rfl (by walk_at "o")),pts_nil,(pe_ix (zz10 (K:=K) rfl) (pv 0) pe_int (fun _ _=>rfl))⟩)) (by with_unfolding_all rfl)) (zz5 (ps_ret (pe_lst pa_nil))) zz7) (zz2 (ps_expr (pe_bm PySem.F.plainAttrs_list PySem.F.slot_list_append PySem.F.type_list_append zz19 (pv 3) (zz0 (pe_tup (zz0 (pv 8) (zz0 (pv 9) (zz0 (pe_op op_sub (zz16 (zz18 (K:=K) rfl) (by rfl) T.n_len bt_len (zz0 (pv 2) pa_nil)) pe_int) (zz0 (zz16 (zz18 (K:=K) rfl) (by rfl) T.n_len bt_len (zz0 (pe_ix (zz10 (K:=K) rfl) (pv 7) pe_int (fun _ _=>rfl)) pa_nil)) pa_nil))))) pa_nil))) (zz5 (ps_ret (pe_lst (zz0 (pe_op zz15 (pe_op zz15 (pv 9) pe_str) (pv 8)) pa_nil)))))))) ?pkn) zz7) (pss_weak (u:=pkC) (zz2 (ps_set (i:=10) sc_qyy.nd rfl (by walk_at "o") (pe_lst (zz0 (pe_op zz15 pe_str (pe_callTy call_str_int (by rfl) T.n_str bt_str (zz0 (zz8 (G_qwj T) (hr.mono (by decide)) rfl T.m_qwj T.k_qwj T.b_qwj .nil pass0 (zz0 (pv 0) pa_nil)) pa_nil))) pa_nil))) (zz2 (ps_if (zz6 op_gt (pe_op op_mod (pv 0) pe_int) pe_int (nomark _)) (zz2 (ps_expr (pe_bm PySem.F.plainAttrs_list PySem.F.slot_list_append PySem.F.type_list_append zz19 (pe_ix (zz10 (K:=K) rfl) (pv 7) pe_int (fun _ _=>rfl)) (zz0 (zz8 (G_qzq T) (hr.mono (by decide)) rfl T.m_qzq T.k_qzq T.b_qzq .nil pass0 (zz0 (pv 4) (zz0 (zz16 (zz18 (K:=K) rfl) (by rfl) T.n_len bt_len (zz0 (pe_ix (zz10 (K:=K) rfl) (pv 7) pe_int (fun _ _=>rfl)) pa_nil)) (zz0 (pv 1) pa_nil)))) pa_nil))) (zz5 (ps_expr (pe_bm PySem.F.plainAttrs_list PySem.F.slot_list_append PySem.F.type_list_append zz19 (pv 10) (zz0 (zz8 (G_qwy T) (hr.mono (by decide)) rfl T.m_qwy T.k_qwy T.b_qwy .nil pass0 (zz0 (pe_ix (zz14 (K:=K) rfl) (pe_ix (zz10 (K:=K) rfl) (pv 7) pe_int (fun _ _=>rfl)) (pe_un un_neg pe_int) (fun _ _=>rfl)) pa_nil)) pa_nil))))) zz7) (pss_weak (u:=pkD) (zz2 (ps_expr (pe_bm PySem.F.plainAttrs_list PySem.F.slot_list_append PySem.F.type_list_append zz19 (pe_ix (zz10 (K:=K) rfl) (pv 7) pe_int (fun _ _=>rfl)) (zz0 (zz8 (G_qwj T) (hr.mono (by decide)) rfl T.m_qwj T.k_qwj T.b_qwj .nil pass0 (zz0 (pv 0) pa_nil)) pa_nil))) (zz5 (ps_ret (pv 10)))) ?pkd))) ?pkc))) ?pkb))),?main⟩
  case main=>
   walk_at "rd"
   refine⟨.inr ⟨by decide,by decide⟩,by decide,Nat.zero_le _,fun p hp=>sts_nil B.pr hp (fun z => ?_) (fun z => ?_)⟩
   ·rw[if_pos rfl]
    exact⟨c,nb,_,q,S,m,H,_,_,_,_,_,_,rfl,zz4 hp,B,hm,k⟩
   ·rw[if_neg (by decide)]
    exact⟨by decide,ite2 (fun _=>⟨c,nb,_,q,S,m,H,_,_,_,_,_,_,rfl,zz4 hp,B,hm,k⟩) (fun _=>⟨c,nb,_,q,S,m,H,_,_,_,_,_,_,rfl,zz4 hp,B,hm,z,k⟩)⟩
  case pka=>
   rintro D σ H ⟨c,nb,n,q,S,m,H0,b5,b6,b7,b8,b9,b10,rfl,sm,B,hm,k⟩
   walk_at "rd"
   obtain⟨kd,ek,hk⟩:=kind_at (c / 8)
   obtain⟨st,est,s1,s2,s3⟩:=step_pow (c / 16)
   rw[est]
   have few:Few st:=⟨by omega,by omega⟩
   have l3:=few_len few
   have l4:=few_log few
   walk_at "7"
   have lk:kd.length=4:=by rcases hk with e | e<;>rw[e]<;>decide +kernel
   refine⟨sz_of (by decide),fun p hp=>⟨⟨by decide,by decide⟩,by decide,_,SqL.of zz1,_,ek,⟨by decide,by decide⟩,by decide,⟨by omega,by omega,by decide⟩,?_⟩⟩
   generalize e1:upd H p (HO.lst [V.str (Str.ofString "code"),V.str (Str.ofString "data")])=H1
   have m1:Same H0 H1:=by rw[←e1];exact sm.trans (zz4 hp)
   refine⟨.inl ⟨rfl,_,SqL.of (m1 _ _ B.pr.sl)⟩,Nat.zero_le _,fun lw hlw=>⟨Nat.zero_le _,fun lf hlf=>⟨sz_of (by decide),fun t ht => ?_⟩⟩⟩
   generalize e2:upd H1 lw (HO.lst [])=H2 at hlf ht ⊢
   have m2:Same H1 H2:=by rw[←e2];exact zz4 hlw
   have a2:H2 lw=some (.lst []):=by rw[←e2,zz1]
   generalize e3:upd H2 lf (HO.lst [])=H3 at ht ⊢
   have m3:Same H2 H3:=by rw[←e3];exact zz4 hlf
   have a3:H3 lf=some (.lst []):=by rw[←e3,zz1]
   generalize e4:upd H3 t (HO.tup [V.str kd,V.int st,V.ref lw,V.ref lf])=H4
   have m4:Same H3 H4:=by rw[←e4];exact zz4 ht
   have a4:H4 t=some (HO.tup [V.str kd,V.int st,V.ref lw,V.ref lf]):=by rw[←e4,zz1]
   have M:=((m1.trans m2).trans m3).trans m4
   have flw:H0 lw=none:=f_back m1 hlw
   have flf:H0 lf=none:=f_back (m1.trans m2) hlf
   have pb:=B.pr.mono M
   refine⟨_,pb.sl,by rw[List.length_map,sizeLine_eq];have:=B.n1.1;omega,_,rfl,sz_of (by omega),by omega,sz_of (by rw[slen];omega),sz_of (by decide),fun l hl => ?_⟩
   have nlf:lw≠lf:=zz3 a2 hlf
   have P:=pb.newStretch a4 (m4 _ _ (m3 _ _ a2)) (m4 _ _ a3) nlf (B.pr.fresh flw) (B.pr.fresh flf)
   obtain⟨n1,n2,n3⟩:=B.n1
   have eL:PcM.lists { q with sts:=q.sts++[⟨t,lw,lf,kd,st,[],[]⟩] }=q.lists++[lw,lf]:=by simp[PcM.lists,StM.lists,List.flatMap_append]
   refine k { q with sts:=q.sts++[⟨t,lw,lf,kd,st,[],[]⟩] } l [.st kd st] _ { ids:=⟨rfl,rfl,rfl,rfl⟩,fr:=fun x o hx e => ?_,nw:=fun x hx => ?_,top := ?_,fl := ?_,nl:=P.fresh hl,n2:=by simp,tk:=⟨⟨by rw[B.nm];simp,hk,s3⟩,trivial⟩,pb:=⟨P.mono (zz4 hl),?_,B.nms,B.nm,?_⟩ }
   ·have e':=M _ _ e
    have nx:x≠q.ls:=fun z=>hx (by rw[z];simp[PcM.lists])
    have e5:upd H4 q.ls (HO.lst (q.sts.map StM.v++[V.ref t])) x=some o:=by rw[upd_ne nx];exact e'
    rw[upd_ne (zz3 e5 hl)];exact e5
   ·rw[eL]at hx
    rcases List.mem_append.mp hx with z | z
    ·exact .inl z
    ·simp only[List.mem_cons,List.not_mem_nil,or_false]at z
     rcases z with rfl | rfl
     ·exact .inr flw
     ·exact .inr flf
   ·rw[zz1]
    show some (HO.lst [V.str _])=some (HO.lst [V.str _])
    rw[prow_st];rfl
   ·have nx:l≠q.ls:=fun z=>by rw[z,zz1]at hl;cases hl
    rw[upd_ne nx]at hl
    exact f_back M hl
   ·show (q.sts++[_]).map sC=S.sts++[_]
    rw[List.map_append,B.sts];rfl
   ·refine⟨by show (q.sts++[_]).length≤m+1;rw[List.length_append,List.length_singleton];omega,by show q.nms.length≤m+1;omega,fun s hs => ?_⟩
    rcases List.mem_append.mp hs with z | z
    ·have:=n3 s z;exact⟨by omega,by omega⟩
    ·rw[List.mem_singleton.mp z];exact⟨Nat.zero_le _,Nat.zero_le _⟩
  case pkb=>
   rintro D σ H ⟨c,nb,n,q,S,m,H0,b5,b6,b7,b8,b9,b10,rfl,sm,B,hm,ne,k⟩
   walk_at "rd"
   obtain⟨ss,s,es⟩:∃ss s,q.sts=ss++[s]:=⟨q.sts.dropLast,q.sts.getLast ne,(List.dropLast_concat_getLast ne).symm⟩
   have sl:=sm _ _ B.pr.sl
   refine⟨_,SqL.of sl,s.v,?_,by decide,ite2 (fun _=>⟨c,nb,n,q,S,m,H0,ss,s,_,_,_,_,_,rfl,sm,B,hm,es,k⟩) (fun _=>⟨c,nb,n,q,S,m,H0,ss,s,_,_,_,_,_,rfl,sm,B,hm,es,k⟩)⟩
   rw[es,List.map_append];exact atI_last _ _
  case pkn=>
   rintro D σ H ⟨c,nb,n,q,S,m,H0,ss,s,b5,b6,b8,b9,b10,rfl,sm,B,hm,es,k⟩
   walk_at "rd"
   refine fun z H1 s1 hz=>⟨sz_of (by decide),fun p hp=>⟨⟨by decide,by decide⟩,by decide,_,SqL.of zz1,?_⟩⟩
   obtain⟨so,eso,hso,lso⟩:=sort_atP (n / 400)
   refine⟨_,eso,?_⟩
   generalize e2:upd H1 p (HO.lst [V.str (Str.ofString "tell"),V.str (Str.ofString "weak"),V.str (Str.ofString "own")])=H2
   have m2:Same H0 H2:=by rw[←e2];exact sm.trans (s1.trans (zz4 hp))
   walk_at "7"
   have lz:=(nm_small hz).2
   obtain⟨n1,n2,n3⟩:=B.n1
   have pb:=B.pr.mono m2
   refine CompL.of (xs:=q.nms.map ToldM.v) (by rw[sizeLine_eq,List.length_map];omega) (SqL.of pb.nl) (fun D i ys H'=>ys=(q.nms.take i).map (fun x=>V.str x.name)∧Same H2 H'∧H' D=some (.lst ys)) (fun D hD=>⟨rfl,zz4 hD,zz1⟩) ?_ ?_ ?_
   ·rintro D i ys H' hD hi ⟨rfl,a,b⟩
    exact⟨SqL.of (a _ _ pb.nl),b,by rw[List.length_map,List.length_take];omega⟩
   ·rintro D i v ys H' hD hx ⟨rfl,a,b⟩
    rw[List.getElem?_map]at hx
    obtain⟨x,hx',rfl⟩:=Option.map_eq_some_iff.mp hx
    have ha:x.At H':=(pb.ns x (List.mem_of_getElem? hx')).mono a
    walk_at "rd"
    refine⟨.no .nil,_,SqT.of ha,_,rfl,b,?_,same_upd hD a,?_⟩
    ·rw[List.take_add_one,hx',List.map_append];rfl
    ·exact zz1
   ·rintro D ys H' hD ⟨ey,a,b⟩
    have e3:ys=(q.nms.map ToldM.name).map V.str:=by rw[ey,List.length_map,List.take_length,List.map_map];rfl
    have m3:=m2.trans a
    have pc:=B.pr.mono m3
    have sa:=pc.ss s (by rw[es];simp)
    refine⟨D,rfl,ys,.inl (SqL.of b),rfl,?_,ite2 (fun _=>⟨Nat.zero_le _,fun l hl => ?_⟩) (fun hin=>⟨.inl ⟨rfl,_,SqL.of pc.nl⟩,_,.inl ⟨_,SqL.of pc.sl,rfl⟩,_,SqT.of sa.top,_,rfl,_,.inl ⟨_,SqL.of sa.wd,rfl⟩,sz_of (by decide),fun t ht => ?_⟩)⟩
    ·rw[e3,List.all_map];exact List.all_eq_true.mpr fun _ _=>rfl
    ·refine k q l [] _ { ids:=⟨rfl,rfl,rfl,rfl⟩,fr:=fun x o hx e => ?_,nw:=fun x hx=>.inl hx,top:=zz1,fl:=f_back m3 hl,nl:=pc.fresh hl,n2:=by simp,tk:=trivial,pb:=⟨pc.mono (zz4 hl),B.sts,B.nms,B.nm,?_⟩ }
     ·exact (m3.trans (zz4 hl)) _ _ e
     ·exact⟨by omega,by omega,fun s hs=>by have:=n3 s hs;omega⟩
    ·have hnew:z∉S.nms.map (·.1):=fun hz=>hin (by
      rw[e3]
      refine inV_strP.mpr ?_
      rw[←B.nms,List.map_map]at hz
      exact hz)
     have m4:=m3.trans (zz4 (o:=HO.tup [V.str z,V.str so,V.int ((List.map StM.v q.sts).length - 1),V.int (List.map V.int s.words).length]) ht)
     have a4:upd H' t (HO.tup [V.str z,V.str so,V.int ((List.map StM.v q.sts).length - 1),V.int (List.map V.int s.words).length]) t=some _:=zz1
     generalize upd H' t (HO.tup [V.str z,V.str so,V.int ((List.map StM.v q.sts).length - 1),V.int (List.map V.int s.words).length])=H4 at m4 a4 ⊢
     have pd:=B.pr.mono m4
     refine⟨_,pd.nl,by rw[List.length_map,sizeLine_eq];omega,_,rfl,sz_of (by omega),sz_of (by rw[slen];omega),sz_of (by decide),fun l hl => ?_⟩
     have P:=pd.newTold (n:=⟨t,z,so,((List.map StM.v q.sts).length:Int) - 1,((List.map V.int s.words).length:Int)⟩) a4
     refine k { q with nms:=q.nms++[⟨t,z,so,((List.map StM.v q.sts).length:Int) - 1,((List.map V.int s.words).length:Int)⟩] } l [.told so z] _ { ids:=⟨rfl,rfl,rfl,rfl⟩,fr:=fun x o hx e => ?_,nw:=fun x hx=>.inl hx,top := ?_,fl := ?_,nl:=P.fresh hl,n2:=by simp,tk:=⟨⟨by rw[B.nm];simp,by rw[←B.sts,es];simp,hso,hz,hnew⟩,trivial⟩,pb:=⟨P.mono (zz4 hl),B.sts,?_,B.nm,?_⟩ }
     ·have e':=m4 _ _ e
      have nx:x≠q.ln:=fun z=>hx (by rw[z];simp[PcM.lists])
      have e5:upd H4 q.ln (HO.lst (q.nms.map ToldM.v++[V.ref t])) x=some o:=by rw[upd_ne nx];exact e'
      rw[upd_ne (zz3 e5 hl)];exact e5
     ·rw[zz1]
      show some (HO.lst [V.str _])=some (HO.lst [V.str _])
      rw[prow_told]
     ·have nx:l≠q.ln:=fun z=>by rw[z,zz1]at hl;cases hl
      rw[upd_ne nx]at hl
      exact f_back m4 hl
     ·have el:lastW S=(s.words.length:Int):=by unfold lastW;rw[←B.sts,es,List.map_append,List.getLast?_append];rfl
      have eq:(q.sts.length:Int)=(S.sts.length:Int):=by rw[←B.sts,List.length_map]
      show (q.nms++[_]).map nC=S.nms++[(z,so,(S.sts.length:Int) - 1,lastW S)]
      rw[List.map_append,B.nms,el,←eq]
      simp[nC]
     ·exact⟨by show q.sts.length≤m+1;omega,by show (q.nms++[_]).length≤m+1;rw[List.length_append,List.length_singleton];omega,fun s hs=>by have:=n3 s hs;omega⟩
  case pkc=>
   rintro D σ H ⟨c,nb,n,q,S,m,H0,ss,s,b5,b6,b8,b9,b10,rfl,sm,B,hm,es,k⟩
   walk_at "rd"
   obtain⟨u0,u1⟩:=wordF_lo c
   have few:Few (wordF c):=⟨by omega,by omega⟩
   have l3:=few_len few
   have l4:=few_log few
   have w1:(Str.ofString "word ").length=5:=by decide +kernel
   refine fun H1 s1=>⟨by omega,sz_of (by omega),sz_of (by decide),fun l hl=>⟨by decide,?_⟩⟩
   have ew:[V.str (Str.ofString "word " ++ Str.ofString (toString (wordF c)))]=[PRow.word (wordF c)].map fun r=>V.str (prowT r):=by
    show [V.str _]=[V.str _]
    rw[prow_word];rfl
   rw[ew]
   have m2:Same H0 (upd H1 l (HO.lst ([PRow.word (wordF c)].map fun r=>V.str (prowT r)))):=sm.trans (s1.trans (zz4 hl))
   have a2:upd H1 l (HO.lst ([PRow.word (wordF c)].map fun r=>V.str (prowT r))) l=some _:=zz1
   have fl:H0 l=none:=f_back (sm.trans s1) hl
   generalize upd H1 l (HO.lst ([PRow.word (wordF c)].map fun r=>V.str (prowT r)))=H2 at m2 a2 ⊢
   obtain⟨n1,n2,n3⟩:=B.n1
   have ns:=n3 s (by rw[es];simp)
   have pb:=B.pr.mono m2
   have sa:=pb.ss s (by rw[es];simp)
   have eq0:({ q with sts:=ss++[{ s with fills:=s.fills++[] }] }:PcM)=q:=by rw[List.append_nil,←es]
   refine ite2 (fun _ => ?_) (fun _=>⟨c,nb,n,q,S,m,H0,ss,s,l,[],[.word (wordF c)],_,_,_,_,rfl,es,B,hm,by rw[eq0];exact pb,fun x o _ e=>m2 _ _ e,a2,fl,.inl ⟨rfl,rfl⟩,k⟩)
   refine⟨_,SqT.of sa.top,_,rfl,.inl ⟨rfl,_,SqL.of sa.fl⟩,_,SqT.of sa.top,_,rfl,_,.inl ⟨_,SqL.of sa.wd,rfl⟩,fun f H3 s3 hf ff fat fp => ?_⟩
   have m3:=m2.trans s3
   have pc:=B.pr.mono m3
   have sc:=pc.ss s (by rw[es];simp)
   obtain⟨q1,q2,q3,q4⟩:=pc.lastSt es
   have P:=pc.newFill es hf
   have ht:upd H3 s.lf (HO.lst (s.fills.map FillM.v++[f.v])) s.t=some (HO.tup [.str s.kind,.int s.step,.ref s.lw,.ref s.lf]):=by rw[upd_ne (ne_of sc.top sc.fl (by intro z;cases z))];exact sc.top
   have nl:l≠s.lf:=fun z=>(B.pr.fresh fl) (by rw[z];exact (B.pr.lastSt es).2.1)
   have hft:FillM.At (upd H3 s.lf (HO.lst (s.fills.map FillM.v++[f.v]))) f:=by
    show upd _ _ _ f.a=_
    rw[upd_ne (ne_of hf sc.fl (by intro z;cases z))];exact hf
   refine⟨_,rfl,_,sc.fl,by rw[List.length_map,sizeLine_eq];omega,.inl ⟨rfl,_,SqL.of (by rw[upd_ne nl];exact s3 _ _ a2)⟩,_,SqT.of ht,_,rfl,_,rfl,_,SqL.of zz1,_,atI_last _ _,f,rfl,hft,fp,fun H4 s4 => ?_⟩
   have al:H4 l=some (HO.lst ([PRow.word (wordF c)].map fun r=>V.str (prowT r))):=s4 _ _ (by rw[upd_ne nl];exact s3 _ _ a2)
   have P4:=P.mono s4
   have nl':l∉PcM.lists { q with sts:=ss++[{ s with fills:=s.fills++[f] }] }:=by
    have eL:PcM.lists { q with sts:=ss++[{ s with fills:=s.fills++[f] }] }=q.lists:=by simp[PcM.lists,es,List.flatMap_append,StM.lists]
    rw[eL];exact B.pr.fresh fl
   refine⟨_,al,by rw[List.length_map,sizeLine_eq];simp,c,nb,n,q,S,m,H0,ss,s,l,[f],[.word (wordF c),.fill f.soft f.rule f.name f.add],_,_,_,_,rfl,es,B,hm,P4.but (But.upd al) nl',fun x o hx e => ?_,zz1,fl,.inr ⟨f,rfl,fp,by rw[fat,List.length_map],rfl⟩,k⟩
   have e5:=s4 _ _ (show upd H3 s.lf (HO.lst (s.fills.map FillM.v++[f.v])) x=some o by rw[upd_ne hx];exact m3 _ _ e)
   rw[upd_ne (zz3 e fl)];exact e5
  case pkd=>
   rintro D σ H ⟨c,nb,n,q,S,m,H0,ss,s,l,fs,rows,b5,b6,b8,b9,rfl,es,B,hm,pr,fr,hl,fl,hf,k⟩
   walk_at "rd"
   have sa:=pr.ss { s with fills:=s.fills++fs } (by simp)
   refine⟨_,SqT.of sa.top,_,rfl,.inl ⟨rfl,_,SqL.of sa.wd⟩,fun H1 s1=>⟨_,rfl,?_⟩⟩
   have pb:=pr.mono s1
   have sb:=pb.ss { s with fills:=s.fills++fs } (by simp)
   obtain⟨n1,n2,n3⟩:=B.n1
   have ns:=n3 s (by rw[es];simp)
   refine⟨_,sb.wd,by rw[List.length_map,sizeLine_eq];show s.words.length<_;omega,?_⟩
   obtain⟨u0,u1⟩:=wordF_lo c
   have P:=pb.newWord (i:=wordF c) rfl
   have lw:s.lw∈q.lists:=(B.pr.lastSt es).1
   have lf:s.lf∈q.lists:=(B.pr.lastSt es).2.1
   have eL:PcM.lists { q with sts:=ss++[{ s with fills:=s.fills++fs,words:=s.words++[wordF c] }] }=q.lists:=by simp[PcM.lists,es,List.flatMap_append,StM.lists]
   have sn:S.sts=ss.map sC++[sC s]:=by rw[←B.sts,es,List.map_append];rfl
   have sne:S.sts≠[]:=by rw[sn];simp
   have nn:S.nm≠none:=by rw[B.nm];simp
   refine k { q with sts:=ss++[{ s with fills:=s.fills++fs,words:=s.words++[wordF c] }] } l rows _ { ids:=⟨rfl,rfl,rfl,rfl⟩,fr:=fun x o hx e => ?_,nw:=fun x hx=>.inl (by rw[eL]at hx;exact hx),top := ?_,fl:=fl,nl := ?_,n2 := ?_,tk := ?_,pb:=⟨P,?_,?_,?_,?_⟩ }
   ·rw[upd_ne (fun z=>hx (by rw[z];exact lw))]
    exact s1 _ _ (fr _ _ (fun z=>hx (by rw[z];exact lf)) e)
   ·have nl:l≠s.lw:=fun z=>(B.pr.fresh fl) (by rw[z];exact lw)
    rw[upd_ne nl];exact s1 _ _ hl
   ·rw[eL];exact B.pr.fresh fl
   ·rcases hf with ⟨_,e⟩ | ⟨f,_,_,_,e⟩<;>rw[e]<;>simp
   ·rcases hf with ⟨_,e⟩ | ⟨f,_,fp,_,e⟩<;>rw[e]
    ·exact⟨⟨nn,sne,u0,u1⟩,trivial⟩
    ·refine⟨⟨nn,sne,u0,u1⟩,⟨nn,?_,rfl,fp.rule,fp.name,fp.soft,fp.lo,fp.hi⟩,trivial⟩
     show modL _ S.sts≠[]
     rw[sn,modL_snoc];simp
   ·rcases hf with ⟨e0,e⟩ | ⟨f,e0,fp,fat,e⟩<;>rw[e,e0]
    ·show (ss++[_]).map sC=modL (addWd (wordF c)) S.sts
     rw[sn,modL_snoc,List.map_append]
     simp[sC,addWd]
    ·show (ss++[_]).map sC=modL (addFl f.soft f.rule f.name f.add) (modL (addWd (wordF c)) S.sts)
     rw[sn,modL_snoc,modL_snoc,List.map_append]
     simp[sC,addWd,addFl,fC,fat]
   ·rcases hf with ⟨_,e⟩ | ⟨f,_,_,_,e⟩<;>rw[e]<;>exact B.nms
   ·rcases hf with ⟨_,e⟩ | ⟨f,_,_,_,e⟩<;>rw[e]<;>exact B.nm
   ·have fl1:fs.length≤1:=by rcases hf with ⟨e,_⟩ | ⟨f,e,_⟩<;>rw[e]<;>simp
    have cl:(ss++[s]).length≤m:=by rw[←es];exact n1
    rw[List.length_append,List.length_singleton]at cl
    refine⟨by show (ss++[_]).length≤m+1;rw[List.length_append,List.length_singleton];omega,by show q.nms.length≤m+1;omega,fun x hx => ?_⟩
    rcases List.mem_append.mp hx with z | z
    ·have:=n3 x (by rw[es];exact List.mem_append_left _ z);exact⟨by omega,by omega⟩
    ·rw[List.mem_singleton.mp z];exact⟨by show (s.words++[wordF c]).length≤m+1;rw[List.length_append,List.length_singleton];omega,by show (s.fills++fs).length≤m+1;rw[List.length_append];omega⟩
theorem cut_intsP (ns:List Int) (h:ns.length≤63):∃ms:List Int,cutV (ns.map V.int) (some 2) (some 202)=ms.map V.int∧ms.length≤63:=by
 refine⟨(ns.drop (HT.sIx ns.length 0 (some 2))).take (HT.sIx ns.length ns.length (some 202) - HT.sIx ns.length 0 (some 2)),?_,?_⟩
 ·unfold cutV
  rw[List.length_map,List.map_take,List.map_drop]
 ·rw[List.length_take,List.length_drop];omega
theorem G_qzy (T:Txt w K mg A):FnOk P w K mg base CX0 5 A.qzy A.fd_qzy ["_law_script"] (sp_builtP K):=by
 refine T.F_qzy.ok sc_qzy (fun vs H Q E h => ?_) (fun cdv Ar outer s H vs Q E hr h => ?_)
 ·obtain⟨a,ns,rfl,_⟩:=h
  rfl
 ·obtain⟨a,ns,rfl,hS,hl,k⟩:=h
  refine⟨_,(zz2 (ps_set (i:=1) sc_qzy.nd rfl (by walk_at "o") (zz8 (G_qwx T) (hr.mono (by decide)) rfl T.m_qwx T.k_qwx T.b_qwx .nil pass0 (zz0 (pv 0) (zz0 pe_int pa_nil)))) (zz2 (ps_set (i:=2) sc_qzy.nd rfl (by walk_at "o") (zz8 (G_qwv T) (hr.mono (by decide)) rfl T.m_qwv T.k_qwv T.b_qwv .nil pass0 (zz0 (zz8 (G_qwx T) (hr.mono (by decide)) rfl T.m_qwx T.k_qwx T.b_qwx .nil pass0 (zz0 (pv 0) (zz0 pe_int pa_nil))) (zz0 (pe_op op_fdiv (zz8 (G_qwx T) (hr.mono (by decide)) rfl T.m_qwx T.k_qwx T.b_qwx .nil pass0 (zz0 (pv 0) (zz0 pe_int pa_nil))) pe_int) pa_nil)))) (zz2 (ps_set (i:=3) sc_qzy.nd rfl (by walk_at "o") (pe_lst pa_nil)) (zz2 (ps_set (i:=4) sc_qzy.nd rfl (by walk_at "o") (pe_lst pa_nil)) (zz2 (ps_set (i:=5) sc_qzy.nd rfl (by walk_at "o") (pe_lst (zz0 (pe_op zz15 pe_str (pv 2)) pa_nil))) (zz2 (ps_for PassesOwn.never rfl (pi_listK (K:=K) rfl (pe_slice (sl_listK (K:=K) rfl) (pv 0) (po_some pe_int) (po_some pe_int))) (zz9 (i:=6) sc_qzy.nd rfl (by walk_at "o")) (zz5 (ps_set (i:=5) sc_qzy.nd rfl (by walk_at "o") (pe_op (op_catSK (K:=K) rfl) (pv 5) (zz8 (G_qyy T) (hr.mono (by decide)) rfl T.m_qyy T.k_qyy T.b_qyy .nil pass0 (zz0 (pv 6) (zz0 (pv 1) (zz0 (pv 3) (zz0 (pv 4) pa_nil))))))))) (zz5 (ps_ret (pe_tup (zz0 (pv 5) (zz0 (pe_tup (zz0 (pv 2) (zz0 (pv 3) (zz0 (pv 4) pa_nil)))) pa_nil))))))))))),?_⟩
  walk_at "rd"
  have w1:(Str.ofString "piece ").length=6:=by decide +kernel
  refine⟨ns,hS,by decide,fun m=>⟨ns,hS,by decide,fun m1=>⟨ns,hS,by decide,fun m2=>⟨⟨by decide,by decide⟩,fun z H1 s1 hz=>⟨Nat.zero_le _,fun ls hls=>⟨Nat.zero_le _,fun ln hln=>⟨sz_of (by have:=(nm_small hz).2;omega),sz_of (by decide),fun pr hpr => ?_⟩⟩⟩⟩⟩⟩⟩
  obtain⟨n1,hln'⟩:=free_of hln
  have er:[V.str (Str.ofString "piece " ++ z)]=[PRow.piece z].map fun r=>V.str (prowT r):=by
   show [V.str _]=[V.str _]
   rw[prow_piece]
  rw[er]
  generalize e2:upd (upd H1 ls (HO.lst [])) ln (HO.lst [])=H2 at hpr ⊢
  have m2:Same H1 H2:=by rw[←e2];exact (zz4 hls).trans (zz4 hln)
  have a1:H2 ls=some (.lst []):=by rw[←e2,upd_ne (Ne.symm n1),zz1]
  have a2:H2 ln=some (.lst []):=by rw[←e2,zz1]
  have m3:=m2.trans (zz4 (o:=HO.lst ([PRow.piece z].map fun r=>V.str (prowT r))) hpr)
  refine⟨_,(s1.trans m3).seq hS,fun sl hsl => ?_⟩
  obtain⟨ms,em,lm⟩:=cut_intsP ns hl
  rw[em]
  obtain⟨n3,hsl'⟩:=free_of hsl
  have m4:=m3.trans (zz4 (o:=HO.lst (ms.map V.int)) hsl)
  have P0:Pr H2 ⟨ls,ls,ln,z,[],[]⟩:=Pr.start a1 a2 (Ne.symm n1)
  have f1:∀b∈([ls,ln]:List Addr),H b=none:=fun b hb=>by
   simp only[List.mem_cons,List.not_mem_nil,or_false]at hb
   rcases hb with rfl | rfl
   ·exact f_back s1 hls
   ·exact f_back s1 hln'
  refine ForL.of (xs:=ms.map V.int) (fun i σ H'=>∃(b6:Option V) (pr:Addr) (rows:List PRow) (q:PcM),σ=[some (.ref a),some (.int m),some (.str z),some (.ref ls),some (.ref ln),some (.ref pr),b6]∧q.ls=ls∧q.ln=ln∧q.name=z∧Same H H'∧H' pr=some (.lst (rows.map fun r=>V.str (prowT r)))∧H' sl=some (.lst (ms.map V.int))∧pr∉q.lists∧sl∉q.lists∧(∀b∈q.lists,H b=none)∧PB H' q (rows.foldl RP.next RP0) i∧RP0.TakesAll rows∧rows.length≤1+2 * i∧∃r,rows=.piece z::r)
   ⟨_,pr,[.piece z],⟨ls,ls,ln,z,[],[]⟩,rfl,rfl,rfl,rfl,s1.trans m4,zz4 hsl _ _ zz1,zz1,P0.fresh hpr,P0.fresh hsl',f1,⟨P0.mono ((zz4 hpr).trans (zz4 hsl)),rfl,rfl,rfl,⟨Nat.le_refl _,Nat.le_refl _,fun s hs=>(nomatch hs)⟩⟩,⟨⟨rfl,hz⟩,trivial⟩,by simp,[],rfl⟩ ?_ ?_ ?_
  ·rintro i σ H' hi ⟨b6,pr,rows,q,rfl,_,_,_,_,_,h,_⟩
   exact SqL.of h
  ·rintro i v σ H' hv ⟨b6,pr,rows,q,rfl,e1,e2,e3,sm,hp,hs,np,ns',fl,B,tk,len,r,er⟩
   have hi:=(List.getElem?_eq_some_iff.mp hv).1
   rw[List.length_map]at hi
   rw[List.getElem?_map]at hv
   obtain⟨c,hc,rfl⟩:=Option.map_eq_some_iff.mp hv
   walk_at "rd"
   refine⟨q,by rw[e1],by rw[e2],_,i,B,by omega,fun q' l rows' H3 to => ?_⟩
   have hp':=to.fr _ _ np hp
   have hs':=to.fr _ _ ns' hs
   have nn:∀{x o},x∉q.lists→H' x=some o→x∉q'.lists:=fun {x o} hx e hm=>(to.nw x hm).elim hx fun z=>by rw[e]at z;cases z
   refine⟨_,SqL.of hp',_,SqL.of to.top,by rw[sizeLine_eq,List.length_map,List.length_map];have:=to.n2;omega,fun p5 hp5 => ?_⟩
   rw[←List.map_append]
   refine⟨rows++rows',q',to.ids.1.trans e1,to.ids.2.1.trans e2,to.ids.2.2.2.trans e3,?_,zz1,zz4 hp5 _ _ hs',to.pb.pr.fresh hp5,nn ns' hs,fun b hb => ?_,?_,takesAll_app tk to.tk,by rw[List.length_append];have:=to.n2;omega,r++rows',by rw[er];rfl⟩
   ·exact fun x o e=>zz4 hp5 _ _ (to.fr _ _ (fun hx=>by rw[fl x hx]at e;cases e) (sm _ _ e))
   ·rcases to.nw b hb with z | z
    ·exact fl b z
    ·exact f_back sm z
   ·have pb:=to.pb
    rw[List.foldl_append]
    exact⟨pb.pr.mono (zz4 hp5),pb.sts,pb.nms,pb.nm,pb.n1⟩
  ·rintro σ H' ⟨b6,pr,rows,q,rfl,e1,e2,e3,sm,hp,hs,np,ns',fl,B,tk,len,r,er⟩
   walk_at "rd"
   rw[List.length_map]at B len
   refine⟨sz_of (by decide),fun t ht=>⟨sz_of (by decide),fun t2 ht2 => ?_⟩⟩
   have m5:=(zz4 (o:=HO.tup [V.str z,V.ref ls,V.ref ln]) ht).trans (zz4 (o:=HO.tup [V.ref pr,V.ref t]) ht2)
   have pb:=B.pr.mono m5
   have tt:=zz4 (o:=HO.tup [V.ref pr,V.ref t]) ht2 _ _ (zz1 (a:=t) (o:=HO.tup [V.str z,V.ref ls,V.ref ln]))
   obtain⟨q1,q2,q3⟩:=B.n1
   refine k t2 pr { q with t:=t } rows _ zz1 { sm:=sm.trans m5,rw_:=m5 _ _ hp,at_:=⟨?_,pb.sl,pb.nl,pb.ss,pb.ns⟩,nd:=pb.nd,fl:=fl,ne:=by rw[er];simp,len:=by omega,tk:=tk,run:=⟨(rows.foldl RP.next RP0).bw,?_⟩,n1:=⟨by show q.sts.length≤100;omega,by show q.nms.length≤100;omega,fun s hs=>by have:=q3 s hs;omega⟩,hd:=⟨z,r,er⟩ }
   ·show _=some (HO.tup [.str q.name,.ref q.ls,.ref q.ln])
    rw[e1,e2,e3];exact tt
   ·unfold runP
    rw[List.take_length]
    show _=(⟨some q.name,q.sts.map sC,q.nms.map nC,_⟩:RP)
    rw[B.sts,B.nms,←B.nm]
theorem nmsAt_snoc (ns:List ToldC) (n:ToldC) (a b:Int):nmsAt (ns++[n]) a b=nmsAt ns a b++if n.2.2.1=a∧n.2.2.2=b then [.told n.2.1 n.1] else []:=by
 unfold nmsAt
 rw[List.filter_append,List.map_append]
 congr 1
 by_cases h:n.2.2.1=a∧n.2.2.2=b
 ·rw[if_pos h,List.filter_cons_of_pos (by simp[h.1,h.2])];rfl
 ·rw[if_neg h,List.filter_cons_of_neg (by simpa using h)];rfl
theorem nmsAt_none {ns:List ToldC}{a b:Int}(h:∀n∈ns,¬(n.2.2.1=a∧n.2.2.2=b)):nmsAt ns a b=[]:=by
 unfold nmsAt
 rw[List.filter_eq_nil_iff.mpr fun n hn=>by simpa using h n hn];rfl
theorem nmsAt_len (ns:List ToldC) (a b:Int):(nmsAt ns a b).length≤ns.length:=by unfold nmsAt;rw[List.length_map];exact List.length_filter_le _ _
theorem flsAt_snoc (fs:List FillC) (f:FillC) (a:Int):flsAt (fs++[f]) a=if f.1=a then [.fill f.2.2.2.2 f.2.1 f.2.2.1 f.2.2.2.1] else flsAt fs a:=by
 unfold flsAt;rw[List.foldl_append];rfl
theorem snoc_ind {α:Type}{P:List α→Prop}(h0:P []) (h1:∀xs x,P xs→P (xs++[x])):∀xs,P xs:=by
 have:∀xs:List α,P xs.reverse:=fun xs=>by
  induction xs with
  | nil=>exact h0
  | cons x r ih=>rw[List.reverse_cons];exact h1 _ _ ih
 intro xs
 have:=this xs.reverse
 rwa [List.reverse_reverse]at this
theorem flsAt_none:∀(fs:List FillC) {a:Int},(∀f∈fs,f.1≠a)→flsAt fs a=[]:=
 snoc_ind (P:=fun fs=>∀{a:Int},(∀f∈fs,f.1≠a)→flsAt fs a=[]) (fun {a} _=>rfl) fun xs x ih {a} h=>by
  rw[flsAt_snoc,if_neg (h x (by simp))]
  exact ih fun l hl=>h l (by simp[hl])
theorem zz21 (ns:List ToldC) (i:Int) (x:StC) (j:Nat):wdRows ns i x (j+1)=wdRows ns i x j++(nmsAt ns i (j:Int)++.word (x.2.2.1.getD j 0)::flsAt x.2.2.2 (j:Int)):=by
 unfold wdRows;rw[List.range_succ,List.flatMap_append];simp
theorem wdRows_congr {ns ns':List ToldC}{i:Int}{x x':StC}:∀{j:Nat},(∀k:Nat,k<j→x.2.2.1.getD k 0=x'.2.2.1.getD k 0∧nmsAt ns i (k:Int)=nmsAt ns' i (k:Int)∧flsAt x.2.2.2 (k:Int)=flsAt x'.2.2.2 (k:Int))→wdRows ns i x j=wdRows ns' i x' j
 | 0,_=>rfl
 | j+1,h=>by
  obtain⟨h1,h2,h3⟩:=h j (by omega)
  rw[zz21,zz21,wdRows_congr fun k hk=>h k (by omega),h1,h2,h3]
theorem zz17 (ns:List ToldC):∀(i:Int) (xs:List StC) (x:StC),bdRows ns i (xs++[x])=bdRows ns i xs++stRows ns (i+(xs.length:Int)) x
 | i,[],x=>by
  show stRows ns i x++[]=[]++stRows ns (i+((0:Nat):Int)) x
  rw[List.append_nil,show i+((0:Nat):Int)=i by omega];rfl
 | i,y::xs,x=>by
  show stRows ns i y++bdRows ns (i+1) (xs++[x])=stRows ns i y++bdRows ns (i+1) xs++stRows ns (i+((xs.length+1:Nat):Int)) x
  rw[zz17 ns (i+1) xs x,List.append_assoc,show i+1+(xs.length:Int)=i+((xs.length+1:Nat):Int) by omega]
theorem bdRows_congr {ns ns':List ToldC}:∀{xs:List StC}{i:Int},(∀a b:Int,i≤a→a<i+(xs.length:Int)→nmsAt ns a b=nmsAt ns' a b)→bdRows ns i xs=bdRows ns' i xs
 | [],_,_=>rfl
 | y::xs,i,h=>by
  show stRows ns i y++bdRows ns (i+1) xs=stRows ns' i y++bdRows ns' (i+1) xs
  rw[bdRows_congr (i:=i+1) fun a b h1 h2=>h a b (by omega) (by rw[List.length_cons];omega)]
  have e:∀b,nmsAt ns i b=nmsAt ns' i b:=fun b=>h i b (Int.le_refl _) (by rw[List.length_cons];omega)
  unfold stRows
  rw[wdRows_congr fun k _=>⟨rfl,e _,rfl⟩,e]
theorem getD_app (ws:List Int) (u:Int) {j:Nat}(h:j<ws.length):(ws++[u]).getD j 0=ws.getD j 0:=by
 rw[List.getD_eq_getElem?_getD,List.getD_eq_getElem?_getD,List.getElem?_append_left h]
theorem getD_last (ws:List Int) (u:Int):(ws++[u]).getD ws.length 0=u:=by
 rw[List.getD_eq_getElem?_getD,List.getElem?_append_right (Nat.le_refl _),Nat.sub_self];rfl
theorem lastW_snoc {nm:Option Str}{xs:List StC}{x:StC}{ns:List ToldC}{bw:Bool}:lastW ⟨nm,xs++[x],ns,bw⟩=(x.2.2.1.length:Int):=by
 unfold lastW;dsimp only;rw[List.getLast?_append];rfl
theorem RIP.next {pre:List PRow}{S:RP}{r:PRow}(h:RIP pre S) (hs:S.nm≠none) (t:S.Takes r):RIP (pre++[r]) (S.next r)∧(S.next r).nm=S.nm:=by
 obtain⟨nm,sts,nms,bw⟩:=S
 obtain⟨hr,hn1,hn2,hf,hb⟩:=h
 dsimp only at hr hn1 hn2 hf hb hs
 cases r with
 | piece n=>exact absurd t.1 hs
 | st kd s=>
  refine⟨⟨?_,fun n hn => ?_,fun n hn e => ?_,fun x hx f hf' => ?_,fun z=>by cases z⟩,rfl⟩
  ·show pre++[PRow.st kd s]=bdRows nms 0 (sts++[(kd,s,[],[])])
   rw[zz17,hr]
   congr 1
   show _=PRow.st kd s::([]++nmsAt nms (0+(sts.length:Int)) ((0:Nat):Int))
   rw[nmsAt_none fun n hn q=>by have:=hn1 n hn;omega];rfl
  ·show n.2.2.1<((sts++[_]).length:Int)
   rw[List.length_append,List.length_singleton];have:=hn1 n hn;omega
  ·exfalso
   have:=hn1 n hn
   have e:n.2.2.1=((sts++[(kd,s,([]:List Int),([]:List FillC))]).length:Int) - 1:=e
   rw[List.length_append,List.length_singleton]at e;omega
  ·have hx:x∈(sts++[(kd,s,([]:List Int),([]:List FillC))]).getLast?:=hx
   rw[List.getLast?_append]at hx
   cases hx;cases hf'
 | word u=>
  obtain⟨_,t0,t1,t2⟩:=t
  walk_at "8"
  have ea:modL (addWd u) (xs++[x])=xs++[addWd u x]:=modL_snoc _ _ _
  rw[List.length_append,List.length_singleton]at hn1 hn2
  have hn2':∀n∈nms,n.2.2.1=((xs.length+1:Nat):Int) - 1→n.2.2.2≤(x.2.2.1.length:Int):=fun n hn e=>by have:=hn2 n hn e;rwa [lastW_snoc]at this
  have hf':∀f∈x.2.2.2,f.1<(x.2.2.1.length:Int):=hf x (by rw[List.getLast?_append];rfl)
  have lw:lastW ⟨nm,modL (addWd u) (xs++[x]),nms,true⟩=(x.2.2.1.length:Int)+1:=by rw[ea,lastW_snoc];show ((x.2.2.1++[u]).length:Int)=_;rw[List.length_append,List.length_singleton];rfl
  have ll:((modL (addWd u) (xs++[x])).length:Int)=((xs.length+1:Nat):Int):=by rw[ea,List.length_append,List.length_singleton]
  refine⟨⟨?_,fun n hn => ?_,fun n hn e => ?_,fun y hy f hfy => ?_,fun _=>⟨fun n hn e => ?_,fun y hy => ?_⟩⟩,rfl⟩
  ·show pre++[PRow.word u]=bdRows nms 0 (modL (addWd u) (xs++[x]))
   rw[ea,zz17,hr,zz17,List.append_assoc]
   congr 1
   unfold stRows
   show PRow.st x.1 x.2.1::_++[PRow.word u]=PRow.st x.1 x.2.1::(wdRows nms (0+(xs.length:Int)) (addWd u x) (x.2.2.1++[u]).length++nmsAt nms (0+(xs.length:Int)) ((x.2.2.1++[u]).length:Int))
   rw[List.length_append,List.length_singleton,zz21,wdRows_congr (x:=addWd u x) (x':=x) (ns':=nms) fun k hk=>⟨getD_app _ _ hk,rfl,rfl⟩,show (addWd u x).2.2.1.getD x.2.2.1.length 0=u from getD_last _ _,
    show flsAt (addWd u x).2.2.2 (x.2.2.1.length:Int)=[] from flsAt_none _ fun f hf0 e=>by have:=hf' f hf0;omega,nmsAt_none (b:=((x.2.2.1.length+1:Nat):Int)) fun n hn q=>by have:=hn2' n hn (by omega);omega]
   simp
  ·show n.2.2.1<((modL (addWd u) (xs++[x])).length:Int)
   rw[ll];exact hn1 n hn
  ·show n.2.2.2≤lastW ⟨nm,modL (addWd u) (xs++[x]),nms,true⟩
   have e:n.2.2.1=((modL (addWd u) (xs++[x])).length:Int) - 1:=e
   rw[ll]at e
   rw[lw];have:=hn2' n hn e;omega
  ·have hy:y∈(modL (addWd u) (xs++[x])).getLast?:=hy
   rw[ea,List.getLast?_append]at hy
   cases hy
   have:=hf' f hfy
   show f.1<((x.2.2.1++[u]).length:Int)
   rw[List.length_append,List.length_singleton];omega
  ·show n.2.2.2<lastW ⟨nm,modL (addWd u) (xs++[x]),nms,true⟩
   have e:n.2.2.1=((modL (addWd u) (xs++[x])).length:Int) - 1:=e
   rw[ll]at e
   rw[lw];have:=hn2' n hn e;omega
  ·have hy:y∈(modL (addWd u) (xs++[x])).getLast?:=hy
   rw[ea,List.getLast?_append]at hy
   cases hy
   have e:((addWd u x).2.2.1).length=x.2.2.1.length+1:=by show (x.2.2.1++[u]).length=_;rw[List.length_append,List.length_singleton]
   refine⟨by show 1≤(addWd u x).2.2.1.length;rw[e];omega,fun f hfy => ?_⟩
   have:=hf' f hfy
   show f.1<((addWd u x).2.2.1.length:Int) - 1
   rw[e];omega
 | fill soft r n v=>
  obtain⟨_,t0,t1,_⟩:=t
  dsimp only at t1
  obtain⟨b1,b2⟩:=hb t1
  walk_at "8"
  have ea:modL (addFl soft r n v) (xs++[x])=xs++[addFl soft r n v x]:=modL_snoc _ _ _
  rw[List.length_append,List.length_singleton]at hn1 hn2 b1
  have hn2':∀n∈nms,n.2.2.1=((xs.length+1:Nat):Int) - 1→n.2.2.2<(x.2.2.1.length:Int):=fun n hn e=>by have:=b1 n hn e;rwa [lastW_snoc]at this
  obtain⟨b3,b4⟩:=b2 x (by rw[List.getLast?_append];rfl)
  have lw:lastW ⟨nm,modL (addFl soft r n v) (xs++[x]),nms,false⟩=(x.2.2.1.length:Int):=by rw[ea,lastW_snoc];rfl
  have ll:((modL (addFl soft r n v) (xs++[x])).length:Int)=((xs.length+1:Nat):Int):=by rw[ea,List.length_append,List.length_singleton]
  refine⟨⟨?_,fun n hn => ?_,fun n hn e => ?_,fun y hy f hfy => ?_,fun z=>by cases z⟩,rfl⟩
  ·show pre++[PRow.fill soft r n v]=bdRows nms 0 (modL (addFl soft r n v) (xs++[x]))
   rw[ea,zz17,hr,zz17,List.append_assoc]
   congr 1
   obtain⟨j,ej⟩:∃j,x.2.2.1.length=j+1:=⟨x.2.2.1.length - 1,by omega⟩
   unfold stRows
   show PRow.st x.1 x.2.1::_++[PRow.fill soft r n v]=PRow.st x.1 x.2.1::(wdRows nms (0+(xs.length:Int)) (addFl soft r n v x) x.2.2.1.length++nmsAt nms (0+(xs.length:Int)) (x.2.2.1.length:Int))
   rw[nmsAt_none (b:=(x.2.2.1.length:Int)) fun n hn q=>by have:=hn2' n hn (by omega);omega,ej,zz21,zz21]
   have eF:∀k:Int,flsAt (addFl soft r n v x).2.2.2 k=if (x.2.2.1.length:Int) - 1=k then [.fill soft r n v] else flsAt x.2.2.2 k:=fun k=>flsAt_snoc _ _ _
   rw[wdRows_congr (x:=addFl soft r n v x) (x':=x) (ns':=nms) fun k hk=>⟨rfl,rfl,by rw[eF,if_neg (by omega)]⟩,eF,if_pos (by omega),flsAt_none x.2.2.2 (a:=(j:Int)) fun f hf0 e=>by have:=b4 f hf0;omega]
   simp[addFl]
  ·show n.2.2.1<((modL (addFl soft r _ v) (xs++[x])).length:Int)
   rw[ll];exact hn1 n hn
  ·have e:n.2.2.1=((modL (addFl soft r _ v) (xs++[x])).length:Int) - 1:=e
   rw[ll]at e
   show n.2.2.2≤lastW ⟨nm,modL (addFl soft r _ v) (xs++[x]),nms,false⟩
   rw[lw];have:=hn2' n hn e;omega
  ·have hy:y∈(modL (addFl soft r n v) (xs++[x])).getLast?:=hy
   rw[ea,List.getLast?_append]at hy
   cases hy
   rcases List.mem_append.mp hfy with z | z
   ·have:=b4 f z;show f.1<(x.2.2.1.length:Int);omega
   ·rw[List.mem_singleton.mp z];show (x.2.2.1.length:Int) - 1<(x.2.2.1.length:Int);omega
 | told so z=>
  obtain⟨_,t0,_⟩:=t
  walk_at "8"
  have lw:lastW ⟨nm,xs++[x],nms,bw⟩=(x.2.2.1.length:Int):=lastW_snoc
  have hn1':=hn1
  have hn2':=hn2
  rw[List.length_append,List.length_singleton]at hn1' hn2'
  rw[lw]at hn2'
  have ne:∀a b:Int,¬((((xs++[x]).length:Int) - 1=a)∧(x.2.2.1.length:Int)=b)→nmsAt (nms++[(z,so,((xs++[x]).length:Int) - 1,(x.2.2.1.length:Int))]) a b=nmsAt nms a b:=fun a b h=>by
   rw[nmsAt_snoc,if_neg h,List.append_nil]
  have ll:((xs++[x]).length:Int)=(xs.length:Int)+1:=by rw[List.length_append,List.length_singleton];omega
  refine⟨⟨?_,fun n hn => ?_,fun n hn e => ?_,hf,fun z=>by cases z⟩,rfl⟩
  ·show pre++[PRow.told so z]=bdRows (nms++[(z,so,((xs++[x]).length:Int) - 1,lastW ⟨nm,xs++[x],nms,bw⟩)]) 0 (xs++[x])
   rw[lw,zz17,hr,zz17,List.append_assoc,bdRows_congr (ns:=nms++[_]) (ns':=nms) (xs:=xs) (i:=0) fun a b h1 h2=>ne a b fun q=>by omega]
   congr 1
   unfold stRows
   rw[wdRows_congr (ns:=nms++[_]) (ns':=nms) (x':=x) fun k hk=>⟨rfl,ne _ _ fun q=>by omega,rfl⟩,nmsAt_snoc,if_pos ⟨by show ((xs++[x]).length:Int) - 1=_;omega,rfl⟩]
   simp
  ·rcases List.mem_append.mp hn with q | q
   ·exact hn1 n q
   ·rw[List.mem_singleton.mp q];show ((xs++[x]).length:Int) - 1<((xs++[x]).length:Int);omega
  ·show n.2.2.2≤lastW ⟨nm,xs++[x],_,false⟩
   rw[lastW_snoc]
   rcases List.mem_append.mp hn with q | q
   ·exact hn2' n q (by have e:n.2.2.1=((xs++[x]).length:Int) - 1:=e;omega)
   ·rw[List.mem_singleton.mp q];show lastW ⟨nm,xs++[x],nms,bw⟩≤_;rw[lw];exact Int.le_refl _
theorem rip_all:∀{rows:List PRow}{pre:List PRow}{S:RP},RIP pre S→S.nm≠none→S.TakesAll rows→RIP (pre++rows) (rows.foldl RP.next S)∧(rows.foldl RP.next S).nm=S.nm
 | [],pre,S,h,_,_=>by rw[List.append_nil];exact⟨h,rfl⟩
 | r::rows,pre,S,h,hs,t=>by
  obtain⟨n1,n2⟩:=h.next hs t.1
  obtain⟨m1,m2⟩:=rip_all (rows:=rows) n1 (by rw[n2];exact hs) t.2
  rw[List.append_assoc]at m1
  exact⟨m1,m2.trans n2⟩
theorem rows_of {rows:List PRow}(t:RP0.TakesAll rows) (ne:rows≠[]):∃nm,(rows.foldl RP.next RP0).nm=some nm∧rows=pcRows nm (rows.foldl RP.next RP0).sts (rows.foldl RP.next RP0).nms:=by
 cases rows with
 | nil=>exact absurd rfl ne
 | cons r rows=>
  cases r with
  | piece nm=>
   have h:RIP [] (RP0.next (.piece nm)):=⟨rfl,fun n hn=>(nomatch hn),fun n hn=>(nomatch hn),fun x hx=>(nomatch hx),fun z=>by cases z⟩
   obtain⟨n1,n2⟩:=rip_all h (by show some nm≠none;simp) t.2
   refine⟨nm,n2,?_⟩
   show PRow.piece nm::rows=PRow.piece nm::bdRows _ 0 _
   exact congrArg (PRow.piece nm::·) n1.rows
  | st kd s=>exact absurd rfl t.1.1
  | word n=>exact absurd rfl t.1.1
  | fill a b c d=>exact absurd rfl t.1.1
  | told a b=>exact absurd rfl t.1.1
theorem wdRows_le (ns:List ToldC) (i:Int) (x:StC) {j k:Nat}(h:j≤k):(wdRows ns i x j).length≤(wdRows ns i x k).length:=by
 induction k with
 | zero=>rw[show j=0 by omega];exact Nat.le_refl _
 | succ k ih=>
  by_cases z:j=k+1
  ·rw[z];exact Nat.le_refl _
  ·rw[zz21,List.length_append];have:=ih (by omega);omega
theorem PRow.smallWord {n:Int}(h:0≤n∧n≤4294967295):(PRow.word n).Small:=fun p hp=>by
 simp only[PRow.parts,List.mem_cons,List.not_mem_nil,or_false]at hp
 rcases hp with rfl | rfl
 ·decide +kernel
 ·exact num_small (by omega) (by omega)
theorem PRow.smallTold {a b:Str}(h1:isSortP a) (h2:isNm b=true):(PRow.told a b).Small:=fun p hp=>by
 simp only[PRow.parts,List.mem_cons,List.not_mem_nil,or_false]at hp
 rcases hp with rfl | rfl
 ·rcases h1 with e | e | e<;>rw[e]<;>decide +kernel
 ·exact (nm_small h2).1
theorem PRow.smallFill {soft:Bool}{r nm:Str}{n:Int}(h1:isT r) (h2:isNm nm=true) (h3 : -2147483648≤n) (h4:n≤2147483647):(PRow.fill soft r nm n).Small:=fun p hp=>by
 simp only[PRow.parts,List.mem_cons,List.not_mem_nil,or_false]at hp
 rcases hp with rfl | rfl | rfl | rfl
 ·cases soft<;>decide +kernel
 ·rcases h1 with e | e | e | e | e<;>rw[e]<;>decide +kernel
 ·exact (nm_small h2).1
 ·exact num_small (by omega) (by omega)
theorem PRow.smallSt {kd:Str}{s:Int}(h1:isKindP kd) (h2:1≤s) (h3:s≤65536):(PRow.st kd s).Small:=fun p hp=>by
 simp only[PRow.parts,List.mem_cons,List.not_mem_nil,or_false]at hp
 rcases hp with rfl | rfl
 ·rcases h1 with e | e<;>rw[e]<;>decide +kernel
 ·exact num_small (by omega) (by omega)
theorem PRow.smallPiece {nm:Str}(h:isNm nm=true):(PRow.piece nm).Small:=fun p hp=>by
 simp only[PRow.parts,List.mem_cons,List.not_mem_nil,or_false]at hp
 rcases hp with rfl | rfl
 ·decide +kernel
 ·exact (nm_small h).1
theorem nmsAt_small {ns:List ToldM}(h:∀n∈ns,ToldP n) {a b:Int}:∀r∈nmsAt (ns.map nC) a b,r.Small:=fun r hr=>by
 unfold nmsAt at hr
 obtain⟨c,hc,rfl⟩:=List.mem_map.mp hr
 obtain⟨n,hn,rfl⟩:=List.mem_map.mp (List.mem_filter.mp hc).1
 exact PRow.smallTold (h n hn).2 (h n hn).1
theorem flsAt_mem:∀(fs:List FillC) {a:Int}{r:PRow},r∈flsAt fs a→∃f∈fs,r=.fill f.2.2.2.2 f.2.1 f.2.2.1 f.2.2.2.1:=
 snoc_ind (P:=fun fs=>∀{a:Int}{r:PRow},r∈flsAt fs a→∃f∈fs,r=.fill f.2.2.2.2 f.2.1 f.2.2.1 f.2.2.2.1) (fun {a r} h=>nomatch h) fun xs x ih {a r} h=>by
  rw[flsAt_snoc]at h
  by_cases z:x.1=a
  ·rw[if_pos z]at h;exact⟨x,by simp,List.mem_singleton.mp h⟩
  ·rw[if_neg z]at h
   obtain⟨f,hf,e⟩:=ih h
   exact⟨f,by simp[hf],e⟩
theorem flsAt_len:∀(fs:List FillC) (a:Int),(flsAt fs a).length≤1:=
 snoc_ind (P:=fun fs=>∀a:Int,(flsAt fs a).length≤1) (fun a=>Nat.zero_le _) fun xs x ih a=>by
  rw[flsAt_snoc]
  by_cases z:x.1=a
  ·rw[if_pos z];exact Nat.le_refl _
  ·rw[if_neg z];exact ih a
theorem stRows_small {ns:List ToldM}{s:StM}(h:∀n∈ns,ToldP n) (sp:StP s) {i:Int}:∀r∈stRows (ns.map nC) i (sC s),r.Small:=fun r hr=>by
 rcases List.mem_cons.mp hr with e | hr
 ·rw[e];exact PRow.smallSt sp.kind sp.s1 sp.s2
 ·rcases List.mem_append.mp hr with hr | hr
  ·obtain⟨k,hk,hr⟩:=List.mem_flatMap.mp hr
   rcases List.mem_append.mp hr with hr | hr
   ·exact nmsAt_small h r hr
   ·rcases List.mem_cons.mp hr with e | hr
    ·rw[e]
     have hk:k<s.words.length:=List.mem_range.mp hk
     refine PRow.smallWord (sp.wd _ ?_)
     show s.words.getD k 0∈s.words
     rw[List.getD_eq_getElem?_getD,List.getElem?_eq_getElem hk]
     exact List.getElem_mem hk
    ·obtain⟨f,hf,e⟩:=flsAt_mem _ hr
     obtain⟨g,hg,rfl⟩:=List.mem_map.mp hf
     have fp:=sp.fl g hg
     rw[e];exact PRow.smallFill fp.rule fp.name fp.lo fp.hi
  ·exact nmsAt_small h r hr
theorem bdRows_mem {ns:List ToldC}{r:PRow}:∀{xs:List StC}{i:Int},r∈bdRows ns i xs→∃x∈xs,∃j,r∈stRows ns j x
 | [],_,h=>nomatch h
 | x::xs,i,h=>by
  rcases List.mem_append.mp h with h | h
  ·exact⟨x,.head _,i,h⟩
  ·obtain⟨y,hy,j,hj⟩:=bdRows_mem h
   exact⟨y,.tail _ hy,j,hj⟩
theorem ShP.small {H:Hp}{p:PcM}(h:ShP H p):∀r∈pcRows p.name (p.sts.map sC) (p.nms.map nC),r.Small:=fun r hr=>by
 rcases List.mem_cons.mp hr with e | hr
 ·rw[e];exact PRow.smallPiece h.nm
 ·obtain⟨x,hx,j,hj⟩:=bdRows_mem hr
  obtain⟨s,hs,rfl⟩:=List.mem_map.mp hx
  exact stRows_small h.ns (h.ss s hs) r hj
theorem NAt.mono {H H':Hp}{o:Option V}{rs:List PRow}(h:NAt H o rs) (s:Same H H'):NAt H' o rs:=by
 rcases h with h | ⟨l,e1,e2⟩
 ·exact .inl h
 ·exact .inr ⟨l,e1,s _ _ e2⟩
theorem NAt.get {H:Hp}{o:Option V}{rs:List PRow}{l0:Addr}(h:NAt H o rs) (h0:H l0=some (.lst [])):∃l,o.getD (.ref l0)=.ref l∧H l=some (.lst (rs.map fun r=>V.str (prowT r))):=by
 rcases h with ⟨rfl,rfl⟩ | ⟨l,rfl,e2⟩
 ·exact⟨l0,rfl,h0⟩
 ·exact⟨l,rfl,e2⟩
theorem bd_split {xs:List StC}{ns:List ToldC}{j:Nat}{x:StC}(h:xs[j]?=some x):∀{i:Int},∃suf,bdRows ns i xs=bdRows ns i (xs.take j)++(stRows ns (i+(j:Int)) x++suf):=by
 intro i
 obtain⟨hj,e⟩:=List.getElem?_eq_some_iff.mp h
 have e2:xs=xs.take (j+1)++xs.drop (j+1):=(List.take_append_drop _ _).symm
 have app:∀(i:Int) (a b:List StC),bdRows ns i (a++b)=bdRows ns i a++bdRows ns (i+(a.length:Int)) b:=by
  intro i a
  induction a generalizing i with
  | nil=>intro b;show bdRows ns i b=[]++bdRows ns (i+((0:Nat):Int)) b;rw[show i+((0:Nat):Int)=i by omega];rfl
  | cons y a ih=>
   intro b
   show stRows ns i y++bdRows ns (i+1) (a++b)=(stRows ns i y++bdRows ns (i+1) a)++bdRows ns (i+((a.length+1:Nat):Int)) b
   rw[ih,List.append_assoc,show i+1+(a.length:Int)=i+((a.length+1:Nat):Int) by omega]
 refine⟨bdRows ns (i+((xs.take (j+1)).length:Int)) (xs.drop (j+1)),?_⟩
 conv=>lhs;rw[e2]
 rw[app,List.take_add_one,h]
 show bdRows ns i (xs.take j++[x])++_=_
 rw[zz17,List.length_take,Nat.min_eq_left (by omega),List.append_assoc]
theorem ShP.mono {H H':Hp}{p:PcM}(h:ShP H p) (s:Same H H'):ShP H' p:={ h with at_:=PcM.At.mono h.at_ s }
theorem ixN_lastP {α:Type}{xs:List α}{x:α}:ixN (xs++[x]).length (-1)=some xs.length:=by
 unfold ixN
 rw[if_neg (by decide),if_pos (by rw[List.length_append,List.length_singleton];omega)]
 congr 1
 rw[List.length_append,List.length_singleton];omega
theorem set_lastP {α:Type}{xs:List α}{x y:α}:(xs++[x]).set xs.length y=xs++[y]:=by
 rw[List.set_append_right _ _ (Nat.le_refl _),Nat.sub_self];rfl
theorem G_qyz (T:Txt w K mg A):FnOk P w K mg base CX0 1 A.qyz A.fd_qyz ["names"] sp_nmRows:=by
 refine T.F_qyz.ok sc_qyz (fun vs H Q E h => ?_) (fun cdv Ar outer s H vs Q E hr h => ?_)
 ·obtain⟨b,ns,rfl,_⟩:=h
  rfl
 ·obtain⟨b,ns,rfl,hL,hA,hn,k⟩:=h
  refine⟨_,(zz2 (ps_set (i:=1) sc_qyz.nd rfl (by walk_at "o") pe_dnewT) (zz2 (ps_for PassesOwn.never rfl (pi_listK (K:=K) rfl (pv 0)) (pg_tupK (K:=K) (n:=4) rfl rfl (zz11 (zz9 (i:=2) sc_qyz.nd rfl (by walk_at "o")) (zz11 (zz9 (i:=3) sc_qyz.nd rfl (by walk_at "o")) (zz11 (zz9 (i:=4) sc_qyz.nd rfl (by walk_at "o")) (zz11 (zz9 (i:=5) sc_qyz.nd rfl (by walk_at "o")) pgs_nil))))) (zz5 (ps_expr (pe_bm PySem.F.plainAttrs_list PySem.F.slot_list_append PySem.F.type_list_append zz19 (pe_dsd (hu_of hr) (pv 1) (pe_tup (zz0 (pv 4) (zz0 (pv 5) pa_nil))) (pe_lst pa_nil) ⟨rfl,rfl,rfl,rfl⟩) (zz0 (pe_weak (u:=nmT) (pe_joined (zz13 (pe_fmt (pv 3)) (zz13 pe_str (zz13 (pe_fmt (pv 2)) pj_nil)))) ?nmt) pa_nil))))) (zz5 (ps_ret (pv 1))))),?main⟩
  case nmt=>
   rintro σ H Q ⟨so,z,e1,e2,l1,l2,q⟩
   walk_at "rd"
   walk_at "7"
   simp only[Str.empty_append]
   refine⟨_,e1,.inl ⟨_,rfl,sz_of (by omega),sz_of (by omega),sz_of (by rw[slen];omega),_,e2,.inl ⟨_,rfl,sz_of (by omega),sz_of (by rw[slen,slen];omega),sz_of (by rw[slen,slen];omega),?_⟩⟩⟩
   rw[←prow_told];exact q
  walk_at "rd"
  intro p hp
  refine ForL.of (xs:=ns.map ToldM.v) (fun i σ H'=>∃b2 b3 b4 b5:Option V,σ=[some (.ref b),some (.ref p),b2,b3,b4,b5]∧Same H H'∧∃kvs,H' p=some (.dT kvs)∧kvs.length≤i∧NRs H' kvs ((ns.take i).map nC)∧(∀k v,valV kvs k=some v→∃l,v=.ref l∧H l=none∧l≠p∧∃xs,H' l=some (.lst xs))∧∀k k' v,valV kvs k=some v→valV kvs k'=some v→k=k')
   ⟨_,_,_,_,rfl,zz4 hp,[],zz1,Nat.zero_le _,fun a b=>.inl ⟨rfl,rfl⟩,fun k v z=>(by cases z),fun k k' v z=>(by cases z)⟩ ?_ ?_ ?_
  ·rintro i σ H' hi ⟨b2,b3,b4,b5,rfl,sm,_⟩
   exact SqL.of (sm _ _ hL)
  ·rintro i v σ H' hv ⟨b2,b3,b4,b5,rfl,sm,kvs,hm,hl,hR,h1,h2⟩
   rw[List.getElem?_map]at hv
   obtain⟨n,hn',rfl⟩:=Option.map_eq_some_iff.mp hv
   have hmem:=List.mem_of_getElem? hn'
   have hi:=(List.getElem?_eq_some_iff.mp hn').1
   obtain⟨na,np,ns'⟩:=hA n hmem
   have na:=na.mono sm
   have lz:=(nm_small np).2
   have lso:n.sort.length≤600:=by rcases ns' with e | e | e<;>rw[e]<;>decide +kernel
   walk_at "rd"
   simp only[nmT]
   refine⟨_,SqT.of na,rfl,_,_,rfl,_,_,rfl,_,_,rfl,_,_,rfl,rfl,.inr ⟨_,.inl hm⟩,sz_of (by decide),fun t ht=>⟨Nat.zero_le _,fun l0 hl0 => ?_⟩⟩
   have m2:=(zz4 (o:=HO.tup [V.int n.st,V.int n.off]) ht).trans (zz4 (o:=HO.lst []) hl0)
   have t2:upd (upd H' t (HO.tup [V.int n.st,V.int n.off])) l0 (HO.lst []) t=some (.tup (List.map kV [.inl n.st,.inl n.off])):=zz4 hl0 _ _ zz1
   have l2:upd (upd H' t (HO.tup [V.int n.st,V.int n.off])) l0 (HO.lst []) l0=some (.lst []):=zz1
   obtain⟨nlt,fl0⟩:=free_of hl0
   generalize upd (upd H' t (HO.tup [V.int n.st,V.int n.off])) l0 (HO.lst [])=H2 at m2 t2 l2 ⊢
   have hm2:=m2 _ _ hm
   have nlp:l0≠p:=Ne.symm (zz3 hm fl0)
   have ent:(ns.take (i+1)).map nC=(ns.take i).map nC++[nC n]:=by rw[List.take_add_one,hn',List.map_append];rfl
   rw[ent]
   have rr:=hR n.st n.off
   refine⟨_,DGet.t (k:=[.inl n.st,.inl n.off]) hm2 t2,_,DPut.t hm2 t2 (by rw[sizeLine_eq];omega),fun v hv => ?_,fun hv => ?_⟩
   ·obtain⟨l,rfl,fl,nl,_⟩:=h1 _ _ hv
    rcases rr with ⟨e,_⟩ | ⟨l',e,hl'⟩
    ·rw[hv]at e;cases e
    rw[hv]at e
    cases e
    have hl2:=m2 _ _ hl'
    refine⟨.inl ⟨rfl,_,SqL.of hl2⟩,_,_,rfl,rfl,lso,by omega,l,rfl,_,hl2,by rw[List.length_map,sizeLine_eq];have:=nmsAt_len ((ns.take i).map nC) n.st n.off;rw[List.length_map,List.length_take]at this;omega,same_upd fl (sm.trans m2),kvs,by rw[upd_ne (Ne.symm nl)];exact hm2,by omega,fun a b => ?_,fun k v hk => ?_,h2⟩
    rotate_left
    ·obtain⟨l',e,f',n',xs',e'⟩:=h1 k v hk
     by_cases z:l'=l
     ·exact⟨l',e,f',n',_,by rw[z,zz1]⟩
     ·exact⟨l',e,f',n',_,by rw[upd_ne z];exact m2 _ _ e'⟩
    rw[nmsAt_snoc]
    show NAt _ _ (_++if n.st=a∧n.off=b then [PRow.told n.sort n.name] else [])
    by_cases z:n.st=a∧n.off=b
    ·obtain⟨rfl,rfl⟩:=z
     refine .inr ⟨l,hv,?_⟩
     rw[zz1,if_pos ⟨rfl,rfl⟩,List.map_append];rfl
    ·rw[if_neg z,List.append_nil]
     rcases hR a b with ⟨e1,e2⟩ | ⟨l',e1,e2⟩
     ·exact .inl ⟨e1,e2⟩
     ·refine .inr ⟨l',e1,?_⟩
      rw[upd_ne (fun q=>z ?_)];exact m2 _ _ e2
      subst q
      have:=h2 _ _ _ e1 hv
      simp only[List.cons.injEq,Sum.inl.injEq,and_true]at this
      exact⟨this.1.symm,this.2.symm⟩
   ·rcases rr with ⟨e,ern⟩ | ⟨l',e,hl'⟩
    rotate_left
    ·rw[hv]at e;cases e
    refine⟨.inl ⟨rfl,_,SqL.of (by rw[upd_ne nlp];exact l2)⟩,_,_,rfl,rfl,lso,by omega,_,by rw[upd_ne nlp];exact l2,by walk_at "s", same_upd (f_back sm fl0) (same_upd hp (sm.trans m2)),_,by rw[upd_ne (Ne.symm nlp),zz1],Nat.le_trans (length_putK _ _ _) (by omega),fun a b => ?_,fun k v hk => ?_,fun k k' v hk hk' => ?_⟩
    ·rw[nmsAt_snoc,valV_put]
     show NAt _ _ (_++if n.st=a∧n.off=b then [PRow.told n.sort n.name] else [])
     by_cases z:n.st=a∧n.off=b
     ·obtain⟨rfl,rfl⟩:=z
      rw[if_pos rfl,if_pos ⟨rfl,rfl⟩,ern]
      refine .inr ⟨l0,rfl,?_⟩
      rw[zz1];rfl
     ·rw[if_neg (fun q=>z ?_),if_neg z,List.append_nil]
      ·rcases hR a b with ⟨e1,e2⟩ | ⟨l',e1,e2⟩
       ·exact .inl ⟨e1,e2⟩
       ·refine .inr ⟨l',e1,?_⟩
        rw[upd_ne (zz3 e2 fl0),upd_ne (ne_of e2 hm (by intro z;cases z))];exact m2 _ _ e2
      ·simp only[List.cons.injEq,Sum.inl.injEq,and_true]at q
       exact⟨q.1.symm,q.2.symm⟩
    ·rw[valV_put]at hk
     by_cases z:k=[.inl n.st,.inl n.off]
     ·rw[if_pos z]at hk;cases hk;exact⟨l0,rfl,f_back sm fl0,nlp,_,zz1⟩
     ·rw[if_neg z]at hk
      obtain⟨l',e,f',n',xs',e'⟩:=h1 k v hk
      exact⟨l',e,f',n',_,by rw[upd_ne (zz3 e' fl0),upd_ne n'];exact m2 _ _ e'⟩
    ·rw[valV_put]at hk hk'
     have fr:∀{k v},valV kvs k=some v→v≠.ref l0:=fun {k v} q1 q2=>by
      obtain⟨l',e,f',n',xs',e'⟩:=h1 k v q1
      rw[q2]at e;cases e;rw[fl0]at e';cases e'
     by_cases z:k=[.inl n.st,.inl n.off]
     ·by_cases z':k'=[.inl n.st,.inl n.off]
      ·rw[z,z']
      ·rw[if_pos z]at hk;rw[if_neg z']at hk';cases hk;exact absurd rfl (fr hk')
     ·by_cases z':k'=[.inl n.st,.inl n.off]
      ·rw[if_pos z']at hk';rw[if_neg z]at hk;cases hk';exact absurd rfl (fr hk)
      ·rw[if_neg z]at hk;rw[if_neg z']at hk';exact h2 k k' v hk hk'
  ·rintro σ H' ⟨b2,b3,b4,b5,rfl,sm,kvs,hm,hl,hR,_⟩
   walk_at "rd"
   rw[List.length_map,List.take_length]at hR
   exact k p kvs H' sm hm hR
theorem G_qzj (T:Txt w K mg A):FnOk P w K mg base CX0 1 A.qzj A.fd_qzj ["fills"] sp_flRows:=by
 refine T.F_qzj.ok sc_qzj (fun vs H Q E h => ?_) (fun cdv Ar outer s H vs Q E hr h => ?_)
 ·obtain⟨b,ns,rfl,_⟩:=h
  rfl
 ·obtain⟨b,fs,rfl,hL,hA,hn,k⟩:=h
  refine⟨_,(zz2 (ps_set (i:=1) sc_qzj.nd rfl (by walk_at "o") pe_dnewK) (zz2 (ps_for PassesOwn.never rfl (pi_listK (K:=K) rfl (pv 0)) (pg_tupK (K:=K) (n:=5) rfl rfl (zz11 (zz9 (i:=2) sc_qzj.nd rfl (by walk_at "o")) (zz11 (zz9 (i:=3) sc_qzj.nd rfl (by walk_at "o")) (zz11 (zz9 (i:=4) sc_qzj.nd rfl (by walk_at "o")) (zz11 (zz9 (i:=5) sc_qzj.nd rfl (by walk_at "o")) (zz11 (zz9 (i:=6) sc_qzj.nd rfl (by walk_at "o")) pgs_nil)))))) (zz2 (ps_set (i:=7) sc_qzj.nd rfl (by walk_at "o") (pe_ifExp (pt_val (pv 6)) pe_str pe_str)) (zz5 (ps_dput (hu_of hr) (pv 1) (pv 2) (pe_lst (zz0 (pe_weak (u:=flT) (pe_joined (zz13 (pe_fmt (pv 7)) (zz13 pe_str (zz13 (pe_fmt (pv 3)) (zz13 pe_str (zz13 (pe_fmt (pv 4)) (zz13 pe_str (zz13 (pe_fmt (pv 5)) pj_nil)))))))) ?flt) pa_nil)) rfl)))) (zz5 (ps_ret (pv 1))))),?main⟩
  case flt=>
   rintro σ H Q ⟨hd,r,z,n,e1,e2,e3,e4,l1,l2,l3,few,q⟩
   walk_at "rd"
   walk_at "7"
   have l4:=few_len few
   have l5:=few_log few
   simp only[Str.empty_append]
   exact⟨_,e1,.inl ⟨_,rfl,sz_of (by omega),sz_of (by omega),sz_of (by rw[slen];omega),_,e2,.inl ⟨_,rfl,sz_of (by omega),sz_of (by rw[slen,slen];omega),sz_of (by rw[slen,slen,slen];omega),_,e3,.inl ⟨_,rfl,sz_of (by omega),sz_of (by rw[slen,slen,slen,slen];omega),sz_of (by rw[slen,slen,slen,slen,slen];omega),_,e4,.inr ⟨_,rfl,by omega,sz_of (by rw[slen,slen,slen,slen,slen,slen];omega),sz_of (by rw[slen,slen,slen,slen,slen,slen];omega),q⟩⟩⟩⟩⟩
  walk_at "rd"
  intro p hp
  refine ForL.of (xs:=fs.map FillM.v) (fun i σ H'=>∃b2 b3 b4 b5 b6 b7:Option V,σ=[some (.ref b),some (.ref p),b2,b3,b4,b5,b6,b7]∧Same H H'∧∃kvs,H' p=some (.dK kvs)∧kvs.length≤i∧FRs H' kvs ((fs.take i).map fC))
   ⟨_,_,_,_,_,_,rfl,zz4 hp,[],zz1,Nat.zero_le _,fun a=>.inl ⟨rfl,rfl⟩⟩ ?_ ?_ ?_
  ·rintro i σ H' hi ⟨b2,b3,b4,b5,b6,b7,rfl,sm,_⟩
   exact SqL.of (sm _ _ hL)
  ·rintro i v σ H' hv ⟨b2,b3,b4,b5,b6,b7,rfl,sm,kvs,hm,hl,hR⟩
   rw[List.getElem?_map]at hv
   obtain⟨f,hf',rfl⟩:=Option.map_eq_some_iff.mp hv
   have hmem:=List.mem_of_getElem? hf'
   have hi:=(List.getElem?_eq_some_iff.mp hf').1
   obtain⟨fa,fp⟩:=hA f hmem
   have fa:=fa.mono sm
   have lz:=(nm_small fp.name).2
   have lr:f.rule.length≤300:=by rcases fp.rule with e | e | e | e | e<;>rw[e]<;>decide +kernel
   walk_at "rd"
   simp only[flT]
   have few:Few f.add:=⟨by have:=fp.lo;omega,by have:=fp.hi;omega⟩
   have fin:∀hd:Str,hd=(if f.soft=true then Str.ofString "soft" else Str.ofString "fill")→∀l0:Addr,H' l0=none→∃x,DPut (upd H' l0 (HO.lst [V.str (hd++Str.ofString " " ++ f.rule++Str.ofString " " ++ f.name++Str.ofString " " ++ nS f.add)])) p (V.int f.at_) (V.ref l0) x∧Same H x∧∃kvs,x p=some (HO.dK kvs)∧kvs.length≤i+1∧FRs x kvs (List.map fC (List.take (i+1) fs)):=fun hd ehd l0 hl0=>by
    have et:hd++Str.ofString " " ++ f.rule++Str.ofString " " ++ f.name++Str.ofString " " ++ nS f.add=prowT (.fill f.soft f.rule f.name f.add):=by
     unfold prowT
     rw[txt_join,ehd]
     show _=(if f.soft=true then Str.ofString "soft" else Str.ofString "fill")++Str.ofString " " ++ (f.rule++Str.ofString " " ++ (f.name++Str.ofString " " ++ nS f.add))
     simp only[Str.append_assoc]
    rw[et]
    have m1:=zz4 (o:=HO.lst [V.str (prowT (.fill f.soft f.rule f.name f.add))]) hl0
    have a1:upd H' l0 (HO.lst [V.str (prowT (.fill f.soft f.rule f.name f.add))]) l0=some _:=zz1
    have nlp:l0≠p:=Ne.symm (zz3 hm hl0)
    generalize upd H' l0 (HO.lst [V.str (prowT (.fill f.soft f.rule f.name f.add))])=H2 at m1 a1 ⊢
    have hm2:=m1 _ _ hm
    have ent:(fs.take (i+1)).map fC=(fs.take i).map fC++[fC f]:=by rw[List.take_add_one,hf',List.map_append];rfl
    refine⟨_,DPut.k (k:=.inl f.at_) hm2 (by rw[sizeLine_eq];omega),same_upd hp (sm.trans m1),_,zz1,Nat.le_trans (length_putK _ _ _) (by omega),fun a => ?_⟩
    rw[ent,flsAt_snoc,valV_put]
    by_cases z:f.at_=a
    ·subst z
     rw[if_pos rfl,if_pos (show (fC f).1=f.at_ from rfl)]
     exact .inr ⟨l0,rfl,by rw[upd_ne nlp];exact a1⟩
    ·rw[if_neg (fun q=>z (Sum.inl.inj q).symm),if_neg (show ¬(fC f).1=a from z)]
     rcases hR a with ⟨e1,e2⟩ | ⟨l',e1,e2⟩
     ·exact .inl ⟨e1,e2⟩
     ·exact .inr ⟨l',e1,by rw[upd_ne (ne_of (m1 _ _ e2) hm2 (by intro z;cases z))];exact m1 _ _ e2⟩
   refine⟨_,SqT.of fa,rfl,_,_,rfl,_,_,rfl,_,_,rfl,_,_,rfl,_,_,rfl,rfl,_,rfl,?_⟩
   cases hso:f.soft with
   | true=>
    rw[if_pos rfl]
    exact⟨_,_,_,_,rfl,rfl,rfl,rfl,by decide +kernel,lr,by omega,few,sz_of (by decide),fin _ (by rw[hso];rfl)⟩
   | false=>
    rw[if_neg (by simp)]
    exact⟨_,_,_,_,rfl,rfl,rfl,rfl,by decide +kernel,lr,by omega,few,sz_of (by decide),fin _ (by rw[hso];rfl)⟩
  ·rintro σ H' ⟨b2,b3,b4,b5,b6,b7,rfl,sm,kvs,hm,hl,hR⟩
   walk_at "rd"
   rw[List.length_map,List.take_length]at hR
   exact k p kvs H' sm hm hR
theorem G_qwk (T:Txt w K mg A):FnOk P w K mg base CX0 2 A.qwk A.fd_qwk ["number", "stretch", "names"] sp_stRows:=by
 refine T.F_qwk.ok sc_qwk (fun vs H Q E h => ?_) (fun cdv Ar outer s H vs Q E hr h => ?_)
 ·obtain⟨i,s,d,kvs,ns,rfl,_⟩:=h
  rfl
 ·obtain⟨i,s,d,kvs,ns,rfl,hs,sp,hd,hR,n1,n2,n3,k⟩:=h
  refine⟨_,(zz2 (ps_set (i:=3) sc_qwk.nd rfl (by walk_at "o") (pe_ix (zz10 (K:=K) rfl) (pv 1) pe_int (fun _ _=>rfl))) (zz2 (ps_set (i:=4) sc_qwk.nd rfl (by walk_at "o") (pe_ix (zz10 (K:=K) rfl) (pv 1) pe_int (fun _ _=>rfl))) (zz2 (ps_set (i:=5) sc_qwk.nd rfl (by walk_at "o") (pe_ix (zz10 (K:=K) rfl) (pv 1) pe_int (fun _ _=>rfl))) (zz2 (ps_set (i:=6) sc_qwk.nd rfl (by walk_at "o") (zz8 (G_qzj T) (hr.mono (by decide)) rfl T.m_qzj T.k_qzj T.b_qzj .nil pass0 (zz0 (pe_ix (zz10 (K:=K) rfl) (pv 1) pe_int (fun _ _=>rfl)) pa_nil))) (zz2 (ps_set (i:=7) sc_qwk.nd rfl (by walk_at "o") (pe_lst (zz0 (pe_weak (u:=stT) (pe_joined (zz13 (pe_fmt (pv 3)) (zz13 pe_str (zz13 (pe_fmt (pv 4)) pj_nil)))) ?stt) pa_nil))) (zz2 (ps_for PassesOwn.never rfl (pi_enum (K:=K) rfl rfl T.n_enumerate (zz0 (pv 5) pa_nil)) (pg_tupK (K:=K) (n:=2) rfl rfl (zz11 (zz9 (i:=8) sc_qwk.nd rfl (by walk_at "o")) (zz11 (zz9 (i:=9) sc_qwk.nd rfl (by walk_at "o")) pgs_nil))) (zz2 (ps_expr (pe_bm PySem.F.plainAttrs_list PySem.F.slot_list_extend PySem.F.type_list_extend mt_extend (pv 7) (zz0 (pe_dget2 (hu_of hr) (pv 2) (pe_tup (zz0 (pv 0) (zz0 (pv 8) pa_nil))) (pe_lst pa_nil) ⟨rfl,rfl,rfl,rfl⟩) pa_nil))) (zz2 (ps_expr (pe_bm PySem.F.plainAttrs_list PySem.F.slot_list_append PySem.F.type_list_append zz19 (pv 7) (zz0 (pe_weak (u:=wdT) (pe_joined (zz13 pe_str (zz13 (pe_fmt (pv 9)) pj_nil))) ?wdt) pa_nil))) (zz5 (ps_expr (pe_bm PySem.F.plainAttrs_list PySem.F.slot_list_extend PySem.F.type_list_extend mt_extend (pv 7) (zz0 (pe_dget2 (hu_of hr) (pv 6) (pv 8) (pe_lst pa_nil) ⟨rfl,rfl,rfl,rfl⟩) pa_nil))))))) (zz2 (ps_expr (pe_bm PySem.F.plainAttrs_list PySem.F.slot_list_extend PySem.F.type_list_extend mt_extend (pv 7) (zz0 (pe_dget2 (hu_of hr) (pv 2) (pe_tup (zz0 (pv 0) (zz0 (zz16 (zz18 (K:=K) rfl) (by rfl) T.n_len bt_len (zz0 (pv 5) pa_nil)) pa_nil))) (pe_lst pa_nil) ⟨rfl,rfl,rfl,rfl⟩) pa_nil))) (zz5 (ps_ret (pv 7)))))))))),?main⟩
  case stt=>
   rintro σ H Q ⟨kd,n,e1,e2,l1,few,q⟩
   walk_at "rd"
   walk_at "7"
   have l4:=few_len few
   have l5:=few_log few
   simp only[Str.empty_append]
   refine⟨_,e1,.inl ⟨_,rfl,sz_of (by omega),sz_of (by omega),sz_of (by rw[slen];omega),_,e2,.inr ⟨_,rfl,by omega,sz_of (by rw[slen,slen];omega),sz_of (by rw[slen,slen];omega),?_⟩⟩⟩
   have:=prow_st kd n
   unfold nS at this
   rw[←this];exact q
  case wdt=>
   rintro σ H Q ⟨n,e1,few,q⟩
   walk_at "rd"
   have w1:(Str.ofString "word ").length=5:=by decide +kernel
   have l4:=few_len few
   have l5:=few_log few
   simp only[Str.empty_append]
   refine⟨sz_of (by omega),_,e1,.inr ⟨_,rfl,by omega,sz_of (by rw[slen];omega),sz_of (by rw[slen];omega),?_⟩⟩
   have:=prow_word n
   unfold nS at this
   rw[←this];exact q
  walk_at "rd"
  simp only[stT]
  have lk:s.kind.length≤300:=by rcases sp.kind with e | e<;>rw[e]<;>decide +kernel
  have few:Few s.step:=⟨by have:=sp.s1;omega,by have:=sp.s2;omega⟩
  have len:(stRows ns i (sC s)).length=1+(wdRows ns i (sC s) s.words.length).length+(nmsAt ns i (s.words.length:Int)).length:=by
   show ((wdRows ns i (sC s) s.words.length++nmsAt ns i (s.words.length:Int)).length+1)=_
   rw[List.length_append];omega
  refine⟨_,SqT.of hs.top,_,rfl,_,SqT.of hs.top,_,rfl,_,SqT.of hs.top,_,rfl,_,SqT.of hs.top,_,rfl,_,rfl,s.fills,hs.fl,fun f hf=>⟨hs.fs f hf,sp.fl f hf⟩,n1,fun fd fkv H1 s1 hfd hF=>⟨_,_,rfl,rfl,lk,few,sz_of (by decide),fun q hq => ?_⟩⟩
  have m1:=zz4 (o:=HO.lst [V.str (prowT (.st s.kind s.step))]) hq
  refine ForE.of (xs:=s.words.map V.int) (fun j σ H'=>∃b8 b9:Option V,σ=[some (.int i),some s.v,some (.ref d),some (.str s.kind),some (.int s.step),some (.ref s.lw),some (.ref fd),some (.ref q),b8,b9]∧Same H1 H'∧H' q=some (.lst ((PRow.st s.kind s.step::wdRows ns i (sC s) j).map fun r=>V.str (prowT r))))
   ⟨_,_,rfl,m1,zz1⟩ ?_ ?_ ?_
  ·rintro j σ H' hj ⟨b8,b9,rfl,sm,_⟩
   exact SqL.of (sm _ _ (s1 _ _ hs.wd))
  ·rintro j v σ H' t hv ⟨b8,b9,rfl,sm,hq'⟩ ht
   have hj:=(List.getElem?_eq_some_iff.mp hv).1
   rw[List.length_map]at hj
   rw[List.getElem?_map]at hv
   obtain⟨u,hu,rfl⟩:=Option.map_eq_some_iff.mp hv
   have hu':(sC s).2.2.1.getD j 0=u:=by rw[List.getD_eq_getElem?_getD];show (s.words[j]?).getD 0=u;rw[hu];rfl
   have su:=sp.wd u (List.mem_of_getElem? hu)
   have fewu:Few u:=⟨by omega,by omega⟩
   have e3:=zz21 ns i (sC s) j
   rw[hu']at e3
   have le1:=wdRows_le ns i (sC s) (j:=j+1) (k:=s.words.length) (by omega)
   rw[e3,List.length_append,List.length_append,List.length_cons]at le1
   walk_at "rd"
   simp only[wdT]
   have m2:=zz4 (o:=HO.tup [V.int (j:Int),V.int u]) ht
   have a2:upd H' t (HO.tup [V.int (j:Int),V.int u]) t=some _:=zz1
   generalize upd H' t (HO.tup [V.int (j:Int),V.int u])=H2 at m2 a2 ⊢
   have hq2:=m2 _ _ hq'
   have S2:=sm.trans m2
   have hd2:=S2 _ _ (s1 _ _ hd)
   refine⟨_,SqT.of a2,rfl,_,_,rfl,_,_,rfl,rfl,.inl ⟨rfl,_,SqL.of hq2⟩,.inr ⟨_,.inl hd2⟩,sz_of (by decide),fun kt hkt=>⟨Nat.zero_le _,fun l0 hl0 => ?_⟩⟩
   have m3:=(zz4 (o:=HO.tup [V.int i,V.int (j:Int)]) hkt).trans (zz4 (o:=HO.lst []) hl0)
   have a3:upd (upd H2 kt (HO.tup [V.int i,V.int (j:Int)])) l0 (HO.lst []) kt=some (.tup (List.map kV [.inl i,.inl (j:Int)])):=zz4 hl0 _ _ zz1
   have b3:upd (upd H2 kt (HO.tup [V.int i,V.int (j:Int)])) l0 (HO.lst []) l0=some (.lst []):=zz1
   generalize upd (upd H2 kt (HO.tup [V.int i,V.int (j:Int)])) l0 (HO.lst [])=H3 at m3 a3 b3 ⊢
   have S3:=S2.trans m3
   have hq3:=m3 _ _ hq2
   obtain⟨l1,el1,hl1⟩:=((hR i (j:Int)).mono (s1.trans S3)).get b3
   have L1:((PRow.st s.kind s.step::wdRows ns i (sC s) j).map fun r=>V.str (prowT r)).length+((nmsAt ns i (j:Int)).map fun r=>V.str (prowT r)).length≤300:=by rw[List.length_map,List.length_map,List.length_cons];omega
   refine⟨_,DGet.t (k:=[.inl i,.inl (j:Int)]) (m3 _ _ hd2) a3,l1,el1,_,hq3,_,hl1,by rw[sizeLine_eq];omega,.inl ⟨rfl,_,SqL.of zz1⟩,u,rfl,fewu,_,zz1,by rw[List.length_append,sizeLine_eq];omega,?_⟩
   rw[upd_upd]
   have eL:((PRow.st s.kind s.step::wdRows ns i (sC s) j).map fun r=>V.str (prowT r))++((nmsAt ns i (j:Int)).map fun r=>V.str (prowT r))++[V.str (prowT (.word u))]=((PRow.st s.kind s.step::wdRows ns i (sC s) j)++nmsAt ns i (j:Int)++[PRow.word u]).map fun r=>V.str (prowT r):=by simp
   rw[eL]
   have L2:((PRow.st s.kind s.step::wdRows ns i (sC s) j)++nmsAt ns i (j:Int)++[PRow.word u]).length≤301:=by rw[List.length_append,List.length_append,List.length_cons,List.length_singleton];omega
   have hq4:upd H3 q (HO.lst (((PRow.st s.kind s.step::wdRows ns i (sC s) j)++nmsAt ns i (j:Int)++[PRow.word u]).map fun r=>V.str (prowT r))) q=some _:=zz1
   have S4:Same H1 (upd H3 q (HO.lst (((PRow.st s.kind s.step::wdRows ns i (sC s) j)++nmsAt ns i (j:Int)++[PRow.word u]).map fun r=>V.str (prowT r)))):=same_upd hq S3
   generalize upd H3 q (HO.lst (((PRow.st s.kind s.step::wdRows ns i (sC s) j)++nmsAt ns i (j:Int)++[PRow.word u]).map fun r=>V.str (prowT r)))=H4 at hq4 S4 ⊢
   refine⟨.inl ⟨rfl,_,SqL.of hq4⟩,.inl ⟨_,.inl (S4 _ _ hfd)⟩,Nat.zero_le _,fun l2 hl2 => ?_⟩
   have m5:=zz4 (o:=HO.lst []) hl2
   have b5:upd H4 l2 (HO.lst []) l2=some (.lst []):=zz1
   generalize upd H4 l2 (HO.lst [])=H5 at m5 b5 ⊢
   obtain⟨l3,el3,hl3⟩:=((hF (j:Int)).mono (S4.trans m5)).get b5
   have fl1:=flsAt_len (s.fills.map fC) (j:Int)
   refine⟨_,DGet.k (k:=.inl (j:Int)) (m5 _ _ (S4 _ _ hfd)),l3,el3,_,m5 _ _ hq4,_,hl3,by rw[List.length_map,List.length_map,sizeLine_eq];omega,same_upd hq (S4.trans m5),?_⟩
   rw[zz1,e3]
   congr 2
   show _=((PRow.st s.kind s.step::(wdRows ns i (sC s) j++(nmsAt ns i (j:Int)++PRow.word u::flsAt (s.fills.map fC) (j:Int)))).map fun r=>V.str (prowT r))
   simp
  ·rintro σ H' ⟨b8,b9,rfl,sm,hq'⟩
   walk_at "rd"
   rw[List.length_map]at hq'
   have hd2:=sm _ _ (s1 _ _ hd)
   refine⟨.inl ⟨rfl,_,SqL.of hq'⟩,.inr ⟨_,.inl hd2⟩,_,.inl ⟨_,SqL.of (sm _ _ (s1 _ _ hs.wd)),rfl⟩,sz_of (by decide),fun kt hkt=>⟨Nat.zero_le _,fun l0 hl0 => ?_⟩⟩
   rw[List.length_map]at hl0 ⊢
   have m3:=(zz4 (o:=HO.tup [V.int i,V.int (s.words.length:Int)]) hkt).trans (zz4 (o:=HO.lst []) hl0)
   have a3:upd (upd H' kt (HO.tup [V.int i,V.int (s.words.length:Int)])) l0 (HO.lst []) kt=some (.tup (List.map kV [.inl i,.inl (s.words.length:Int)])):=zz4 hl0 _ _ zz1
   have b3:upd (upd H' kt (HO.tup [V.int i,V.int (s.words.length:Int)])) l0 (HO.lst []) l0=some (.lst []):=zz1
   generalize upd (upd H' kt (HO.tup [V.int i,V.int (s.words.length:Int)])) l0 (HO.lst [])=H3 at m3 a3 b3 ⊢
   obtain⟨l1,el1,hl1⟩:=((hR i (s.words.length:Int)).mono (s1.trans (sm.trans m3))).get b3
   refine⟨_,DGet.t (k:=[.inl i,.inl (s.words.length:Int)]) (m3 _ _ hd2) a3,l1,el1,_,m3 _ _ hq',_,hl1,by rw[List.length_map,List.length_map,List.length_cons,sizeLine_eq];omega,k q _ (s1.trans (same_upd hq (sm.trans m3))) (f_back s1 hq) ?_⟩
   rw[zz1]
   congr 2
   show _=((PRow.st s.kind s.step::(wdRows ns i (sC s) s.words.length++nmsAt ns i (s.words.length:Int))).map fun r=>V.str (prowT r))
   simp
theorem G_qzz (T:Txt w K mg A):FnOk P w K mg base CX0 3 A.qzz A.fd_qzz ["piece"] sp_shownP:=by
 refine T.F_qzz.ok sc_qzz (fun vs H Q E h => ?_) (fun cdv Ar outer s H vs Q E hr h => ?_)
 ·obtain⟨p,rfl,_⟩:=h
  rfl
 ·obtain⟨p,rfl,hp,k⟩:=h
  refine⟨_,(zz2 (ps_set (i:=1) sc_qzz.nd rfl (by walk_at "o") (pe_ix (zz10 (K:=K) rfl) (pv 0) pe_int (fun _ _=>rfl))) (zz2 (ps_set (i:=2) sc_qzz.nd rfl (by walk_at "o") (zz8 (G_qyz T) (hr.mono (by decide)) rfl T.m_qyz T.k_qyz T.b_qyz .nil pass0 (zz0 (pe_ix (zz10 (K:=K) rfl) (pv 0) pe_int (fun _ _=>rfl)) pa_nil))) (zz2 (ps_set (i:=3) sc_qzz.nd rfl (by walk_at "o") (pe_lst (zz0 (pe_weak (u:=pcT) (pe_joined (zz13 pe_str (zz13 (pe_fmt (pv 1)) pj_nil))) ?pct) pa_nil))) (zz2 (ps_for PassesOwn.never rfl (pi_enum (K:=K) rfl rfl T.n_enumerate (zz0 (pe_ix (zz10 (K:=K) rfl) (pv 0) pe_int (fun _ _=>rfl)) pa_nil)) (pg_tupK (K:=K) (n:=2) rfl rfl (zz11 (zz9 (i:=4) sc_qzz.nd rfl (by walk_at "o")) (zz11 (zz9 (i:=5) sc_qzz.nd rfl (by walk_at "o")) pgs_nil))) (zz5 (ps_expr (pe_bm PySem.F.plainAttrs_list PySem.F.slot_list_extend PySem.F.type_list_extend mt_extend (pv 3) (zz0 (zz8 (G_qwk T) (hr.mono (by decide)) rfl T.m_qwk T.k_qwk T.b_qwk .nil pass0 (zz0 (pv 4) (zz0 (pv 5) (zz0 (pv 2) pa_nil)))) pa_nil))))) (zz5 (ps_ret (pe_bm PySem.F.plainAttrs_str PySem.F.slot_str_join PySem.F.type_str_join (mt_joinK (K:=K) rfl) pe_str (zz0 (pv 3) pa_nil)))))))),?main⟩
  case pct=>
   rintro σ H Q ⟨z,e1,l1,q⟩
   walk_at "rd"
   have w1:(Str.ofString "piece ").length=6:=by decide +kernel
   simp only[Str.empty_append]
   refine⟨sz_of (by omega),_,e1,.inl ⟨_,rfl,sz_of (by omega),sz_of (by rw[slen];omega),sz_of (by rw[slen];omega),?_⟩⟩
   rw[←prow_piece];exact q
  walk_at "rd"
  simp only[pcT]
  obtain⟨n1,n2,n3⟩:=hp.n1
  have len:(bdRows (p.nms.map nC) 0 (p.sts.map sC)).length+1≤300:=hp.len
  have lz:=(nm_small hp.nm).2
  refine⟨_,SqT.of hp.at_.top,_,rfl,_,SqT.of hp.at_.top,_,rfl,_,rfl,p.nms,hp.at_.nl,fun n hn=>⟨hp.at_.ns n hn,hp.ns n hn⟩,n2,fun d kvs H1 s1 hd hR=>⟨_,rfl,by omega,sz_of (by decide),fun q hq => ?_⟩⟩
  have m1:=zz4 (o:=HO.lst [V.str (prowT (.piece p.name))]) hq
  refine⟨_,SqT.of (m1 _ _ (s1 _ _ hp.at_.top)),_,rfl,?_⟩
  refine ForE.of (xs:=p.sts.map StM.v) (fun j σ H'=>∃b4 b5:Option V,σ=[some p.v,some (.str p.name),some (.ref d),some (.ref q),b4,b5]∧Same H1 H'∧H' q=some (.lst ((PRow.piece p.name::bdRows (p.nms.map nC) 0 ((p.sts.take j).map sC)).map fun r=>V.str (prowT r))))
   ⟨_,_,rfl,m1,zz1⟩ ?_ ?_ ?_
  ·rintro j σ H' hj ⟨b4,b5,rfl,sm,_⟩
   exact SqL.of (sm _ _ (s1 _ _ hp.at_.sl))
  ·rintro j v σ H' t hv ⟨b4,b5,rfl,sm,hq'⟩ ht
   have hj:=(List.getElem?_eq_some_iff.mp hv).1
   rw[List.length_map]at hj
   rw[List.getElem?_map]at hv
   obtain⟨s,hs',rfl⟩:=Option.map_eq_some_iff.mp hv
   have hmem:=List.mem_of_getElem? hs'
   have hsc:(p.sts.map sC)[j]?=some (sC s):=by rw[List.getElem?_map,hs'];rfl
   obtain⟨suf,esp⟩:=bd_split (ns:=p.nms.map nC) hsc (i:=0)
   rw[esp,←List.map_take,List.length_append,List.length_append]at len
   have etk:bdRows (p.nms.map nC) 0 ((p.sts.take (j+1)).map sC)=bdRows (p.nms.map nC) 0 ((p.sts.take j).map sC)++stRows (p.nms.map nC) (j:Int) (sC s):=by
    rw[List.take_add_one,hs',List.map_append]
    show bdRows _ 0 (_++[sC s])=_
    rw[zz17,List.length_map,List.length_take,Nat.min_eq_left (by omega),Int.zero_add]
   rw[Int.zero_add]at len
   walk_at "rd"
   have m2:=zz4 (o:=HO.tup [V.int (j:Int),s.v]) ht
   have a2:upd H' t (HO.tup [V.int (j:Int),s.v]) t=some _:=zz1
   generalize upd H' t (HO.tup [V.int (j:Int),s.v])=H2 at m2 a2 ⊢
   have hq2:=m2 _ _ hq'
   have S2:=sm.trans m2
   obtain⟨c1,c2⟩:=n3 s hmem
   refine⟨_,SqT.of a2,rfl,_,_,rfl,_,_,rfl,rfl,.inl ⟨rfl,_,SqL.of hq2⟩,_,rfl,s,rfl,(hp.at_.ss s hmem).mono (s1.trans S2),hp.ss s hmem,kvs,S2 _ _ hd,p.nms.map nC,fun a b=>(hR a b).mono S2,c2,c1,by omega,fun l H3 s3 _ hl=>⟨_,s3 _ _ hq2,_,hl,by rw[List.length_map,List.length_map,List.length_cons,sizeLine_eq];omega,same_upd hq (S2.trans s3),?_⟩⟩
   rw[zz1,etk]
   simp
  ·rintro σ H' ⟨b4,b5,rfl,sm,hq'⟩
   walk_at "rd"
   rw[List.length_map,List.take_length]at hq'
   have b:∀t∈(pcRows p.name (p.sts.map sC) (p.nms.map nC)).map prowT,t.length≤1000:=fun t ht=>by
    obtain⟨r,hr,rfl⟩:=List.mem_map.mp ht
    exact (PRow.good (hp.small r hr)).1
   have lb2:(Str.ofString "\n").length=1:=by decide +kernel
   have hlen:=hp.len
   refine⟨rfl,(pcRows p.name (p.sts.map sC) (p.nms.map nC)).map prowT,by rw[List.map_map];exact SqL.of hq',joinOk_of b (by rw[lb2,List.length_map];omega),k _ (s1.trans sm)⟩
theorem BuiltP.fnd {Hb H1 H0 H:Hp}{pr t:Addr}{q p2:PcM}{rows:List PRow}{R:Pd}(B:BuiltP Hb H1 pr q rows) (O:Pd.Ok A H0 H R p2 (runP rows rows.length) rows.length) (ht:H t=some (.tup [R.nm,.ref R.ls,.ref R.ln])):
  FndP H0 H { p2 with t:=t,name:=q.name } q:=by
 obtain⟨bw,er⟩:=B.run
 have O1:=O.nm
 have O2:=O.sts
 have O3:=O.nms
 rw[er]at O1 O2 O3
 obtain⟨n1,n2,n3⟩:=O.n1
 have len:=B.len
 refine⟨⟨?_,O.pr.sl,O.pr.nl,O.pr.ss,O.pr.ns⟩,d_piece_of rfl O2 O3,O.pr.nd,O.fl,by show p2.sts.length≤400;omega,by show p2.nms.length≤400;omega,fun s hs=>by have:=n3 s hs;omega,?_⟩
 ·show H t=some (.tup [.str q.name,.ref p2.ls,.ref p2.ln])
  rw[ht,O1,O.ql.1,O.ql.2]
 ·have:=congrArg List.length O2
  rwa [List.length_map,List.length_map]at this
theorem BuiltP.text {Hb H1:Hp}{pr:Addr}{q:PcM}{rows:List PRow}(B:BuiltP Hb H1 pr q rows):JoinOk (Str.ofString "\n") (rows.map prowT)=true:=by
 have l:=B.len
 have lb:(Str.ofString "\n").length=1:=by decide +kernel
 have b:∀t∈rows.map prowT,t.length≤1000:=fun t ht=>by
  obtain⟨r,hr,rfl⟩:=List.mem_map.mp ht
  exact (PRow.good (takesAll_small B.tk r hr)).1
 refine joinOk_of b ?_
 rw[lb,List.length_map];omega
theorem modL_mem {α:Type}{f:α→α}{xs:List α}{y:α}(h:y∈modL f xs):y∈xs∨∃x∈xs,y=f x:=by
 by_cases z:xs=[]
 ·rw[z]at h;exact nomatch h
 ·obtain⟨ys,x,rfl⟩:∃ys x,xs=ys++[x]:=⟨xs.dropLast,xs.getLast z,(List.dropLast_concat_getLast z).symm⟩
  rw[modL_snoc]at h
  rcases List.mem_append.mp h with h | h
  ·exact .inl (List.mem_append_left _ h)
  ·exact .inr ⟨x,by simp,List.mem_singleton.mp h⟩
theorem RPSm.next {S:RP}{r:PRow}(h:RPSm S) (t:S.Takes r):RPSm (S.next r):=by
 cases r with
 | piece n=>exact⟨fun z e=>(by cases e;exact t.2),h.st,h.ns⟩
 | st kd s=>
  refine⟨h.nm,fun x hx => ?_,h.ns⟩
  rcases List.mem_append.mp hx with q | q
  ·exact h.st x q
  ·rw[List.mem_singleton.mp q]
   exact⟨t.2.1,stepF_lo t.2.2,fun u hu=>(nomatch hu),fun f hf=>(nomatch hf)⟩
 | word n=>
  refine⟨h.nm,fun x hx => ?_,h.ns⟩
  rcases modL_mem hx with q | ⟨y,hy,e⟩
  ·exact h.st x q
  ·obtain⟨c1,c2,c3,c4⟩:=h.st y hy
   rw[e]
   refine⟨c1,c2,fun u hu => ?_,c4⟩
   rcases List.mem_append.mp hu with z | z
   ·exact c3 u z
   ·rw[List.mem_singleton.mp z];exact t.2.2
 | fill soft r n v=>
  obtain⟨_,_,_,t1,t2,t3,t4,t5⟩:=t
  refine⟨h.nm,fun x hx => ?_,h.ns⟩
  rcases modL_mem hx with q | ⟨y,hy,e⟩
  ·exact h.st x q
  ·obtain⟨c1,c2,c3,c4⟩:=h.st y hy
   rw[e]
   refine⟨c1,c2,c3,fun f hf => ?_⟩
   rcases List.mem_append.mp hf with z | z
   ·exact c4 f z
   ·rw[List.mem_singleton.mp z];exact⟨t1,t2,t4,t5,t3⟩
 | told so z=>
  obtain⟨_,_,t1,t2,_⟩:=t
  refine⟨h.nm,h.st,fun n hn => ?_⟩
  rcases List.mem_append.mp hn with q | q
  ·exact h.ns n q
  ·rw[List.mem_singleton.mp q];exact⟨t2,t1⟩
theorem rpsm_all:∀{rows:List PRow}{S:RP},RPSm S→S.TakesAll rows→RPSm (rows.foldl RP.next S)
 | [],_,h,_=>h
 | r::rows,S,h,t=>rpsm_all (rows:=rows) (h.next t.1) t.2
theorem rpsm0:RPSm RP0:=⟨fun z e=>(by cases e),fun x hx=>(nomatch hx),fun x hx=>(nomatch hx)⟩
theorem BuiltP.shp {Hb H1 H:Hp}{pr:Addr}{q p:PcM}{rows:List PRow}(B:BuiltP Hb H1 pr q rows) (at_:p.At H) (e1:p.name=q.name) (e2:p.sts.map sC=q.sts.map sC) (e3:p.nms.map nC=q.nms.map nC) (n1:p.sts.length≤400∧p.nms.length≤400∧∀s∈p.sts,s.words.length≤400∧s.fills.length≤400):
  ShP H p∧pcRows p.name (p.sts.map sC) (p.nms.map nC)=rows:=by
 obtain⟨bw,er⟩:=B.run
 have ef:rows.foldl RP.next RP0=⟨some q.name,q.sts.map sC,q.nms.map nC,bw⟩:=by
  unfold runP at er;rwa [List.take_length]at er
 obtain⟨nm,h1,h2⟩:=rows_of B.tk B.ne
 have sm:=rpsm_all rpsm0 B.tk
 rw[ef]at h1 h2 sm
 cases h1
 have e:pcRows p.name (p.sts.map sC) (p.nms.map nC)=rows:=by rw[e1,e2,e3];exact h2.symm
 have len:=B.len
 refine⟨⟨at_,by rw[e1];exact sm.nm _ rfl,fun s hs => ?_,fun n hn => ?_,by rw[e];omega,n1⟩,e⟩
 ·have hm:sC s∈q.sts.map sC:=by rw[←e2];exact List.mem_map.mpr ⟨s,hs,rfl⟩
  obtain⟨c1,c2,c3,c4⟩:=sm.st _ hm
  refine⟨c1,c2.1,c2.2,c3,fun f hf => ?_⟩
  obtain⟨d1,d2,d3,d4,d5⟩:=c4 (fC f) (List.mem_map.mpr ⟨f,hf,rfl⟩)
  exact⟨d1,d2,d3,d4,d5⟩
 ·have hm:nC n∈q.nms.map nC:=by rw[←e3];exact List.mem_map.mpr ⟨n,hn,rfl⟩
  exact sm.ns _ hm
theorem pc_ne {H:Hp}{p q:PcM}{R:Bool→Hp→Prop}(h1:p.At H) (h2:q.At H) (e:p.d=q.d) (k:R false H):rNeD K p.v q.v H fun x H'=>∃k,x=V.bl k∧R k H':=by
 have dp:=dep_pc p
 refine⟨_,_,.inr ⟨h1.rep,h2.rep⟩,?_,false,?_,k⟩
 ·unfold PcM.d at dp;simp only[dep]at dp;omega
 ·have:=e;unfold PcM.d at this;injection this with this;rw[this,deqL_refl];rfl
theorem G_qyw (T:Txt w K mg A):FnOk P w K mg base CX0 1 A.qyw A.fd_qyw ["_law_piece"] sp_copyP:=by
 refine T.F_qyw.ok sc_qyw (fun vs H Q E h => ?_) (fun cdv Ar outer s H vs Q E hr h => ?_)
 ·obtain⟨p,rfl,_⟩:=h
  rfl
 ·obtain⟨p,rfl,hp,b1,b2,b3,k⟩:=h
  refine⟨_,(zz2 (ps_setC (i:=1) sc_qyw.nd rfl (by walk_at "o") (blk_mk (own:=["_law_row"]) (fr:=[]) (fm:=[]) rfl (by decide +kernel) (by decide +kernel) (by decide +kernel) .nil) rfl (pi_listK (K:=K) rfl (pe_ix (zz10 (K:=K) rfl) (pv 0) pe_int (fun _ _=>rfl))) (fun _ _ _=>⟨(zz9 (i:=0) (by show List.Nodup (["_law_row"]:List Str);decide +kernel) rfl (by walk_at "o")),pts_nil,(pe_tup (zz0 (pe_ix (zz10 (K:=K) rfl) (pv 0) pe_int (fun _ _=>rfl)) (zz0 (pe_ix (zz10 (K:=K) rfl) (pv 0) pe_int (fun _ _=>rfl)) (zz0 (pe_callTy (call_list_ofK (K:=K) rfl) (by rfl) T.n_list bt_list (zz0 (pe_ix (zz10 (K:=K) rfl) (pv 0) pe_int (fun _ _=>rfl)) pa_nil)) (zz0 (pe_callTy (call_list_ofK (K:=K) rfl) (by rfl) T.n_list bt_list (zz0 (pe_ix (zz10 (K:=K) rfl) (pv 0) pe_int (fun _ _=>rfl)) pa_nil)) pa_nil)))))⟩)) (zz5 (ps_ret (pe_tup (zz0 (pe_ix (zz10 (K:=K) rfl) (pv 0) pe_int (fun _ _=>rfl)) (zz0 (pv 1) (zz0 (pe_callTy (call_list_ofK (K:=K) rfl) (by rfl) T.n_list bt_list (zz0 (pe_ix (zz10 (K:=K) rfl) (pv 0) pe_int (fun _ _=>rfl)) pa_nil)) pa_nil))))))),?_⟩
  walk_at "rd"
  refine⟨_,SqT.of hp.top,_,rfl,?_⟩
  refine CompL.of (by rw[List.length_map,sizeLine_eq];omega) (SqL.of hp.sl) (fun D i ys H'=>∃qs:List StM,ys=qs.map StM.v∧qs.map StM.core=(p.sts.take i).map StM.core∧Same H H'∧H' D=some (.lst ys)∧(∀q∈qs,q.At H')∧(∀b∈qs.flatMap StM.lists,H b=none∧b≠D)∧(qs.flatMap StM.lists).Nodup)
   (fun D hD=>⟨[],rfl,rfl,zz4 hD,zz1,by simp,by simp,by simp⟩) ?_ ?_ ?_
  ·rintro D i ys H' hD hi ⟨qs,rfl,hc,sm,hDD,_⟩
   refine⟨SqL.of (sm _ _ hp.sl),hDD,?_⟩
   have e:=congrArg List.length hc
   rw[List.length_map,List.length_map]at e
   rw[List.length_map,e]
   exact List.length_take_le ..
  ·rintro D i x ys H' hD hx ⟨qs,rfl,hc,sm,hDD,hat,hnew,hnd⟩
   rw[List.getElem?_map]at hx
   obtain⟨s,hs,rfl⟩:=Option.map_eq_some_iff.mp hx
   have hs':=hp.ss s (List.mem_of_getElem? hs)
   walk_at "rd"
   refine⟨.no .nil,_,SqT.of (sm _ _ hs'.top),_,rfl,_,SqT.of (sm _ _ hs'.top),_,rfl,_,SqT.of (sm _ _ hs'.top),_,rfl,s.lw,rfl,_,.inl (SqL.of (sm _ _ hs'.wd)),fun lw h1=>⟨_,SqT.of (zz4 h1 _ _ (sm _ _ hs'.top)),_,rfl,s.lf,rfl,_,.inl (SqL.of (zz4 h1 _ _ (sm _ _ hs'.fl))),fun lf h2=>⟨by rw[sizeLine_eq];decide,fun t h3 => ?_⟩⟩⟩
   obtain⟨n2,h2'⟩:=free_of h2
   obtain⟨n3,h3a⟩:=free_of h3
   obtain⟨n4,h3'⟩:=free_of h3a
   have s3:=((zz4 (o:=HO.lst (s.words.map V.int)) h1).trans (zz4 (o:=HO.lst (s.fills.map FillM.v)) h2)).trans (zz4 (o:=HO.tup [V.str s.kind,V.int s.step,V.ref lw,V.ref lf]) h3)
   have e1:upd (upd (upd H' lw (HO.lst (s.words.map V.int))) lf (HO.lst (s.fills.map FillM.v))) t (HO.tup [V.str s.kind,V.int s.step,V.ref lw,V.ref lf]) lw=some (HO.lst (s.words.map V.int)):=by rw[upd_ne (Ne.symm n4),upd_ne (Ne.symm n2),zz1]
   have e2:upd (upd (upd H' lw (HO.lst (s.words.map V.int))) lf (HO.lst (s.fills.map FillM.v))) t (HO.tup [V.str s.kind,V.int s.step,V.ref lw,V.ref lf]) lf=some (HO.lst (s.fills.map FillM.v)):=by rw[upd_ne (Ne.symm n3),zz1]
   have e3:upd (upd (upd H' lw (HO.lst (s.words.map V.int))) lf (HO.lst (s.fills.map FillM.v))) t (HO.tup [V.str s.kind,V.int s.step,V.ref lw,V.ref lf]) t=some (HO.tup [V.str s.kind,V.int s.step,V.ref lw,V.ref lf]):=zz1
   generalize upd (upd (upd H' lw (HO.lst (s.words.map V.int))) lf (HO.lst (s.fills.map FillM.v))) t (HO.tup [V.str s.kind,V.int s.step,V.ref lw,V.ref lf])=H3 at *
   have bt:But H3 (upd H3 D (HO.lst (qs.map StM.v++[V.ref t]))) D:=But.upd (s3 _ _ hDD)
   have d1:lw≠D:=Ne.symm (zz3 hDD h1)
   have d2:lf≠D:=Ne.symm (zz3 hDD h2')
   refine⟨s3 _ _ hDD,qs++[⟨t,lw,lf,s.kind,s.step,s.words,s.fills⟩],by simp,?_,same_upd hD (sm.trans s3),zz1,fun q hq => ?_,fun b hb => ?_,?_⟩
   ·rw[List.map_append,hc,List.take_succ,hs,List.map_append];rfl
   ·rcases List.mem_append.mp hq with z | z
    ·exact ((hat q z).mono s3).but bt fun y=>(hnew D (List.mem_flatMap.mpr ⟨q,z,y⟩)).2 rfl
    ·rw[List.mem_singleton.mp z]
     exact⟨bt.tup e3,bt.2 _ _ e1 d1,bt.2 _ _ e2 d2,fun f hf=>(((hs'.fs f hf).mono sm).mono s3).but bt⟩
   ·rw[List.flatMap_append]at hb
    rcases List.mem_append.mp hb with z | z
    ·exact hnew b z
    ·simp[StM.lists]at z
     rcases z with e | e
     ·rw[e];exact⟨sm.free h1,d1⟩
     ·rw[e];exact⟨sm.free h2',d2⟩
   ·rw[List.flatMap_append]
    refine List.nodup_append.mpr ⟨hnd,by simp[StM.lists,Ne.symm n2],fun x hx y hy e => ?_⟩
    obtain⟨q,hq,hb'⟩:=List.mem_flatMap.mp hx
    obtain⟨xs,he⟩:=(hat q hq).list hb'
    simp[StM.lists]at hy
    rcases hy with z | z
    ·rw[e,z,h1]at he;cases he
    ·rw[e,z,h2']at he;cases he
  ·rintro D ys H' hD ⟨qs,rfl,hc,sm,hDD,hat,hnew,hnd⟩
   rw[List.length_map,List.take_length]at hc
   refine⟨_,SqT.of (sm _ _ hp.top),_,rfl,_,SqT.of (sm _ _ hp.top),_,rfl,p.ln,rfl,_,.inl (SqL.of (sm _ _ hp.nl)),fun l hl=>⟨by rw[sizeLine_eq];decide,fun t ht => ?_⟩⟩
   obtain⟨n1,ht'⟩:=free_of ht
   have s2:=(zz4 (o:=HO.lst (p.nms.map ToldM.v)) hl).trans (zz4 (o:=HO.tup [V.str p.name,V.ref D,V.ref l]) ht)
   have nl:∀b∈qs.flatMap StM.lists,b≠l∧b≠t:=fun b hb=>by
    obtain⟨q,hq,hb'⟩:=List.mem_flatMap.mp hb
    obtain⟨xs,e⟩:=(hat q hq).list hb'
    exact⟨zz3 e hl,zz3 e ht'⟩
   refine k ⟨t,D,l,p.name,qs,p.nms⟩ _ (sm.trans s2) ⟨zz1,s2 _ _ hDD,by rw[upd_ne (Ne.symm n1),zz1],fun q hq=>(hat q hq).mono s2,fun n hn=>((hp.ns n hn).mono sm).mono s2⟩ ⟨rfl,rfl,hc⟩ (fun b hb => ?_) ?_
   ·simp only[PcM.lists,List.mem_cons]at hb
    rcases hb with e | e | e
    ·rw[e];exact hD
    ·rw[e];exact sm.free hl
    ·exact (hnew b e).1
   ·show (D::l::qs.flatMap StM.lists).Nodup
    refine List.nodup_cons.mpr ⟨fun z => ?_,List.nodup_cons.mpr ⟨fun z=>(nl l z).1 rfl,hnd⟩⟩
    rcases List.mem_cons.mp z with e | e
    ·exact zz3 hDD hl e
    ·exact (hnew D e).2 rfl
theorem bd_app {ns:List ToldC}:∀(i:Int) (a b:List StC),bdRows ns i (a++b)=bdRows ns i a++bdRows ns (i+(a.length:Int)) b:=by
 intro i a
 induction a generalizing i with
 | nil=>intro b;show bdRows ns i b=[]++bdRows ns (i+((0:Nat):Int)) b;rw[show i+((0:Nat):Int)=i by omega];rfl
 | cons y a ih=>
  intro b
  show stRows ns i y++bdRows ns (i+1) (a++b)=(stRows ns i y++bdRows ns (i+1) a)++bdRows ns (i+((a.length+1:Nat):Int)) b
  rw[ih,List.append_assoc,show i+1+(a.length:Int)=i+((a.length+1:Nat):Int) by omega]
theorem rows_word {ns:List ToldC}{nm kd:Str}{st:Int}{pre post:List StC}{ws:List Int}{fs:List FillC}(u:Int):∃X Y,∀u:Int,pcRows nm (pre++(kd,st,ws++[u],fs)::post) ns=X++.word u::Y:=by
 refine⟨.piece nm::(bdRows ns 0 pre++(.st kd st::(wdRows ns (0+(pre.length:Int)) (kd,st,ws,fs) ws.length++nmsAt ns (0+(pre.length:Int)) (ws.length:Int)))),flsAt fs (ws.length:Int)++(nmsAt ns (0+(pre.length:Int)) ((ws.length+1:Nat):Int)++bdRows ns (0+(pre.length:Int)+1) post),fun u => ?_⟩
 unfold pcRows
 rw[bd_app]
 show PRow.piece nm::(bdRows ns 0 pre++((.st kd st::(wdRows ns (0+(pre.length:Int)) (kd,st,ws++[u],fs) (ws++[u]).length++nmsAt ns (0+(pre.length:Int)) ((ws++[u]).length:Int)))++bdRows ns (0+(pre.length:Int)+1) post))=_
 rw[List.length_append,List.length_singleton,zz21,wdRows_congr (x:=(kd,st,ws++[u],fs)) (x':=(kd,st,ws,fs)) (ns':=ns) fun k hk=>⟨getD_app _ _ hk,rfl,rfl⟩,show (kd,st,ws++[u],fs).2.2.1.getD ws.length 0=u from getD_last _ _]
 simp
theorem word_inj {u v:Int}(h1:0≤u∧u≤4294967295) (h2:0≤v∧v≤4294967295) (h:prowT (.word u)=prowT (.word v)):u=v:=by
 unfold prowT at h
 rw[txt_join,txt_join,sp_one]at h
 have e:=join_inj (PRow.ne _) (PRow.ne _) (PRow.good (PRow.smallWord h1)).2.2 (PRow.good (PRow.smallWord h2)).2.2 h
 have e:nS u=nS v:=by
  have e2:[Str.ofString "word", nS u]=[Str.ofString "word", nS v]:=e
  simpa using e2
 have a:=numF_str (n:=u) (lo := -9999999999) (hi:=9999999999) (by omega) (by omega)
 have b:=numF_str (n:=v) (lo := -9999999999) (hi:=9999999999) (by omega) (by omega)
 rw[if_pos (by omega)]at a b
 have e3:Str.ofString (toString u)=Str.ofString (toString v):=e
 rw[e3,b]at a
 exact (V.int.inj a).symm
theorem rows_inj {X Y:List PRow}{u v:Int}(hs:∀r∈X++.word u::Y,r.Small) (hs':∀r∈X++.word v::Y,r.Small) (h1:0≤u∧u≤4294967295) (h2:0≤v∧v≤4294967295)
  (h:Txt.join (Str.ofString "\n") ((X++PRow.word u::Y).map prowT)=Txt.join (Str.ofString "\n") ((X++PRow.word v::Y).map prowT)):u=v:=by
 rw[txt_join,txt_join,nl_one]at h
 have e:=join_inj (by simp) (by simp) (fun p hp=>by obtain⟨r,hr,rfl⟩:=List.mem_map.mp hp;exact (PRow.good (hs r hr)).2.1) (fun p hp=>by obtain⟨r,hr,rfl⟩:=List.mem_map.mp hp;exact (PRow.good (hs' r hr)).2.1) h
 rw[List.map_append,List.map_append]at e
 have e2:=List.append_cancel_left e
 exact word_inj h1 h2 (List.cons.inj e2).1
theorem at_setWords {H:Hp}{p:PcM}{pre post:List StM}{s:StM}{ws:List Int}(h:p.At H) (nd:p.lists.Nodup) (e:p.sts=pre++s::post):PcM.At (upd H s.lw (.lst (ws.map V.int))) { p with sts:=pre++{ s with words:=ws }::post }:=by
 have hs:s∈p.sts:=by rw[e];simp
 have sa:=h.ss s hs
 have b:But H (upd H s.lw (.lst (ws.map V.int))) s.lw:=But.upd sa.wd
 simp only[PcM.lists,List.nodup_cons,List.mem_cons,not_or]at nd
 obtain⟨⟨_,d2⟩,d3,d4⟩:=nd
 have hm:s.lw∈p.sts.flatMap StM.lists:=List.mem_flatMap.mpr ⟨s,hs,by simp[StM.lists]⟩
 rw[e,List.flatMap_append]at d4
 obtain⟨_,c2,c3⟩:=List.nodup_append.mp d4
 have c2:(s.lw::s.lf::post.flatMap StM.lists).Nodup:=c2
 simp only[List.nodup_cons,List.mem_cons,not_or]at c2
 obtain⟨⟨c4,c5⟩,_,_⟩:=c2
 have off:∀r:StM,r∈pre∨r∈post→s.lw∉r.lists:=fun r hr hz=>by
  rcases hr with hr | hr
  ·exact c3 s.lw (List.mem_flatMap.mpr ⟨r,hr,hz⟩) s.lw (List.mem_cons.mpr (.inl rfl)) rfl
  ·exact c5 (List.mem_flatMap.mpr ⟨r,hr,hz⟩)
 refine⟨b.tup h.top,?_,b.2 _ _ h.nl (fun z=>d3 (by rw[z];exact hm)),fun r hr => ?_,fun n hn=>(h.ns n hn).but b⟩
 ·have:=b.2 _ _ h.sl (fun z=>d2 (by rw[z];exact hm))
  rw[this,e];simp[StM.v]
 ·rcases List.mem_append.mp hr with z | z
  ·exact (h.ss r (by rw[e];exact List.mem_append_left _ z)).but b (off r (.inl z))
  ·rcases List.mem_cons.mp z with z | z
   ·subst z
    exact⟨b.tup sa.top,zz1,b.2 _ _ sa.fl (Ne.symm c4),fun f hf=>(sa.fs f hf).but b⟩
   ·exact (h.ss r (by rw[e];simp[z])).but b (off r (.inr z))
theorem G_qqk (T:Txt w K mg A):FnOk P w K mg base CX0 4 A.qqk A.fd_qqk ["_law_piece", "_law_text"] sp_turnP:=by
 refine T.F_qqk.ok sc_qqk (fun vs H Q E h => ?_) (fun cdv Ar outer s H vs Q E hr h => ?_)
 ·obtain⟨p,rfl,_⟩:=h
  rfl
 ·obtain⟨p,rfl,hp,nd,k⟩:=h
  refine⟨_,(zz2 (ps_for PassesOwn.never rfl (pi_listK (K:=K) rfl (pe_ix (zz10 (K:=K) rfl) (pv 0) pe_int (fun _ _=>rfl))) (pg_tupK (K:=K) (n:=4) rfl rfl (zz11 (zz9 (i:=2) sc_qqk.nd rfl (by walk_at "o")) (zz11 (zz9 (i:=3) sc_qqk.nd rfl (by walk_at "o")) (zz11 (zz9 (i:=4) sc_qqk.nd rfl (by walk_at "o")) (zz11 (zz9 (i:=5) sc_qqk.nd rfl (by walk_at "o")) pgs_nil))))) (zz5 (ps_if (zz6 (op_neDK hr.units (K:=K) rfl) (pv 4) (pe_lst pa_nil) (nomark _)) (zz2 (ps_set (i:=6) sc_qqk.nd rfl (by walk_at "o") (pe_ix (zz14 (K:=K) rfl) (pv 4) (pe_un un_neg pe_int) (fun _ _=>rfl))) (zz2 (ps_asg (pe_op op_mod (pe_op op_add (pv 6) pe_int) pe_int) (pg_sub (pv 4) (pe_un un_neg pe_int) set_list)) (zz2 (ps_set (i:=7) sc_qqk.nd rfl (by walk_at "o") (zz8 (G_qzz T) (hr.mono (by decide)) rfl T.m_qzz T.k_qzz T.b_qzz .nil pass0 (zz0 (pv 0) pa_nil))) (zz2 (ps_asg (pv 6) (pg_sub (pv 4) (pe_un un_neg pe_int) set_list)) (zz5 (ps_ret (pe_and (zz16 (call_isiK (K:=K) rfl) (by rfl) T.n_isinstance bt_isinstance (zz0 (pv 7) (zz0 (pe_bltn rfl T.n_str bt_str relT) pa_nil))) (pe_one (pe_cmpR op_ne (pv 7) (pv 1) (nomark _)))))))))) zz7))) (zz5 (ps_ret pe_bl))),?main⟩
  walk_at "rd"
  refine⟨_,SqT.of hp.at_.top,_,rfl,?_⟩
  refine ForL.of (xs:=p.sts.map StM.v) (fun i σ H'=>∃b2 b3 b4 b5:Option V,σ=[some p.v,some (.str (pcTxt p)),b2,b3,b4,b5,none,none]∧Same H H') ⟨_,_,_,_,rfl,Same.refl _⟩ ?_ ?_ ?_
  ·rintro i σ H' hi ⟨b2,b3,b4,b5,rfl,sm⟩
   exact SqL.of (sm _ _ hp.at_.sl)
  ·rintro i v σ H' hv ⟨b2,b3,b4,b5,rfl,sm⟩
   rw[List.getElem?_map]at hv
   obtain⟨s,hs',rfl⟩:=Option.map_eq_some_iff.mp hv
   have hmem:=List.mem_of_getElem? hs'
   have sa:=(hp.at_.ss s hmem).mono sm
   have repW:∀{q:Addr},H' q=none→Rep K (upd H' q (HO.lst [])) (.lst (s.words.map D.int)) (.ref s.lw):=fun {q} hq=>by
    simp only[Rep]
    exact⟨_,_,rfl,SqL.of (zz4 hq _ _ sa.wd),RepL.ints _⟩
   walk_at "rd"
   refine⟨_,SqT.of sa.top,rfl,_,_,rfl,_,_,rfl,_,_,rfl,_,_,rfl,rfl,Nat.zero_le _,fun q hq=>⟨s.words.map D.int,[],.inl ⟨repW hq,⟨q,[],rfl,SqL.of zz1,by simp[RepL]⟩⟩,Nat.le_trans (depL_le (n:=0) fun x _=>by simp[dep]) (by decide),_,rfl,?_⟩⟩
   rw[deqL_nil]
   have sm:=sm.trans (zz4 (o:=HO.lst []) hq)
   generalize upd H' q (HO.lst [])=H1 at sm ⊢
   by_cases z:s.words=[]
   ·rw[decide_eq_true (by rw[z];rfl),if_neg (by decide)];exact sm
   rw[decide_eq_false (fun e=>z (List.map_eq_nil_iff.mp e)),if_pos (by decide)]
   obtain⟨ws,u,ew⟩:∃ws u,s.words=ws++[u]:=⟨s.words.dropLast,s.words.getLast z,(List.dropLast_concat_getLast z).symm⟩
   have aw:H1 s.lw=some (.lst (ws.map V.int++[V.int u])):=by
    have:=sm _ _ (hp.at_.ss s hmem).wd
    rw[ew,List.map_append]at this;exact this
   have su:=(hp.ss s hmem).wd u (by rw[ew];simp)
   have h0:0≤(u+1) % 4294967296∧(u+1) % 4294967296≤4294967295:=by omega
   have hne:u≠(u+1) % 4294967296:=by omega
   refine⟨_,rfl,_,SqL.of aw,_,atI_last _ _,_,rfl,by decide,_,rfl,_,aw,_,ixN_lastP,?_⟩
   rw[set_lastP]
   generalize (u+1) % 4294967296=u' at h0 hne ⊢
   obtain⟨pre,post,es,el⟩:∃pre post,p.sts=pre++s::post∧pre.length=i:=by
    obtain⟨hi,e⟩:=List.getElem?_eq_some_iff.mp hs'
    refine⟨p.sts.take i,p.sts.drop (i+1),?_,by rw[List.length_take];omega⟩
    rw[←e,List.getElem_cons_drop,List.take_append_drop]
   have ew':ws.map V.int++[V.int u']=(ws++[u']).map V.int:=by rw[List.map_append];rfl
   rw[ew']
   have pa:=at_setWords (ws:=ws++[u']) (PcM.At.mono hp.at_ sm) nd es
   obtain⟨X,Y,eX⟩:=rows_word (ns:=p.nms.map nC) (nm:=p.name) (kd:=s.kind) (st:=s.step) (pre:=pre.map sC) (post:=post.map sC) (ws:=ws) (fs:=s.fills.map fC) u
   have r1:pcRows p.name (p.sts.map sC) (p.nms.map nC)=X++.word u::Y:=by
    rw[←eX u,es,List.map_append]
    show pcRows p.name (pre.map sC++(s.kind,s.step,s.words,s.fills.map fC)::post.map sC) _=_
    rw[ew]
   have r2:pcRows p.name ((pre++{ s with words:=ws++[u'] }::post).map sC) (p.nms.map nC)=X++.word u'::Y:=by
    rw[←eX u',List.map_append];rfl
   have hp':ShP (upd H1 s.lw (HO.lst ((ws++[u']).map V.int))) { p with sts:=pre++{ s with words:=ws++[u'] }::post }:=by
    obtain⟨n1,n2,n3⟩:=hp.n1
    have sp:=hp.ss s hmem
    refine⟨pa,hp.nm,fun r hr => ?_,hp.ns,?_,?_,n2,fun r hr => ?_⟩
    ·rcases List.mem_append.mp hr with q | q
     ·exact hp.ss r (by rw[es];exact List.mem_append_left _ q)
     ·rcases List.mem_cons.mp q with q | q
      ·rw[q]
       refine⟨sp.kind,sp.s1,sp.s2,fun x hx => ?_,sp.fl⟩
       rcases List.mem_append.mp hx with y | y
       ·exact sp.wd x (by rw[ew];exact List.mem_append_left _ y)
       ·rw[List.mem_singleton.mp y];exact h0
      ·exact hp.ss r (by rw[es];simp[q])
    ·show (pcRows p.name ((pre++{ s with words:=ws++[u'] }::post).map sC) (p.nms.map nC)).length≤300
     have:=hp.len
     rw[r1,List.length_append,List.length_cons]at this
     rw[r2,List.length_append,List.length_cons];exact this
    ·rw[es,List.length_append,List.length_cons]at n1
     show (pre++_::post).length≤400
     rw[List.length_append,List.length_cons];exact n1
    ·rcases List.mem_append.mp hr with q | q
     ·exact n3 r (by rw[es];exact List.mem_append_left _ q)
     ·rcases List.mem_cons.mp q with q | q
      ·rw[q]
       have:=n3 s hmem
       rw[ew,List.length_append,List.length_singleton]at this
       exact⟨by show (ws++[u']).length≤400;rw[List.length_append,List.length_singleton];exact this.1,this.2⟩
      ·exact n3 r (by rw[es];simp[q])
   refine⟨{ p with sts:=pre++{ s with words:=ws++[u'] }::post },rfl,hp',fun H2 s2 => ?_⟩
   have aw2:H2 s.lw=some (.lst (ws.map V.int++[V.int u'])):=by rw[←ew']at s2;exact s2 _ _ zz1
   refine⟨_,rfl,_,aw2,_,ixN_lastP,_,.str _,true,rfl,?_⟩
   rw[if_pos rfl,set_lastP,decide_eq_false (fun e=>hne ?_)]
   ·refine k _ fun x o e => ?_
    by_cases y:x=s.lw
    ·rw[y,zz1]
     rw[y,(hp.at_.ss s hmem).wd,ew,List.map_append]at e
     exact e
    ·rw[upd_ne y]
     exact s2 _ _ (by rw[upd_ne y];exact sm _ _ e)
   ·unfold pcTxt at e
    have hs1:=hp.small
    have hs2:=hp'.small
    have e:Txt.join (Str.ofString "\n") ((pcRows p.name ((pre++{ s with words:=ws++[u'] }::post).map sC) (p.nms.map nC)).map prowT)=Txt.join (Str.ofString "\n") ((pcRows p.name (p.sts.map sC) (p.nms.map nC)).map prowT):=e
    have hs2:∀r∈pcRows p.name ((pre++{ s with words:=ws++[u'] }::post).map sC) (p.nms.map nC),r.Small:=hs2
    rw[r1,r2]at e
    rw[r1]at hs1
    rw[r2]at hs2
    exact (rows_inj hs2 hs1 h0 su e).symm
  ·rintro σ H' ⟨b2,b3,b4,b5,rfl,sm⟩
   walk_at "rd"
   exact k _ sm
theorem copy_sC {p q:PcM}(h:p.Copy q):q.sts.map sC=p.sts.map sC:=by
 have e:(sC:StM→StC)=(fun c:Str×Int×List Int×List FillM=>(c.1,c.2.1,c.2.2.1,c.2.2.2.map fC)) ∘ StM.core:=rfl
 rw[e,←List.map_map,←List.map_map,h.sts]
theorem G_law (T:Txt w K mg A):FnOk P w K mg base CX0 14 A.law A.fd_law ["_law_script"] (sp_law K):=by
 refine T.F_law.ok sc_law (fun vs H Q E h => ?_) (fun cdv Ar outer s H vs Q E hr h => ?_)
 ·obtain⟨a,ns,rfl,_⟩:=h
  rfl
 ·obtain⟨a,ns,rfl,hS,hl,k⟩:=h
  refine⟨_,(zz2 (ps_asg (zz8 (G_qzy T) (hr.mono (by decide)) rfl T.m_qzy T.k_qzy T.b_qzy .nil pass0 (zz0 (pv 0) pa_nil)) (pg_tupK (K:=K) (n:=2) rfl rfl (zz11 (zz9 (i:=1) sc_law.nd rfl (by walk_at "o")) (zz11 (zz9 (i:=2) sc_law.nd rfl (by walk_at "o")) pgs_nil)))) (zz2 (ps_set (i:=3) sc_law.nd rfl (by walk_at "o") (pe_bm PySem.F.plainAttrs_str PySem.F.slot_str_join PySem.F.type_str_join (mt_joinK (K:=K) rfl) pe_str (zz0 (pv 1) pa_nil))) (zz2 (ps_set (i:=4) sc_law.nd rfl (by walk_at "o") (zz8 (G_qyw T) (hr.mono (by decide)) rfl T.m_qyw T.k_qyw T.b_qyw .nil pass0 (zz0 (pv 2) pa_nil))) (zz2 (ps_set (i:=5) sc_law.nd rfl (by walk_at "o") (zz8 (G_qzz T) (hr.mono (by decide)) rfl T.m_qzz T.k_qzz T.b_qzz .nil pass0 (zz0 (pv 4) pa_nil))) (zz2 (ps_if (PW.pt (pw_or (pt_not (pt_val (zz16 (call_isiK (K:=K) rfl) (by rfl) T.n_isinstance bt_isinstance (zz0 (pv 5) (zz0 (pe_bltn rfl T.n_str bt_str relT) pa_nil))))) (pw_or (zz6 op_ne (pv 5) (pv 3) (nomark _)) (pw_or1 (zz6 (op_neDK hr.units (K:=K) rfl) (pv 4) (pv 2) (nomark _)))))) (zz5 (ps_ret pe_bl)) zz7) (zz2 (ps_set (i:=6) sc_law.nd rfl (by walk_at "o") (zz8 (G_qzk T) (hr.mono (by decide)) rfl T.m_qzk T.k_qzk T.b_qzk .nil pass0E (zz0 (pv 5) pa_nil))) (zz2 (ps_if (PW.pt (pw_or (zz6 (op_neDK hr.units (K:=K) rfl) (pv 6) (pv 2) (nomark _)) (pw_or1 (zz6 op_ne (zz8 (G_qzz T) (hr.mono (by decide)) rfl T.m_qzz T.k_qzz T.b_qzz .nil pass0 (zz0 (pv 6) pa_nil)) (pv 5) (nomark _))))) (zz5 (ps_ret pe_bl)) zz7) (zz5 (ps_ret (pe_and (zz8 (G_qqk T) (hr.mono (by decide)) rfl T.m_qqk T.k_qqk T.b_qqk .nil pass0 (zz0 (pv 4) (zz0 (pv 5) pa_nil))) (pe_one (pe_cmpR op_eq (zz8 (G_qzz T) (hr.mono (by decide)) rfl T.m_qzz T.k_qzz T.b_qzz .nil pass0 (zz0 (pv 4) pa_nil)) (pv 5) (nomark _))))))))))))),?main⟩
  walk_at "rd"
  refine⟨ns,hS,hl,fun t pr q rows H1 ht B=>⟨_,SqT.of ht,rfl,_,_,rfl,_,_,rfl,rfl,rfl,_,rfl,rows.map prowT,by rw[List.map_map];exact SqL.of B.rw_,B.text,q,rfl,B.at_,B.n1.1,B.n1.2.1,B.n1.2.2,fun c H2 s2 ca cc cf cn => ?_⟩⟩
  obtain⟨b1,b2,b3⟩:=B.n1
  have c2:=copy_sC cc
  have cn3:c.nms.map nC=q.nms.map nC:=by rw[cc.nms]
  have l1:c.sts.length=q.sts.length:=by have:=congrArg List.length c2;rwa [List.length_map,List.length_map]at this
  have bd:c.sts.length≤400∧c.nms.length≤400∧∀s∈c.sts,s.words.length≤400∧s.fills.length≤400:=by
   refine⟨by omega,by rw[cc.nms];omega,fun s hs => ?_⟩
   have hm:s.core∈q.sts.map StM.core:=by rw[←cc.sts];exact List.mem_map.mpr ⟨s,hs,rfl⟩
   obtain⟨r,hr,e⟩:=List.mem_map.mp hm
   have:=b3 r hr
   have e1:r.words=s.words:=congrArg (fun z=>z.2.2.1) e
   have e2:r.fills=s.fills:=congrArg (fun z=>z.2.2.2) e
   rw[e1,e2]at this;omega
  obtain⟨sh,er⟩:=B.shp ca cc.name c2 cn3 bd
  have et:pcTxt c=Txt.join (Str.ofString "\n") (rows.map prowT):=by unfold pcTxt;rw[er]
  refine⟨c,rfl,sh,fun H3 s3=>⟨_,.str _,true,rfl,?_⟩⟩
  rw[if_neg (by decide),decide_eq_true et,if_neg (by decide)]
  have qa3:=PcM.At.mono B.at_ (s2.trans s3)
  refine pc_ne (PcM.At.mono ca s3) qa3 cc.d ?_
  rw[if_neg (by decide)]
  refine .inl ⟨rows,et,B.ne,by have:=B.len;omega,takesAll_small B.tk,takesAll_run B.tk,fun t2 R p2 H4 s4 ht2 O => ?_⟩
  have F:=B.fnd O ht2
  have qa4:=PcM.At.mono qa3 s4
  refine pc_ne (p:={ p2 with t:=t2,name:=q.name }) F.at_ qa4 F.d ?_
  rw[if_neg (by decide)]
  obtain⟨bw,erun⟩:=B.run
  have O2:=O.sts
  have O3:=O.nms
  rw[erun]at O2 O3
  obtain⟨sh2,er2⟩:=B.shp (p:={ p2 with t:=t2,name:=q.name }) F.at_ rfl O2 O3 ⟨F.n1,F.n2,F.n3⟩
  have et2:pcTxt { p2 with t:=t2,name:=q.name }=pcTxt c:=by rw[et];unfold pcTxt;rw[er2]
  refine⟨{ p2 with t:=t2,name:=q.name },rfl,sh2,fun H5 s5 => ?_⟩
  rw[decide_eq_true et2,if_neg (by decide)]
  have s35:=(s3.trans s4).trans s5
  refine⟨c,rfl,rfl,sh.mono s35,cn,fun H6 s6=>⟨c,rfl,sh.mono (s35.trans s6),fun H7 s7 => ?_⟩⟩
  rw[decide_eq_true rfl]
  exact k _
end
@[elab_as_elim] theorem len1 {α:Type}{p:List α→Prop}(us:List α) (h:us.length=1) (f:∀a,p [a]):p us:=by
 match us,h with | [a],_=>exact f a
@[elab_as_elim] theorem len2 {α:Type}{p:List α→Prop}(us:List α) (h:us.length=2) (f:∀a b,p [a,b]):p us:=by
 match us,h with | [a,b],_=>exact f a b
@[elab_as_elim] theorem len3 {α:Type}{p:List α→Prop}(us:List α) (h:us.length=3) (f:∀a b c,p [a,b,c]):p us:=by
 match us,h with | [a,b,c],_=>exact f a b c
@[elab_as_elim] theorem len4 {α:Type}{p:List α→Prop}(us:List α) (h:us.length=4) (f:∀a b c d,p [a,b,c,d]):p us:=by
 match us,h with | [a,b,c,d],_=>exact f a b c d
@[elab_as_elim] theorem len5 {α:Type}{p:List α→Prop}(us:List α) (h:us.length=5) (f:∀a b c d e,p [a,b,c,d,e]):p us:=by
 match us,h with | [a,b,c,d,e],_=>exact f a b c d e
def FO (K:Wf) (f:Addr) (st:Stmt) (x q:Str):Prop:=∃(oc:Value) (od an:Option Addr) (sl:Array (Option Value)) (kV dc pm cd ct:Value),K.lookup f=some ⟨oc,od,.func (PySem.W.fnOf x q (defArgs st) (defBody st) (defScope st) .none kV dc pm an cd ct),sl⟩∧PySem.W.codeIn K cd q=true∧PySem.W.keepIn K (.ref f)=true
theorem all_mk {l:PySem.W.OpenLaw}{w:World}{K:Wf}{h:Heap}{mg:So}{fa f_qqj f_qxy f_qww f_qxz f_qyq f_qyj f_qyx f_qzk f_qqv f_qwz f_qqw f_qqq f_qqx f_qqy f_qqz f_qzz f_qyz f_qwk f_qzj f_qwx f_qwv f_qzw f_qzq f_qwy f_qwj f_qyy f_qzy f_qyw f_qqk f_law C_High C_qzv C_Low C_Near C_qxw C_qxx C_qxq C_qxk C_qxj o_qwq:Addr}{t_qyv t_qyk t_qzx k_qwq_0 v_qwq_0 k_qwq_1 v_qwq_1 k_qwq_2 v_qwq_2 k_qwq_3 v_qwq_3 k_qwq_4 v_qwq_4 k_qwq_5 v_qwq_5 k_qwq_6 v_qwq_6 k_qwq_7 v_qwq_7 k_qwq_8 v_qwq_8:Tok}(X:K.In h) (G:h.Ns mainGlobals mg) (hfa:mg "law" = some (.ref fa))
  {n_qwq:Nat}
  (ac_High:PySem.W.nsIn K mainGlobals "High" = some (some (.ref C_High)))
  (ac_qzv:PySem.W.nsIn K mainGlobals "JoinError" = some (some (.ref C_qzv)))
  (ac_Low:PySem.W.nsIn K mainGlobals "Low" = some (some (.ref C_Low)))
  (ac_Near:PySem.W.nsIn K mainGlobals "Near" = some (some (.ref C_Near)))
  (ac_qxw:PySem.W.nsIn K mainGlobals "NoPiece" = some (some (.ref C_qxw)))
  (ac_qxx:PySem.W.nsIn K mainGlobals "NoRule" = some (some (.ref C_qxx)))
  (ac_qxq:PySem.W.nsIn K mainGlobals "Reading" = some (some (.ref C_qxq)))
  (ac_qxk:PySem.W.nsIn K mainGlobals "Split" = some (some (.ref C_qxk)))
  (ac_qxj:PySem.W.nsIn K mainGlobals "Whole" = some (some (.ref C_qxj)))
  (a_qqj:PySem.W.findIn K (.ref C_qxw) "__init__" = some (some (.ref f_qqj)))
  (i_qqj:PySem.W.isFn K (.ref f_qqj)=true)
  (l_qqj:FO K f_qqj s_qqj "__init__" "NoPiece.__init__")
  (a_qxy:PySem.W.nsIn K mainGlobals "rule_of" = some (some (.ref f_qxy)))
  (l_qxy:FO K f_qxy s_qxy "rule_of" "rule_of")
  (a_qww:PySem.W.findIn K (.ref C_High) "__init__" = some (some (.ref f_qww)))
  (i_qww:PySem.W.isFn K (.ref f_qww)=true)
  (l_qww:FO K f_qww s_qww "__init__" "Rule.__init__")
  (a_qxz:PySem.W.nsIn K mainGlobals "is_name" = some (some (.ref f_qxz)))
  (l_qxz:FO K f_qxz s_qxz "is_name" "is_name")
  (a_qyq:PySem.W.nsIn K mainGlobals "number_of" = some (some (.ref f_qyq)))
  (l_qyq:FO K f_qyq s_qyq "number_of" "number_of")
  (a_qyj:PySem.W.nsIn K mainGlobals "step_in" = some (some (.ref f_qyj)))
  (l_qyj:FO K f_qyj s_qyj "step_in" "step_in")
  (a_qyx:PySem.W.nsIn K mainGlobals "is_title" = some (some (.ref f_qyx)))
  (l_qyx:FO K f_qyx s_qyx "is_title" "is_title")
  (a_qzk:PySem.W.nsIn K mainGlobals "read_piece" = some (some (.ref f_qzk)))
  (l_qzk:FO K f_qzk s_qzk "read_piece" "read_piece")
  (a_qqv:PySem.W.findIn K (.ref C_qxq) "__init__" = some (some (.ref f_qqv)))
  (i_qqv:PySem.W.isFn K (.ref f_qqv)=true)
  (l_qqv:FO K f_qqv s_qqv "__init__" "Reading.__init__")
  (a_qwz:PySem.W.findIn K (.ref C_qxq) "takes" = some (some (.ref f_qwz)))
  (i_qwz:PySem.W.isFn K (.ref f_qwz)=true)
  (l_qwz:FO K f_qwz s_qwz "takes" "Reading.takes")
  (a_qqw:PySem.W.findIn K (.ref C_qxq) "takes_piece" = some (some (.ref f_qqw)))
  (i_qqw:PySem.W.isFn K (.ref f_qqw)=true)
  (l_qqw:FO K f_qqw s_qqw "takes_piece" "Reading.takes_piece")
  (a_qqq:PySem.W.findIn K (.ref C_qxq) "takes_stretch" = some (some (.ref f_qqq)))
  (i_qqq:PySem.W.isFn K (.ref f_qqq)=true)
  (l_qqq:FO K f_qqq s_qqq "takes_stretch" "Reading.takes_stretch")
  (a_qqx:PySem.W.findIn K (.ref C_qxq) "takes_word" = some (some (.ref f_qqx)))
  (i_qqx:PySem.W.isFn K (.ref f_qqx)=true)
  (l_qqx:FO K f_qqx s_qqx "takes_word" "Reading.takes_word")
  (a_qqy:PySem.W.findIn K (.ref C_qxq) "takes_fill" = some (some (.ref f_qqy)))
  (i_qqy:PySem.W.isFn K (.ref f_qqy)=true)
  (l_qqy:FO K f_qqy s_qqy "takes_fill" "Reading.takes_fill")
  (a_qqz:PySem.W.findIn K (.ref C_qxq) "takes_told" = some (some (.ref f_qqz)))
  (i_qqz:PySem.W.isFn K (.ref f_qqz)=true)
  (l_qqz:FO K f_qqz s_qqz "takes_told" "Reading.takes_told")
  (a_qzz:PySem.W.nsIn K mainGlobals "shown_piece" = some (some (.ref f_qzz)))
  (l_qzz:FO K f_qzz s_qzz "shown_piece" "shown_piece")
  (a_qyz:PySem.W.nsIn K mainGlobals "name_rows" = some (some (.ref f_qyz)))
  (l_qyz:FO K f_qyz s_qyz "name_rows" "name_rows")
  (a_qwk:PySem.W.nsIn K mainGlobals "stretch_rows" = some (some (.ref f_qwk)))
  (l_qwk:FO K f_qwk s_qwk "stretch_rows" "stretch_rows")
  (a_qzj:PySem.W.nsIn K mainGlobals "fill_rows" = some (some (.ref f_qzj)))
  (l_qzj:FO K f_qzj s_qzj "fill_rows" "fill_rows")
  (a_qwx:PySem.W.nsIn K mainGlobals "_law_cell_at" = some (some (.ref f_qwx)))
  (l_qwx:FO K f_qwx s_qwx "_law_cell_at" "_law_cell_at")
  (a_qwv:PySem.W.nsIn K mainGlobals "_law_name_by" = some (some (.ref f_qwv)))
  (l_qwv:FO K f_qwv s_qwv "_law_name_by" "_law_name_by")
  (a_qzw:PySem.W.nsIn K mainGlobals "_law_add_by" = some (some (.ref f_qzw)))
  (l_qzw:FO K f_qzw s_qzw "_law_add_by" "_law_add_by")
  (a_qzq:PySem.W.nsIn K mainGlobals "_law_fill_by" = some (some (.ref f_qzq)))
  (l_qzq:FO K f_qzq s_qzq "_law_fill_by" "_law_fill_by")
  (a_qwy:PySem.W.nsIn K mainGlobals "_law_fill_row" = some (some (.ref f_qwy)))
  (l_qwy:FO K f_qwy s_qwy "_law_fill_row" "_law_fill_row")
  (a_qwj:PySem.W.nsIn K mainGlobals "_law_word_by" = some (some (.ref f_qwj)))
  (l_qwj:FO K f_qwj s_qwj "_law_word_by" "_law_word_by")
  (a_qyy:PySem.W.nsIn K mainGlobals "_law_put" = some (some (.ref f_qyy)))
  (l_qyy:FO K f_qyy s_qyy "_law_put" "_law_put")
  (a_qzy:PySem.W.nsIn K mainGlobals "_law_built" = some (some (.ref f_qzy)))
  (l_qzy:FO K f_qzy s_qzy "_law_built" "_law_built")
  (a_qyw:PySem.W.nsIn K mainGlobals "_law_copy" = some (some (.ref f_qyw)))
  (l_qyw:FO K f_qyw s_qyw "_law_copy" "_law_copy")
  (a_qqk:PySem.W.nsIn K mainGlobals "_law_word_turned" = some (some (.ref f_qqk)))
  (l_qqk:FO K f_qqk s_qqk "_law_word_turned" "_law_word_turned")
  (a_law:PySem.W.nsIn K mainGlobals "law" = some (some (.ref f_law)))
  (l_law:FO K f_law s_law "law" "law")
  (fi_Low:PySem.W.findIn K (.ref C_Low) "__init__" = some (some (.ref f_qww)))
  (fi_Near:PySem.W.findIn K (.ref C_Near) "__init__" = some (some (.ref f_qww)))
  (fi_qxk:PySem.W.findIn K (.ref C_qxk) "__init__" = some (some (.ref f_qww)))
  (fi_qxj:PySem.W.findIn K (.ref C_qxj) "__init__" = some (some (.ref f_qww)))
  (pg_High:PySem.W.plainGet K C_High Str.empty=true)
  (hd_High:PySem.W.hasDictIn K C_High=true)
  (po_High:PySem.W.plainOver K C_High=true)
  (sa_High:PySem.W.findIn K (.ref C_High) "__setattr__" = some (some (.builtin "object.__setattr__")))
  (mm_High:PySem.W.makesIn K C_High=true)
  (kc_High:PySem.W.keepIn K (.ref C_High)=true)
  (pg_Low:PySem.W.plainGet K C_Low Str.empty=true)
  (hd_Low:PySem.W.hasDictIn K C_Low=true)
  (po_Low:PySem.W.plainOver K C_Low=true)
  (sa_Low:PySem.W.findIn K (.ref C_Low) "__setattr__" = some (some (.builtin "object.__setattr__")))
  (mm_Low:PySem.W.makesIn K C_Low=true)
  (kc_Low:PySem.W.keepIn K (.ref C_Low)=true)
  (pg_Near:PySem.W.plainGet K C_Near Str.empty=true)
  (hd_Near:PySem.W.hasDictIn K C_Near=true)
  (po_Near:PySem.W.plainOver K C_Near=true)
  (sa_Near:PySem.W.findIn K (.ref C_Near) "__setattr__" = some (some (.builtin "object.__setattr__")))
  (mm_Near:PySem.W.makesIn K C_Near=true)
  (kc_Near:PySem.W.keepIn K (.ref C_Near)=true)
  (pg_qxq:PySem.W.plainGet K C_qxq Str.empty=true)
  (hd_qxq:PySem.W.hasDictIn K C_qxq=true)
  (po_qxq:PySem.W.plainOver K C_qxq=true)
  (sa_qxq:PySem.W.findIn K (.ref C_qxq) "__setattr__" = some (some (.builtin "object.__setattr__")))
  (mm_qxq:PySem.W.makesIn K C_qxq=true)
  (kc_qxq:PySem.W.keepIn K (.ref C_qxq)=true)
  (pg_qxk:PySem.W.plainGet K C_qxk Str.empty=true)
  (hd_qxk:PySem.W.hasDictIn K C_qxk=true)
  (po_qxk:PySem.W.plainOver K C_qxk=true)
  (sa_qxk:PySem.W.findIn K (.ref C_qxk) "__setattr__" = some (some (.builtin "object.__setattr__")))
  (mm_qxk:PySem.W.makesIn K C_qxk=true)
  (kc_qxk:PySem.W.keepIn K (.ref C_qxk)=true)
  (pg_qxj:PySem.W.plainGet K C_qxj Str.empty=true)
  (hd_qxj:PySem.W.hasDictIn K C_qxj=true)
  (po_qxj:PySem.W.plainOver K C_qxj=true)
  (sa_qxj:PySem.W.findIn K (.ref C_qxj) "__setattr__" = some (some (.builtin "object.__setattr__")))
  (mm_qxj:PySem.W.makesIn K C_qxj=true)
  (kc_qxj:PySem.W.keepIn K (.ref C_qxj)=true)
  (kj:PySem.W.mroIn K C_qxx (.ref C_qxx)=some true)
  (xg_qxx:PySem.W.findIn K (.ref C_qxx) "__getattribute__" = some (some (.builtin "BaseException.__getattribute__")))
  (xn_qxx:PySem.W.findIn K (.ref C_qxx) "__getattr__" = some none)
  (xl_qxx:PySem.W.findIn K (.ref C_qxx) "__class__" = some (some (.builtin "object.__class__")))
  (xo_qxx:PySem.W.mroIn K C_qxx (.type "object")=some true)
  (xb_qxx:PySem.W.mroIn K C_qxx (.type "BaseException")=some true)
  (xg_qxw:PySem.W.findIn K (.ref C_qxw) "__getattribute__" = some (some (.builtin "BaseException.__getattribute__")))
  (xn_qxw:PySem.W.findIn K (.ref C_qxw) "__getattr__" = some none)
  (xl_qxw:PySem.W.findIn K (.ref C_qxw) "__class__" = some (some (.builtin "object.__class__")))
  (xo_qxw:PySem.W.mroIn K C_qxw (.type "object")=some true)
  (xb_qxw:PySem.W.mroIn K C_qxw (.type "BaseException")=some true)
  (sp_cl:PySem.W.specialIn K (.builtin "object.__class__") "__get__" = some (some (.builtin "getset_descriptor.__get__")))
  (tk_cl:PySem.W.takesIn K (.builtin "object.__class__")=some true)
  (xi_qxx:PySem.W.excIn K C_qxx [.type "ValueError", .type "Exception", .type "BaseException", .type "object"] "ValueError.__new__" = true)
  (ei_qxw:ownInit K C_qxw f_qqj=true)
  (ee_qxw:errIn K C_qxw=true)
  (es_qxw:PySem.W.findIn K (.ref C_qxw) "__setattr__" = some (some (.builtin "object.__setattr__")))
  (br_qzv:PySem.W.readsIn K C_qzv (.type "type")=true)
  (bf_qzv:PySem.W.findCls K (.ref C_qzv) (.type "type") "__init__" = some (.val (.builtin "ValueError.__init__")))
  (bg_qzv:PySem.W.specialIn K (.ref C_qzv) "__getattribute__" = some (some (.builtin "type.__getattribute__")))
  (ct_qxx:PySem.W.instIn K (.ref C_qxx) (.type "tuple")=some false)
  (cb_qxx:PySem.W.mroIn K C_qxx (.type "BaseException")=some true)
  (no_qxw_row:PySem.W.findIn K (.ref C_qxw) "row" = some none)
  (no_qxq_name:PySem.W.findIn K (.ref C_qxq) "name" = some none)
  (no_qxq_stretches:PySem.W.findIn K (.ref C_qxq) "stretches" = some none)
  (no_qxq_names:PySem.W.findIn K (.ref C_qxq) "names" = some none)
  (no_qxq_last_words:PySem.W.findIn K (.ref C_qxq) "last_words" = some none)
  (no_qxq_last_fills:PySem.W.findIn K (.ref C_qxq) "last_fills" = some none)
  (no_qxq_told:PySem.W.findIn K (.ref C_qxq) "told" = some none)
  (no_qxq_behind_word:PySem.W.findIn K (.ref C_qxq) "behind_word" = some none)
  (no_qxj_title:PySem.W.findIn K (.ref C_qxj) "title" = some none)
  (no_High_title:PySem.W.findIn K (.ref C_High) "title" = some none)
  (no_Low_title:PySem.W.findIn K (.ref C_Low) "title" = some none)
  (no_Near_title:PySem.W.findIn K (.ref C_Near) "title" = some none)
  (no_qxk_title:PySem.W.findIn K (.ref C_qxk) "title" = some none)
  (g_qyv:PySem.W.nsIn K mainGlobals "FIGURES" = some (some (.str "0123456789" t_qyv)))
  (g_qwq:PySem.W.nsIn K mainGlobals "HOW_MANY_PARTS" = some (some (.ref o_qwq)))
  (l_qwq:K.lookup o_qwq=some ⟨.type "dict", none,.dict #[⟨PyData.keyHash w.params "piece", .str "piece" k_qwq_0,.int 2 v_qwq_0⟩,⟨PyData.keyHash w.params "code", .str "code" k_qwq_1,.int 2 v_qwq_1⟩,⟨PyData.keyHash w.params "data", .str "data" k_qwq_2,.int 2 v_qwq_2⟩,⟨PyData.keyHash w.params "word", .str "word" k_qwq_3,.int 2 v_qwq_3⟩,⟨PyData.keyHash w.params "fill", .str "fill" k_qwq_4,.int 4 v_qwq_4⟩,⟨PyData.keyHash w.params "soft", .str "soft" k_qwq_5,.int 4 v_qwq_5⟩,⟨PyData.keyHash w.params "tell", .str "tell" k_qwq_6,.int 2 v_qwq_6⟩,⟨PyData.keyHash w.params "weak", .str "weak" k_qwq_7,.int 2 v_qwq_7⟩,⟨PyData.keyHash w.params "own", .str "own" k_qwq_8,.int 2 v_qwq_8⟩] n_qwq,#[]⟩)
  (s_qwq:(o_qwq == sysModules)=false)
  (g_qyk:PySem.W.nsIn K mainGlobals "LETTERS" = some (some (.str "abcdefghijklmnopqrstuvwxyz" t_qyk)))
  (g_qzx:PySem.W.nsIn K mainGlobals "NAME_SIGNS" = some (some (.str "abcdefghijklmnopqrstuvwxyz0123456789_" t_qzx)))
  (n_all:PySem.W.nsIn K mainGlobals "all" = some none)
  (n_enumerate:PySem.W.nsIn K mainGlobals "enumerate" = some none)
  (n_int:PySem.W.nsIn K mainGlobals "int" = some none)
  (n_isinstance:PySem.W.nsIn K mainGlobals "isinstance" = some none)
  (n_len:PySem.W.nsIn K mainGlobals "len" = some none)
  (n_list:PySem.W.nsIn K mainGlobals "list" = some none)
  (n_range:PySem.W.nsIn K mainGlobals "range" = some none)
  (n_str:PySem.W.nsIn K mainGlobals "str" = some none):
  ∃fd:FuncData,(∀(s:Shared) (v:Value),BindsTo s fd ⟨[v],[]⟩ [("_law_script", v)])∧∀base:Heap,K.In base→base.Ns mainGlobals mg→FnOk l.prog w K mg base CX0 14 fa fd ["_law_script"] (sp_law K):=by
 have e:=hfa.symm.trans (PySem.W.mg_of X G a_law)
 cases e
 obtain⟨_,_,_,_,_,_,_,_,_,l_qqj,e_qqj,k_qqj⟩:=l_qqj
 have F_qqj:=fun_mk l_qqj e_qqj k_qqj
 have b_qqj:=F_qqj.binds (ps:=["self", "row"]) fun _ _ _ _ _ _ us hl=>len2 us hl fun _ _=>rfl
 obtain⟨_,_,_,_,_,_,_,_,_,l_qxy,e_qxy,k_qxy⟩:=l_qxy
 have F_qxy:=fun_mk l_qxy e_qxy k_qxy
 have b_qxy:=F_qxy.binds (ps:=["title"]) fun _ _ _ _ _ _ us hl=>len1 us hl fun _=>rfl
 obtain⟨_,_,_,_,_,_,_,_,_,l_qww,e_qww,k_qww⟩:=l_qww
 have F_qww:=fun_mk l_qww e_qww k_qww
 have b_qww:=F_qww.binds (ps:=["self", "title"]) fun _ _ _ _ _ _ us hl=>len2 us hl fun _ _=>rfl
 obtain⟨_,_,_,_,_,_,_,_,_,l_qxz,e_qxz,k_qxz⟩:=l_qxz
 have F_qxz:=fun_mk l_qxz e_qxz k_qxz
 have b_qxz:=F_qxz.binds (ps:=["text"]) fun _ _ _ _ _ _ us hl=>len1 us hl fun _=>rfl
 obtain⟨_,_,_,_,_,_,_,_,_,l_qyq,e_qyq,k_qyq⟩:=l_qyq
 have F_qyq:=fun_mk l_qyq e_qyq k_qyq
 have b_qyq:=F_qyq.binds (ps:=["text", "least", "most"]) fun _ _ _ _ _ _ us hl=>len3 us hl fun _ _ _=>rfl
 obtain⟨_,_,_,_,_,_,_,_,_,l_qyj,e_qyj,k_qyj⟩:=l_qyj
 have F_qyj:=fun_mk l_qyj e_qyj k_qyj
 have b_qyj:=F_qyj.binds (ps:=["text"]) fun _ _ _ _ _ _ us hl=>len1 us hl fun _=>rfl
 obtain⟨_,_,_,_,_,_,_,_,_,l_qyx,e_qyx,k_qyx⟩:=l_qyx
 have F_qyx:=fun_mk l_qyx e_qyx k_qyx
 have b_qyx:=F_qyx.binds (ps:=["text"]) fun _ _ _ _ _ _ us hl=>len1 us hl fun _=>rfl
 obtain⟨_,_,_,_,_,_,_,_,_,l_qzk,e_qzk,k_qzk⟩:=l_qzk
 have F_qzk:=fun_mk l_qzk e_qzk k_qzk
 have b_qzk:=F_qzk.binds (ps:=["text"]) fun _ _ _ _ _ _ us hl=>len1 us hl fun _=>rfl
 obtain⟨_,_,_,_,_,_,_,_,_,l_qqv,e_qqv,k_qqv⟩:=l_qqv
 have F_qqv:=fun_mk l_qqv e_qqv k_qqv
 have b_qqv:=F_qqv.binds (ps:=["self"]) fun _ _ _ _ _ _ us hl=>len1 us hl fun _=>rfl
 obtain⟨_,_,_,_,_,_,_,_,_,l_qwz,e_qwz,k_qwz⟩:=l_qwz
 have F_qwz:=fun_mk l_qwz e_qwz k_qwz
 have b_qwz:=F_qwz.binds (ps:=["self", "parts"]) fun _ _ _ _ _ _ us hl=>len2 us hl fun _ _=>rfl
 obtain⟨_,_,_,_,_,_,_,_,_,l_qqw,e_qqw,k_qqw⟩:=l_qqw
 have F_qqw:=fun_mk l_qqw e_qqw k_qqw
 have b_qqw:=F_qqw.binds (ps:=["self", "name"]) fun _ _ _ _ _ _ us hl=>len2 us hl fun _ _=>rfl
 obtain⟨_,_,_,_,_,_,_,_,_,l_qqq,e_qqq,k_qqq⟩:=l_qqq
 have F_qqq:=fun_mk l_qqq e_qqq k_qqq
 have b_qqq:=F_qqq.binds (ps:=["self", "kind", "text"]) fun _ _ _ _ _ _ us hl=>len3 us hl fun _ _ _=>rfl
 obtain⟨_,_,_,_,_,_,_,_,_,l_qqx,e_qqx,k_qqx⟩:=l_qqx
 have F_qqx:=fun_mk l_qqx e_qqx k_qqx
 have b_qqx:=F_qqx.binds (ps:=["self", "text"]) fun _ _ _ _ _ _ us hl=>len2 us hl fun _ _=>rfl
 obtain⟨_,_,_,_,_,_,_,_,_,l_qqy,e_qqy,k_qqy⟩:=l_qqy
 have F_qqy:=fun_mk l_qqy e_qqy k_qqy
 have b_qqy:=F_qqy.binds (ps:=["self", "soft", "rule", "name", "text"]) fun _ _ _ _ _ _ us hl=>len5 us hl fun _ _ _ _ _=>rfl
 obtain⟨_,_,_,_,_,_,_,_,_,l_qqz,e_qqz,k_qqz⟩:=l_qqz
 have F_qqz:=fun_mk l_qqz e_qqz k_qqz
 have b_qqz:=F_qqz.binds (ps:=["self", "sort", "name"]) fun _ _ _ _ _ _ us hl=>len3 us hl fun _ _ _=>rfl
 obtain⟨_,_,_,_,_,_,_,_,_,l_qzz,e_qzz,k_qzz⟩:=l_qzz
 have F_qzz:=fun_mk l_qzz e_qzz k_qzz
 have b_qzz:=F_qzz.binds (ps:=["piece"]) fun _ _ _ _ _ _ us hl=>len1 us hl fun _=>rfl
 obtain⟨_,_,_,_,_,_,_,_,_,l_qyz,e_qyz,k_qyz⟩:=l_qyz
 have F_qyz:=fun_mk l_qyz e_qyz k_qyz
 have b_qyz:=F_qyz.binds (ps:=["names"]) fun _ _ _ _ _ _ us hl=>len1 us hl fun _=>rfl
 obtain⟨_,_,_,_,_,_,_,_,_,l_qwk,e_qwk,k_qwk⟩:=l_qwk
 have F_qwk:=fun_mk l_qwk e_qwk k_qwk
 have b_qwk:=F_qwk.binds (ps:=["number", "stretch", "names"]) fun _ _ _ _ _ _ us hl=>len3 us hl fun _ _ _=>rfl
 obtain⟨_,_,_,_,_,_,_,_,_,l_qzj,e_qzj,k_qzj⟩:=l_qzj
 have F_qzj:=fun_mk l_qzj e_qzj k_qzj
 have b_qzj:=F_qzj.binds (ps:=["fills"]) fun _ _ _ _ _ _ us hl=>len1 us hl fun _=>rfl
 obtain⟨_,_,_,_,_,_,_,_,_,l_qwx,e_qwx,k_qwx⟩:=l_qwx
 have F_qwx:=fun_mk l_qwx e_qwx k_qwx
 have b_qwx:=F_qwx.binds (ps:=["_law_script", "_law_k"]) fun _ _ _ _ _ _ us hl=>len2 us hl fun _ _=>rfl
 obtain⟨_,_,_,_,_,_,_,_,_,l_qwv,e_qwv,k_qwv⟩:=l_qwv
 have F_qwv:=fun_mk l_qwv e_qwv k_qwv
 have b_qwv:=F_qwv.binds (ps:=["_law_cell", "_law_k"]) fun _ _ _ _ _ _ us hl=>len2 us hl fun _ _=>rfl
 obtain⟨_,_,_,_,_,_,_,_,_,l_qzw,e_qzw,k_qzw⟩:=l_qzw
 have F_qzw:=fun_mk l_qzw e_qzw k_qzw
 have b_qzw:=F_qzw.binds (ps:=["_law_number"]) fun _ _ _ _ _ _ us hl=>len1 us hl fun _=>rfl
 obtain⟨_,_,_,_,_,_,_,_,_,l_qzq,e_qzq,k_qzq⟩:=l_qzq
 have F_qzq:=fun_mk l_qzq e_qzq k_qzq
 have b_qzq:=F_qzq.binds (ps:=["_law_number", "_law_at", "_law_names_by"]) fun _ _ _ _ _ _ us hl=>len3 us hl fun _ _ _=>rfl
 obtain⟨_,_,_,_,_,_,_,_,_,l_qwy,e_qwy,k_qwy⟩:=l_qwy
 have F_qwy:=fun_mk l_qwy e_qwy k_qwy
 have b_qwy:=F_qwy.binds (ps:=["_law_fill"]) fun _ _ _ _ _ _ us hl=>len1 us hl fun _=>rfl
 obtain⟨_,_,_,_,_,_,_,_,_,l_qwj,e_qwj,k_qwj⟩:=l_qwj
 have F_qwj:=fun_mk l_qwj e_qwj k_qwj
 have b_qwj:=F_qwj.binds (ps:=["_law_cell"]) fun _ _ _ _ _ _ us hl=>len1 us hl fun _=>rfl
 obtain⟨_,_,_,_,_,_,_,_,_,l_qyy,e_qyy,k_qyy⟩:=l_qyy
 have F_qyy:=fun_mk l_qyy e_qyy k_qyy
 have b_qyy:=F_qyy.binds (ps:=["_law_cell", "_law_names_by", "_law_stretches", "_law_told"]) fun _ _ _ _ _ _ us hl=>len4 us hl fun _ _ _ _=>rfl
 obtain⟨_,_,_,_,_,_,_,_,_,l_qzy,e_qzy,k_qzy⟩:=l_qzy
 have F_qzy:=fun_mk l_qzy e_qzy k_qzy
 have b_qzy:=F_qzy.binds (ps:=["_law_script"]) fun _ _ _ _ _ _ us hl=>len1 us hl fun _=>rfl
 obtain⟨_,_,_,_,_,_,_,_,_,l_qyw,e_qyw,k_qyw⟩:=l_qyw
 have F_qyw:=fun_mk l_qyw e_qyw k_qyw
 have b_qyw:=F_qyw.binds (ps:=["_law_piece"]) fun _ _ _ _ _ _ us hl=>len1 us hl fun _=>rfl
 obtain⟨_,_,_,_,_,_,_,_,_,l_qqk,e_qqk,k_qqk⟩:=l_qqk
 have F_qqk:=fun_mk l_qqk e_qqk k_qqk
 have b_qqk:=F_qqk.binds (ps:=["_law_piece", "_law_text"]) fun _ _ _ _ _ _ us hl=>len2 us hl fun _ _=>rfl
 obtain⟨_,_,_,_,_,_,_,_,_,l_law,e_law,k_law⟩:=l_law
 have F_law:=fun_mk l_law e_law k_law
 have b_law:=F_law.binds (ps:=["_law_script"]) fun _ _ _ _ _ _ us hl=>len1 us hl fun _=>rfl
 have T:Txt w K mg { qqj:=f_qqj,fd_qqj:=_,qxy:=f_qxy,fd_qxy:=_,qww:=f_qww,fd_qww:=_,qxz:=f_qxz,fd_qxz:=_,qyq:=f_qyq,fd_qyq:=_,qyj:=f_qyj,fd_qyj:=_,qyx:=f_qyx,fd_qyx:=_,qzk:=f_qzk,fd_qzk:=_,qqv:=f_qqv,fd_qqv:=_,qwz:=f_qwz,fd_qwz:=_,qqw:=f_qqw,fd_qqw:=_,qqq:=f_qqq,fd_qqq:=_,qqx:=f_qqx,fd_qqx:=_,qqy:=f_qqy,fd_qqy:=_,qqz:=f_qqz,fd_qqz:=_,qzz:=f_qzz,fd_qzz:=_,qyz:=f_qyz,fd_qyz:=_,qwk:=f_qwk,fd_qwk:=_,qzj:=f_qzj,fd_qzj:=_,qwx:=f_qwx,fd_qwx:=_,qwv:=f_qwv,fd_qwv:=_,qzw:=f_qzw,fd_qzw:=_,qzq:=f_qzq,fd_qzq:=_,qwy:=f_qwy,fd_qwy:=_,qwj:=f_qwj,fd_qwj:=_,qyy:=f_qyy,fd_qyy:=_,qzy:=f_qzy,fd_qzy:=_,qyw:=f_qyw,fd_qyw:=_,qqk:=f_qqk,fd_qqk:=_,law:=fa,fd_law:=_,t_qyv:=t_qyv,o_qwq:=o_qwq,t_qyk:=t_qyk,t_qzx:=t_qzx,c_High:=C_High,c_qzv:=C_qzv,c_Low:=C_Low,c_Near:=C_Near,c_qxw:=C_qxw,c_qxx:=C_qxx,c_qxq:=C_qxq,c_qxk:=C_qxk,c_qxj:=C_qxj }:={
  k_qqj:=k_qqj
  b_qqj:=b_qqj
  F_qqj:=F_qqj
  m_qxy:=PySem.W.mg_of X G a_qxy
  k_qxy:=k_qxy
  b_qxy:=b_qxy
  F_qxy:=F_qxy
  k_qww:=k_qww
  b_qww:=b_qww
  F_qww:=F_qww
  m_qxz:=PySem.W.mg_of X G a_qxz
  k_qxz:=k_qxz
  b_qxz:=b_qxz
  F_qxz:=F_qxz
  m_qyq:=PySem.W.mg_of X G a_qyq
  k_qyq:=k_qyq
  b_qyq:=b_qyq
  F_qyq:=F_qyq
  m_qyj:=PySem.W.mg_of X G a_qyj
  k_qyj:=k_qyj
  b_qyj:=b_qyj
  F_qyj:=F_qyj
  m_qyx:=PySem.W.mg_of X G a_qyx
  k_qyx:=k_qyx
  b_qyx:=b_qyx
  F_qyx:=F_qyx
  m_qzk:=PySem.W.mg_of X G a_qzk
  k_qzk:=k_qzk
  b_qzk:=b_qzk
  F_qzk:=F_qzk
  k_qqv:=k_qqv
  b_qqv:=b_qqv
  F_qqv:=F_qqv
  k_qwz:=k_qwz
  b_qwz:=b_qwz
  F_qwz:=F_qwz
  k_qqw:=k_qqw
  b_qqw:=b_qqw
  F_qqw:=F_qqw
  k_qqq:=k_qqq
  b_qqq:=b_qqq
  F_qqq:=F_qqq
  k_qqx:=k_qqx
  b_qqx:=b_qqx
  F_qqx:=F_qqx
  k_qqy:=k_qqy
  b_qqy:=b_qqy
  F_qqy:=F_qqy
  k_qqz:=k_qqz
  b_qqz:=b_qqz
  F_qqz:=F_qqz
  m_qzz:=PySem.W.mg_of X G a_qzz
  k_qzz:=k_qzz
  b_qzz:=b_qzz
  F_qzz:=F_qzz
  m_qyz:=PySem.W.mg_of X G a_qyz
  k_qyz:=k_qyz
  b_qyz:=b_qyz
  F_qyz:=F_qyz
  m_qwk:=PySem.W.mg_of X G a_qwk
  k_qwk:=k_qwk
  b_qwk:=b_qwk
  F_qwk:=F_qwk
  m_qzj:=PySem.W.mg_of X G a_qzj
  k_qzj:=k_qzj
  b_qzj:=b_qzj
  F_qzj:=F_qzj
  m_qwx:=PySem.W.mg_of X G a_qwx
  k_qwx:=k_qwx
  b_qwx:=b_qwx
  F_qwx:=F_qwx
  m_qwv:=PySem.W.mg_of X G a_qwv
  k_qwv:=k_qwv
  b_qwv:=b_qwv
  F_qwv:=F_qwv
  m_qzw:=PySem.W.mg_of X G a_qzw
  k_qzw:=k_qzw
  b_qzw:=b_qzw
  F_qzw:=F_qzw
  m_qzq:=PySem.W.mg_of X G a_qzq
  k_qzq:=k_qzq
  b_qzq:=b_qzq
  F_qzq:=F_qzq
  m_qwy:=PySem.W.mg_of X G a_qwy
  k_qwy:=k_qwy
  b_qwy:=b_qwy
  F_qwy:=F_qwy
  m_qwj:=PySem.W.mg_of X G a_qwj
  k_qwj:=k_qwj
  b_qwj:=b_qwj
  F_qwj:=F_qwj
  m_qyy:=PySem.W.mg_of X G a_qyy
  k_qyy:=k_qyy
  b_qyy:=b_qyy
  F_qyy:=F_qyy
  m_qzy:=PySem.W.mg_of X G a_qzy
  k_qzy:=k_qzy
  b_qzy:=b_qzy
  F_qzy:=F_qzy
  m_qyw:=PySem.W.mg_of X G a_qyw
  k_qyw:=k_qyw
  b_qyw:=b_qyw
  F_qyw:=F_qyw
  m_qqk:=PySem.W.mg_of X G a_qqk
  k_qqk:=k_qqk
  b_qqk:=b_qqk
  F_qqk:=F_qqk
  m_law:=PySem.W.mg_of X G a_law
  k_law:=k_law
  b_law:=b_law
  F_law:=F_law
  g_qyv:=PySem.W.mg_of X G g_qyv
  g_qwq:=PySem.W.mg_of X G g_qwq
  g_qyk:=PySem.W.mg_of X G g_qyk
  g_qzx:=PySem.W.mg_of X G g_qzx
  q_qwq:=⟨s_qwq,[("piece", k_qwq_0,.int 2 v_qwq_0),("code", k_qwq_1,.int 2 v_qwq_1),("data", k_qwq_2,.int 2 v_qwq_2),("word", k_qwq_3,.int 2 v_qwq_3),("fill", k_qwq_4,.int 4 v_qwq_4),("soft", k_qwq_5,.int 4 v_qwq_5),("tell", k_qwq_6,.int 2 v_qwq_6),("weak", k_qwq_7,.int 2 v_qwq_7),("own", k_qwq_8,.int 2 v_qwq_8)],n_qwq,l_qwq,(by show (["piece", "code", "data", "word", "fill", "soft", "tell", "weak", "own"]:List Str).Nodup;decide +kernel),.cons ⟨rfl,relI⟩ (.cons ⟨rfl,relI⟩ (.cons ⟨rfl,relI⟩ (.cons ⟨rfl,relI⟩ (.cons ⟨rfl,relI⟩ (.cons ⟨rfl,relI⟩ (.cons ⟨rfl,relI⟩ (.cons ⟨rfl,relI⟩ (.cons ⟨rfl,relI⟩ (.nil)))))))))⟩
  n_all:=PySem.W.mg_none_of X G n_all
  n_enumerate:=PySem.W.mg_none_of X G n_enumerate
  n_int:=PySem.W.mg_none_of X G n_int
  n_isinstance:=PySem.W.mg_none_of X G n_isinstance
  n_len:=PySem.W.mg_none_of X G n_len
  n_list:=PySem.W.mg_none_of X G n_list
  n_range:=PySem.W.mg_none_of X G n_range
  n_str:=PySem.W.mg_none_of X G n_str
  mc_High:=PySem.W.mg_of X G ac_High
  cl_High:=⟨pg_High,hd_High,po_High,sa_High⟩
  mc_qzv:=PySem.W.mg_of X G ac_qzv
  mc_Low:=PySem.W.mg_of X G ac_Low
  cl_Low:=⟨pg_Low,hd_Low,po_Low,sa_Low⟩
  mc_Near:=PySem.W.mg_of X G ac_Near
  cl_Near:=⟨pg_Near,hd_Near,po_Near,sa_Near⟩
  mc_qxw:=PySem.W.mg_of X G ac_qxw
  mc_qxx:=PySem.W.mg_of X G ac_qxx
  mc_qxq:=PySem.W.mg_of X G ac_qxq
  cl_qxq:=⟨pg_qxq,hd_qxq,po_qxq,sa_qxq⟩
  mc_qxk:=PySem.W.mg_of X G ac_qxk
  cl_qxk:=⟨pg_qxk,hd_qxk,po_qxk,sa_qxk⟩
  mc_qxj:=PySem.W.mg_of X G ac_qxj
  cl_qxj:=⟨pg_qxj,hd_qxj,po_qxj,sa_qxj⟩
  kj:=kj
  xg_qxx:=xg_qxx
  xn_qxx:=xn_qxx
  xl_qxx:=xl_qxx
  xo_qxx:=xo_qxx
  xb_qxx:=xb_qxx
  xg_qxw:=xg_qxw
  xn_qxw:=xn_qxw
  xl_qxw:=xl_qxw
  xo_qxw:=xo_qxw
  xb_qxw:=xb_qxw
  sp_cl:=sp_cl
  tk_cl:=tk_cl
  xi_qxx:=xi_qxx
  ei_qxw:=ei_qxw
  ee_qxw:=ee_qxw
  es_qxw:=es_qxw
  br_qzv:=br_qzv
  bf_qzv:=bf_qzv
  bg_qzv:=bg_qzv
  ct_qxx:=ct_qxx
  cb_qxx:=cb_qxx
  er_qxw:=⟨ei_qxw,ee_qxw,es_qxw,i_qqj⟩
  bi_qzv:=⟨br_qzv,bf_qzv,bg_qzv⟩
  mk_High:=⟨mm_High,a_qww,i_qww,kc_High⟩
  mk_Low:=⟨mm_Low,fi_Low,i_qww,kc_Low⟩
  mk_Near:=⟨mm_Near,fi_Near,i_qww,kc_Near⟩
  mk_qxq:=⟨mm_qxq,a_qqv,i_qqv,kc_qxq⟩
  mk_qxk:=⟨mm_qxk,fi_qxk,i_qww,kc_qxk⟩
  mk_qxj:=⟨mm_qxj,fi_qxj,i_qww,kc_qxj⟩
  me_qwz:=⟨a_qwz,i_qwz,k_qwz⟩
  me_qqy:=⟨a_qqy,i_qqy,k_qqy⟩
  me_qqw:=⟨a_qqw,i_qqw,k_qqw⟩
  me_qqq:=⟨a_qqq,i_qqq,k_qqq⟩
  me_qqz:=⟨a_qqz,i_qqz,k_qqz⟩
  me_qqx:=⟨a_qqx,i_qqx,k_qqx⟩
  no_qxw_row:=no_qxw_row
  no_qxq_name:=no_qxq_name
  no_qxq_stretches:=no_qxq_stretches
  no_qxq_names:=no_qxq_names
  no_qxq_last_words:=no_qxq_last_words
  no_qxq_last_fills:=no_qxq_last_fills
  no_qxq_told:=no_qxq_told
  no_qxq_behind_word:=no_qxq_behind_word
  no_qxj_title:=no_qxj_title
  no_High_title:=no_High_title
  no_Low_title:=no_Low_title
  no_Near_title:=no_Near_title
  no_qxk_title:=no_qxk_title }
 exact⟨_,fun s v=>.of_eq rfl,fun base _ _=>G_law T⟩
theorem walk {l:PySem.W.OpenLaw}{q:Program}{loose:List Str}{XP:(Str→Option Value)→Heap→Prop}{YP:World→Heap→Prop}{d:DefRec}{K:Params→Wf}(hn:l.most=some 63) (hdf:d.params.defaults=[])
  (hY:∀(w:World) (h:Heap),YP w h→(K w.params).In h)
  (F:∀(w:World) (mg:So) (fa:Addr) (h:Heap),(K w.params).In h→h.Ns mainGlobals mg→mg d.name=some (.ref fa)→
   ∃fd:FuncData,(∀(s:Shared) (u:Value),BindsTo s fd ⟨[u],[]⟩ [("_law_script", u)])∧∀base:Heap,(K w.params).In base→base.Ns mainGlobals mg→FnOk l.prog w (K w.params) mg base CX0 14 fa fd ["_law_script"] (sp_law (K w.params))):
  PySem.W.WalkO q loose XP YP l.row.toRowW d [] (fun f vs=>PySem.call f vs):=
 L2.walk_of (n:=63) (k:=14) (x := "_law_script") (CX:=fun _=>CX0) (sp:=fun w=>sp_law (K w.params)) hn (by decide) hdf ⟨rfl,by decide,by decide⟩ hY F (fun _ _ a ns hl _ hS=>⟨a,ns,rfl,hS,hl,fun _=>rfl⟩) fun _ _ _ _ _ z=>z
end My
namespace Hd
open PySem PySem.W PySem.Calls PyProof.Rows
variable (P:Params)
noncomputable abbrev pw:Program:=PySem.Challenge.pw_joinload_k13_whole_pieces_both_ways
noncomputable def T (i:Nat):Stmt:=My.top i
noncomputable def C (i j:Nat):Stmt:=L2.inClass (My.top i) j
noncomputable abbrev k (P:Params) (x:Str) (t:Tok) (v:Value):DictEntry:=⟨PyData.keyHash P x,.str x t,v⟩
noncomputable abbrev fn (s:Stmt) (x q:Str) (dV kV doc pm:Value) (an:Option Addr) (cd ct:Value):FuncData:=fnOf x q (L2.defArgs s) (L2.defBody s) (L2.defScope s) dV kV doc pm an cd ct
noncomputable abbrev e1:Obj:=⟨.type "tuple", none,.seq #[] 0,#[]⟩
noncomputable abbrev e2:Obj:=⟨.none,none,.fields #[],#[]⟩
noncomputable abbrev bp:Obj:=⟨.type "builtin_function_or_method", none,.fields #[.builtin "type.__prepare__", .type "type"],#[]⟩
noncomputable abbrev tu (x:Array Value):Obj:=⟨.type "tuple", none,.seq x 0,#[]⟩
noncomputable abbrev nf (x:Array Value):Obj:=⟨.none,none,.fields x,#[]⟩
noncomputable abbrev bs (a:Addr):Obj:=⟨.type "builtin_function_or_method", none,.fields #[.builtin "object.__init_subclass__", .ref a],#[]⟩
noncomputable abbrev su (a:Addr):Obj:=⟨.type "super", none,.fields #[.ref a,.ref a,.ref a],#[]⟩
noncomputable abbrev co (x q:Str) (t:Nat) (l a b:Int) (r:Addr) (o:Bool) (r2:Addr) (v:Value) (u:Nat):Obj:=⟨.type "code", none,.fields #[.str x t,.str q (t+1),.str "/claim/cut.py" (t+2),.int l 0,.int a 0,.int 0 0,.int 0 0,.int b 0,.ref r,.bool o,.int 181 0,.ref r2,.none,.none,.none,v,.int (Int.ofNat u) 0,.int l 0,.str "/claim/cut.py" (u+1)],#[]⟩
noncomputable abbrev fm (a b:Addr) (v:Value):Obj:=⟨.type "frame", none,.plain,#[some (.ref a),some (.ref 3),some (.ref b),none,some v,none,some (.ref 0)]⟩
noncomputable abbrev fo (s:Stmt) (x q m:Str) (t:Nat) (c:Addr):Obj:=⟨.type "function", none,.func (fn s x q .none .none .none (.str m t) none (.ref c) .none),#[]⟩
noncomputable abbrev ft (s:Stmt) (x q:Str):Obj:=⟨.none,none,.func { fn s x q .none .none .none .none none .none .none with globals:=0,closure:=[],builtins:=0 },#[]⟩
noncomputable abbrev di (l:List DictEntry) (n:Nat):Obj:=⟨.type "dict", none,.dict l.toArray n,#[]⟩
noncomputable def sv:List DictEntry→Nat→Value→List DictEntry
 | [],_,_=>[]
 | e::r,0,v=>⟨e.hash,e.key,v⟩::r
 | e::r,n+1,v=>e::sv r n v
noncomputable def od:List (Nat×Obj)→List (Nat×Obj)
 | []=>[]
 | (i,o)::r=>match Nat.beq (i % 2) 1 with
  | true=>(i / 2,o)::od r
  | false=>od r
noncomputable def ev:List (Nat×Obj)→List (Nat×Obj)
 | []=>[]
 | (i,o)::r=>match Nat.beq i 0 with
  | true=>ev r
  | false=>match Nat.beq (i % 2) 1 with
   | true=>ev r
   | false=>(i / 2 - 1,o)::ev r
noncomputable def at0 (v:Obj):List (Nat×Obj)→Obj
 | []=>v
 | (i,o)::r=>match Nat.beq i 0 with
  | true=>o
  | false=>at0 v r
noncomputable def mg:Nat→BT→List (Nat×Obj)→BT
 | 0,t,_=>t
 | f+1,t,d=>match d with
  | []=>t
  | x::r=>match t with
   | .nil=>.node (at0 default (x::r)) (mg f .nil (od (x::r))) (mg f .nil (ev (x::r)))
   | .node v a b=>.node (at0 v (x::r)) (mg f a (od (x::r))) (mg f b (ev (x::r)))
noncomputable def bd:List Stmt:=behindTheImports pw
noncomputable def en:Env:={ scope:=pw.main.scope,locals:=mainNs,globals:=mainNs,cells:=[],code:=(.ref 13),frame:=some 14 }
noncomputable abbrev cE:Code:=.body bd en
noncomputable abbrev B:List Frame:=[topFrame ⟨0,0,0,0⟩]
noncomputable def li:Life:={ registered:=[],finalised:=[],alive:=[],known:=0,ids:=[],orphanDicts:=[],counting:=false,cnt:=⟨[]⟩,zero:=[],soft:=0,below:=false,collecting:=false,loading:=false,debug:=0,thresholds:=[2000,10,10],woke:=false,asked:=0,gcEnabled:=true,old:=[],middle:=[],young:=0,intoMiddle:=false }
noncomputable abbrev an:Option Value:=(some (.ref 6))
noncomputable abbrev sT (t:BT) (n k:Nat) (os:OsState):SharedT:=⟨t,n,li,⟨[]⟩,boot_drawn,k,os⟩
noncomputable abbrev sR (w:World) (n:Nat) (S S':World→OsState→SharedT) (l:List Stmt) (p p':Pos):Prop:=(fun os=>segRunT treeTable pw w 11 an 1 n (S w os) (piecesOf l en cE p B))=fun os=>some (.next,S' w os,cE,p')
noncomputable def o11_0:=e1
noncomputable def o12_0:=e2
noncomputable def o13_0:=co "<module>" "<module>" 182 1 0 0 11 false 12 .none 185
noncomputable def o14_0:=fm 13 3 (.str "__main__" 164)
noncomputable def Ha (P:Params):Heap:=⟨⟨boot_o_0 P::boot_o_1 P::boot_o_2 P::boot_o_3 P::boot_o_4 P::boot_o_5 P::boot_o_6 P::boot_o_7 P::boot_o_8 P::boot_o_9 P::boot_o_10 P::o11_0::o12_0::o13_0::o14_0::[]⟩,li⟩
noncomputable def S0 (w:World) (os:OsState):Shared:=⟨boot_heap w.params,⟨[]⟩,boot_drawn,boot_toks,os⟩
noncomputable def Sa (w:World) (os:OsState):Shared:=⟨Ha w.params,⟨[]⟩,boot_drawn,187,os⟩
def Pre (w:World):Prop:=(fun os=>topGo treeTable pw w 11 an 12 (S0 w os) (topStub pw))=fun os=>some (Sa w os,⟨denote treeTable cE,cE,⟨0,0,0,0⟩,B⟩)
noncomputable def D0 (P:Params):List (Nat×Obj):=(0,boot_o_0 P)::(1,boot_o_1 P)::(2,boot_o_2 P)::(3,boot_o_3 P)::(4,boot_o_4 P)::(5,boot_o_5 P)::(6,boot_o_6 P)::(7,boot_o_7 P)::(8,boot_o_8 P)::(9,boot_o_9 P)::(10,boot_o_10 P)::(11,o11_0)::(12,o12_0)::(13,o13_0)::(14,o14_0)::[]
noncomputable def T0 (P:Params):BT:=mg 14 .nil (D0 P)
noncomputable def S0T (w:World):OsState→SharedT:=sT (T0 w.params) 15 187
def Blk (w:World):Prop:=(fun os=>segRun treeTable pw w 11 an 1 1 (Sa w os) (blockOf bd en cE ⟨0,0,0,0⟩ B))=fun os=>some (.next,(S0T w os).abs,cE,⟨0,0,0,0⟩)
noncomputable def g3_2 (P:Params):List DictEntry:=[k P "__name__" 165 (.str "joinload.rules" 292),k P "__doc__" 166 .none,k P "__package__" 167 .none,k P "__loader__" 168 (.builtin "__main__.__loader__#opaque"),k P "__spec__" 169 .none,k P "__annotations__" 170 (.ref 6),k P "__builtins__" 171 (.ref 4),k P "__file__" 173 (.str "/claim/cut.py" 172),k P "__cached__" 174 .none,k P "_wall" 193 (.ref 21),k P "JoinError" 213 (.ref 31),k P "NoRule" 229 (.ref 44),k P "NoPiece" 254 (.ref 63),k P "WORD_COUNT" 258 (.int (4294967296) 257),k P "wrapped" 265 (.ref 72),k P "with_field" 276 (.ref 79),k P "ones" 283 (.ref 86),k P "moved" 291 (.ref 93),k P "rule_of" 300 (.ref 100)]
noncomputable def o3_2:Obj:=⟨(.type "dict"),none,.dict (g3_2 P).toArray 19,#[]⟩
noncomputable def o12_2:=nf #[(.int (1) 0),(.int (0) 0),(.ref 20),(.int (5) 0),(.int (0) 0),(.ref 27),(.int (7) 0),(.int (0) 0),(.ref 40),(.int (9) 0),(.int (0) 0),(.ref 52),(.int (16) 0),(.int (0) 0),(.ref 71),(.int (18) 0),(.int (0) 0),(.ref 78),(.int (21) 0),(.int (0) 0),(.ref 85),(.int (23) 0),(.int (0) 0),(.ref 92),(.int (28) 0),(.int (0) 0),(.ref 99)]
noncomputable def o15_2:=e1
noncomputable def o16_2:=e2
noncomputable def o17_2:=tu #[(.str "k" 190)]
noncomputable def o18_2:=e1
noncomputable def o19_2:=ft (T 0) "_wall" "_wall"
noncomputable def o20_2:Obj:=⟨(.type "code"),none,(.fields #[(.str "_wall" 187),(.str "_wall" 188),(.str "/claim/cut.py" 189),(.int (1) 0),(.int (1) 0),(.int (0) 0),(.int (0) 0),(.int (3) 0),(.ref 15),(.bool true),(.int (181) 0),(.ref 16),.none,(.ref 17),(.ref 18),(.ref 19),(.int (191) 0),(.int (1) 0),(.str "/claim/cut.py" 192)]),#[]⟩
noncomputable def o21_2:=fo (T 0) "_wall" "_wall" "__main__" 164 20
noncomputable def o22_2:=tu #[(.type "ValueError")]
noncomputable def o23_2:=bp
noncomputable def o24_2:=di [k P "__module__" 203 (.str "joinload.errors" 194),k P "__qualname__" 205 (.str "JoinError" 204),k P "__firstlineno__" 207 (.int (5) 206),k P "__static_attributes__" 208 (.ref 29)] 4
noncomputable def o25_2:=e1
noncomputable def o26_2:=e2
noncomputable def o27_2:=co "JoinError" "JoinError" 198 5 0 0 25 false 26 .none 201
noncomputable def o28_2:=fm 27 24 (.str "joinload.errors" 194)
noncomputable def o29_2:=e1
noncomputable def o30_2:=di [k P "__module__" 203 (.str "joinload.errors" 194),k P "__firstlineno__" 207 (.int (5) 206),k P "__static_attributes__" 208 (.ref 29),k P "__weakref__" 210 (.ref 32),k P "__doc__" 211 .none] 3
noncomputable def o31_2:Obj:=⟨(.type "type"),none,(.cls ⟨"JoinError", [(.type "ValueError")],[(.ref 31),(.type "ValueError"),(.type "Exception"),(.type "BaseException"),(.type "object")],30, "JoinError", true,[],[(.ref 44),(.ref 63)],false,none,false⟩),#[(some (.ref 22)),none,(some (.str "JoinError" 196)),(some (.str "JoinError" 204)),(some (.builtin "ValueError.__new__")),(some (.bool true))]⟩
noncomputable def o32_2:Obj:=⟨(.type "getset_descriptor"),none,(.fields #[(.str "__weakref__" 209),(.ref 31),(.builtin "ExceptionGroup.__weakref__"),.none]),#[]⟩
noncomputable def o33_2:=su 31
noncomputable def o34_2:=bs 31
noncomputable def o35_2:=tu #[(.ref 31)]
noncomputable def o36_2:=bp
noncomputable def o37_2:=di [k P "__module__" 221 (.str "joinload.errors" 194),k P "__qualname__" 223 (.str "NoRule" 222),k P "__firstlineno__" 225 (.int (7) 224),k P "__static_attributes__" 226 (.ref 42)] 4
noncomputable def o38_2:=e1
noncomputable def o39_2:=e2
noncomputable def o40_2:=co "NoRule" "NoRule" 216 7 0 0 38 false 39 .none 219
noncomputable def o41_2:=fm 40 37 (.str "joinload.errors" 194)
noncomputable def o42_2:=e1
noncomputable def o43_2:=di [k P "__module__" 221 (.str "joinload.errors" 194),k P "__firstlineno__" 225 (.int (7) 224),k P "__static_attributes__" 226 (.ref 42),k P "__doc__" 227 .none] 2
noncomputable def o44_2:Obj:=⟨(.type "type"),none,(.cls ⟨"NoRule", [(.ref 31)],[(.ref 44),(.ref 31),(.type "ValueError"),(.type "Exception"),(.type "BaseException"),(.type "object")],43, "NoRule", true,[],[],false,none,false⟩),#[(some (.ref 35)),none,(some (.str "NoRule" 214)),(some (.str "NoRule" 222)),(some (.builtin "ValueError.__new__")),(some (.bool true))]⟩
noncomputable def o45_2:=su 44
noncomputable def o46_2:=bs 44
noncomputable def o47_2:=tu #[(.ref 31)]
noncomputable def o48_2:=bp
noncomputable def o49_2:=di [k P "__module__" 237 (.str "joinload.errors" 194),k P "__qualname__" 239 (.str "NoPiece" 238),k P "__firstlineno__" 241 (.int (9) 240),k P "__init__" 249 (.ref 60),k P "__static_attributes__" 251 (.ref 61)] 5
noncomputable def o50_2:=e1
noncomputable def o51_2:=nf #[(.int (11) 0),(.int (4) 0),(.ref 59)]
noncomputable def o52_2:=co "NoPiece" "NoPiece" 232 9 0 0 50 false 51 .none 235
noncomputable def o53_2:=fm 52 49 (.str "joinload.errors" 194)
noncomputable def o54_2:=e1
noncomputable def o55_2:=e2
noncomputable def o56_2:=tu #[(.str "self" 245),(.str "row" 246)]
noncomputable def o57_2:=e1
noncomputable def o58_2:=ft (C 4 0) "__init__" "NoPiece.__init__"
noncomputable def o59_2:Obj:=⟨(.type "code"),none,(.fields #[(.str "__init__" 242),(.str "NoPiece.__init__" 243),(.str "/claim/cut.py" 244),(.int (11) 0),(.int (2) 0),(.int (0) 0),(.int (0) 0),(.int (3) 0),(.ref 54),(.bool true),(.int (181) 0),(.ref 55),.none,(.ref 56),(.ref 57),(.ref 58),(.int (247) 0),(.int (11) 0),(.str "/claim/cut.py" 248)]),#[]⟩
noncomputable def o60_2:=fo (C 4 0) "__init__" "NoPiece.__init__" "joinload.errors" 194 59
noncomputable def o61_2:=tu #[(.str "row" 250)]
noncomputable def o62_2:=di [k P "__module__" 237 (.str "joinload.errors" 194),k P "__firstlineno__" 241 (.int (9) 240),k P "__init__" 249 (.ref 60),k P "__static_attributes__" 251 (.ref 61),k P "__doc__" 252 .none] 2
noncomputable def o63_2:Obj:=⟨(.type "type"),none,(.cls ⟨"NoPiece", [(.ref 31)],[(.ref 63),(.ref 31),(.type "ValueError"),(.type "Exception"),(.type "BaseException"),(.type "object")],62, "NoPiece", true,[],[],false,none,false⟩),#[(some (.ref 47)),none,(some (.str "NoPiece" 230)),(some (.str "NoPiece" 238)),(some (.builtin "ValueError.__new__")),(some (.bool true))]⟩
noncomputable def o64_2:=su 63
noncomputable def o65_2:=bs 63
noncomputable def o66_2:=e1
noncomputable def o67_2:=e2
noncomputable def o68_2:=tu #[(.str "number" 262)]
noncomputable def o69_2:=e1
noncomputable def o70_2:=ft (T 7) "wrapped" "wrapped"
noncomputable def o71_2:Obj:=⟨(.type "code"),none,(.fields #[(.str "wrapped" 259),(.str "wrapped" 260),(.str "/claim/cut.py" 261),(.int (16) 0),(.int (1) 0),(.int (0) 0),(.int (0) 0),(.int (3) 0),(.ref 66),(.bool true),(.int (181) 0),(.ref 67),.none,(.ref 68),(.ref 69),(.ref 70),(.int (263) 0),(.int (16) 0),(.str "/claim/cut.py" 264)]),#[]⟩
noncomputable def o72_2:=fo (T 7) "wrapped" "wrapped" "joinload.bits" 255 71
noncomputable def o73_2:=e1
noncomputable def o74_2:=e2
noncomputable def o75_2:=tu #[(.str "word" 269),(.str "low" 270),(.str "many" 271),(.str "number" 272),(.str "others" 273)]
noncomputable def o76_2:=e1
noncomputable def o77_2:=ft (T 8) "with_field" "with_field"
noncomputable def o78_2:Obj:=⟨(.type "code"),none,(.fields #[(.str "with_field" 266),(.str "with_field" 267),(.str "/claim/cut.py" 268),(.int (18) 0),(.int (4) 0),(.int (0) 0),(.int (0) 0),(.int (3) 0),(.ref 73),(.bool true),(.int (181) 0),(.ref 74),.none,(.ref 75),(.ref 76),(.ref 77),(.int (274) 0),(.int (18) 0),(.str "/claim/cut.py" 275)]),#[]⟩
noncomputable def o79_2:=fo (T 8) "with_field" "with_field" "joinload.bits" 255 78
noncomputable def o80_2:=e1
noncomputable def o81_2:=e2
noncomputable def o82_2:=tu #[(.str "many" 280)]
noncomputable def o83_2:=e1
noncomputable def o84_2:=ft (T 9) "ones" "ones"
noncomputable def o85_2:Obj:=⟨(.type "code"),none,(.fields #[(.str "ones" 277),(.str "ones" 278),(.str "/claim/cut.py" 279),(.int (21) 0),(.int (1) 0),(.int (0) 0),(.int (0) 0),(.int (3) 0),(.ref 80),(.bool true),(.int (181) 0),(.ref 81),.none,(.ref 82),(.ref 83),(.ref 84),(.int (281) 0),(.int (21) 0),(.str "/claim/cut.py" 282)]),#[]⟩
noncomputable def o86_2:=fo (T 9) "ones" "ones" "joinload.bits" 255 85
noncomputable def o87_2:=e1
noncomputable def o88_2:=e2
noncomputable def o89_2:=tu #[(.str "number" 287),(.str "up" 288)]
noncomputable def o90_2:=e1
noncomputable def o91_2:=ft (T 10) "moved" "moved"
noncomputable def o92_2:Obj:=⟨(.type "code"),none,(.fields #[(.str "moved" 284),(.str "moved" 285),(.str "/claim/cut.py" 286),(.int (23) 0),(.int (2) 0),(.int (0) 0),(.int (0) 0),(.int (3) 0),(.ref 87),(.bool true),(.int (181) 0),(.ref 88),.none,(.ref 89),(.ref 90),(.ref 91),(.int (289) 0),(.int (23) 0),(.str "/claim/cut.py" 290)]),#[]⟩
noncomputable def o93_2:=fo (T 10) "moved" "moved" "joinload.bits" 255 92
noncomputable def o94_2:=e1
noncomputable def o95_2:=e2
noncomputable def o96_2:=tu #[(.str "title" 297)]
noncomputable def o97_2:=e1
noncomputable def o98_2:=ft (T 12) "rule_of" "rule_of"
noncomputable def o99_2:Obj:=⟨(.type "code"),none,(.fields #[(.str "rule_of" 294),(.str "rule_of" 295),(.str "/claim/cut.py" 296),(.int (28) 0),(.int (1) 0),(.int (0) 0),(.int (0) 0),(.int (3) 0),(.ref 94),(.bool true),(.int (181) 0),(.ref 95),.none,(.ref 96),(.ref 97),(.ref 98),(.int (298) 0),(.int (28) 0),(.str "/claim/cut.py" 299)]),#[]⟩
noncomputable def o100_2:=fo (T 12) "rule_of" "rule_of" "joinload.rules" 292 99
noncomputable def d1_0 (P:Params) (r:List (Nat×Obj)):List (Nat×Obj):=(3,o3_2 P)::(12,o12_2)::(15,o15_2)::(16,o16_2)::(17,o17_2)::(18,o18_2)::(19,o19_2)::(20,o20_2)::(21,o21_2)::(22,o22_2)::(23,o23_2)::(24,o24_2 P)::(25,o25_2)::(26,o26_2)::(27,o27_2)::(28,o28_2)::(29,o29_2)::(30,o30_2 P)::(31,o31_2)::(32,o32_2)::(33,o33_2)::(34,o34_2)::(35,o35_2)::(36,o36_2)::r
noncomputable def d1_1 (P:Params) (r:List (Nat×Obj)):List (Nat×Obj):=(37,o37_2 P)::(38,o38_2)::(39,o39_2)::(40,o40_2)::(41,o41_2)::(42,o42_2)::(43,o43_2 P)::(44,o44_2)::(45,o45_2)::(46,o46_2)::(47,o47_2)::(48,o48_2)::(49,o49_2 P)::(50,o50_2)::(51,o51_2)::(52,o52_2)::(53,o53_2)::(54,o54_2)::(55,o55_2)::(56,o56_2)::(57,o57_2)::(58,o58_2)::(59,o59_2)::(60,o60_2)::r
noncomputable def d1_2 (P:Params) (r:List (Nat×Obj)):List (Nat×Obj):=(61,o61_2)::(62,o62_2 P)::(63,o63_2)::(64,o64_2)::(65,o65_2)::(66,o66_2)::(67,o67_2)::(68,o68_2)::(69,o69_2)::(70,o70_2)::(71,o71_2)::(72,o72_2)::(73,o73_2)::(74,o74_2)::(75,o75_2)::(76,o76_2)::(77,o77_2)::(78,o78_2)::(79,o79_2)::(80,o80_2)::(81,o81_2)::(82,o82_2)::(83,o83_2)::(84,o84_2)::r
noncomputable def d1_3 (P:Params) (r:List (Nat×Obj)):List (Nat×Obj):=(85,o85_2)::(86,o86_2)::(87,o87_2)::(88,o88_2)::(89,o89_2)::(90,o90_2)::(91,o91_2)::(92,o92_2)::(93,o93_2)::(94,o94_2)::(95,o95_2)::(96,o96_2)::(97,o97_2)::(98,o98_2)::(99,o99_2)::(100,o100_2)::r
noncomputable def T1 (P:Params):BT:=mg 14 (T0 P) (d1_0 P (d1_1 P (d1_2 P (d1_3 P ([])))))
noncomputable def S1T (w:World):OsState→SharedT:=sT (T1 w.params) 101 301
noncomputable def L0:List Stmt:=My.top 0::My.top 1::My.top 2::My.top 3::My.top 4::My.top 5::My.top 6::My.top 7::My.top 8::My.top 9::My.top 10::My.top 11::My.top 12::[]
def P0 (w:World):Prop:=sR w 860 S0T S1T L0 ⟨0,0,0,0⟩ ⟨28,0,39,48⟩
noncomputable def g3_3 (P:Params):List DictEntry:=g3_2 P++[k P "Rule" 364 (.ref 145),k P "Whole" 399 (.ref 173)]
noncomputable def o3_3:Obj:=⟨(.type "dict"),none,.dict (g3_3 P).toArray 21,#[]⟩
noncomputable def o12_3:=nf #[(.int (1) 0),(.int (0) 0),(.ref 20),(.int (5) 0),(.int (0) 0),(.ref 27),(.int (7) 0),(.int (0) 0),(.ref 40),(.int (9) 0),(.int (0) 0),(.ref 52),(.int (16) 0),(.int (0) 0),(.ref 71),(.int (18) 0),(.int (0) 0),(.ref 78),(.int (21) 0),(.int (0) 0),(.ref 85),(.int (23) 0),(.int (0) 0),(.ref 92),(.int (28) 0),(.int (0) 0),(.ref 99),(.int (40) 0),(.int (0) 0),(.ref 106),(.int (56) 0),(.int (0) 0),(.ref 155)]
noncomputable def o101_3:=e1
noncomputable def o102_3:=bp
noncomputable def g103_3 (P:Params):List DictEntry:=[k P "__module__" 308 (.str "joinload.rules" 292),k P "__qualname__" 310 (.str "Rule" 309),k P "__firstlineno__" 312 (.int (40) 311),k P "__init__" 320 (.ref 114),k P "fits" 329 (.ref 121),k P "filled" 339 (.ref 128),k P "read_back" 348 (.ref 135),k P "leans" 355 (.ref 142),k P "__static_attributes__" 357 (.ref 143)]
noncomputable def o103_3:Obj:=⟨(.type "dict"),none,.dict (g103_3 P).toArray 9,#[]⟩
noncomputable def o104_3:=e1
noncomputable def o105_3:=nf #[(.int (42) 0),(.int (4) 0),(.ref 113),(.int (45) 0),(.int (4) 0),(.ref 120),(.int (48) 0),(.int (4) 0),(.ref 127),(.int (51) 0),(.int (4) 0),(.ref 134),(.int (54) 0),(.int (4) 0),(.ref 141)]
noncomputable def o106_3:=co "Rule" "Rule" 303 40 0 0 104 false 105 .none 306
noncomputable def o107_3:=fm 106 103 (.str "joinload.rules" 292)
noncomputable def o108_3:=e1
noncomputable def o109_3:=e2
noncomputable def o110_3:=tu #[(.str "self" 316),(.str "title" 317)]
noncomputable def o111_3:=e1
noncomputable def o112_3:=ft (C 13 0) "__init__" "Rule.__init__"
noncomputable def o113_3:Obj:=⟨(.type "code"),none,(.fields #[(.str "__init__" 313),(.str "Rule.__init__" 314),(.str "/claim/cut.py" 315),(.int (42) 0),(.int (2) 0),(.int (0) 0),(.int (0) 0),(.int (3) 0),(.ref 108),(.bool true),(.int (181) 0),(.ref 109),.none,(.ref 110),(.ref 111),(.ref 112),(.int (318) 0),(.int (42) 0),(.str "/claim/cut.py" 319)]),#[]⟩
noncomputable def o114_3:=fo (C 13 0) "__init__" "Rule.__init__" "joinload.rules" 292 113
noncomputable def o115_3:=e1
noncomputable def o116_3:=e2
noncomputable def o117_3:=tu #[(.str "self" 324),(.str "here" 325),(.str "there" 326)]
noncomputable def o118_3:=e1
noncomputable def o119_3:=ft (C 13 1) "fits" "Rule.fits"
noncomputable def o120_3:Obj:=⟨(.type "code"),none,(.fields #[(.str "fits" 321),(.str "Rule.fits" 322),(.str "/claim/cut.py" 323),(.int (45) 0),(.int (3) 0),(.int (0) 0),(.int (0) 0),(.int (3) 0),(.ref 115),(.bool true),(.int (181) 0),(.ref 116),.none,(.ref 117),(.ref 118),(.ref 119),(.int (327) 0),(.int (45) 0),(.str "/claim/cut.py" 328)]),#[]⟩
noncomputable def o121_3:=fo (C 13 1) "fits" "Rule.fits" "joinload.rules" 292 120
noncomputable def o122_3:=e1
noncomputable def o123_3:=e2
noncomputable def o124_3:=tu #[(.str "self" 333),(.str "word" 334),(.str "here" 335),(.str "there" 336)]
noncomputable def o125_3:=e1
noncomputable def o126_3:=ft (C 13 2) "filled" "Rule.filled"
noncomputable def o127_3:Obj:=⟨(.type "code"),none,(.fields #[(.str "filled" 330),(.str "Rule.filled" 331),(.str "/claim/cut.py" 332),(.int (48) 0),(.int (4) 0),(.int (0) 0),(.int (0) 0),(.int (3) 0),(.ref 122),(.bool true),(.int (181) 0),(.ref 123),.none,(.ref 124),(.ref 125),(.ref 126),(.int (337) 0),(.int (48) 0),(.str "/claim/cut.py" 338)]),#[]⟩
noncomputable def o128_3:=fo (C 13 2) "filled" "Rule.filled" "joinload.rules" 292 127
noncomputable def o129_3:=e1
noncomputable def o130_3:=e2
noncomputable def o131_3:=tu #[(.str "self" 343),(.str "word" 344),(.str "here" 345)]
noncomputable def o132_3:=e1
noncomputable def o133_3:=ft (C 13 3) "read_back" "Rule.read_back"
noncomputable def o134_3:Obj:=⟨(.type "code"),none,(.fields #[(.str "read_back" 340),(.str "Rule.read_back" 341),(.str "/claim/cut.py" 342),(.int (51) 0),(.int (3) 0),(.int (0) 0),(.int (0) 0),(.int (3) 0),(.ref 129),(.bool true),(.int (181) 0),(.ref 130),.none,(.ref 131),(.ref 132),(.ref 133),(.int (346) 0),(.int (51) 0),(.str "/claim/cut.py" 347)]),#[]⟩
noncomputable def o135_3:=fo (C 13 3) "read_back" "Rule.read_back" "joinload.rules" 292 134
noncomputable def o136_3:=e1
noncomputable def o137_3:=e2
noncomputable def o138_3:=tu #[(.str "self" 352)]
noncomputable def o139_3:=e1
noncomputable def o140_3:=ft (C 13 4) "leans" "Rule.leans"
noncomputable def o141_3:Obj:=⟨(.type "code"),none,(.fields #[(.str "leans" 349),(.str "Rule.leans" 350),(.str "/claim/cut.py" 351),(.int (54) 0),(.int (1) 0),(.int (0) 0),(.int (0) 0),(.int (3) 0),(.ref 136),(.bool true),(.int (181) 0),(.ref 137),.none,(.ref 138),(.ref 139),(.ref 140),(.int (353) 0),(.int (54) 0),(.str "/claim/cut.py" 354)]),#[]⟩
noncomputable def o142_3:=fo (C 13 4) "leans" "Rule.leans" "joinload.rules" 292 141
noncomputable def o143_3:=tu #[(.str "title" 356)]
noncomputable def g144_3 (P:Params):List DictEntry:=[k P "__module__" 308 (.str "joinload.rules" 292),k P "__firstlineno__" 312 (.int (40) 311),k P "__init__" 320 (.ref 114),k P "fits" 329 (.ref 121),k P "filled" 339 (.ref 128),k P "read_back" 348 (.ref 135),k P "leans" 355 (.ref 142),k P "__static_attributes__" 357 (.ref 143),k P "__dict__" 359 (.ref 146),k P "__weakref__" 361 (.ref 147),k P "__doc__" 362 .none]
noncomputable def o144_3:Obj:=⟨(.type "dict"),none,.dict (g144_3 P).toArray 4,#[]⟩
noncomputable def o145_3:Obj:=⟨(.type "type"),none,(.cls ⟨"Rule", [(.type "object")],[(.ref 145),(.type "object")],144, "Rule", true,[],[(.ref 173)],false,none,false⟩),#[none,none,(some (.str "Rule" 301)),(some (.str "Rule" 309)),(some (.builtin "object.__new__")),(some (.bool true))]⟩
noncomputable def o146_3:Obj:=⟨(.type "getset_descriptor"),none,(.fields #[(.str "__dict__" 358),(.ref 145),(.builtin "function.__dict__"),(.builtin "function.__dict__#set")]),#[]⟩
noncomputable def o147_3:Obj:=⟨(.type "getset_descriptor"),none,(.fields #[(.str "__weakref__" 360),(.ref 145),(.builtin "ExceptionGroup.__weakref__"),.none]),#[]⟩
noncomputable def o148_3:=su 145
noncomputable def o149_3:=bs 145
noncomputable def o150_3:=tu #[(.ref 145)]
noncomputable def o151_3:=bp
noncomputable def o152_3:=di [k P "__module__" 372 (.str "joinload.rules" 292),k P "__qualname__" 374 (.str "Whole" 373),k P "__firstlineno__" 376 (.int (56) 375),k P "filled" 386 (.ref 163),k P "read_back" 395 (.ref 170),k P "__static_attributes__" 396 (.ref 171)] 6
noncomputable def o153_3:=e1
noncomputable def o154_3:=nf #[(.int (58) 0),(.int (4) 0),(.ref 162),(.int (61) 0),(.int (4) 0),(.ref 169)]
noncomputable def o155_3:=co "Whole" "Whole" 367 56 0 0 153 false 154 .none 370
noncomputable def o156_3:=fm 155 152 (.str "joinload.rules" 292)
noncomputable def o157_3:=e1
noncomputable def o158_3:=e2
noncomputable def o159_3:=tu #[(.str "self" 380),(.str "word" 381),(.str "here" 382),(.str "there" 383)]
noncomputable def o160_3:=e1
noncomputable def o161_3:=ft (C 14 0) "filled" "Whole.filled"
noncomputable def o162_3:Obj:=⟨(.type "code"),none,(.fields #[(.str "filled" 377),(.str "Whole.filled" 378),(.str "/claim/cut.py" 379),(.int (58) 0),(.int (4) 0),(.int (0) 0),(.int (0) 0),(.int (3) 0),(.ref 157),(.bool true),(.int (181) 0),(.ref 158),.none,(.ref 159),(.ref 160),(.ref 161),(.int (384) 0),(.int (58) 0),(.str "/claim/cut.py" 385)]),#[]⟩
noncomputable def o163_3:=fo (C 14 0) "filled" "Whole.filled" "joinload.rules" 292 162
noncomputable def o164_3:=e1
noncomputable def o165_3:=e2
noncomputable def o166_3:=tu #[(.str "self" 390),(.str "word" 391),(.str "here" 392)]
noncomputable def o167_3:=e1
noncomputable def o168_3:=ft (C 14 1) "read_back" "Whole.read_back"
noncomputable def o169_3:Obj:=⟨(.type "code"),none,(.fields #[(.str "read_back" 387),(.str "Whole.read_back" 388),(.str "/claim/cut.py" 389),(.int (61) 0),(.int (3) 0),(.int (0) 0),(.int (0) 0),(.int (3) 0),(.ref 164),(.bool true),(.int (181) 0),(.ref 165),.none,(.ref 166),(.ref 167),(.ref 168),(.int (393) 0),(.int (61) 0),(.str "/claim/cut.py" 394)]),#[]⟩
noncomputable def o170_3:=fo (C 14 1) "read_back" "Whole.read_back" "joinload.rules" 292 169
noncomputable def o171_3:=e1
noncomputable def o172_3:=di [k P "__module__" 372 (.str "joinload.rules" 292),k P "__firstlineno__" 376 (.int (56) 375),k P "filled" 386 (.ref 163),k P "read_back" 395 (.ref 170),k P "__static_attributes__" 396 (.ref 171),k P "__doc__" 397 .none] 2
noncomputable def o173_3:Obj:=⟨(.type "type"),none,(.cls ⟨"Whole", [(.ref 145)],[(.ref 173),(.ref 145),(.type "object")],172, "Whole", true,[],[],false,none,false⟩),#[(some (.ref 150)),none,(some (.str "Whole" 365)),(some (.str "Whole" 373)),(some (.builtin "object.__new__")),(some (.bool true))]⟩
noncomputable def o174_3:=su 173
noncomputable def o175_3:=bs 173
noncomputable def d2_0 (P:Params) (r:List (Nat×Obj)):List (Nat×Obj):=(3,o3_3 P)::(12,o12_3)::(101,o101_3)::(102,o102_3)::(103,o103_3 P)::(104,o104_3)::(105,o105_3)::(106,o106_3)::(107,o107_3)::(108,o108_3)::(109,o109_3)::(110,o110_3)::(111,o111_3)::(112,o112_3)::(113,o113_3)::(114,o114_3)::(115,o115_3)::(116,o116_3)::(117,o117_3)::(118,o118_3)::(119,o119_3)::(120,o120_3)::(121,o121_3)::(122,o122_3)::r
noncomputable def d2_1 (P:Params) (r:List (Nat×Obj)):List (Nat×Obj):=(123,o123_3)::(124,o124_3)::(125,o125_3)::(126,o126_3)::(127,o127_3)::(128,o128_3)::(129,o129_3)::(130,o130_3)::(131,o131_3)::(132,o132_3)::(133,o133_3)::(134,o134_3)::(135,o135_3)::(136,o136_3)::(137,o137_3)::(138,o138_3)::(139,o139_3)::(140,o140_3)::(141,o141_3)::(142,o142_3)::(143,o143_3)::(144,o144_3 P)::(145,o145_3)::(146,o146_3)::r
noncomputable def d2_2 (P:Params) (r:List (Nat×Obj)):List (Nat×Obj):=(147,o147_3)::(148,o148_3)::(149,o149_3)::(150,o150_3)::(151,o151_3)::(152,o152_3 P)::(153,o153_3)::(154,o154_3)::(155,o155_3)::(156,o156_3)::(157,o157_3)::(158,o158_3)::(159,o159_3)::(160,o160_3)::(161,o161_3)::(162,o162_3)::(163,o163_3)::(164,o164_3)::(165,o165_3)::(166,o166_3)::(167,o167_3)::(168,o168_3)::(169,o169_3)::(170,o170_3)::r
noncomputable def d2_3 (P:Params) (r:List (Nat×Obj)):List (Nat×Obj):=(171,o171_3)::(172,o172_3 P)::(173,o173_3)::(174,o174_3)::(175,o175_3)::r
noncomputable def T2 (P:Params):BT:=mg 14 (T1 P) (d2_0 P (d2_1 P (d2_2 P (d2_3 P ([])))))
noncomputable def S2T (w:World):OsState→SharedT:=sT (T2 w.params) 176 400
noncomputable def L1:List Stmt:=My.top 13::My.top 14::[]
def P1 (w:World):Prop:=sR w 633 S1T S2T L1 ⟨28,0,39,48⟩ ⟨56,0,62,16⟩
noncomputable def g3_4 (P:Params):List DictEntry:=g3_3 P++[k P "High" 434 (.ref 199),k P "Low" 469 (.ref 225)]
noncomputable def o3_4:Obj:=⟨(.type "dict"),none,.dict (g3_4 P).toArray 23,#[]⟩
noncomputable def o12_4:=nf #[(.int (1) 0),(.int (0) 0),(.ref 20),(.int (5) 0),(.int (0) 0),(.ref 27),(.int (7) 0),(.int (0) 0),(.ref 40),(.int (9) 0),(.int (0) 0),(.ref 52),(.int (16) 0),(.int (0) 0),(.ref 71),(.int (18) 0),(.int (0) 0),(.ref 78),(.int (21) 0),(.int (0) 0),(.ref 85),(.int (23) 0),(.int (0) 0),(.ref 92),(.int (28) 0),(.int (0) 0),(.ref 99),(.int (40) 0),(.int (0) 0),(.ref 106),(.int (56) 0),(.int (0) 0),(.ref 155),(.int (63) 0),(.int (0) 0),(.ref 181),(.int (70) 0),(.int (0) 0),(.ref 207)]
noncomputable def o145_4:Obj:=⟨(.type "type"),none,(.cls ⟨"Rule", [(.type "object")],[(.ref 145),(.type "object")],144, "Rule", true,[],[(.ref 173),(.ref 199),(.ref 225)],false,none,false⟩),#[none,none,(some (.str "Rule" 301)),(some (.str "Rule" 309)),(some (.builtin "object.__new__")),(some (.bool true))]⟩
noncomputable def o176_4:=tu #[(.ref 145)]
noncomputable def o177_4:=bp
noncomputable def o178_4:=di [k P "__module__" 407 (.str "joinload.rules" 292),k P "__qualname__" 409 (.str "High" 408),k P "__firstlineno__" 411 (.int (63) 410),k P "filled" 421 (.ref 189),k P "read_back" 430 (.ref 196),k P "__static_attributes__" 431 (.ref 197)] 6
noncomputable def o179_4:=e1
noncomputable def o180_4:=nf #[(.int (65) 0),(.int (4) 0),(.ref 188),(.int (68) 0),(.int (4) 0),(.ref 195)]
noncomputable def o181_4:=co "High" "High" 402 63 0 0 179 false 180 .none 405
noncomputable def o182_4:=fm 181 178 (.str "joinload.rules" 292)
noncomputable def o183_4:=e1
noncomputable def o184_4:=e2
noncomputable def o185_4:=tu #[(.str "self" 415),(.str "word" 416),(.str "here" 417),(.str "there" 418)]
noncomputable def o186_4:=e1
noncomputable def o187_4:=ft (C 15 0) "filled" "High.filled"
noncomputable def o188_4:Obj:=⟨(.type "code"),none,(.fields #[(.str "filled" 412),(.str "High.filled" 413),(.str "/claim/cut.py" 414),(.int (65) 0),(.int (4) 0),(.int (0) 0),(.int (0) 0),(.int (3) 0),(.ref 183),(.bool true),(.int (181) 0),(.ref 184),.none,(.ref 185),(.ref 186),(.ref 187),(.int (419) 0),(.int (65) 0),(.str "/claim/cut.py" 420)]),#[]⟩
noncomputable def o189_4:=fo (C 15 0) "filled" "High.filled" "joinload.rules" 292 188
noncomputable def o190_4:=e1
noncomputable def o191_4:=e2
noncomputable def o192_4:=tu #[(.str "self" 425),(.str "word" 426),(.str "here" 427)]
noncomputable def o193_4:=e1
noncomputable def o194_4:=ft (C 15 1) "read_back" "High.read_back"
noncomputable def o195_4:Obj:=⟨(.type "code"),none,(.fields #[(.str "read_back" 422),(.str "High.read_back" 423),(.str "/claim/cut.py" 424),(.int (68) 0),(.int (3) 0),(.int (0) 0),(.int (0) 0),(.int (3) 0),(.ref 190),(.bool true),(.int (181) 0),(.ref 191),.none,(.ref 192),(.ref 193),(.ref 194),(.int (428) 0),(.int (68) 0),(.str "/claim/cut.py" 429)]),#[]⟩
noncomputable def o196_4:=fo (C 15 1) "read_back" "High.read_back" "joinload.rules" 292 195
noncomputable def o197_4:=e1
noncomputable def o198_4:=di [k P "__module__" 407 (.str "joinload.rules" 292),k P "__firstlineno__" 411 (.int (63) 410),k P "filled" 421 (.ref 189),k P "read_back" 430 (.ref 196),k P "__static_attributes__" 431 (.ref 197),k P "__doc__" 432 .none] 2
noncomputable def o199_4:Obj:=⟨(.type "type"),none,(.cls ⟨"High", [(.ref 145)],[(.ref 199),(.ref 145),(.type "object")],198, "High", true,[],[],false,none,false⟩),#[(some (.ref 176)),none,(some (.str "High" 400)),(some (.str "High" 408)),(some (.builtin "object.__new__")),(some (.bool true))]⟩
noncomputable def o200_4:=su 199
noncomputable def o201_4:=bs 199
noncomputable def o202_4:=tu #[(.ref 145)]
noncomputable def o203_4:=bp
noncomputable def o204_4:=di [k P "__module__" 442 (.str "joinload.rules" 292),k P "__qualname__" 444 (.str "Low" 443),k P "__firstlineno__" 446 (.int (70) 445),k P "filled" 456 (.ref 215),k P "read_back" 465 (.ref 222),k P "__static_attributes__" 466 (.ref 223)] 6
noncomputable def o205_4:=e1
noncomputable def o206_4:=nf #[(.int (72) 0),(.int (4) 0),(.ref 214),(.int (75) 0),(.int (4) 0),(.ref 221)]
noncomputable def o207_4:=co "Low" "Low" 437 70 0 0 205 false 206 .none 440
noncomputable def o208_4:=fm 207 204 (.str "joinload.rules" 292)
noncomputable def o209_4:=e1
noncomputable def o210_4:=e2
noncomputable def o211_4:=tu #[(.str "self" 450),(.str "word" 451),(.str "here" 452),(.str "there" 453)]
noncomputable def o212_4:=e1
noncomputable def o213_4:=ft (C 16 0) "filled" "Low.filled"
noncomputable def o214_4:Obj:=⟨(.type "code"),none,(.fields #[(.str "filled" 447),(.str "Low.filled" 448),(.str "/claim/cut.py" 449),(.int (72) 0),(.int (4) 0),(.int (0) 0),(.int (0) 0),(.int (3) 0),(.ref 209),(.bool true),(.int (181) 0),(.ref 210),.none,(.ref 211),(.ref 212),(.ref 213),(.int (454) 0),(.int (72) 0),(.str "/claim/cut.py" 455)]),#[]⟩
noncomputable def o215_4:=fo (C 16 0) "filled" "Low.filled" "joinload.rules" 292 214
noncomputable def o216_4:=e1
noncomputable def o217_4:=e2
noncomputable def o218_4:=tu #[(.str "self" 460),(.str "word" 461),(.str "here" 462)]
noncomputable def o219_4:=e1
noncomputable def o220_4:=ft (C 16 1) "read_back" "Low.read_back"
noncomputable def o221_4:Obj:=⟨(.type "code"),none,(.fields #[(.str "read_back" 457),(.str "Low.read_back" 458),(.str "/claim/cut.py" 459),(.int (75) 0),(.int (3) 0),(.int (0) 0),(.int (0) 0),(.int (3) 0),(.ref 216),(.bool true),(.int (181) 0),(.ref 217),.none,(.ref 218),(.ref 219),(.ref 220),(.int (463) 0),(.int (75) 0),(.str "/claim/cut.py" 464)]),#[]⟩
noncomputable def o222_4:=fo (C 16 1) "read_back" "Low.read_back" "joinload.rules" 292 221
noncomputable def o223_4:=e1
noncomputable def o224_4:=di [k P "__module__" 442 (.str "joinload.rules" 292),k P "__firstlineno__" 446 (.int (70) 445),k P "filled" 456 (.ref 215),k P "read_back" 465 (.ref 222),k P "__static_attributes__" 466 (.ref 223),k P "__doc__" 467 .none] 2
noncomputable def o225_4:Obj:=⟨(.type "type"),none,(.cls ⟨"Low", [(.ref 145)],[(.ref 225),(.ref 145),(.type "object")],224, "Low", true,[],[],false,none,false⟩),#[(some (.ref 202)),none,(some (.str "Low" 435)),(some (.str "Low" 443)),(some (.builtin "object.__new__")),(some (.bool true))]⟩
noncomputable def o226_4:=su 225
noncomputable def o227_4:=bs 225
noncomputable def d3_0 (P:Params) (r:List (Nat×Obj)):List (Nat×Obj):=(3,o3_4 P)::(12,o12_4)::(145,o145_4)::(176,o176_4)::(177,o177_4)::(178,o178_4 P)::(179,o179_4)::(180,o180_4)::(181,o181_4)::(182,o182_4)::(183,o183_4)::(184,o184_4)::(185,o185_4)::(186,o186_4)::(187,o187_4)::(188,o188_4)::(189,o189_4)::(190,o190_4)::(191,o191_4)::(192,o192_4)::(193,o193_4)::(194,o194_4)::(195,o195_4)::(196,o196_4)::r
noncomputable def d3_1 (P:Params) (r:List (Nat×Obj)):List (Nat×Obj):=(197,o197_4)::(198,o198_4 P)::(199,o199_4)::(200,o200_4)::(201,o201_4)::(202,o202_4)::(203,o203_4)::(204,o204_4 P)::(205,o205_4)::(206,o206_4)::(207,o207_4)::(208,o208_4)::(209,o209_4)::(210,o210_4)::(211,o211_4)::(212,o212_4)::(213,o213_4)::(214,o214_4)::(215,o215_4)::(216,o216_4)::(217,o217_4)::(218,o218_4)::(219,o219_4)::(220,o220_4)::r
noncomputable def d3_2 (P:Params) (r:List (Nat×Obj)):List (Nat×Obj):=(221,o221_4)::(222,o222_4)::(223,o223_4)::(224,o224_4 P)::(225,o225_4)::(226,o226_4)::(227,o227_4)::r
noncomputable def T3 (P:Params):BT:=mg 14 (T2 P) (d3_0 P (d3_1 P (d3_2 P ([]))))
noncomputable def S3T (w:World):OsState→SharedT:=sT (T3 w.params) 228 470
noncomputable def L2:List Stmt:=My.top 15::My.top 16::[]
def P2 (w:World):Prop:=sR w 559 S2T S3T L2 ⟨56,0,62,16⟩ ⟨70,0,76,16⟩
noncomputable def g3_5 (P:Params):List DictEntry:=sv (g3_4 P) 0 (.str "joinload.pieces" 581)++[k P "Near" 520 (.ref 265),k P "Split" 572 (.ref 305),k P "way" 580 (.ref 314),k P "LETTERS" 584 (.str "abcdefghijklmnopqrstuvwxyz" 583),k P "FIGURES" 586 (.str "0123456789" 585),k P "NAME_SIGNS" 588 (.str "abcdefghijklmnopqrstuvwxyz0123456789_" 587),k P "HOW_MANY_PARTS" 616 (.ref 315)]
noncomputable def o3_5:Obj:=⟨(.type "dict"),none,.dict (g3_5 P).toArray 30,#[]⟩
noncomputable def o12_5:=nf #[(.int (1) 0),(.int (0) 0),(.ref 20),(.int (5) 0),(.int (0) 0),(.ref 27),(.int (7) 0),(.int (0) 0),(.ref 40),(.int (9) 0),(.int (0) 0),(.ref 52),(.int (16) 0),(.int (0) 0),(.ref 71),(.int (18) 0),(.int (0) 0),(.ref 78),(.int (21) 0),(.int (0) 0),(.ref 85),(.int (23) 0),(.int (0) 0),(.ref 92),(.int (28) 0),(.int (0) 0),(.ref 99),(.int (40) 0),(.int (0) 0),(.ref 106),(.int (56) 0),(.int (0) 0),(.ref 155),(.int (63) 0),(.int (0) 0),(.ref 181),(.int (70) 0),(.int (0) 0),(.ref 207),(.int (77) 0),(.int (0) 0),(.ref 233),(.int (90) 0),(.int (0) 0),(.ref 273),(.int (104) 0),(.int (0) 0),(.ref 313)]
noncomputable def o145_5:Obj:=⟨(.type "type"),none,(.cls ⟨"Rule", [(.type "object")],[(.ref 145),(.type "object")],144, "Rule", true,[],[(.ref 173),(.ref 199),(.ref 225),(.ref 265),(.ref 305)],false,none,false⟩),#[none,none,(some (.str "Rule" 301)),(some (.str "Rule" 309)),(some (.builtin "object.__new__")),(some (.bool true))]⟩
noncomputable def o228_5:=tu #[(.ref 145)]
noncomputable def o229_5:=bp
noncomputable def o230_5:=di [k P "__module__" 477 (.str "joinload.rules" 292),k P "__qualname__" 479 (.str "Near" 478),k P "__firstlineno__" 481 (.int (77) 480),k P "fits" 490 (.ref 241),k P "filled" 500 (.ref 248),k P "read_back" 509 (.ref 255),k P "leans" 516 (.ref 262),k P "__static_attributes__" 517 (.ref 263)] 8
noncomputable def o231_5:=e1
noncomputable def o232_5:=nf #[(.int (79) 0),(.int (4) 0),(.ref 240),(.int (82) 0),(.int (4) 0),(.ref 247),(.int (85) 0),(.int (4) 0),(.ref 254),(.int (88) 0),(.int (4) 0),(.ref 261)]
noncomputable def o233_5:=co "Near" "Near" 472 77 0 0 231 false 232 .none 475
noncomputable def o234_5:=fm 233 230 (.str "joinload.rules" 292)
noncomputable def o235_5:=e1
noncomputable def o236_5:=e2
noncomputable def o237_5:=tu #[(.str "self" 485),(.str "here" 486),(.str "there" 487)]
noncomputable def o238_5:=e1
noncomputable def o239_5:=ft (C 17 0) "fits" "Near.fits"
noncomputable def o240_5:Obj:=⟨(.type "code"),none,(.fields #[(.str "fits" 482),(.str "Near.fits" 483),(.str "/claim/cut.py" 484),(.int (79) 0),(.int (3) 0),(.int (0) 0),(.int (0) 0),(.int (3) 0),(.ref 235),(.bool true),(.int (181) 0),(.ref 236),.none,(.ref 237),(.ref 238),(.ref 239),(.int (488) 0),(.int (79) 0),(.str "/claim/cut.py" 489)]),#[]⟩
noncomputable def o241_5:=fo (C 17 0) "fits" "Near.fits" "joinload.rules" 292 240
noncomputable def o242_5:=e1
noncomputable def o243_5:=e2
noncomputable def o244_5:=tu #[(.str "self" 494),(.str "word" 495),(.str "here" 496),(.str "there" 497)]
noncomputable def o245_5:=e1
noncomputable def o246_5:=ft (C 17 1) "filled" "Near.filled"
noncomputable def o247_5:Obj:=⟨(.type "code"),none,(.fields #[(.str "filled" 491),(.str "Near.filled" 492),(.str "/claim/cut.py" 493),(.int (82) 0),(.int (4) 0),(.int (0) 0),(.int (0) 0),(.int (3) 0),(.ref 242),(.bool true),(.int (181) 0),(.ref 243),.none,(.ref 244),(.ref 245),(.ref 246),(.int (498) 0),(.int (82) 0),(.str "/claim/cut.py" 499)]),#[]⟩
noncomputable def o248_5:=fo (C 17 1) "filled" "Near.filled" "joinload.rules" 292 247
noncomputable def o249_5:=e1
noncomputable def o250_5:=e2
noncomputable def o251_5:=tu #[(.str "self" 504),(.str "word" 505),(.str "here" 506)]
noncomputable def o252_5:=e1
noncomputable def o253_5:=ft (C 17 2) "read_back" "Near.read_back"
noncomputable def o254_5:Obj:=⟨(.type "code"),none,(.fields #[(.str "read_back" 501),(.str "Near.read_back" 502),(.str "/claim/cut.py" 503),(.int (85) 0),(.int (3) 0),(.int (0) 0),(.int (0) 0),(.int (3) 0),(.ref 249),(.bool true),(.int (181) 0),(.ref 250),.none,(.ref 251),(.ref 252),(.ref 253),(.int (507) 0),(.int (85) 0),(.str "/claim/cut.py" 508)]),#[]⟩
noncomputable def o255_5:=fo (C 17 2) "read_back" "Near.read_back" "joinload.rules" 292 254
noncomputable def o256_5:=e1
noncomputable def o257_5:=e2
noncomputable def o258_5:=tu #[(.str "self" 513)]
noncomputable def o259_5:=e1
noncomputable def o260_5:=ft (C 17 3) "leans" "Near.leans"
noncomputable def o261_5:Obj:=⟨(.type "code"),none,(.fields #[(.str "leans" 510),(.str "Near.leans" 511),(.str "/claim/cut.py" 512),(.int (88) 0),(.int (1) 0),(.int (0) 0),(.int (0) 0),(.int (3) 0),(.ref 256),(.bool true),(.int (181) 0),(.ref 257),.none,(.ref 258),(.ref 259),(.ref 260),(.int (514) 0),(.int (88) 0),(.str "/claim/cut.py" 515)]),#[]⟩
noncomputable def o262_5:=fo (C 17 3) "leans" "Near.leans" "joinload.rules" 292 261
noncomputable def o263_5:=e1
noncomputable def o264_5:=di [k P "__module__" 477 (.str "joinload.rules" 292),k P "__firstlineno__" 481 (.int (77) 480),k P "fits" 490 (.ref 241),k P "filled" 500 (.ref 248),k P "read_back" 509 (.ref 255),k P "leans" 516 (.ref 262),k P "__static_attributes__" 517 (.ref 263),k P "__doc__" 518 .none] 2
noncomputable def o265_5:Obj:=⟨(.type "type"),none,(.cls ⟨"Near", [(.ref 145)],[(.ref 265),(.ref 145),(.type "object")],264, "Near", true,[],[],false,none,false⟩),#[(some (.ref 228)),none,(some (.str "Near" 470)),(some (.str "Near" 478)),(some (.builtin "object.__new__")),(some (.bool true))]⟩
noncomputable def o266_5:=su 265
noncomputable def o267_5:=bs 265
noncomputable def o268_5:=tu #[(.ref 145)]
noncomputable def o269_5:=bp
noncomputable def o270_5:=di [k P "__module__" 528 (.str "joinload.rules" 292),k P "__qualname__" 530 (.str "Split" 529),k P "__firstlineno__" 532 (.int (90) 531),k P "fits" 541 (.ref 281),k P "filled" 552 (.ref 288),k P "read_back" 561 (.ref 295),k P "leans" 568 (.ref 302),k P "__static_attributes__" 569 (.ref 303)] 8
noncomputable def o271_5:=e1
noncomputable def o272_5:=nf #[(.int (92) 0),(.int (4) 0),(.ref 280),(.int (95) 0),(.int (4) 0),(.ref 287),(.int (99) 0),(.int (4) 0),(.ref 294),(.int (102) 0),(.int (4) 0),(.ref 301)]
noncomputable def o273_5:=co "Split" "Split" 523 90 0 0 271 false 272 .none 526
noncomputable def o274_5:=fm 273 270 (.str "joinload.rules" 292)
noncomputable def o275_5:=e1
noncomputable def o276_5:=e2
noncomputable def o277_5:=tu #[(.str "self" 536),(.str "here" 537),(.str "there" 538)]
noncomputable def o278_5:=e1
noncomputable def o279_5:=ft (C 18 0) "fits" "Split.fits"
noncomputable def o280_5:Obj:=⟨(.type "code"),none,(.fields #[(.str "fits" 533),(.str "Split.fits" 534),(.str "/claim/cut.py" 535),(.int (92) 0),(.int (3) 0),(.int (0) 0),(.int (0) 0),(.int (3) 0),(.ref 275),(.bool true),(.int (181) 0),(.ref 276),.none,(.ref 277),(.ref 278),(.ref 279),(.int (539) 0),(.int (92) 0),(.str "/claim/cut.py" 540)]),#[]⟩
noncomputable def o281_5:=fo (C 18 0) "fits" "Split.fits" "joinload.rules" 292 280
noncomputable def o282_5:=e1
noncomputable def o283_5:=e2
noncomputable def o284_5:=tu #[(.str "self" 545),(.str "word" 546),(.str "here" 547),(.str "there" 548),(.str "lower" 549)]
noncomputable def o285_5:=e1
noncomputable def o286_5:=ft (C 18 1) "filled" "Split.filled"
noncomputable def o287_5:Obj:=⟨(.type "code"),none,(.fields #[(.str "filled" 542),(.str "Split.filled" 543),(.str "/claim/cut.py" 544),(.int (95) 0),(.int (4) 0),(.int (0) 0),(.int (0) 0),(.int (3) 0),(.ref 282),(.bool true),(.int (181) 0),(.ref 283),.none,(.ref 284),(.ref 285),(.ref 286),(.int (550) 0),(.int (95) 0),(.str "/claim/cut.py" 551)]),#[]⟩
noncomputable def o288_5:=fo (C 18 1) "filled" "Split.filled" "joinload.rules" 292 287
noncomputable def o289_5:=e1
noncomputable def o290_5:=e2
noncomputable def o291_5:=tu #[(.str "self" 556),(.str "word" 557),(.str "here" 558)]
noncomputable def o292_5:=e1
noncomputable def o293_5:=ft (C 18 2) "read_back" "Split.read_back"
noncomputable def o294_5:Obj:=⟨(.type "code"),none,(.fields #[(.str "read_back" 553),(.str "Split.read_back" 554),(.str "/claim/cut.py" 555),(.int (99) 0),(.int (3) 0),(.int (0) 0),(.int (0) 0),(.int (3) 0),(.ref 289),(.bool true),(.int (181) 0),(.ref 290),.none,(.ref 291),(.ref 292),(.ref 293),(.int (559) 0),(.int (99) 0),(.str "/claim/cut.py" 560)]),#[]⟩
noncomputable def o295_5:=fo (C 18 2) "read_back" "Split.read_back" "joinload.rules" 292 294
noncomputable def o296_5:=e1
noncomputable def o297_5:=e2
noncomputable def o298_5:=tu #[(.str "self" 565)]
noncomputable def o299_5:=e1
noncomputable def o300_5:=ft (C 18 3) "leans" "Split.leans"
noncomputable def o301_5:Obj:=⟨(.type "code"),none,(.fields #[(.str "leans" 562),(.str "Split.leans" 563),(.str "/claim/cut.py" 564),(.int (102) 0),(.int (1) 0),(.int (0) 0),(.int (0) 0),(.int (3) 0),(.ref 296),(.bool true),(.int (181) 0),(.ref 297),.none,(.ref 298),(.ref 299),(.ref 300),(.int (566) 0),(.int (102) 0),(.str "/claim/cut.py" 567)]),#[]⟩
noncomputable def o302_5:=fo (C 18 3) "leans" "Split.leans" "joinload.rules" 292 301
noncomputable def o303_5:=e1
noncomputable def o304_5:=di [k P "__module__" 528 (.str "joinload.rules" 292),k P "__firstlineno__" 532 (.int (90) 531),k P "fits" 541 (.ref 281),k P "filled" 552 (.ref 288),k P "read_back" 561 (.ref 295),k P "leans" 568 (.ref 302),k P "__static_attributes__" 569 (.ref 303),k P "__doc__" 570 .none] 2
noncomputable def o305_5:Obj:=⟨(.type "type"),none,(.cls ⟨"Split", [(.ref 145)],[(.ref 305),(.ref 145),(.type "object")],304, "Split", true,[],[],false,none,false⟩),#[(some (.ref 268)),none,(some (.str "Split" 521)),(some (.str "Split" 529)),(some (.builtin "object.__new__")),(some (.bool true))]⟩
noncomputable def o306_5:=su 305
noncomputable def o307_5:=bs 305
noncomputable def o308_5:=e1
noncomputable def o309_5:=e2
noncomputable def o310_5:=tu #[(.str "here" 576),(.str "there" 577)]
noncomputable def o311_5:=e1
noncomputable def o312_5:=ft (T 19) "way" "way"
noncomputable def o313_5:Obj:=⟨(.type "code"),none,(.fields #[(.str "way" 573),(.str "way" 574),(.str "/claim/cut.py" 575),(.int (104) 0),(.int (2) 0),(.int (0) 0),(.int (0) 0),(.int (3) 0),(.ref 308),(.bool true),(.int (181) 0),(.ref 309),.none,(.ref 310),(.ref 311),(.ref 312),(.int (578) 0),(.int (104) 0),(.str "/claim/cut.py" 579)]),#[]⟩
noncomputable def o314_5:=fo (T 19) "way" "way" "joinload.rules" 292 313
noncomputable def g315_5 (P:Params):List DictEntry:=[k P "piece" 589 (.int (2) 590),k P "code" 591 (.int (2) 592),k P "data" 593 (.int (2) 594),k P "word" 595 (.int (2) 596),k P "fill" 597 (.int (4) 598),k P "soft" 599 (.int (4) 600),k P "tell" 601 (.int (2) 602),k P "weak" 603 (.int (2) 604),k P "own" 605 (.int (2) 606)]
noncomputable def o315_5:Obj:=⟨(.type "dict"),none,.dict (g315_5 P).toArray 9,#[]⟩
noncomputable def d4_0 (P:Params) (r:List (Nat×Obj)):List (Nat×Obj):=(3,o3_5 P)::(12,o12_5)::(145,o145_5)::(228,o228_5)::(229,o229_5)::(230,o230_5 P)::(231,o231_5)::(232,o232_5)::(233,o233_5)::(234,o234_5)::(235,o235_5)::(236,o236_5)::(237,o237_5)::(238,o238_5)::(239,o239_5)::(240,o240_5)::(241,o241_5)::(242,o242_5)::(243,o243_5)::(244,o244_5)::(245,o245_5)::(246,o246_5)::(247,o247_5)::(248,o248_5)::r
noncomputable def d4_1 (P:Params) (r:List (Nat×Obj)):List (Nat×Obj):=(249,o249_5)::(250,o250_5)::(251,o251_5)::(252,o252_5)::(253,o253_5)::(254,o254_5)::(255,o255_5)::(256,o256_5)::(257,o257_5)::(258,o258_5)::(259,o259_5)::(260,o260_5)::(261,o261_5)::(262,o262_5)::(263,o263_5)::(264,o264_5 P)::(265,o265_5)::(266,o266_5)::(267,o267_5)::(268,o268_5)::(269,o269_5)::(270,o270_5 P)::(271,o271_5)::(272,o272_5)::r
noncomputable def d4_2 (P:Params) (r:List (Nat×Obj)):List (Nat×Obj):=(273,o273_5)::(274,o274_5)::(275,o275_5)::(276,o276_5)::(277,o277_5)::(278,o278_5)::(279,o279_5)::(280,o280_5)::(281,o281_5)::(282,o282_5)::(283,o283_5)::(284,o284_5)::(285,o285_5)::(286,o286_5)::(287,o287_5)::(288,o288_5)::(289,o289_5)::(290,o290_5)::(291,o291_5)::(292,o292_5)::(293,o293_5)::(294,o294_5)::(295,o295_5)::(296,o296_5)::r
noncomputable def d4_3 (P:Params) (r:List (Nat×Obj)):List (Nat×Obj):=(297,o297_5)::(298,o298_5)::(299,o299_5)::(300,o300_5)::(301,o301_5)::(302,o302_5)::(303,o303_5)::(304,o304_5 P)::(305,o305_5)::(306,o306_5)::(307,o307_5)::(308,o308_5)::(309,o309_5)::(310,o310_5)::(311,o311_5)::(312,o312_5)::(313,o313_5)::(314,o314_5)::(315,o315_5 P)::r
noncomputable def T4 (P:Params):BT:=mg 14 (T3 P) (d4_0 P (d4_1 P (d4_2 P (d4_3 P ([])))))
noncomputable def S4T (w:World):OsState→SharedT:=sT (T4 w.params) 316 617
noncomputable def L3:List Stmt:=My.top 17::My.top 18::My.top 19::My.top 20::My.top 21::My.top 22::My.top 23::My.top 24::[]
def P3 (w:World):Prop:=sR w 899 S3T S4T L3 ⟨70,0,76,16⟩ ⟨110,0,110,14⟩
noncomputable def g3_6 (P:Params):List DictEntry:=sv (g3_5 P) 0 (.str "law_joinload_k13_whole_pieces_both_ways" 800)++[k P "is_name" 622 (.ref 320),k P "number_of" 628 (.ref 325),k P "step_in" 636 (.ref 332),k P "is_title" 643 (.ref 339),k P "read_piece" 653 (.ref 346),k P "Reading" 745 (.ref 405),k P "shown_piece" 757 (.ref 416),k P "name_rows" 769 (.ref 423),k P "stretch_rows" 785 (.ref 430),k P "fill_rows" 799 (.ref 437),k P "_law_cell_at" 809 (.ref 444),k P "_law_name_by" 822 (.ref 451),k P "_law_add_by" 829 (.ref 458),k P "_law_fill_by" 840 (.ref 465),k P "_law_fill_row" 847 (.ref 472)]
noncomputable def o3_6:Obj:=⟨(.type "dict"),none,.dict (g3_6 P).toArray 45,#[]⟩
noncomputable def o12_6:=nf #[(.int (1) 0),(.int (0) 0),(.ref 20),(.int (5) 0),(.int (0) 0),(.ref 27),(.int (7) 0),(.int (0) 0),(.ref 40),(.int (9) 0),(.int (0) 0),(.ref 52),(.int (16) 0),(.int (0) 0),(.ref 71),(.int (18) 0),(.int (0) 0),(.ref 78),(.int (21) 0),(.int (0) 0),(.ref 85),(.int (23) 0),(.int (0) 0),(.ref 92),(.int (28) 0),(.int (0) 0),(.ref 99),(.int (40) 0),(.int (0) 0),(.ref 106),(.int (56) 0),(.int (0) 0),(.ref 155),(.int (63) 0),(.int (0) 0),(.ref 181),(.int (70) 0),(.int (0) 0),(.ref 207),(.int (77) 0),(.int (0) 0),(.ref 233),(.int (90) 0),(.int (0) 0),(.ref 273),(.int (104) 0),(.int (0) 0),(.ref 313),(.int (111) 0),(.int (0) 0),(.ref 319),(.int (115) 0),(.int (0) 0),(.ref 324),(.int (123) 0),(.int (0) 0),(.ref 331),(.int (128) 0),(.int (0) 0),(.ref 338),(.int (134) 0),(.int (0) 0),(.ref 345),(.int (140) 0),(.int (0) 0),(.ref 352),(.int (206) 0),(.int (0) 0),(.ref 415),(.int (213) 0),(.int (0) 0),(.ref 422),(.int (218) 0),(.int (0) 0),(.ref 429),(.int (230) 0),(.int (0) 0),(.ref 436),(.int (237) 0),(.int (0) 0),(.ref 443),(.int (241) 0),(.int (0) 0),(.ref 450),(.int (251) 0),(.int (0) 0),(.ref 457),(.int (257) 0),(.int (0) 0),(.ref 464),(.int (261) 0),(.int (0) 0),(.ref 471)]
noncomputable def o316_6:=e1
noncomputable def o317_6:=e2
noncomputable def o318_6:=ft (T 25) "is_name" "is_name"
noncomputable def o319_6:=co "is_name" "is_name" 617 111 1 3 316 true 317 (.ref 318) 620
noncomputable def o320_6:=fo (T 25) "is_name" "is_name" "joinload.pieces" 581 319
noncomputable def o321_6:=e1
noncomputable def o322_6:=e2
noncomputable def o323_6:=ft (T 26) "number_of" "number_of"
noncomputable def o324_6:=co "number_of" "number_of" 623 115 3 3 321 true 322 (.ref 323) 626
noncomputable def o325_6:=fo (T 26) "number_of" "number_of" "joinload.pieces" 581 324
noncomputable def o326_6:=e1
noncomputable def o327_6:=e2
noncomputable def o328_6:=tu #[(.str "text" 632),(.str "step" 633)]
noncomputable def o329_6:=e1
noncomputable def o330_6:=ft (T 27) "step_in" "step_in"
noncomputable def o331_6:Obj:=⟨(.type "code"),none,(.fields #[(.str "step_in" 629),(.str "step_in" 630),(.str "/claim/cut.py" 631),(.int (123) 0),(.int (1) 0),(.int (0) 0),(.int (0) 0),(.int (3) 0),(.ref 326),(.bool true),(.int (181) 0),(.ref 327),.none,(.ref 328),(.ref 329),(.ref 330),(.int (634) 0),(.int (123) 0),(.str "/claim/cut.py" 635)]),#[]⟩
noncomputable def o332_6:=fo (T 27) "step_in" "step_in" "joinload.pieces" 581 331
noncomputable def o333_6:=e1
noncomputable def o334_6:=e2
noncomputable def o335_6:=tu #[(.str "text" 640)]
noncomputable def o336_6:=e1
noncomputable def o337_6:=ft (T 28) "is_title" "is_title"
noncomputable def o338_6:Obj:=⟨(.type "code"),none,(.fields #[(.str "is_title" 637),(.str "is_title" 638),(.str "/claim/cut.py" 639),(.int (128) 0),(.int (1) 0),(.int (0) 0),(.int (0) 0),(.int (3) 0),(.ref 333),(.bool true),(.int (181) 0),(.ref 334),.none,(.ref 335),(.ref 336),(.ref 337),(.int (641) 0),(.int (128) 0),(.str "/claim/cut.py" 642)]),#[]⟩
noncomputable def o339_6:=fo (T 28) "is_title" "is_title" "joinload.pieces" 581 338
noncomputable def o340_6:=e1
noncomputable def o341_6:=e2
noncomputable def o342_6:=tu #[(.str "text" 647),(.str "reading" 648),(.str "number" 649),(.str "row" 650)]
noncomputable def o343_6:=e1
noncomputable def o344_6:=ft (T 29) "read_piece" "read_piece"
noncomputable def o345_6:Obj:=⟨(.type "code"),none,(.fields #[(.str "read_piece" 644),(.str "read_piece" 645),(.str "/claim/cut.py" 646),(.int (134) 0),(.int (1) 0),(.int (0) 0),(.int (0) 0),(.int (3) 0),(.ref 340),(.bool true),(.int (181) 0),(.ref 341),.none,(.ref 342),(.ref 343),(.ref 344),(.int (651) 0),(.int (134) 0),(.str "/claim/cut.py" 652)]),#[]⟩
noncomputable def o346_6:=fo (T 29) "read_piece" "read_piece" "joinload.pieces" 581 345
noncomputable def o347_6:=e1
noncomputable def o348_6:=bp
noncomputable def g349_6 (P:Params):List DictEntry:=[k P "__module__" 661 (.str "joinload.pieces" 581),k P "__qualname__" 663 (.str "Reading" 662),k P "__firstlineno__" 665 (.int (140) 664),k P "__init__" 672 (.ref 360),k P "takes" 682 (.ref 367),k P "takes_piece" 690 (.ref 374),k P "takes_stretch" 700 (.ref 381),k P "takes_word" 709 (.ref 388),k P "takes_fill" 721 (.ref 395),k P "takes_told" 730 (.ref 402),k P "__static_attributes__" 738 (.ref 403)]
noncomputable def o349_6:Obj:=⟨(.type "dict"),none,.dict (g349_6 P).toArray 11,#[]⟩
noncomputable def o350_6:=e1
noncomputable def o351_6:=nf #[(.int (142) 0),(.int (4) 0),(.ref 359),(.int (151) 0),(.int (4) 0),(.ref 366),(.int (169) 0),(.int (4) 0),(.ref 373),(.int (175) 0),(.int (4) 0),(.ref 380),(.int (184) 0),(.int (4) 0),(.ref 387),(.int (191) 0),(.int (4) 0),(.ref 394),(.int (200) 0),(.int (4) 0),(.ref 401)]
noncomputable def o352_6:=co "Reading" "Reading" 656 140 0 0 350 false 351 .none 659
noncomputable def o353_6:=fm 352 349 (.str "joinload.pieces" 581)
noncomputable def o354_6:=e1
noncomputable def o355_6:=e2
noncomputable def o356_6:=tu #[(.str "self" 669)]
noncomputable def o357_6:=e1
noncomputable def o358_6:=ft (C 30 0) "__init__" "Reading.__init__"
noncomputable def o359_6:Obj:=⟨(.type "code"),none,(.fields #[(.str "__init__" 666),(.str "Reading.__init__" 667),(.str "/claim/cut.py" 668),(.int (142) 0),(.int (1) 0),(.int (0) 0),(.int (0) 0),(.int (3) 0),(.ref 354),(.bool true),(.int (181) 0),(.ref 355),.none,(.ref 356),(.ref 357),(.ref 358),(.int (670) 0),(.int (142) 0),(.str "/claim/cut.py" 671)]),#[]⟩
noncomputable def o360_6:=fo (C 30 0) "__init__" "Reading.__init__" "joinload.pieces" 581 359
noncomputable def o361_6:=e1
noncomputable def o362_6:=e2
noncomputable def o363_6:=tu #[(.str "self" 676),(.str "parts" 677),(.str "head" 678),(.str "behind_word" 679)]
noncomputable def o364_6:=e1
noncomputable def o365_6:=ft (C 30 1) "takes" "Reading.takes"
noncomputable def o366_6:Obj:=⟨(.type "code"),none,(.fields #[(.str "takes" 673),(.str "Reading.takes" 674),(.str "/claim/cut.py" 675),(.int (151) 0),(.int (2) 0),(.int (0) 0),(.int (0) 0),(.int (3) 0),(.ref 361),(.bool true),(.int (181) 0),(.ref 362),.none,(.ref 363),(.ref 364),(.ref 365),(.int (680) 0),(.int (151) 0),(.str "/claim/cut.py" 681)]),#[]⟩
noncomputable def o367_6:=fo (C 30 1) "takes" "Reading.takes" "joinload.pieces" 581 366
noncomputable def o368_6:=e1
noncomputable def o369_6:=e2
noncomputable def o370_6:=tu #[(.str "self" 686),(.str "name" 687)]
noncomputable def o371_6:=e1
noncomputable def o372_6:=ft (C 30 2) "takes_piece" "Reading.takes_piece"
noncomputable def o373_6:Obj:=⟨(.type "code"),none,(.fields #[(.str "takes_piece" 683),(.str "Reading.takes_piece" 684),(.str "/claim/cut.py" 685),(.int (169) 0),(.int (2) 0),(.int (0) 0),(.int (0) 0),(.int (3) 0),(.ref 368),(.bool true),(.int (181) 0),(.ref 369),.none,(.ref 370),(.ref 371),(.ref 372),(.int (688) 0),(.int (169) 0),(.str "/claim/cut.py" 689)]),#[]⟩
noncomputable def o374_6:=fo (C 30 2) "takes_piece" "Reading.takes_piece" "joinload.pieces" 581 373
noncomputable def o375_6:=e1
noncomputable def o376_6:=e2
noncomputable def o377_6:=tu #[(.str "self" 694),(.str "kind" 695),(.str "text" 696),(.str "step" 697)]
noncomputable def o378_6:=e1
noncomputable def o379_6:=ft (C 30 3) "takes_stretch" "Reading.takes_stretch"
noncomputable def o380_6:Obj:=⟨(.type "code"),none,(.fields #[(.str "takes_stretch" 691),(.str "Reading.takes_stretch" 692),(.str "/claim/cut.py" 693),(.int (175) 0),(.int (3) 0),(.int (0) 0),(.int (0) 0),(.int (3) 0),(.ref 375),(.bool true),(.int (181) 0),(.ref 376),.none,(.ref 377),(.ref 378),(.ref 379),(.int (698) 0),(.int (175) 0),(.str "/claim/cut.py" 699)]),#[]⟩
noncomputable def o381_6:=fo (C 30 3) "takes_stretch" "Reading.takes_stretch" "joinload.pieces" 581 380
noncomputable def o382_6:=e1
noncomputable def o383_6:=e2
noncomputable def o384_6:=tu #[(.str "self" 704),(.str "text" 705),(.str "word" 706)]
noncomputable def o385_6:=e1
noncomputable def o386_6:=ft (C 30 4) "takes_word" "Reading.takes_word"
noncomputable def o387_6:Obj:=⟨(.type "code"),none,(.fields #[(.str "takes_word" 701),(.str "Reading.takes_word" 702),(.str "/claim/cut.py" 703),(.int (184) 0),(.int (2) 0),(.int (0) 0),(.int (0) 0),(.int (3) 0),(.ref 382),(.bool true),(.int (181) 0),(.ref 383),.none,(.ref 384),(.ref 385),(.ref 386),(.int (707) 0),(.int (184) 0),(.str "/claim/cut.py" 708)]),#[]⟩
noncomputable def o388_6:=fo (C 30 4) "takes_word" "Reading.takes_word" "joinload.pieces" 581 387
noncomputable def o389_6:=e1
noncomputable def o390_6:=e2
noncomputable def o391_6:=tu #[(.str "self" 713),(.str "soft" 714),(.str "rule" 715),(.str "name" 716),(.str "text" 717),(.str "add" 718)]
noncomputable def o392_6:=e1
noncomputable def o393_6:=ft (C 30 5) "takes_fill" "Reading.takes_fill"
noncomputable def o394_6:Obj:=⟨(.type "code"),none,(.fields #[(.str "takes_fill" 710),(.str "Reading.takes_fill" 711),(.str "/claim/cut.py" 712),(.int (191) 0),(.int (5) 0),(.int (0) 0),(.int (0) 0),(.int (3) 0),(.ref 389),(.bool true),(.int (181) 0),(.ref 390),.none,(.ref 391),(.ref 392),(.ref 393),(.int (719) 0),(.int (191) 0),(.str "/claim/cut.py" 720)]),#[]⟩
noncomputable def o395_6:=fo (C 30 5) "takes_fill" "Reading.takes_fill" "joinload.pieces" 581 394
noncomputable def o396_6:=e1
noncomputable def o397_6:=e2
noncomputable def o398_6:=tu #[(.str "self" 725),(.str "sort" 726),(.str "name" 727)]
noncomputable def o399_6:=e1
noncomputable def o400_6:=ft (C 30 6) "takes_told" "Reading.takes_told"
noncomputable def o401_6:Obj:=⟨(.type "code"),none,(.fields #[(.str "takes_told" 722),(.str "Reading.takes_told" 723),(.str "/claim/cut.py" 724),(.int (200) 0),(.int (3) 0),(.int (0) 0),(.int (0) 0),(.int (3) 0),(.ref 396),(.bool true),(.int (181) 0),(.ref 397),.none,(.ref 398),(.ref 399),(.ref 400),(.int (728) 0),(.int (200) 0),(.str "/claim/cut.py" 729)]),#[]⟩
noncomputable def o402_6:=fo (C 30 6) "takes_told" "Reading.takes_told" "joinload.pieces" 581 401
noncomputable def o403_6:=tu #[(.str "behind_word" 731),(.str "last_fills" 732),(.str "last_words" 733),(.str "name" 734),(.str "names" 735),(.str "stretches" 736),(.str "told" 737)]
noncomputable def g404_6 (P:Params):List DictEntry:=[k P "__module__" 661 (.str "joinload.pieces" 581),k P "__firstlineno__" 665 (.int (140) 664),k P "__init__" 672 (.ref 360),k P "takes" 682 (.ref 367),k P "takes_piece" 690 (.ref 374),k P "takes_stretch" 700 (.ref 381),k P "takes_word" 709 (.ref 388),k P "takes_fill" 721 (.ref 395),k P "takes_told" 730 (.ref 402),k P "__static_attributes__" 738 (.ref 403),k P "__dict__" 740 (.ref 406),k P "__weakref__" 742 (.ref 407),k P "__doc__" 743 .none]
noncomputable def o404_6:Obj:=⟨(.type "dict"),none,.dict (g404_6 P).toArray 4,#[]⟩
noncomputable def o405_6:Obj:=⟨(.type "type"),none,(.cls ⟨"Reading", [(.type "object")],[(.ref 405),(.type "object")],404, "Reading", true,[],[],false,none,false⟩),#[none,none,(some (.str "Reading" 654)),(some (.str "Reading" 662)),(some (.builtin "object.__new__")),(some (.bool true))]⟩
noncomputable def o406_6:Obj:=⟨(.type "getset_descriptor"),none,(.fields #[(.str "__dict__" 739),(.ref 405),(.builtin "function.__dict__"),(.builtin "function.__dict__#set")]),#[]⟩
noncomputable def o407_6:Obj:=⟨(.type "getset_descriptor"),none,(.fields #[(.str "__weakref__" 741),(.ref 405),(.builtin "ExceptionGroup.__weakref__"),.none]),#[]⟩
noncomputable def o408_6:=su 405
noncomputable def o409_6:=bs 405
noncomputable def o410_6:=e1
noncomputable def o411_6:=e2
noncomputable def o412_6:=tu #[(.str "piece" 749),(.str "name" 750),(.str "names" 751),(.str "rows" 752),(.str "number" 753),(.str "stretch" 754)]
noncomputable def o413_6:=e1
noncomputable def o414_6:=ft (T 31) "shown_piece" "shown_piece"
noncomputable def o415_6:Obj:=⟨(.type "code"),none,(.fields #[(.str "shown_piece" 746),(.str "shown_piece" 747),(.str "/claim/cut.py" 748),(.int (206) 0),(.int (1) 0),(.int (0) 0),(.int (0) 0),(.int (3) 0),(.ref 410),(.bool true),(.int (181) 0),(.ref 411),.none,(.ref 412),(.ref 413),(.ref 414),(.int (755) 0),(.int (206) 0),(.str "/claim/cut.py" 756)]),#[]⟩
noncomputable def o416_6:=fo (T 31) "shown_piece" "shown_piece" "joinload.pieces" 581 415
noncomputable def o417_6:=e1
noncomputable def o418_6:=e2
noncomputable def o419_6:=tu #[(.str "names" 761),(.str "rows" 762),(.str "name" 763),(.str "sort" 764),(.str "stretch" 765),(.str "offset" 766)]
noncomputable def o420_6:=e1
noncomputable def o421_6:=ft (T 32) "name_rows" "name_rows"
noncomputable def o422_6:Obj:=⟨(.type "code"),none,(.fields #[(.str "name_rows" 758),(.str "name_rows" 759),(.str "/claim/cut.py" 760),(.int (213) 0),(.int (1) 0),(.int (0) 0),(.int (0) 0),(.int (3) 0),(.ref 417),(.bool true),(.int (181) 0),(.ref 418),.none,(.ref 419),(.ref 420),(.ref 421),(.int (767) 0),(.int (213) 0),(.str "/claim/cut.py" 768)]),#[]⟩
noncomputable def o423_6:=fo (T 32) "name_rows" "name_rows" "joinload.pieces" 581 422
noncomputable def o424_6:=e1
noncomputable def o425_6:=e2
noncomputable def o426_6:=tu #[(.str "number" 773),(.str "stretch" 774),(.str "names" 775),(.str "kind" 776),(.str "step" 777),(.str "words" 778),(.str "fills" 779),(.str "rows" 780),(.str "at" 781),(.str "word" 782)]
noncomputable def o427_6:=e1
noncomputable def o428_6:=ft (T 33) "stretch_rows" "stretch_rows"
noncomputable def o429_6:Obj:=⟨(.type "code"),none,(.fields #[(.str "stretch_rows" 770),(.str "stretch_rows" 771),(.str "/claim/cut.py" 772),(.int (218) 0),(.int (3) 0),(.int (0) 0),(.int (0) 0),(.int (3) 0),(.ref 424),(.bool true),(.int (181) 0),(.ref 425),.none,(.ref 426),(.ref 427),(.ref 428),(.int (783) 0),(.int (218) 0),(.str "/claim/cut.py" 784)]),#[]⟩
noncomputable def o430_6:=fo (T 33) "stretch_rows" "stretch_rows" "joinload.pieces" 581 429
noncomputable def o431_6:=e1
noncomputable def o432_6:=e2
noncomputable def o433_6:=tu #[(.str "fills" 789),(.str "rows" 790),(.str "at" 791),(.str "rule" 792),(.str "name" 793),(.str "add" 794),(.str "soft" 795),(.str "head" 796)]
noncomputable def o434_6:=e1
noncomputable def o435_6:=ft (T 34) "fill_rows" "fill_rows"
noncomputable def o436_6:Obj:=⟨(.type "code"),none,(.fields #[(.str "fill_rows" 786),(.str "fill_rows" 787),(.str "/claim/cut.py" 788),(.int (230) 0),(.int (1) 0),(.int (0) 0),(.int (0) 0),(.int (3) 0),(.ref 431),(.bool true),(.int (181) 0),(.ref 432),.none,(.ref 433),(.ref 434),(.ref 435),(.int (797) 0),(.int (230) 0),(.str "/claim/cut.py" 798)]),#[]⟩
noncomputable def o437_6:=fo (T 34) "fill_rows" "fill_rows" "joinload.pieces" 581 436
noncomputable def o438_6:=e1
noncomputable def o439_6:=e2
noncomputable def o440_6:=tu #[(.str "_law_script" 805),(.str "_law_k" 806)]
noncomputable def o441_6:=e1
noncomputable def o442_6:=ft (T 36) "_law_cell_at" "_law_cell_at"
noncomputable def o443_6:Obj:=⟨(.type "code"),none,(.fields #[(.str "_law_cell_at" 802),(.str "_law_cell_at" 803),(.str "/claim/cut.py" 804),(.int (237) 0),(.int (2) 0),(.int (0) 0),(.int (0) 0),(.int (3) 0),(.ref 438),(.bool true),(.int (181) 0),(.ref 439),.none,(.ref 440),(.ref 441),(.ref 442),(.int (807) 0),(.int (237) 0),(.str "/claim/cut.py" 808)]),#[]⟩
noncomputable def o444_6:=fo (T 36) "_law_cell_at" "_law_cell_at" "law_joinload_k13_whole_pieces_both_ways" 800 443
noncomputable def o445_6:=e1
noncomputable def o446_6:=e2
noncomputable def o447_6:=tu #[(.str "_law_cell" 813),(.str "_law_k" 814),(.str "_law_signs" 815),(.str "_law_base" 816),(.str "_law_j" 817),(.str "_law_at" 818),(.str "_law_figures" 819)]
noncomputable def o448_6:=e1
noncomputable def o449_6:=ft (T 37) "_law_name_by" "_law_name_by"
noncomputable def o450_6:Obj:=⟨(.type "code"),none,(.fields #[(.str "_law_name_by" 810),(.str "_law_name_by" 811),(.str "/claim/cut.py" 812),(.int (241) 0),(.int (2) 0),(.int (0) 0),(.int (0) 0),(.int (3) 0),(.ref 445),(.bool true),(.int (181) 0),(.ref 446),.none,(.ref 447),(.ref 448),(.ref 449),(.int (820) 0),(.int (241) 0),(.str "/claim/cut.py" 821)]),#[]⟩
noncomputable def o451_6:=fo (T 37) "_law_name_by" "_law_name_by" "law_joinload_k13_whole_pieces_both_ways" 800 450
noncomputable def o452_6:=e1
noncomputable def o453_6:=e2
noncomputable def o454_6:=tu #[(.str "_law_number" 826)]
noncomputable def o455_6:=e1
noncomputable def o456_6:=ft (T 38) "_law_add_by" "_law_add_by"
noncomputable def o457_6:Obj:=⟨(.type "code"),none,(.fields #[(.str "_law_add_by" 823),(.str "_law_add_by" 824),(.str "/claim/cut.py" 825),(.int (251) 0),(.int (1) 0),(.int (0) 0),(.int (0) 0),(.int (3) 0),(.ref 452),(.bool true),(.int (181) 0),(.ref 453),.none,(.ref 454),(.ref 455),(.ref 456),(.int (827) 0),(.int (251) 0),(.str "/claim/cut.py" 828)]),#[]⟩
noncomputable def o458_6:=fo (T 38) "_law_add_by" "_law_add_by" "law_joinload_k13_whole_pieces_both_ways" 800 457
noncomputable def o459_6:=e1
noncomputable def o460_6:=e2
noncomputable def o461_6:=tu #[(.str "_law_number" 833),(.str "_law_at" 834),(.str "_law_names_by" 835),(.str "_law_rule" 836),(.str "_law_soft" 837)]
noncomputable def o462_6:=e1
noncomputable def o463_6:=ft (T 39) "_law_fill_by" "_law_fill_by"
noncomputable def o464_6:Obj:=⟨(.type "code"),none,(.fields #[(.str "_law_fill_by" 830),(.str "_law_fill_by" 831),(.str "/claim/cut.py" 832),(.int (257) 0),(.int (3) 0),(.int (0) 0),(.int (0) 0),(.int (3) 0),(.ref 459),(.bool true),(.int (181) 0),(.ref 460),.none,(.ref 461),(.ref 462),(.ref 463),(.int (838) 0),(.int (257) 0),(.str "/claim/cut.py" 839)]),#[]⟩
noncomputable def o465_6:=fo (T 39) "_law_fill_by" "_law_fill_by" "law_joinload_k13_whole_pieces_both_ways" 800 464
noncomputable def o466_6:=e1
noncomputable def o467_6:=e2
noncomputable def o468_6:=tu #[(.str "_law_fill" 844)]
noncomputable def o469_6:=e1
noncomputable def o470_6:=ft (T 40) "_law_fill_row" "_law_fill_row"
noncomputable def o471_6:Obj:=⟨(.type "code"),none,(.fields #[(.str "_law_fill_row" 841),(.str "_law_fill_row" 842),(.str "/claim/cut.py" 843),(.int (261) 0),(.int (1) 0),(.int (0) 0),(.int (0) 0),(.int (3) 0),(.ref 466),(.bool true),(.int (181) 0),(.ref 467),.none,(.ref 468),(.ref 469),(.ref 470),(.int (845) 0),(.int (261) 0),(.str "/claim/cut.py" 846)]),#[]⟩
noncomputable def o472_6:=fo (T 40) "_law_fill_row" "_law_fill_row" "law_joinload_k13_whole_pieces_both_ways" 800 471
noncomputable def d5_0 (P:Params) (r:List (Nat×Obj)):List (Nat×Obj):=(3,o3_6 P)::(12,o12_6)::(316,o316_6)::(317,o317_6)::(318,o318_6)::(319,o319_6)::(320,o320_6)::(321,o321_6)::(322,o322_6)::(323,o323_6)::(324,o324_6)::(325,o325_6)::(326,o326_6)::(327,o327_6)::(328,o328_6)::(329,o329_6)::(330,o330_6)::(331,o331_6)::(332,o332_6)::(333,o333_6)::(334,o334_6)::(335,o335_6)::(336,o336_6)::(337,o337_6)::r
noncomputable def d5_1 (P:Params) (r:List (Nat×Obj)):List (Nat×Obj):=(338,o338_6)::(339,o339_6)::(340,o340_6)::(341,o341_6)::(342,o342_6)::(343,o343_6)::(344,o344_6)::(345,o345_6)::(346,o346_6)::(347,o347_6)::(348,o348_6)::(349,o349_6 P)::(350,o350_6)::(351,o351_6)::(352,o352_6)::(353,o353_6)::(354,o354_6)::(355,o355_6)::(356,o356_6)::(357,o357_6)::(358,o358_6)::(359,o359_6)::(360,o360_6)::(361,o361_6)::r
noncomputable def d5_2 (P:Params) (r:List (Nat×Obj)):List (Nat×Obj):=(362,o362_6)::(363,o363_6)::(364,o364_6)::(365,o365_6)::(366,o366_6)::(367,o367_6)::(368,o368_6)::(369,o369_6)::(370,o370_6)::(371,o371_6)::(372,o372_6)::(373,o373_6)::(374,o374_6)::(375,o375_6)::(376,o376_6)::(377,o377_6)::(378,o378_6)::(379,o379_6)::(380,o380_6)::(381,o381_6)::(382,o382_6)::(383,o383_6)::(384,o384_6)::(385,o385_6)::r
noncomputable def d5_3 (P:Params) (r:List (Nat×Obj)):List (Nat×Obj):=(386,o386_6)::(387,o387_6)::(388,o388_6)::(389,o389_6)::(390,o390_6)::(391,o391_6)::(392,o392_6)::(393,o393_6)::(394,o394_6)::(395,o395_6)::(396,o396_6)::(397,o397_6)::(398,o398_6)::(399,o399_6)::(400,o400_6)::(401,o401_6)::(402,o402_6)::(403,o403_6)::(404,o404_6 P)::(405,o405_6)::(406,o406_6)::(407,o407_6)::(408,o408_6)::(409,o409_6)::r
noncomputable def d5_4 (P:Params) (r:List (Nat×Obj)):List (Nat×Obj):=(410,o410_6)::(411,o411_6)::(412,o412_6)::(413,o413_6)::(414,o414_6)::(415,o415_6)::(416,o416_6)::(417,o417_6)::(418,o418_6)::(419,o419_6)::(420,o420_6)::(421,o421_6)::(422,o422_6)::(423,o423_6)::(424,o424_6)::(425,o425_6)::(426,o426_6)::(427,o427_6)::(428,o428_6)::(429,o429_6)::(430,o430_6)::(431,o431_6)::(432,o432_6)::(433,o433_6)::r
noncomputable def d5_5 (P:Params) (r:List (Nat×Obj)):List (Nat×Obj):=(434,o434_6)::(435,o435_6)::(436,o436_6)::(437,o437_6)::(438,o438_6)::(439,o439_6)::(440,o440_6)::(441,o441_6)::(442,o442_6)::(443,o443_6)::(444,o444_6)::(445,o445_6)::(446,o446_6)::(447,o447_6)::(448,o448_6)::(449,o449_6)::(450,o450_6)::(451,o451_6)::(452,o452_6)::(453,o453_6)::(454,o454_6)::(455,o455_6)::(456,o456_6)::(457,o457_6)::r
noncomputable def d5_6 (P:Params) (r:List (Nat×Obj)):List (Nat×Obj):=(458,o458_6)::(459,o459_6)::(460,o460_6)::(461,o461_6)::(462,o462_6)::(463,o463_6)::(464,o464_6)::(465,o465_6)::(466,o466_6)::(467,o467_6)::(468,o468_6)::(469,o469_6)::(470,o470_6)::(471,o471_6)::(472,o472_6)::r
noncomputable def T5 (P:Params):BT:=mg 14 (T4 P) (d5_0 P (d5_1 P (d5_2 P (d5_3 P (d5_4 P (d5_5 P (d5_6 P ([]))))))))
noncomputable def S5T (w:World):OsState→SharedT:=sT (T5 w.params) 473 848
noncomputable def L4:List Stmt:=My.top 25::My.top 26::My.top 27::My.top 28::My.top 29::My.top 30::My.top 31::My.top 32::My.top 33::My.top 34::My.top 35::My.top 36::My.top 37::My.top 38::My.top 39::My.top 40::[]
def P4 (w:World):Prop:=sR w 880 S4T S5T L4 ⟨110,0,110,14⟩ ⟨261,0,262,110⟩
noncomputable def g3_7 (P:Params):List DictEntry:=g3_6 P++[k P "_law_word_by" 854 (.ref 479),k P "_law_put" 860 (.ref 484),k P "_law_built" 873 (.ref 491),k P "_law_copy" 879 (.ref 496),k P "_law_word_turned" 893 (.ref 503),k P "law" 906 (.ref 510)]
noncomputable def o3_7:Obj:=⟨(.type "dict"),none,.dict (g3_7 P).toArray 51,#[]⟩
noncomputable def o12_7:=nf #[(.int (1) 0),(.int (0) 0),(.ref 20),(.int (5) 0),(.int (0) 0),(.ref 27),(.int (7) 0),(.int (0) 0),(.ref 40),(.int (9) 0),(.int (0) 0),(.ref 52),(.int (16) 0),(.int (0) 0),(.ref 71),(.int (18) 0),(.int (0) 0),(.ref 78),(.int (21) 0),(.int (0) 0),(.ref 85),(.int (23) 0),(.int (0) 0),(.ref 92),(.int (28) 0),(.int (0) 0),(.ref 99),(.int (40) 0),(.int (0) 0),(.ref 106),(.int (56) 0),(.int (0) 0),(.ref 155),(.int (63) 0),(.int (0) 0),(.ref 181),(.int (70) 0),(.int (0) 0),(.ref 207),(.int (77) 0),(.int (0) 0),(.ref 233),(.int (90) 0),(.int (0) 0),(.ref 273),(.int (104) 0),(.int (0) 0),(.ref 313),(.int (111) 0),(.int (0) 0),(.ref 319),(.int (115) 0),(.int (0) 0),(.ref 324),(.int (123) 0),(.int (0) 0),(.ref 331),(.int (128) 0),(.int (0) 0),(.ref 338),(.int (134) 0),(.int (0) 0),(.ref 345),(.int (140) 0),(.int (0) 0),(.ref 352),(.int (206) 0),(.int (0) 0),(.ref 415),(.int (213) 0),(.int (0) 0),(.ref 422),(.int (218) 0),(.int (0) 0),(.ref 429),(.int (230) 0),(.int (0) 0),(.ref 436),(.int (237) 0),(.int (0) 0),(.ref 443),(.int (241) 0),(.int (0) 0),(.ref 450),(.int (251) 0),(.int (0) 0),(.ref 457),(.int (257) 0),(.int (0) 0),(.ref 464),(.int (261) 0),(.int (0) 0),(.ref 471),(.int (263) 0),(.int (0) 0),(.ref 478),(.int (267) 0),(.int (0) 0),(.ref 483),(.int (288) 0),(.int (0) 0),(.ref 490),(.int (297) 0),(.int (0) 0),(.ref 495),(.int (300) 0),(.int (0) 0),(.ref 502),(.int (309) 0),(.int (0) 0),(.ref 509)]
noncomputable def o473_7:=e1
noncomputable def o474_7:=e2
noncomputable def o475_7:=tu #[(.str "_law_cell" 851)]
noncomputable def o476_7:=e1
noncomputable def o477_7:=ft (T 41) "_law_word_by" "_law_word_by"
noncomputable def o478_7:Obj:=⟨(.type "code"),none,(.fields #[(.str "_law_word_by" 848),(.str "_law_word_by" 849),(.str "/claim/cut.py" 850),(.int (263) 0),(.int (1) 0),(.int (0) 0),(.int (0) 0),(.int (3) 0),(.ref 473),(.bool true),(.int (181) 0),(.ref 474),.none,(.ref 475),(.ref 476),(.ref 477),(.int (852) 0),(.int (263) 0),(.str "/claim/cut.py" 853)]),#[]⟩
noncomputable def o479_7:=fo (T 41) "_law_word_by" "_law_word_by" "law_joinload_k13_whole_pieces_both_ways" 800 478
noncomputable def o480_7:=e1
noncomputable def o481_7:=e2
noncomputable def o482_7:=ft (T 42) "_law_put" "_law_put"
noncomputable def o483_7:=co "_law_put" "_law_put" 855 267 4 3 480 true 481 (.ref 482) 858
noncomputable def o484_7:=fo (T 42) "_law_put" "_law_put" "law_joinload_k13_whole_pieces_both_ways" 800 483
noncomputable def o485_7:=e1
noncomputable def o486_7:=e2
noncomputable def o487_7:=tu #[(.str "_law_script" 864),(.str "_law_names_by" 865),(.str "_law_title" 866),(.str "_law_stretches" 867),(.str "_law_told" 868),(.str "_law_rows" 869),(.str "_law_cell" 870)]
noncomputable def o488_7:=e1
noncomputable def o489_7:=ft (T 43) "_law_built" "_law_built"
noncomputable def o490_7:Obj:=⟨(.type "code"),none,(.fields #[(.str "_law_built" 861),(.str "_law_built" 862),(.str "/claim/cut.py" 863),(.int (288) 0),(.int (1) 0),(.int (0) 0),(.int (0) 0),(.int (3) 0),(.ref 485),(.bool true),(.int (181) 0),(.ref 486),.none,(.ref 487),(.ref 488),(.ref 489),(.int (871) 0),(.int (288) 0),(.str "/claim/cut.py" 872)]),#[]⟩
noncomputable def o491_7:=fo (T 43) "_law_built" "_law_built" "law_joinload_k13_whole_pieces_both_ways" 800 490
noncomputable def o492_7:=e1
noncomputable def o493_7:=e2
noncomputable def o494_7:=ft (T 44) "_law_copy" "_law_copy"
noncomputable def o495_7:=co "_law_copy" "_law_copy" 874 297 1 3 492 true 493 (.ref 494) 877
noncomputable def o496_7:=fo (T 44) "_law_copy" "_law_copy" "law_joinload_k13_whole_pieces_both_ways" 800 495
noncomputable def o497_7:=e1
noncomputable def o498_7:=e2
noncomputable def o499_7:=tu #[(.str "_law_piece" 883),(.str "_law_text" 884),(.str "_law_kind" 885),(.str "_law_step" 886),(.str "_law_words" 887),(.str "_law_fills" 888),(.str "_law_kept" 889),(.str "_law_other" 890)]
noncomputable def o500_7:=e1
noncomputable def o501_7:=ft (T 45) "_law_word_turned" "_law_word_turned"
noncomputable def o502_7:Obj:=⟨(.type "code"),none,(.fields #[(.str "_law_word_turned" 880),(.str "_law_word_turned" 881),(.str "/claim/cut.py" 882),(.int (300) 0),(.int (2) 0),(.int (0) 0),(.int (0) 0),(.int (3) 0),(.ref 497),(.bool true),(.int (181) 0),(.ref 498),.none,(.ref 499),(.ref 500),(.ref 501),(.int (891) 0),(.int (300) 0),(.str "/claim/cut.py" 892)]),#[]⟩
noncomputable def o503_7:=fo (T 45) "_law_word_turned" "_law_word_turned" "law_joinload_k13_whole_pieces_both_ways" 800 502
noncomputable def o504_7:=e1
noncomputable def o505_7:=e2
noncomputable def o506_7:=tu #[(.str "_law_script" 897),(.str "_law_rows" 898),(.str "_law_piece" 899),(.str "_law_due" 900),(.str "_law_handed" 901),(.str "_law_text" 902),(.str "_law_found" 903)]
noncomputable def o507_7:=e1
noncomputable def o508_7:=ft (T 46) "law" "law"
noncomputable def o509_7:Obj:=⟨(.type "code"),none,(.fields #[(.str "law" 894),(.str "law" 895),(.str "/claim/cut.py" 896),(.int (309) 0),(.int (1) 0),(.int (0) 0),(.int (0) 0),(.int (3) 0),(.ref 504),(.bool true),(.int (181) 0),(.ref 505),.none,(.ref 506),(.ref 507),(.ref 508),(.int (904) 0),(.int (309) 0),(.str "/claim/cut.py" 905)]),#[]⟩
noncomputable def o510_7:=fo (T 46) "law" "law" "law_joinload_k13_whole_pieces_both_ways" 800 509
noncomputable def d6_0 (P:Params) (r:List (Nat×Obj)):List (Nat×Obj):=(3,o3_7 P)::(12,o12_7)::(473,o473_7)::(474,o474_7)::(475,o475_7)::(476,o476_7)::(477,o477_7)::(478,o478_7)::(479,o479_7)::(480,o480_7)::(481,o481_7)::(482,o482_7)::(483,o483_7)::(484,o484_7)::(485,o485_7)::(486,o486_7)::(487,o487_7)::(488,o488_7)::(489,o489_7)::(490,o490_7)::(491,o491_7)::(492,o492_7)::(493,o493_7)::(494,o494_7)::r
noncomputable def d6_1 (P:Params) (r:List (Nat×Obj)):List (Nat×Obj):=(495,o495_7)::(496,o496_7)::(497,o497_7)::(498,o498_7)::(499,o499_7)::(500,o500_7)::(501,o501_7)::(502,o502_7)::(503,o503_7)::(504,o504_7)::(505,o505_7)::(506,o506_7)::(507,o507_7)::(508,o508_7)::(509,o509_7)::(510,o510_7)::r
noncomputable def T6 (P:Params):BT:=mg 14 (T5 P) (d6_0 P (d6_1 P ([])))
noncomputable def S6T (w:World):OsState→SharedT:=sT (T6 w.params) 511 907
noncomputable def L5:List Stmt:=My.top 41::My.top 42::My.top 43::My.top 44::My.top 45::My.top 46::[]
def P5 (w:World):Prop:=sR w 188 S5T S6T L5 ⟨261,0,262,110⟩ ⟨309,0,319,93⟩
noncomputable def h_0 (P:Params) (r:List Obj):List Obj:=boot_o_0 P::boot_o_1 P::boot_o_2 P::o3_7 P::boot_o_4 P::boot_o_5 P::boot_o_6 P::boot_o_7 P::boot_o_8 P::boot_o_9 P::boot_o_10 P::o11_0::o12_7::o13_0::o14_0::o15_2::o16_2::o17_2::o18_2::o19_2::o20_2::o21_2::o22_2::o23_2::r
noncomputable def h_1 (P:Params) (r:List Obj):List Obj:=o24_2 P::o25_2::o26_2::o27_2::o28_2::o29_2::o30_2 P::o31_2::o32_2::o33_2::o34_2::o35_2::o36_2::o37_2 P::o38_2::o39_2::o40_2::o41_2::o42_2::o43_2 P::o44_2::o45_2::o46_2::o47_2::r
noncomputable def h_2 (P:Params) (r:List Obj):List Obj:=o48_2::o49_2 P::o50_2::o51_2::o52_2::o53_2::o54_2::o55_2::o56_2::o57_2::o58_2::o59_2::o60_2::o61_2::o62_2 P::o63_2::o64_2::o65_2::o66_2::o67_2::o68_2::o69_2::o70_2::o71_2::r
noncomputable def h_3 (P:Params) (r:List Obj):List Obj:=o72_2::o73_2::o74_2::o75_2::o76_2::o77_2::o78_2::o79_2::o80_2::o81_2::o82_2::o83_2::o84_2::o85_2::o86_2::o87_2::o88_2::o89_2::o90_2::o91_2::o92_2::o93_2::o94_2::o95_2::r
noncomputable def h_4 (P:Params) (r:List Obj):List Obj:=o96_2::o97_2::o98_2::o99_2::o100_2::o101_3::o102_3::o103_3 P::o104_3::o105_3::o106_3::o107_3::o108_3::o109_3::o110_3::o111_3::o112_3::o113_3::o114_3::o115_3::o116_3::o117_3::o118_3::o119_3::r
noncomputable def h_5 (P:Params) (r:List Obj):List Obj:=o120_3::o121_3::o122_3::o123_3::o124_3::o125_3::o126_3::o127_3::o128_3::o129_3::o130_3::o131_3::o132_3::o133_3::o134_3::o135_3::o136_3::o137_3::o138_3::o139_3::o140_3::o141_3::o142_3::o143_3::r
noncomputable def h_6 (P:Params) (r:List Obj):List Obj:=o144_3 P::o145_5::o146_3::o147_3::o148_3::o149_3::o150_3::o151_3::o152_3 P::o153_3::o154_3::o155_3::o156_3::o157_3::o158_3::o159_3::o160_3::o161_3::o162_3::o163_3::o164_3::o165_3::o166_3::o167_3::r
noncomputable def h_7 (P:Params) (r:List Obj):List Obj:=o168_3::o169_3::o170_3::o171_3::o172_3 P::o173_3::o174_3::o175_3::o176_4::o177_4::o178_4 P::o179_4::o180_4::o181_4::o182_4::o183_4::o184_4::o185_4::o186_4::o187_4::o188_4::o189_4::o190_4::o191_4::r
noncomputable def h_8 (P:Params) (r:List Obj):List Obj:=o192_4::o193_4::o194_4::o195_4::o196_4::o197_4::o198_4 P::o199_4::o200_4::o201_4::o202_4::o203_4::o204_4 P::o205_4::o206_4::o207_4::o208_4::o209_4::o210_4::o211_4::o212_4::o213_4::o214_4::o215_4::r
noncomputable def h_9 (P:Params) (r:List Obj):List Obj:=o216_4::o217_4::o218_4::o219_4::o220_4::o221_4::o222_4::o223_4::o224_4 P::o225_4::o226_4::o227_4::o228_5::o229_5::o230_5 P::o231_5::o232_5::o233_5::o234_5::o235_5::o236_5::o237_5::o238_5::o239_5::r
noncomputable def h_10 (P:Params) (r:List Obj):List Obj:=o240_5::o241_5::o242_5::o243_5::o244_5::o245_5::o246_5::o247_5::o248_5::o249_5::o250_5::o251_5::o252_5::o253_5::o254_5::o255_5::o256_5::o257_5::o258_5::o259_5::o260_5::o261_5::o262_5::o263_5::r
noncomputable def h_11 (P:Params) (r:List Obj):List Obj:=o264_5 P::o265_5::o266_5::o267_5::o268_5::o269_5::o270_5 P::o271_5::o272_5::o273_5::o274_5::o275_5::o276_5::o277_5::o278_5::o279_5::o280_5::o281_5::o282_5::o283_5::o284_5::o285_5::o286_5::o287_5::r
noncomputable def h_12 (P:Params) (r:List Obj):List Obj:=o288_5::o289_5::o290_5::o291_5::o292_5::o293_5::o294_5::o295_5::o296_5::o297_5::o298_5::o299_5::o300_5::o301_5::o302_5::o303_5::o304_5 P::o305_5::o306_5::o307_5::o308_5::o309_5::o310_5::o311_5::r
noncomputable def h_13 (P:Params) (r:List Obj):List Obj:=o312_5::o313_5::o314_5::o315_5 P::o316_6::o317_6::o318_6::o319_6::o320_6::o321_6::o322_6::o323_6::o324_6::o325_6::o326_6::o327_6::o328_6::o329_6::o330_6::o331_6::o332_6::o333_6::o334_6::o335_6::r
noncomputable def h_14 (P:Params) (r:List Obj):List Obj:=o336_6::o337_6::o338_6::o339_6::o340_6::o341_6::o342_6::o343_6::o344_6::o345_6::o346_6::o347_6::o348_6::o349_6 P::o350_6::o351_6::o352_6::o353_6::o354_6::o355_6::o356_6::o357_6::o358_6::o359_6::r
noncomputable def h_15 (P:Params) (r:List Obj):List Obj:=o360_6::o361_6::o362_6::o363_6::o364_6::o365_6::o366_6::o367_6::o368_6::o369_6::o370_6::o371_6::o372_6::o373_6::o374_6::o375_6::o376_6::o377_6::o378_6::o379_6::o380_6::o381_6::o382_6::o383_6::r
noncomputable def h_16 (P:Params) (r:List Obj):List Obj:=o384_6::o385_6::o386_6::o387_6::o388_6::o389_6::o390_6::o391_6::o392_6::o393_6::o394_6::o395_6::o396_6::o397_6::o398_6::o399_6::o400_6::o401_6::o402_6::o403_6::o404_6 P::o405_6::o406_6::o407_6::r
noncomputable def h_17 (P:Params) (r:List Obj):List Obj:=o408_6::o409_6::o410_6::o411_6::o412_6::o413_6::o414_6::o415_6::o416_6::o417_6::o418_6::o419_6::o420_6::o421_6::o422_6::o423_6::o424_6::o425_6::o426_6::o427_6::o428_6::o429_6::o430_6::o431_6::r
noncomputable def h_18 (P:Params) (r:List Obj):List Obj:=o432_6::o433_6::o434_6::o435_6::o436_6::o437_6::o438_6::o439_6::o440_6::o441_6::o442_6::o443_6::o444_6::o445_6::o446_6::o447_6::o448_6::o449_6::o450_6::o451_6::o452_6::o453_6::o454_6::o455_6::r
noncomputable def h_19 (P:Params) (r:List Obj):List Obj:=o456_6::o457_6::o458_6::o459_6::o460_6::o461_6::o462_6::o463_6::o464_6::o465_6::o466_6::o467_6::o468_6::o469_6::o470_6::o471_6::o472_6::o473_7::o474_7::o475_7::o476_7::o477_7::o478_7::o479_7::r
noncomputable def h_20 (P:Params) (r:List Obj):List Obj:=o480_7::o481_7::o482_7::o483_7::o484_7::o485_7::o486_7::o487_7::o488_7::o489_7::o490_7::o491_7::o492_7::o493_7::o494_7::o495_7::o496_7::o497_7::o498_7::o499_7::o500_7::o501_7::o502_7::o503_7::r
noncomputable def h_21 (P:Params) (r:List Obj):List Obj:=o504_7::o505_7::o506_7::o507_7::o508_7::o509_7::o510_7::r
noncomputable def Hf (P:Params):Heap:=⟨⟨h_0 P (h_1 P (h_2 P (h_3 P (h_4 P (h_5 P (h_6 P (h_7 P (h_8 P (h_9 P (h_10 P (h_11 P (h_12 P (h_13 P (h_14 P (h_15 P (h_16 P (h_17 P (h_18 P (h_19 P (h_20 P (h_21 P ([]))))))))))))))))))))))⟩,li⟩
noncomputable def Sf (w:World) (os:OsState):Shared:=⟨Hf w.params,⟨[]⟩,boot_drawn,907,os⟩
def Fin (w:World):Prop:=(fun os=>topRun treeTable pw w 11 an 2 (S6T w os).abs ⟨doneF .next,cE,⟨309,0,319,93⟩,B⟩)=fun os=>some (Sf w os)
noncomputable def q:Program:={ pw with main:={ pw.main with body:=My.top 0::My.top 2::My.top 3::My.top 4::My.top 6::My.top 7::My.top 8::My.top 9::My.top 10::My.top 12::My.top 13::My.top 14::My.top 15::My.top 16::My.top 17::My.top 18::My.top 19::My.top 21::My.top 22::My.top 23::My.top 24::My.top 25::My.top 26::My.top 27::My.top 28::My.top 29::My.top 30::My.top 31::My.top 32::My.top 33::My.top 34::My.top 36::My.top 37::My.top 38::My.top 39::My.top 40::My.top 41::My.top 42::My.top 43::My.top 44::My.top 45::My.top 46::[] } }
noncomputable def K (P:Params):Frag:=(nat_lit 2,boot_o_2 P)::(nat_lit 3,o3_7 P)::(nat_lit 15,o15_2)::(nat_lit 17,o17_2)::(nat_lit 18,o18_2)::(nat_lit 20,o20_2)::(nat_lit 21,o21_2)::(nat_lit 22,o22_2)::(nat_lit 29,o29_2)::(nat_lit 30,o30_2 P)::(nat_lit 31,o31_2)::(nat_lit 32,o32_2)::(nat_lit 35,o35_2)::(nat_lit 42,o42_2)::(nat_lit 43,o43_2 P)::(nat_lit 44,o44_2)::(nat_lit 47,o47_2)::(nat_lit 54,o54_2)::(nat_lit 56,o56_2)::(nat_lit 57,o57_2)::(nat_lit 59,o59_2)::(nat_lit 60,o60_2)::(nat_lit 61,o61_2)::(nat_lit 62,o62_2 P)::(nat_lit 63,o63_2)::(nat_lit 66,o66_2)::(nat_lit 68,o68_2)::(nat_lit 69,o69_2)::(nat_lit 71,o71_2)::(nat_lit 72,o72_2)::(nat_lit 73,o73_2)::(nat_lit 75,o75_2)::(nat_lit 76,o76_2)::(nat_lit 78,o78_2)::(nat_lit 79,o79_2)::(nat_lit 80,o80_2)::(nat_lit 82,o82_2)::(nat_lit 83,o83_2)::(nat_lit 85,o85_2)::(nat_lit 86,o86_2)::(nat_lit 87,o87_2)::(nat_lit 89,o89_2)::(nat_lit 90,o90_2)::(nat_lit 92,o92_2)::(nat_lit 93,o93_2)::(nat_lit 94,o94_2)::(nat_lit 96,o96_2)::(nat_lit 97,o97_2)::(nat_lit 99,o99_2)::(nat_lit 100,o100_2)::(nat_lit 108,o108_3)::(nat_lit 110,o110_3)::(nat_lit 111,o111_3)::(nat_lit 113,o113_3)::(nat_lit 114,o114_3)::(nat_lit 115,o115_3)::(nat_lit 117,o117_3)::(nat_lit 118,o118_3)::(nat_lit 120,o120_3)::(nat_lit 121,o121_3)::(nat_lit 122,o122_3)::(nat_lit 124,o124_3)::(nat_lit 125,o125_3)::(nat_lit 127,o127_3)::(nat_lit 128,o128_3)::(nat_lit 129,o129_3)::(nat_lit 131,o131_3)::(nat_lit 132,o132_3)::(nat_lit 134,o134_3)::(nat_lit 135,o135_3)::(nat_lit 136,o136_3)::(nat_lit 138,o138_3)::(nat_lit 139,o139_3)::(nat_lit 141,o141_3)::(nat_lit 142,o142_3)::(nat_lit 143,o143_3)::(nat_lit 144,o144_3 P)::(nat_lit 145,o145_5)::(nat_lit 146,o146_3)::(nat_lit 147,o147_3)::(nat_lit 150,o150_3)::(nat_lit 157,o157_3)::(nat_lit 159,o159_3)::(nat_lit 160,o160_3)::(nat_lit 162,o162_3)::(nat_lit 163,o163_3)::(nat_lit 164,o164_3)::(nat_lit 166,o166_3)::(nat_lit 167,o167_3)::(nat_lit 169,o169_3)::(nat_lit 170,o170_3)::(nat_lit 171,o171_3)::(nat_lit 172,o172_3 P)::(nat_lit 173,o173_3)::(nat_lit 176,o176_4)::(nat_lit 183,o183_4)::(nat_lit 185,o185_4)::(nat_lit 186,o186_4)::(nat_lit 188,o188_4)::(nat_lit 189,o189_4)::(nat_lit 190,o190_4)::(nat_lit 192,o192_4)::(nat_lit 193,o193_4)::(nat_lit 195,o195_4)::(nat_lit 196,o196_4)::(nat_lit 197,o197_4)::(nat_lit 198,o198_4 P)::(nat_lit 199,o199_4)::(nat_lit 202,o202_4)::(nat_lit 209,o209_4)::(nat_lit 211,o211_4)::(nat_lit 212,o212_4)::(nat_lit 214,o214_4)::(nat_lit 215,o215_4)::(nat_lit 216,o216_4)::(nat_lit 218,o218_4)::(nat_lit 219,o219_4)::(nat_lit 221,o221_4)::(nat_lit 222,o222_4)::(nat_lit 223,o223_4)::(nat_lit 224,o224_4 P)::(nat_lit 225,o225_4)::(nat_lit 228,o228_5)::(nat_lit 235,o235_5)::(nat_lit 237,o237_5)::(nat_lit 238,o238_5)::(nat_lit 240,o240_5)::(nat_lit 241,o241_5)::(nat_lit 242,o242_5)::(nat_lit 244,o244_5)::(nat_lit 245,o245_5)::(nat_lit 247,o247_5)::(nat_lit 248,o248_5)::(nat_lit 249,o249_5)::(nat_lit 251,o251_5)::(nat_lit 252,o252_5)::(nat_lit 254,o254_5)::(nat_lit 255,o255_5)::(nat_lit 256,o256_5)::(nat_lit 258,o258_5)::(nat_lit 259,o259_5)::(nat_lit 261,o261_5)::(nat_lit 262,o262_5)::(nat_lit 263,o263_5)::(nat_lit 264,o264_5 P)::(nat_lit 265,o265_5)::(nat_lit 268,o268_5)::(nat_lit 275,o275_5)::(nat_lit 277,o277_5)::(nat_lit 278,o278_5)::(nat_lit 280,o280_5)::(nat_lit 281,o281_5)::(nat_lit 282,o282_5)::(nat_lit 284,o284_5)::(nat_lit 285,o285_5)::(nat_lit 287,o287_5)::(nat_lit 288,o288_5)::(nat_lit 289,o289_5)::(nat_lit 291,o291_5)::(nat_lit 292,o292_5)::(nat_lit 294,o294_5)::(nat_lit 295,o295_5)::(nat_lit 296,o296_5)::(nat_lit 298,o298_5)::(nat_lit 299,o299_5)::(nat_lit 301,o301_5)::(nat_lit 302,o302_5)::(nat_lit 303,o303_5)::(nat_lit 304,o304_5 P)::(nat_lit 305,o305_5)::(nat_lit 308,o308_5)::(nat_lit 310,o310_5)::(nat_lit 311,o311_5)::(nat_lit 313,o313_5)::(nat_lit 314,o314_5)::(nat_lit 315,o315_5 P)::(nat_lit 316,o316_6)::(nat_lit 319,o319_6)::(nat_lit 320,o320_6)::(nat_lit 321,o321_6)::(nat_lit 324,o324_6)::(nat_lit 325,o325_6)::(nat_lit 326,o326_6)::(nat_lit 328,o328_6)::(nat_lit 329,o329_6)::(nat_lit 331,o331_6)::(nat_lit 332,o332_6)::(nat_lit 333,o333_6)::(nat_lit 335,o335_6)::(nat_lit 336,o336_6)::(nat_lit 338,o338_6)::(nat_lit 339,o339_6)::(nat_lit 340,o340_6)::(nat_lit 342,o342_6)::(nat_lit 343,o343_6)::(nat_lit 345,o345_6)::(nat_lit 346,o346_6)::(nat_lit 354,o354_6)::(nat_lit 356,o356_6)::(nat_lit 357,o357_6)::(nat_lit 359,o359_6)::(nat_lit 360,o360_6)::(nat_lit 361,o361_6)::(nat_lit 363,o363_6)::(nat_lit 364,o364_6)::(nat_lit 366,o366_6)::(nat_lit 367,o367_6)::(nat_lit 368,o368_6)::(nat_lit 370,o370_6)::(nat_lit 371,o371_6)::(nat_lit 373,o373_6)::(nat_lit 374,o374_6)::(nat_lit 375,o375_6)::(nat_lit 377,o377_6)::(nat_lit 378,o378_6)::(nat_lit 380,o380_6)::(nat_lit 381,o381_6)::(nat_lit 382,o382_6)::(nat_lit 384,o384_6)::(nat_lit 385,o385_6)::(nat_lit 387,o387_6)::(nat_lit 388,o388_6)::(nat_lit 389,o389_6)::(nat_lit 391,o391_6)::(nat_lit 392,o392_6)::(nat_lit 394,o394_6)::(nat_lit 395,o395_6)::(nat_lit 396,o396_6)::(nat_lit 398,o398_6)::(nat_lit 399,o399_6)::(nat_lit 401,o401_6)::(nat_lit 402,o402_6)::(nat_lit 403,o403_6)::(nat_lit 404,o404_6 P)::(nat_lit 405,o405_6)::(nat_lit 406,o406_6)::(nat_lit 407,o407_6)::(nat_lit 410,o410_6)::(nat_lit 412,o412_6)::(nat_lit 413,o413_6)::(nat_lit 415,o415_6)::(nat_lit 416,o416_6)::(nat_lit 417,o417_6)::(nat_lit 419,o419_6)::(nat_lit 420,o420_6)::(nat_lit 422,o422_6)::(nat_lit 423,o423_6)::(nat_lit 424,o424_6)::(nat_lit 426,o426_6)::(nat_lit 427,o427_6)::(nat_lit 429,o429_6)::(nat_lit 430,o430_6)::(nat_lit 431,o431_6)::(nat_lit 433,o433_6)::(nat_lit 434,o434_6)::(nat_lit 436,o436_6)::(nat_lit 437,o437_6)::(nat_lit 438,o438_6)::(nat_lit 440,o440_6)::(nat_lit 441,o441_6)::(nat_lit 443,o443_6)::(nat_lit 444,o444_6)::(nat_lit 445,o445_6)::(nat_lit 447,o447_6)::(nat_lit 448,o448_6)::(nat_lit 450,o450_6)::(nat_lit 451,o451_6)::(nat_lit 452,o452_6)::(nat_lit 454,o454_6)::(nat_lit 455,o455_6)::(nat_lit 457,o457_6)::(nat_lit 458,o458_6)::(nat_lit 459,o459_6)::(nat_lit 461,o461_6)::(nat_lit 462,o462_6)::(nat_lit 464,o464_6)::(nat_lit 465,o465_6)::(nat_lit 466,o466_6)::(nat_lit 468,o468_6)::(nat_lit 469,o469_6)::(nat_lit 471,o471_6)::(nat_lit 472,o472_6)::(nat_lit 473,o473_7)::(nat_lit 475,o475_7)::(nat_lit 476,o476_7)::(nat_lit 478,o478_7)::(nat_lit 479,o479_7)::(nat_lit 480,o480_7)::(nat_lit 483,o483_7)::(nat_lit 484,o484_7)::(nat_lit 485,o485_7)::(nat_lit 487,o487_7)::(nat_lit 488,o488_7)::(nat_lit 490,o490_7)::(nat_lit 491,o491_7)::(nat_lit 492,o492_7)::(nat_lit 495,o495_7)::(nat_lit 496,o496_7)::(nat_lit 497,o497_7)::(nat_lit 499,o499_7)::(nat_lit 500,o500_7)::(nat_lit 502,o502_7)::(nat_lit 503,o503_7)::(nat_lit 504,o504_7)::(nat_lit 506,o506_7)::(nat_lit 507,o507_7)::(nat_lit 509,o509_7)::(nat_lit 510,o510_7)::[]
noncomputable def f_0 (P:Params) (r:List (Nat×Obj)):List (Nat×Obj):=(2,boot_o_2 P)::(3,o3_7 P)::(15,o15_2)::(17,o17_2)::(18,o18_2)::(20,o20_2)::(21,o21_2)::(22,o22_2)::(29,o29_2)::(30,o30_2 P)::(31,o31_2)::(32,o32_2)::(35,o35_2)::(42,o42_2)::(43,o43_2 P)::(44,o44_2)::(47,o47_2)::(54,o54_2)::(56,o56_2)::(57,o57_2)::(59,o59_2)::(60,o60_2)::(61,o61_2)::(62,o62_2 P)::r
noncomputable def f_1 (P:Params) (r:List (Nat×Obj)):List (Nat×Obj):=(63,o63_2)::(66,o66_2)::(68,o68_2)::(69,o69_2)::(71,o71_2)::(72,o72_2)::(73,o73_2)::(75,o75_2)::(76,o76_2)::(78,o78_2)::(79,o79_2)::(80,o80_2)::(82,o82_2)::(83,o83_2)::(85,o85_2)::(86,o86_2)::(87,o87_2)::(89,o89_2)::(90,o90_2)::(92,o92_2)::(93,o93_2)::(94,o94_2)::(96,o96_2)::(97,o97_2)::r
noncomputable def f_2 (P:Params) (r:List (Nat×Obj)):List (Nat×Obj):=(99,o99_2)::(100,o100_2)::(108,o108_3)::(110,o110_3)::(111,o111_3)::(113,o113_3)::(114,o114_3)::(115,o115_3)::(117,o117_3)::(118,o118_3)::(120,o120_3)::(121,o121_3)::(122,o122_3)::(124,o124_3)::(125,o125_3)::(127,o127_3)::(128,o128_3)::(129,o129_3)::(131,o131_3)::(132,o132_3)::(134,o134_3)::(135,o135_3)::(136,o136_3)::(138,o138_3)::r
noncomputable def f_3 (P:Params) (r:List (Nat×Obj)):List (Nat×Obj):=(139,o139_3)::(141,o141_3)::(142,o142_3)::(143,o143_3)::(144,o144_3 P)::(145,o145_5)::(146,o146_3)::(147,o147_3)::(150,o150_3)::(157,o157_3)::(159,o159_3)::(160,o160_3)::(162,o162_3)::(163,o163_3)::(164,o164_3)::(166,o166_3)::(167,o167_3)::(169,o169_3)::(170,o170_3)::(171,o171_3)::(172,o172_3 P)::(173,o173_3)::(176,o176_4)::(183,o183_4)::r
noncomputable def f_4 (P:Params) (r:List (Nat×Obj)):List (Nat×Obj):=(185,o185_4)::(186,o186_4)::(188,o188_4)::(189,o189_4)::(190,o190_4)::(192,o192_4)::(193,o193_4)::(195,o195_4)::(196,o196_4)::(197,o197_4)::(198,o198_4 P)::(199,o199_4)::(202,o202_4)::(209,o209_4)::(211,o211_4)::(212,o212_4)::(214,o214_4)::(215,o215_4)::(216,o216_4)::(218,o218_4)::(219,o219_4)::(221,o221_4)::(222,o222_4)::(223,o223_4)::r
noncomputable def f_5 (P:Params) (r:List (Nat×Obj)):List (Nat×Obj):=(224,o224_4 P)::(225,o225_4)::(228,o228_5)::(235,o235_5)::(237,o237_5)::(238,o238_5)::(240,o240_5)::(241,o241_5)::(242,o242_5)::(244,o244_5)::(245,o245_5)::(247,o247_5)::(248,o248_5)::(249,o249_5)::(251,o251_5)::(252,o252_5)::(254,o254_5)::(255,o255_5)::(256,o256_5)::(258,o258_5)::(259,o259_5)::(261,o261_5)::(262,o262_5)::(263,o263_5)::r
noncomputable def f_6 (P:Params) (r:List (Nat×Obj)):List (Nat×Obj):=(264,o264_5 P)::(265,o265_5)::(268,o268_5)::(275,o275_5)::(277,o277_5)::(278,o278_5)::(280,o280_5)::(281,o281_5)::(282,o282_5)::(284,o284_5)::(285,o285_5)::(287,o287_5)::(288,o288_5)::(289,o289_5)::(291,o291_5)::(292,o292_5)::(294,o294_5)::(295,o295_5)::(296,o296_5)::(298,o298_5)::(299,o299_5)::(301,o301_5)::(302,o302_5)::(303,o303_5)::r
noncomputable def f_7 (P:Params) (r:List (Nat×Obj)):List (Nat×Obj):=(304,o304_5 P)::(305,o305_5)::(308,o308_5)::(310,o310_5)::(311,o311_5)::(313,o313_5)::(314,o314_5)::(315,o315_5 P)::(316,o316_6)::(319,o319_6)::(320,o320_6)::(321,o321_6)::(324,o324_6)::(325,o325_6)::(326,o326_6)::(328,o328_6)::(329,o329_6)::(331,o331_6)::(332,o332_6)::(333,o333_6)::(335,o335_6)::(336,o336_6)::(338,o338_6)::(339,o339_6)::r
noncomputable def f_8 (P:Params) (r:List (Nat×Obj)):List (Nat×Obj):=(340,o340_6)::(342,o342_6)::(343,o343_6)::(345,o345_6)::(346,o346_6)::(354,o354_6)::(356,o356_6)::(357,o357_6)::(359,o359_6)::(360,o360_6)::(361,o361_6)::(363,o363_6)::(364,o364_6)::(366,o366_6)::(367,o367_6)::(368,o368_6)::(370,o370_6)::(371,o371_6)::(373,o373_6)::(374,o374_6)::(375,o375_6)::(377,o377_6)::(378,o378_6)::(380,o380_6)::r
noncomputable def f_9 (P:Params) (r:List (Nat×Obj)):List (Nat×Obj):=(381,o381_6)::(382,o382_6)::(384,o384_6)::(385,o385_6)::(387,o387_6)::(388,o388_6)::(389,o389_6)::(391,o391_6)::(392,o392_6)::(394,o394_6)::(395,o395_6)::(396,o396_6)::(398,o398_6)::(399,o399_6)::(401,o401_6)::(402,o402_6)::(403,o403_6)::(404,o404_6 P)::(405,o405_6)::(406,o406_6)::(407,o407_6)::(410,o410_6)::(412,o412_6)::(413,o413_6)::r
noncomputable def f_10 (P:Params) (r:List (Nat×Obj)):List (Nat×Obj):=(415,o415_6)::(416,o416_6)::(417,o417_6)::(419,o419_6)::(420,o420_6)::(422,o422_6)::(423,o423_6)::(424,o424_6)::(426,o426_6)::(427,o427_6)::(429,o429_6)::(430,o430_6)::(431,o431_6)::(433,o433_6)::(434,o434_6)::(436,o436_6)::(437,o437_6)::(438,o438_6)::(440,o440_6)::(441,o441_6)::(443,o443_6)::(444,o444_6)::(445,o445_6)::(447,o447_6)::r
noncomputable def f_11 (P:Params) (r:List (Nat×Obj)):List (Nat×Obj):=(448,o448_6)::(450,o450_6)::(451,o451_6)::(452,o452_6)::(454,o454_6)::(455,o455_6)::(457,o457_6)::(458,o458_6)::(459,o459_6)::(461,o461_6)::(462,o462_6)::(464,o464_6)::(465,o465_6)::(466,o466_6)::(468,o468_6)::(469,o469_6)::(471,o471_6)::(472,o472_6)::(473,o473_7)::(475,o475_7)::(476,o476_7)::(478,o478_7)::(479,o479_7)::(480,o480_7)::r
noncomputable def f_12 (P:Params) (r:List (Nat×Obj)):List (Nat×Obj):=(483,o483_7)::(484,o484_7)::(485,o485_7)::(487,o487_7)::(488,o488_7)::(490,o490_7)::(491,o491_7)::(492,o492_7)::(495,o495_7)::(496,o496_7)::(497,o497_7)::(499,o499_7)::(500,o500_7)::(502,o502_7)::(503,o503_7)::(504,o504_7)::(506,o506_7)::(507,o507_7)::(509,o509_7)::(510,o510_7)::r
noncomputable def K2 (P:Params):Frag:=f_0 P (f_1 P (f_2 P (f_3 P (f_4 P (f_5 P (f_6 P (f_7 P (f_8 P (f_9 P (f_10 P (f_11 P (f_12 P ([])))))))))))))
noncomputable def as:List Addr:=nat_lit 2::nat_lit 3::nat_lit 15::nat_lit 17::nat_lit 18::nat_lit 20::nat_lit 21::nat_lit 22::nat_lit 29::nat_lit 30::nat_lit 31::nat_lit 32::nat_lit 35::nat_lit 42::nat_lit 43::nat_lit 44::nat_lit 47::nat_lit 54::nat_lit 56::nat_lit 57::nat_lit 59::nat_lit 60::nat_lit 61::nat_lit 62::nat_lit 63::nat_lit 66::nat_lit 68::nat_lit 69::nat_lit 71::nat_lit 72::nat_lit 73::nat_lit 75::nat_lit 76::nat_lit 78::nat_lit 79::nat_lit 80::nat_lit 82::nat_lit 83::nat_lit 85::nat_lit 86::nat_lit 87::nat_lit 89::nat_lit 90::nat_lit 92::nat_lit 93::nat_lit 94::nat_lit 96::nat_lit 97::nat_lit 99::nat_lit 100::nat_lit 108::nat_lit 110::nat_lit 111::nat_lit 113::nat_lit 114::nat_lit 115::nat_lit 117::nat_lit 118::nat_lit 120::nat_lit 121::nat_lit 122::nat_lit 124::nat_lit 125::nat_lit 127::nat_lit 128::nat_lit 129::nat_lit 131::nat_lit 132::nat_lit 134::nat_lit 135::nat_lit 136::nat_lit 138::nat_lit 139::nat_lit 141::nat_lit 142::nat_lit 143::nat_lit 144::nat_lit 145::nat_lit 146::nat_lit 147::nat_lit 150::nat_lit 157::nat_lit 159::nat_lit 160::nat_lit 162::nat_lit 163::nat_lit 164::nat_lit 166::nat_lit 167::nat_lit 169::nat_lit 170::nat_lit 171::nat_lit 172::nat_lit 173::nat_lit 176::nat_lit 183::nat_lit 185::nat_lit 186::nat_lit 188::nat_lit 189::nat_lit 190::nat_lit 192::nat_lit 193::nat_lit 195::nat_lit 196::nat_lit 197::nat_lit 198::nat_lit 199::nat_lit 202::nat_lit 209::nat_lit 211::nat_lit 212::nat_lit 214::nat_lit 215::nat_lit 216::nat_lit 218::nat_lit 219::nat_lit 221::nat_lit 222::nat_lit 223::nat_lit 224::nat_lit 225::nat_lit 228::nat_lit 235::nat_lit 237::nat_lit 238::nat_lit 240::nat_lit 241::nat_lit 242::nat_lit 244::nat_lit 245::nat_lit 247::nat_lit 248::nat_lit 249::nat_lit 251::nat_lit 252::nat_lit 254::nat_lit 255::nat_lit 256::nat_lit 258::nat_lit 259::nat_lit 261::nat_lit 262::nat_lit 263::nat_lit 264::nat_lit 265::nat_lit 268::nat_lit 275::nat_lit 277::nat_lit 278::nat_lit 280::nat_lit 281::nat_lit 282::nat_lit 284::nat_lit 285::nat_lit 287::nat_lit 288::nat_lit 289::nat_lit 291::nat_lit 292::nat_lit 294::nat_lit 295::nat_lit 296::nat_lit 298::nat_lit 299::nat_lit 301::nat_lit 302::nat_lit 303::nat_lit 304::nat_lit 305::nat_lit 308::nat_lit 310::nat_lit 311::nat_lit 313::nat_lit 314::nat_lit 315::nat_lit 316::nat_lit 319::nat_lit 320::nat_lit 321::nat_lit 324::nat_lit 325::nat_lit 326::nat_lit 328::nat_lit 329::nat_lit 331::nat_lit 332::nat_lit 333::nat_lit 335::nat_lit 336::nat_lit 338::nat_lit 339::nat_lit 340::nat_lit 342::nat_lit 343::nat_lit 345::nat_lit 346::nat_lit 354::nat_lit 356::nat_lit 357::nat_lit 359::nat_lit 360::nat_lit 361::nat_lit 363::nat_lit 364::nat_lit 366::nat_lit 367::nat_lit 368::nat_lit 370::nat_lit 371::nat_lit 373::nat_lit 374::nat_lit 375::nat_lit 377::nat_lit 378::nat_lit 380::nat_lit 381::nat_lit 382::nat_lit 384::nat_lit 385::nat_lit 387::nat_lit 388::nat_lit 389::nat_lit 391::nat_lit 392::nat_lit 394::nat_lit 395::nat_lit 396::nat_lit 398::nat_lit 399::nat_lit 401::nat_lit 402::nat_lit 403::nat_lit 404::nat_lit 405::nat_lit 406::nat_lit 407::nat_lit 410::nat_lit 412::nat_lit 413::nat_lit 415::nat_lit 416::nat_lit 417::nat_lit 419::nat_lit 420::nat_lit 422::nat_lit 423::nat_lit 424::nat_lit 426::nat_lit 427::nat_lit 429::nat_lit 430::nat_lit 431::nat_lit 433::nat_lit 434::nat_lit 436::nat_lit 437::nat_lit 438::nat_lit 440::nat_lit 441::nat_lit 443::nat_lit 444::nat_lit 445::nat_lit 447::nat_lit 448::nat_lit 450::nat_lit 451::nat_lit 452::nat_lit 454::nat_lit 455::nat_lit 457::nat_lit 458::nat_lit 459::nat_lit 461::nat_lit 462::nat_lit 464::nat_lit 465::nat_lit 466::nat_lit 468::nat_lit 469::nat_lit 471::nat_lit 472::nat_lit 473::nat_lit 475::nat_lit 476::nat_lit 478::nat_lit 479::nat_lit 480::nat_lit 483::nat_lit 484::nat_lit 485::nat_lit 487::nat_lit 488::nat_lit 490::nat_lit 491::nat_lit 492::nat_lit 495::nat_lit 496::nat_lit 497::nat_lit 499::nat_lit 500::nat_lit 502::nat_lit 503::nat_lit 504::nat_lit 506::nat_lit 507::nat_lit 509::nat_lit 510::[]
noncomputable def H:Hook:=kHook K as (fun _=>by kernel_rfl)
noncomputable abbrev R:WRecords:=RowW.records (OpenRow.toRowW (OpenLaw.row PySem.Challenge.rw_joinload_k13_whole_pieces_both_ways))
noncomputable abbrev Xt (s:Shared):Bool:=xlAt q [] s&&recOk R s
def Size (w:World):Prop:=((boot_heap w.params).isNs mainGlobals&&(⟨[]⟩:Array GenState).size == 0,(boot_heap w.params).objs.size,(boot_heap w.params).nsMap mainGlobals "__annotations__")=(true,11,an)
def LA (w:World):Prop:=(fun os=>staticsOk (importedModules pw.main.body) (boot_heap w.params) (Hf w.params)&&namesBound pw (Hf w.params)&&gensDone (Sf w os)&&laidKept (boot_heap w.params) (Hf w.params))=fun _=>true
def Ls1 (w:World):Prop:=(fun os=>seen ((recsOf q).map (·.name)) (ownsOf q) [] { Sf w os with gens:=#[] })=fun _=>expectedOf q
def Ls2 (w:World):Prop:=(fun os=>(Sf w os).heap.bltView)=fun _=>bltViewBooted
def Ls3 (w:World):Prop:=(fun os=>(Sf w os).heap.keysOk (looseW q ["HOW_MANY_PARTS"]) ((recsOf q).map (·.name)) ((litsOf q).map (·.1)) ((clssOf q (looseW q ["HOW_MANY_PARTS"])).map (·.name))&&(Sf w os).heap.accountedOkI (importedModules pw.main.body)&&(Sf w os).heap.isNs mainGlobals&&(Sf w os).heap.isNs builtinsNs&&tablesOk q (Sf w os).heap&&Xt (Sf w os)&&(if true then (Sf w os).gens.size == 0 else !leftWithCleanup (Sf w os).gens))=fun _=>true
def Ls4 (w:World):Prop:=(fun os=>tabsOk q (Sf w os))=fun _=>true
def Ls5 (w:World):Prop:=(fun os=>pinSeenD q (drecsOf q) (Sf w os))=fun _=>pinGoodD (drecsOf q)
def Ls6 (w:World):Prop:=(fun os=>plainSeenE q (looseW q ["HOW_MANY_PARTS"]) (Sf w os))=fun _=>plainGoodE q (looseW q ["HOW_MANY_PARTS"])
def Ls7 (w:World):Prop:=(fun os=>plainSeenD q ["HOW_MANY_PARTS"] (Sf w os))=fun _=>plainGoodD q ["HOW_MANY_PARTS"]
def Ls8 (w:World):Prop:=(fun os=>wideSeen q (Sf w os))=fun _=>wideGood q
def Ls9 (w:World):Prop:=(fun os=>clsSeenW q ["HOW_MANY_PARTS"] (Sf w os))=fun _=>clsGoodW q ["HOW_MANY_PARTS"]
def Yk (w:World):Prop:=(fun os=>as.map (Sf w os).heap.get?)=fun _=>(K2 w.params).map fun p=>some p.2
theorem K_is:K=K2:=by kernel_rfl
theorem Pre_r:Pre=Pre:=rfl
theorem Blk_r:Blk=Blk:=rfl
theorem P0_r:P0=P0:=rfl
theorem P1_r:P1=P1:=rfl
theorem P2_r:P2=P2:=rfl
theorem P3_r:P3=P3:=rfl
theorem P4_r:P4=P4:=rfl
theorem P5_r:P5=P5:=rfl
theorem Fin_r:Fin=Fin:=rfl
theorem Size_r:Size=Size:=rfl
theorem LA_r:LA=LA:=rfl
theorem Ls1_r:Ls1=Ls1:=rfl
theorem Ls2_r:Ls2=Ls2:=rfl
theorem Ls3_r:Ls3=Ls3:=rfl
theorem Ls4_r:Ls4=Ls4:=rfl
theorem Ls5_r:Ls5=Ls5:=rfl
theorem Ls6_r:Ls6=Ls6:=rfl
theorem Ls7_r:Ls7=Ls7:=rfl
theorem Ls8_r:Ls8=Ls8:=rfl
theorem Ls9_r:Ls9=Ls9:=rfl
theorem Yk_r:Yk=Yk:=rfl
end Hd
name_quick hdPre for Hd.Pre by Hd.Pre_r
name_quick hdBlk for Hd.Blk by Hd.Blk_r
name_quick hdP0 for Hd.P0 by Hd.P0_r
name_quick hdP1 for Hd.P1 by Hd.P1_r
name_quick hdP2 for Hd.P2 by Hd.P2_r
name_quick hdP3 for Hd.P3 by Hd.P3_r
name_quick hdP4 for Hd.P4 by Hd.P4_r
name_quick hdP5 for Hd.P5 by Hd.P5_r
name_quick hdFin for Hd.Fin by Hd.Fin_r
name_quick hdSize for Hd.Size by Hd.Size_r
name_quick hdLA for Hd.LA by Hd.LA_r
name_quick hdLs1 for Hd.Ls1 by Hd.Ls1_r
name_quick hdLs2 for Hd.Ls2 by Hd.Ls2_r
name_quick hdLs3 for Hd.Ls3 by Hd.Ls3_r
name_quick hdLs4 for Hd.Ls4 by Hd.Ls4_r
name_quick hdLs5 for Hd.Ls5 by Hd.Ls5_r
name_quick hdLs6 for Hd.Ls6 by Hd.Ls6_r
name_quick hdLs7 for Hd.Ls7 by Hd.Ls7_r
name_quick hdLs8 for Hd.Ls8 by Hd.Ls8_r
name_quick hdLs9 for Hd.Ls9 by Hd.Ls9_r
name_quick hdYk for Hd.Yk by Hd.Yk_r
namespace Hd
open PySem PySem.W PySem.Calls PyProof.Rows
theorem Pre_h (w:World):Pre w:=by
 rw[show Pre w=PySem.W.Fast.hdPre w from congrFun PySem.W.Fast.hdPre_eq _]
 delta PySem.W.Fast.hdPre PySem.W.Fast.tw7651035101826984186
 kernel_rfl
theorem Blk_h (w:World):Blk w:=by
 rw[show Blk w=PySem.W.Fast.hdBlk w from congrFun PySem.W.Fast.hdBlk_eq _]
 delta PySem.W.Fast.hdBlk PySem.W.Fast.tw10272554187927912860
 kernel_rfl
theorem P0_h (w:World):P0 w:=by
 rw[show P0 w=PySem.W.Fast.hdP0 w from congrFun PySem.W.Fast.hdP0_eq _]
 delta PySem.W.Fast.hdP0 PySem.W.Fast.tw2223480372460268926 PySem.W.Fast.tw16301345103801407739
 kernel_rfl
theorem P1_h (w:World):P1 w:=by
 rw[show P1 w=PySem.W.Fast.hdP1 w from congrFun PySem.W.Fast.hdP1_eq _]
 delta PySem.W.Fast.hdP1 PySem.W.Fast.tw14855786421978465553 PySem.W.Fast.tw16301345103801407739
 kernel_rfl
theorem P2_h (w:World):P2 w:=by
 rw[show P2 w=PySem.W.Fast.hdP2 w from congrFun PySem.W.Fast.hdP2_eq _]
 delta PySem.W.Fast.hdP2 PySem.W.Fast.tw6117723192894798286 PySem.W.Fast.tw16301345103801407739
 kernel_rfl
theorem P3_false (w:World):P3 (w.withFollow "special-get-raises" false):=by
 rw[show P3 (w.withFollow "special-get-raises" false)=PySem.W.Fast.hdP3 (w.withFollow "special-get-raises" false) from congrFun PySem.W.Fast.hdP3_eq _]
 delta PySem.W.Fast.hdP3 PySem.W.Fast.tw4020557457582994402 PySem.W.Fast.tw16301345103801407739
 kernel_rfl
theorem P3_true (w:World):P3 (w.withFollow "special-get-raises" true):=by
 rw[show P3 (w.withFollow "special-get-raises" true)=PySem.W.Fast.hdP3 (w.withFollow "special-get-raises" true) from congrFun PySem.W.Fast.hdP3_eq _]
 delta PySem.W.Fast.hdP3 PySem.W.Fast.tw4020557457582994402 PySem.W.Fast.tw16301345103801407739
 kernel_rfl
theorem P3_h (w:World):P3 w:=@byRow2 "special-get-raises" P3 P3_false P3_true w
theorem P4_h (w:World):P4 w:=by
 rw[show P4 w=PySem.W.Fast.hdP4 w from congrFun PySem.W.Fast.hdP4_eq _]
 delta PySem.W.Fast.hdP4 PySem.W.Fast.tw16968994527078285662 PySem.W.Fast.tw16301345103801407739
 kernel_rfl
theorem P5_h (w:World):P5 w:=by
 rw[show P5 w=PySem.W.Fast.hdP5 w from congrFun PySem.W.Fast.hdP5_eq _]
 delta PySem.W.Fast.hdP5 PySem.W.Fast.tw18047075776830140373 PySem.W.Fast.tw16301345103801407739
 kernel_rfl
theorem Fin_h (w:World):Fin w:=by
 rw[show Fin w=PySem.W.Fast.hdFin w from congrFun PySem.W.Fast.hdFin_eq _]
 delta PySem.W.Fast.hdFin PySem.W.Fast.tw4976735305809376593
 kernel_rfl
theorem Size_h (w:World):Size w:=by
 rw[show Size w=PySem.W.Fast.hdSize w from congrFun PySem.W.Fast.hdSize_eq _]
 delta PySem.W.Fast.hdSize PySem.W.Fast.tw14461627914784175761
 kernel_rfl
theorem LA_h (w:World):LA w:=by
 rw[show LA w=PySem.W.Fast.hdLA w from congrFun PySem.W.Fast.hdLA_eq _]
 delta PySem.W.Fast.hdLA PySem.W.Fast.tw11134583137455730433
 kernel_rfl
theorem Ls1_h (w:World):Ls1 w:=by
 rw[show Ls1 w=PySem.W.Fast.hdLs1 w from congrFun PySem.W.Fast.hdLs1_eq _]
 delta PySem.W.Fast.hdLs1 PySem.W.Fast.tw14098396552713008135
 kernel_rfl
theorem Ls2_h (w:World):Ls2 w:=by
 rw[show Ls2 w=PySem.W.Fast.hdLs2 w from congrFun PySem.W.Fast.hdLs2_eq _]
 delta PySem.W.Fast.hdLs2 PySem.W.Fast.tw6547580189001637342
 kernel_rfl
theorem Ls3_h (w:World):Ls3 w:=by
 rw[show Ls3 w=PySem.W.Fast.hdLs3 w from congrFun PySem.W.Fast.hdLs3_eq _]
 delta PySem.W.Fast.hdLs3 PySem.W.Fast.tw10934468223134025866
 kernel_rfl
theorem Ls4_h (w:World):Ls4 w:=by
 rw[show Ls4 w=PySem.W.Fast.hdLs4 w from congrFun PySem.W.Fast.hdLs4_eq _]
 delta PySem.W.Fast.hdLs4 PySem.W.Fast.tw13894289833044730176
 kernel_rfl
theorem Ls5_h (w:World):Ls5 w:=by
 rw[show Ls5 w=PySem.W.Fast.hdLs5 w from congrFun PySem.W.Fast.hdLs5_eq _]
 delta PySem.W.Fast.hdLs5 PySem.W.Fast.tw11162159950934395656
 kernel_rfl
theorem Ls6_h (w:World):Ls6 w:=by
 rw[show Ls6 w=PySem.W.Fast.hdLs6 w from congrFun PySem.W.Fast.hdLs6_eq _]
 delta PySem.W.Fast.hdLs6 PySem.W.Fast.tw9014929701734557122
 kernel_rfl
theorem Ls7_h (w:World):Ls7 w:=by
 rw[show Ls7 w=PySem.W.Fast.hdLs7 w from congrFun PySem.W.Fast.hdLs7_eq _]
 delta PySem.W.Fast.hdLs7 PySem.W.Fast.tw16695146034332369646
 kernel_rfl
theorem Ls8_h (w:World):Ls8 w:=by
 rw[show Ls8 w=PySem.W.Fast.hdLs8 w from congrFun PySem.W.Fast.hdLs8_eq _]
 delta PySem.W.Fast.hdLs8 PySem.W.Fast.tw13045354483572663336
 kernel_rfl
theorem Ls9_h (w:World):Ls9 w:=by
 rw[show Ls9 w=PySem.W.Fast.hdLs9 w from congrFun PySem.W.Fast.hdLs9_eq _]
 delta PySem.W.Fast.hdLs9 PySem.W.Fast.tw9459536174771691377
 kernel_rfl
theorem Yk_h (w:World):Yk w:=by
 rw[show Yk w=PySem.W.Fast.hdYk w from congrFun PySem.W.Fast.hdYk_eq _]
 delta PySem.W.Fast.hdYk PySem.W.Fast.tw3491827284470035837
 kernel_rfl
noncomputable def R5:List Stmt:=L5++[]
noncomputable def R4:List Stmt:=L4++R5
noncomputable def R3:List Stmt:=L3++R4
noncomputable def R2:List Stmt:=L2++R3
noncomputable def R1:List Stmt:=L1++R2
noncomputable def R0:List Stmt:=L0++R1
theorem bd_is:bd=R0:=by kernel_rfl
theorem rest_h (w:World) (os:OsState):topRun treeTable pw w 11 an (860+(633+(559+(899+(880+(188+2)))))) (S0T w os).abs (restOf R0 en cE ⟨0,0,0,0⟩ B)=some (Sf w os):=
 (piece_app (l:=L0) (segRun_of (congrFun (P0_h w) os)) (piece_app (l:=L1) (segRun_of (congrFun (P1_h w) os)) (piece_app (l:=L2) (segRun_of (congrFun (P2_h w) os)) (piece_app (l:=L3) (segRun_of (congrFun (P3_h w) os)) (piece_app (l:=L4) (segRun_of (congrFun (P4_h w) os)) (piece_app (l:=L5) (segRun_of (congrFun (P5_h w) os)) (congrFun (Fin_h w) os)))))))
theorem run_h (w:World) (os:OsState):topRun treeTable pw w 11 an (12+(1+(860+(633+(559+(899+(880+(188+2)))))))) (S0 w os) (topStub pw)=some (Sf w os):=
 go_top (congrFun (Pre_h w) os) (piece_block (congrFun (Blk_h w) os) (by
  rw[show restOf bd en cE ⟨0,0,0,0⟩ B=restOf R0 en cE ⟨0,0,0,0⟩ B from congrArg (fun l=>restOf l en cE ⟨0,0,0,0⟩ B) bd_is]
  exact rest_h w os))
theorem Yk_k (w:World) (os:OsState):Hook.obs H (Sf w os)=Hook.val H w:=by
 show as.map (Sf w os).heap.get?=(K w.params).map fun p=>some p.2
 rw[K_is];exact congrFun (Yk_h w) os
theorem left_h:LeftO pw q ["HOW_MANY_PARTS"] Xt (Hook.obs H) (Hook.val H) 8152:=
 LeftO.of_pieces (H₀:=boot_heap) (H₁:=Hf) (m₀:=11) (ann:=an) (boot_open rfl rfl (fun _=>rfl)) Size_h run_h (by decide +kernel) fun w=>funext fun os=>
  looks_pair (congrFun (LA_h w) os) (looks_pair
   (show openSeen q ["HOW_MANY_PARTS"] (importedModules pw.main.body) Xt true (Sf w os)=openGood q ["HOW_MANY_PARTS"] from
    looks_pair (congrFun (Ls1_h w) os) (looks_pair (congrFun (Ls2_h w) os) (looks_pair (congrFun (Ls3_h w) os) (looks_pair (congrFun (Ls4_h w) os) (looks_pair (congrFun (Ls5_h w) os) (looks_pair (congrFun (Ls6_h w) os) (looks_pair (congrFun (Ls7_h w) os) (looks_pair (congrFun (Ls8_h w) os) (congrFun (Ls9_h w) os)))))))))
   (Yk_k w os))
end Hd
open PySem PySem.W PyProof.Rows
set_option maxRecDepth 100000 in
set_option maxHeartbeats 0 in
theorem PySem.Challenge.cw_joinload_k13_whole_pieces_both_ways_holds : PySem.Challenge.rw_joinload_k13_whole_pieces_both_ways.Holds := by
 w_on;o_law
 refine holds_open (q:=Hd.q) (loose:=["HOW_MANY_PARTS"]) (Xt:=Hd.Xt) (XP:=XL Hd.q []) (Yf:=Hook.obs Hd.H) (Ya:=Hook.val Hd.H) (YP:=InK Hd.K) Hd.left_h (Hook.of Hd.H) (Hook.keeps Hd.H) (fun s e=>xl_of s (Bool.and_eq_true_iff.mp e).1) XL.keeps (by rfl) (by rfl) (by rfl) (fun s e=>recFacts_of (Bool.and_eq_true_iff.mp e).2) (by rfl) (by first | assumption | decide +kernel) (by decide +kernel) ⟨rfl,rfl,rfl,rfl,rfl,by decide +kernel⟩ ?hw ?hc
 (case hw=>w_witness2)
 k_fill
 refine My.walk (l:=PySem.Challenge.rw_joinload_k13_whole_pieces_both_ways) (K:=Hd.K) rfl rfl (fun w h Y=>Y) ?F
 case F=>
  intro w mg fa h KX G hmg
  refine' My.all_mk KX G hmg _ _ _ _ _ _ _ _ _ _ _ _ _ _ _ _ _ _ _ _ _ _ _ _ _ _ _ _ _ _ _ _ _ _ _ _ _ _ _ _ _ _ _ _ _ _ _ _ _ _ _ _ _ _ _ _ _ _ _ _ _ _ _ _ _ _ _ _ _ _ _ _ _ _ _ _ _ _ _ _ _ _ _ _ _ _ _ _ _ _ _ _ _ _ _ _ _ _ _ _ _ _ _ _ _ _ _ _ _ _ _ _ _ _ _ _ _ _ _ _ _ _ _ _ _ _ _ _ _ _ _ _ _ _ _ _ _ _ _ _ _ _ _ _ _ _ _ _ _ _ _ _ _ _ _ _ _ _ _ _ _ _ _ _ _ _ _
  all_goals first | exact⟨_,_,_,_,_,_,_,_,_,by k_is,by k_is,by k_is⟩ | k_is | kernel_rfl | k_exc | rfl | skip
#print axioms PySem.Challenge.cw_joinload_k13_whole_pieces_both_ways_holds
