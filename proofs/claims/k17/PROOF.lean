import PyProof.Rows.All
import Wide.All
import OpenK.AllK
import Wide.FinOn
import Lean
import PyProof.EqAt
import PyProof.EqKinds
import PyProof.TupleCall
import PyProof.StationsW
import PyProof.ExcAttrAll.ValueError
import KE.KIsAll
import PyProof.RulesAs
import PyProof.NsDelKeeps
import PyProof.FString
import PyProof.FString4
import PyProof.Rows.FStr
import PyProof.Rows.FStrParts
import PyProof.StrCalls2
import PyProof.StrLawsRepr
import PyProof.StrLawsJoin
import PyProof.StrLaws
import PyProof.Rows.ReprOcc
import PyProof.ExcInit
import PyProof.InstStoreFacts
import KE.KDictOf
import PyProof.AttrMissHeap
import PyProof.AttrMissSeq
import PyProof.WalksS
import PyProof.Walks
import PyProof.Seq
import PyProof.DictList
import PyProof.DictUpdate
import PyProof.MakeMany
import PyProof.Rows.SetFrom
import PyProof.ZipIter
import PyProof.Rows.TupDisplay
import PyProof.EnumFor
import PyProof.EnumMake
import PyProof.EnumStmt
import PyProof.SeqI3
import PyProof.Rows.SumAny
import KE.KDictIter
import PyProof.DictWalks
import PyProof.StrLawsChain
import PyProof.StrLawsTight
import KE.KIntText
import PyProof.CallType
import PyProof.Rows.CallKwBuiltin
import PyProof.Draws
import PyProof.DefCall
import PyProof.SetKind
import PyProof.DictKinds
import PyProof.CollectWalk
import PyProof.FactsAll.set
import PyProof.DictIter
import PyProof.FactsTree
import PyProof.CollectStr
import KE.KDictLaws
import PyProof.Rows.SortShellK
import PyProof.Rows.SortWalk
import PyProof.Rows.StrNews2
import KE.KRevIter
import PyProof.ListNew
import PyProof.ListRange
import PyProof.WalkInts
import KE.KLam
import KE.KSortKey
import PyProof.AutoSeq1
import PyProof.ListIndex
import PySem.Challenge.RW_joinload_k17_told_twice
set_option Elab.async false
set_option linter.all false
set_option maxRecDepth 100000
set_option genSizeOfSpec false
abbrev Wf:=PySem.W.Frag
abbrev Vs:=PySem.Value→PySem.Shared→Prop
abbrev Lo:=List (PySem.Addr×PySem.Obj)
abbrev So:=PySem.Str→Option PySem.Value
namespace L2
open PySem PySem.Spec PyProof.Rows
noncomputable abbrev Key:=Sum Int Str
noncomputable def keyIs:Key→Value→Bool
 | .inl k,v=>Value.isInt k v
 | .inr x,v=>Value.isStrOf x v
noncomputable def keyH (w:World):Key→Int
 | .inl k=>hashInt k
 | .inr x=>hashStr w x
theorem zz18:∀{k:Key}{v:Value},keyIs k v=true→(∃i t,k=Sum.inl i∧v=Value.int i t)∨(∃x t,k=Sum.inr x∧v=Value.str x t)
 | .inl i,v,h=>by
  obtain⟨t,e⟩:=Value.isInt_shape (k:=i) (v:=v) h
  exact .inl ⟨i,t,rfl,e⟩
 | .inr x,v,h=>by
  obtain⟨t,e⟩:=Value.isStrOf_shape (x:=x) (v:=v) h
  exact .inr ⟨x,t,rfl,e⟩
theorem keyIs_int (i:Int) (t:Tok):keyIs (.inl i) (.int i t)=true:=by simp[keyIs,Value.isInt]
theorem keyIs_str (x:Str) (t:Tok):keyIs (.inr x) (.str x t)=true:=by simp[keyIs,Value.isStrOf]
theorem key_ll (a b:Int):decide ((Sum.inl a:Key)=Sum.inl b)=(a == b):=by
 by_cases e:a=b
 ·subst e;simp
 ·have h:¬(Sum.inl a:Key)=Sum.inl b:=fun q=>e (Sum.inl.inj q)
  rw[decide_eq_false h]
  exact (beq_eq_false_iff_ne.mpr e).symm
theorem key_rr (a b:Str):decide ((Sum.inr a:Key)=Sum.inr b)=decide (a=b):=by
 by_cases e:a=b
 ·subst e;simp
 ·have h:¬(Sum.inr a:Key)=Sum.inr b:=fun q=>e (Sum.inr.inj q)
  rw[decide_eq_false h,decide_eq_false e]
theorem key_lr (a:Int) (b:Str):decide ((Sum.inl a:Key)=Sum.inr b)=false:=decide_eq_false (fun q=>nomatch q)
theorem key_rl (a:Str) (b:Int):decide ((Sum.inr a:Key)=Sum.inl b)=false:=decide_eq_false (fun q=>nomatch q)
noncomputable def mixKind (prog:Program) (w:World):PySem.KeyKind prog w Key where
 is:=keyIs
 hash:=keyH w
 inj:=fun v a b ha hb=>by
  rcases zz18 ha with ⟨i,t,rfl,rfl⟩ | ⟨x,t,rfl,rfl⟩
  ·rcases zz18 hb with ⟨j,u,rfl,e⟩ | ⟨y,u,rfl,e⟩
   ·injection e with e1 _;rw[e1]
   ·exact nomatch e
  ·rcases zz18 hb with ⟨j,u,rfl,e⟩ | ⟨y,u,rfl,e⟩
   ·exact nomatch e
   ·injection e with e1 _;rw[e1]
 byValue:=fun k v h=>by
  rcases zz18 h with ⟨i,t,rfl,rfl⟩ | ⟨x,t,rfl,rfl⟩<;>rfl
 pyHash:=fun hv h=>by
  rcases zz18 hv with ⟨i,t,rfl,rfl⟩ | ⟨x,t,rfl,rfl⟩
  ·exact wpAny_pyHash_int h
  ·exact wpAny_pyHash_str h
 eqBool:=fun hu hv h=>by
  rcases zz18 hu with ⟨i,t,rfl,rfl⟩ | ⟨x,t,rfl,rfl⟩
  ·rcases zz18 hv with ⟨j,u,rfl,rfl⟩ | ⟨y,u,rfl,rfl⟩
   ·rw[key_ll]at h;exact wpAny_eqBool_int h
   ·rw[key_lr]at h;exact SeqAt.EqAt.int_str i t y u _ _ _ _ h
  ·rcases zz18 hv with ⟨j,u,rfl,rfl⟩ | ⟨y,u,rfl,rfl⟩
   ·rw[key_rl]at h;exact SeqAt.EqAt.str_int x t j u _ _ _ _ h
   ·rw[key_rr]at h;exact wpAny_eqBool_str h
 «strs»:=fun k x t v h=>by
  rcases zz18 h with ⟨i,u,rfl,e⟩ | ⟨y,u,rfl,e⟩
  ·exact nomatch e
  ·injection e with e1 _
   subst e1
   cases v<;>rfl
theorem mixKind_int (prog:Program) (w:World) (i:Int) (t:Tok):(mixKind prog w).is (.inl i) (.int i t)=true:=keyIs_int i t
theorem mixKind_str (prog:Program) (w:World) (x:Str) (t:Tok):(mixKind prog w).is (.inr x) (.str x t)=true:=keyIs_str x t
end L2
namespace L2
open PySem PySem.Spec PyProof.Rows
inductive V where
 | non | bl (b:Bool) | int (i:Int) | str (x:Str) | byt (b:Array UInt8) | flt (b:UInt64) | ref (a:Addr) | ty (n:String)
 deriving DecidableEq
noncomputable def RelV:V→Value→Prop
 | .non,u=>u=Value.none
 | .bl b,u=>u=Value.bool b
 | .int i,u=>∃t,u=Value.int i t
 | .str x,u=>∃t,u=Value.str x t
 | .byt b,u=>∃t,u=Value.bytes b t
 | .flt b,u=>∃t,u=Value.float b t
 | .ref a,u=>u=Value.ref a
 | .ty n,u=>u=Value.type n
noncomputable abbrev Vals:List V→List Value→Prop:=Paired RelV
theorem Vals.length {xs:List V}{us:List Value}(r:Vals xs us):xs.length=us.length:=Paired.length r
theorem Vals.get:∀{xs:List V}{us:List Value}{i:Nat}{x:V},Vals xs us→xs[i]?=some x→∃u,us[i]?=some u∧RelV x u
 | _,_,_,_,.nil,e=>by simp at e
 | _,_,0,_,.cons r _,e=>by simp at e;subst e;exact⟨_,rfl,r⟩
 | _,_,i+1,x,.cons _ t,e=>by
  obtain⟨u,h1,h2⟩:=Vals.get (i:=i) (x:=x) t (by simpa using e)
  exact⟨u,by simpa using h1,h2⟩
theorem Vals.append:∀{xs ys:List V}{us ws:List Value},Vals xs us→Vals ys ws→Vals (xs++ys) (us++ws)
 | _,_,_,_,.nil,s=>s
 | _,_,_,_,.cons r t,s=>.cons r (Vals.append t s)
theorem Vals.take:∀{xs:List V}{us:List Value}(n:Nat),Vals xs us→Vals (xs.take n) (us.take n)
 | _,_,0,_=>.nil
 | _,_,_+1,.nil=>.nil
 | _,_,n+1,.cons r t=>.cons r (Vals.take n t)
theorem Vals.drop:∀{xs:List V}{us:List Value}(n:Nat),Vals xs us→Vals (xs.drop n) (us.drop n)
 | _,_,0,r=>r
 | _,_,_+1,.nil=>.nil
 | _,_,n+1,.cons _ t=>Vals.drop n t
noncomputable def RelO:Option V→Option Value→Prop
 | some v,some u=>RelV v u
 | none,none=>True
 | _,_=>False
noncomputable def KV {κ:Type}:List (κ×V)→List (κ×Value)→Prop:=Paired fun (p:κ×V) (q:κ×Value)=>p.1=q.1∧RelV p.2 q.2
noncomputable def kV:Key→V
 | .inl i=>.int i
 | .inr x=>.str x
inductive HO where
  | lst (xs:List V)
  | tup (xs:List V)
  | dK (kvs:List (Key×V)) | dT (kvs:List (List Key×V))
  | set (S:Int→Bool) (n:Nat)
  | ins (C dx:Addr) (fs:List (Str×V))
  | own (x:Addr)
  | xd (fs:List (Str×V))
  | met (f x:Addr)
  | rng (lo hi:Int)
  | frz (o:Obj) (u:HO)
  | tbl (ps:Array Value)
  | ext (φ:Heap→Prop)
noncomputable abbrev Hp:=Addr→Option HO
noncomputable def upd (H:Hp) (a:Addr) (o:HO):Hp:=fun b=>if b=a then some o else H b
theorem zz1 {H:Hp}{a:Addr}{o:HO}:upd H a o a=some o:=by unfold upd;rw[if_pos rfl]
theorem upd_ne {H:Hp}{a b:Addr}{o:HO}(h:b≠a):upd H a o b=H b:=by unfold upd;rw[if_neg h]
theorem upd_upd {H:Hp}{a:Addr}{o u:HO}:upd (upd H a o) a u=upd H a u:=by
 funext b;unfold upd;split<;>rfl
theorem ne_of {H:Hp}{a b:Addr}{o u:HO}(h:H a=some o) (h':H b=some u) (d:o≠u):a≠b:=by
 intro e;subst e;rw[h]at h';exact d (Option.some.inj h')
theorem zz4 {H:Hp}{a b:Addr}{o:HO}(h:H a=some o) (h':H b=none):a≠b:=by
 intro e;subst e;rw[h]at h';cases h'
section
variable (P:Program) (w:World)
noncomputable def ObjOk (H:Hp) (h:Heap) (a:Addr):HO→Prop
 | .lst xs=>xs.length≤sizeLine∧∃(its:List Value) (n:Nat),Vals xs its∧h.get? a=some { cls:=.type "list", data:=.seq its.toArray n }
 | .tup xs=>xs.length≤sizeLine∧∃its:List Value,Vals xs its∧IsTup h a its.toArray
 | .dK kvs=>kvs.length≤sizeLine∧(a == sysModules)=false∧∃vs,KV kvs vs∧h.DictOf (mixKind P w) a vs
 | .dT kvs=>kvs.length≤sizeLine∧(a == sysModules)=false∧∃xs:List (List Key×Addr×Value),
   Paired (fun (p:List Key×V) (q:List Key×Addr×Value)=>p.1=q.1∧H q.2.1=some (.tup (p.1.map kV))∧RelV p.2 q.2.2) kvs xs∧
   ∃o es ep,h.get? a=some o∧o.ExactDict∧o.data=.dict es ep∧es.toList=xs.map (entryOfKey (tupleKind (mixKind P w)))∧(xs.map (·.1)).Nodup
 | .set S n=>h.SetOf (intKind P w) a S n
 | .ins C dx fs=>H dx=some (.own a)∧fs.length≤1000∧dx≠a∧h.get? a=some (PySem.W.instObj C dx)∧
   ∃mA,h.Ns1 dx mA∧(∀f,RelO (fs.lookup f) (mA f))∧PySem.Within mA (fs.map (·.1))
 | .own _=>∃o,h.get? a=some o
 | .xd fs=>∃mA,h.Ns1 a mA∧∀f,RelO (fs.lookup f) (mA f)
 | .rng lo hi=>∃t u v,h.get? a=some { cls:=.type "range", data:=.fields #[.int lo t,.int hi u,.int 1 v] }
 | .frz o u=>h.get? a=some o∧ObjOk H h a u
 | .tbl ps=>h.get? a=some { cls:=.none,data:=.fields ps }
 | .met f x=>h.get? a=some (PySem.W.methodObj (.ref f) (.ref x))
 | .ext φ=>φ h∧(∃o,h.get? a=some o)∧∀h1 h2:Heap,φ h1→(∀o,h1.get? a=some o→h2.get? a=some o)→φ h2
def HOk (H:Hp) (h:Heap):Prop:=∀a o,H a=some o→ObjOk P w H h a o
end
section
variable {P:Program}{w:World}{H H':Hp}{h h':Heap}{a:Addr}{o:HO}
theorem ObjOk.lt (x:ObjOk P w H h a o):a<h.objs.size:=by
 cases o with
 | lst xs=>obtain⟨_,_,_,_,e⟩:=x;exact Heap.lt_size e
 | tup xs=>obtain⟨_,_,_,p⟩:=x;exact p.lt
 | dK kvs=>obtain⟨_,_,_,_,o,_,_,e,_⟩:=x;exact Heap.lt_size e
 | dT kvs=>obtain⟨_,_,_,_,o,_,_,e,_⟩:=x;exact Heap.lt_size e
 | set S n=>obtain⟨o,_,_,_,e,_⟩:=x;exact Heap.lt_size e
 | ins C dx fs=>obtain⟨_,_,_,e,_⟩:=x;exact Heap.lt_size e
 | own y=>obtain⟨_,e⟩:=x;exact Heap.lt_size e
 | xd fs=>obtain⟨_,⟨_,_,_,e,_⟩,_⟩:=x;exact Heap.lt_size e
 | rng lo hi=>obtain⟨_,_,_,e⟩:=x;exact Heap.lt_size e
 | frz ob u=>obtain⟨e,_⟩:=x;exact Heap.lt_size e
 | tbl ps=>exact Heap.lt_size (show h.get? a=some _ from x)
 | met f y=>exact Heap.lt_size (show h.get? a=some _ from x)
 | ext φ=>obtain⟨_,⟨_,e⟩,_⟩:=x;exact Heap.lt_size e
theorem Paired.mapP {α β:Type}{F G:α→β→Prop}:∀{l₁:List α}{l₂:List β},Paired F l₁ l₂→(∀a b,F a b→G a b)→Paired G l₁ l₂
 | _,_,.nil,_=>.nil
 | _,_,.cons r t,f=>.cons (f _ _ r) (Paired.mapP t f)
theorem ObjOk.stay (x:ObjOk P w H h a o) (k:∀b u,(b=a∨H b=some (.own a))→h.get? b=some u→h'.get? b=some u)
  (ho:∀b,H b=some (.own a)→H' b=some (.own a)) (ht:∀b xs,H b=some (.tup xs)→H' b=some (.tup xs)):ObjOk P w H' h' a o:=by
 induction o with
 | lst xs=>obtain⟨z,its,n,r,e⟩:=x;exact⟨z,its,n,r,k _ _ (.inl rfl) e⟩
 | tup xs=>obtain⟨z,its,r,ob,e,c⟩:=x;exact⟨z,its,r,ob,k _ _ (.inl rfl) e,c⟩
 | dK kvs=>obtain⟨z,y,vs,r,ob,es,ep,e,c⟩:=x;exact⟨z,y,vs,r,ob,es,ep,k _ _ (.inl rfl) e,c⟩
 | dT kvs=>
  obtain⟨z,y,xs,r,ob,es,ep,e,c⟩:=x
  exact⟨z,y,xs,Paired.mapP r fun p q z=>⟨z.1,ht _ _ z.2.1,z.2.2⟩,ob,es,ep,k _ _ (.inl rfl) e,c⟩
 | set S n=>obtain⟨ob,es,ep,t,e,c⟩:=x;exact⟨ob,es,ep,t,k _ _ (.inl rfl) e,c⟩
 | ins C dx fs=>
  obtain⟨d,z,ne,e,mA,⟨od,es,ep,e2,c⟩,r⟩:=x
  exact⟨ho _ d,z,ne,k _ _ (.inl rfl) e,mA,⟨od,es,ep,k _ _ (.inr d) e2,c⟩,r⟩
 | own y=>obtain⟨ob,e⟩:=x;exact⟨ob,k _ _ (.inl rfl) e⟩
 | xd fs=>obtain⟨mA,⟨od,es,ep,e,c⟩,r⟩:=x;exact⟨mA,⟨od,es,ep,k _ _ (.inl rfl) e,c⟩,r⟩
 | rng lo hi=>obtain⟨t,u,v,e⟩:=x;exact⟨t,u,v,k _ _ (.inl rfl) e⟩
 | frz ob u ih=>obtain⟨e,q⟩:=x;exact⟨k _ _ (.inl rfl) e,ih q⟩
 | tbl ps=>
  have e:h.get? a=some { cls:=.none,data:=.fields ps }:=x
  show h'.get? a=some { cls:=.none,data:=.fields ps }
  exact k a _ (.inl rfl) e
 | met f y=>
  have e:h.get? a=some (PySem.W.methodObj (.ref f) (.ref y)):=x
  show h'.get? a=some (PySem.W.methodObj (.ref f) (.ref y))
  exact k a _ (.inl rfl) e
 | ext φ=>obtain⟨p,⟨o,e⟩,st⟩:=x;exact⟨st _ _ p fun o q=>k _ _ (.inl rfl) q,⟨o,k _ _ (.inl rfl) e⟩,st⟩
theorem HOk.lt (x:HOk P w H h) (e:H a=some o):a<h.objs.size:=(x a o e).lt
theorem HOk.fresh (x:HOk P w H h) (e:h.objs.size≤a):H a=none:=by
 cases q:H a with
 | none=>rfl
 | some u=>exact absurd (Nat.lt_of_lt_of_le (x.lt q) e) (Nat.lt_irrefl _)
theorem HOk.kept (x:HOk P w H h) (k:∀b u,h.get? b=some u→h'.get? b=some u):HOk P w H h':=fun a o e=>
 (x a o e).stay (fun b u _ q=>k b u q) (fun _ q=>q) fun _ _ q=>q
theorem HOk.laid (x:HOk P w H h) (k:∀b u,h.get? b=some u→h'.get? b=some u) (hp:h.objs.size≤a) (new:ObjOk P w (upd H a o) h' a o):HOk P w (upd H a o) h':=fun b u e=>by
 have hn:=x.fresh hp
 by_cases hb:b=a
 ·subst hb;rw[zz1]at e;cases e;exact new
 ·rw[upd_ne hb]at e
  exact (x b u e).stay (fun c v _ q=>k c v q) (fun c q=>by rw[upd_ne (zz4 q hn)];exact q) fun c xs q=>by rw[upd_ne (zz4 q hn)];exact q
end
def Rd (H:Hp) (a:Addr) (u:HO):Prop:=H a=some u∨∃o,H a=some (.frz o u)
theorem Rd.ok {P:Program}{w:World}{H:Hp}{h:Heap}{a:Addr}{u:HO}(r:Rd H a u) (x:HOk P w H h):ObjOk P w H h a u:=by
 rcases r with r | ⟨o,r⟩
 ·exact x a u r
 ·obtain⟨_,q⟩:=x a _ r
  exact q
noncomputable def Mut:Option HO→Prop
 | some (.lst _)=>True
 | some (.dK _)=>True
 | some (.dT _)=>True
 | some (.set _ _)=>True
 | some (.ins _ _ _)=>True
 | some (.ext _)=>True
 | _=>False
section
variable {P:Program}{w:World}{H:Hp}{h h':Heap}{x e:Addr}{o':HO}
theorem HOk.write (ok:HOk P w H h) (mu:Mut (H x)) (he:e=x∨H e=some (.own x)) (k:∀b u,b≠e→h.get? b=some u→h'.get? b=some u) (heo:∃u,h'.get? e=some u)
  (new:ObjOk P w (upd H x o') h' x o'):HOk P w (upd H x o') h':=fun b u q=>by
 have nown:∀c y,H c=some (.own y)→c≠x:=fun c y r z=>by subst z;rw[r]at mu;exact mu
 have ntup:∀c xs,H c=some (.tup xs)→c≠x:=fun c xs r z=>by subst z;rw[r]at mu;exact mu
 by_cases hb:b=x
 ·subst hb;rw[zz1]at q;cases q;exact new
 ·rw[upd_ne hb]at q
  by_cases hbe:b=e
  ·have q':H b=some (.own x):=by
    rcases he with z | z
    ·exact absurd (hbe.trans z) hb
    ·rw[hbe];exact z
   rw[q]at q';cases q'
   obtain⟨v,hv⟩:=heo
   exact⟨v,by rw[hbe];exact hv⟩
  ·refine (ok b u q).stay (fun c v hc r=>k c v ?_ r) (fun c r=>by rw[upd_ne (nown c b r)];exact r) fun c xs r=>by rw[upd_ne (ntup c xs r)];exact r
   rcases hc with rfl | hc
   ·exact hbe
   ·rintro rfl
    rcases he with z | z
    ·exact nown c b hc z
    ·rw[hc]at z;cases z;exact hb rfl
end
set_option genInjectivity false in
structure Un (fs ex:List Addr) (H H':Hp) (h h':Heap):Prop where
 keep:∀b o,h.get? b=some o→H b=none→b∉fs→b∉ex→h'.get? b=some o
 slot:∀b o,h.get? b=some o→H b=none→b∈fs→b∉ex→∃sl,h'.get? b=some { o with slots:=sl }
 free:∀b o,h.get? b=some o→H b=none→b∉ex→H' b=none
 there:∀b o,h.get? b=some o→b∉ex→∃o',h'.get? b=some o'
 tups:∀b xs,H b=some (.tup xs)→H' b=some (.tup xs)
 frzs:∀b o u,H b=some (.frz o u)→H' b=some (.frz o u)
 tbls:∀b ps,H b=some (.tbl ps)→∃more,H' b=some (.tbl (ps++more))
section
variable {fs fs' ex ex':List Addr}{H H1 H2:Hp}{h h1 h2 h':Heap}{a x e:Addr}{o:HO}
theorem Un.any (u:Un fs ex H H1 h h1) {b:Addr}{ob:Obj}(q:h.get? b=some ob) (n:H b=none) (hx:b∉ex):∃sl,h1.get? b=some { ob with slots:=sl }:=by
 by_cases hb:b∈fs
 ·exact u.slot b ob q n hb hx
 ·exact⟨ob.slots,u.keep b ob q n hb hx⟩
theorem Un.kept (k:∀b u,h.get? b=some u→h'.get? b=some u):Un fs ex H H h h':=
 ⟨fun b ob q _ _ _=>k b ob q,fun b ob q _ _ _=>⟨ob.slots,k b ob q⟩,fun _ _ _ n _=>n,fun b ob q _=>⟨ob,k b ob q⟩,fun _ _ q=>q,fun _ _ _ q=>q,fun _ ps q=>⟨#[],by rw[q];simp⟩⟩
theorem Un.refl:Un fs ex H H h h:=Un.kept fun _ _ q=>q
theorem Un.laid (k:∀b u,h.get? b=some u→h'.get? b=some u) (hp:h.objs.size≤a) (hn:H a=none):Un fs ex H (upd H a o) h h' where
 keep:=fun b u q _ _ _=>k b u q
 slot:=fun b u q _ _ _=>⟨u.slots,k b u q⟩
 free:=fun b u q n _=>by rw[upd_ne (Nat.ne_of_lt (Nat.lt_of_lt_of_le (Heap.lt_size q) hp))];exact n
 there:=fun b u q _=>⟨u,k b u q⟩
 tups:=fun b xs q=>by rw[upd_ne (zz4 q hn)];exact q
 frzs:=fun b u xs q=>by rw[upd_ne (zz4 q hn)];exact q
 tbls:=fun b ps q=>⟨#[],by rw[upd_ne (zz4 q hn),q];simp⟩
theorem Un.write (mu:Mut (H x)) (he:e=x∨H e=some (.own x)) (k:∀b u,b≠e→h.get? b=some u→h'.get? b=some u) (heo:∃u,h'.get? e=some u):Un fs ex H (upd H x o) h h':=by
 have hx:∀b,H b=none→b≠x:=fun b n z=>by subst z;rw[n]at mu;exact mu
 have hb:∀b,H b=none→b≠e:=fun b n z=>by
  subst z
  rcases he with r | r
  ·exact hx b n r
  ·rw[n]at r;cases r
 have hm:∀b u,H b=some u→¬Mut (some u)→b≠x:=fun b u q nm z=>by subst z;rw[q]at mu;exact nm mu
 refine⟨fun b u q n _ _=>k b u (hb b n) q,fun b u q n _ _=>⟨u.slots,k b u (hb b n) q⟩,fun b u q n _=>by rw[upd_ne (hx b n)];exact n,fun b u q _ => ?_,
  fun b xs q=>by rw[upd_ne (hm b _ q fun z=>z)];exact q,fun b u xs q=>by rw[upd_ne (hm b _ q fun z=>z)];exact q,fun b ps q=>⟨#[],by rw[upd_ne (hm b _ q fun z=>z),q];simp⟩⟩
 by_cases hbe:b=e
 ·subst hbe;exact heo
 ·exact⟨u,k b u hbe q⟩
end
noncomputable def trk (h:Heap) (H:Hp):List Addr:=(List.range h.objs.size).filter fun a=>(H a).isSome
noncomputable def hidT (h:Heap) (H:Hp):Heap:=PySem.W.hideAll h (trk h H)
theorem hidT_size (h:Heap) (H:Hp):(hidT h H).objs.size=h.objs.size:=PySem.W.hideAll_size _ _
theorem hidT_get {h:Heap}{H:Hp}{b:Addr}{o:Obj}(e:h.get? b=some o) (n:H b=none):(hidT h H).get? b=some o:=
 PySem.W.hideAll_get _ e fun hm=>by
  have q:(H b).isSome=true:=(List.mem_filter.mp hm).2
  rw[n]at q;simp at q
theorem of_hidT {h:Heap}{H:Hp}{b:Addr}{o:Obj}(e:(hidT h H).get? b=some o):h.get? b=some o∧H b=none:=by
 have e':h.get? b=some o:=PySem.W.of_hideAll (trk h H) e
 refine⟨e',?_⟩
 cases q:H b with
 | none=>rfl
 | some x=>
  have hm:b∈trk h H:=List.mem_filter.mpr ⟨List.mem_range.mpr (Heap.lt_size e'),by simp[q]⟩
  have z:(hidT h H).get? b=none:=PySem.W.hideAll_none (trk h H) hm
  rw[z]at e;cases e
noncomputable def allNews (g h:Heap) (L:Addr):Lo:=(List.range h.objs.size).filterMap fun a=>if a=L∨(g.get? a).isSome=true then none else (h.get? a).map fun o=>(a,o)
noncomputable def rest (g h:Heap) (L d:Addr):Lo:=(allNews g h L).filter fun p=>decide (p.1≠d)
end L2
namespace L2
open PySem PySem.Spec PyProof.Rows
set_option genInjectivity false in
structure Mod (K:Wf) (mg:So) (base:Heap):Prop where
 kin:K.In base
 glob:base.Ns mainGlobals mg
 blt:∃mb,base.Ns builtinsNs mb∧∀x:Str,x ≠ "__name__" → mb x=bootBuiltins x
 nolimit:base.NoLimit
set_option genInjectivity false in
structure Cx where
 prog:Program
 w:World
 K:Wf
 mg:Str→Option Value
 base:Heap
 A:Around
 N:List Str
 s₀:Shared
 H₀:Hp
 env:Env
 outer:List Env
 stack:List Env
 ex:List Addr
 fn:Str→Bool
 calm:Bool
 pn:Lo
 xe:Value→Shared→Prop
noncomputable def frs (l:List Env):List Addr:=l.filterMap (·.frame)
noncomputable abbrev Cx.fs (X:Cx):List Addr:=frs X.outer
def Vis (sc:Scope) (x:Str):Prop:=sc.names.lookup x=some .local∨sc.names.lookup x=some .cell∨sc.names.lookup x=some .free
def Loc (sc:Scope) (x:Str):Prop:=sc.names.lookup x=some .local∨sc.names.lookup x=some .cell
def Look (env:Env) (h:Heap) (m:So) (x:Str) (u:Value):Prop:=
 (env.kindOf x=some .local∧m x=some u)∨((env.kindOf x=some .cell∨env.kindOf x=some .free)∧∃c,env.cells.lookup x=some c∧h.IsCell c (some u))
set_option genInjectivity false in
structure Cx.Ok (X:Cx):Prop where
 mod:Mod X.K X.mg X.base
 kind:X.env.scope.kind=.function
 glob:X.env.globals=mainGlobals
 blt:X.env.builtins=builtinsNs
 above:X.s₀.heap.objs.size≤X.env.locals
 inj:∀x y c,X.env.cells.lookup x=some c→X.env.cells.lookup y=some c→x=y
 has:∀x,(X.env.kindOf x=some .cell∨X.env.kindOf x=some .free)→∃c,X.env.cells.lookup x=some c
 cab:∀x c,X.fn x=true→X.env.cells.lookup x=some c→X.s₀.heap.objs.size≤c
 hd:X.calm=true→X.A.handled=none
 frames:X.A.frames=some X.stack
 stk:X.stack=X.outer∨(X.stack=X.env::X.outer∧X.env.frame=some X.env.locals)
 exf:∀b∈X.ex,b≠X.env.locals∧∀x c,X.env.cells.lookup x=some c→c≠b
 bs:∀b o,X.base.get? b=some o→X.s₀.heap.get? b=some o∧X.H₀ b=none
 bsz:X.base.objs.size≤X.s₀.heap.objs.size
 noex:∀b o,X.base.get? b=some o→b∉X.ex
 exfs:∀b∈X.ex,b∉X.fs
 funs:X.s₀.heap.FunFrames X.base X.outer
 frf:∀b∈X.fs,X.H₀ b=none
set_option genInjectivity false in
structure Inv (X:Cx) (pins:Lo) (σ:List (Option V)) (H:Hp) (s:Shared):Prop where
 ok:X.Ok
 os:s.os=X.s₀.os
 bare:AllBare s.gens
 base:Un X.fs X.ex X.H₀ H X.s₀.heap s.heap
 loc:∃m,s.heap.Ns X.env.locals m∧∀(i:Nat) (x:Str) (v:V),X.N[i]?=some x→σ[i]?=some (some v)→Vis X.env.scope x→∃u,RelV v u∧Look X.env s.heap m x u
 cell:∀x c,X.env.cells.lookup x=some c→∃v,s.heap.IsCell c v
 free:H X.env.locals=none
 freeC:∀x c,X.env.cells.lookup x=some c→H c=none
 pin:∀p∈X.pn++pins,s.heap.get? p.1=some p.2∧H p.1=none∧p.1≠X.env.locals∧p.1∉X.fs∧∀v,p.2.data≠.cell v
 hok:HOk X.prog X.w H s.heap
 len:σ.length=X.N.length
section
variable {X:Cx}{pins:Lo}{σ:List (Option V)}{H H':Hp}{s:Shared}{h':Heap}
theorem Cx.Ok.nofr (ok:X.Ok) {b:Addr}{o:Obj}(e:X.base.get? b=some o):b∉X.fs:=fun hb=>by
 have:=(ok.funs.mem hb).1
 rw[e]at this;cases this
theorem Inv.bs (I:Inv X pins σ H s):∀b o,X.base.get? b=some o→s.heap.get? b=some o∧H b=none:=fun b o e=>
 ⟨I.base.keep b o (I.ok.bs b o e).1 (I.ok.bs b o e).2 (I.ok.nofr e) (I.ok.noex b o e),I.base.free b o (I.ok.bs b o e).1 (I.ok.bs b o e).2 (I.ok.noex b o e)⟩
theorem Inv.bk (I:Inv X pins σ H s):∀b o,X.base.get? b=some o→s.heap.get? b=some o:=fun b o e=>(I.bs b o e).1
theorem Inv.mod (I:Inv X pins σ H s):Mod X.K X.mg X.base:=I.ok.mod
theorem Inv.kIn (I:Inv X pins σ H s):X.K.In s.heap:=I.ok.mod.kin.keeps I.bk
theorem Inv.lt (I:Inv X pins σ H s):X.env.locals<s.heap.objs.size:=let ⟨_,hn,_⟩:=I.loc;hn.lt
theorem Inv.sz (I:Inv X pins σ H s):X.s₀.heap.objs.size≤s.heap.objs.size:=Nat.le_trans I.ok.above (Nat.le_of_lt I.lt)
theorem Inv.nofs (I:Inv X pins σ H s) {a:Addr}(h:s.heap.objs.size≤a):a∉X.fs:=fun hb=>by
 obtain⟨_,o,ho,_⟩:=I.ok.funs.mem hb
 exact absurd (Nat.lt_of_lt_of_le (Heap.lt_size ho) (Nat.le_trans I.sz h)) (Nat.lt_irrefl _)
theorem Inv.cne (I:Inv X pins σ H s):∀x c,X.env.cells.lookup x=some c→c≠X.env.locals:=fun x c e z=>by
 obtain⟨v,o,ho,hd⟩:=I.cell x c e
 obtain⟨m,⟨o',es,ep,ho',hd',_⟩,_⟩:=I.loc
 rw[z,ho']at ho;cases ho;rw[hd']at hd;cases hd
theorem Inv.funs (I:Inv X pins σ H s):s.heap.FunFrames X.base X.outer:=by
 have all:∀(l:List Env),(∀b∈frs l,b∈X.fs)→X.s₀.heap.FunFrames X.base l→s.heap.FunFrames X.base l:=by
  intro l
  induction l with
  | nil=>intro _ _;trivial
  | cons env r ih=>
   intro hs hl
   obtain⟨hk,⟨L,o,hf,hn,ho,hd⟩,hr⟩:=hl
   have hL:L∈X.fs:=hs L (by unfold frs;rw[List.filterMap_cons,hf];exact List.mem_cons_self)
   obtain⟨sl,e⟩:=I.base.slot L o ho (I.ok.frf L hL) hL fun z=>I.ok.exfs L z hL
   exact⟨hk,⟨L,_,hf,hn,e,hd⟩,ih (fun b hb=>hs b (by unfold frs;rw[List.filterMap_cons,hf];exact List.mem_cons_of_mem _ hb)) hr⟩
 exact all X.outer (fun _ hb=>hb) I.ok.funs
theorem Inv.stack (I:Inv X pins σ H s):s.heap.FunFrames X.base X.stack:=by
 rcases I.ok.stk with e | ⟨e,hf⟩
 ·rw[e];exact I.funs
 ·rw[e]
  obtain⟨m,hn,_⟩:=I.loc
  refine .cons (by rw[I.ok.kind];decide) hf hn ?_ I.funs
  exact Heap.get?_none_of_le (Nat.le_trans I.ok.bsz I.ok.above)
theorem Inv.stkSub (I:Inv X pins σ H s):∀b∈frs X.stack,b∈X.env.locals::X.fs:=fun b hb=>by
 rcases I.ok.stk with e | ⟨e,hf⟩
 ·rw[e]at hb;exact List.mem_cons_of_mem _ hb
 ·rw[e]at hb
  unfold frs at hb
  rw[List.filterMap_cons,hf]at hb
  exact hb
theorem Inv.stkFree (I:Inv X pins σ H s):∀b∈frs X.stack,H b=none:=fun b hb=>by
 rcases List.mem_cons.mp (I.stkSub b hb) with e | hb
 ·rw[e];exact I.free
 ·obtain⟨_,o,ho,_⟩:=I.ok.funs.mem hb
  exact I.base.free b o ho (I.ok.frf b hb) fun z=>I.ok.exfs b z hb
theorem Inv.step {g':Array GenState}{t':Nat}{d':Drawn}{ch:List Addr}(I:Inv X pins σ H s)
  (hch:∀b∈ch,(b∈X.ex∨X.s₀.heap.objs.size≤b)∧b≠X.env.locals∧(∀x c,X.env.cells.lookup x=some c→c≠b)∧∀p∈X.pn++pins,p.1≠b)
  (keep:∀b o,b≠X.env.locals→b∉X.fs→b∉ch→s.heap.get? b=some o→H b=none→h'.get? b=some o)
  (slot:∀b o,b≠X.env.locals→b∈X.fs→b∉ch→s.heap.get? b=some o→H b=none→∃sl,h'.get? b=some { o with slots:=sl }) (free:∀b o,b∉ch→s.heap.get? b=some o→H b=none→H' b=none)
  (there:∀b o,b∉ch→s.heap.get? b=some o→∃o',h'.get? b=some o')
  (tups:∀b xs,H b=some (.tup xs)→H' b=some (.tup xs)) (frzs:∀b o u,H b=some (.frz o u)→H' b=some (.frz o u)) (tbls:∀b ps,H b=some (.tbl ps)→∃more,H' b=some (.tbl (ps++more)))
  (ns:∀m,s.heap.Ns X.env.locals m→h'.Ns X.env.locals m) (hok:HOk X.prog X.w H' h') (hg:AllBare g'):
  Inv X pins σ H' { s with heap:=h',gens:=g',drawn:=d',toks:=t' }:=by
 have neL:∀b o,X.s₀.heap.get? b=some o→b≠X.env.locals:=fun b o e=>Nat.ne_of_lt (Nat.lt_of_lt_of_le (Heap.lt_size e) I.ok.above)
 have neC:∀b o,X.s₀.heap.get? b=some o→b∉X.ex→b∉ch:=fun b o e hx hb=>by
  rcases (hch b hb).1 with z | z
  ·exact hx z
  ·exact absurd (Nat.lt_of_lt_of_le (Heap.lt_size e) z) (Nat.lt_irrefl _)
 have cellK:∀x c,X.env.cells.lookup x=some c→∀v,s.heap.IsCell c v→h'.IsCell c v:=fun x c e v ⟨o,ho,hd⟩=>by
  have nch:c∉ch:=fun z=>(hch c z).2.2.1 x c e rfl
  by_cases hc:c∈X.fs
  ·obtain⟨sl,q⟩:=slot c o (I.cne x c e) hc nch ho (I.freeC x c e)
   exact⟨_,q,hd⟩
  ·exact⟨o,keep c o (I.cne x c e) hc nch ho (I.freeC x c e),hd⟩
 refine⟨I.ok,I.os,hg,⟨fun b o e n hb hx => ?_,fun b o e n hb hx => ?_,fun b o e n hx => ?_,fun b o e hx => ?_,fun b xs e=>tups b xs (I.base.tups b xs e),fun b o xs e=>frzs b o xs (I.base.frzs b o xs e),fun b ps e => ?_⟩,?_,fun x c e => ?_,?_,fun x c e => ?_,fun p hp => ?_,hok,I.len⟩
 ·exact keep b o (neL b o e) hb (neC b o e hx) (I.base.keep b o e n hb hx) (I.base.free b o e n hx)
 ·obtain⟨sl,e1⟩:=I.base.slot b o e n hb hx
  obtain⟨sl',e2⟩:=slot b _ (neL b o e) hb (neC b o e hx) e1 (I.base.free b o e n hx)
  exact⟨sl',e2⟩
 ·obtain⟨o',e1⟩:=I.base.there b o e hx
  exact free b o' (neC b o e hx) e1 (I.base.free b o e n hx)
 ·obtain⟨o',e1⟩:=I.base.there b o e hx
  exact there b o' (neC b o e hx) e1
 ·obtain⟨m1,e1⟩:=I.base.tbls b ps e
  obtain⟨m2,e2⟩:=tbls b _ e1
  exact⟨m1++m2,by rw[e2,Array.append_assoc]⟩
 ·obtain⟨m,hn,hl⟩:=I.loc
  refine⟨m,ns m hn,fun i x v e1 e2 e3 => ?_⟩
  obtain⟨u,r,l⟩:=hl i x v e1 e2 e3
  refine⟨u,r,?_⟩
  rcases l with l | ⟨k,c,e,z⟩
  ·exact .inl l
  ·exact .inr ⟨k,c,e,cellK x c e _ z⟩
 ·obtain⟨v,z⟩:=I.cell x c e
  exact⟨v,cellK x c e v z⟩
 ·obtain⟨m,⟨o,_,_,ho,_⟩,_⟩:=I.loc
  exact free _ o (fun z=>(hch _ z).2.1 rfl) ho I.free
 ·obtain⟨v,o,ho,hd⟩:=I.cell x c e
  exact free c o (fun z=>(hch c z).2.2.1 x c e rfl) ho (I.freeC x c e)
 ·obtain⟨e,n,ne,nf,d⟩:=I.pin p hp
  have nch:p.1∉ch:=fun z=>(hch p.1 z).2.2.2 p hp rfl
  exact⟨keep p.1 p.2 ne nf nch e n,free p.1 p.2 nch e n,ne,nf,d⟩
theorem Inv.un {t':Nat}(I:Inv X pins σ H s) (u:Un X.fs [] H H' s.heap h') (hok:HOk X.prog X.w H' h'):Inv X pins σ H' { s with heap:=h',toks:=t' }:=by
 obtain⟨m,⟨o,es,ep,ho,r⟩,_⟩:=id I.loc
 obtain⟨sl,hL⟩:=u.any ho I.free (by simp)
 exact I.step (g':=s.gens) (d':=s.drawn) (ch:=[]) (fun _ z=>nomatch z) (fun b o _ hb _ e n=>u.keep b o e n hb (by simp)) (fun b o _ hb _ e n=>u.slot b o e n hb (by simp)) (fun b o _ e n=>u.free b o e n (by simp)) (fun b o _ e=>u.there b o e (by simp)) u.tups u.frzs u.tbls (fun m' hm=>by
  obtain⟨o',es',ep',ho',r'⟩:=hm
  rw[ho]at ho';cases ho'
  exact⟨_,es',ep',hL,r'⟩) hok I.bare
theorem Inv.call {g':Array GenState}{t':Nat}{d':Drawn}{ch:List Addr}(I:Inv X pins σ H s) (u:Un (frs X.stack) ch H H' s.heap h') (hok:HOk X.prog X.w H' h') (hg:AllBare g')
  (hch:∀b∈ch,(b∈X.ex∨X.s₀.heap.objs.size≤b)∧b≠X.env.locals∧(∀x c,X.env.cells.lookup x=some c→c≠b)∧∀p∈X.pn++pins,p.1≠b):
  Inv X pins σ H' { s with heap:=h',gens:=g',drawn:=d',toks:=t' }:=by
 obtain⟨m,⟨o,es,ep,ho,r⟩,_⟩:=id I.loc
 obtain⟨sl,hL⟩:=u.any ho I.free fun z=>(hch _ z).2.1 rfl
 exact I.step (ch:=ch) hch (fun b o hL hb hc e n=>u.keep b o e n (fun z=>(List.mem_cons.mp (I.stkSub b z)).elim hL hb) hc) (fun b o _ _ hc e n=>u.any e n hc) (fun b o hc e n=>u.free b o e n hc) (fun b o hc e=>u.there b o e hc) u.tups u.frzs u.tbls (fun m' hm=>by
  obtain⟨o',es',ep',ho',r'⟩:=hm
  rw[ho]at ho';cases ho'
  exact⟨_,es',ep',hL,r'⟩) hok hg
theorem Inv.turned {t':Nat}{it:Addr}(I:Inv X pins σ H s) (k:∀b o,b≠it→s.heap.get? b=some o→h'.get? b=some o) (hn:H it=none) (hL:it≠X.env.locals)
  (h1:it∈X.ex∨X.s₀.heap.objs.size≤it) (h2:∀x c,X.env.cells.lookup x=some c→c≠it) (h3:∀p∈X.pn++pins,p.1≠it):Inv X pins σ H { s with heap:=h',toks:=t' }:=by
 have nit:∀b u,H b=some u→b≠it:=fun b u e z=>by rw[z,hn]at e;cases e
 refine I.step (g':=s.gens) (d':=s.drawn) (ch:=[it]) (fun b hb => ?_) (fun b o _ _ hc e _=>k b o (fun z=>hc (by simp[z])) e) (fun b o _ _ hc e _=>⟨o.slots,k b o (fun z=>hc (by simp[z])) e⟩) (fun _ _ _ _ n=>n)
  (fun b o hc e=>⟨o,k b o (fun z=>hc (by simp[z])) e⟩) (fun _ _ e=>e) (fun _ _ _ e=>e) (fun b ps e=>⟨#[],by rw[e];simp⟩) (fun m hm => ?_) (fun b u e => ?_) I.bare
 ·have e:b=it:=by simpa using hb
  subst e
  exact⟨h1,hL,h2,h3⟩
 ·obtain⟨o,es,ep,ho,r⟩:=hm
  exact⟨o,es,ep,k _ o (Ne.symm hL) ho,r⟩
 ·refine (I.hok b u e).stay (fun c v hc q=>k c v ?_ q) (fun _ q=>q) fun _ _ q=>q
  rcases hc with z | z
  ·rw[z];exact nit b u e
  ·exact nit c _ z
theorem Inv.tok (I:Inv X pins σ H s) (t:Nat):Inv X pins σ H { s with toks:=t }:=I.un (h':=s.heap) (t':=t) Un.refl I.hok
theorem Inv.kept {t':Nat}(I:Inv X pins σ H s) (k:∀b u,s.heap.get? b=some u→h'.get? b=some u):Inv X pins σ H { s with heap:=h',toks:=t' }:=I.un (Un.kept k) (I.hok.kept k)
theorem Inv.laid {a:Addr}{o:HO}{t':Nat}(I:Inv X pins σ H s) (k:∀b u,s.heap.get? b=some u→h'.get? b=some u) (hp:s.heap.objs.size≤a) (new:ObjOk X.prog X.w (upd H a o) h' a o):
  Inv X pins σ (upd H a o) { s with heap:=h',toks:=t' }:=I.un (Un.laid k hp (I.hok.fresh hp)) (I.hok.laid k hp new)
theorem Inv.write {x e:Addr}{o:HO}{t':Nat}(I:Inv X pins σ H s) (mu:Mut (H x)) (he:e=x∨H e=some (.own x)) (k:∀b u,b≠e→s.heap.get? b=some u→h'.get? b=some u) (heo:∃u,h'.get? e=some u)
  (new:ObjOk X.prog X.w (upd H x o) h' x o):Inv X pins σ (upd H x o) { s with heap:=h',toks:=t' }:=I.un (Un.write mu he k heo) (I.hok.write mu he k heo new)
theorem Inv.weak {σ':List (Option V)}(I:Inv X pins σ H s) (hl:σ'.length=σ.length) (w:∀(i:Nat) v,σ'[i]?=some (some v)→σ[i]?=some (some v)):Inv X pins σ' H s:=
 ⟨I.ok,I.os,I.bare,I.base,let ⟨m,hn,hl'⟩:=I.loc;⟨m,hn,fun i x v e1 e2 e3=>hl' i x v e1 (w i v e2) e3⟩,I.cell,I.free,I.freeC,I.pin,I.hok,hl.trans I.len⟩
theorem Inv.pins_of {pins':Lo}(I:Inv X pins σ H s) (h:∀p∈pins',s.heap.get? p.1=some p.2∧H p.1=none∧p.1≠X.env.locals∧p.1∉X.fs∧∀v,p.2.data≠.cell v):Inv X pins' σ H s:=
 ⟨I.ok,I.os,I.bare,I.base,I.loc,I.cell,I.free,I.freeC,fun p hp=>(List.mem_append.mp hp).elim (fun z=>I.pin p (List.mem_append_left _ z)) (h p),I.hok,I.len⟩
theorem nodup_ix {N:List Str}(hN:N.Nodup) {i j:Nat}{x:Str}(a:N[i]?=some x) (b:N[j]?=some x):i=j:=by
 obtain⟨h1,e1⟩:=List.getElem?_eq_some_iff.mp a
 obtain⟨h2,e2⟩:=List.getElem?_eq_some_iff.mp b
 exact (List.getElem_inj hN).mp (e1.trans e2.symm)
theorem store_ok2 {M:Model}{A:Around}{E:Vs}{i:Nat}{x:Str}{v:V}{u:Value}{Q:Unit→Shared→Prop}(I:Inv X pins σ H s) (hN:X.N.Nodup) (hi:X.N[i]?=some x) (hx:Loc X.env.scope x) (r:RelV v u)
  (h:∀s',Inv X pins (σ.set i (some v)) H s'→(∃a,Heap.SameBut a s.heap s'.heap∧(a=X.env.locals∨X.env.cells.lookup x=some a))→Q () s') (hf:X.fn x=true∨X.env.scope.names.lookup x=some .local:=by first | exact .inl rfl | exact .inr rfl | assumption):wpAny M A (storeName X.env x u) Q E s:=by
 obtain⟨m,hn,hl⟩:=id I.loc
 have hcls:(X.env.scope.kind == .class || (X.env.scope.kind == .module&&X.env.locals != X.env.globals))=false:=by rw[I.ok.kind];rfl
 have hiσ:i<σ.length:=by rw[I.len];exact (List.getElem?_eq_some_iff.mp hi).1
 have cne:=I.cne
 have tracked:∀{a:Addr}{h':Heap},(∃o,s.heap.get? a=some o∧H a=none)→Heap.SameBut a s.heap h'→HOk X.prog X.w H h':=fun {a h'} ha hs b ob e=>by
  obtain⟨_,_,hfree⟩:=ha
  refine (I.hok b ob e).stay (fun c w' hc q=>(hs.2 c ?_).trans q) (fun _ q=>q) fun _ _ q=>q
  rintro rfl
  rcases hc with rfl | hc
  ·rw[hfree]at e;cases e
  ·rw[hfree]at hc;cases hc
 rcases hx with hk | hk
 ·refine wpAny_storeName_local hk hn (fun h' hn' hs => ?_) hcls
  obtain⟨oL,_,_,hoL,_⟩:=id hn
  refine h _ ⟨I.ok,I.os,I.bare,⟨fun b o e n hb hx => ?_,fun b o e n hb hx => ?_,I.base.free,fun b o e hx => ?_,I.base.tups,I.base.frzs,I.base.tbls⟩,⟨_,hn',fun j y v' e1 e2 e3 => ?_⟩,fun y c e => ?_,I.free,I.freeC,fun p hp => ?_,tracked ⟨oL,hoL,I.free⟩ hs,by simpa using I.len⟩ ⟨_,hs,.inl rfl⟩
  ·exact (hs.2 b (Nat.ne_of_lt (Nat.lt_of_lt_of_le (Heap.lt_size e) I.ok.above))).trans (I.base.keep b o e n hb hx)
  ·obtain⟨sl,e1⟩:=I.base.slot b o e n hb hx
   exact⟨sl,(hs.2 b (Nat.ne_of_lt (Nat.lt_of_lt_of_le (Heap.lt_size e) I.ok.above))).trans e1⟩
  ·obtain⟨o',e1⟩:=I.base.there b o e hx
   exact⟨o',(hs.2 b (Nat.ne_of_lt (Nat.lt_of_lt_of_le (Heap.lt_size e) I.ok.above))).trans e1⟩
  ·by_cases hj:j=i
   ·subst hj
    rw[hi]at e1;cases e1
    rw[List.getElem?_set_self hiσ]at e2
    cases e2
    exact⟨u,r,.inl ⟨hk,by simp⟩⟩
   ·rw[List.getElem?_set_ne (Ne.symm hj)]at e2
    obtain⟨u',r',q⟩:=hl j y v' e1 e2 e3
    refine⟨u',r',?_⟩
    rcases q with ⟨k,e⟩ | ⟨k,c,e,z⟩
    ·refine .inl ⟨k,?_⟩
     have:y≠x:=fun e=>hj (nodup_ix hN e1 (e▸hi))
     simp[this,e]
    ·exact .inr ⟨k,c,e,z.sameBut hs (cne y c e)⟩
  ·obtain⟨w',z⟩:=I.cell y c e
   exact⟨w',z.sameBut hs (cne y c e)⟩
  ·obtain⟨e,n,ne,nf,d⟩:=I.pin p hp
   exact⟨(hs.2 p.1 ne).trans e,n,ne,nf,d⟩
 ·have hfn:X.fn x=true:=by
   rcases hf with z | z
   ·exact z
   ·rw[z]at hk;cases hk
  obtain⟨c,hc⟩:=I.ok.has x (.inl hk)
  obtain⟨w',z⟩:=I.cell x c hc
  refine wpAny_storeName_cell I.ok.kind hk hc z (fun h' hc' hs => ?_)
  obtain⟨oc,hoc,hocd⟩:=id z
  refine h { s with heap:=h' } ⟨I.ok,I.os,I.bare,⟨fun b o e n hb hx => ?_,fun b o e n hb hx => ?_,I.base.free,fun b o e hx => ?_,I.base.tups,I.base.frzs,I.base.tbls⟩,⟨m,hn.sameBut hs (Ne.symm (cne x c hc)),fun j y v' e1 e2 e3 => ?_⟩,fun y c' e => ?_,I.free,I.freeC,fun p hp => ?_,tracked ⟨oc,hoc,I.freeC x c hc⟩ hs,by simpa using I.len⟩ ⟨c,hs,.inr hc⟩
  ·exact (hs.2 b (Nat.ne_of_lt (Nat.lt_of_lt_of_le (Heap.lt_size e) (I.ok.cab x c hfn hc)))).trans (I.base.keep b o e n hb hx)
  ·obtain⟨sl,e1⟩:=I.base.slot b o e n hb hx
   exact⟨sl,(hs.2 b (Nat.ne_of_lt (Nat.lt_of_lt_of_le (Heap.lt_size e) (I.ok.cab x c hfn hc)))).trans e1⟩
  ·obtain⟨o',e1⟩:=I.base.there b o e hx
   exact⟨o',(hs.2 b (Nat.ne_of_lt (Nat.lt_of_lt_of_le (Heap.lt_size e) (I.ok.cab x c hfn hc)))).trans e1⟩
  ·by_cases hj:j=i
   ·subst hj
    rw[hi]at e1;cases e1
    rw[List.getElem?_set_self hiσ]at e2
    cases e2
    exact⟨u,r,.inr ⟨.inl hk,c,hc,hc'⟩⟩
   ·rw[List.getElem?_set_ne (Ne.symm hj)]at e2
    obtain⟨u',r',q⟩:=hl j y v' e1 e2 e3
    refine⟨u',r',?_⟩
    rcases q with q | ⟨k,c',e,z'⟩
    ·exact .inl q
    ·refine .inr ⟨k,c',e,z'.sameBut hs ?_⟩
     rintro rfl
     exact hj (nodup_ix hN e1 (I.ok.inj _ _ _ e hc▸hi))
  ·by_cases hcc:c'=c
   ·subst hcc;exact⟨_,hc'⟩
   ·obtain⟨w2,z2⟩:=I.cell y c' e
    exact⟨w2,z2.sameBut hs hcc⟩
  ·obtain⟨e,n,ne,nf,d⟩:=I.pin p hp
   refine⟨(hs.2 p.1 ?_).trans e,n,ne,nf,d⟩
   intro q
   rw[q,hoc]at e
   have q':oc=p.2:=Option.some.inj e
   exact d w' (by rw[←q'];exact hocd)
theorem store_ok {M:Model}{A:Around}{E:Vs}{i:Nat}{x:Str}{v:V}{u:Value}{Q:Unit→Shared→Prop}(I:Inv X pins σ H s) (hN:X.N.Nodup) (hi:X.N[i]?=some x) (hx:Loc X.env.scope x) (r:RelV v u)
  (h:∀s',Inv X pins (σ.set i (some v)) H s'→Q () s') (hf:X.fn x=true∨X.env.scope.names.lookup x=some .local:=by first | exact .inl rfl | exact .inr rfl | assumption):wpAny M A (storeName X.env x u) Q E s:=
 store_ok2 I hN hi hx r (fun s' I' _=>h s' I') hf
theorem Inv.call' {s':Shared}{ch:List Addr}(I:Inv X pins σ H s) (ho:s'.os=s.os) (u:Un (frs X.stack) ch H H' s.heap s'.heap) (hok:HOk X.prog X.w H' s'.heap) (hg:AllBare s'.gens)
  (hch:∀b∈ch,(b∈X.ex∨X.s₀.heap.objs.size≤b)∧b≠X.env.locals∧(∀x c,X.env.cells.lookup x=some c→c≠b)∧∀p∈X.pn++pins,p.1≠b):Inv X pins σ H' s':=by
 obtain⟨h',g',d',t',o'⟩:=s'
 have e:o'=s.os:=ho
 subst e
 exact I.call (g':=g') (t':=t') (d':=d') u hok hg hch
end
noncomputable abbrev XK:=Value→Option Addr→Hp→Prop
noncomputable abbrev St:=List (Option V)
noncomputable abbrev VK:=V→Hp→Prop
noncomputable abbrev TE:=St→Hp→VK→Prop
noncomputable abbrev TT:=St→Hp→(Bool→Hp→Prop)→Prop
noncomputable abbrev TA:=St→Hp→(List V→Hp→Prop)→Prop
set_option genInjectivity false in
structure Ends where
 nx:St→Hp→Prop
 rt:VK
 bk:St→Hp→Prop:=fun _ _=>False
 ct:St→Hp→Prop:=fun _ _=>False
noncomputable abbrev TS:=Ends→St→Hp→Prop
def EP (X:Cx) (pins:Lo) (σ:St) (Q:VK) (u:Value) (s':Shared):Prop:=∃v H',Inv X pins σ H' s'∧RelV v u∧Q v H'
def TP (X:Cx) (pins:Lo) (σ:St) (Q:Bool→Hp→Prop) (b:Bool) (s':Shared):Prop:=∃H',Inv X pins σ H' s'∧Q b H'
def AP (X:Cx) (pins:Lo) (σ:St) (Q:List V→Hp→Prop) (us:List Value) (s':Shared):Prop:=∃vs H',Inv X pins σ H' s'∧Vals vs us∧Q vs H'
def SP (X:Cx) (pins:Lo) (D:Ends) (f:Flow) (s':Shared):Prop:=
 match f with
 | .next=>∃σ' H',Inv X pins σ' H' s'∧D.nx σ' H'
 | .brk=>∃σ' H',Inv X pins σ' H' s'∧D.bk σ' H'
 | .cont=>∃σ' H',Inv X pins σ' H' s'∧D.ct σ' H'
 | .ret u=>∃v σ' H',Inv X pins σ' H' s'∧RelV v u∧D.rt v H'
def PE (X:Cx) (e:Expr) (t:TE):Prop:=
 ∀(pins:Lo) (s:Shared) (σ:St) (H:Hp) (Q:VK),Inv X pins σ H s→t σ H Q→wpAny (model X.prog X.w) X.A (eval e X.env) (EP X pins σ Q) X.xe s
def PT (X:Cx) (e:Expr) (t:TT):Prop:=
 ∀(pins:Lo) (s:Shared) (σ:St) (H:Hp) (Q:Bool→Hp→Prop),Inv X pins σ H s→t σ H Q→wpAny (model X.prog X.w) X.A (isTrue e X.env (eval e X.env)) (TP X pins σ Q) X.xe s
def PW (X:Cx) (e:Expr) (t:TT):Prop:=
 ∀(whole:Sem Value) (pins:Lo) (s:Shared) (σ:St) (H:Hp) (Q:Bool→Hp→Prop),Inv X pins σ H s→t σ H Q→wpAny (model X.prog X.w) X.A (isTrue e X.env whole) (TP X pins σ Q) X.xe s
theorem PW.pt {X:Cx}{e:Expr}{t:TT}(h:PW X e t):PT X e t:=h _
def PA (X:Cx) (es:List Expr) (t:TA):Prop:=
 ∀(pos:Pos) (pins:Lo) (s:Shared) (σ:St) (H:Hp) (Q:List V→Hp→Prop),Inv X pins σ H s→t σ H Q→wpAny (model X.prog X.w) X.A (spliced (backTo pos (starEach es X.env))) (AP X pins σ Q) X.xe s
def PS (X:Cx) (st:Stmt) (t:TS):Prop:=
 ∀(pins:Lo) (s:Shared) (σ:St) (H:Hp) (D:Ends),Inv X pins σ H s→t D σ H→wpAny (model X.prog X.w) X.A (exec st X.env) (SP X pins D) X.xe s
def PSs (X:Cx) (st:List Stmt) (t:TS):Prop:=
 ∀(pins:Lo) (s:Shared) (σ:St) (H:Hp) (D:Ends),Inv X pins σ H s→t D σ H→wpAny (model X.prog X.w) X.A (execs st X.env) (SP X pins D) X.xe s
theorem thn {α:Type}{t:Sem α}{Q Q':α→Shared→Prop}{M:Model}{A:Around}{E:Vs}{s:Shared}(h:wpAny M A t Q E s) (hQ:∀a s,Q a s→Q' a s):wpAny M A t Q' E s:=wpAny_mono h hQ fun _ _ x=>x
end L2
namespace L2
open PySem PySem.Spec PyProof.Rows
section
variable {X:Cx}
def tVar (i:Nat):TE:=fun σ H Q=>∃v,σ[i]?=some (some v)∧Q v H
def tC (v:V):TE:=fun _ H Q=>Q v H
theorem pe_var {i:Nat}{x:Str}{pos:Pos}(hN:X.N[i]?=some x) (hv:Vis X.env.scope x) (hd:(x == ("__debug__" : Str))=false:=by decide) (hcd:(x == ("__classdict__" : Str))=false:=by decide):PE X (.Name x pos) (tVar i):=by
 intro pins s σ H Q I h
 obtain⟨v,e,h⟩:=h
 obtain⟨m,hn,hl⟩:=I.loc
 obtain⟨u,r,l⟩:=hl i x v hN e hv
 have fin:EP X pins σ Q u s:=⟨v,H,I,r,h⟩
 rcases l with ⟨hk,hm⟩ | ⟨hk,c,hc,hcell⟩
 ·exact wpAny_Name (wpAny_loadName_local I.ok.kind hk hn hm fin) hd
 ·rcases hk with hk | hk
  ·exact wpAny_Name (wpAny_loadName_cell I.ok.kind hk hc hcell fin) hd
  ·exact wpAny_Name (wpAny_loadName_free I.ok.kind hk hc hcell fin hcd) hd
theorem pe_int {i j pos}:PE X (.Constant (.int i) j pos) (tC (.int i)):=fun _ _ _ H _ I h=>wpAny_Constant_int ⟨.int i,H,I.tok _,⟨_,rfl⟩,h⟩
theorem pe_bl {b j pos}:PE X (.Constant (.bool b) j pos) (tC (.bl b)):=fun _ _ _ H _ I h=>Constant_bool ⟨.bl b,H,I,rfl,h⟩
theorem pe_non {j pos}:PE X (.Constant .none j pos) (tC .non):=fun _ _ _ H _ I h=>Constant_none ⟨.non,H,I,rfl,h⟩
theorem pe_str {x j pos}:PE X (.Constant (.str x) j pos) (tC (.str x)):=fun _ _ _ H _ I h=>Calls.Constant_str ⟨.str x,H,I.tok _,⟨_,rfl⟩,h⟩
def Gl (X:Cx) (x:Str):Prop:=X.env.kindOf x=some .globalImplicit
theorem ld_glob {E:Vs}{pins:Lo}{s:Shared}{σ:St}{H:Hp}{x:Str}{u:Value}{pos:Pos}{Q:Vs}(I:Inv X pins σ H s) (hg:Gl X x) (hm:X.mg x=some u) (h:Q u s)
  (hd:(x == ("__debug__" : Str))=false:=by decide):wpAny (model X.prog X.w) X.A (eval (.Name x pos) X.env) Q E s:=
 Calls.Name_function_global I.ok.kind hg (Calls.loadGlobal_global (by rw[I.ok.glob];exact I.mod.glob.keeps I.bk) hm h) hd
theorem ld_blt {E:Vs}{pins:Lo}{s:Shared}{σ:St}{H:Hp}{x:Str}{u:Value}{pos:Pos}{Q:Vs}(I:Inv X pins σ H s) (hg:Gl X x) (hm:X.mg x=none) (hv:bootBuiltins x=some u) (h:Q u s)
  (hn:x ≠ "__name__" := by decide) (hd:(x == ("__debug__" : Str))=false:=by decide):wpAny (model X.prog X.w) X.A (eval (.Name x pos) X.env) Q E s:=by
 obtain⟨mb,h1,h2⟩:=I.mod.blt
 exact Calls.Name_function_global I.ok.kind hg (Calls.loadGlobal_builtin (by rw[I.ok.glob];exact I.mod.glob.keeps I.bk) hm (by rw[I.ok.blt];exact h1.keeps I.bk) ((h2 x hn).trans hv) h) hd
theorem pe_glob {x:Str}{v:V}{u:Value}{pos:Pos}(hg:Gl X x) (hm:X.mg x=some u) (r:RelV v u) (hd:(x == ("__debug__" : Str))=false:=by decide):PE X (.Name x pos) (tC v):=
 fun _ _ _ H _ I h=>ld_glob I hg hm ⟨v,H,I,r,h⟩ hd
theorem pe_bltn {x:Str}{v:V}{u:Value}{pos:Pos}(hg:Gl X x) (hm:X.mg x=none) (hv:bootBuiltins x=some u) (r:RelV v u) (hn:x ≠ "__name__" := by decide) (hd:(x == ("__debug__" : Str))=false:=by decide):PE X (.Name x pos) (tC v):=
 fun _ _ _ H _ I h=>ld_blt I hg hm hv ⟨v,H,I,r,h⟩ hn hd
variable {a b:Expr}{ta tb:TE}{pos:Pos}
def PC (X:Cx) (op:CmpOp) (a b:Expr) (t:TE):Prop:=
 ∀(pins:Lo) (s:Shared) (σ:St) (H:Hp) (Q:VK),Inv X pins σ H s→t σ H Q→
  wpAny (model X.prog X.w) X.A (eval a X.env) (fun v s₁=>wpAny (model X.prog X.w) X.A (eval b X.env) (fun u s₂=>wpAny (model X.prog X.w) X.A (compareOp op v u) (EP X pins σ Q) X.xe s₂) X.xe s₁) X.xe s
theorem nobehind (b:Expr) {op:CmpOp}(h:op≠.In) (h2:op≠.NotIn):behindInMarks op b=false:=by
 have e1:(op == CmpOp.In)=false:=by cases op<;>first | rfl | exact absurd rfl h
 have e2:(op == CmpOp.NotIn)=false:=by cases op<;>first | rfl | exact absurd rfl h2
 cases b<;>simp[behindInMarks,e1,e2]
def tB (t:TE):TT:=fun σ H Q=>t σ H fun x H1=>∃c,x=.bl c∧Q c H1
theorem pt_cmp {op:CmpOp}{t:TE}(h:PC X op a b t) (h1:behindInMarks op b=false:=by first | exact nobehind _ (by decide) (by decide) | rfl):PT X (.Compare a [op] [b] pos) (tB t):=by
 intro pins s σ H Q I hw
 refine wpAny_isTrue_Compare1 (thn (h pins s σ H _ I hw) fun v s1 h1=>thn h1 fun u s2 h2=>thn h2 fun c s3 ⟨x,H1,I1,r1,q1⟩ => ?_) h1
 obtain⟨d,rfl,q⟩:=q1
 cases r1
 exact wpAny_truthy_bool ⟨H1,I1,q⟩
theorem pt_val {e:Expr}{t:TE}(h:PE X e t) (he:∀whole,isTrue e X.env whole=(do let v ←whole;standAt e.pos;holding [v] (truthy v)):=by intro _;rfl):PT X e (tB t):=by
 intro pins s σ H Q I hw
 refine isTrue_plain (thn (h pins s σ H _ I hw) fun v s1 ⟨x,H1,I1,r1,q1⟩ => ?_) (he _)
 obtain⟨d,rfl,q⟩:=q1
 cases r1
 exact wpAny_truthy_bool ⟨H1,I1,q⟩
variable {tA tB':TT}{rest:List Expr}
def tAnd (t u:TT):TT:=fun σ H Q=>t σ H fun c H1=>if c=true then u σ H1 Q else Q false H1
def tOr (t u:TT):TT:=fun σ H Q=>t σ H fun c H1=>if c=true then Q true H1 else u σ H1 Q
def tNot (t:TT):TT:=fun σ H Q=>t σ H fun c H1=>Q (!c) H1
theorem pw_and1 (ha:PT X a tA):PW X (.BoolOp .And [a] pos) tA:=by
 intro wh pins s σ H Q I h
 refine isTrue_and (thn (ha pins s σ H Q I h) fun c s1 e => ?_)
 cases c with
 | true=>exact isTrue_and_nil e
 | false=>exact e
theorem pw_or1 (ha:PT X a tA):PW X (.BoolOp .Or [a] pos) tA:=by
 intro wh pins s σ H Q I h
 refine isTrue_or (thn (ha pins s σ H Q I h) fun c s1 e => ?_)
 cases c with
 | false=>exact isTrue_or_nil e
 | true=>exact e
theorem pw_and (ha:PT X a tA) (hb:PW X (.BoolOp .And (b::rest) pos) tB'):PW X (.BoolOp .And (a::b::rest) pos) (tAnd tA tB'):=by
 intro wh pins s σ H Q I h
 refine isTrue_and (thn (ha pins s σ H _ I h) fun c s1 ⟨H1,I1,q1⟩ => ?_)
 cases c with
 | true=>exact hb wh pins s1 σ H1 Q I1 q1
 | false=>exact⟨H1,I1,q1⟩
theorem pw_or (ha:PT X a tA) (hb:PW X (.BoolOp .Or (b::rest) pos) tB'):PW X (.BoolOp .Or (a::b::rest) pos) (tOr tA tB'):=by
 intro wh pins s σ H Q I h
 refine isTrue_or (thn (ha pins s σ H _ I h) fun c s1 ⟨H1,I1,q1⟩ => ?_)
 cases c with
 | true=>exact⟨H1,I1,q1⟩
 | false=>exact hb wh pins s1 σ H1 Q I1 q1
theorem pt_not (ha:PT X a tA):PT X (.UnaryOp .Not a pos) (tNot tA):=by
 intro pins s σ H Q I h
 exact isTrue_not (ha pins s σ H (fun c H1=>Q (!c) H1) I h)
def tAndV (ta tb:TE):TE:=fun σ H Q=>ta σ H fun x H1=>∃c,x=.bl c∧if c=true then tb σ H1 Q else Q (.bl false) H1
def tOrV (ta tb:TE):TE:=fun σ H Q=>ta σ H fun x H1=>∃c,x=.bl c∧if c=true then Q (.bl true) H1 else tb σ H1 Q
def tNotV (ta:TE):TE:=fun σ H Q=>ta σ H fun x H1=>∃c,x=.bl c∧Q (.bl (!c)) H1
theorem pe_one {op} {t:TE}(h:PE X a t):PE X (.BoolOp op [a] pos) t:=fun pins s σ H Q I hw=>BoolOp_one (h pins s σ H Q I hw)
theorem pe_and (ha:PE X a ta) (hb:PE X (.BoolOp .And (b::rest) pos) tb):PE X (.BoolOp .And (a::b::rest) pos) (tAndV ta tb):=by
 intro pins s σ H Q I h
 refine BoolOp_and (thn (ha pins s σ H _ I h) fun v s1 ⟨x,H1,I1,r1,q1⟩ => ?_)
 obtain⟨c,rfl,q1⟩:=q1
 cases r1
 refine wpAny_truthy_bool ?_
 cases c with
 | true=>exact hb pins s1 σ H1 Q I1 q1
 | false=>exact⟨.bl false,H1,I1,rfl,q1⟩
def tIf (t:TT) (ta tb:TE):TE:=fun σ H Q=>t σ H fun c H1=>if c=true then ta σ H1 Q else tb σ H1 Q
end
end L2
namespace L2
open PySem PySem.Spec PyProof.Rows
def SqL (K:Wf) (H:Hp) (a:Addr) (xs:List V):Prop:=
 Rd H a (.lst xs) ∨
  ∃(o:Obj) (its:Array Value) (n:Nat),K.lookup a=some o∧o.cls=.type "list" ∧ o.dict=none∧o.data=.seq its n∧its.size≤sizeLine∧Vals xs its.toList
def SqT (K:Wf) (H:Hp) (a:Addr) (xs:List V):Prop:=
 Rd H a (.tup xs) ∨
  ∃(o:Obj) (its:Array Value) (n:Nat),K.lookup a=some o∧o.cls=.type "tuple" ∧ o.data=.seq its n∧its.size≤sizeLine∧Vals xs its.toList
noncomputable def absV:Value→Option V
 | .none=>some .non
 | .bool b=>some (.bl b)
 | .int i _=>some (.int i)
 | .str x _=>some (.str x)
 | .bytes b _=>some (.byt b)
 | .float b _=>some (.flt b)
 | .ref a=>some (.ref a)
 | .type n=>some (.ty n)
 | _=>none
theorem RelV.abs {x:V}{u:Value}(r:RelV x u):absV u=some x:=by
 cases x with
 | non=>cases r;rfl
 | bl _=>cases r;rfl
 | int _=>obtain⟨t,rfl⟩:=r;rfl
 | str _=>obtain⟨t,rfl⟩:=r;rfl
 | byt _=>obtain⟨t,rfl⟩:=r;rfl
 | flt _=>obtain⟨t,rfl⟩:=r;rfl
 | ref _=>cases r;rfl
 | ty _=>cases r;rfl
theorem RelV.inj {x y:V}{u:Value}(r:RelV x u) (q:RelV y u):x=y:=Option.some.inj (r.abs.symm.trans q.abs)
theorem Vals.inj:∀{xs ys:List V}{us:List Value},Vals xs us→Vals ys us→xs=ys
 | _,_,_,.nil,.nil=>rfl
 | _,_,_,.cons r t,.cons r' t'=>by rw[r.inj r',Vals.inj t t']
section
variable {X:Cx}{pins:Lo}{σ:St}{H:Hp}{s:Shared}{a:Addr}{xs ys:List V}
theorem SqL.of {K:Wf}(h:H a=some (.lst xs)):SqL K H a xs:=.inl (.inl h)
theorem SqT.of {K:Wf}(h:H a=some (.tup xs)):SqT K H a xs:=.inl (.inl h)
theorem Inv.list (I:Inv X pins σ H s) (h:SqL X.K H a xs):∃its:List Value,Vals xs its∧PlainL s.heap a its.toArray∧xs.length≤sizeLine:=by
 rcases h with h | ⟨o,its,n,hk,hc,hd,hs,hz,r⟩
 ·obtain⟨z,its,n,r,e⟩:=h.ok I.hok
  exact⟨its,r,⟨_,n,e,rfl,rfl,rfl⟩,z⟩
 ·refine⟨its.toList,r,⟨o,n,I.kIn a o hk,hc,hd,by simpa using hs⟩,?_⟩
  have e:=r.length
  simp only[Array.length_toList]at e
  omega
theorem Inv.tuple (I:Inv X pins σ H s) (h:SqT X.K H a xs):∃its:List Value,Vals xs its∧IsTup s.heap a its.toArray∧xs.length≤sizeLine:=by
 rcases h with h | ⟨o,its,n,hk,hc,hs,hz,r⟩
 ·obtain⟨z,its,r,p⟩:=h.ok I.hok
  exact⟨its,r,p,z⟩
 ·refine⟨its.toList,r,⟨o,I.kIn a o hk,hc,n,by simpa using hs⟩,?_⟩
  have e:=r.length
  simp only[Array.length_toList]at e
  omega
theorem Inv.list_inj (I:Inv X pins σ H s) (h:SqL X.K H a xs) (h':SqL X.K H a ys):xs=ys:=by
 obtain⟨its,r,⟨o,n,e,_,_,d⟩,_⟩:=I.list h
 obtain⟨its',r',⟨o',n',e',_,_,d'⟩,_⟩:=I.list h'
 rw[e]at e';cases e'
 rw[d]at d'
 injection d' with d1 _
 have:its=its':=by simpa using congrArg Array.toList d1
 subst this
 exact r.inj r'
theorem Inv.tuple_inj (I:Inv X pins σ H s) (h:SqT X.K H a xs) (h':SqT X.K H a ys):xs=ys:=by
 obtain⟨its,r,⟨o,e,_,n,d⟩,_⟩:=I.tuple h
 obtain⟨its',r',⟨o',e',_,n',d'⟩,_⟩:=I.tuple h'
 rw[e]at e';cases e'
 rw[d]at d'
 injection d' with d1 _
 have:its=its':=by simpa using congrArg Array.toList d1
 subst this
 exact r.inj r'
end
noncomputable abbrev Cx.wish (X:Cx) (E:Vs):Cx:={ X with xe:=E }
noncomputable abbrev Cx.nox (X:Cx):Cx:=X.wish fun _ _=>False
theorem Cx.Ok.wish {X:Cx}(ok:X.Ok) (E:Vs):(X.wish E).Ok:=
 ⟨ok.mod,ok.kind,ok.glob,ok.blt,ok.above,ok.inj,ok.has,ok.cab,ok.hd,ok.frames,ok.stk,ok.exf,ok.bs,ok.bsz,ok.noex,ok.exfs,ok.funs,ok.frf⟩
theorem Cx.Ok.unwish {X:Cx}{E:Vs}(ok:(X.wish E).Ok):X.Ok:=
 ⟨ok.mod,ok.kind,ok.glob,ok.blt,ok.above,ok.inj,ok.has,ok.cab,ok.hd,ok.frames,ok.stk,ok.exf,ok.bs,ok.bsz,ok.noex,ok.exfs,ok.funs,ok.frf⟩
section
variable {X:Cx}{pins:Lo}{σ:St}{H:Hp}{s:Shared}{E:Vs}
theorem Inv.wish (I:Inv X pins σ H s) (E:Vs):Inv (X.wish E) pins σ H s:=⟨I.ok.wish E,I.os,I.bare,I.base,I.loc,I.cell,I.free,I.freeC,I.pin,I.hok,I.len⟩
theorem Inv.unwish (I:Inv (X.wish E) pins σ H s):Inv X pins σ H s:=⟨I.ok.unwish,I.os,I.bare,I.base,I.loc,I.cell,I.free,I.freeC,I.pin,I.hok,I.len⟩
theorem SP.unwish {D:Ends}{f:Flow}{s':Shared}(h:SP (X.wish E) pins D f s'):SP X pins D f s':=by
 cases f with
 | next=>obtain⟨σ',H',I,q⟩:=h;exact⟨σ',H',I.unwish,q⟩
 | brk=>obtain⟨σ',H',I,q⟩:=h;exact⟨σ',H',I.unwish,q⟩
 | cont=>obtain⟨σ',H',I,q⟩:=h;exact⟨σ',H',I.unwish,q⟩
 | ret u=>obtain⟨v,σ',H',I,r,q⟩:=h;exact⟨v,σ',H',I.unwish,r,q⟩
theorem PSs.nox {st:List Stmt}{t:TS}(h:PSs X.nox st t):PSs X st t:=fun pins s σ H D I hw=>
 wpAny_mono (h pins s σ H D (I.wish _) hw) (fun _ _ q=>q.unwish) fun _ _ z=>False.elim z
end
section
variable {X:Cx}{st:Stmt}{rest:List Stmt}{t u:TS}{e:Expr}{te:TE}{pos:Pos}
def tNext:TS:=fun D σ H=>D.nx σ H
def tSeq (t u:TS):TS:=fun D σ H=>t { D with nx:=u D } σ H
theorem zz13:PSs X [] tNext:=fun _ _ σ H _ I h=>wpAny_execs_nil ⟨σ,H,I,h⟩
theorem zz2 (h1:PS X st t) (h2:PSs X rest u):PSs X (st::rest) (tSeq t u):=by
 intro pins s σ H D I h
 refine wpAny_execs_cons (thn (h1 pins s σ H { D with nx:=u D } I h) fun f s1 q => ?_)
 cases f with
 | next=>
  obtain⟨σ',H',I',q⟩:=q
  exact h2 pins s1 σ' H' D I' q
 | ret v=>exact q
 | brk=>exact q
 | cont=>exact q
theorem zz5 (h1:PS X st t):PSs X [st] t:=by
 intro pins s σ H D I h
 refine wpAny_execs_cons (thn (h1 pins s σ H D I h) fun f s1 q => ?_)
 cases f with
 | next=>exact wpAny_execs_nil q
 | ret v=>exact q
 | brk=>exact q
 | cont=>exact q
theorem Inv.quiet {pins:Lo}{σ:St}{H:Hp}{s:Shared}(I:Inv X pins σ H s):interactive X.env=false:=by simp[interactive,I.ok.kind]
def tDrop (te:TE):TS:=fun D σ H=>te σ H fun _ H1=>D.nx σ H1
theorem ps_expr (he:PE X e te) (hs:swapsWith e none pos.line X.env=pure false:=by rfl):PS X (.Expr e pos) (tDrop te):=by
 intro pins s σ H D I h
 exact wpAny_Expr_any (thn (he pins s σ H _ I h) fun v s1 ⟨x,H1,I1,r1,q1⟩=>⟨σ,H1,I1,q1⟩) I.quiet hs
def tRet (te:TE):TS:=fun D σ H=>te σ H D.rt
theorem ps_ret (he:PE X e te):PS X (.Return (some e) pos) (tRet te):=by
 intro pins s σ H D I h
 exact wpAny_Return_some (thn (he pins s σ H _ I h) fun v s1 ⟨x,H1,I1,r1,q1⟩=>⟨x,σ,H1,I1,r1,q1⟩)
def tRetN:TS:=fun D _ H=>D.rt .non H
theorem ps_retN:PS X (.Return none pos) tRetN:=fun _ _ σ H _ I h=>wpAny_Return_none ⟨.non,σ,H,I,rfl,h⟩
def tIfS (c:TT) (t u:TS):TS:=fun D σ H=>c σ H fun b H1=>if b=true then t D σ H1 else u D σ H1
theorem ps_if {c:Expr}{a b:List Stmt}{tc:TT}(hc:PT X c tc) (ha:PSs X a t) (hb:PSs X b u):PS X (.If c a b pos) (tIfS tc t u):=by
 intro pins s σ H D I h
 refine wpAny_If (thn (hc pins s σ H _ I h) fun d s1 ⟨H1,I1,q1⟩ => ?_)
 cases d with
 | true=>exact ha pins s1 σ H1 D I1 q1
 | false=>exact hb pins s1 σ H1 D I1 q1
end
noncomputable abbrev TG:=V→St→Hp→(St→Hp→Prop)→Prop
noncomputable abbrev TGs:=List V→St→Hp→(St→Hp→Prop)→Prop
def PG (X:Cx) (target:Expr) (t:TG):Prop:=
 ∀(pins:Lo) (s:Shared) (σ:St) (H:Hp) (v:V) (u:Value) (Q:St→Hp→Prop),Inv X pins σ H s→RelV v u→t v σ H Q→
  wpAny (model X.prog X.w) X.A (assign target X.env u) (fun _ s'=>∃σ' H',Inv X pins σ' H' s'∧Q σ' H') X.xe s
def PGs (X:Cx) (ts:List Expr) (t:TGs):Prop:=
 ∀(pins:Lo) (s:Shared) (σ:St) (H:Hp) (vs:List V) (us:List Value) (Q:St→Hp→Prop),Inv X pins σ H s→Vals vs us→t vs σ H Q→
  wpAny (model X.prog X.w) X.A (assignInOrder ((assignEach ts X.env).map (·.2)) us) (fun _ s'=>∃σ' H',Inv X pins σ' H' s'∧Q σ' H') X.xe s
section
variable {X:Cx}{pos:Pos}
def gName (i:Nat):TG:=fun v σ H Q=>Q (σ.set i (some v)) H
theorem zz7 {i:Nat}{x:Str}(hN:X.N.Nodup) (hi:X.N[i]?=some x) (hx:Loc X.env.scope x) (hf:X.fn x=true∨X.env.scope.names.lookup x=some .local:=by first | exact .inl rfl | exact .inr rfl | assumption):PG X (.Name x pos) (gName i):=by
 intro pins s σ H v u Q I r h
 exact wpAny_assign_Name (store_ok I hN hi hx r (fun s' I'=>⟨_,H,I',h⟩) hf)
noncomputable def gNil:TGs:=fun vs σ H Q=>vs=[]∧Q σ H
noncomputable def gCons (t:TG) (u:TGs):TGs:=fun vs σ H Q=>∃v r,vs=v::r∧t v σ H fun σ' H'=>u r σ' H' Q
theorem pgs_nil:PGs X [] gNil:=by
 intro pins s σ H vs us Q I r h
 obtain⟨e,h⟩:=h
 subst e
 cases r
 exact assignInOrder_nil ⟨σ,H,I,h⟩
theorem zz14 {e:Expr}{es:List Expr}{t:TG}{u:TGs}(h1:PG X e t) (h2:PGs X es u)
  (hs:(assignEach (e::es) X.env).map (·.2)=assign e X.env::(assignEach es X.env).map (·.2):=by rfl):PGs X (e::es) (gCons t u):=by
 intro pins s σ H vs us Q I r h
 obtain⟨v,vr,e1,h⟩:=h
 subst e1
 cases r with
 | cons r rr=>
  rw[hs]
  refine assignInOrder_cons (thn (h1 pins s σ H _ _ _ I r h) fun _ s1 ⟨σ1,H1,I1,q1⟩ => ?_)
  exact h2 pins s1 σ1 H1 _ _ Q I1 rr q1
def gTup (K:Wf) (n:Nat) (t:TGs):TG:=fun v σ H Q=>∃a xs,v=.ref a∧SqT K H a xs∧xs.length=n∧t xs σ H Q
theorem pg_tup {es:List Expr}{k:Nat}{t:TGs}{n:Nat}(hc:X.calm=true) (h:PGs X es t)
  (hn:(assignEach es X.env).length=n:=by rfl) (hst:(assignEach es X.env).findIdx? (·.1)=none:=by rfl):PG X (.Tuple es k pos) (gTup X.K n t):=by
 intro pins s σ H v u Q I r hw
 obtain⟨a,xs,e1,hq,hl,hw⟩:=hw
 subst e1
 cases r
 obtain⟨its,rv,ht,hz⟩:=I.tuple hq
 refine assign_Tuple_tuple (I.ok.hd hc) ht (by simp[hn,←hl,rv.length]) hst fun h' hx => ?_
 have I1:Inv X pins σ H { s with heap:=h' }:=I.kept (t':=s.toks) fun b o e=>hx b o (Nat.ne_of_lt (Heap.lt_size e)) e
 exact h pins _ σ H xs _ Q I1 (by simpa using rv) hw
def tAsg (te:TE) (g:TG):TS:=fun D σ H=>te σ H fun x H1=>g x σ H1 D.nx
theorem ps_asg {tg e:Expr}{te:TE}{g:TG}(he:PE X e te) (hg:PG X tg g) (hs:swapsWithSole [tg] e pos.line X.env=pure false:=by rfl) (hw:swappedStores [tg] e X.env=pure none:=by rfl)
  (h1:(assignEach [tg] X.env).map (·.2)=[assign tg X.env]:=by rfl):PS X (.Assign [tg] e pos) (tAsg te g):=by
 intro pins s σ H D I h
 refine wpAny_Assign_stores (thn (he pins s σ H _ I h) fun v s1 ⟨x,H1,I1,r1,q1⟩ => ?_) hs hw
 rw[h1]
 exact thn (hg pins s1 σ H1 x v _ I1 r1 q1) fun _ s2 q=>q
theorem ps_set {i:Nat}{x:Str}{e:Expr}{te:TE}{pos':Pos}(hN:X.N.Nodup) (hi:X.N[i]?=some x) (hx:Loc X.env.scope x) (he:PE X e te) (hs:swapsWith e (some (.Name x pos')) pos.line X.env=pure false:=by rfl) (hf:X.fn x=true∨X.env.scope.names.lookup x=some .local:=by first | exact .inl rfl | exact .inr rfl | assumption):
  PS X (.Assign [.Name x pos'] e pos) (tAsg te (gName i)):=by
 intro pins s σ H D I h
 refine wpAny_Assign_Name (thn (he pins s σ H _ I h) fun v s1 ⟨y,H1,I1,r1,q1⟩ => ?_) hs
 exact store_ok I1 hN hi hx r1 (fun s2 I2=>⟨_,H1,I2,q1⟩) hf
end
section
variable {X:Cx}{pos:Pos}
end
set_option genInjectivity false in
structure It where
 go:Nat→Hp→Prop
 yld:Nat→Hp→V→Hp→Prop
 stop:Nat→Hp→Prop
def FpOk (X:Cx) (pins:Lo) (H:Hp) (b:Addr):Prop:=
 H b=none∧b≠X.env.locals∧b∉X.fs∧(b∈X.ex∨X.s₀.heap.objs.size≤b)∧(∀x c,X.env.cells.lookup x=some c→c≠b)∧∀p∈X.pn++pins,p.1≠b
theorem Inv.fpOk {X:Cx}{pins:Lo}{σ:St}{H H':Hp}{s:Shared}{b:Addr}(I:Inv X pins σ H s) (hb:s.heap.objs.size≤b) (hn:H' b=none):FpOk X pins H' b:=by
 refine⟨hn,Nat.ne_of_gt (Nat.lt_of_lt_of_le I.lt hb),I.nofs hb,.inr (Nat.le_trans I.sz hb),fun x c e z => ?_,fun p hp z => ?_⟩
 ·obtain⟨v,q⟩:=I.cell x c e
  exact absurd (Nat.lt_of_lt_of_le q.lt (by rw[z];exact hb)) (Nat.lt_irrefl _)
 ·exact absurd (Nat.lt_of_lt_of_le (Heap.lt_size (I.pin p hp).1) (by rw[z];exact hb)) (Nat.lt_irrefl _)
set_option genInjectivity false in
structure Turn (P:Program) (w:World) (K:Wf) (tg:Expr) (J:It) (fp:List Addr) (it:Addr) (tn:Nat→Heap→Prop):Prop where
 mem:it∈fp
 obj:∀i h,tn i h→∀b∈fp,∃o,h.get? b=some o∧∀v,o.data≠.cell v
 keep:∀i h h',tn i h→(∀b∈fp,∀o,h.get? b=some o→h'.get? b=some o)→tn i h'
 item:∀(X:Cx),X.prog=P→X.w=w→X.K=K→X.calm=true→∀(i:Nat) (pins:Lo) (s:Shared) (σ:St) (H:Hp) (E:Vs),Inv X pins σ H s→(∀b∈fp,FpOk X pins H b)→tn i s.heap→J.go i H→
  wpAny (model P w) X.A (pyNext (.ref it)) (fun r s1=>∃u,r=some u∧
   wpAny (model P w) X.A (letOwnedTupleGo tg (.ref it) u) (fun _ s2=>∃x H',Inv X pins σ H' s2∧RelV x u∧J.yld i H x H'∧tn (i+1) s2.heap∧∀b∈fp,H' b=none) E s1) E s
 done:∀(X:Cx),X.prog=P→X.w=w→X.K=K→X.calm=true→∀(i:Nat) (pins:Lo) (s:Shared) (σ:St) (H:Hp) (E:Vs),Inv X pins σ H s→(∀b∈fp,FpOk X pins H b)→tn i s.heap→J.stop i H→
  wpAny (model P w) X.A (pyNext (.ref it)) (fun r s1=>r=none∧Inv X pins σ H s1) E s
 self:∀(A:Around) (i:Nat) (s:Shared) (Q:Vs) (E:Vs),tn i s.heap→Q (.ref it) s→wpAny (model P w) A (pyIter (.ref it)) Q E s
noncomputable abbrev TI:=St→Hp→(It→Hp→Prop)→Prop
def PIE (X:Cx) (pins:Lo) (σ:St) (tg:Expr) (R:It→Hp→Prop) (itv:Value) (s2:Shared):Prop:=
 ∃(it:Addr) (fp:List Addr) (tn:Nat→Heap→Prop) (J:It) (H':Hp),itv=.ref it∧Inv X pins σ H' s2∧Turn X.prog X.w X.K tg J fp it tn∧tn 0 s2.heap∧(∀b∈fp,FpOk X pins H' b)∧R J H'
def PI (X:Cx) (tg iter:Expr) (wi:TI):Prop:=
 ∀(pins:Lo) (s:Shared) (σ:St) (H:Hp) (R:It→Hp→Prop),Inv X pins σ H s→wi σ H R→
  wpAny (model X.prog X.w) X.A (eval iter X.env) (fun v s1=>wpAny (model X.prog X.w) X.A (pyIter v) (PIE X pins σ tg R) X.xe s1) X.xe s
theorem go_of {M:Model}{A:Around}{E:Vs}{s:Shared}{tg:Expr}{it:Addr}{u:Value}{o:Obj}{n:String}{vs:Array Value}{Q:Unit→Shared→Prop}(ho:s.heap.get? it=some o) (hc:o.cls=.type n) (hd:o.data=.fields vs)
  (hn:["enumerate", "zip", "dict_itemiterator", "dict_reverseitemiterator", "odict_iterator", "itertools.zip_longest", "itertools.pairwise"].contains n=false) (hQ:Q () s):wpAny M A (letOwnedTupleGo tg (.ref it) u) Q E s:=by
 unfold letOwnedTupleGo
 cases tg<;>first
  | exact wpAny_pure hQ
  | (cases u<;>first
    | exact wpAny_pure hQ
    | (refine wpAny_bind (wpAny_load ho ?_)
       rw[hc,hd]
       show wpAny M A (if (["enumerate", "zip", "dict_itemiterator", "dict_reverseitemiterator", "odict_iterator", "itertools.zip_longest", "itertools.pairwise"].contains n&&vs[0]? == some (rawInt _))=true then _ else _) Q E s
       rw[if_neg (by intro h;rw[hn,Bool.false_and]at h;cases h)]
       exact wpAny_pure hQ))
noncomputable def Itl (K:Wf) (a:Addr):It:=
 ⟨fun i H=>∃xs x,SqL K H a xs∧xs[i]?=some x,fun i H x H'=>H'=H∧∀xs,SqL K H a xs→xs[i]?=some x,fun i H=>∃xs,SqL K H a xs∧xs.length≤i⟩
noncomputable def Itt (K:Wf) (a:Addr):It:=
 ⟨fun i H=>∃xs x,SqT K H a xs∧xs[i]?=some x,fun i H x H'=>H'=H∧∀xs,SqT K H a xs→xs[i]?=some x,fun i H=>∃xs,SqT K H a xs∧xs.length≤i⟩
noncomputable def Itr (lo:Int) (n:Nat):It:=⟨fun i _=>i<n,fun i H x H'=>H'=H∧x=.int (lo+i),fun i _=>n≤i⟩
theorem turn_list {P:Program}{w:World}{K:Wf}{tg:Expr}(a it:Addr):Turn P w K tg (Itl K a) [it] it (fun i h=>h.IsListIter it a i) where
 mem:=by simp
 obj:=fun i h st b hb=>by
  have e:b=it:=by simpa using hb
  subst e
  obtain⟨o,e,c,d⟩:=st
  exact⟨o,e,fun v z=>by rw[d]at z;cases z⟩
 keep:=fun i h h' st k=>st.at fun o e=>k it (by simp) o e
 item:=by
  intro X hP hw hK hc i pins s σ H E I hf st hg
  subst hP hw hK
  obtain⟨xs,x,hq,hx⟩:=hg
  obtain⟨its,rv,p,hz⟩:=I.list hq
  obtain⟨u,hu,ru⟩:=rv.get hx
  obtain⟨f0,f1,f2,f3,f4,f5⟩:=hf it (by simp)
  refine wpAny_pyNext_list_item st p.isList (x:=u) (by simpa using hu) fun h' st' sb => ?_
  have I1:Inv X pins σ H { s with heap:=h' }:=I.turned (t':=s.toks) (fun b o hb e=>(sb.2 b hb).trans e) f0 f1 f3 f4 f5
  obtain⟨o,e,c,d⟩:=id st'
  exact⟨u,rfl,go_of (s:={ s with heap:=h' }) e c d (by decide) ⟨x,H,I1,ru,⟨rfl,fun ys hy=>by rw[I.list_inj hy hq];exact hx⟩,st',fun b hb=>(hf b hb).1⟩⟩
 done:=by
  intro X hP hw hK hc i pins s σ H E I hf st hg
  subst hP hw hK
  obtain⟨xs,hq,hx⟩:=hg
  obtain⟨its,rv,p,hz⟩:=I.list hq
  obtain⟨f0,f1,f2,f3,f4,f5⟩:=hf it (by simp)
  have hl:=rv.length
  exact wpAny_pyNext_list_end (I.ok.hd hc) st p.isList (by simp;omega) fun h' eb=>⟨rfl,I.turned (t':=s.toks) (fun b o hb e=>eb b o hb e) f0 f1 f3 f4 f5⟩
 self:=fun _ _ _ _ _ st h=>wpAny_pyIter_listiter st h
theorem turn_tuple {P:Program}{w:World}{K:Wf}{tg:Expr}(a it:Addr):Turn P w K tg (Itt K a) [it] it (fun i h=>h.IsTupleIter it a i) where
 mem:=by simp
 obj:=fun i h st b hb=>by
  have e:b=it:=by simpa using hb
  subst e
  obtain⟨o,e,c,d⟩:=st
  exact⟨o,e,fun v z=>by rw[d]at z;cases z⟩
 keep:=fun i h h' st k=>st.at fun o e=>k it (by simp) o e
 item:=by
  intro X hP hw hK hc i pins s σ H E I hf st hg
  subst hP hw hK
  obtain⟨xs,x,hq,hx⟩:=hg
  obtain⟨its,rv,p,hz⟩:=I.tuple hq
  obtain⟨u,hu,ru⟩:=rv.get hx
  obtain⟨f0,f1,f2,f3,f4,f5⟩:=hf it (by simp)
  refine wpAny_pyNext_tuple_item st (show s.heap.IsTuple a its.toArray from p) (x:=u) (by simpa using hu) fun h' st' sb => ?_
  have I1:Inv X pins σ H { s with heap:=h' }:=I.turned (t':=s.toks) (fun b o hb e=>(sb.2 b hb).trans e) f0 f1 f3 f4 f5
  obtain⟨o,e,c,d⟩:=id st'
  exact⟨u,rfl,go_of (s:={ s with heap:=h' }) e c d (by decide) ⟨x,H,I1,ru,⟨rfl,fun ys hy=>by rw[I.tuple_inj hy hq];exact hx⟩,st',fun b hb=>(hf b hb).1⟩⟩
 done:=by
  intro X hP hw hK hc i pins s σ H E I hf st hg
  subst hP hw hK
  obtain⟨xs,hq,hx⟩:=hg
  obtain⟨its,rv,p,hz⟩:=I.tuple hq
  obtain⟨f0,f1,f2,f3,f4,f5⟩:=hf it (by simp)
  have hl:=rv.length
  exact wpAny_pyNext_tuple_end (I.ok.hd hc) st (show s.heap.IsTuple a its.toArray from p) (by simp;omega) fun h' eb=>⟨rfl,I.turned (t':=s.toks) (fun b o hb e=>eb b o hb e) f0 f1 f3 f4 f5⟩
 self:=fun _ _ _ _ _ st h=>wpAny_pyIter_tupleiter st h
theorem turn_range {P:Program}{w:World}{K:Wf}{tg:Expr}(it:Addr) (lo:Int) (n:Nat):Turn P w K tg (Itr lo n) [it] it (fun i h=>IsRangeIter h it (lo+(i:Nat) * 1) ((n:Int) - (i:Nat)) 1) where
 mem:=by simp
 obj:=fun i h st b hb=>by
  have e:b=it:=by simpa using hb
  subst e
  exact⟨_,st,fun v z=>by
   have z':Data.fields _=Data.cell v:=z
   cases z'⟩
 keep:=fun i h h' st k=>k it (by simp) _ st
 item:=by
  intro X hP hw hK hc i pins s σ H E I hf st hg
  subst hP hw hK
  obtain⟨f0,f1,f2,f3,f4,f5⟩:=hf it (by simp)
  have W:=Walks.range (prog:=X.prog) (w:=X.w) (I.ok.hd hc) it lo 1 n
  refine W.item i s _ _ hg st fun v h' tk hv st' kk => ?_
  obtain⟨t,rfl⟩:=hv
  have I1:Inv X pins σ H { s with heap:=h',toks:=tk }:=I.turned (fun b o hb e=>kk b o (by simpa using hb) e) f0 f1 f3 f4 f5
  refine⟨_,rfl,go_of (s:={ s with heap:=h',toks:=tk }) (n := "range_iterator") st' rfl rfl (by decide) ⟨.int (lo+i),H,I1,⟨t,?_⟩,⟨rfl,rfl⟩,st',fun b hb=>(hf b hb).1⟩⟩
  rw[Int.mul_one]
 done:=by
  intro X hP hw hK hc i pins s σ H E I hf st hg
  subst hP hw hK
  obtain⟨f0,f1,f2,f3,f4,f5⟩:=hf it (by simp)
  exact wpAny_pyNext_range_end (I.ok.hd hc) st (by have:n≤i:=hg;omega) fun h' eb=>⟨rfl,I.turned (t':=s.toks) (fun b o hb e=>eb b o hb e) f0 f1 f3 f4 f5⟩
 self:=fun _ _ _ _ _ st h=>wpAny_pyIter_rangeiter st h
end L2
namespace L2
open PySem PySem.Spec PyProof.Rows
section
variable {X:Cx}{tg:Expr}
def iList (K:Wf) (tl:TE):TI:=fun σ H R=>tl σ H fun x H1=>∃a,x=.ref a∧(∃xs,SqL K H1 a xs)∧R (Itl K a) H1
def iTup (K:Wf) (tl:TE):TI:=fun σ H R=>tl σ H fun x H1=>∃a,x=.ref a∧(∃xs,SqT K H1 a xs)∧R (Itt K a) H1
theorem pi_list {l:Expr}{tl:TE}(hl:PE X l tl):PI X tg l (iList X.K tl):=by
 intro pins s σ H R I h
 refine thn (hl pins s σ H _ I h) fun v s1 ⟨x,H1,I1,r1,q1⟩ => ?_
 obtain⟨a,e,⟨xs,hq⟩,q⟩:=q1
 subst e
 cases r1
 obtain⟨its,rv,p,hz⟩:=I1.list hq
 refine wpAny_pyIter_list p.isList ?_
 refine⟨s1.heap.objs.size,[s1.heap.objs.size],_,_,H1,rfl,I1.kept (t':=s1.toks) fun b o e=>Heap.get?_push_of_some _ e,turn_list a _,⟨_,Heap.get?_push_size _ rfl,rfl,rfl⟩,fun b hb => ?_,q⟩
 have e:b=s1.heap.objs.size:=by simpa using hb
 subst e
 exact I1.fpOk (Nat.le_refl _) (I1.hok.fresh (Nat.le_refl _))
theorem pi_tup {l:Expr}{tl:TE}(hl:PE X l tl):PI X tg l (iTup X.K tl):=by
 intro pins s σ H R I h
 refine thn (hl pins s σ H _ I h) fun v s1 ⟨x,H1,I1,r1,q1⟩ => ?_
 obtain⟨a,e,⟨xs,hq⟩,q⟩:=q1
 subst e
 cases r1
 obtain⟨its,rv,p,hz⟩:=I1.tuple hq
 refine wpAny_pyIter_tuple (show s1.heap.IsTuple a its.toArray from p) ?_
 refine⟨s1.heap.objs.size,[s1.heap.objs.size],_,_,H1,rfl,I1.kept (t':=s1.toks) fun b o e=>Heap.get?_push_of_some _ e,turn_tuple a _,⟨_,Heap.get?_push_size _ rfl,rfl,rfl⟩,fun b hb => ?_,q⟩
 have e:b=s1.heap.objs.size:=by simpa using hb
 subst e
 exact I1.fpOk (Nat.le_refl _) (I1.hok.fresh (Nat.le_refl _))
theorem range_it {pins:Lo}{σ:St}{H:Hp}{s:Shared}{R:It→Hp→Prop}{E:Vs}{lo hi:Int}{t u v:Tok}{tk:Nat}(I:Inv X pins σ H s) (h1 : -(2 ^ 62)≤lo) (h2:lo<2 ^ 62) (h3 : -(2 ^ 62)≤hi) (h4:hi<2 ^ 62)
  (q:R (Itr lo (hi - lo).toNat) H):wpAny (model X.prog X.w) X.A (pyIter (.ref s.heap.objs.size)) (PIE X pins σ tg R) E { s with heap:=s.heap.push { cls:=.type "range", data:=.fields #[.int lo t,.int hi u,.int 1 v] },toks:=tk }:=by
 refine wpAny_pyIter_range (IsRange.new ..) (small_one h1 h2 h3 h4) ?_
 have I1:Inv X pins σ H { s with heap:=s.heap.push { cls:=.type "range", data:=.fields #[.int lo t,.int hi u,.int 1 v] },toks:=tk }:=I.kept fun b o e=>Heap.get?_push_of_some _ e
 refine⟨(s.heap.push { cls:=.type "range", data:=.fields #[.int lo t,.int hi u,.int 1 v] }).objs.size,[(s.heap.push { cls:=.type "range", data:=.fields #[.int lo t,.int hi u,.int 1 v] }).objs.size],_,_,H,rfl,
  I1.kept (t':=tk) fun b o e=>Heap.get?_push_of_some _ e,turn_range _ lo (hi - lo).toNat,?_,fun b hb => ?_,q⟩
 ·have e1:lo+((0:Nat):Int) * 1=lo:=by simp
  have e2:(((hi - lo).toNat:Nat):Int) - ((0:Nat):Int)=Builtin.Range.rangeSize lo hi 1:=by rw[rangeSize_one];split<;>omega
  show IsRangeIter _ _ (lo+((0:Nat):Int) * 1) ((((hi - lo).toNat:Nat):Int) - ((0:Nat):Int)) 1
  rw[e1,e2]
  exact Heap.get?_push_size _ rfl
 ·have e:b=(s.heap.push { cls:=.type "range", data:=.fields #[.int lo t,.int hi u,.int 1 v] }).objs.size:=by simpa using hb
  subst e
  exact I1.fpOk (Nat.le_refl _) (I1.hok.fresh (Nat.le_refl _))
def iRng1 (ta:TA):TI:=fun σ H R=>ta σ H fun vs H1=>∃j:Int,vs=[.int j] ∧ -(2 ^ 62)≤j∧j<2 ^ 62∧R (Itr 0 j.toNat) H1
def iRng2 (ta:TA):TI:=fun σ H R=>ta σ H fun vs H1=>∃i j:Int,vs=[.int i,.int j]∧(-(2 ^ 62)≤i∧i<2 ^ 62 ∧ -(2 ^ 62)≤j∧j<2 ^ 62)∧R (Itr i (j - i).toNat) H1
theorem pi_range1 {a:Expr}{ta:TA}{p pos:Pos}(hg:Gl X "range") (hm:X.mg "range" = none) (ha:PA X [a] ta) (hs:starEach [a] X.env=[(false,eval a X.env)]:=by rfl):PI X tg (.Call (.Name "range" p) [a] [] pos) (iRng1 ta):=by
 intro pins s σ H R I h
 refine Call_ (ld_blt I hg hm boot_range (PyProof.Rows.callWith_type1 (thn (ha pos pins s σ H _ I h) fun us s1 ⟨vs,H1,I1,r1,q1⟩ => ?_) hs rfl))
 obtain⟨j,e,q1,q2,q⟩:=q1
 subst e
 cases r1 with
 | cons r rr=>
  cases rr
  obtain⟨t,rfl⟩:=r
  exact call_range_1 (range_it I1 (by omega) (by omega) q1 q2 (by simpa using q))
def tFor (wi:TI) (g:TG) (tb:TS):TS:=fun D σ H=>wi σ H fun J H1=>∃W:Nat→Nat→St→Hp→Prop,(∃m,W 0 m σ H1)∧∀i m σ H,W i m σ H→
 (J.stop i H∧D.nx σ H)∨(J.go i H∧∃N:St→Hp→Prop,(∀σ' H',N σ' H'→∃m',m'<m∧W (i+1) m' σ' H')∧∀x H',J.yld i H x H'→g x σ H' fun σ2 H2=>tb { D with nx:=N,ct:=N,bk:=D.nx } σ2 H2)
noncomputable def pinsAt (fp:List Addr) (h:Heap):Lo:=fp.filterMap fun b=>(h.get? b).map fun o=>(b,o)
theorem mem_pinsAt {fp:List Addr}{h:Heap}{b:Addr}{o:Obj}(hb:b∈fp) (e:h.get? b=some o):(b,o)∈pinsAt fp h:=List.mem_filterMap.mpr ⟨b,hb,by rw[e];rfl⟩
theorem of_pinsAt {fp:List Addr}{h:Heap}{p:Addr×Obj}(hp:p∈pinsAt fp h):p.1∈fp∧h.get? p.1=some p.2:=by
 obtain⟨b,hb,e⟩:=List.mem_filterMap.mp hp
 cases q:h.get? b with
 | none=>rw[q]at e;cases e
 | some o=>
  rw[q]at e
  have e':(b,o)=p:=Option.some.inj e
  subst e'
  exact⟨hb,q⟩
theorem Inv.pinned {pins:Lo}{σ:St}{H:Hp}{s:Shared}{fp:List Addr}(I:Inv X pins σ H s) (hf:∀b∈fp,FpOk X pins H b) (ho:∀b∈fp,∃o,s.heap.get? b=some o∧∀v,o.data≠.cell v):Inv X (pins++pinsAt fp s.heap) σ H s:=
 I.pins_of fun p hp=>(List.mem_append.mp hp).elim (fun z=>I.pin p (List.mem_append_right _ z)) fun z=>by
  obtain⟨hb,e⟩:=of_pinsAt z
  obtain⟨f0,f1,f2,_⟩:=hf p.1 hb
  obtain⟨o,e',d⟩:=ho p.1 hb
  rw[e]at e';cases e'
  exact⟨e,f0,f1,f2,d⟩
theorem Inv.unpinned {pins pl:Lo}{σ:St}{H:Hp}{s:Shared}(I:Inv X (pins++pl) σ H s):Inv X pins σ H s:=I.pins_of fun p hp=>I.pin p (List.mem_append_right _ (List.mem_append_left _ hp))
theorem ps_for {iter:Expr}{body:List Stmt}{wi:TI}{g:TG}{tb:TS}{pos:Pos}(hp:PassesOwn (model X.prog X.w) X.A X.env X.xe) (hc:X.calm=true) (hi:PI X tg iter wi) (hg:PG X tg g) (hb:PSs X body tb)
  (hs:∀x,foldedSetIterable iter X.env x=pure x:=by intro _;rfl):PS X (.For tg iter body [] pos) (tFor wi g tb):=by
 intro pins s σ H D I h
 refine wpAny_For (thn (hi pins s σ H _ I h) fun v s1 h1=>thn h1 fun itv s2 h2 => ?_) hs
 obtain⟨it,fp,tn,J,H2,e,I2,T,st2,f2,W,⟨m0,w0⟩,turn⟩:=h2
 subst e
 have stat:∀{H':Hp},(∀b∈fp,H' b=none)→∀b∈fp,FpOk X pins H' b:=fun hn b hb=>⟨hn b hb,(f2 b hb).2⟩
 refine codeAny_forLoop_any (fun n s'=>∃i σ' H',Inv X pins σ' H' s'∧tn i s'.heap∧(∀b∈fp,H' b=none)∧W i n σ' H') ?_ m0 ⟨0,σ,H2,I2,st2,fun b hb=>(f2 b hb).1,w0⟩
 rintro n s3 ⟨i,σ3,H3,I3,st3,fr3,w3⟩
 rcases turn i n σ3 H3 w3 with ⟨stop,qn⟩ | ⟨go,N,hN,step⟩
 ·refine wpAny_passesOwn hp (thn (T.done X rfl rfl rfl hc i pins s3 σ3 H3 X.xe I3 (stat fr3) st3 stop) fun r s4 ⟨hr,I4⟩ => ?_)
  subst hr
  exact wpAny_execs_nil ⟨σ3,H3,I4,qn⟩
 ·refine wpAny_passesOwn hp (thn (T.item X rfl rfl rfl hc i pins s3 σ3 H3 X.xe I3 (stat fr3) st3 go) fun r s4 ⟨u,hr,h4⟩ => ?_)
  subst hr
  refine wpAny_passesOwn hp (thn h4 fun _ s5 ⟨x,H5,I5,r5,y5,st5,fr5⟩ => ?_)
  have I5':=I5.pinned (stat fr5) (T.obj _ _ st5)
  refine wpAny_passesOwn hp (thn (hg _ s5 σ3 H5 x u _ I5' r5 (step x H5 y5)) fun _ s6 ⟨σ6,H6,I6,q6⟩ => ?_)
  refine wpAny_passesOwn hp (thn (hb _ s6 σ6 H6 _ I6 q6) fun f s7 q7 => ?_)
  have again:∀{σ7:St}{H7:Hp},Inv X (pins++pinsAt fp s5.heap) σ7 H7 s7→N σ7 H7→∃m,m<n∧∃i σ' H',Inv X pins σ' H' s7∧tn i s7.heap∧(∀b∈fp,H' b=none)∧W i m σ' H':=fun {σ7 H7} I7 n7=>by
   obtain⟨m',hm,w7⟩:=hN σ7 H7 n7
   refine⟨m',hm,i+1,σ7,H7,I7.unpinned,T.keep _ _ _ st5 fun b hb o e=>(I7.pin (b,o) (List.mem_append_right _ (List.mem_append_right _ (mem_pinsAt hb e)))).1,fun b hb => ?_,w7⟩
   obtain⟨o,e,d⟩:=T.obj _ _ st5 b hb
   exact (I7.pin (b,o) (List.mem_append_right _ (List.mem_append_right _ (mem_pinsAt hb e)))).2.1
  cases f with
  | next=>obtain⟨σ7,H7,I7,n7⟩:=q7;exact again I7 n7
  | cont=>obtain⟨σ7,H7,I7,n7⟩:=q7;exact again I7 n7
  | brk=>obtain⟨σ7,H7,I7,q7⟩:=q7;exact⟨σ7,H7,I7.unpinned,q7⟩
  | ret v=>obtain⟨x7,σ7,H7,I7,r7,q7⟩:=q7;exact⟨x7,σ7,H7,I7.unpinned,r7,q7⟩
end
theorem for_list {K:Wf}{a:Addr}{xs:List V}{g:TG}{tb:TS}{D:Ends}{σ:St}{H:Hp}(Pv:Nat→St→Hp→Prop) (h0:Pv 0 σ H) (hl:∀i σ H,i≤xs.length→Pv i σ H→SqL K H a xs)
  (hs:∀i x σ H,xs[i]?=some x→Pv i σ H→g x σ H fun σ2 H2=>tb { D with nx:=Pv (i+1),ct:=Pv (i+1),bk:=D.nx } σ2 H2) (hd:∀σ H,Pv xs.length σ H→D.nx σ H):
  ∃W:Nat→Nat→St→Hp→Prop,(∃m,W 0 m σ H)∧∀i m σ H,W i m σ H→
   ((Itl K a).stop i H∧D.nx σ H)∨((Itl K a).go i H∧∃N:St→Hp→Prop,(∀σ' H',N σ' H'→∃m',m'<m∧W (i+1) m' σ' H')∧∀x H',(Itl K a).yld i H x H'→g x σ H' fun σ2 H2=>tb { D with nx:=N,ct:=N,bk:=D.nx } σ2 H2):=by
 refine⟨fun i m σ H=>m=xs.length - i∧i≤xs.length∧Pv i σ H,⟨xs.length,by simp,Nat.zero_le _,h0⟩,?_⟩
 rintro i m σ H ⟨rfl,hi,p⟩
 have q:=hl i σ H hi p
 by_cases hlt:i<xs.length
 ·refine .inr ⟨⟨xs,xs[i],q,by simp[hlt]⟩,Pv (i+1),fun σ' H' p'=>⟨xs.length - (i+1),by omega,rfl,hlt,p'⟩,fun x H' y => ?_⟩
  obtain⟨e,y⟩:=y
  subst e
  exact hs i x σ _ (y xs q) p
 ·have e:i=xs.length:=by omega
  subst e
  exact .inl ⟨⟨xs,q,Nat.le_refl _⟩,hd σ H p⟩
theorem for_tup {K:Wf}{a:Addr}{xs:List V}{g:TG}{tb:TS}{D:Ends}{σ:St}{H:Hp}(Pv:Nat→St→Hp→Prop) (h0:Pv 0 σ H) (hl:∀i σ H,i≤xs.length→Pv i σ H→SqT K H a xs)
  (hs:∀i x σ H,xs[i]?=some x→Pv i σ H→g x σ H fun σ2 H2=>tb { D with nx:=Pv (i+1),ct:=Pv (i+1),bk:=D.nx } σ2 H2) (hd:∀σ H,Pv xs.length σ H→D.nx σ H):
  ∃W:Nat→Nat→St→Hp→Prop,(∃m,W 0 m σ H)∧∀i m σ H,W i m σ H→
   ((Itt K a).stop i H∧D.nx σ H)∨((Itt K a).go i H∧∃N:St→Hp→Prop,(∀σ' H',N σ' H'→∃m',m'<m∧W (i+1) m' σ' H')∧∀x H',(Itt K a).yld i H x H'→g x σ H' fun σ2 H2=>tb { D with nx:=N,ct:=N,bk:=D.nx } σ2 H2):=by
 refine⟨fun i m σ H=>m=xs.length - i∧i≤xs.length∧Pv i σ H,⟨xs.length,by simp,Nat.zero_le _,h0⟩,?_⟩
 rintro i m σ H ⟨rfl,hi,p⟩
 have q:=hl i σ H hi p
 by_cases hlt:i<xs.length
 ·refine .inr ⟨⟨xs,xs[i],q,by simp[hlt]⟩,Pv (i+1),fun σ' H' p'=>⟨xs.length - (i+1),by omega,rfl,hlt,p'⟩,fun x H' y => ?_⟩
  obtain⟨e,y⟩:=y
  subst e
  exact hs i x σ _ (y xs q) p
 ·have e:i=xs.length:=by omega
  subst e
  exact .inl ⟨⟨xs,q,Nat.le_refl _⟩,hd σ H p⟩
theorem for_range {lo:Int}{n:Nat}{g:TG}{tb:TS}{D:Ends}{σ:St}{H:Hp}(Pv:Nat→St→Hp→Prop) (h0:Pv 0 σ H)
  (hs:∀i σ H,i<n→Pv i σ H→g (.int (lo+i)) σ H fun σ2 H2=>tb { D with nx:=Pv (i+1),ct:=Pv (i+1),bk:=D.nx } σ2 H2) (hd:∀σ H,Pv n σ H→D.nx σ H):
  ∃W:Nat→Nat→St→Hp→Prop,(∃m,W 0 m σ H)∧∀i m σ H,W i m σ H→
   ((Itr lo n).stop i H∧D.nx σ H)∨((Itr lo n).go i H∧∃N:St→Hp→Prop,(∀σ' H',N σ' H'→∃m',m'<m∧W (i+1) m' σ' H')∧∀x H',(Itr lo n).yld i H x H'→g x σ H' fun σ2 H2=>tb { D with nx:=N,ct:=N,bk:=D.nx } σ2 H2):=by
 refine⟨fun i m σ H=>m=n - i∧i≤n∧Pv i σ H,⟨n,by simp,Nat.zero_le _,h0⟩,?_⟩
 rintro i m σ H ⟨rfl,hi,p⟩
 by_cases hlt:i<n
 ·refine .inr ⟨hlt,Pv (i+1),fun σ' H' p'=>⟨n - (i+1),by omega,rfl,hlt,p'⟩,fun x H' y => ?_⟩
  obtain⟨e,y⟩:=y
  subst e y
  exact hs i σ _ hlt p
 ·have e:i=n:=by omega
  subst e
  exact .inl ⟨Nat.le_refl _,hd σ H p⟩
end L2
namespace L2
open PySem PySem.Spec PyProof.Rows
noncomputable abbrev R2:=V→V→Hp→VK→Prop
def OpR (X:Cx) (f:Value→Value→Sem Value) (r:R2):Prop:=
 ∀(pins:Lo) (s:Shared) (σ:St) (H:Hp) (x y:V) (v u:Value) (Q:VK),Inv X pins σ H s→RelV x v→RelV y u→r x y H Q→
  wpAny (model X.prog X.w) X.A (f v u) (EP X pins σ Q) X.xe s
def UnR (X:Cx) (f:Value→Sem Value) (r:V→Hp→VK→Prop):Prop:=
 ∀(pins:Lo) (s:Shared) (σ:St) (H:Hp) (x:V) (v:Value) (Q:VK),Inv X pins σ H s→RelV x v→r x H Q→
  wpAny (model X.prog X.w) X.A (f v) (EP X pins σ Q) X.xe s
def CallR (X:Cx) (f:Value) (r:List V→Hp→VK→Prop):Prop:=
 ∀(pins:Lo) (s:Shared) (σ:St) (H:Hp) (xs:List V) (us:List Value) (Q:VK),Inv X pins σ H s→Vals xs us→r xs H Q→
  wpAny (model X.prog X.w) X.A (call f us) (EP X pins σ Q) X.xe s
def TruR (X:Cx) (r:V→Hp→(Bool→Hp→Prop)→Prop):Prop:=
 ∀(pins:Lo) (s:Shared) (σ:St) (H:Hp) (x:V) (v:Value) (Q:Bool→Hp→Prop),Inv X pins σ H s→RelV x v→r x H Q→
  wpAny (model X.prog X.w) X.A (truthy v) (TP X pins σ Q) X.xe s
def tOp (r:R2) (ta tb:TE):TE:=fun σ H Q=>ta σ H fun x H1=>tb σ H1 fun y H2=>r x y H2 Q
def tUn (r:V→Hp→VK→Prop) (ta:TE):TE:=fun σ H Q=>ta σ H fun x H1=>r x H1 Q
def rI (C:Int→Int→Prop) (g:Int→Int→V):R2:=fun x y H Q=>∃i j,x=.int i∧y=.int j∧C i j∧Q (g i j) H
def rI0 (g:Int→Int→V):R2:=fun x y H Q=>∃i j,x=.int i∧y=.int j∧Q (g i j) H
noncomputable def rU (g:Int→V):V→Hp→VK→Prop:=fun x H Q=>∃i,x=.int i∧Q (g i) H
section
variable {X:Cx}{a b c:Expr}{ta tb tc:TE}{pos:Pos}
theorem binT (ha:PE X a ta) (hb:PE X b tb) {pins:Lo}{s:Shared}{σ:St}{H:Hp}{R:V→V→Hp→Prop}(I:Inv X pins σ H s)
  (h:ta σ H fun x H1=>tb σ H1 fun y H2=>R x y H2) {Q:Vs}{f:Value→Value→Sem Value}
  (hf:∀v u s2 x y H2,Inv X pins σ H2 s2→RelV x v→RelV y u→R x y H2→wpAny (model X.prog X.w) X.A (f v u) Q X.xe s2):
  wpAny (model X.prog X.w) X.A (eval a X.env) (fun v s₁=>wpAny (model X.prog X.w) X.A (eval b X.env) (fun u s₂=>wpAny (model X.prog X.w) X.A (f v u) Q X.xe s₂) X.xe s₁) X.xe s:=by
 refine thn (ha pins s σ H _ I h) fun v s1 ⟨x,H1,I1,r1,q1⟩ => ?_
 refine thn (hb pins s1 σ H1 _ I1 q1) fun u s2 ⟨y,H2,I2,r2,q2⟩ => ?_
 exact hf v u s2 x y H2 I2 r1 r2 q2
theorem pe_op {op:Operator}{r:R2}(ho:OpR X (binaryOp op) r) (ha:PE X a ta) (hb:PE X b tb):PE X (.BinOp a op b pos) (tOp r ta tb):=by
 intro pins s σ H Q I h
 exact wpAny_BinOp (binT ha hb I h fun v u s2 x y H2 I2 rx ry q=>ho pins s2 σ H2 x y v u Q I2 rx ry q)
theorem pe_un {op:UnaryOp}{r:V→Hp→VK→Prop}(ho:UnR X (unaryOp op) r) (ha:PE X a ta):PE X (.UnaryOp op a pos) (tUn r ta):=by
 intro pins s σ H Q I h
 exact UnaryOp_ (thn (ha pins s σ H _ I h) fun v s1 ⟨x,H1,I1,r1,q1⟩=>ho pins s1 σ H1 x v Q I1 r1 q1)
theorem opI {f:Value→Value→Sem Value}{C:Int→Int→Prop}{g:Int→Int→Int}
  (rule:∀(i j:Int) (t u:Tok) (s:Shared) (Q:Vs) (E:Vs),C i j→Q (.int (g i j) s.toks) { s with toks:=s.toks+1 }→wpAny (model X.prog X.w) X.A (f (.int i t) (.int j u)) Q E s):
  OpR X f (rI C fun i j=>.int (g i j)):=by
 intro pins s σ H x y v u Q I rx ry h
 obtain⟨i,j,rfl,rfl,hc,q⟩:=h
 obtain⟨t,rfl⟩:=rx
 obtain⟨t',rfl⟩:=ry
 exact rule i j t t' s _ _ hc ⟨.int (g i j),H,I.tok _,⟨_,rfl⟩,q⟩
theorem opI0 {f:Value→Value→Sem Value}{g:Int→Int→Int}
  (rule:∀(i j:Int) (t u:Tok) (s:Shared) (Q:Vs) (E:Vs),Q (.int (g i j) s.toks) { s with toks:=s.toks+1 }→wpAny (model X.prog X.w) X.A (f (.int i t) (.int j u)) Q E s):
  OpR X f (rI0 fun i j=>.int (g i j)):=by
 intro pins s σ H x y v u Q I rx ry h
 obtain⟨i,j,rfl,rfl,q⟩:=h
 obtain⟨t,rfl⟩:=rx
 obtain⟨t',rfl⟩:=ry
 exact rule i j t t' s _ _ ⟨.int (g i j),H,I.tok _,⟨_,rfl⟩,q⟩
theorem opB0 {f:Value→Value→Sem Value}{g:Int→Int→Bool}
  (rule:∀(i j:Int) (t u:Tok) (s:Shared) (Q:Vs) (E:Vs),Q (.bool (g i j)) s→wpAny (model X.prog X.w) X.A (f (.int i t) (.int j u)) Q E s):
  OpR X f (rI0 fun i j=>.bl (g i j)):=by
 intro pins s σ H x y v u Q I rx ry h
 obtain⟨i,j,rfl,rfl,q⟩:=h
 obtain⟨t,rfl⟩:=rx
 obtain⟨t',rfl⟩:=ry
 exact rule i j t t' s _ _ ⟨.bl (g i j),H,I,rfl,q⟩
def CDiv (i j:Int):Prop:=0<j∧j<1073741824
def CMul (i j:Int):Prop:=(-(2 ^ 64)<i∧i<2 ^ 64)∨(-(2 ^ 64)<j∧j<2 ^ 64)
theorem CMul.ok {i j:Int}(h:CMul i j):IntMulOk i j:=by
 rcases h with ⟨h1,h2⟩ | ⟨h1,h2⟩
 ·exact .of_left (intBits_le_64 h1 h2)
 ·exact .of_right (intBits_le_64 h1 h2)
theorem op_add:OpR X (binaryOp .Add) (rI0 fun i j=>.int (i+j)):=opI0 fun _ _ _ _ _ _ _ q=>add_int q
theorem op_sub:OpR X (binaryOp .Sub) (rI0 fun i j=>.int (i - j)):=opI0 fun _ _ _ _ _ _ _ q=>sub_int q
theorem op_mul:OpR X (binaryOp .Mult) (rI CMul fun i j=>.int (i * j)):=opI fun _ _ _ _ _ _ _ hc q=>mul_int q hc.ok
theorem op_fdiv:OpR X (binaryOp .FloorDiv) (rI CDiv fun i j=>.int (i / j)):=opI fun i j _ _ _ _ _ hc q=>by
 have h1:(0:Int)<j:=hc.1
 have h2:j<1073741824:=hc.2
 exact floordiv_int (by omega) (by rw[Int.fdiv_eq_ediv_of_nonneg i (by omega)];exact q) (.inl (PyProof.noPylong_small (by omega)))
theorem op_mod:OpR X (binaryOp .Mod) (rI (fun _ j=>0<j) fun i j=>.int (i % j)):=opI fun i j _ _ _ _ _ hc q=>by
 have h1:(0:Int)<j:=hc
 exact mod_int' (by omega) (by rw[Int.fmod_eq_emod_of_nonneg i (by omega)];exact q)
theorem unI {f:Value→Sem Value}{g:Int→Int}
  (rule:∀(i:Int) (t:Tok) (s:Shared) (Q:Vs) (E:Vs),Q (.int (g i) s.toks) { s with toks:=s.toks+1 }→wpAny (model X.prog X.w) X.A (f (.int i t)) Q E s):
  UnR X f (rU fun i=>.int (g i)):=by
 intro pins s σ H x v Q I rx h
 obtain⟨i,rfl,q⟩:=h
 obtain⟨t,rfl⟩:=rx
 exact rule i t s _ _ ⟨.int (g i),H,I.tok _,⟨_,rfl⟩,q⟩
theorem un_neg:UnR X (unaryOp .USub) (rU fun i=>.int (-i)):=unI fun _ _ _ _ _ q=>neg_int q
end
noncomputable def scal:V→V→Bool
 | .non,.non=>true | .non,.int _=>true | .int _,.non=>true | .non,.bl _=>true | .bl _,.non=>true | .non,.str _=>true | .str _,.non=>true
 | .int _,.int _=>true | .bl _,.bl _=>true | .str _,.str _=>true | .byt _,.byt _=>true
 | .int _,.str _=>true | .str _,.int _=>true | .bl _,.str _=>true | .str _,.bl _=>true
 | _,_=>false
theorem sc0:scal .non .non=true:=rfl
theorem sc1 {i:Int}:scal .non (.int i)=true:=rfl
theorem sc2 {i:Int}:scal (.int i) .non=true:=rfl
theorem sc3 {i:Bool}:scal .non (.bl i)=true:=rfl
theorem sc4 {i:Bool}:scal (.bl i) .non=true:=rfl
theorem sc5 {i:Str}:scal .non (.str i)=true:=rfl
theorem sc6 {i:Str}:scal (.str i) .non=true:=rfl
theorem sc7 {i:Int}{j:Int}:scal (.int i) (.int j)=true:=rfl
theorem sc8 {i:Bool}{j:Bool}:scal (.bl i) (.bl j)=true:=rfl
theorem sc9 {i:Str}{j:Str}:scal (.str i) (.str j)=true:=rfl
theorem sc10 {i:Int}{j:Str}:scal (.int i) (.str j)=true:=rfl
theorem sc11 {i:Str}{j:Int}:scal (.str i) (.int j)=true:=rfl
theorem sc12 {i:Bool}{j:Str}:scal (.bl i) (.str j)=true:=rfl
theorem sc13 {i:Str}{j:Bool}:scal (.str i) (.bl j)=true:=rfl
def rEq:R2:=fun x y H Q=>scal x y=true∧Q (.bl (decide (x=y))) H
def rNe:R2:=fun x y H Q=>scal x y=true∧Q (.bl (!decide (x=y))) H
theorem dec_int {i j:Int}:decide (V.int i=V.int j)=(i == j):=by
 rw[Bool.eq_iff_iff]
 simp
theorem dec_bl {i j:Bool}:decide (V.bl i=V.bl j)=(i == j):=by
 rw[Bool.eq_iff_iff]
 simp
theorem dec_str {i j:Str}:decide (V.str i=V.str j)=(i == j):=by
 rw[Bool.eq_iff_iff]
 simp
theorem dec_byt {i j:Array UInt8}:decide (V.byt i=V.byt j)=(i.toList == j.toList):=by
 rw[Bool.eq_iff_iff]
 cases i
 cases j
 simp
section
variable {X:Cx}{a b c:Expr}{ta tb tc:TE}{pos:Pos}
theorem fin_bl {pins:Lo}{σ:St}{H:Hp}{s:Shared}{Q:VK}{k k':Bool}(I:Inv X pins σ H s) (q:Q (.bl k) H) (e:k=k'):EP X pins σ Q (.bool k') s:=by
 subst e
 exact⟨.bl k,H,I,rfl,q⟩
theorem op_eq:OpR X (compareOp .Eq) rEq:=by
 intro pins s σ H x y v u Q I rx ry h
 obtain⟨hs,q⟩:=h
 cases x with
 | non=>
  cases rx
  cases y with
  | non=>cases ry;exact PySem.EqNone.eq_none_none (fin_bl I q (by simp))
  | bl j=>cases ry;exact PySem.EqNone.eq_none_bool (fin_bl I q (by simp))
  | int j=>obtain⟨t',rfl⟩:=ry;exact PySem.EqNone.eq_none_int (fin_bl I q (by simp))
  | str j=>obtain⟨t',rfl⟩:=ry;exact PySem.EqNone.eq_none_str (fin_bl I q (by simp))
  | _=>exact absurd (show false=true from hs) Bool.false_ne_true
 | bl i=>
  cases rx
  cases y with
  | non=>cases ry;exact PySem.EqNone.eq_bool_none (fin_bl I q (by simp))
  | bl j=>cases ry;exact eq_bool (fin_bl I q dec_bl)
  | str j=>obtain⟨t',rfl⟩:=ry;exact PySem.EqMixed.eq_bool_str (fin_bl I q (by simp))
  | _=>exact absurd (show false=true from hs) Bool.false_ne_true
 | int i=>
  obtain⟨t,rfl⟩:=rx
  cases y with
  | non=>cases ry;exact PySem.EqNone.eq_int_none (fin_bl I q (by simp))
  | int j=>obtain⟨t',rfl⟩:=ry;exact eq_int (fin_bl I q dec_int)
  | str j=>obtain⟨t',rfl⟩:=ry;exact PySem.EqMixed.eq_int_str (fin_bl I q (by simp))
  | _=>exact absurd (show false=true from hs) Bool.false_ne_true
 | str i=>
  obtain⟨t,rfl⟩:=rx
  cases y with
  | non=>cases ry;exact PySem.EqNone.eq_str_none (fin_bl I q (by simp))
  | bl j=>cases ry;exact PySem.EqMixed.eq_str_bool (fin_bl I q (by simp))
  | int j=>obtain⟨t',rfl⟩:=ry;exact PySem.EqMixed.eq_str_int (fin_bl I q (by simp))
  | str j=>obtain⟨t',rfl⟩:=ry;exact eq_str (fin_bl I q dec_str)
  | _=>exact absurd (show false=true from hs) Bool.false_ne_true
 | byt i=>
  obtain⟨t,rfl⟩:=rx
  cases y with
  | byt j=>obtain⟨t',rfl⟩:=ry;exact PySem.W.eq_bytes (fin_bl I q dec_byt)
  | _=>exact absurd (show false=true from hs) Bool.false_ne_true
 | _=>cases y<;>exact absurd (show false=true from hs) Bool.false_ne_true
theorem op_ne:OpR X (compareOp .NotEq) rNe:=by
 intro pins s σ H x y v u Q I rx ry h
 obtain⟨hs,q⟩:=h
 cases x with
 | non=>
  cases rx
  cases y with
  | non=>cases ry;exact PySem.EqNone.ne_none_none (fin_bl I q (by simp))
  | bl j=>cases ry;exact PySem.EqNone.ne_none_bool (fin_bl I q (by simp))
  | int j=>obtain⟨t',rfl⟩:=ry;exact PySem.EqNone.ne_none_int (fin_bl I q (by simp))
  | str j=>obtain⟨t',rfl⟩:=ry;exact PySem.EqNone.ne_none_str (fin_bl I q (by simp))
  | _=>exact absurd (show false=true from hs) Bool.false_ne_true
 | bl i=>
  cases rx
  cases y with
  | non=>cases ry;exact PySem.EqNone.ne_bool_none (fin_bl I q (by simp))
  | bl j=>cases ry;exact ne_bool (fin_bl I q (congrArg not dec_bl))
  | str j=>obtain⟨t',rfl⟩:=ry;exact PySem.EqMixed.ne_bool_str (fin_bl I q (by simp))
  | _=>exact absurd (show false=true from hs) Bool.false_ne_true
 | int i=>
  obtain⟨t,rfl⟩:=rx
  cases y with
  | non=>cases ry;exact PySem.EqNone.ne_int_none (fin_bl I q (by simp))
  | int j=>obtain⟨t',rfl⟩:=ry;exact ne_int (fin_bl I q (congrArg not dec_int))
  | str j=>obtain⟨t',rfl⟩:=ry;exact PySem.EqMixed.ne_int_str (fin_bl I q (by simp))
  | _=>exact absurd (show false=true from hs) Bool.false_ne_true
 | str i=>
  obtain⟨t,rfl⟩:=rx
  cases y with
  | non=>cases ry;exact PySem.EqNone.ne_str_none (fin_bl I q (by simp))
  | bl j=>cases ry;exact PySem.EqMixed.ne_str_bool (fin_bl I q (by simp))
  | int j=>obtain⟨t',rfl⟩:=ry;exact PySem.EqMixed.ne_str_int (fin_bl I q (by simp))
  | str j=>obtain⟨t',rfl⟩:=ry;exact ne_str (fin_bl I q (congrArg not dec_str))
  | _=>exact absurd (show false=true from hs) Bool.false_ne_true
 | byt i=>
  obtain⟨t,rfl⟩:=rx
  cases y with
  | byt j=>obtain⟨t',rfl⟩:=ry;exact PySem.W.ne_bytes (fin_bl I q (congrArg not dec_byt))
  | _=>exact absurd (show false=true from hs) Bool.false_ne_true
 | _=>cases y<;>exact absurd (show false=true from hs) Bool.false_ne_true
theorem op_lt:OpR X (compareOp .Lt) (rI0 fun i j=>.bl (decide (i<j))):=opB0 fun _ _ _ _ _ _ _ q=>lt_int q
theorem op_gt:OpR X (compareOp .Gt) (rI0 fun i j=>.bl (decide (j<i))):=opB0 fun _ _ _ _ _ _ _ q=>gt_int q
theorem op_isN:OpR X (compareOp .Is) (fun x y H Q=>y=.non∧Q (.bl (decide (x=.non))) H):=by
 intro pins s σ H x y v u Q I rx ry h
 obtain⟨rfl,q⟩:=h
 cases ry
 refine is_none_gen (fin_bl I q ?_)
 cases x<;>first
  | (cases rx;rfl)
  | (obtain⟨t,rfl⟩:=rx;rfl)
theorem op_notN:OpR X (compareOp .IsNot) (fun x y H Q=>y=.non∧Q (.bl (!decide (x=.non))) H):=by
 intro pins s σ H x y v u Q I rx ry h
 obtain⟨rfl,q⟩:=h
 cases ry
 refine isnot_none_gen (fin_bl I q ?_)
 cases x<;>first
  | (cases rx;rfl)
  | (obtain⟨t,rfl⟩:=rx;rfl)
theorem nomark (b:Expr) {op:CmpOp}(h:op≠.In:=by decide) (h2:op≠.NotIn:=by decide):behindInMarks op b=false:=by
 have e1:(op == CmpOp.In)=false:=by cases op<;>first | rfl | exact absurd rfl h
 have e2:(op == CmpOp.NotIn)=false:=by cases op<;>first | rfl | exact absurd rfl h2
 cases b<;>simp[behindInMarks,e1,e2]
theorem pe_cmpR {op:CmpOp}{r:R2}(ho:OpR X (compareOp op) r) (ha:PE X a ta) (hb:PE X b tb) (hm:behindInMarks op b=false):PE X (.Compare a [op] [b] pos) (tOp r ta tb):=by
 intro pins s σ H Q I h
 exact wpAny_Compare1 (binT ha hb I h fun v u s2 x y H2 I2 rx ry q=>ho pins s2 σ H2 x y v u Q I2 rx ry q) hm
def tTest (t:TE):TT:=fun σ H Q=>t σ H fun x H'=>∃k,x=.bl k∧Q k H'
theorem zz11 {op:CmpOp}{r:R2}(ho:OpR X (compareOp op) r) (ha:PE X a ta) (hb:PE X b tb) (hm:behindInMarks op b=false):PT X (.Compare a [op] [b] pos) (tTest (tOp r ta tb)):=by
 intro pins s σ H Q I h
 refine wpAny_isTrue_Compare1 (thn (ha pins s σ H _ I h) fun v s1 ⟨x,H1,I1,r1,q1⟩=>thn (hb pins s1 σ H1 _ I1 q1) fun u s2 ⟨y,H2,I2,r2,q2⟩=>
  thn (ho pins s2 σ H2 x y v u _ I2 r1 r2 q2) fun c s3 ⟨z,H3,I3,r3,k,e,q3⟩ => ?_) hm
 subst e
 cases r3
 exact wpAny_truthy_bool ⟨H3,I3,q3⟩
def tChain (r r':R2) (ta tb tc:TE):TE:=fun σ H Q=>ta σ H fun x H1=>tb σ H1 fun y H2=>r x y H2 fun z H3=>∃k,z=.bl k∧
 (if k=true then tc σ H3 fun w' H4=>r' y w' H4 Q else Q (.bl false) H3)
def TruV (K:Wf) (x:V) (H:Hp) (k:Bool):Prop:=
 match x with
 | .non=>k=false
 | .bl b=>k=b
 | .int i=>k=(i != 0)
 | .str y=>y.length≤sizeLine∧k=((y.length:Int) != 0)
 | .byt y=>y.size≤sizeLine∧k=((y.size:Int) != 0)
 | .ref p=>(∃xs,SqL K H p xs∧k = !xs.isEmpty)∨(∃xs,SqT K H p xs∧k = !xs.isEmpty)∨∃kvs,H p=some (.dK kvs)∧k = !kvs.isEmpty
 | _=>False
theorem isEmpty_kv {κ:Type}{kvs:List (κ×V)}{vs:List (κ×Value)}(r:KV kvs vs):(!vs.isEmpty) = !kvs.isEmpty:=by
 cases r<;>rfl
theorem isEmpty_of {xs:List V}{its:List Value}(r:Vals xs its):(!its.toArray.isEmpty) = !xs.isEmpty:=by
 cases r<;>simp
theorem line63:(sizeLine:Nat)<2 ^ 63:=by rw[sizeLine_eq];decide
theorem tru_ok:TruR X (fun x H Q=>∃k,TruV X.K x H k∧Q k H):=by
 intro pins s σ H x v Q I rx h
 obtain⟨k,e,q⟩:=h
 have hl:=line63
 have hs:sizeLine=16777216:=sizeLine_eq
 cases x with
 | non=>
  cases rx
  have e':k=false:=e
  subst e'
  exact truthy_none ⟨H,I,q⟩
 | bl b=>
  cases rx
  have e':k=b:=e
  subst e'
  exact wpAny_truthy_bool ⟨H,I,q⟩
 | int i=>
  obtain⟨t,rfl⟩:=rx
  have e':k=(i != 0):=e
  subst e'
  exact PySem.P.truthy_int ⟨H,I,q⟩
 | str y=>
  obtain⟨t,rfl⟩:=rx
  obtain⟨hy,e'⟩:y.length≤sizeLine∧k=((y.length:Int) != 0):=e
  subst e'
  exact PySem.P.truthy_str (by omega) ⟨H,I.tok _,q⟩
 | byt y=>
  obtain⟨t,rfl⟩:=rx
  obtain⟨hy,e'⟩:y.size≤sizeLine∧k=((y.size:Int) != 0):=e
  subst e'
  exact PySem.W.truthy_bytes (by omega) ⟨H,I.tok _,q⟩
 | ref p=>
  cases rx
  have e':(∃xs,SqL X.K H p xs∧k = !xs.isEmpty)∨(∃xs,SqT X.K H p xs∧k = !xs.isEmpty)∨∃kvs,H p=some (.dK kvs)∧k = !kvs.isEmpty:=e
  rcases e' with ⟨xs,hx,e'⟩ | ⟨xs,hx,e'⟩ | ⟨kvs,hx,e'⟩
  ·subst e'
   obtain⟨its,r,pl,hz⟩:=I.list hx
   have hlen:=r.length
   exact wpAny_truthy_list pl.isList (by simp only[List.size_toArray];omega) ⟨H,I.tok _,by rw[isEmpty_of r];exact q⟩
  ·subst e'
   obtain⟨its,r,pl,hz⟩:=I.tuple hx
   have hlen:=r.length
   exact truthy_tuple pl (by simp only[List.size_toArray];omega) ⟨H,I.tok _,by rw[isEmpty_of r];exact q⟩
  ·subst e'
   obtain⟨hz,hS,vs,r,m⟩:kvs.length≤sizeLine∧(p == sysModules)=false∧∃vs,KV kvs vs∧s.heap.DictOf (mixKind X.prog X.w) p vs:=I.hok p _ hx
   have hlen:kvs.length=vs.length:=Paired.length r
   exact wpAny_truthy_dict hS m (by omega) ⟨H,I.tok _,by rw[isEmpty_kv r];exact q⟩
 | _=>exact (show False from e).elim
theorem pt_truth (ha:PE X a ta) (he:∀whole,isTrue a X.env whole=(do let v ←whole;standAt a.pos;holding [v] (truthy v))):
  PT X a (fun σ H Q=>ta σ H fun x H'=>∃k,TruV X.K x H' k∧Q k H'):=by
 intro pins s σ H Q I h
 exact isTrue_plain (thn (ha pins s σ H _ I h) fun v s1 ⟨x,H1,I1,r1,q1⟩=>tru_ok pins s1 σ H1 x v Q I1 r1 q1) (he _)
theorem op_add_str:OpR X (binaryOp .Add) (fun x y H Q=>∃i j,x=.str i∧y=.str j∧i.length+j.length≤sizeLine∧Q (.str (i++j)) H):=by
 intro pins s σ H x y v u Q I rx ry h
 obtain⟨i,j,rfl,rfl,hz,q⟩:=h
 obtain⟨t,rfl⟩:=rx
 obtain⟨t',rfl⟩:=ry
 exact add_str (fun t' tk=>⟨.str (i++j),H,I.tok _,⟨_,rfl⟩,q⟩) hz
theorem vals1 {x:V}{us:List Value}(r:Vals [x] us):∃u,us=[u]∧RelV x u:=by
 cases r with
 | cons r1 r2=>cases r2;exact⟨_,rfl,r1⟩
theorem vals2 {x y:V}{us:List Value}(r:Vals [x,y] us):∃u w',us=[u,w']∧RelV x u∧RelV y w':=by
 cases r with
 | cons r1 r2=>
  cases r2 with
  | cons r3 r4=>cases r4;exact⟨_,_,rfl,r1,r3⟩
theorem call_int1:CallR X (.type "int") (fun xs H Q=>(∃i,xs=[.int i]∧Q (.int i) H)∨∃k,xs=[.bl k]∧Q (.int (if k then 1 else 0)) H):=by
 intro pins s σ H xs us Q I r h
 rcases h with ⟨i,rfl,q⟩ | ⟨k,rfl,q⟩
 ·obtain⟨u,rfl,t,rfl⟩:=vals1 r
  exact call_int_int ⟨.int i,H,I,⟨_,rfl⟩,q⟩
 ·obtain⟨u,rfl,r1⟩:=vals1 r
  cases r1
  exact call_int_bool ⟨.int (if k then 1 else 0),H,I.tok _,⟨_,rfl⟩,q⟩
def LenV (K:Wf) (x:V) (H:Hp) (n:Nat):Prop:=
 match x with
 | .str y=>y.length≤sizeLine∧n=y.length
 | .byt y=>y.size≤sizeLine∧n=y.size
 | .ref p=>(∃xs,SqL K H p xs∧n=xs.length)∨∃xs,SqT K H p xs∧n=xs.length
 | _=>False
theorem call_len:CallR X (.builtin "len") (fun xs H Q=>∃x n,xs=[x]∧LenV X.K x H n∧Q (.int n) H):=by
 intro pins s σ H xs us Q I r h
 obtain⟨x,n,rfl,e,q⟩:=h
 obtain⟨u,rfl,rx⟩:=vals1 r
 have hl:=line63
 have hs:sizeLine=16777216:=sizeLine_eq
 cases x with
 | str y=>
  obtain⟨t,rfl⟩:=rx
  obtain⟨hy,e'⟩:y.length≤sizeLine∧n=y.length:=e
  subst e'
  exact len_str (by omega) ⟨.int _,H,I.tok _,⟨_,rfl⟩,q⟩
 | byt y=>
  obtain⟨t,rfl⟩:=rx
  obtain⟨hy,e'⟩:y.size≤sizeLine∧n=y.size:=e
  subst e'
  exact PySem.W.len_bytes (by omega) ⟨.int _,H,I.tok _,⟨_,rfl⟩,q⟩
 | ref p=>
  cases rx
  have e':(∃xs,SqL X.K H p xs∧n=xs.length)∨∃xs,SqT X.K H p xs∧n=xs.length:=e
  rcases e' with ⟨xs,hx,e'⟩ | ⟨xs,hx,e'⟩
  ·subst e'
   obtain⟨its,r',pl,hz⟩:=I.list hx
   have hlen:=r'.length
   exact Calls.call_len_list pl.isList (by simp only[List.size_toArray];omega) ⟨.int xs.length,H,I.tok _,⟨_,by simp only[List.size_toArray];rw[hlen]⟩,q⟩
  ·subst e'
   obtain⟨its,r',pl,hz⟩:=I.tuple hx
   have hlen:=r'.length
   exact len_tuple pl (by simp only[List.size_toArray];omega) ⟨.int xs.length,H,I.tok _,⟨_,by simp only[List.size_toArray];rw[hlen]⟩,q⟩
 | _=>exact (show False from e).elim
end
end L2
namespace L2
open PySem PySem.Spec PyProof.Rows
set_option genInjectivity false in
structure ObjM (h:Heap) (x dx C:Addr) (mA:So):Prop where
 obj:h.get? x=some (PySem.W.instObj C dx)
 ns:h.Ns1 dx mA
 ne:dx≠x
theorem lookIn_ns {h:Heap}{dx:Addr}{mA:So}(n:h.Ns1 dx mA):∃od,h.get? dx=some od∧∀name,PySem.W.lookIn name od=some (mA name):=by
 obtain⟨o,es,ep,ho,hd,hk,_,hm⟩:=n
 refine⟨o,ho,fun name => ?_⟩
 have e:=hm name
 unfold nsFind findBy at e
 rw[←Array.find?_toList]at e
 unfold PySem.W.lookIn
 rw[hd]
 dsimp only
 split
 ·rename_i y q
  rw[q]at e
  exact congrArg some e
 ·rename_i q
  rw[q]at e
  have a:es.toList.any (·.refKey)=false:=by
   rw[List.any_eq_false]
   intro y hy
   obtain⟨z,t,hkey⟩:=hk y (Array.mem_toList_iff.mp hy)
   simp[DictEntry.refKey,hkey]
  have a':¬es.toList.any (·.refKey)=true:=by rw[a];exact Bool.false_ne_true
  rw[if_neg a']
  exact congrArg some e
theorem ObjM.look {h:Heap}{x dx C:Addr}{mA:So}(I:ObjM h x dx C mA):∃od,PySem.W.InstAt h x (PySem.W.instObj C dx) C (some od)∧∀name,PySem.W.lookIn name od=some (mA name):=
 let ⟨od,ho,hl⟩:=lookIn_ns I.ns
 ⟨od,⟨I.obj,rfl,rfl,ho⟩,hl⟩
section
variable {prog:Program}{w:World}{A:Around}{E:Vs}{s:Shared}{K:Wf}{x dx C f:Addr}{mA:So}{name:Str}{v:Value}
end
noncomputable def putF (f:Str) (v:V):List (Str×V)→List (Str×V)
 | []=>[(f,v)]
 | (g,x)::r=>if g=f then (g,v)::r else (g,x)::putF f v r
theorem lookup_putF (f g:Str) (v:V):∀fs:List (Str×V),(putF f v fs).lookup g=if g=f then some v else fs.lookup g
 | []=>by
  show List.lookup g [(f,v)]=_
  by_cases h:g=f
  ·have hb:(g == f)=true:=beq_iff_eq.mpr h
   simp only[List.lookup,hb,if_pos h]
  ·have hb:(g == f)=false:=beq_eq_false_iff_ne.mpr h
   simp only[List.lookup,hb,if_neg h]
 | (k,x)::r=>by
  have ih:=lookup_putF f g v r
  rw[show putF f v ((k,x)::r)=(if k=f then (k,v)::r else (k,x)::putF f v r) from rfl]
  by_cases hk:k=f
  ·rw[if_pos hk]
   by_cases h:g=k
   ·have hb:(g == k)=true:=beq_iff_eq.mpr h
    simp only[List.lookup,hb,if_pos (h.trans hk)]
   ·have hb:(g == k)=false:=beq_eq_false_iff_ne.mpr h
    simp only[List.lookup,hb,if_neg (fun e:g=f=>h (e.trans hk.symm))]
  ·rw[if_neg hk]
   by_cases h:g=k
   ·have hb:(g == k)=true:=beq_iff_eq.mpr h
    simp only[List.lookup,hb,if_neg (fun e:g=f=>hk (h.symm.trans e))]
   ·have hb:(g == k)=false:=beq_eq_false_iff_ne.mpr h
    simp only[List.lookup,hb]
    exact ih
theorem keys_putF (f:Str) (v:V):∀fs:List (Str×V),f∈(putF f v fs).map (·.1)∧∀g,g∈fs.map (·.1)→g∈(putF f v fs).map (·.1)
 | []=>⟨by simp[putF],fun g h=>by simp at h⟩
 | (k,x)::r=>by
  obtain⟨i1,i2⟩:=keys_putF f v r
  rw[show putF f v ((k,x)::r)=(if k=f then (k,v)::r else (k,x)::putF f v r) from rfl]
  by_cases hk:k=f
  ·rw[if_pos hk]
   subst hk
   exact⟨by simp,fun g h=>by simpa using h⟩
  ·rw[if_neg hk]
   refine⟨?_,fun g h => ?_⟩
   ·rw[List.map_cons]
    exact List.mem_cons_of_mem _ i1
   ·rw[List.map_cons]at h ⊢
    rcases List.mem_cons.mp h with e | e
    ·exact List.mem_cons.mpr (.inl e)
    ·exact List.mem_cons_of_mem _ (i2 g e)
theorem RelO.some_of {v:V}{o:Option Value}(r:RelO (some v) o):∃u,o=some u∧RelV v u:=by
 cases o with
 | none=>exact (show False from r).elim
 | some u=>exact⟨u,rfl,r⟩
theorem handed_of {v:V}{u:Value}(r:RelV v u):PySem.W.handedIn u=true:=by
 cases v with
 | non=>cases (show u=Value.none from r);rfl
 | bl b=>cases (show u=Value.bool b from r);rfl
 | int i=>obtain⟨t,e⟩:=(show ∃t,u=Value.int i t from r);cases e;rfl
 | str x=>obtain⟨t,e⟩:=(show ∃t,u=Value.str x t from r);cases e;rfl
 | byt b=>obtain⟨t,e⟩:=(show ∃t,u=Value.bytes b t from r);cases e;rfl
 | flt b=>obtain⟨t,e⟩:=(show ∃t,u=Value.float b t from r);cases e;rfl
 | ref a=>cases (show u=Value.ref a from r);rfl
 | ty n=>cases (show u=Value.type n from r);rfl
section
variable {P:Program}{w:World}{H H':Hp}{h h':Heap}{a C dx:Addr}{fs fs':List (Str×V)}
theorem ins_get (hok:HOk P w H h) (e:H a=some (.ins C dx fs)):∃mA,ObjM h a dx C mA∧(∀f,RelO (fs.lookup f) (mA f))∧PySem.Within mA (fs.map (·.1))∧fs.length≤1000∧H dx=some (.own a):=by
 obtain⟨d,z,ne,ob,mA,n,r,q⟩:=(show ObjOk P w H h a (.ins C dx fs) from hok a _ e)
 exact⟨mA,⟨ob,n,ne⟩,r,q,z,d⟩
end
set_option genInjectivity false in
structure Cls (K:Wf) (C:Addr):Prop where
 pg:PySem.W.plainGet K C Str.empty=true
 hd:PySem.W.hasDictIn K C=true
 po:PySem.W.plainOver K C=true
 sa:PySem.W.findIn K (.ref C) "__setattr__" = some (some (.builtin "object.__setattr__"))
theorem Cls.get {K:Wf}{C:Addr}(c:Cls K C) (f:Str):PySem.W.plainGet K C f=true:=c.pg
def NoAttr (K:Wf) (C:Addr) (f:Str):Prop:=PySem.W.findIn K (.ref C) f=some none
section
variable {X:Cx}{pins:Lo}{σ:St}{H:Hp}{s:Shared}{a C dx:Addr}{fs:List (Str×V)}{f:Str}{v:V}{A:Around}{E:Vs}
theorem attr_of {prog:Program}{w:World}{env:Env}{e:Expr}{f:Str}{pos:Pos}{s:Shared}{Q:Vs}(hb:attributeBase e f env (eval e env)=eval e env)
  (h:wpAny (model prog w) A (eval e env) (fun o s₁=>wpAny (model prog w) A (getAttr o f true) Q E s₁) E s):wpAny (model prog w) A (eval (.Attribute e f pos) env) Q E s:=
 Attribute_any_ h (by rw[arm_eval_Attribute,hb])
end
def tFld (K:Wf) (ta:TE) (f:Str):TE:=fun σ H Q=>ta σ H fun x H1=>∃a C dx fs v,x=.ref a∧H1 a=some (.ins C dx fs)∧Cls K C∧NoAttr K C f∧fs.lookup f=some v∧Q v H1
def sFld (K:Wf) (ta tv:TE) (f:Str):TS:=fun D σ H=>tv σ H fun y H1=>ta σ H1 fun x H2=>∃a C dx fs,x=.ref a∧H2 a=some (.ins C dx fs)∧Cls K C∧NoAttr K C f∧fs.length<1000∧
 D.nx σ (upd H2 a (.ins C dx (putF f y fs)))
section
variable {X:Cx}{o e value:Expr}{f:Str}{pos pos' tpos:Pos}{ta tv:TE}
end
section
variable {X:Cx}{pins:Lo}{σ:St}{H:Hp}{s:Shared}{A:Around}{E:Vs}{Q:Vs}{c:Value}{b:Bool}
inductive TyOf (K:Wf) (H:Hp):V→Value→Prop where
 | non:TyOf K H .non (.type "NoneType")
 | bl (x:Bool):TyOf K H (.bl x) (.type "bool")
 | int (i:Int):TyOf K H (.int i) (.type "int")
 | str (x:Str):TyOf K H (.str x) (.type "str")
 | flt (x:UInt64):TyOf K H (.flt x) (.type "float")
 | lst {a:Addr}{xs:List V}(e:H a=some (.lst xs)):TyOf K H (.ref a) (.type "list")
 | frz {a:Addr}{o:Obj}{xs:List V}(e:H a=some (.frz o (.lst xs))):TyOf K H (.ref a) (.type "list")
 | tup {a:Addr}{xs:List V}(e:H a=some (.tup xs)):TyOf K H (.ref a) (.type "tuple")
 | dK {a:Addr}{kvs:List (Key×V)}(e:H a=some (.dK kvs)):TyOf K H (.ref a) (.type "dict")
 | dT {a:Addr}{kvs:List (List Key×V)}(e:H a=some (.dT kvs)):TyOf K H (.ref a) (.type "dict")
 | ins {a C dx:Addr}{fs:List (Str×V)}(e:H a=some (.ins C dx fs)) (cl:Cls K C) (ha:PySem.W.findIn K (.ref C) "__class__" = some (some (.builtin "object.__class__")))
   (hn:PySem.W.specialIn K (.builtin "object.__class__") "__get__" = some (some (.builtin "getset_descriptor.__get__"))) (htk:PySem.W.takesIn K (.builtin "object.__class__")=some true)
   (hm:PySem.W.mroIn K C (.type "object")=some true):TyOf K H (.ref a) (.ref C)
theorem isinst_ok {x:V}{u t:Value}(I:Inv X pins σ H s) (rx:RelV x u) (ty:TyOf X.K H x t) (e:PySem.W.kitOne X.K t c=some b) (h:∀tk,Q (.bool b) { s with toks:=tk }):
  wpAny (model X.prog X.w) A (call (.builtin "isinstance") [u,c]) Q E s:=by
 cases ty with
 | non=>cases (show u=Value.none from rx);exact PySem.W.kia_one PySem.W.kitx_none I.kIn True.intro e (fun z=>nomatch z) h
 | bl y=>cases (show u=Value.bool y from rx);exact PySem.W.kia_one PySem.W.kitx_bool I.kIn True.intro e (fun z=>nomatch z) h
 | int i=>obtain⟨t,q⟩:=(show ∃t,u=Value.int i t from rx);cases q;exact PySem.W.kia_one PySem.W.kitx_int I.kIn True.intro e (fun z=>nomatch z) h
 | str y=>obtain⟨t,q⟩:=(show ∃t,u=Value.str y t from rx);cases q;exact PySem.W.kia_one PySem.W.kitx_str I.kIn True.intro e (fun z=>nomatch z) h
 | flt y=>obtain⟨t,q⟩:=(show ∃t,u=Value.float y t from rx);cases q;exact PySem.W.kia_one PySem.W.kitx_float I.kIn True.intro e (fun z=>nomatch z) h
 | @lst a xs ea=>
  cases (show u=Value.ref a from rx)
  obtain⟨_,_,n,_,h1⟩:=(show ObjOk X.prog X.w H s.heap a (.lst xs) from I.hok a _ ea)
  exact PySem.W.kia_one PySem.W.kitx_list I.kIn ⟨_,h1,rfl⟩ e (fun z=>nomatch z) h
 | @frz a ob xs ea=>
  cases (show u=Value.ref a from rx)
  obtain⟨_,_,_,n,_,h1⟩:=(show ObjOk X.prog X.w H s.heap a (.frz ob (.lst xs)) from I.hok a _ ea)
  exact PySem.W.kia_one PySem.W.kitx_list I.kIn ⟨_,h1,rfl⟩ e (fun z=>nomatch z) h
 | @tup a xs ea=>
  cases (show u=Value.ref a from rx)
  obtain⟨_,_,_,p⟩:=(show ObjOk X.prog X.w H s.heap a (.tup xs) from I.hok a _ ea)
  obtain⟨o,h1,h2,_⟩:=p
  exact PySem.W.kia_one PySem.W.kitx_tuple I.kIn ⟨o,h1,h2⟩ e (fun z=>nomatch z) h
 | @dK a kvs ea=>
  cases (show u=Value.ref a from rx)
  obtain⟨_,_,vs,_,p⟩:=(show ObjOk X.prog X.w H s.heap a (.dK kvs) from I.hok a _ ea)
  obtain⟨o,es,ep,h1,h2,_⟩:=p
  exact PySem.W.kia_one PySem.W.kitx_dict I.kIn ⟨o,h1,h2.1⟩ e (fun z=>nomatch z) h
 | @dT a kvs ea=>
  cases (show u=Value.ref a from rx)
  obtain⟨_,_,xs,_,o,es,ep,h1,h2,_⟩:=(show ObjOk X.prog X.w H s.heap a (.dT kvs) from I.hok a _ ea)
  exact PySem.W.kia_one PySem.W.kitx_dict I.kIn ⟨o,h1,h2.1⟩ e (fun z=>nomatch z) h
 | @ins a C dx fs ea cl ha hn htk hm=>
  cases (show u=Value.ref a from rx)
  obtain⟨mA,O,_⟩:=ins_get I.hok ea
  obtain⟨od,J,_⟩:=O.look
  exact PySem.W.kia_one (PySem.W.kitx_own (cl.get _) cl.hd ha hn htk hm) I.kIn J e (fun z=>nomatch z) h
end
end L2
namespace L2
open PySem PySem.Spec PyProof.Rows
set_option genInjectivity false in
structure Room (k:Nat) (A:Around):Prop where
 hd:A.handled=none
 dp:A.depth+3 * k+5<recursionLimit
 un:A.units+16 * k+200<cLine
theorem Room.mono {j k:Nat}{A:Around}(r:Room k A) (h:j≤k):Room j A:=⟨r.hd,by have:=r.dp;omega,by have:=r.un;omega⟩
theorem Room.deeper {k:Nat}{A:Around}(r:Room (k+1) A) (env:Env):Room k (A.deeper env):=
 ⟨r.hd,by have:=r.dp;show A.depth+1+3 * k+5<_;omega,by have:=r.un;show A.units+3+16 * k+200<_;omega⟩
theorem Room.in1 {k:Nat}{A:Around}(r:Room (k+1) A):Room k A.in1:=
 ⟨r.hd,by have:=r.dp;show A.depth+3 * k+5<_;omega,by have:=r.un;show A.units+1+16 * k+200<_;omega⟩
theorem make_depth {A:Around}{C:Addr}{us:List Value}{kw:List (Str×Value)}:(A.under (.builtin "type.__call__" ⟨.ref C::us,kw⟩)).depth=A.depth+1:=by
 first | rfl | simp[Around.under,Code.weight,Code.isCreation,Code.isGuard,Code.isCaller,Code.frames,Code.isFrame,guardIds]
theorem make_units {A:Around}{C:Addr}{us:List Value}{kw:List (Str×Value)}:(A.under (.builtin "type.__call__" ⟨.ref C::us,kw⟩)).units=A.units+1:=by
 first | rfl | simp[Around.under,Code.cUnits,Code.frames,Code.isFrame]
theorem Room.make {k:Nat}{A:Around}(r:Room (k+1) A) (C:Addr) (us:List Value) (kw:List (Str×Value)):Room k (A.under (.builtin "type.__call__" ⟨.ref C::us,kw⟩)):=
 ⟨r.hd,by have:=r.dp;rw[make_depth];omega,by have:=r.un;rw[make_units];omega⟩
theorem Room.depth {k:Nat}{A:Around}(r:Room k A):A.depth<recursionLimit:=by have:=r.dp;omega
theorem Room.units {k:Nat}{A:Around}(r:Room k A):A.units+64<cLine:=by have:=r.un;omega
def tNil:TA:=fun _ H Q=>Q [] H
def tCons (ta:TE) (tr:TA):TA:=fun σ H Q=>ta σ H fun x H1=>tr σ H1 fun xs H2=>Q (x::xs) H2
section
variable {X:Cx}{e:Expr}{es:List Expr}{te:TE}{t:TA}{pos:Pos}
theorem pa_nil:PA X [] tNil:=fun _ _ _ _ H Q I h=>Calls.spliced_nil ⟨[],H,I,.nil,h⟩
theorem zz0 (ha:PE X e te) (hr:PA X es t) (hs:starEach (e::es) X.env=(false,eval e X.env)::starEach es X.env:=by rfl):PA X (e::es) (tCons te t):=by
 intro pos pins s σ H Q I h
 rw[hs]
 show wpAny _ _ (spliced ((false,eval e X.env)::backTo pos (starEach es X.env))) _ _ s
 refine Calls.spliced_cons (thn (ha pins s σ H _ I h) fun u s1 ⟨x,H1,I1,r1,q1⟩ => ?_)
 exact thn (hr pos pins s1 σ H1 _ I1 q1) fun us s2 ⟨xs,H2,I2,r2,q2⟩=>⟨x::xs,H2,I2,.cons r1 r2,q2⟩
def tTup (t:TA):TE:=fun σ H Q=>t σ H fun xs H1=>xs.length≤sizeLine∧∀p,H1 p=none→Q (.ref p) (upd H1 p (.tup xs))
def tLst (t:TA):TE:=fun σ H Q=>t σ H fun xs H1=>xs.length≤sizeLine∧∀p,H1 p=none→Q (.ref p) (upd H1 p (.lst xs))
theorem pe_tup {x1} (h:PA X es t):PE X (.Tuple es x1 pos) (tTup t):=by
 intro pins s σ H Q I hq
 refine wpAny_Tuple_spliced (thn (h pos pins s σ H _ I hq) fun us s1 ⟨xs,H1,I1,r,z,q⟩=>⟨by rw[←r.length];exact z,?_⟩)
 have hf:H1 s1.heap.objs.size=none:=I1.hok.fresh (Nat.le_refl _)
 refine⟨.ref s1.heap.objs.size,upd H1 s1.heap.objs.size (.tup xs),I1.laid (t':=s1.toks) (fun b u e=>Heap.get?_push_of_some _ e) (Nat.le_refl _) ?_,rfl,q _ hf⟩
 exact⟨z,us,r,⟨_,Heap.get?_push_size _ rfl,rfl,_,rfl⟩⟩
theorem pe_lst (h:PA X es t):PE X (.List es pos) (tLst t):=by
 intro pins s σ H Q I hq
 refine wpAny_List_spliced (thn (h pos pins s σ H _ I hq) fun us s1 ⟨xs,H1,I1,r,z,q⟩=>⟨by rw[←r.length];exact z,?_⟩)
 have hf:H1 s1.heap.objs.size=none:=I1.hok.fresh (Nat.le_refl _)
 refine⟨.ref s1.heap.objs.size,upd H1 s1.heap.objs.size (.lst xs),I1.laid (t':=s1.toks) (fun b u e=>Heap.get?_push_of_some _ e) (Nat.le_refl _) ?_,rfl,q _ hf⟩
 exact⟨z,us,0,r,Heap.get?_push_size _ rfl⟩
end
noncomputable abbrev Sp:=List V→Hp→VK→XK→Prop
noncomputable abbrev CXT:=List Env→Hp→Shared→XK→Value→Shared→Prop
set_option genInjectivity false in
structure Env0 (P:Program) (w:World) (K:Wf) (mg:So) (base:Heap) (A:Around) (outer:List Env) (s:Shared) (H:Hp):Prop where
 frames:A.frames=some outer
 mod:Mod K mg base
 bs:∀b o,base.get? b=some o→s.heap.get? b=some o∧H b=none
 bsz:base.objs.size≤s.heap.objs.size
 funs:s.heap.FunFrames base outer
 frf:∀b∈frs outer,H b=none
 hok:HOk P w H s.heap
 bare:AllBare s.gens
def CE (outer:List Env) (P:Program) (w:World) (H:Hp) (s:Shared) (Q:VK) (u:Value) (s':Shared):Prop:=
 ∃v H',s'.os=s.os∧AllBare s'.gens∧Un (frs outer) [] H H' s.heap s'.heap∧HOk P w H' s'.heap∧RelV v u∧Q v H'
def CR (CX:CXT) (outer:List Env) (P:Program) (w:World) (H:Hp) (s:Shared) (Q:VK) (E:XK) (r:Result) (s':Shared):Prop:=
 match r with
 | .ok (.ret u)=>CE outer P w H s Q u s'
 | .ok _=>False
 | .error e=>CX outer H s E e s'
set_option genInjectivity false in
structure FnOk (P:Program) (w:World) (K:Wf) (mg:So) (base:Heap) (CX:CXT) (k:Nat) (f:Addr) (fd:FuncData) (ps:List Str) (sp:Sp):Prop where
 len:∀vs H Q E,sp vs H Q E→vs.length=ps.length
 run:∀(A:Around) (outer:List Env) (s:Shared) (H:Hp) (args:Args) (us:List Value) (vs:List V) (Q:VK) (E:XK),Room k A→Env0 P w K mg base A outer s H→BindsTo s fd args (ps.zip us)→Vals vs us→sp vs H Q E→
  codeAny (model P w) A (.call (.ref f) args) (CR CX outer P w H s Q E) s
theorem Env0.make {P:Program}{w:World}{K:Wf}{mg:So}{base:Heap}{A:Around}{outer:List Env}{s:Shared}{H:Hp}(e:Env0 P w K mg base A outer s H) (C:Addr) (us:List Value) (kw:List (Str×Value)):
  Env0 P w K mg base (A.under (.builtin "type.__call__" ⟨.ref C::us,kw⟩)) outer s H:=⟨by first | exact e.frames | (simpa [Around.under,Code.envs,Code.isFrame,pushEnvs] using e.frames),e.mod,e.bs,e.bsz,e.funs,e.frf,e.hok,e.bare⟩
theorem Env0.in1 {P:Program}{w:World}{K:Wf}{mg:So}{base:Heap}{A:Around}{outer:List Env}{s:Shared}{H:Hp}(e:Env0 P w K mg base A outer s H):
  Env0 P w K mg base A.in1 outer s H:=⟨e.frames,e.mod,e.bs,e.bsz,e.funs,e.frf,e.hok,e.bare⟩
section
variable {X:Cx}{pins:Lo}{σ:St}{H:Hp}{s s':Shared}
theorem Inv.env0 (I:Inv X pins σ H s):Env0 X.prog X.w X.K X.mg X.base X.A X.stack s H:=
 ⟨I.ok.frames,I.ok.mod,I.bs,Nat.le_trans I.ok.bsz I.sz,I.stack,I.stkFree,I.hok,I.bare⟩
theorem Inv.after {Q:VK}{u:Value}(I:Inv X pins σ H s) (h:CE X.stack X.prog X.w H s Q u s'):EP X pins σ Q u s':=by
 obtain⟨v,H',os,bare,un,hok,r,q⟩:=h
 obtain⟨hh,g,d,t,os'⟩:=s'
 obtain rfl:os'=s.os:=os
 exact⟨v,H',I.call (h':=hh) (g':=g) (d':=d) (t':=t) (ch:=[]) un hok bare (fun b z=>absurd z (by simp)),r,q⟩
end
def tCall (sp:Sp) (dvs:List V) (E:XK) (t:TA):TE:=fun σ H Q=>t σ H fun vs H1=>sp (vs++dvs) H1 Q E
def tMeth (C:Addr) (m:Str) (sp:Sp) (dvs:List V) (E:XK) (ta:TE) (t:TA):TE:=fun σ H Q=>ta σ H fun x H1=>∃a dx fs,x=.ref a∧H1 a=some (.ins C dx fs)∧fs.lookup m=none∧
 t σ H1 fun vs H2=>sp (x::(vs++dvs)) H2 Q E
def tMake (C:Addr) (sp:Sp) (dvs:List V) (E:XK) (t:TA):TE:=fun σ H Q=>t σ H fun vs H1=>∀x dx,H1 x=none→H1 dx=none→dx≠x→
 sp (.ref x::(vs++dvs)) (upd (upd H1 dx (.own x)) x (.ins C dx [])) (fun v H2=>v=.non∧Q (.ref x) H2) E
def Binds (K:Wf) (fd:FuncData) (ps:List Str) (ds:List Value):Prop:=
 ∀(s:Shared) (us:List Value),K.In s.heap→(us++ds).length=ps.length→BindsTo s fd ⟨us,[]⟩ (ps.zip (us++ds))
theorem Binds.all {K:Wf}{fd:FuncData}{ps:List Str}(h:∀us:List Value,us.length=ps.length→bindArgs fd ⟨us,[]⟩=pure (ps.zip us)):Binds K fd ps []:=fun s us _ hl=>by
 rw[List.append_nil]at hl ⊢
 exact .of_eq (h us hl)
def Passes (CX:CXT) (X:Cx) (E:XK):Prop:=∀(pins:Lo) (σ:St) (H:Hp) (s:Shared) (e:Value) (s':Shared),Inv X pins σ H s→CX X.stack H s E e s'→X.xe e s'
section
variable {X:Cx}{CX:CXT}{k:Nat}{f C:Addr}{fd:FuncData}{ps:List Str}{sp:Sp}{dvs:List V}{ds:List Value}{E:XK}{x m:Str}{p pos apos:Pos}{e o:Expr}{es:List Expr}{ta:TE}{t:TA}
theorem run_fn {pins:Lo}{σ:St}{H:Hp}{s:Shared}{Q:VK}{us:List Value}{vs:List V}(F:FnOk X.prog X.w X.K X.mg X.base CX k f fd ps sp) (hr:Room k X.A) (hb:Binds X.K fd ps ds) (hd:Vals dvs ds) (hx:Passes CX X E)
  (I:Inv X pins σ H s) (r:Vals vs us) (h:sp (vs++dvs) H Q E):wpAny (model X.prog X.w) X.A (call (.ref f) us) (EP X pins σ Q) X.xe s:=by
 have r2:Vals (vs++dvs) (us++ds):=r.append hd
 have hl:(us++ds).length=ps.length:=by rw[←r2.length];exact F.len _ _ _ _ h
 refine wpAny_call (codeAny_mono (F.run X.A X.stack s H ⟨us,[]⟩ (us++ds) (vs++dvs) Q E hr I.env0 (hb s us I.kIn hl) r2 h) fun r s' hq => ?_)
 cases r with
 | error e=>exact hx pins σ H s e s' I hq
 | ok fl=>
  cases fl with
  | ret u=>exact I.after hq
  | next=>exact False.elim hq
  | brk=>exact False.elim hq
  | cont=>exact False.elim hq
theorem zz12 (F:FnOk X.prog X.w X.K X.mg X.base CX k f fd ps sp) (hr:Room k X.A) (hg:Gl X x) (hm:X.mg x=some (.ref f)) (hk:PySem.W.keepIn X.K (.ref f)=true) (hb:Binds X.K fd ps ds) (hd:Vals dvs ds) (hx:Passes CX X E)
  (ha:PA X (e::es) t) (hdb:(x == ("__debug__" : Str))=false:=by decide) (he:starEach (e::es) X.env=(false,eval e X.env)::starEach es X.env:=by rfl) (hpl:(backTo pos (starEach es X.env)).any (·.1)=false:=by rfl):
  PE X (.Call (.Name x p) (e::es) [] pos) (tCall sp dvs E t):=by
 intro pins s σ H Q I h
 refine wpAny_Call_Name_kw (ld_glob I hg hm ?_ hdb)
 refine PySem.W.callWith_K (h₀:=X.base) I.ok.mod.kin hk (thn (ha pos pins s σ H _ I h) fun us s1 ⟨vs,H1,I1,r,q⟩=>⟨I1.kIn,?_⟩) he hpl
 exact run_fn F hr hb hd hx I1 r q
end
section
variable {X:Cx}{CX:CXT}{k:Nat}{f C:Addr}{fd:FuncData}{ps ks:List Str}{sp:Sp}{E:XK}{x m:Str}{p pos apos kpos:Pos}{e o:Expr}{es:List Expr}{kws:List Keyword}{te ta:TE}{t tk:TA}{nm:Option Str}
variable {g:List Value→List Value→List Value}{gV:List V→List V→List V}
end
set_option genInjectivity false in
structure FnScope (N P:List Str) (sc:Scope):Prop where
 kind:sc.kind=.function
 co:sc.isCoroutine=false
 gen:sc.isGenerator=false
 nd:N.Nodup
 pre:N.take P.length=P
 par:∀x∈P,sc.names.lookup x=some .local∨sc.names.lookup x=some .cell
 nofree:∀y∈sc.names,y.2≠.free
theorem bindL_out {kindOf:Str→Option NameKind}{x:Str}:∀{binds:List (Str×Value)}{m:So},(∀v,(x,v)∉binds)→bindL kindOf binds m x=m x
 | [],_,_=>rfl
 | (n,v)::r,m,h=>by
  unfold bindL
  rw[bindL_out fun w hw=>h w (List.mem_cons_of_mem _ hw)]
  split
  ·have:x≠n:=by rintro rfl;exact h v List.mem_cons_self
   simp[this]
  ·rfl
theorem bindC_out {kindOf:Str→Option NameKind}{x:Str}:∀{binds:List (Str×Value)}{m:So},(∀v,(x,v)∉binds)→bindC kindOf binds m x=m x
 | [],_,_=>rfl
 | (n,v)::r,m,h=>by
  unfold bindC
  rw[bindC_out fun w hw=>h w (List.mem_cons_of_mem _ hw)]
  split
  ·rfl
  ·have:x≠n:=by rintro rfl;exact h v List.mem_cons_self
   simp[this]
theorem bindL_get {kindOf:Str→Option NameKind}{x:Str}{v:Value}:∀{P:List Str}{vs:List Value}{i:Nat}{m:So},P.Nodup→P[i]?=some x→vs[i]?=some v→kindOf x=some .local→
  bindL kindOf (P.zip vs) m x=some v
 | [],_,_,_,_,h,_,_=>by simp at h
 | _::_,[],_,_,_,_,h,_=>by simp at h
 | p::P,w::vs,0,m,nd,h1,h2,hk=>by
  simp at h1 h2;subst h1;subst h2
  show bindL kindOf ((p,w)::P.zip vs) m p=_
  unfold bindL
  rw[bindL_out fun v hv=>(List.nodup_cons.mp nd).1 (List.of_mem_zip hv).1,if_pos hk]
  simp
 | p::P,w::vs,i+1,m,nd,h1,h2,hk=>by
  show bindL kindOf ((p,w)::P.zip vs) m x=_
  unfold bindL
  exact bindL_get (i:=i) (List.nodup_cons.mp nd).2 (by simpa using h1) (by simpa using h2) hk
theorem bindC_get {kindOf:Str→Option NameKind}{x:Str}{v:Value}:∀{P:List Str}{vs:List Value}{i:Nat}{m:So},P.Nodup→P[i]?=some x→vs[i]?=some v→kindOf x≠some .local→
  bindC kindOf (P.zip vs) m x=some v
 | [],_,_,_,_,h,_,_=>by simp at h
 | _::_,[],_,_,_,_,h,_=>by simp at h
 | p::P,w::vs,0,m,nd,h1,h2,hk=>by
  simp at h1 h2;subst h1;subst h2
  show bindC kindOf ((p,w)::P.zip vs) m p=_
  unfold bindC
  rw[bindC_out fun v hv=>(List.nodup_cons.mp nd).1 (List.of_mem_zip hv).1,if_neg hk]
  simp
 | p::P,w::vs,i+1,m,nd,h1,h2,hk=>by
  show bindC kindOf ((p,w)::P.zip vs) m x=_
  unfold bindC
  exact bindC_get (i:=i) (List.nodup_cons.mp nd).2 (by simpa using h1) (by simpa using h2) hk
noncomputable def start (N:List Str) (vs:List V):St:=vs.map some++List.replicate (N.length - vs.length) none
noncomputable def cxOf (CX:CXT) (P:Program) (w:World) (K:Wf) (mg:So) (base:Heap) (N:List Str) (qual:Str) (scope:Scope) (f:Addr) (cd:Value) (A:Around) (outer:List Env) (s:Shared) (H:Hp) (E:XK):Cx where
 prog:=P
 w:=w
 K:=K
 mg:=mg
 base:=base
 A:=A.deeper (envOfC qual scope s.heap.objs.size f cd)
 N:=N
 s₀:=s
 H₀:=H
 env:=envOfC qual scope s.heap.objs.size f cd
 outer:=outer
 stack:=envOfC qual scope s.heap.objs.size f cd::outer
 ex:=[]
 calm:=true
 fn:=fun _=>true
 pn:=[]
 xe:=fun e s'=>wpAny (model P w) (A.deeper (envOfC qual scope s.heap.objs.size f cd)) (leaving (envOfC qual scope s.heap.objs.size f cd) e) (fun _ s''=>CX outer H s E e s'') (fun e' s''=>CX outer H s E e' s'') s'
theorem cell_has {sc:Scope}{n:Nat}{x:Str}(h:sc.names.lookup x=some .cell):∃c,(cellsFrom n sc.names []).lookup x=some c:=by
 have q:=PySem.W.cellsFrom_some sc.names n [] (.inl h)
 exact Option.isSome_iff_exists.mp q
theorem inv_start {CX:CXT}{P:Program}{w:World}{K:Wf}{mg:So}{base:Heap}{N ps:List Str}{qual:Str}{scope:Scope}{f:Addr}{cd:Value}{A:Around}{outer:List Env}{s s1:Shared}{H:Hp}{E:XK}{us:List Value}{vs:List V}
  (S:FnScope N ps scope) (hd:A.handled=none) (e0:Env0 P w K mg base A outer s H) (hl:vs.length=ps.length) (r:Vals vs us)
  (x:InCallC s s.heap.objs.size (bindL (envOfC qual scope s.heap.objs.size f cd).kindOf (ps.zip us) fun _=>none) (cellsFrom (s.heap.objs.size+1) scope.names []) (bindC (envOfC qual scope s.heap.objs.size f cd).kindOf (ps.zip us) fun _=>none) s1):
  Inv (cxOf CX P w K mg base N qual scope f cd A outer s H E) [] (start N vs) H s1:=by
 have hpl:ps.length≤N.length:=by have:=congrArg List.length S.pre;rw[List.length_take]at this;omega
 obtain⟨h1,tk,rfl,hk⟩:=x.done
 have noA:∀b:Addr,b∉(cxOf CX P w K mg base N qual scope f cd A outer s H E).ex:=fun b z=>absurd (show b∈([]:List Addr) from z) (by simp)
 refine⟨⟨e0.mod,S.kind,rfl,rfl,Nat.le_refl _,fun y z c h1 h2 => ?_,fun y hy => ?_,fun y c _ h => ?_,fun _=>hd,Around.frames_deeper e0.frames,.inr ⟨rfl,rfl⟩,fun b z=>absurd z (noA b),e0.bs,e0.bsz,fun b _ _=>noA b,fun b z=>absurd z (noA b),e0.funs,e0.frf⟩,
  rfl,e0.bare,Un.kept hk,⟨_,x.toInCall.ns,fun i y v h1 h2 h3 => ?_⟩,fun y c h=>⟨_,x.cell y c h⟩,e0.hok.fresh (Nat.le_refl _),fun y c h => ?_,fun p hp=>absurd (show p∈([]:Lo) from hp) (by simp),e0.hok.kept hk,?_⟩
 ·exact name_of_addr x.apart (PySem.mem_of_lookup h1) (PySem.mem_of_lookup h2)
 ·have hy:scope.names.lookup y=some .cell∨scope.names.lookup y=some .free:=hy
  rcases hy with hy | hy
  ·exact cell_has hy
  ·exact absurd rfl (S.nofree _ (PySem.mem_of_lookup hy))
 ·exact Nat.le_of_lt (x.above y c (PySem.mem_of_lookup h))
 ·have hi:i<vs.length:=by
   unfold start at h2
   by_cases hi:i<vs.length
   ·exact hi
   ·rw[List.getElem?_append_right (by simpa using hi)]at h2
    rw[List.getElem?_replicate]at h2
    split at h2<;>cases h2
  have ha:vs[i]?=some v:=by
   unfold start at h2
   rw[List.getElem?_append_left (by simpa using hi),List.getElem?_map]at h2
   cases e:vs[i]? with
   | none=>rw[e]at h2;cases h2
   | some a=>rw[e]at h2;cases h2;rfl
  obtain⟨u,hu,rv⟩:=r.get ha
  have hp:ps[i]?=some y:=by
   rw[←S.pre,List.getElem?_take_of_lt (by omega)];exact h1
  have ndP:ps.Nodup:=by rw[←S.pre];exact S.nd.sublist (List.take_sublist _ _)
  refine⟨u,rv,?_⟩
  rcases S.par y (List.mem_of_getElem? hp) with k | k
  ·exact .inl ⟨k,bindL_get ndP hp hu k⟩
  ·obtain⟨c,e⟩:=cell_has (n:=s.heap.objs.size+1) k
   refine .inr ⟨.inl k,c,e,?_⟩
   have q:=x.cell y c e
   rw[bindC_get ndP hp hu (by show scope.names.lookup y≠_;rw[k];decide)]at q
   exact q
 ·exact e0.hok.fresh (Nat.le_of_lt (x.above y c (PySem.mem_of_lookup h)))
 ·unfold start
  show _=N.length
  rw[List.length_append,List.length_map,List.length_replicate]
  omega
theorem fn_of {CX:CXT}{P:Program}{w:World}{K:Wf}{mg:So}{base:Heap}{k:Nat}{f:Addr}{name qual:Str}{params:Arguments}{body:List Stmt}{scope:Scope}{dV kV doc pm cdv ct oc:Value}{an od:Option Addr}
  {osl:Array (Option Value)}{N ps:List Str}{sp:Sp}(lk:K.lookup f=some ⟨oc,od,.func (PySem.W.fnOf name qual params body scope dV kV doc pm an cdv ct),osl⟩) (hcd:PySem.W.codeIn K cdv qual=true) (S:FnScope N ps scope)
  (len:∀vs H Q E,sp vs H Q E→vs.length=ps.length)
  (hbody:∀(A:Around) (outer:List Env) (s:Shared) (H:Hp) (vs:List V) (Q:VK) (E:XK),Room k (A.deeper (envOfC qual scope s.heap.objs.size f cdv))→sp vs H Q E→
   ∃t,PSs (cxOf CX P w K mg base N qual scope f cdv A outer s H E) body t∧t { nx:=fun _ H'=>Q .non H',rt:=Q } (start N vs) H):
  FnOk P w K mg base CX (k+1) f (PySem.W.fnOf name qual params body scope dV kV doc pm an cdv ct) ps sp:=by
 refine⟨len,fun A outer s H args us vs Q E hr e0 hb r hsp => ?_⟩
 have hl:=len _ _ _ _ hsp
 have KX:K.In s.heap:=e0.mod.kin.keeps fun b o e=>(e0.bs b o e).1
 have lim:s.heap.NoLimit:=e0.mod.nolimit.keeps fun b o e=>(e0.bs b o e).1
 have hkind:∀y∈ps.zip us,scope.names.lookup y.1=some .local∨(scope.names.lookup y.1=some .cell∧((cellsFrom (s.heap.objs.size+1) scope.names []).lookup y.1).isSome=true):=fun⟨n,v⟩ hy=>by
  rcases S.par n (List.of_mem_zip hy).1 with q | q
  ·exact .inl q
  ·exact .inr ⟨q,PySem.W.cellsFrom_some _ _ _ (.inl q)⟩
 refine codeAny_call_function hr.depth (KX _ _ lk) rfl S.co S.gen rfl (PySem.W.codeRec_of KX hcd) (hb _ _ _ _ ?_)
 refine wpAny_newFunctionEnv_cells S.kind hkind fun env he s1 x => ?_
 subst he
 refine⟨lim.keeps x.toInCall.keep,codeAny_func ?_⟩
 obtain⟨t,ht,hq⟩:=hbody A outer s H vs Q E (hr.deeper _) hsp
 have I:Inv (cxOf CX P w K mg base N qual scope f cdv A outer s H E) [] (start N vs) H s1:=inv_start S hr.hd e0 hl r x
 refine wpAny_mono (ht [] s1 (start N vs) H _ I hq) (fun fl s' hs => ?_) fun e s' hs=>hs
 have fin:∀{σ':St}{H':Hp}{v:V}{u:Value},Inv (cxOf CX P w K mg base N qual scope f cdv A outer s H E) [] σ' H' s'→RelV v u→Q v H'→CE outer P w H s Q u s':=
  fun {σ' H' v u} J rv q=>⟨v,H',J.os,J.bare,J.base,J.hok,rv,q⟩
 cases fl with
 | ret u=>
  obtain⟨v,σ',H',J,rv,q⟩:=hs
  exact fin J rv q
 | next=>
  obtain⟨σ',H',J,q⟩:=hs
  exact fin (v:=V.non) (u:=Value.none) J rfl q
 | brk=>
  obtain⟨_,_,_,q⟩:=hs
  exact False.elim q
 | cont=>
  obtain⟨_,_,_,q⟩:=hs
  exact False.elim q
end L2
namespace L2
open PySem PySem.Spec PyProof.Rows
section
variable {X:Cx}{x:Str}{p pos:Pos}{e:Expr}{es:List Expr}{t:TA}{id T:String}{r:List V→Hp→VK→Prop}
def tCB (r:List V→Hp→VK→Prop) (t:TA):TE:=fun σ H Q=>t σ H fun vs H1=>r vs H1 Q
theorem zz6 (hc:CallR X (.builtin id) r) (hg:Gl X x) (hm:X.mg x=none) (hv:bootBuiltins x=some (.builtin id)) (ha:PA X (e::es) t) (hn:x ≠ "__name__" := by decide) (hdb:(x == ("__debug__" : Str))=false:=by decide)
  (he:starEach (e::es) X.env=(false,eval e X.env)::starEach es X.env:=by rfl) (hpl:(backTo pos (starEach es X.env)).any (·.1)=false:=by rfl):PE X (.Call (.Name x p) (e::es) [] pos) (tCB r t):=by
 intro pins s σ H Q I h
 refine wpAny_Call_Name_kw (ld_blt I hg hm hv ?_ hn hdb)
 exact PyProof.Rows.callWith_builtin1 (thn (ha pos pins s σ H _ I h) fun us s1 ⟨vs,H1,I1,r1,q1⟩=>hc pins s1 σ H1 vs us Q I1 r1 q1) he hpl
theorem pe_callTy (hc:CallR X (.type T) r) (hg:Gl X x) (hm:X.mg x=none) (hv:bootBuiltins x=some (.type T)) (ha:PA X (e::es) t) (hn:x ≠ "__name__" := by decide) (hdb:(x == ("__debug__" : Str))=false:=by decide)
  (he:starEach (e::es) X.env=(false,eval e X.env)::starEach es X.env:=by rfl) (hpl:(backTo pos (starEach es X.env)).any (·.1)=false:=by rfl):PE X (.Call (.Name x p) (e::es) [] pos) (tCB r t):=by
 intro pins s σ H Q I h
 refine wpAny_Call_Name_kw (ld_blt I hg hm hv ?_ hn hdb)
 exact PyProof.Rows.callWith_type1 (thn (ha pos pins s σ H _ I h) fun us s1 ⟨vs,H1,I1,r1,q1⟩=>hc pins s1 σ H1 vs us Q I1 r1 q1) he hpl
end
end L2
namespace HT
open PySem PyProof.Rows
section
open PySem.SeqAt
open PySem.AutoSeq1 (wpAny_loadPart')
open PySem.MeetsSeq PySem.MeetsSeq2 PySem.MeetsSeq3
end
section
variable {prog:Program}{w:World}{A:Around}{E:Vs}{s:Shared}
theorem cat_tup {t b:Addr}{vs ws:List Value}{Q:Vs}(ht:IsTup s.heap t vs.toArray) (hb:IsTup s.heap b ws.toArray) (hv:vs≠[])
  (h1:ws=[]→Q (.ref t) s) (h2:ws≠[]→Q (.ref s.heap.objs.size) { s with heap:=s.heap.push { cls:=.type "tuple", data:=.seq (vs++ws).toArray } })
  (hsz:vs.length+ws.length≤sizeLine):wpAny (model prog w) A (binaryOp .Add (.ref t) (.ref b)) Q E s:=by
 obtain⟨⟨cls,dd,data,sl⟩,ho,hc,n,hd⟩:=id ht
 obtain⟨⟨cls2,dd2,data2,sl2⟩,ho2,hc2,n2,hd2⟩:=id hb
 simp only at hc hd hc2 hd2
 subst hc hd hc2 hd2
 have e:vs.toArray++ws.toArray=(vs++ws).toArray:=by simp
 by_cases hw:ws=[]
 ·exact concat_meets ⟨_,ho,rfl⟩ ⟨_,ho2,rfl⟩ noFill_tuple_add seq_tuple_add PySem.F.slot_tuple_add PySem.F.entry_tuple_add (PySem.F.args_tuple_add_2 _ _)
   (tuple_addW1 t b vs.toArray ws.toArray n n2 dd dd2 sl sl2 (by simpa using hv) (by simp[hw])) ⟨ho,ho2,h1 hw⟩
 ·refine concat_meets ⟨_,ho,rfl⟩ ⟨_,ho2,rfl⟩ noFill_tuple_add seq_tuple_add PySem.F.slot_tuple_add PySem.F.entry_tuple_add (PySem.F.args_tuple_add_2 _ _)
   (tuple_addW2 t b vs.toArray ws.toArray n n2 dd dd2 sl sl2 (by simpa using hv) (by simpa using hw) (by rw[List.size_toArray,List.size_toArray];exact hsz)) ⟨ho,ho2,?_⟩
  rw[e]
  exact h2 hw
noncomputable def sIx (n d:Nat):Option Int→Nat
 | none=>d
 | some v=>if v<0 then (v+(n:Int)).toNat else min v.toNat n
theorem sIx_nat (n d k:Nat):sIx n d (some (k:Int))=min k n:=by
 show (if (k:Int)<0 then ((k:Int)+(n:Int)).toNat else min (k:Int).toNat n)=min k n
 rw[if_neg (by omega),Int.toNat_natCast]
end
end HT
namespace L2
open PySem PySem.Spec PyProof.Rows
noncomputable abbrev TO:=St→Hp→(Option Int→Hp→Prop)→Prop
def PO (X:Cx) (e:Option Expr) (t:TO):Prop:=
 ∀(pins:Lo) (s:Shared) (σ:St) (H:Hp) (Q:Option Int→Hp→Prop),Inv X pins σ H s→t σ H Q→
  wpAny (model X.prog X.w) X.A (evalPart e X.env) (fun u s'=>∃o H',Inv X pins σ H' s'∧IsPart u o∧Q o H') X.xe s
noncomputable def tNoPart:TO:=fun _ H Q=>Q none H
noncomputable def tPart (t:TE):TO:=fun σ H Q=>t σ H fun x H1=>∃i,x=.int i∧Q (some i) H1
section
variable {X:Cx}{e:Expr}{te:TE}{lo hi:Option Expr}{tl th:TO}{pos p2:Pos}
theorem po_none:PO X none tNoPart:=by
 intro pins s σ H Q I h
 rw[evalPart_none]
 exact wpAny_pure ⟨none,H,I,.none,h⟩
theorem po_some (h:PE X e te):PO X (some e) (tPart te):=by
 intro pins s σ H Q I hw
 rw[evalPart_some]
 refine thn (h pins s σ H _ I hw) fun u s1 ⟨x,H1,I1,r1,q1⟩ => ?_
 obtain⟨i,rfl,q⟩:=q1
 obtain⟨t,rfl⟩:=r1
 exact⟨some i,H1,I1,.int i t,q⟩
def SlR (X:Cx) (r:V→Option Int→Option Int→Hp→VK→Prop):Prop:=
 ∀(pins:Lo) (s:Shared) (σ:St) (H:Hp) (x:V) (v vl vu:Value) (lo hi:Option Int) (sl:Addr) (Q:VK),Inv X pins σ H s→RelV x v→s.heap.IsSliceOf sl vl vu .none→IsPart vl lo→IsPart vu hi→r x lo hi H Q→
  ∃T id,typeLookup (.type T) "__getitem__" = pure (some (.builtin id))∧s.TypeIs v T∧wpAny (model X.prog X.w) X.A (getItem v (.ref sl)) (EP X pins σ Q) X.xe s
def tSl (r:V→Option Int→Option Int→Hp→VK→Prop) (te:TE) (tl th:TO):TE:=fun σ H Q=>te σ H fun x H1=>tl σ H1 fun l H2=>th σ H2 fun u H3=>r x l u H3 Q
theorem pe_slice {r:V→Option Int→Option Int→Hp→VK→Prop}(hr:SlR X r) (he:PE X e te) (hl:PO X lo tl) (hu:PO X hi th):PE X (.Subscript e (.Slice lo hi none p2) pos) (tSl r te tl th):=by
 intro pins s σ H Q I h
 refine Subscript_ (thn (he pins s σ H _ I h) fun v s1 ⟨x,H1,I1,r1,q1⟩ => ?_)
 refine wpAny_Slice (thn (hl pins s1 σ H1 _ I1 q1) fun vl s2 ⟨l,H2,I2,pl,q2⟩=>thn (hu pins s2 σ H2 _ I2 q2) fun vu s3 ⟨u,H3,I3,pu,q3⟩ => ?_)
 rw[evalPart_none]
 refine wpAny_pure ?_
 have I4:Inv X pins σ H3 { s3 with heap:=s3.heap.push { cls:=.type "slice", data:=.fields #[vl,vu,.none] } }:=I3.kept (t':=s3.toks) fun b ob q=>Heap.get?_push_of_some _ q
 obtain⟨T,id,hT,ht,hg⟩:=hr pins { s3 with heap:=s3.heap.push { cls:=.type "slice", data:=.fields #[vl,vu,.none] } } σ H3 x v vl vu l u s3.heap.objs.size Q I4 r1 (Heap.IsSliceOf.new ..) pl pu q3
 show wpAny (model X.prog X.w) X.A (subscriptTail e (.Slice lo hi none p2) v (.ref s3.heap.objs.size)) (EP X pins σ Q) X.xe { s3 with heap:=s3.heap.push { cls:=.type "slice", data:=.fields #[vl,vu,.none] } }
 exact tail_any (ops:=[.ref s3.heap.objs.size,v]) ht hT hg (by with_unfolding_all rfl)
noncomputable def cutV (xs:List V) (lo hi:Option Int):List V:=(xs.drop (HT.sIx xs.length 0 lo)).take (HT.sIx xs.length xs.length hi - HT.sIx xs.length 0 lo)
theorem cutV_length (xs:List V) (lo hi:Option Int):(cutV xs lo hi).length≤xs.length:=by
 unfold cutV
 rw[List.length_take,List.length_drop]
 omega
noncomputable def rSlT (K:Wf):V→Option Int→Option Int→Hp→VK→Prop:=fun x lo hi H Q=>∃a xs,x=.ref a∧SqT K H a xs∧
 ¬(HT.sIx xs.length 0 lo=0∧HT.sIx xs.length xs.length hi=xs.length)∧∀p,H p=none→Q (.ref p) (upd H p (.tup (cutV xs lo hi)))
def rCatT (K:Wf):R2:=fun x y H Q=>∃a b xs ys,x=.ref a∧y=.ref b∧SqT K H a xs∧SqT K H b ys∧xs≠[]∧xs.length+ys.length≤sizeLine∧
 (ys=[]→Q (.ref a) H)∧(ys≠[]→∀p,H p=none→Q (.ref p) (upd H p (.tup (xs++ys))))
theorem Vals.nil_iff {xs:List V}{us:List Value}(r:Vals xs us):us=[]↔xs=[]:=by
 cases r with
 | nil=>simp
 | cons _ _=>simp
theorem op_catT:OpR X (binaryOp .Add) (rCatT X.K):=by
 intro pins s σ H x y v u Q I rx ry h
 obtain⟨a,b,xs,ys,rfl,rfl,ha,hb,hx,hz,q1,q2⟩:=h
 cases rx
 cases ry
 obtain⟨its,r1,p1,_⟩:=I.tuple ha
 obtain⟨its2,r2,p2,_⟩:=I.tuple hb
 refine HT.cat_tup p1 p2 (fun z=>hx (r1.nil_iff.mp z)) (fun z=>⟨.ref a,H,I,rfl,q1 (r2.nil_iff.mp z)⟩) (fun z => ?_) (by rw[←r1.length,←r2.length];exact hz)
 refine⟨.ref s.heap.objs.size,_,I.laid (t':=s.toks) (o:=.tup (xs++ys)) (fun b ob q=>Heap.get?_push_of_some _ q) (Nat.le_refl _) ?_,rfl,q2 (fun w=>z (r2.nil_iff.mpr w)) _ (I.hok.fresh (Nat.le_refl _))⟩
 exact⟨by rw[List.length_append];exact hz,_,r1.append r2,IsTup.new _ _⟩
end
end L2
namespace L2
open PySem PySem.Spec PyProof.Rows
noncomputable def ixN (n:Nat) (i:Int):Option Nat:=if 0≤i then (if i<n then some i.toNat else none) else if -(n:Int)≤i then some (i+n).toNat else none
noncomputable def atI {α:Type}(xs:List α) (i:Int):Option α:=(ixN xs.length i).bind fun j=>xs[j]?
theorem ixN_seq {n:Nat}{i:Int}{j:Nat}(h:ixN n i=some j):seqIndex? i n=some j∧j<n ∧ -(n:Int)≤i∧i<n:=by
 unfold ixN at h
 by_cases h0:0≤i
 ·rw[if_pos h0]at h
  by_cases h1:i<n
  ·rw[if_pos h1]at h
   have e:i.toNat=j:=Option.some.inj h
   exact⟨by rw[seqIndex_of h0 h1,e],by omega,by omega,h1⟩
  ·rw[if_neg h1]at h;cases h
 ·rw[if_neg h0]at h
  by_cases h1 : -(n:Int)≤i
  ·rw[if_pos h1]at h
   have e:(i+n).toNat=j:=Option.some.inj h
   exact⟨by rw[seqIndex_neg (by omega) h1,e],by omega,h1,by omega⟩
  ·rw[if_neg h1]at h;cases h
theorem atI_get {α:Type}{xs:List α}{i:Int}{v:α}(h:atI xs i=some v):∃j,seqIndex? i xs.length=some j∧xs[j]?=some v∧j<xs.length ∧ -(xs.length:Int)≤i∧i<xs.length:=by
 unfold atI at h
 cases e:ixN xs.length i with
 | none=>rw[e]at h;cases h
 | some j=>
  rw[e]at h
  obtain⟨h1,h2,h3,h4⟩:=ixN_seq e
  exact⟨j,h1,h,h2,h3,h4⟩
theorem atI_nat {α:Type}{xs:List α}{j:Nat}{v:α}(h:xs[j]?=some v):atI xs (j:Int)=some v:=by
 have hj:j<xs.length:=(List.getElem?_eq_some_iff.mp h).1
 have e:ixN xs.length (j:Int)=some j:=by
  unfold ixN
  rw[if_pos (by omega),if_pos (by omega)];simp
 unfold atI;rw[e];exact h
theorem atI_last {α:Type}(xs:List α) (v:α):atI (xs++[v]) (-1)=some v:=by
 have hl:(xs++[v]).length=xs.length+1:=by simp
 have e:ixN (xs++[v]).length (-1)=some xs.length:=by
  unfold ixN
  rw[hl,if_neg (by decide),if_pos (by omega)]
  congr 1
  omega
 unfold atI
 rw[e]
 show (xs++[v])[xs.length]?=some v
 simp
def PlainIx (b:Expr):Prop:=∀o i,subscripted b false o i=operate [o,i] (getItem o i)
def IxR (X:Cx) (r:R2):Prop:=
 ∀(value slice:Expr) (pins:Lo) (s:Shared) (σ:St) (H:Hp) (x y:V) (v u:Value) (Q:VK),Inv X pins σ H s→RelV x v→RelV y u→r x y H Q→
  subscripted slice false v u=operate [v,u] (getItem v u)→wpAny (model X.prog X.w) X.A (subscriptTail value slice v u) (EP X pins σ Q) X.xe s
def MtR (X:Cx) (id:String) (r:V→List V→Hp→VK→Prop):Prop:=
 ∀(pins:Lo) (s:Shared) (σ:St) (H:Hp) (x:V) (xs:List V) (v:Value) (us:List Value) (Q:VK),Inv X pins σ H s→RelV x v→Vals xs us→r x xs H Q→
  wpAny (model X.prog X.w) X.A (call (.builtin id) (v::us)) (EP X pins σ Q) X.xe s
section
variable {X:Cx}{a b:Expr}{ta tb:TE}{pos:Pos}
theorem pe_ix {r:R2}(hr:IxR X r) (ha:PE X a ta) (hb:PE X b tb) (hs:PlainIx b):PE X (.Subscript a b pos) (tOp r ta tb):=by
 intro pins s σ H Q I h
 exact Subscript_ (binT ha hb I h fun v u s2 x y H2 I2 rx ry q=>hr a b pins s2 σ H2 x y v u Q I2 rx ry q (hs _ _))
def rIxL (K:Wf):R2:=fun x y H Q=>∃p xs i v,x=.ref p∧y=.int i∧SqL K H p xs∧atI xs i=some v∧Q v H
def rIxT (K:Wf):R2:=fun x y H Q=>∃p xs i v,x=.ref p∧y=.int i∧SqT K H p xs∧atI xs i=some v∧Q v H
def rIxS:R2:=fun x y H Q=>∃z i c,x=.str z∧y=.int i∧z.length≤sizeLine∧atI z.cps.toList i=some c∧Q (.str ⟨#[c]⟩) H
theorem ix_list:IxR X (rIxL X.K):=by
 intro value slice pins s σ H x y v u Q I rx ry h hs
 obtain⟨p,xs,i,z,rfl,rfl,hq,he,q⟩:=h
 cases rx
 obtain⟨t,rfl⟩:=ry
 obtain⟨its,r,pl,hz⟩:=I.list hq
 obtain⟨j,h1,h2,h3,h4,h5⟩:=atI_get he
 obtain⟨w,ew,rw'⟩:=r.get h2
 have hl:=r.length
 have hn:=line63
 have fin:EP X pins σ Q w s:=⟨z,H,I,rw',q⟩
 by_cases h0:0≤i
 ·have hj:i.toNat=j:=by
   rw[seqIndex_of h0 h5]at h1
   exact Option.some.inj h1
  exact item_listR pl.isList h0 (by omega) (by rw[hj];simpa using ew) fin hs
 ·have hj:(i+(its.toArray.size:Int)).toNat=j:=by
   rw[seqIndex_neg (by omega) h4]at h1
   rw[List.size_toArray,←hl]
   exact Option.some.inj h1
  exact subscriptTail_builtinR (x:=w) pl.isList.typeIs slot_list_getitem.lookup
   (wpAny_getItem_list_neg (Q:=fun r s'=>r=w∧EP X pins σ Q r s') pl.isList (by omega) (by rw[List.size_toArray]<;>omega) (by omega) (by rw[hj];simpa using ew) ⟨rfl,fin⟩) hs
theorem ix_tup:IxR X (rIxT X.K):=by
 intro value slice pins s σ H x y v u Q I rx ry h hs
 obtain⟨p,xs,i,z,rfl,rfl,hq,he,q⟩:=h
 cases rx
 obtain⟨t,rfl⟩:=ry
 obtain⟨its,r,pl,hz⟩:=I.tuple hq
 obtain⟨j,h1,h2,h3,h4,h5⟩:=atI_get he
 obtain⟨w,ew,rw'⟩:=r.get h2
 have hl:=r.length
 have hn:=line63
 have fin:EP X pins σ Q w s:=⟨z,H,I,rw',q⟩
 exact subscriptTail_builtinR (x:=w) pl.typeIs slot_tuple_getitem.lookup
  (getItem_tuple (j:=j) (Q:=fun r s'=>r=w∧EP X pins σ Q r s') pl (by omega) (by omega) (by rw[List.size_toArray,←hl];exact h1) (by simpa using ew) ⟨rfl,fin⟩) hs
theorem ix_str:IxR X rIxS:=by
 intro value slice pins s σ H x y v u Q I rx ry h hs
 obtain⟨z,i,c,rfl,rfl,hz,he,q⟩:=h
 obtain⟨t,rfl⟩:=rx
 obtain⟨t',rfl⟩:=ry
 obtain⟨j,h1,h2,h3,h4,h5⟩:=atI_get he
 have hl:z.cps.toList.length=z.length:=by simp[Str.length]
 rw[hl]at h1 h4 h5
 have hn:=line63
 exact tail_any (typeIs_str s z t) slot_str_getitem.lookup (getItem_str (c:=c) (by
  have e1:decide (i < -(2 ^ 63:Int))=false:=decide_eq_false (by omega)
  have e2:decide (i≥2 ^ 63)=false:=decide_eq_false (by omega)
  rw[e1,e2,Bool.or_false]) (by rw[h1];simpa using h2) ⟨.str ⟨#[c]⟩,H,I.tok _,⟨_,rfl⟩,q⟩) hs
theorem slice_bounds (lo hi:Option Int) (n:Nat):(sliceBounds lo hi none n).1=((HT.sIx n 0 lo:Nat):Int)∧(sliceBounds lo hi none n).2.1=((HT.sIx n n hi:Nat):Int)∧(sliceBounds lo hi none n).2.2=1:=by
 refine⟨?_,?_,rfl⟩
 ·cases lo with
  | none=>simp[sliceBounds,HT.sIx]
  | some i=>
   simp only[sliceBounds,HT.sIx,Option.getD_none,show (1:Int)>0 by decide,if_true]
   by_cases h:i<0
   ·simp only[h,if_true]<;>omega
   ·simp only[h,if_false]<;>omega
 ·cases hi with
  | none=>simp[sliceBounds,HT.sIx]
  | some i=>
   simp only[sliceBounds,HT.sIx,Option.getD_none,show (1:Int)>0 by decide,if_true]
   by_cases h:i<0
   ·simp only[h,if_true]<;>omega
   ·simp only[h,if_false]<;>omega
theorem slicePick_cut (its:List Value) (lo hi:Option Int):slicePick its.toArray lo hi none=((its.drop (HT.sIx its.length 0 lo)).take (HT.sIx its.length its.length hi - HT.sIx its.length 0 lo)).toArray:=by
 obtain⟨h1,h2,h3⟩:=slice_bounds lo hi its.toArray.size
 unfold slicePick
 rw[h1,h2,h3]
 simp only[sliceRange_one,pick_run,List.size_toArray]<;>rfl
noncomputable def rSlL (K:Wf):V→Option Int→Option Int→Hp→VK→Prop:=fun x lo hi H Q=>∃a xs,x=.ref a∧SqL K H a xs∧∀p,H p=none→Q (.ref p) (upd H p (.lst (cutV xs lo hi)))
theorem sl_list:SlR X (rSlL X.K):=by
 intro pins s σ H x v vl vu lo hi sl Q I rx hs pl pu h
 obtain⟨a,xs,rfl,hx,q⟩:=h
 cases rx
 obtain⟨its,r,ht,hz⟩:=I.list hx
 have hlen:=r.length
 refine⟨"list", _,slot_list_getitem.lookup,ht.isList.typeIs,?_⟩
 refine wpAny_getItem_list_slice ht.isList hs pl pu .none (by simp) ?_ (by rw[List.size_toArray]<;>omega)
 rw[slicePick_cut,←hlen]
 refine⟨.ref s.heap.objs.size,_,I.laid (t':=s.toks) (o:=.lst (cutV xs lo hi)) (fun b ob q=>Heap.get?_push_of_some _ q) (Nat.le_refl _) ?_,rfl,q _ (I.hok.fresh (Nat.le_refl _))⟩
 exact⟨Nat.le_trans (cutV_length xs lo hi) hz,_,0,(r.drop (HT.sIx xs.length 0 lo)).take (HT.sIx xs.length xs.length hi - HT.sIx xs.length 0 lo),Heap.get?_push_size _ rfl⟩
noncomputable def flatV:V→Bool
 | .non=>true
 | .bl _=>true
 | .int _=>true
 | .str _=>true
 | _=>false
noncomputable def eqV:V→V→Bool
 | .non,.non=>true
 | .bl a,.bl b=>a == b
 | .bl a,.int b=>(if a then 1 else 0) == b
 | .int a,.bl b=>a == (if b then 1 else 0)
 | .int a,.int b=>a == b
 | .str a,.str b=>a == b
 | _,_=>false
theorem eqAt_V {A:Around}{s:Shared}{y x:V}{u v:Value}(ry:RelV y u) (rx:RelV x v) (fy:flatV y=true) (fx:flatV x=true):SeqAt.EqAt A s u v (eqV y x):=by
 cases y with
 | non=>
  cases ry
  cases x with
  | non=>cases rx;exact SeqAt.EqAt.same _
  | bl b=>cases rx;exact SeqAt.EqAt.none_bool b
  | int b=>obtain⟨t,rfl⟩:=rx;exact SeqAt.EqAt.none_int b t
  | str b=>obtain⟨t,rfl⟩:=rx;exact SeqAt.EqAt.none_str b t
  | _=>exact absurd (show false=true from fx) Bool.false_ne_true
 | bl a=>
  cases ry
  cases x with
  | non=>cases rx;exact SeqAt.EqAt.bool_none a
  | bl b=>cases rx;exact SeqAt.EqAt.bool_bool a b
  | int b=>obtain⟨t,rfl⟩:=rx;exact SeqAt.EqAt.bool_int a b t
  | str b=>obtain⟨t,rfl⟩:=rx;exact SeqAt.EqAt.bool_str a b t
  | _=>exact absurd (show false=true from fx) Bool.false_ne_true
 | int a=>
  obtain⟨t',rfl⟩:=ry
  cases x with
  | non=>cases rx;exact SeqAt.EqAt.int_none a t'
  | bl b=>cases rx;exact SeqAt.EqAt.int_bool a t' b
  | int b=>obtain⟨t,rfl⟩:=rx;exact SeqAt.EqAt.int_int a t' b t
  | str b=>obtain⟨t,rfl⟩:=rx;exact SeqAt.EqAt.int_str a t' b t
  | _=>exact absurd (show false=true from fx) Bool.false_ne_true
 | str a=>
  obtain⟨t',rfl⟩:=ry
  cases x with
  | non=>cases rx;exact SeqAt.EqAt.str_none a t'
  | bl b=>cases rx;exact SeqAt.EqAt.str_bool a t' b
  | int b=>obtain⟨t,rfl⟩:=rx;exact SeqAt.EqAt.str_int a t' b t
  | str b=>obtain⟨t,rfl⟩:=rx;exact SeqAt.EqAt.str_str a t' b t
  | _=>exact absurd (show false=true from fx) Bool.false_ne_true
 | _=>exact absurd (show false=true from fy) Bool.false_ne_true
noncomputable def eqU (x:V) (u:Value):Bool:=match u with
 | .none=>eqV .non x
 | .bool b=>eqV (.bl b) x
 | .int i _=>eqV (.int i) x
 | .str z _=>eqV (.str z) x
 | _=>false
theorem eqU_of {x y:V}{u:Value}(r:RelV y u) (f:flatV y=true):eqU x u=eqV y x:=by
 cases y with
 | non=>cases r;rfl
 | bl b=>cases r;rfl
 | int i=>obtain⟨t,rfl⟩:=r;rfl
 | str z=>obtain⟨t,rfl⟩:=r;rfl
 | _=>exact absurd (show false=true from f) Bool.false_ne_true
theorem any_eqU {x:V}:∀{xs:List V}{us:List Value},Vals xs us→xs.all flatV=true→us.any (eqU x)=xs.any fun y=>eqV y x
 | _,_,.nil,_=>rfl
 | y::xs,u::us,.cons r t,f=>by
  rw[List.all_cons,Bool.and_eq_true]at f
  rw[List.any_cons,List.any_cons,eqU_of r f.1,any_eqU t f.2]
theorem mem_eqAt {A:Around}{s:Shared}{x:V}{v:Value}(rx:RelV x v) (fx:flatV x=true):∀{xs:List V}{us:List Value},Vals xs us→xs.all flatV=true→∀u∈us,SeqAt.EqAt A s u v (eqU x u)
 | _,_,.nil,_=>fun u hu=>by cases hu
 | y::xs,u::us,.cons r t,f=>fun u' hu=>by
  rw[List.all_cons,Bool.and_eq_true]at f
  rcases List.mem_cons.mp hu with rfl | hu
  ·rw[eqU_of r f.1];exact eqAt_V r rx f.1 fx
  ·exact mem_eqAt rx fx t f.2 u' hu
noncomputable def inV (x:V) (xs:List V):Bool:=xs.any fun y=>eqV y x
def rIn (K:Wf) (neg:Bool):R2:=fun x y H Q=>∃p xs,y=.ref p∧(SqL K H p xs∨SqT K H p xs)∧flatV x=true∧xs.all flatV=true∧Q (.bl (if neg then !inV x xs else inV x xs)) H
theorem op_in_seq:OpR X (compareOp .In) (rIn X.K false):=by
 intro pins s σ H x y v u Q I rx ry h
 obtain⟨p,xs,rfl,hq,fx,fs,q⟩:=h
 cases ry
 rcases hq with hq | hq
 ·obtain⟨its,r,pl,hz⟩:=I.list hq
  refine SeqAt.in_listAt (eqU x) pl.isList (fun w hw=>mem_eqAt rx fx r fs w (by simpa using hw)) ⟨.bl _,H,I,rfl,?_⟩
  rw[show its.toArray.any (eqU x)=its.any (eqU x) by simp,any_eqU r fs]
  exact q
 ·obtain⟨its,r,pl,hz⟩:=I.tuple hq
  refine SeqAt.in_tupleAt (eqU x) pl (fun w hw=>mem_eqAt rx fx r fs w (by simpa using hw)) ⟨.bl _,H,I,rfl,?_⟩
  rw[show its.toArray.any (eqU x)=its.any (eqU x) by simp,any_eqU r fs]
  exact q
theorem call_list_of:CallR X (.type "list") (fun xs H Q=>∃p ys,xs=[.ref p]∧(SqL X.K H p ys∨SqT X.K H p ys)∧∀l,H l=none→Q (.ref l) (upd H l (.lst ys))):=by
 intro pins s σ H xs us Q I r h
 obtain⟨p,ys,rfl,hq,q⟩:=h
 obtain⟨u,rfl,rx⟩:=vals1 r
 cases rx
 have fin:∀(its:List Value),Vals ys its→ys.length≤sizeLine→∀(h':Heap) (c':Nat),(∀b o',s.heap.get? b=some o'→h'.get? b=some o')→
   h'.get? s.heap.objs.size=some { cls:=.type "list", dict:=none,data:=.seq its.toArray c',slots:=#[] }→EP X pins σ Q (.ref s.heap.objs.size) { s with heap:=h' }:=fun its r' hz h' c' kp e=>
  ⟨.ref s.heap.objs.size,_,I.laid (t':=s.toks) kp (Nat.le_refl _) (show ObjOk X.prog X.w _ h' _ (.lst ys) from ⟨hz,its,c',r',e⟩),rfl,q _ (I.hok.fresh (Nat.le_refl _))⟩
 rcases hq with hq | hq
 ·obtain⟨its,r',pl,hz⟩:=I.list hq
  have hlen:=r'.length
  obtain⟨o,ho,hc,n,hd⟩:=pl.isList
  exact call_list_seq p (.inl rfl) ho hc hd (fun h' c' kp e=>fin its r' hz h' c' kp e) (by simp only[List.size_toArray]<;>omega)
 ·obtain⟨its,r',pl,hz⟩:=I.tuple hq
  have hlen:=r'.length
  obtain⟨o,ho,hc,n,hd⟩:=pl
  exact call_list_seq p (.inr rfl) ho hc hd (fun h' c' kp e=>fin its r' hz h' c' kp e) (by simp only[List.size_toArray]<;>omega)
def tyV (K:Wf) (T:String) (x:V) (H:Hp):Prop:=match x with
 | .str _=>T = "str"
 | .int _=>T = "int"
 | .ref p=>(T = "list" ∧ ∃xs,SqL K H p xs)∨(T = "tuple" ∧ ∃o,K.lookup p=some o∧o.cls=.type "tuple" ∧ o.dict=none) ∨
   (T = "dict" ∧ ((∃kvs,H p=some (.dK kvs))∨∃kvs,H p=some (.dT kvs)))∨(T = "set" ∧ ∃S n,H p=some (.set S n))
 | _=>False
theorem tyV_is {pins:Lo}{σ:St}{H:Hp}{s:Shared}{T:String}{x:V}{v:Value}(I:Inv X pins σ H s) (r:RelV x v) (ty:tyV X.K T x H):
  s.TypeIs v T∧∀a,v=.ref a→∃ob,s.heap.get? a=some ob∧ob.dict=none:=by
 cases x with
 | str z=>
  obtain⟨t,rfl⟩:=r
  cases (show T = "str" from ty)
  exact⟨typeIs_str s z t,fun _ e=>nomatch e⟩
 | int i=>
  obtain⟨t,rfl⟩:=r
  cases (show T = "int" from ty)
  exact⟨typeIs_int s i t,fun _ e=>nomatch e⟩
 | ref p=>
  cases r
  rcases ty with ⟨rfl,xs,hq⟩ | ⟨rfl,o,hk,hc,hd⟩ | ⟨rfl,hk⟩ | ⟨rfl,S,n,hk⟩
  ·obtain⟨its,_,pl,_⟩:=I.list hq
   refine⟨pl.isList.typeIs,fun a e => ?_⟩
   cases e
   obtain⟨o,n,e,c,hd,_⟩:=pl
   exact⟨o,e,hd⟩
  ·refine⟨⟨o,I.kIn p o hk,hc⟩,fun a e => ?_⟩
   cases e
   exact⟨o,I.kIn _ o hk,hd⟩
  ·have z:∃o,s.heap.get? p=some o∧o.ExactDict:=by
    rcases hk with ⟨kvs,hk⟩ | ⟨kvs,hk⟩
    ·obtain⟨_,_,_,_,o,_,_,e,ex,_⟩:=I.hok p _ hk
     exact⟨o,e,ex⟩
    ·obtain⟨_,_,_,_,o,_,_,e,ex,_⟩:=I.hok p _ hk
     exact⟨o,e,ex⟩
   obtain⟨o,e,ex⟩:=z
   refine⟨⟨o,e,ex.1⟩,fun a e2 => ?_⟩
   cases e2
   exact⟨o,e,ex.2.1⟩
  ·obtain⟨o,_,_,_,e,ex,_⟩:=I.hok p _ hk
   refine⟨⟨o,e,ex.1⟩,fun a e2 => ?_⟩
   cases e2
   exact⟨o,e,ex.2.1⟩
 | _=>exact False.elim ty
def tBM (K:Wf) (T:String) (r:V→List V→Hp→VK→Prop) (to:TE) (t:TA):TE:=fun σ H Q=>to σ H fun x H1=>tyV K T x H1∧t σ H1 fun xs H2=>r x xs H2 Q
variable {o e:Expr}{es:List Expr}{to:TE}{t:TA}{name:Str}{apos cpos:Pos}{T id:String}{r:V→List V→Hp→VK→Prop}
theorem pe_bm (pa:PlainAttrs T) (slot:Slot T name id) (hty:typeOf (.builtin id)=pure (.type "method_descriptor")) (hm:MtR X id r) (ho:PE X o to) (ha:PA X (e::es) t)
  (hbase:attributeBase o name X.env (eval o X.env)=eval o X.env:=by rfl)
  (hfew:((backTo cpos (starEach (e::es) X.env)).all (fun x => !x.1)&&(backToKw cpos (keywordEach [] X.env)).all (fun x=>x.1.isSome)
   && decide ((e::es).length+([]:List Keyword).length+(if ([]:List Keyword).isEmpty then 0 else 1)<30))=true:=by rfl)
  (hline:(apos.endLine == cpos.line)=true:=by rfl) (hs:starEach (e::es) X.env=(false,eval e X.env)::starEach es X.env:=by rfl) (hplain:(backTo cpos (starEach es X.env)).any (·.1)=false:=by rfl):
  PE X (.Call (.Attribute o name apos) (e::es) [] cpos) (tBM X.K T r to t):=by
 intro pins s σ H Q I h
 refine wpAny_Call_method_late hbase hfew hline rfl (thn (ho pins s σ H _ I h) fun v s1 ⟨x,H1,I1,r1,ty,q1⟩ => ?_)
 obtain⟨h1,h2⟩:=tyV_is I1 r1 ty
 refine⟨T,id,pa,slot,hty,h1,h2,?_⟩
 have hA:=ha cpos pins s1 σ H1 _ I1 q1
 rw[hs]at hA ⊢
 refine Calls.callWith_builtin (by show (false || (backTo cpos (starEach es X.env)).any (·.1))=false;rw[hplain]<;>rfl) (Calls.evalArgs_plain ?_)
 exact thn hA fun us s2 ⟨vs,H2,I2,r2,q2⟩=>hm pins s2 σ H2 x vs v us Q I2 r1 r2 q2
/- xs.append(e),list.index on a module's tuple .. are MtR facts of 06m -/
end
end L2
namespace L2
open PySem PySem.Spec PyProof.Rows
def MtM (X:Cx) (id:String) (r:V→List V→Hp→VK→Prop):Prop:=
 ∀(pins:Lo) (s:Shared) (σ:St) (H:Hp) (x:V) (xs:List V) (v:Value) (us:List Value) (Q:VK),Inv X pins σ H s→RelV x v→Vals xs us→r x xs H Q→
  wpAny (model X.prog X.w) X.A (call (.builtin id) (v::us)) (EP X pins σ Q) X.xe s
theorem Vals.one:∀{x:V}{us:List Value},Vals [x] us→∃u,us=[u]∧RelV x u
 | _,_,.cons r .nil=>⟨_,rfl,r⟩
section
variable {X:Cx}{pins:Lo}{σ:St}{H:Hp}{s:Shared}{l b:Addr}{xs ys zs:List V}
theorem Inv.lset {its its':List Value}{n:Nat}{f:Array Value→Array Value}{t':Nat}(I:Inv X pins σ H s) (hH:H l=some (.lst xs))
  (e:s.heap.get? l=some { cls:=.type "list", data:=.seq its.toArray n }) (hf:f its.toArray=its'.toArray) (hv:Vals ys its') (hz:ys.length≤sizeLine):
  Inv X pins σ (upd H l (.lst ys)) { s with heap:=s.heap.update l (Obj.mapSeq f),toks:=t' }:=by
 have q:=PySem.IsL.update e f
 rw[hf]at q
 refine I.write (x:=l) (e:=l) (by rw[hH];exact trivial) (.inl rfl) (fun b' u hb hu=>(Heap.get?_update_other s.heap (Obj.mapSeq f) (Ne.symm hb)).trans hu) ⟨_,q⟩ ?_
 exact⟨hz,its',_,hv,q⟩
theorem Inv.lnew {its:List Value}{t':Nat}(I:Inv X pins σ H s) (hv:Vals ys its) (hz:ys.length≤sizeLine):
  Inv X pins σ (upd H s.heap.objs.size (.lst ys)) { s with heap:=s.heap.push { cls:=.type "list", data:=.seq its.toArray },toks:=t' }:=
 I.laid (fun _ _ q=>Heap.get?_push_of_some _ q) (Nat.le_refl _) ⟨hz,its,0,hv,Heap.get?_push_size _ rfl⟩
theorem Inv.fresh (I:Inv X pins σ H s):H s.heap.objs.size=none:=I.hok.fresh (Nat.le_refl _)
theorem Inv.lstM (I:Inv X pins σ H s) (hH:H l=some (.lst xs)):xs.length≤sizeLine∧∃(its:List Value) (n:Nat),Vals xs its∧xs.length=its.length∧s.heap.get? l=some { cls:=.type "list", data:=.seq its.toArray n }:=by
 obtain⟨z,its,n,r,e⟩:=I.hok l _ hH
 exact⟨z,its,n,r,r.length,e⟩
end
section
variable {X:Cx}
noncomputable def rAppend:V→List V→Hp→VK→Prop:=fun x vs H Q=>∃l xs y,x=.ref l∧vs=[y]∧H l=some (.lst xs)∧xs.length<sizeLine∧Q .non (upd H l (.lst (xs++[y])))
theorem mt_append:MtM X "list.append" rAppend:=by
 intro pins s σ H x vs v us Q I rx rv h
 obtain⟨l,xs,y,rfl,rfl,hH,hz,q⟩:=h
 cases rx
 obtain⟨u,rfl,ru⟩:=rv.one
 obtain⟨z,its,n,r,hl,e⟩:=I.lstM hH
 refine call_meets F.slot_list_append ⟨_,e,rfl⟩ F.entry_list_append (F.args_list_append_2 _ _) (PySem.list_append l its.toArray n u (by rw[List.size_toArray];omega)) ⟨e,?_⟩
 refine⟨.non,_,I.lset (its':=its++[u]) hH e (by simp) (r.append (.cons ru .nil)) ?_,rfl,q⟩
 rw[List.length_append,List.length_singleton]
 omega
end
section
variable {prog:Program}{w:World}{A:Around}{E:Vs}{s:Shared}
set_option maxRecDepth 100000 in
end
section
variable {X:Cx}
end
end L2
namespace L2
open PySem PySem.Spec PyProof.Rows
section
variable {κ:Type} [DecidableEq κ]
noncomputable def valV (kvs:List (κ×V)) (k:κ):Option V:=(kvs.find? fun kv=>decide (kv.1=k)).map (·.2)
noncomputable def putK (kvs:List (κ×V)) (k:κ) (v:V):List (κ×V):=
 if (kvs.any fun kv=>decide (kv.1=k))=true then kvs.map (fun kv=>if kv.1=k then (kv.1,v) else kv) else kvs++[(k,v)]
theorem valV_pos {p:κ×V}{r:List (κ×V)}{k:κ}(e:p.1=k):valV (p::r) k=some p.2:=by simp[valV,List.find?_cons,e]
theorem valV_neg {p:κ×V}{r:List (κ×V)}{k:κ}(e:¬p.1=k):valV (p::r) k=valV r k:=by simp[valV,List.find?_cons,e]
theorem valV_any (k:κ):∀kvs:List (κ×V),(kvs.any fun kv=>decide (kv.1=k))=(valV kvs k).isSome
 | []=>rfl
 | p::r=>by
  rw[List.any_cons]
  by_cases e:p.1=k
  ·simp only[valV_pos e,decide_eq_true e,Bool.true_or,Option.isSome_some]
  ·rw[valV_neg e,decide_eq_false e,Bool.false_or];exact valV_any k r
theorem length_putK (kvs:List (κ×V)) (k:κ) (v:V):(putK kvs k v).length≤kvs.length+1:=by
 unfold putK
 split
 ·rw[List.length_map];omega
 ·rw[List.length_append,List.length_cons,List.length_nil];omega
theorem RelO.isSome_eq {o:Option V}{u:Option Value}(r:RelO o u):o.isSome=u.isSome:=by
 cases o with
 | none=>cases u with
  | none=>rfl
  | some _=>exact (show False from r).elim
 | some _=>cases u with
  | none=>exact (show False from r).elim
  | some _=>rfl
theorem KV.val {kvs:List (κ×V)}{vs:List (κ×Value)}(r:KV kvs vs) (k:κ):RelO (valV kvs k) (valueAt vs k):=by
 unfold KV at r
 induction r with
 | nil=>exact True.intro
 | @cons p q ps qs h t ih=>
  obtain⟨h1,h2⟩:=h
  by_cases e:p.1=k
  ·have e':q.1=k:=h1.symm.trans e
   have b:valueAt (q::qs) k=some q.2:=by simp[valueAt,List.find?_cons,e']
   rw[valV_pos e,b];exact h2
  ·have e':¬q.1=k:=fun z=>e (h1.trans z)
   have b:valueAt (q::qs) k=valueAt qs k:=by simp[valueAt,List.find?_cons,e']
   rw[valV_neg e,b];exact ih
theorem KV.any {kvs:List (κ×V)}{vs:List (κ×Value)}(r:KV kvs vs) (k:κ):(kvs.any fun kv=>decide (kv.1=k))=vs.any fun kv=>decide (kv.1=k):=by
 unfold KV at r
 induction r with
 | nil=>rfl
 | cons h t ih=>rw[List.any_cons,List.any_cons,ih,h.1]
theorem KV.repl {kvs:List (κ×V)}{vs:List (κ×Value)}(r:KV kvs vs) (k:κ) {y:V}{u:Value}(ry:RelV y u):
  KV (kvs.map fun kv=>if kv.1=k then (kv.1,y) else kv) (vs.map fun kv=>if kv.1=k then (kv.1,u) else kv):=by
 unfold KV at r ⊢
 induction r with
 | nil=>exact .nil
 | @cons p q ps qs h t ih=>
  rw[List.map_cons,List.map_cons]
  refine .cons ?_ ih
  obtain⟨h1,h2⟩:=h
  by_cases e:p.1=k
  ·rw[if_pos e,if_pos (h1.symm.trans e)];exact⟨h1,ry⟩
  ·rw[if_neg e,if_neg (fun z=>e (h1.trans z))];exact⟨h1,h2⟩
theorem KV.put {kvs:List (κ×V)}{vs:List (κ×Value)}(r:KV kvs vs) (k:κ) {y:V}{u:Value}(ry:RelV y u):KV (putK kvs k y) (stored vs k u):=by
 unfold putK stored
 rw[r.any k]
 by_cases e:(vs.any fun kv=>decide (kv.1=k))=true
 ·rw[if_pos e,if_pos e];exact r.repl k ry
 ·rw[if_neg e,if_neg e];exact Paired.snoc r ⟨rfl,ry⟩
theorem KV.length {kvs:List (κ×V)}{vs:List (κ×Value)}(r:KV kvs vs):kvs.length=vs.length:=Paired.length r
end
theorem kV_is {P:Program}{w:World}{k:Key}{u:Value}(r:RelV (kV k) u):(mixKind P w).is k u=true:=by
 cases k with
 | inl i=>obtain⟨t,e⟩:=(show ∃t,u=Value.int i t from r);subst e;exact mixKind_int P w i t
 | inr x=>obtain⟨t,e⟩:=(show ∃t,u=Value.str x t from r);subst e;exact mixKind_str P w x t
theorem items_are {P:Program}{w:World}:∀{ks:List Key}{us:List Value},Vals (ks.map kV) us→ItemsAre (mixKind P w) ks us
 | [],_,r=>by rw[List.map_nil]at r;cases r;exact .nil
 | k::ks,_,r=>by
  rw[List.map_cons]at r
  cases r with
  | cons h t=>exact .cons (kV_is h) (items_are t)
noncomputable abbrev KT (H:Hp):List (List Key×V)→List (List Key×Addr×Value)→Prop:=Paired fun p q=>p.1=q.1∧H q.2.1=some (.tup (p.1.map kV))∧RelV p.2 q.2.2
theorem KT.val {H:Hp}{kvs:List (List Key×V)}{xs:List (List Key×Addr×Value)}(r:KT H kvs xs) (k:List Key):RelO (valV kvs k) ((atKey xs k).map (·.2)):=by
 induction r with
 | nil=>exact True.intro
 | @cons p q ps qs h t ih=>
  obtain⟨h1,_,h2⟩:=h
  by_cases e:p.1=k
  ·have e':q.1=k:=h1.symm.trans e
   have b:atKey (q::qs) k=some q.2:=by simp[atKey,List.find?_cons,e']
   rw[valV_pos e,b];exact h2
  ·have e':¬q.1=k:=fun z=>e (h1.trans z)
   have b:atKey (q::qs) k=atKey qs k:=by simp[atKey,List.find?_cons,e']
   rw[valV_neg e,b];exact ih
theorem KT.repl {H:Hp}{kvs:List (List Key×V)}{xs:List (List Key×Addr×Value)}(r:KT H kvs xs) (k:List Key) {y:V}{u:Value}(ry:RelV y u):
  KT H (kvs.map fun kv=>if kv.1=k then (kv.1,y) else kv) (xs.map (putAt k u)):=by
 induction r with
 | nil=>exact .nil
 | @cons p q ps qs h t ih=>
  rw[List.map_cons,List.map_cons]
  refine .cons ?_ ih
  obtain⟨h1,h2,h3⟩:=h
  unfold putAt
  by_cases e:p.1=k
  ·rw[if_pos e,if_pos (h1.symm.trans e)];exact⟨h1,h2,ry⟩
  ·rw[if_neg e,if_neg (fun z=>e (h1.trans z))];exact⟨h1,h2,h3⟩
theorem KT.put {H:Hp}{kvs:List (List Key×V)}{xs:List (List Key×Addr×Value)}(r:KT H kvs xs) (k:List Key) {b:Addr}{y:V}{u:Value}(hb:H b=some (.tup (k.map kV))) (ry:RelV y u):
  KT H (putK kvs k y) (storedH xs k b u):=by
 have e:(kvs.any fun kv=>decide (kv.1=k))=(atKey xs k).isSome:=by
  rw[valV_any,(r.val k).isSome_eq,Option.isSome_map]
 unfold putK storedH
 rw[e]
 by_cases q:(atKey xs k).isSome=true
 ·rw[if_pos q,if_pos q];exact r.repl k ry
 ·rw[if_neg q,if_neg q];exact Paired.snoc r ⟨rfl,hb,ry⟩
theorem KT.keeps {H H':Hp}{kvs:List (List Key×V)}{xs:List (List Key×Addr×Value)}(r:KT H kvs xs) (ht:∀b ys,H b=some (.tup ys)→H' b=some (.tup ys)):KT H' kvs xs:=
 Paired.mapP r fun _ _ z=>⟨z.1,ht _ _ z.2.1,z.2.2⟩
section
variable {P:Program}{w:World}{H:Hp}{h:Heap}{a:Addr}
theorem rd_of {u:HO}(ok:HOk P w H h) (e:Rd H a u):ObjOk P w H h a u:=e.ok ok
theorem dk_rd {kvs:List (Key×V)}(ok:HOk P w H h) (e:Rd H a (.dK kvs)):kvs.length≤sizeLine∧(a == sysModules)=false∧∃vs,KV kvs vs∧h.DictOf (mixKind P w) a vs:=
 show ObjOk P w H h a (.dK kvs) from rd_of ok e
theorem dk_of {kvs:List (Key×V)}(ok:HOk P w H h) (e:H a=some (.dK kvs)):kvs.length≤sizeLine∧(a == sysModules)=false∧∃vs,KV kvs vs∧h.DictOf (mixKind P w) a vs:=dk_rd ok (.inl e)
theorem key_of {ks:List Key}(ok:HOk P w H h) (e:H a=some (.tup (ks.map kV))):(tupleKind (mixKind P w)).is h ks a:=by
 obtain⟨_,its,r,o,h1,h2,n,h3⟩:=(show ObjOk P w H h a (.tup (ks.map kV)) from ok a _ e)
 exact⟨o,its.toArray,n,h1,h2,h3,by simpa using items_are r⟩
theorem dt_rd {kvs:List (List Key×V)}(ok:HOk P w H h) (e:Rd H a (.dT kvs)):kvs.length≤sizeLine∧(a == sysModules)=false∧
  ∃xs,KT H kvs xs∧h.DictOfH (tupleKind (mixKind P w)) a xs:=by
 obtain⟨z,y,xs,r,o,es,ep,h1,h2,h3,h4,h5⟩:=(show ObjOk P w H h a (.dT kvs) from rd_of ok e)
 refine⟨z,y,xs,r,o,es,ep,h1,h2,h3,h4,fun x hx => ?_,h5⟩
 have all:∀{l:List (List Key×V)}{m:List (List Key×Addr×Value)},KT H l m→∀x∈m,(tupleKind (mixKind P w)).is h x.1 x.2.1:=by
  intro l m q
  induction q with
  | nil=>intro x hx;exact nomatch hx
  | @cons p q ps qs hq t ih=>
   intro x hx
   rcases List.mem_cons.mp hx with e | hx
   ·subst e
    exact key_of ok (by rw[←hq.1];exact hq.2.1)
   ·exact ih x hx
 exact all r x hx
theorem dt_of {kvs:List (List Key×V)}(ok:HOk P w H h) (e:H a=some (.dT kvs)):kvs.length≤sizeLine∧(a == sysModules)=false∧
  ∃xs,KT H kvs xs∧h.DictOfH (tupleKind (mixKind P w)) a xs:=dt_rd ok (.inl e)
end
def DGet (H:Hp) (a:Addr) (y:V) (r:Option V):Prop:=
 (∃kvs k,Rd H a (.dK kvs)∧y=kV k∧r=valV kvs k)∨∃kvs k b,Rd H a (.dT kvs)∧y=.ref b∧H b=some (.tup (k.map kV))∧r=valV kvs k
def DPut (H:Hp) (a:Addr) (y v:V) (H':Hp):Prop:=
 (∃kvs k,H a=some (.dK kvs)∧y=kV k∧kvs.length<sizeLine∧H'=upd H a (.dK (putK kvs k v))) ∨
 ∃kvs k b,H a=some (.dT kvs)∧y=.ref b∧H b=some (.tup (k.map kV))∧kvs.length<sizeLine∧H'=upd H a (.dT (putK kvs k v))
theorem DGet.k {H:Hp}{a:Addr}{kvs:List (Key×V)}{k:Key}(e:H a=some (.dK kvs)):DGet H a (kV k) (valV kvs k):=.inl ⟨kvs,k,.inl e,rfl,rfl⟩
theorem DPut.k {H:Hp}{a:Addr}{kvs:List (Key×V)}{k:Key}{v:V}(e:H a=some (.dK kvs)) (hl:kvs.length<sizeLine):DPut H a (kV k) v (upd H a (.dK (putK kvs k v))):=.inl ⟨kvs,k,e,rfl,hl,rfl⟩
section
variable {X:Cx}{pins:Lo}{σ:St}{H:Hp}{s:Shared}{a:Addr}{y v:V}{u r:Value}{o:Option V}{A:Around}{E:Vs}
theorem Inv.big (I:Inv X pins σ H s):sysModules<s.heap.objs.size:=by
 have h:mainGlobals<s.heap.objs.size:=(I.mod.glob.keeps I.bk).lt
 exact Nat.lt_trans (by decide) h
theorem d_getItem {Q:Vs}(hu:A.units+1<cLine) (I:Inv X pins σ H s) (g:DGet H a y (some v)) (ry:RelV y u) (h:∀w' s',Inv X pins σ H s'→RelV v w'→Q w' s'):
  wpAny (model X.prog X.w) A (getItem (.ref a) u) Q E s:=by
 rcases g with ⟨kvs,k,e,ey,l⟩ | ⟨kvs,k,b,e,ey,eb,l⟩
 ·subst ey
  obtain⟨z,hd,vs,rel,dd⟩:=dk_rd I.hok e
  obtain⟨w',hw,rw'⟩:=RelO.some_of (v:=v) (o:=valueAt vs k) (by rw[l];exact rel.val k)
  exact wpAny_getItem_of (kV_is ry) dd.mapOf hw (h w' _ (I.tok _) rw')
 ·subst ey
  cases (show u=Value.ref b from ry)
  obtain⟨z,hd,xs,rel,dd⟩:=dt_rd I.hok e
  obtain⟨w',hw,rw'⟩:=RelO.some_of (v:=v) (o:=(atKey xs k).map (·.2)) (by rw[l];exact rel.val k)
  obtain⟨p,hp,hp2⟩:=Option.map_eq_some_iff.mp hw
  refine wpAny_getItem_heap (tupleKind_room_in1 hu) (key_of I.hok eb) dd hp ?_
  rw[hp2]
  exact h w' _ (I.tok _) rw'
theorem d_in {Q:Vs}(hu:A.units+1<cLine) (I:Inv X pins σ H s) (g:DGet H a y o) (ry:RelV y u) (h:∀s',Inv X pins σ H s'→Q (.bool o.isSome) s'):
  wpAny (model X.prog X.w) A (compareOp .In u (.ref a)) Q E s:=by
 rcases g with ⟨kvs,k,e,ey,l⟩ | ⟨kvs,k,b,e,ey,eb,l⟩
 ·subst ey
  obtain⟨z,hd,vs,rel,dd⟩:=dk_rd I.hok e
  refine wpAny_in_of (kV_is ry) hd dd.mapOf ?_
  rw[←(rel.val k).isSome_eq,←l]
  exact h _ (I.tok _)
 ·subst ey
  cases (show u=Value.ref b from ry)
  obtain⟨z,hd,xs,rel,dd⟩:=dt_rd I.hok e
  refine wpAny_in_heap (tupleKind_room_in1 hu) (key_of I.hok eb) hd dd ?_
  have q:=(rel.val k).isSome_eq
  rw[Option.isSome_map]at q
  rw[←q,←l]
  exact h _ (I.tok _)
theorem d_write {h':Heap}{t':Nat}{ob:HO}(I:Inv X pins σ H s) (mu:Mut (H a)) (hs:Heap.SameBut a s.heap h') (he:∃q,h'.get? a=some q) (new:ObjOk X.prog X.w (upd H a ob) h' a ob):
  Inv X pins σ (upd H a ob) { s with heap:=h',toks:=t' }:=
 I.write (x:=a) (e:=a) mu (.inl rfl) (fun b q hb z=>(hs.2 b hb).trans z) he new
theorem dk_new {P:Program}{w:World}{H':Hp}{h':Heap}{kvs:List (Key×V)}{vs:List (Key×Value)}(z:kvs.length≤sizeLine) (hd:(a == sysModules)=false) (rel:KV kvs vs) (dd:h'.DictOf (mixKind P w) a vs):
  ObjOk P w H' h' a (.dK kvs):=⟨z,hd,vs,rel,dd⟩
theorem d_setItem {H':Hp}{Q:Unit→Shared→Prop}(hu:A.units+1<cLine) (I:Inv X pins σ H s) (g:DPut H a y v H') (ry:RelV y u) (rv:RelV v r) (h:∀s',Inv X pins σ H' s'→Q () s'):
  wpAny (model X.prog X.w) A (setItem (.ref a) u r) Q E s:=by
 rcases g with ⟨kvs,k,e,ey,l,eH⟩ | ⟨kvs,k,b,e,ey,eb,l,eH⟩
 ·subst ey eH
  obtain⟨z,hd,vs,rel,dd⟩:=dk_of I.hok e
  have hz:vs.length≤sizeLine:=by rw[←rel.length];exact z
  have hl:(putK kvs k v).length≤sizeLine:=by have:=length_putK kvs k v;omega
  refine wpAny_setItem_pairs (hsz:=hz) (kV_is ry) dd fun h' dd' hs=>h _ ?_
  have he:∃q,h'.get? a=some q:=let ⟨q,_,_,hq,_⟩:=dd';⟨q,hq⟩
  exact d_write I (by rw[e];exact True.intro) hs he (dk_new hl hd (rel.put k rv) dd')
 ·subst ey eH
  cases (show u=Value.ref b from ry)
  obtain⟨z,hd,xs,rel,dd⟩:=dt_of I.hok e
  have hz:xs.length≤sizeLine:=by rw[←Paired.length rel];exact z
  have hl:(putK kvs k v).length≤sizeLine:=by have:=length_putK kvs k v;omega
  refine wpAny_setItem_heap (hsz:=hz) (tupleKind_room_in1 hu) (key_of I.hok eb) dd fun h' dd' hs=>h _ ?_
  obtain⟨q,es,ep,hq,h2,h3,h4,_,h5⟩:=dd'
  refine d_write I (by rw[e];exact True.intro) hs ⟨q,hq⟩ ⟨hl,hd,_,(rel.put k eb rv).keeps fun c ys ec => ?_,q,es,ep,hq,h2,h3,h4,h5⟩
  rw[upd_ne (ne_of ec e (fun z=>nomatch z))]
  exact ec
end
section
variable {X:Cx}{pins:Lo}{σ:St}{H:Hp}{s:Shared}{a:Addr}{kvs:List (Key×V)}{k:Key}{u:Value}{A:Around}{E:Vs}
end
def NoSl (i:Expr):Prop:=∀ov iv,subscripted i false ov iv=operate [ov,iv] (getItem ov iv)
theorem subD_of {prog:Program}{w:World}{A:Around}{E:Vs}{s:Shared}{env:Env}{value slice:Expr}{pos:Pos}{T id:String}{Q:Vs}
  (hl:typeLookup (.type T) "__getitem__" = pure (some (.builtin id))) (hs:NoSl slice)
  (h:wpAny (model prog w) A (eval value env) (fun o s₁=>wpAny (model prog w) A (eval slice env) (fun i s₂=>s₂.TypeIs o T∧wpAny (model prog w) A (getItem o i) Q E s₂) E s₁) E s):
  wpAny (model prog w) A (eval (.Subscript value slice pos) env) Q E s:=by
 refine Subscript_ (wpAny_mono h (fun o s₁ h₁=>wpAny_mono h₁ (fun i s₂ h₂ => ?_) fun _ _ x=>x) fun _ _ x=>x)
 obtain⟨hT,h₂⟩:=h₂
 unfold subscriptTail
 refine wpAny_bind ?_
 rw[getitemInPython_of_ne hT.not_modules]
 refine wpAny_bind (wpAny_specialOf hT hl ?_)
 have fin:wpAny (model prog w) A (subscripted slice false o i) (fun r s₃=>wpAny (model prog w) A (letTemporaryGo value o r >>= fun _=>pure r) Q E s₃) E s₂:=by
  rw[hs o i]
  exact wpAny_operating (wpAny_mono h₂ (fun r s₃ h₃=>wpAny_bind (wpAny_letTemporaryGo (wpAny_pure h₃))) fun _ _ x=>x)
 first
  | exact wpAny_pure (wpAny_bind fin)
  | exact wpAny_bind (wpAny_pure (wpAny_bind fin))
  | exact wpAny_bind fin
theorem dict_typeIs {X:Cx}{pins:Lo}{σ:St}{H:Hp}{s:Shared}{a:Addr}{y:V}{o:Option V}(I:Inv X pins σ H s) (g:DGet H a y o):s.TypeIs (.ref a) "dict" := by
 rcases g with ⟨kvs,k,e,_,_⟩ | ⟨kvs,k,b,e,_,_,_⟩
 ·obtain⟨_,_,vs,_,dd⟩:=dk_rd I.hok e
  exact dd.typeIs
 ·obtain⟨_,_,xs,_,dd⟩:=dt_rd I.hok e
  exact dd.typeIs
def tDGet (td ty:TE):TE:=fun σ H Q=>td σ H fun x H1=>ty σ H1 fun y H2=>∃a v,x=.ref a∧DGet H2 a y (some v)∧Q v H2
def tDIn (ty td:TE):TE:=fun σ H Q=>ty σ H fun y H1=>td σ H1 fun x H2=>∃a o,x=.ref a∧DGet H2 a y o∧Q (.bl o.isSome) H2
def tDNotIn (ty td:TE):TE:=fun σ H Q=>ty σ H fun y H1=>td σ H1 fun x H2=>∃a o,x=.ref a∧DGet H2 a y o∧Q (.bl (!o.isSome)) H2
def sDPut (td ty tv:TE):TS:=fun D σ H=>tv σ H fun v H1=>td σ H1 fun x H2=>ty σ H2 fun y H3=>∃a H4,x=.ref a∧DPut H3 a y v H4∧D.nx σ H4
section
variable {X:Cx}{o i e value:Expr}{pos pos' tpos:Pos}{td ty tv:TE}
theorem pe_dget (hu:X.A.units+1<cLine) (ho:PE X o td) (hi:PE X i ty) (hs:NoSl i):PE X (.Subscript o i pos) (tDGet td ty):=by
 intro pins s σ H Q I h
 refine subD_of PySem.F.slot_dict_getitem.lookup hs (thn (ho pins s σ H _ I h) fun u s1 ⟨x,H1,I1,rx,q1⟩=>thn (hi pins s1 σ H1 _ I1 q1) fun iv s2 ⟨y,H2,I2,ry,a,v,ex,g,q2⟩ => ?_)
 subst ex
 obtain rfl:u=Value.ref a:=rx
 exact⟨dict_typeIs I2 g,d_getItem hu I2 g ry fun w' s3 I3 rw'=>⟨v,H2,I3,rw',q2⟩⟩
theorem pc_din (hu:X.A.units+1<cLine) (hi:PE X i ty) (ho:PE X o td):PC X .In i o (tDIn ty td):=by
 intro pins s σ H Q I h
 refine thn (hi pins s σ H _ I h) fun iv s1 ⟨y,H1,I1,ry,q1⟩=>thn (ho pins s1 σ H1 _ I1 q1) fun u s2 ⟨x,H2,I2,rx,a,ov,ex,g,q2⟩ => ?_
 subst ex
 obtain rfl:u=Value.ref a:=rx
 exact d_in hu I2 g ry fun s3 I3=>⟨.bl ov.isSome,H2,I3,rfl,q2⟩
theorem ps_dput (hu:X.A.units+1<cLine) (ho:PE X o td) (hi:PE X i ty) (hv:PE X value tv) (hs:swapsWith value (some (.Subscript o i pos')) pos.line X.env=pure false):
  PS X (.Assign [.Subscript o i pos'] value pos) (sDPut td ty tv):=by
 intro pins s σ H D I h
 refine wpAny_Assign_Subscript (thn (hv pins s σ H _ I h) fun r s1 ⟨v,H1,I1,rv,q1⟩=>thn (ho pins s1 σ H1 _ I1 q1) fun u s2 ⟨x,H2,I2,rx,q2⟩=>thn (hi pins s2 σ H2 _ I2 q2) fun iv s3 ⟨y,H3,I3,ry,a,H4,ex,g,q3⟩ => ?_) hs
 subst ex
 obtain rfl:u=Value.ref a:=rx
 exact d_setItem hu I3 g ry rv fun s4 I4=>⟨σ,H4,I4,q3⟩
end
theorem dk_empty {P:Program}{w:World}{H:Hp}(h:Heap) (hb:sysModules<h.objs.size):ObjOk P w H (h.push { cls:=.type "dict", data:=.dict #[] }) h.objs.size (.dK []):=
 ⟨Nat.zero_le _,beq_eq_false_iff_ne.mpr (Ne.symm (Nat.ne_of_lt hb)),[],.nil,Heap.DictOf.new h⟩
def tDNewK:TE:=fun _ H Q=>∀p,H p=none→Q (.ref p) (upd H p (.dK []))
section
variable {X:Cx}{pos:Pos}
theorem pe_dnewK:PE X (.Dict [] [] pos) tDNewK:=fun pins s σ H Q I h=>
 wpAny_Dict_empty ⟨.ref s.heap.objs.size,_,I.laid (a:=s.heap.objs.size) (o:=.dK []) (t':=s.toks) (fun _ _ q=>Heap.get?_push_of_some _ q) (Nat.le_refl _) (dk_empty s.heap I.big),rfl,h _ (I.hok.fresh (Nat.le_refl _))⟩
end
noncomputable def mergeK (kvs more:List (Key×V)):List (Key×V):=more.foldl (fun acc kv=>putK acc kv.1 kv.2) kvs
theorem KV.merge:∀{more:List (Key×V)}{rs:List (Key×Value)}{kvs:List (Key×V)}{vs:List (Key×Value)},KV more rs→KV kvs vs→KV (mergeK kvs more) (merged vs rs):=by
 intro more rs kvs vs r
 unfold KV at r
 induction r generalizing kvs vs with
 | nil=>intro q;exact q
 | @cons p q ps qs h t ih=>
  intro r0
  have e:KV (putK kvs p.1 p.2) (stored vs q.1 q.2):=by
   have:=r0.put p.1 h.2
   rw[←h.1];exact this
  exact ih e
theorem length_mergeK:∀(more kvs:List (Key×V)),(mergeK kvs more).length≤kvs.length+more.length
 | [],kvs=>by show kvs.length≤kvs.length+0;omega
 | p::r,kvs=>by
  have h1:=length_mergeK r (putK kvs p.1 p.2)
  have h2:=length_putK kvs p.1 p.2
  show (mergeK (putK kvs p.1 p.2) r).length≤_
  rw[List.length_cons];omega
set_option genInjectivity false in
structure M2 (X:Cx) (o:Expr) (m:Str) (apos:Pos) (e f:Expr) (cpos:Pos):Prop where
 base:attributeBase o m X.env (eval o X.env)=eval o X.env
 few:((backTo cpos (starEach [e,f] X.env)).all (fun x => !x.1)&&(backToKw cpos (keywordEach [] X.env)).all (fun x=>x.1.isSome)
  && decide (([e,f]:List Expr).length+([]:List Keyword).length+(if ([]:List Keyword).isEmpty then 0 else 1)<30))=true
 line:(apos.endLine == cpos.line)=true
 trees:backTo cpos (starEach [e,f] X.env)=[(false,eval e X.env),(false,eval f X.env)]
def IsD (H:Hp) (a:Addr):Prop:=(∃kvs,Rd H a (.dK kvs))∨∃kvs,Rd H a (.dT kvs)
theorem isD_at {X:Cx}{pins:Lo}{σ:St}{H:Hp}{s:Shared}{a:Addr}(I:Inv X pins σ H s) (d:IsD H a):
  s.TypeIs (.ref a) "dict" ∧ (∀b,Value.ref a=.ref b→∃ob,s.heap.get? b=some ob∧ob.dict=none)∧(a == sysModules)=false:=by
 rcases d with ⟨kvs,e⟩ | ⟨kvs,e⟩
 ·obtain⟨_,hd,vs,_,dd⟩:=dk_rd I.hok e
  refine⟨dd.typeIs,fun b q => ?_,hd⟩
  cases q
  obtain⟨ob,_,_,h1,h2,_⟩:=dd
  exact⟨ob,h1,h2.2.1⟩
 ·obtain⟨_,hd,xs,_,dd⟩:=dt_rd I.hok e
  refine⟨dd.typeIs,fun b q => ?_,hd⟩
  cases q
  obtain⟨ob,_,_,h1,h2,_⟩:=dd
  exact⟨ob,h1,h2.2.1⟩
section
variable {X:Cx}{pins:Lo}{σ:St}{H:Hp}{s:Shared}{a:Addr}{y d:V}{u r:Value}{o:Option V}{A:Around}{E:Vs}
end
def tDGet1 (td ty:TE):TE:=fun σ H Q=>td σ H fun x H1=>∃a,x=.ref a∧IsD H1 a∧ty σ H1 fun y H2=>∃o,DGet H2 a y o∧Q (o.getD .non) H2
def tDGet2 (td ty tx:TE):TE:=fun σ H Q=>td σ H fun x H1=>∃a,x=.ref a∧IsD H1 a∧ty σ H1 fun y H2=>tx σ H2 fun z H3=>∃o,DGet H3 a y o∧Q (o.getD z) H3
section
variable {X:Cx}{o e f:Expr}{apos cpos:Pos}{td ty tx:TE}
end
section
variable {X:Cx}{pins:Lo}{σ:St}{H:Hp}{s:Shared}{a:Addr}{kvs:List (Key×V)}{A:Around}{E:Vs}
end
section
variable {X:Cx}{pins:Lo}{σ:St}{H:Hp}{s:Shared}{a:Addr}{y:V}{u:Value}{A:Around}{E:Vs}
end
end L2
namespace Att
open PySem PySem.W PySem.Calls PyProof.Rows
theorem ints_of_wellAll {P:Params}{h:Heap}:∀(ns:List Int) (vs:List Value),WellAll P h vs (ns.map WData.int)→IntsAre vs ns:=by
 intro ns
 induction ns with
 | nil=>
  intro vs w
  rw[List.map_nil]at w
  cases w
  exact .nil
 | cons n ns ih=>
  intro vs w
  rw[List.map_cons]at w
  cases w with
  | cons a b=>
   cases a
   exact .cons _ _ (ih _ b)
theorem script_of {l:OpenLaw}{n:Nat}(hn:l.most=some n) {P:Params}{h:Heap}{args:List WData}{vals:List Value}
  (hpre:l.row.toRowW.claim.pre args=true) (hwl:WellAll P h vals args):
  ∃a vs ns,vals=[Value.ref a]∧args=[WData.list (ns.map WData.int)]∧h.get? a=some { cls:=.type "list", data:=.seq vs.toArray }∧IntsAre vs ns∧ns.length≤n:=by
 have hsh:WShape.hasAll [] args [.list .int]=true:=(pre_splitW hpre).1
 have hc:l.pre.holds [] { args:=args }=true:=(pre_splitW hpre).2
 obtain⟨d,r,rfl,h1,h2⟩:=hasAllW_cons hsh
 obtain rfl:=hasAllW_nil h2
 obtain⟨xs,rfl,h3⟩:=hasW_list h1
 obtain⟨ns,rfl⟩:=items_int h3
 have hlen:ns.length≤n:=by
  unfold OpenLaw.pre at hc
  have h4:(WTm.not (.lt (.lit (.int (n:Int))) (.len (.arg 0)))).holds [] { args:=[.list (ns.map .int)] }=true:=by
   have h4:=(holds_andW hc).1
   rw[hn]at h4
   exact h4
  have h5:=condW_of h4 (w_not (w_lt w_lit (w_len_list (w_arg rfl))))
  rw[List.length_map]at h5
  refine Nat.le_of_not_lt fun q => ?_
  have q':(n:Int)<((ns.length:Nat):Int):=by omega
  first
   | (rw[decide_eq_true q']at h5;exact absurd h5 (by decide))
   | (simp at h5;omega)
 cases hwl with
 | cons w1 w2=>
  cases w2
  cases w1 with
  | list ho hall=>exact⟨_,_,ns,rfl,rfl,ho,ints_of_wellAll ns _ hall,hlen⟩
theorem post_true (l:OpenLaw) (args:List WData):l.row.toRowW.claim.post args (.bool true) args=true:=
 postW_of (r:=l.row.toRowW) (X:=(true == true))
  (show WShape.has [] (.bool true) .bool=true by first | rfl | decide | simp[WShape.has,WShape.arms,WShape.armsAll])
  (show (WTm.eq .res (.lit (.bool true))).value [] { args:=args,res:=some (.bool true),after:=args }=some (.bool (true == true)) from w_eq_bool (w_res rfl) w_lit) rfl
theorem attach_call {l:OpenLaw}{n:Nat}{q:Program}{loose:List Str}{XP:(Str→Option Value)→Heap→Prop}{YP:World→Heap→Prop}{d:DefRec}
  (hn:l.most=some n) (hdf:d.params.defaults=[])
  (call:∀(w:World) (s₀ s₁:Shared) (mg mb:So) (fa:Addr) (o:Obj) (pm cd doc:Value) (a:Addr) (vs:List Value) (ns:List Int),
   Ground q loose [] XP w s₀ mg mb s₁.heap→YP w s₁.heap→
   s₁.heap.get? fa=some o→o.data=.func (docDef d.name d.params d.body d.scope pm cd doc)→s₁.heap.CodeRec cd d.name→mg d.name=some (.ref fa)→
   s₁.heap.get? a=some { cls:=.type "list", data:=.seq vs.toArray }→IntsAre vs ns→ns.length≤n→s₁.gens=#[]→
   codeAny (model l.prog w) callerA (.call (.ref fa) ⟨[.ref a],[]⟩) (fun r s'=>r=.ok (.ret (.bool true))∧OldK s₁.heap s'.heap∧s'.os=s₁.os∧AllBare s'.gens) s₁):
  WalkO q loose XP YP l.row.toRowW d [] (fun f vs=>PySem.call f vs):=by
 intro w s₀ s₁ mg mb G Y fa o pm cd doc dV kV ho hd hcd hD hmg hg args vals as hpre hlay hrd hwl hlo
 obtain rfl:dV=.none:=Dflts.none hD hdf
 obtain rfl:kV=.none:=Dflts.noKw hD
 obtain⟨a,vs,ns,rfl,rfl,hobj,hints,hlen⟩:=script_of hn hpre hwl
 refine enter_call (codeAny_mono (call w s₀ s₁ mg mb fa o pm cd doc a vs ns G Y ho (fd_plain hd) hcd hmg hobj hints hlen hg) fun r s' hq => ?_)
 obtain⟨rfl,h2,h3,h4⟩:=hq
 exact⟨.inl ⟨.bool true,.bool true,[],rfl,fun _=>rfl,.bool true,post_true l _,fun _=>⟨List.Pairwise.nil,fun _ hm=>(nomatch hm)⟩⟩,h2,h3,h4⟩
section
variable {prog:Program}{w:World}{A:Around}{E:Vs}{s:Shared}{K:Frag}
noncomputable def ledger (h:Heap) (L d:Addr):Lo:=(List.range h.objs.size).filterMap fun a=>if a=L∨a=d then none else (h.get? a).map fun o=>(a,o)
end
end Att
namespace L2
open PySem PySem.Spec PyProof.Rows
theorem vals_ints:∀{vs:List Value}{ns:List Int},IntsAre vs ns→Vals (ns.map V.int) vs
 | _,_,.nil=>.nil
 | _,_,.cons n t h=>.cons ⟨t,rfl⟩ (vals_ints h)
end L2
namespace L2
open PySem PySem.Spec PyProof.Rows
end L2
namespace L2
open PySem PySem.Spec PyProof.Rows
noncomputable def inClass (s:Stmt) (j:Nat):Stmt:=match s with
 | .ClassDef _ _ _ body _ _ _ _ _ _ _=>body.getD j (.Pass ⟨0,0,0,0⟩)
 | _=>.Pass ⟨0,0,0,0⟩
noncomputable def defArgs (s:Stmt):Arguments:=match s with
 | .FunctionDef _ a _ _ _ _ _ _ _ _=>a
 | _=>{ posonlyargs:=[],args:=[],vararg:=none,kwonlyargs:=[],kw_defaults:=[],kwarg:=none,defaults:=[] }
noncomputable def defBody (s:Stmt):List Stmt:=match s with
 | .FunctionDef _ _ b _ _ _ _ _ _ _=>b
 | _=>[]
noncomputable def defScope (s:Stmt):Scope:=match s with
 | .FunctionDef _ _ _ _ _ _ sc _ _ _=>sc
 | _=>{ kind:=.function,names:=[],isGenerator:=false,isCoroutine:=false }
noncomputable abbrev CX0:CXT:=fun _ _ _ _ _ _=>False
noncomputable abbrev E0:XK:=fun _ _ _=>False
theorem pass0 {X:Cx}:Passes CX0 X E0:=fun _ _ _ _ _ _ _ h=>h.elim
set_option genInjectivity false in
structure Fun (K:Wf) (x qual:Str) (st:Stmt) (f:Addr) (fd:FuncData):Prop where
 ex:∃(oc:Value) (od:Option Addr) (kV doc pm:Value) (an:Option Addr) (cdv ct:Value) (osl:Array (Option Value)),
  fd=PySem.W.fnOf x qual (defArgs st) (defBody st) (defScope st) .none kV doc pm an cdv ct∧K.lookup f=some ⟨oc,od,.func fd,osl⟩∧PySem.W.codeIn K cdv qual=true
 kp:PySem.W.keepIn K (.ref f)=true
section
variable {P:Program}{w:World}{K:Wf}{mg:So}{base:Heap}
theorem Fun.ok {x qual:Str}{st:Stmt}{f:Addr}{fd:FuncData}{N ps:List Str}{k:Nat}{sp:Sp}(F:Fun K x qual st f fd) (S:FnScope N ps (defScope st)) (len:∀vs H Q E,sp vs H Q E→vs.length=ps.length)
  (hbody:∀(cdv:Value) (A:Around) (outer:List Env) (s:Shared) (H:Hp) (vs:List V) (Q:VK) (E:XK),Room k (A.deeper (envOfC qual (defScope st) s.heap.objs.size f cdv))→sp vs H Q E→
   ∃t,PSs (cxOf CX0 P w K mg base N qual (defScope st) f cdv A outer s H E).nox (defBody st) t∧t { nx:=fun _ H'=>Q .non H',rt:=Q } (start N vs) H):FnOk P w K mg base CX0 (k+1) f fd ps sp:=by
 obtain⟨oc,od,kV,doc,pm,an,cdv,ct,osl,rfl,lk,hcd⟩:=F.ex
 refine fn_of lk hcd S len fun A outer s H vs Q E hr hsp => ?_
 obtain⟨t,h,q⟩:=hbody cdv A outer s H vs Q E hr hsp
 exact⟨t,h.nox,q⟩
theorem Fun.binds {x qual:Str}{st:Stmt}{f:Addr}{fd:FuncData}{ps:List Str}(F:Fun K x qual st f fd)
  (h:∀(kV doc pm:Value) (an:Option Addr) (cdv ct:Value) (us:List Value),us.length=ps.length→bindArgs (PySem.W.fnOf x qual (defArgs st) (defBody st) (defScope st) .none kV doc pm an cdv ct) ⟨us,[]⟩=pure (ps.zip us)):Binds K fd ps []:=by
 obtain⟨oc,od,kV,doc,pm,an,cdv,ct,osl,rfl,lk,hcd⟩:=F.ex
 exact .all (h kV doc pm an cdv ct)
theorem fun_mk {x qual:Str}{st:Stmt}{f:Addr}{oc:Value}{od an:Option Addr}{osl:Array (Option Value)}{kV doc pm cdv ct:Value}(l:K.lookup f=some ⟨oc,od,.func (PySem.W.fnOf x qual (defArgs st) (defBody st) (defScope st) .none kV doc pm an cdv ct),osl⟩)
  (c:PySem.W.codeIn K cdv qual=true) (k:PySem.W.keepIn K (.ref f)=true):Fun K x qual st f (PySem.W.fnOf x qual (defArgs st) (defBody st) (defScope st) .none kV doc pm an cdv ct):=⟨⟨oc,od,kV,doc,pm,an,cdv,ct,osl,rfl,l,c⟩,k⟩
end
theorem hu_of {A:Around}{k:Nat}(hr:Room k A):A.units+1<cLine:=Nat.lt_of_le_of_lt (Nat.add_le_add_left (by decide:1≤64) _) hr.units
section
variable {X:Cx}
theorem pv (i:Nat) {x:Str}{pos:Pos}(hN:X.N[i]?=some x:=by rfl) (hv:Vis X.env.scope x:=by first | exact Or.inl rfl | exact Or.inr (Or.inl rfl) | exact Or.inr (Or.inr rfl)) (hd:(x == ("__debug__" : Str))=false:=by decide)
  (hcd:(x == ("__classdict__" : Str))=false:=by decide):PE X (.Name x pos) (tVar i):=pe_var hN hv hd hcd
end
theorem iteF {A B:Prop}(h:B):if false=true then A else B:=by
 rw[if_neg Bool.false_ne_true]
 exact h
theorem iteT {A B:Prop}(h:A):if true=true then A else B:=by
 rw[if_pos rfl]
 exact h
theorem ite2 {c A B:Prop} [Decidable c] (h1:c→A) (h2:¬c→B):if c then A else B:=by
 by_cases h:c
 ·rw[if_pos h]
  exact h1 h
 ·rw[if_neg h]
  exact h2 h
def Same (H H':Hp):Prop:=∀b o,H b=some o→H' b=some o
theorem Same.refl (H:Hp):Same H H:=fun _ _ h=>h
theorem Same.trans {H H1 H2:Hp}(a:Same H H1) (b:Same H1 H2):Same H H2:=fun c o h=>b c o (a c o h)
theorem Same.free {H H':Hp}(e:Same H H') {l:Addr}(h:H' l=Option.none):H l=Option.none:=by
 cases q:H l with
 | none=>rfl
 | some o=>
  rw[e l o q]at h
  cases h
theorem Same.seq {K:Wf}{H H':Hp}{a:Addr}{xs:List V}(e:Same H H') (h:SqL K H a xs):SqL K H' a xs:=by
 rcases h with (h | ⟨o,h⟩) | h
 ·exact .inl (.inl (e _ _ h))
 ·exact .inl (.inr ⟨o,e _ _ h⟩)
 ·exact .inr h
end L2
namespace L2
open PySem PySem.Spec PyProof.Rows
section
variable {X:Cx}
end
section
variable {κ:Type} [DecidableEq κ]
end
end L2
namespace L2
open PySem PySem.Spec PyProof.Rows
noncomputable def clOf (env:Env):List (Str×NameKind)→List (Str×Addr)→List (Str×Addr)
 | [],acc=>acc
 | (n,k)::r,acc=>clOf env r (if (k == NameKind.free)=true then (n,(env.cells.lookup n).getD 0)::acc else acc)
theorem clOf_ok {env:Env}:∀(ns:List (Str×NameKind)) (acc:List (Str×Addr)),(∀x∈ns,x.2=.free→∃c,env.cells.lookup x.1=some c)→
  (∀x c,acc.lookup x=some c→env.cells.lookup x=some c)→∀x c,(clOf env ns acc).lookup x=some c→env.cells.lookup x=some c
 | [],acc,_,ha=>ha
 | (n,k)::r,acc,hn,ha=>by
  refine clOf_ok r _ (fun x hx=>hn x (List.mem_cons_of_mem _ hx)) ?_
  intro x c e
  by_cases hk:(k == NameKind.free)=true
  ·rw[if_pos hk]at e
   have hk':k=.free:=by simpa using hk
   obtain⟨c',ec⟩:=hn (n,k) List.mem_cons_self hk'
   rw[List.lookup_cons]at e
   cases hx:x == n with
   | true=>
    rw[hx]at e
    have:x=n:=by simpa using hx
    subst this
    have ec':List.lookup x env.cells=some c':=ec
    rw[ec']at e
    simp at e
    rw[←e];exact ec'
   | false=>rw[hx]at e;exact ha x c e
  ·rw[if_neg hk]at e;exact ha x c e
theorem clOf_keep {env:Env}:∀(ns:List (Str×NameKind)) (acc:List (Str×Addr)) (x:Str),(∃c,acc.lookup x=some c)→∃c,(clOf env ns acc).lookup x=some c
 | [],acc,x,h=>h
 | (n,k)::r,acc,x,h=>by
  refine clOf_keep r _ x ?_
  by_cases hk:(k == NameKind.free)=true
  ·rw[if_pos hk,List.lookup_cons]
   cases hx:x == n with
   | true=>exact⟨_,rfl⟩
   | false=>exact h
  ·rw[if_neg hk];exact h
theorem clOf_has {env:Env}:∀(ns:List (Str×NameKind)) (acc:List (Str×Addr)) (x:Str),(x,NameKind.free)∈ns→∃c,(clOf env ns acc).lookup x=some c
 | [],acc,x,h=>absurd h (by simp)
 | (n,k)::r,acc,x,h=>by
  rcases List.mem_cons.mp h with e | e
  ·injection e with e1 e2
   subst e1 e2
   refine clOf_keep r _ x ⟨(env.cells.lookup x).getD 0,?_⟩
   rw[if_pos (by decide)]
   simp
  ·exact clOf_has r _ x e
theorem closureFor_eq {scope:Scope}{env:Env}(h:∀x∈scope.names,x.2=.free→∃c,env.cells.lookup x.1=some c):closureFor scope env=pure (clOf env scope.names []):=by
 have key:∀(ns:List (Str×NameKind)) (acc:List (Str×Addr)),(∀x∈ns,x.2=.free→∃c,env.cells.lookup x.1=some c)→
   (do let r ←forIn (m:=Sem) ns acc (fun x r=>if (x.2 == NameKind.free)=true then do let c ←cellOf env x.1;pure (ForInStep.yield ((x.1,c)::r)) else pure (ForInStep.yield r));pure r:Sem (List (Str×Addr)))=pure (clOf env ns acc):=by
  intro ns
  induction ns with
  | nil=>intro acc _;rfl
  | cons y r ih=>
   intro acc hy
   obtain⟨n,k⟩:=y
   rw[List.forIn_cons]
   by_cases hk:(k == NameKind.free)=true
   ·have hk':k=.free:=by simpa using hk
    obtain⟨c,ec⟩:=hy (n,k) List.mem_cons_self hk'
    have ec':List.lookup n env.cells=some c:=ec
    have e1:cellOf env n=pure c:=by unfold cellOf;rw[ec']
    simp only[hk,if_true,e1]
    have:=ih ((n,c)::acc) fun x hx=>hy x (List.mem_cons_of_mem _ hx)
    show _=pure (clOf env r (if (k == NameKind.free)=true then (n,(List.lookup n env.cells).getD 0)::acc else acc))
    rw[if_pos hk,ec']
    exact this
   ·simp only[hk]
    have:=ih acc fun x hx=>hy x (List.mem_cons_of_mem _ hx)
    show _=pure (clOf env r (if (k == NameKind.free)=true then (n,(List.lookup n env.cells).getD 0)::acc else acc))
    rw[if_neg hk]
    exact this
 simp only[closureFor]
 rw[key scope.names [] h]
 rfl
section
variable {prog:Program}{w:World}{A:Around}{R:Result→Shared→Prop}{s:Shared}
theorem compLoop_any {elt target iter:Expr}{ifs:List Expr}{scope:Scope}{pos:Pos}{it acc:Value}{env:Env}(I:Nat→Shared→Prop)
  (turn:∀n s,I n s→wpAny (model prog w) A (pyNext it) (fun r s₁=>match r with
   | none=>R (.ok .next) s₁
   | some v=>wpAny (model prog w) A (letOwnedTupleGo target it v) (fun _ s₁'=>wpAny (model prog w) A (assign target env v) (fun _ s₂=>
     wpAny (model prog w) A (forIn ifs true fun c r=>if r=true then do let ok ←isTrue c env (eval c env);pure (ForInStep.yield ok) else pure (ForInStep.yield r)) (fun ok s₃=>
      if ok=true then wpAny (model prog w) A (eval elt env) (fun x s₄=>
       wpAny (model prog w) A (call (.builtin "list.append") [acc,x]) (fun _ s₅=>∃m,m<n∧I m s₅) (fun _ _=>False) s₄) (fun _ _=>False) s₃
      else ∃m,m<n∧I m s₃) (fun _ _=>False) s₂) (fun _ _=>False) s₁') (fun _ _=>False) s₁) (fun _ _=>False) s)
  (n:Nat) (h:I n s):
  codeAny (model prog w) A (.compLoop (.ListComp elt [⟨target,iter,ifs,0⟩] scope pos) 0 it acc env) R s:=by
 refine codeAny_loop rfl I (fun n s hI => ?_) n h
 show wpAny _ A ((compTurn (.ListComp elt [⟨target,iter,ifs,0⟩] scope pos) 0 it acc env).onRaise (fun x=>do noteFrame x env;theTreesLotGoes x)) _ _ s
 refine wpAny_noted ?_
 rw[compTurn_list]
 refine wpAny_bind (wpAny_standAt (wpAny_bind (wpAny_mono (turn n s hI) (fun r s₁ h₁ => ?_) fun _ _ h'=>h'.elim)))
 cases r with
 | none=>exact wpAny_pure h₁
 | some v=>
  refine wpAny_bind (wpAny_mono h₁ (fun _ s₁' h₁' => ?_) fun _ _ h'=>h'.elim)
  refine wpAny_bind (wpAny_mono h₁' (fun _ s₂ h₂=>wpAny_bind (wpAny_mono h₂ (fun ok s₃ h₃ => ?_) fun _ _ h'=>h'.elim)) fun _ _ h'=>h'.elim)
  cases ok with
  | false=>exact wpAny_pure ⟨rfl,h₃⟩
  | true=>
   exact wpAny_bind (wpAny_bind (wpAny_mono h₃ (fun x s₄ h₄=>wpAny_bind (wpAny_mono h₄ (fun _ s₅ h₅=>wpAny_pure (wpAny_pure ⟨rfl,h₅⟩)) fun _ _ h'=>h'.elim)) fun _ _ h'=>h'.elim))
end
noncomputable def blk (X:Cx) (N':List Str) (scope:Scope) (fp:List Addr) (s:Shared) (H:Hp):Cx:=
 { X with N:=N',s₀:=s,H₀:=H,env:=compEnvC scope (clOf X.env scope.names []) s.heap.objs.size X.env,outer:=X.stack,stack:=X.stack,ex:=fp,fn:=fun _=>false,xe:=fun _ _=>False }
def PTs (X:Cx) (ifs:List Expr) (t:TT):Prop:=
 ∀(pins:Lo) (s:Shared) (σ:St) (H:Hp) (Q:Bool→Hp→Prop),Inv X pins σ H s→t σ H Q→
  wpAny (model X.prog X.w) X.A (forIn ifs true fun c r=>if r=true then do let ok ←isTrue c X.env (eval c X.env);pure (ForInStep.yield ok) else pure (ForInStep.yield r)) (TP X pins σ Q) X.xe s
def tYes:TT:=fun _ H Q=>Q true H
theorem pts_nil {X:Cx}:PTs X [] tYes:=fun _ _ _ H _ I h=>wpAny_tests_nil ⟨H,I,h⟩
theorem pts_one {X:Cx}{c:Expr}{t:TT}(h:PT X c t):PTs X [c] t:=fun pins s σ H Q I q=>wpAny_tests_one (h pins s σ H Q I q)
inductive Ext:St→St→Prop
 | nil:Ext [] []
 | no {σ τ:St}{a:Option V}:Ext σ τ→Ext (none::σ) (a::τ)
 | yes {σ τ:St}{v:V}:Ext σ τ→Ext (some v::σ) (some v::τ)
theorem Ext.len:∀{σ τ:St},Ext σ τ→σ.length=τ.length
 | _,_,.nil=>rfl
 | _,_,.no h=>by simp[h.len]
 | _,_,.yes h=>by simp[h.len]
theorem Ext.get:∀{σ τ:St},Ext σ τ→∀(i:Nat) (v:V),σ[i]?=some (some v)→τ[i]?=some (some v)
 | _,_,.nil,i,v,e=>e
 | _,_,.no h,0,v,e=>by simp at e
 | _,_,.no h,i+1,v,e=>by simpa using h.get i v (by simpa using e)
 | _,_,.yes h,0,v,e=>by simpa using e
 | _,_,.yes h,i+1,v,e=>by simpa using h.get i v (by simpa using e)
noncomputable def blkSt (k:Nat) (fm:List Nat) (σ:St):St:=List.replicate k none++fm.map fun j=>(σ[j]?).join
def tComp (k:Nat) (fm:List Nat) (wi:TI) (g:TG) (tt:TT) (te:TE):TE:=fun σ H Q=>wi σ H fun J H1=>∀D,H1 D=none→∃W:Nat→Nat→List V→Hp→Prop,
 (∃m,W 0 m [] (upd H1 D (.lst [])))∧∀i m ys H2,W i m ys H2→H2 D=some (.lst ys)∧ys.length<sizeLine∧((J.stop i H2∧Q (.ref D) H2)∨(J.go i H2∧∃N:List V→Hp→Prop,(∀ys' H',N ys' H'→∃m',m'<m∧W (i+1) m' ys' H')∧∀x H3,J.yld i H2 x H3→
  g x (blkSt k fm σ) H3 fun σ3 H4=>Ext (blkSt k fm σ) σ3∧tt σ3 H4 fun b H5=>if b=true then te σ3 H5 fun y H6=>H6 D=some (.lst ys)∧N (ys++[y]) (upd H6 D (.lst (ys++[y]))) else N ys H5))
theorem Un.tail {fs ex:List Addr}{H H':Hp}{h h1 h2:Heap}{C:Addr}(u:Un fs ex H H' h h1) (k:∀b o,b≠C→h1.get? b=some o→h2.get? b=some o) (hC:h.get? C=none):Un fs ex H H' h h2:=by
 have ne:∀b o,h.get? b=some o→b≠C:=fun b o e z=>by rw[z,hC]at e;cases e
 exact⟨fun b o e n hf hx=>k b o (ne b o e) (u.keep b o e n hf hx),fun b o e n hf hx=>let ⟨sl,q⟩:=u.slot b o e n hf hx;⟨sl,k b _ (ne b o e) q⟩,u.free,
  fun b o e hx=>let ⟨o',q⟩:=u.there b o e hx;⟨o',k b _ (ne b o e) q⟩,u.tups,u.frzs,u.tbls⟩
theorem HOk.tail {P:Program}{w:World}{H:Hp}{h1 h2:Heap}{C:Addr}(ok:HOk P w H h1) (k:∀b o,b≠C→h1.get? b=some o→h2.get? b=some o) (hC:H C=none):HOk P w H h2:=fun a o e=>by
 have ne:∀b u,H b=some u→b≠C:=fun b u q z=>by rw[z,hC]at q;cases q
 refine (ok a o e).stay (fun b u hb q=>k b u ?_ q) (fun _ q=>q) fun _ _ q=>q
 rcases hb with z | z
 ·rw[z];exact ne a o e
 ·exact ne b _ z
theorem lookup_relabel {env:Env}:∀{names:List (Str×NameKind)}{x:Str}{k:NameKind},
  (names.map fun (n,k)=>if (k == NameKind.free&&env.scope.kind == .function&&env.kindOf n == some .cell) then (n,NameKind.cell) else (n,k)).lookup x=some k→∃k',names.lookup x=some k'∧(k=k'∨(k'=.free∧k=.cell))
 | [],_,_,h=>by simp at h
 | (n,k0)::r,x,k,h=>by
  have ih:=@lookup_relabel env r x k
  have h:List.lookup x ((if (k0 == NameKind.free&&env.scope.kind == .function&&env.kindOf n == some .cell)=true then (n,NameKind.cell) else (n,k0))::(r.map fun (n,k)=>if (k == NameKind.free&&env.scope.kind == .function&&env.kindOf n == some .cell) then (n,NameKind.cell) else (n,k)))=some k:=h
  by_cases hc:(k0 == NameKind.free&&env.scope.kind == .function&&env.kindOf n == some .cell)=true
  ·rw[if_pos hc,List.lookup_cons]at h
   have k0f:k0=.free:=by
    simp only[Bool.and_eq_true]at hc
    simpa using hc.1.1
   rw[List.lookup_cons]
   cases hx:x == n with
   | true=>rw[hx]at h;injection h with h;exact⟨k0,rfl,.inr ⟨k0f,h.symm⟩⟩
   | false=>rw[hx]at h;exact ih h
  ·rw[if_neg hc,List.lookup_cons]at h
   rw[List.lookup_cons]
   cases hx:x == n with
   | true=>rw[hx]at h;injection h with h;exact⟨k0,rfl,.inl h.symm⟩
   | false=>rw[hx]at h;exact ih h
set_option genInjectivity false in
structure BlkScope (X:Cx) (N':List Str) (k:Nat) (fm:List Nat) (scope:Scope):Prop where
 kind:scope.kind=.function
 nocell:∀y∈scope.names,y.2≠.cell
 names:∀y∈scope.names,y.2=.local→scope.names.lookup y.1=some .local
 free:∀y∈scope.names,y.2=.free→X.env.kindOf y.1=some .cell∨X.env.kindOf y.1=some .free
 len:N'.length=k+fm.length
 slots:∀i x,k≤i→N'[i]?=some x→scope.names.lookup x=some .free∧∃j,fm[i - k]?=some j∧X.N[j]?=some x
section
variable {X:Cx}{pins:Lo}{σ:St}{H:Hp}{s:Shared}
theorem Inv.block {N':List Str}{k:Nat}{fm:List Nat}{scope:Scope}{fp:List Addr}{h':Heap}{tk:Nat}(B:BlkScope X N' k fm scope) (I:Inv X pins σ H s) (hf:∀b∈fp,FpOk X pins H b) (ho:∀b∈fp,∃o,s.heap.get? b=some o)
  (ns:h'.Ns s.heap.objs.size (fun _=>none)) (kp:∀b o,s.heap.get? b=some o→h'.get? b=some o):Inv (blk X N' scope fp s H) [] (blkSt k fm σ) H { s with heap:=h',toks:=tk }:=by
 have hfree:∀x∈scope.names,x.2=.free→∃c,X.env.cells.lookup x.1=some c:=fun x hx hk=>I.ok.has x.1 (B.free x hx hk)
 have hcl:∀x c,(clOf X.env scope.names []).lookup x=some c→X.env.cells.lookup x=some c:=clOf_ok scope.names [] hfree fun x c e=>by simp at e
 have stk:∀b∈frs X.stack,b∈X.env.locals::X.fs:=I.stkSub
 have hC:H s.heap.objs.size=none:=I.hok.fresh (Nat.le_refl _)
 have ok:(blk X N' scope fp s H).Ok:={
  mod:=I.ok.mod
  kind:=B.kind
  glob:=I.ok.glob
  blt:=I.ok.blt
  above:=Nat.le_refl _
  inj:=fun x y c h1 h2=>I.ok.inj x y c (hcl x c h1) (hcl y c h2)
  has:=fun x hx=>by
   have hx:(relabel scope X.env).names.lookup x=some .cell∨(relabel scope X.env).names.lookup x=some .free:=hx
   have:scope.names.lookup x=some .free:=by
    rcases hx with e | e
    ·obtain⟨k',e1,e2⟩:=lookup_relabel e
     rcases e2 with e2 | ⟨e2,_⟩
     ·subst e2;exact absurd rfl (B.nocell _ (PySem.mem_of_lookup e1))
     ·rw[e1,e2]
    ·obtain⟨k',e1,e2⟩:=lookup_relabel e
     rcases e2 with e2 | ⟨e2,e3⟩
     ·rw[e1,e2]
     ·rw[e1,e2]
   exact clOf_has scope.names [] x (PySem.mem_of_lookup this)
  cab:=fun x c e=>by cases e
  hd:=I.ok.hd
  frames:=I.ok.frames
  stk:=.inl rfl
  exf:=fun b hb=>⟨fun z=>by
    obtain⟨o,e⟩:=ho b hb
    have hlt:=Heap.lt_size e
    rw[z]at hlt
    exact Nat.lt_irrefl _ hlt,fun x c e=>(hf b hb).2.2.2.2.1 x c (hcl x c e)⟩
  bs:=I.bs
  bsz:=Nat.le_trans I.ok.bsz I.sz
  noex:=fun b o e hb=>by
   rcases (hf b hb).2.2.2.1 with z | z
   ·exact I.ok.noex b o e z
   ·exact absurd (Nat.lt_of_lt_of_le (Heap.lt_size e) (Nat.le_trans I.ok.bsz z)) (Nat.lt_irrefl _)
  exfs:=fun b hb z=>(List.mem_cons.mp (stk b z)).elim (hf b hb).2.1 (hf b hb).2.2.1
  funs:=I.stack
  frf:=I.stkFree }
 refine⟨ok,rfl,I.bare,Un.kept kp,⟨_,ns,fun i x v h1 h2 h3 => ?_⟩,fun x c e => ?_,hC,fun x c e=>I.freeC x c (hcl x c e),fun p hp => ?_,I.hok.kept kp,?_⟩
 ·have hk:k≤i:=by
   refine Nat.le_of_not_lt fun z => ?_
   unfold blkSt at h2
   rw[List.getElem?_append_left (by simpa using z),List.getElem?_replicate,if_pos z]at h2
   cases h2
  obtain⟨e1,j,e2,e3⟩:=B.slots i x hk h1
  have e4:σ[j]?=some (some v):=by
   unfold blkSt at h2
   rw[List.getElem?_append_right (by simpa using hk),List.length_replicate,List.getElem?_map,e2]at h2
   have h2:some (σ[j]?).join=some (some v):=h2
   injection h2 with h2
   cases e:σ[j]? with
   | none=>rw[e]at h2;cases h2
   | some o=>rw[e]at h2;rw[show o=some v from h2]
  have kf:=B.free (x,.free) (PySem.mem_of_lookup e1) rfl
  obtain⟨m,hn,hl⟩:=I.loc
  obtain⟨u,ru,lk⟩:=hl j x v e3 e4 (.inr kf)
  refine⟨u,ru,.inr ⟨?_,?_⟩⟩
  ·have h3:(relabel scope X.env).names.lookup x=some .local∨(relabel scope X.env).names.lookup x=some .cell∨(relabel scope X.env).names.lookup x=some .free:=h3
   rcases h3 with z | z
   ·obtain⟨k',q1,q2⟩:=lookup_relabel z
    rw[e1]at q1
    injection q1 with q1
    subst q1
    rcases q2 with q2 | ⟨_,q2⟩<;>cases q2
   ·exact z
  ·obtain⟨c,hc⟩:=clOf_has (env:=X.env) scope.names [] x (PySem.mem_of_lookup e1)
   refine⟨c,hc,?_⟩
   rcases lk with ⟨z,_⟩ | ⟨_,c',ec,ic⟩
   ·rcases kf with y | y<;>(rw[z]at y;cases y)
   ·rw[hcl x c hc]at ec
    injection ec with ec
    subst ec
    exact ic.keeps kp
 ·obtain⟨v,q⟩:=I.cell x c (hcl x c e)
  exact⟨v,q.keeps kp⟩
 ·obtain⟨p1,p2,p3,p4,p5⟩:=I.pin p ((List.mem_append.mp hp).elim (fun z=>List.mem_append_left _ z) fun z=>absurd z (by simp))
  refine⟨kp _ _ p1,p2,fun z => ?_,fun z=>(List.mem_cons.mp (stk _ z)).elim p3 p4,p5⟩
  have hlt:=Heap.lt_size p1
  rw[z]at hlt
  exact Nat.lt_irrefl _ hlt
 ·show (blkSt k fm σ).length=N'.length
  unfold blkSt
  rw[List.length_append,List.length_replicate,List.length_map,B.len]
theorem blk_loop {X:Cx}{elt iter tg:Expr}{ifs:List Expr}{scope:Scope}{pos:Pos}{g:TG}{tt:TT}{te:TE}{J:It}{fp:List Addr}{it D:Addr}{tn:Nat→Heap→Prop}{σ0:St}{H3:Hp}{s4:Shared}{Q:VK}{R:Result→Shared→Prop}{W:Nat→Nat→List V→Hp→Prop}{m0:Nat}
  (hx:X.xe=fun _ _=>False) (hc:X.calm=true) (T:Turn X.prog X.w X.K tg J fp it tn) (stat:∀{H':Hp},(∀b∈fp,H' b=none)→∀b∈fp,FpOk X [] H' b) (hg:PG X tg g) (ht:PTs X ifs tt) (he:PE X elt te)
  (turn:∀i m ys H2,W i m ys H2→H2 D=some (.lst ys)∧ys.length<sizeLine∧((J.stop i H2∧Q (.ref D) H2)∨(J.go i H2∧∃N:List V→Hp→Prop,(∀ys' H',N ys' H'→∃m',m'<m∧W (i+1) m' ys' H')∧∀x H3,J.yld i H2 x H3→
   g x σ0 H3 fun σ3 H4=>Ext σ0 σ3∧tt σ3 H4 fun b H5=>if b=true then te σ3 H5 fun y H6=>H6 D=some (.lst ys)∧N (ys++[y]) (upd H6 D (.lst (ys++[y]))) else N ys H5)))
  (I4:Inv X [] σ0 H3 s4) (st4:tn 0 s4.heap) (fr4:∀b∈fp,H3 b=none) (w4:W 0 m0 [] H3)
  (hR:∀H' s',Inv X [] σ0 H' s'→Q (.ref D) H'→R (.ok .next) s'):
  codeAny (model X.prog X.w) X.A (.compLoop (.ListComp elt [⟨tg,iter,ifs,0⟩] scope pos) 0 (.ref it) (.ref D) X.env) R s4:=by
 refine compLoop_any (fun n s'=>∃i ys H',Inv X [] σ0 H' s'∧tn i s'.heap∧(∀b∈fp,H' b=none)∧W i n ys H') ?_ m0 ⟨0,[],H3,I4,st4,fr4,w4⟩
 rintro n s5 ⟨i,ys,H5,I5,st5,fr5,w5⟩
 obtain⟨hD,hl,cs⟩:=turn i n ys H5 w5
 rcases cs with ⟨stop,q⟩ | ⟨go,N,hN,step⟩
 ·refine thn (T.done X rfl rfl rfl hc i [] s5 σ0 H5 _ I5 (stat fr5) st5 stop) fun r s6 ⟨hr,I6⟩ => ?_
  subst hr
  exact hR H5 s6 I6 q
 ·refine thn (T.item X rfl rfl rfl hc i [] s5 σ0 H5 _ I5 (stat fr5) st5 go) fun r s6 ⟨u,hr,h6⟩ => ?_
  subst hr
  refine thn h6 fun _ s7 ⟨x,H7,I7,r7,y7,st7,fr7⟩ => ?_
  have I7':=I7.pinned (stat fr7) (T.obj _ _ st7)
  have again:∀{σ':St}{H':Hp}{s':Shared},Ext σ0 σ'→Inv X ([]++pinsAt fp s7.heap) σ' H' s'→Inv X [] σ0 H' s'∧tn (i+1) s'.heap∧∀b∈fp,H' b=none:=fun {σ' H' s'} ex I'=>by
   refine⟨I'.unpinned.weak ex.len ex.get,T.keep _ _ _ st7 fun b hb o e=>(I'.pin (b,o) (List.mem_append_right _ (List.mem_append_right _ (mem_pinsAt hb e)))).1,fun b hb => ?_⟩
   obtain⟨o,e,d⟩:=T.obj _ _ st7 b hb
   exact (I'.pin (b,o) (List.mem_append_right _ (List.mem_append_right _ (mem_pinsAt hb e)))).2.1
  have w8:=hg _ s7 σ0 H7 x u _ I7' r7 (step x H7 y7)
  rw[hx]at w8
  refine thn w8 fun _ s8 ⟨σ8,H8,I8,ex8,q8⟩ => ?_
  have w9:=ht _ s8 σ8 H8 _ I8 q8
  rw[hx]at w9
  refine thn w9 fun ok s9 ⟨H9,I9,q9⟩ => ?_
  cases ok with
  | false=>
   obtain⟨m',hm,w'⟩:=hN _ _ q9
   obtain⟨a1,a2,a3⟩:=again ex8 I9
   exact⟨m',hm,i+1,ys,H9,a1,a2,a3,w'⟩
  | true=>
   have w10:=he _ s9 σ8 H9 _ I9 q9
   rw[hx]at w10
   refine thn w10 fun y s10 ⟨yv,H10,I10,r10,hD10,n10⟩ => ?_
   obtain⟨m',hm,w'⟩:=hN _ _ n10
   have w11:=mt_append (X:=X) _ s10 σ8 H10 (.ref D) [yv] (.ref D) [y] (fun v H'=>v=.non∧H'=upd H10 D (.lst (ys++[yv]))) I10 rfl (.cons r10 .nil) ⟨D,ys,yv,rfl,rfl,hD10,hl,rfl,rfl⟩
   rw[hx]at w11
   refine thn w11 fun _ s11 ⟨_,H11,I11,_,_,e11⟩ => ?_
   subst e11
   obtain⟨a1,a2,a3⟩:=again ex8 I11
   exact⟨m',hm,i+1,_,_,a1,a2,a3,w'⟩
theorem pe_comp {elt iter tg:Expr}{ifs:List Expr}{scope:Scope}{pos:Pos}{N':List Str}{k:Nat}{fm:List Nat}{wi:TI}{g:TG}{tt:TT}{te:TE}(B:BlkScope X N' k fm scope) (hc:X.calm=true) (hi:PI X tg iter wi)
  (hb:∀fp s H,PG (blk X N' scope fp s H) tg g∧PTs (blk X N' scope fp s H) ifs tt∧PE (blk X N' scope fp s H) elt te)
  (hs:∀x,foldedSetIterable iter X.env x=pure x:=by intro _;rfl):PE X (.ListComp elt [⟨tg,iter,ifs,0⟩] scope pos) (tComp k fm wi g tt te):=by
 intro pins s σ H Q I h
 have hfree:∀x∈scope.names,x.2=.free→∃c,X.env.cells.lookup x.1=some c:=fun x hx hk=>I.ok.has x.1 (B.free x hx hk)
 rw[eval_ListComp]
 refine wpAny_comprehension_free (use:=none) rfl hs (closureFor_eq hfree) B.kind B.names (thn (hi pins s σ H _ I h) fun v s1 h1=>thn h1 fun itv s2 h2 => ?_)
 obtain⟨it,fp,tn,J,H2,e,I2,T,st2,f2,h2⟩:=h2
 subst e
 obtain⟨W,⟨m0,w0⟩,turn⟩:=h2 s2.heap.objs.size I2.fresh
 refine wpAny_newObj_type (wpAny_newFunctionEnv B.nocell (by intro y hy;simp at hy) (fun h4 hns4 hsb4 => ?_) B.kind)
 have I3:=I2.lnew (its:=[]) (ys:=[]) (t':=s2.toks) .nil (Nat.zero_le _)
 have hf3:∀b∈fp,FpOk X pins (upd H2 s2.heap.objs.size (.lst [])) b:=fun b hb=>by
  obtain⟨o,e,_⟩:=T.obj _ _ st2 b hb
  refine⟨?_,(f2 b hb).2⟩
  rw[upd_ne (fun z=>Nat.lt_irrefl _ (z▸Heap.lt_size e))]
  exact (f2 b hb).1
 have ho3:∀b∈fp,∃o,(s2.heap.push { cls:=.type "list", data:=.seq ([]:List Value).toArray }).get? b=some o:=fun b hb=>by
  obtain⟨o,e,_⟩:=T.obj _ _ st2 b hb
  exact⟨o,Heap.get?_push_of_some _ e⟩
 have kp4:∀b o,(s2.heap.push { cls:=.type "list", data:=.seq ([]:List Value).toArray }).get? b=some o→h4.get? b=some o:=fun b o e=>
  hsb4.extBut b o (fun z=>Nat.lt_irrefl _ (z▸Heap.lt_size e)) (Heap.get?_push_of_some _ e)
 have I4:=I3.block (fp:=fp) (h':=h4) (tk:=s2.toks+([]:List (Str×Value)).length) B hf3 ho3 hns4 kp4
 generalize hs3:({ s2 with heap:=s2.heap.push { cls:=.type "list", data:=.seq ([]:List Value).toArray },toks:=s2.toks }:Shared)=s3 at *
 obtain⟨hg,ht,he⟩:=hb fp s3 (upd H2 s2.heap.objs.size (.lst []))
 have st4:tn 0 h4:=T.keep _ _ _ st2 fun b hb o e=>kp4 b o (Heap.get?_push_of_some _ e)
 have stat:∀{H':Hp},(∀b∈fp,H' b=none)→∀b∈fp,FpOk (blk X N' scope fp s3 (upd H2 s2.heap.objs.size (.lst []))) [] H' b:=fun {H'} hn b hb=>by
  obtain⟨f0,f1,f3,f4,f5,f6⟩:=hf3 b hb
  obtain⟨g1,g2⟩:=I4.ok.exf b hb
  exact⟨hn b hb,g1,I4.ok.exfs b hb,.inl hb,g2,fun p hp=>f6 p ((List.mem_append.mp hp).elim (fun z=>List.mem_append_left _ z) fun z=>absurd z (by simp))⟩
 have loop:codeAny (model X.prog X.w) X.A (.compLoop (.ListComp elt [⟨tg,iter,ifs,0⟩] scope pos) 0 (.ref it) (.ref s2.heap.objs.size) (compEnvC scope (clOf X.env scope.names []) s3.heap.objs.size X.env))
   (compPost (model X.prog X.w) X.A X.xe none (EP X pins σ Q) (.ref s2.heap.objs.size) s3.heap.objs.size) { s3 with heap:=h4,toks:=s2.toks+([]:List (Str×Value)).length }:=by
  refine blk_loop (X:=blk X N' scope fp s3 (upd H2 s2.heap.objs.size (.lst []))) (D:=s2.heap.objs.size) (Q:=Q) (W:=W) (m0:=m0) rfl hc T stat hg ht he turn I4 st4 (fun b hb=>(hf3 b hb).1) w0 ?_
  intro H' s' I' q
  obtain⟨m,hn,_⟩:=I'.loc
  refine⟨m,hn,fun h'' hs'' => ?_⟩
  have hC:s3.heap.get? s3.heap.objs.size=none:=by
   cases e:s3.heap.get? s3.heap.objs.size with
   | none=>rfl
   | some o=>exact absurd (Heap.lt_size e) (Nat.lt_irrefl _)
  have u:Un (frs X.stack) fp (upd H2 s2.heap.objs.size (.lst [])) H' s3.heap h'':=Un.tail I'.base (fun b o hb e=>hs''.extBut b o hb e) hC
  refine⟨.ref s2.heap.objs.size,H',?_,rfl,q⟩
  refine I3.call' (s':={ s' with heap:=h'' }) (ch:=fp) I'.os u (I'.hok.tail (fun b o hb e=>hs''.extBut b o hb e) I'.free) I'.bare fun b hb => ?_
  obtain⟨f0,f1,f3,f4,f5,f6⟩:=hf3 b hb
  exact⟨f4,f1,f5,f6⟩
 subst hs3
 exact codeAny_compStart_list loop (T.self X.A 0 _ _ _ st4 loop)
end
end L2
namespace L2
open PySem PySem.Spec PyProof.Rows
noncomputable def Its (z:Str):It:=⟨fun i _=>i<z.cps.size,fun i H x H'=>H'=H∧∃c,z.cps[i]?=some c∧x=.str ⟨#[c]⟩,fun i _=>z.cps.size≤i⟩
section
variable {X:Cx}{tg:Expr}
def iStr (tl:TE):TI:=fun σ H R=>tl σ H fun x H1=>∃z,x=.str z∧R (Its z) H1
end
section
variable {X:Cx}
noncomputable def rSlS:V→Option Int→Option Int→Hp→VK→Prop:=fun x lo hi H Q=>∃z,x=.str z∧z.length≤sizeLine∧Q (.str (Txt.slice z lo hi)) H
noncomputable def rAll (K:Wf):List V→Hp→VK→Prop:=fun xs H Q=>∃(a:Addr) (bs:List Bool),xs=[.ref a]∧SqL K H a (bs.map V.bl)∧Q (.bl (bs.all id)) H
noncomputable def rIsi (K:Wf):List V→Hp→VK→Prop:=fun xs H Q=>∃x n t b,xs=[x,.ty n]∧TyOf K H x t∧PySem.W.kitOne K t (.type n)=some b∧Q (.bl b) H
theorem call_isi:CallR X (.builtin "isinstance") (rIsi X.K):=by
 intro pins s σ H xs us Q I r h
 obtain⟨x,n,t,b,rfl,ty,e,q⟩:=h
 obtain⟨u,u2,rfl,ru,ru2⟩:=vals2 r
 cases ru2
 exact isinst_ok I ru ty e fun tk=>⟨.bl b,H,I.tok tk,rfl,q⟩
def rCatS (K:Wf):R2:=fun x y H Q=>∃l b xs zs,x=.ref l∧y=.ref b∧SqL K H l xs∧SqL K H b zs∧xs.length+zs.length≤sizeLine∧∀p,H p=none→Q (.ref p) (upd H p (.lst (xs++zs)))
theorem op_catS:OpR X (binaryOp .Add) (rCatS X.K):=by
 intro pins s σ H x y v u Q I rx ry h
 obtain⟨l,b,xs,zs,rfl,rfl,hH,hB,hz,q⟩:=h
 cases rx
 cases ry
 obtain⟨vs,r,p,z⟩:=I.list hH
 obtain⟨ws,r2,p2,z2⟩:=I.list hB
 have l1:=r.length
 have l2:=r2.length
 obtain⟨⟨cls,dd,data,sl⟩,n,ho,hc,hdd,hd⟩:=p
 obtain⟨⟨cls2,dd2,data2,sl2⟩,n2,ho2,hc2,hdd2,hd2⟩:=p2
 simp only at hc hd hc2 hd2
 subst hc hd hc2 hd2
 have e:vs.toArray++ws.toArray=(vs++ws).toArray:=by simp
 refine concat_meets ⟨_,ho,rfl⟩ ⟨_,ho2,rfl⟩ noFill_list_add seq_list_add PySem.F.slot_list_add PySem.F.entry_list_add (PySem.F.args_list_add_2 _ _) (list_addW l b vs.toArray ws.toArray n n2 dd dd2 sl sl2 (by simp;omega)) ⟨ho,ho2,?_⟩
 rw[e]
 exact⟨.ref _,_,I.lnew (t':=s.toks) (r.append r2) (by rw[List.length_append];omega),rfl,q _ I.fresh⟩
end
end L2
namespace L2
open PySem PySem.Spec PyProof.Rows
inductive Slots (X:Cx) (scope:Scope):List Str→List Nat→Prop
 | nil:Slots X scope [] []
 | cons {x:Str}{j:Nat}{xs:List Str}{js:List Nat}(h1:scope.names.lookup x=some .free) (h2:X.env.kindOf x=some .cell∨X.env.kindOf x=some .free) (h3:X.N[j]?=some x) (r:Slots X scope xs js):Slots X scope (x::xs) (j::js)
theorem Slots.len {X:Cx}{scope:Scope}:∀{xs:List Str}{js:List Nat},Slots X scope xs js→xs.length=js.length
 | _,_,.nil=>rfl
 | _,_,.cons _ _ _ r=>by simp[r.len]
theorem Slots.kind {X:Cx}{scope:Scope}:∀{xs:List Str}{js:List Nat},Slots X scope xs js→∀x∈xs,X.env.kindOf x=some .cell∨X.env.kindOf x=some .free
 | _,_,.nil,x,h=>absurd h (by simp)
 | _,_,.cons _ h2 _ r,x,h=>by
  rcases List.mem_cons.mp h with e | e
  ·subst e;exact h2
  ·exact r.kind x e
theorem Slots.get {X:Cx}{scope:Scope}:∀{xs:List Str}{js:List Nat},Slots X scope xs js→∀(i:Nat) (x:Str),xs[i]?=some x→scope.names.lookup x=some .free∧∃j,js[i]?=some j∧X.N[j]?=some x
 | _,_,.nil,i,x,h=>by simp at h
 | _,_,.cons h1 _ h3 r,0,x,h=>by
  simp only[List.getElem?_cons_zero,Option.some.injEq]at h
  subst h
  exact⟨h1,_,by simp,h3⟩
 | _,_,.cons _ _ _ r,i+1,x,h=>by simpa using r.get i x (by simpa using h)
theorem blk_mk {X:Cx}{own fr:List Str}{fm:List Nat}{scope:Scope}(kind:scope.kind=.function) (h1:∀y∈scope.names,y.2≠.cell) (h2:∀y∈scope.names,y.2=.local→scope.names.lookup y.1=some .local)
  (h3:∀y∈scope.names,y.2=.free→y.1∈fr) (S:Slots X scope fr fm):BlkScope X (own++fr) own.length fm scope:=
 ⟨kind,h1,h2,fun y hy hk=>S.kind y.1 (h3 y hy hk),by rw[List.length_append,S.len],fun i x hi h=>by
  rw[List.getElem?_append_right hi]at h
  exact S.get _ x h⟩
section
variable {X:Cx}
end
theorem comp_list {K:Wf}{a:Addr}{xs:List V}{g:TG}{tt:TT}{te:TE}{σ0:St}{H:Hp}{D:Addr}{Q:VK}(hz:xs.length<sizeLine) (Pv:Nat→List V→Hp→Prop) (h0:Pv 0 [] (upd H D (.lst [])))
  (hl:∀i ys H,i≤xs.length→Pv i ys H→SqL K H a xs∧H D=some (.lst ys)∧ys.length≤i)
  (hs:∀i x ys H,xs[i]?=some x→Pv i ys H→g x σ0 H fun σ3 H4=>Ext σ0 σ3∧tt σ3 H4 fun b H5=>if b=true then te σ3 H5 fun y H6=>H6 D=some (.lst ys)∧Pv (i+1) (ys++[y]) (upd H6 D (.lst (ys++[y]))) else Pv (i+1) ys H5)
  (hd:∀ys H,Pv xs.length ys H→Q (.ref D) H):
  ∃W:Nat→Nat→List V→Hp→Prop,(∃m,W 0 m [] (upd H D (.lst [])))∧∀i m ys H2,W i m ys H2→H2 D=some (.lst ys)∧ys.length<sizeLine∧(((Itl K a).stop i H2∧Q (.ref D) H2)∨((Itl K a).go i H2∧∃N:List V→Hp→Prop,(∀ys' H',N ys' H'→∃m',m'<m∧W (i+1) m' ys' H')∧∀x H3,(Itl K a).yld i H2 x H3→
   g x σ0 H3 fun σ3 H4=>Ext σ0 σ3∧tt σ3 H4 fun b H5=>if b=true then te σ3 H5 fun y H6=>H6 D=some (.lst ys)∧N (ys++[y]) (upd H6 D (.lst (ys++[y]))) else N ys H5)):=by
 refine⟨fun i m ys H=>m=xs.length - i∧i≤xs.length∧Pv i ys H,⟨xs.length,by simp,Nat.zero_le _,h0⟩,?_⟩
 rintro i m ys H2 ⟨rfl,hi,p⟩
 obtain⟨l0,l1,l2⟩:=hl i ys H2 hi p
 refine⟨l1,by omega,?_⟩
 by_cases hlt:i<xs.length
 ·refine .inr ⟨⟨xs,xs[i],l0,by simp[hlt]⟩,Pv (i+1),fun ys' H' p'=>⟨_,(by omega:xs.length - (i+1)<xs.length - i),rfl,hlt,p'⟩,fun x H3 y => ?_⟩
  obtain⟨e,y⟩:=y
  subst e
  exact hs i x ys _ (y xs l0) p
 ·have e:i=xs.length:=by omega
  subst e
  exact .inl ⟨⟨xs,l0,Nat.le_refl _⟩,hd ys H2 p⟩
def ForW (g:TG) (tb:TS) (D:Ends) (σ:St) (J:It) (H1:Hp):Prop:=∃W:Nat→Nat→St→Hp→Prop,(∃m,W 0 m σ H1)∧∀i m σ H,W i m σ H→
 (J.stop i H∧D.nx σ H)∨(J.go i H∧∃N:St→Hp→Prop,(∀σ' H',N σ' H'→∃m',m'<m∧W (i+1) m' σ' H')∧∀x H',J.yld i H x H'→g x σ H' fun σ2 H2=>tb { D with nx:=N,ct:=N,bk:=D.nx } σ2 H2)
def ForL (K:Wf) (g:TG) (tb:TS) (D:Ends) (σ:St):VK:=fun x H1=>∃a,x=.ref a∧(∃xs,SqL K H1 a xs)∧ForW g tb D σ (Itl K a) H1
def ForT (K:Wf) (g:TG) (tb:TS) (D:Ends) (σ:St):VK:=fun x H1=>∃a,x=.ref a∧(∃xs,SqT K H1 a xs)∧ForW g tb D σ (Itt K a) H1
def ForS (g:TG) (tb:TS) (D:Ends) (σ:St):VK:=fun x H1=>∃z,x=.str z∧ForW g tb D σ (Its z) H1
noncomputable def ForR (g:TG) (tb:TS) (D:Ends) (σ:St):List V→Hp→Prop:=fun vs H1=>∃j:Int,vs=[.int j] ∧ -(2 ^ 62)≤j∧j<2 ^ 62∧ForW g tb D σ (Itr 0 j.toNat) H1
noncomputable def ForR2 (g:TG) (tb:TS) (D:Ends) (σ:St):List V→Hp→Prop:=fun vs H1=>∃i j:Int,vs=[.int i,.int j]∧(-(2 ^ 62)≤i∧i<2 ^ 62 ∧ -(2 ^ 62)≤j∧j<2 ^ 62)∧ForW g tb D σ (Itr i (j - i).toNat) H1
section
variable {K:Wf}{te:TE}{ta:TA}{g:TG}{tb:TS}{D:Ends}{σ:St}{H:Hp}
theorem tFor_list:tFor (iList K te) g tb D σ H=te σ H (ForL K g tb D σ):=rfl
theorem tFor_tup:tFor (iTup K te) g tb D σ H=te σ H (ForT K g tb D σ):=rfl
theorem tFor_str:tFor (iStr te) g tb D σ H=te σ H (ForS g tb D σ):=rfl
theorem tFor_rng1:tFor (iRng1 ta) g tb D σ H=ta σ H (ForR g tb D σ):=rfl
theorem tFor_rng2:tFor (iRng2 ta) g tb D σ H=ta σ H (ForR2 g tb D σ):=rfl
theorem ForL.of {a:Addr}{xs:List V}(Pv:Nat→St→Hp→Prop) (h0:Pv 0 σ H) (hl:∀i σ H,i≤xs.length→Pv i σ H→SqL K H a xs)
  (hs:∀i x σ H,xs[i]?=some x→Pv i σ H→g x σ H fun σ2 H2=>tb { D with nx:=Pv (i+1),ct:=Pv (i+1),bk:=D.nx } σ2 H2) (hd:∀σ H,Pv xs.length σ H→D.nx σ H):ForL K g tb D σ (.ref a) H:=
 ⟨a,rfl,⟨xs,hl 0 _ _ (Nat.zero_le _) h0⟩,for_list Pv h0 hl hs hd⟩
theorem ForT.of {a:Addr}{xs:List V}(Pv:Nat→St→Hp→Prop) (h0:Pv 0 σ H) (hl:∀i σ H,i≤xs.length→Pv i σ H→SqT K H a xs)
  (hs:∀i x σ H,xs[i]?=some x→Pv i σ H→g x σ H fun σ2 H2=>tb { D with nx:=Pv (i+1),ct:=Pv (i+1),bk:=D.nx } σ2 H2) (hd:∀σ H,Pv xs.length σ H→D.nx σ H):ForT K g tb D σ (.ref a) H:=
 ⟨a,rfl,⟨xs,hl 0 _ _ (Nat.zero_le _) h0⟩,for_tup Pv h0 hl hs hd⟩
theorem ForR.of {n:Int}(h1:n<2 ^ 62) (h2 : -(2 ^ 62)≤n) (Pv:Nat→St→Hp→Prop) (h0:Pv 0 σ H)
  (hs:∀i σ H,i<n.toNat→Pv i σ H→g (.int (i:Int)) σ H fun σ2 H2=>tb { D with nx:=Pv (i+1),ct:=Pv (i+1),bk:=D.nx } σ2 H2) (hd:∀σ H,Pv n.toNat σ H→D.nx σ H):ForR g tb D σ [.int n] H:=
 ⟨n,rfl,h2,h1,for_range (n:=n.toNat) Pv h0 (fun i σ H hi p=>by
  have e:(0:Int)+(i:Int)=i:=by omega
  rw[e];exact hs i σ H hi p) hd⟩
end
def CompW (g:TG) (tt:TT) (te:TE) (σ0:St) (Q:VK) (J:It) (H1:Hp):Prop:=∀DD,H1 DD=none→∃W:Nat→Nat→List V→Hp→Prop,
 (∃m,W 0 m [] (upd H1 DD (.lst [])))∧∀i m ys H2,W i m ys H2→H2 DD=some (.lst ys)∧ys.length<sizeLine∧((J.stop i H2∧Q (.ref DD) H2)∨(J.go i H2∧∃N:List V→Hp→Prop,(∀ys' H',N ys' H'→∃m',m'<m∧W (i+1) m' ys' H')∧∀x H3,J.yld i H2 x H3→
  g x σ0 H3 fun σ3 H4=>Ext σ0 σ3∧tt σ3 H4 fun b H5=>if b=true then te σ3 H5 fun y H6=>H6 DD=some (.lst ys)∧N (ys++[y]) (upd H6 DD (.lst (ys++[y]))) else N ys H5))
def CompL (K:Wf) (g:TG) (tt:TT) (te:TE) (σ0:St) (Q:VK):VK:=fun x H1=>∃a,x=.ref a∧(∃xs,SqL K H1 a xs)∧CompW g tt te σ0 Q (Itl K a) H1
def CompT (K:Wf) (g:TG) (tt:TT) (te:TE) (σ0:St) (Q:VK):VK:=fun x H1=>∃a,x=.ref a∧(∃xs,SqT K H1 a xs)∧CompW g tt te σ0 Q (Itt K a) H1
def CompS (g:TG) (tt:TT) (te:TE) (σ0:St) (Q:VK):VK:=fun x H1=>∃z,x=.str z∧CompW g tt te σ0 Q (Its z) H1
noncomputable def CompR (g:TG) (tt:TT) (te:TE) (σ0:St) (Q:VK):List V→Hp→Prop:=fun vs H1=>∃j:Int,vs=[.int j] ∧ -(2 ^ 62)≤j∧j<2 ^ 62∧CompW g tt te σ0 Q (Itr 0 j.toNat) H1
section
variable {K:Wf}{k:Nat}{fm:List Nat}{tl te:TE}{ta:TA}{g:TG}{tt:TT}{σ σ0:St}{H H1:Hp}{Q:VK}
theorem tComp_list:tComp k fm (iList K tl) g tt te σ H Q=tl σ H (CompL K g tt te (blkSt k fm σ) Q):=rfl
theorem tComp_tup:tComp k fm (iTup K tl) g tt te σ H Q=tl σ H (CompT K g tt te (blkSt k fm σ) Q):=rfl
theorem tComp_str:tComp k fm (iStr tl) g tt te σ H Q=tl σ H (CompS g tt te (blkSt k fm σ) Q):=rfl
theorem tComp_rng1:tComp k fm (iRng1 ta) g tt te σ H Q=ta σ H (CompR g tt te (blkSt k fm σ) Q):=rfl
theorem CompL.of {a:Addr}{xs:List V}(hz:xs.length<sizeLine) (hx:SqL K H1 a xs) (Pv:Addr→Nat→List V→Hp→Prop) (h0:∀D,H1 D=none→Pv D 0 [] (upd H1 D (.lst [])))
  (hl:∀D i ys H',H1 D=none→i≤xs.length→Pv D i ys H'→SqL K H' a xs∧H' D=some (.lst ys)∧ys.length≤i)
  (hs:∀D i x ys H',H1 D=none→xs[i]?=some x→Pv D i ys H'→g x σ0 H' fun σ3 H4=>Ext σ0 σ3∧tt σ3 H4 fun b H5=>if b=true then te σ3 H5 fun y H6=>H6 D=some (.lst ys)∧Pv D (i+1) (ys++[y]) (upd H6 D (.lst (ys++[y]))) else Pv D (i+1) ys H5)
  (hd:∀D ys H',H1 D=none→Pv D xs.length ys H'→Q (.ref D) H'):CompL K g tt te σ0 Q (.ref a) H1:=
 ⟨a,rfl,⟨xs,hx⟩,fun D hD=>comp_list hz (Pv D) (h0 D hD) (fun i ys H'=>hl D i ys H' hD) (fun i x ys H'=>hs D i x ys H' hD) fun ys H'=>hd D ys H' hD⟩
end
end L2
namespace L2
open PySem PySem.Spec PyProof.Rows
inductive D where
 | non | bl (b:Bool) | int (i:Int) | str (z:Str) | lst (xs:List D) | tup (xs:List D)
mutual
noncomputable def Rep (K:Wf) (H:Hp):D→V→Prop
 | .non,v=>v=.non
 | .bl b,v=>v=.bl b
 | .int i,v=>v=.int i
 | .str z,v=>v=.str z
 | .lst ds,v=>∃a xs,v=.ref a∧SqL K H a xs∧RepL K H ds xs
 | .tup ds,v=>∃a xs,v=.ref a∧SqT K H a xs∧RepL K H ds xs
noncomputable def RepL (K:Wf) (H:Hp):List D→List V→Prop
 | [],xs=>xs=[]
 | d::ds,xs=>∃y ys,xs=y::ys∧Rep K H d y∧RepL K H ds ys
end
mutual
noncomputable def deq:D→D→Bool
 | .non,.non=>true
 | .bl a,.bl b=>a == b
 | .bl a,.int b=>(if a then 1 else 0) == b
 | .int a,.bl b=>a == (if b then 1 else 0)
 | .int a,.int b=>a == b
 | .str a,.str b=>a == b
 | .lst a,.lst b=>deqL a b
 | .tup a,.tup b=>deqL a b
 | _,_=>false
noncomputable def deqL:List D→List D→Bool
 | [],[]=>true
 | a::as,b::bs=>deq a b&&deqL as bs
 | _,_=>false
end
mutual
noncomputable def dep:D→Nat
 | .lst ds=>depL ds+1
 | .tup ds=>depL ds+1
 | _=>0
noncomputable def depL:List D→Nat
 | []=>0
 | d::ds=>max (dep d) (depL ds)
end
mutual
theorem deq_refl:∀d:D,deq d d=true
 | .non=>rfl
 | .bl a=>by simp[deq]
 | .int a=>by simp[deq]
 | .str a=>by simp[deq]
 | .lst a=>by simp only[deq];exact deqL_refl a
 | .tup a=>by simp only[deq];exact deqL_refl a
theorem deqL_refl:∀ds:List D,deqL ds ds=true
 | []=>rfl
 | d::ds=>by simp only[deqL,deq_refl d,deqL_refl ds,Bool.and_self]
end
theorem RepL.len {K:Wf}{H:Hp}:∀{ds:List D}{xs:List V},RepL K H ds xs→ds.length=xs.length
 | [],xs,h=>by simp only[RepL]at h;subst h;rfl
 | d::ds,xs,h=>by
  simp only[RepL]at h
  obtain⟨y,ys,rfl,_,r⟩:=h
  simp[r.len]
noncomputable def eAt (ds es:List D) (j:Nat):Bool:=match ds[j]?,es[j]? with
 | some d,some e=>deq d e
 | _,_=>true
theorem eAt_all:∀(ds es:List D),((List.range (min ds.length es.length)).all (eAt ds es)&&ds.length == es.length)=deqL ds es
 | [],[]=>by simp[deqL]
 | [],e::es=>by simp[deqL]
 | d::ds,[]=>by simp[deqL]
 | d::ds,e::es=>by
  have ih:=eAt_all ds es
  have h1:min (d::ds).length (e::es).length=min ds.length es.length+1:=by simp only[List.length_cons];omega
  rw[h1,List.range_succ_eq_map,List.all_cons,List.all_map]
  have h2:(eAt (d::ds) (e::es) ∘ Nat.succ)=eAt ds es:=by funext j;simp[eAt]
  have h3:eAt (d::ds) (e::es) 0=deq d e:=by simp[eAt]
  rw[h2,h3]
  simp only[deqL,←ih,List.length_cons,Bool.and_assoc]
  congr 2
  simp
section
variable {X:Cx}{pins:Lo}{σ:St}{H:Hp}{s:Shared}
mutual
theorem rep_inj (I:Inv X pins σ H s):∀(d e:D) (x:V),Rep X.K H d x→Rep X.K H e x→d=e
 | d,e,x,hd,he=>by
  cases d with
  | non=>
   simp only[Rep]at hd;subst hd
   cases e<;>simp only[Rep]at he<;>first | rfl | (obtain⟨a,xs,z,_⟩:=he;cases z;done) | (cases he;done)
  | bl b=>
   simp only[Rep]at hd;subst hd
   cases e<;>simp only[Rep]at he<;>first | (obtain⟨a,xs,z,_⟩:=he;cases z;done) | (cases he;rfl) | (cases he;done)
  | int b=>
   simp only[Rep]at hd;subst hd
   cases e<;>simp only[Rep]at he<;>first | (obtain⟨a,xs,z,_⟩:=he;cases z;done) | (cases he;rfl) | (cases he;done)
  | str b=>
   simp only[Rep]at hd;subst hd
   cases e<;>simp only[Rep]at he<;>first | (obtain⟨a,xs,z,_⟩:=he;cases z;done) | (cases he;rfl) | (cases he;done)
  | lst ds=>
   simp only[Rep]at hd
   obtain⟨a,xs,rfl,hx,r⟩:=hd
   cases e with
   | lst es=>
    simp only[Rep]at he
    obtain⟨a',xs',z,hx',r'⟩:=he
    cases z
    have:=I.list_inj hx hx'
    subst this
    rw[repL_inj I ds es xs r r']
   | tup es=>
    simp only[Rep]at he
    obtain⟨a',xs',z,hx',r'⟩:=he
    cases z
    exfalso
    obtain⟨_,_,p,_⟩:=I.list hx
    obtain⟨_,_,q,_⟩:=I.tuple hx'
    obtain⟨o,n,e1,e2,_⟩:=p
    obtain⟨o',e1',e2',_⟩:=q
    rw[e1]at e1';cases e1'
    rw[e2]at e2';exact absurd e2' (by decide)
   | _=>simp only[Rep]at he;cases he
  | tup ds=>
   simp only[Rep]at hd
   obtain⟨a,xs,rfl,hx,r⟩:=hd
   cases e with
   | tup es=>
    simp only[Rep]at he
    obtain⟨a',xs',z,hx',r'⟩:=he
    cases z
    have:=I.tuple_inj hx hx'
    subst this
    rw[repL_inj I ds es xs r r']
   | lst es=>
    simp only[Rep]at he
    obtain⟨a',xs',z,hx',r'⟩:=he
    cases z
    exfalso
    obtain⟨_,_,p,_⟩:=I.list hx'
    obtain⟨_,_,q,_⟩:=I.tuple hx
    obtain⟨o,n,e1,e2,_⟩:=p
    obtain⟨o',e1',e2',_⟩:=q
    rw[e1]at e1';cases e1'
    rw[e2]at e2';exact absurd e2' (by decide)
   | _=>simp only[Rep]at he;cases he
theorem repL_inj (I:Inv X pins σ H s):∀(ds es:List D) (xs:List V),RepL X.K H ds xs→RepL X.K H es xs→ds=es
 | [],es,xs,hd,he=>by
  simp only[RepL]at hd
  subst hd
  cases es with
  | nil=>rfl
  | cons e es=>simp only[RepL]at he;obtain⟨y,ys,z,_⟩:=he;cases z
 | d::ds,es,xs,hd,he=>by
  simp only[RepL]at hd
  obtain⟨y,ys,rfl,r,rs⟩:=hd
  cases es with
  | nil=>simp only[RepL]at he;cases he
  | cons e es=>
   simp only[RepL]at he
   obtain⟨y',ys',z,r',rs'⟩:=he
   cases z
   rw[rep_inj I d e y r r',repL_inj I ds es ys rs rs']
end
theorem zz15 {h:Heap}{a:Addr}{its:Array Value}(p:IsTup h a its):h.IsTuple a its:=by
 obtain⟨o,e,c,n,d⟩:=p
 exact⟨o,e,c,n,d⟩
mutual
theorem eq_deep (I:Inv X pins σ H s):∀(d e:D) (x y:V) (u v:Value) (A:Around),A.units+dep d<cLine→Rep X.K H d x→Rep X.K H e y→RelV x u→RelV y v→SeqAt.EqAt A s u v (deq d e)
 | .non,e,x,y,u,v,A,hu,hd,he,rx,ry=>by
  have hu:A.units<cLine:=by omega
  simp only[Rep]at hd;subst hd;cases rx
  cases e<;>simp only[Rep]at he
  ·subst he;cases ry;exact SeqAt.EqAt.same _
  ·subst he;cases ry;exact SeqAt.EqAt.none_bool _
  ·subst he;obtain⟨t,rfl⟩:=ry;exact SeqAt.EqAt.none_int _ _
  ·subst he;obtain⟨t,rfl⟩:=ry;exact SeqAt.EqAt.none_str _ _
  ·obtain⟨a,xs,rfl,hx,_⟩:=he;cases ry;obtain⟨_,_,p,_⟩:=I.list hx;exact SeqAt.EqAt.none_list p.isList hu
  ·obtain⟨a,xs,rfl,hx,_⟩:=he;cases ry;obtain⟨_,_,p,_⟩:=I.tuple hx;exact SeqAt.EqAt.none_tuple (zz15 p) hu
 | .bl b,e,x,y,u,v,A,hu,hd,he,rx,ry=>by
  have hu:A.units<cLine:=by omega
  simp only[Rep]at hd;subst hd;cases rx
  cases e<;>simp only[Rep]at he
  ·subst he;cases ry;exact SeqAt.EqAt.bool_none _
  ·subst he;cases ry;exact SeqAt.EqAt.bool_bool _ _
  ·subst he;obtain⟨t,rfl⟩:=ry;exact SeqAt.EqAt.bool_int _ _ _
  ·subst he;obtain⟨t,rfl⟩:=ry;exact SeqAt.EqAt.bool_str _ _ _
  ·obtain⟨a,xs,rfl,hx,_⟩:=he;cases ry;obtain⟨_,_,p,_⟩:=I.list hx;exact SeqAt.EqAt.bool_list _ p.isList hu
  ·obtain⟨a,xs,rfl,hx,_⟩:=he;cases ry;obtain⟨_,_,p,_⟩:=I.tuple hx;exact SeqAt.EqAt.bool_tuple _ (zz15 p) hu
 | .int b,e,x,y,u,v,A,hu,hd,he,rx,ry=>by
  have hu:A.units<cLine:=by omega
  simp only[Rep]at hd;subst hd;obtain⟨t0,rfl⟩:=rx
  cases e<;>simp only[Rep]at he
  ·subst he;cases ry;exact SeqAt.EqAt.int_none _ _
  ·subst he;cases ry;exact SeqAt.EqAt.int_bool _ _ _
  ·subst he;obtain⟨t,rfl⟩:=ry;exact SeqAt.EqAt.int_int _ _ _ _
  ·subst he;obtain⟨t,rfl⟩:=ry;exact SeqAt.EqAt.int_str _ _ _ _
  ·obtain⟨a,xs,rfl,hx,_⟩:=he;cases ry;obtain⟨_,_,p,_⟩:=I.list hx;exact SeqAt.EqAt.int_list _ _ p.isList hu
  ·obtain⟨a,xs,rfl,hx,_⟩:=he;cases ry;obtain⟨_,_,p,_⟩:=I.tuple hx;exact SeqAt.EqAt.int_tuple _ _ (zz15 p) hu
 | .str b,e,x,y,u,v,A,hu,hd,he,rx,ry=>by
  have hu:A.units<cLine:=by omega
  simp only[Rep]at hd;subst hd;obtain⟨t0,rfl⟩:=rx
  cases e<;>simp only[Rep]at he
  ·subst he;cases ry;exact SeqAt.EqAt.str_none _ _
  ·subst he;cases ry;exact SeqAt.EqAt.str_bool _ _ _
  ·subst he;obtain⟨t,rfl⟩:=ry;exact SeqAt.EqAt.str_int _ _ _ _
  ·subst he;obtain⟨t,rfl⟩:=ry;exact SeqAt.EqAt.str_str _ _ _ _
  ·obtain⟨a,xs,rfl,hx,_⟩:=he;cases ry;obtain⟨_,_,p,_⟩:=I.list hx;exact SeqAt.EqAt.str_list _ _ p.isList hu
  ·obtain⟨a,xs,rfl,hx,_⟩:=he;cases ry;obtain⟨_,_,p,_⟩:=I.tuple hx;exact SeqAt.EqAt.str_tuple _ _ (zz15 p) hu
 | .lst ds,e,x,y,u,v,A,hu,hd,he,rx,ry=>by
  have hu0:A.units<cLine:=by omega
  simp only[dep]at hu
  simp only[Rep]at hd;obtain⟨a,xs,rfl,hx,r⟩:=hd;cases rx
  obtain⟨its,rv,p,hz⟩:=I.list hx
  cases e<;>simp only[Rep]at he
  ·subst he;cases ry;exact SeqAt.EqAt.list_none p.isList hu0
  ·subst he;cases ry;exact SeqAt.EqAt.list_bool _ p.isList hu0
  ·subst he;obtain⟨t,rfl⟩:=ry;exact SeqAt.EqAt.list_int _ _ p.isList hu0
  ·subst he;obtain⟨t,rfl⟩:=ry;exact SeqAt.EqAt.list_str _ _ p.isList hu0
  ·rename_i es
   obtain⟨b,ys,rfl,hy,r'⟩:=he;cases ry
   obtain⟨its',rv',p',hz'⟩:=I.list hy
   by_cases hab:a=b
   ·subst hab
    have:=I.list_inj hx hy
    subst this
    rw[repL_inj I ds es xs r r',deq_refl]
    exact SeqAt.EqAt.same _
   ·have l1:=r.len
    have l2:=rv.length
    have l3:=r'.len
    have l4:=rv'.length
    have key:=eAt_all ds es
    simp only[deq]
    rw[←key]
    by_cases hl:its.length=its'.length
    ·have:=SeqAt.EqAt.of_refs hab (SeqAt.RcAt.lists (e:=eAt ds es) p.isList p'.isList (by simpa using hl) hu0 (fun j h1 h2=>by
      have q:=eq_deepL I ds es xs ys its its' A.in1 (by show A.units+1+depL ds<cLine;omega) r r' rv rv' j (by simpa using h1) (by simpa using h2)
      simpa using q))
     have e1:its.toArray.size=min ds.length es.length:=by rw[List.size_toArray];omega
     rw[e1]at this
     have e2:(ds.length == es.length)=true:=by simp;omega
     rw[e2,Bool.and_true]
     exact this
    ·have e2:(ds.length == es.length)=false:=by simp;omega
     rw[e2,Bool.and_false]
     exact SeqAt.EqAt.of_refs hab (SeqAt.RcAt.lists_lengths p.isList p'.isList (by simpa using hl) hu0)
  ·obtain⟨b,ys,rfl,hy,r'⟩:=he;cases ry
   obtain⟨_,_,q,_⟩:=I.tuple hy
   exact SeqAt.EqAt.list_tuple p.isList (zz15 q) hu0
 | .tup ds,e,x,y,u,v,A,hu,hd,he,rx,ry=>by
  have hu0:A.units<cLine:=by omega
  simp only[dep]at hu
  simp only[Rep]at hd;obtain⟨a,xs,rfl,hx,r⟩:=hd;cases rx
  obtain⟨its,rv,p,hz⟩:=I.tuple hx
  cases e<;>simp only[Rep]at he
  ·subst he;cases ry;exact SeqAt.EqAt.tuple_none (zz15 p) hu0
  ·subst he;cases ry;exact SeqAt.EqAt.tuple_bool _ (zz15 p) hu0
  ·subst he;obtain⟨t,rfl⟩:=ry;exact SeqAt.EqAt.tuple_int _ _ (zz15 p) hu0
  ·subst he;obtain⟨t,rfl⟩:=ry;exact SeqAt.EqAt.tuple_str _ _ (zz15 p) hu0
  ·obtain⟨b,ys,rfl,hy,r'⟩:=he;cases ry
   obtain⟨_,_,q,_⟩:=I.list hy
   exact SeqAt.EqAt.tuple_list (zz15 p) q.isList hu0
  ·rename_i es
   obtain⟨b,ys,rfl,hy,r'⟩:=he;cases ry
   obtain⟨its',rv',p',hz'⟩:=I.tuple hy
   by_cases hab:a=b
   ·subst hab
    have:=I.tuple_inj hx hy
    subst this
    rw[repL_inj I ds es xs r r',deq_refl]
    exact SeqAt.EqAt.same _
   ·have l1:=r.len
    have l2:=rv.length
    have l3:=r'.len
    have l4:=rv'.length
    have key:=eAt_all ds es
    simp only[deq]
    rw[←key]
    have:=SeqAt.EqAt.of_refs hab (SeqAt.RcAt.tuples (e:=eAt ds es) (zz15 p) (zz15 p') hu0 (fun j h1 h2=>by
      have q:=eq_deepL I ds es xs ys its its' A.in1 (by show A.units+1+depL ds<cLine;omega) r r' rv rv' j (by simpa using h1) (by simpa using h2)
      simpa using q))
    have e1:its.toArray.size=ds.length:=by rw[List.size_toArray];omega
    have e2:its'.toArray.size=es.length:=by rw[List.size_toArray];omega
    rw[e1,e2]at this
    exact this
theorem eq_deepL (I:Inv X pins σ H s):∀(ds es:List D) (xs ys:List V) (us vs:List Value) (A:Around),A.units+depL ds<cLine→RepL X.K H ds xs→RepL X.K H es ys→Vals xs us→Vals ys vs→
  ∀(j:Nat) (h1:j<us.length) (h2:j<vs.length),SeqAt.EqAt A s us[j] vs[j] (eAt ds es j)
 | [],es,xs,ys,us,vs,A,hu,hd,he,rx,ry,j,h1,h2=>by
  simp only[RepL]at hd
  subst hd
  cases rx
  exact absurd h1 (by simp)
 | d::ds,es,xs,ys,us,vs,A,hu,hd,he,rx,ry,j,h1,h2=>by
  simp only[depL]at hu
  simp only[RepL]at hd
  obtain⟨x,xs',rfl,rd,rds⟩:=hd
  cases rx with
  | cons r0 rr=>
   cases es with
   | nil=>
    simp only[RepL]at he
    subst he
    cases ry
    exact absurd h2 (by simp)
   | cons e es=>
    simp only[RepL]at he
    obtain⟨y,ys',rfl,re,res⟩:=he
    cases ry with
    | cons q0 qr=>
     cases j with
     | zero=>
      have:eAt (d::ds) (e::es) 0=deq d e:=by simp[eAt]
      rw[this]
      exact eq_deep I d e x y _ _ A (by omega) rd re r0 q0
     | succ j=>
      have:eAt (d::ds) (e::es) (j+1)=eAt ds es j:=by simp[eAt]
      rw[this]
      exact eq_deepL I ds es xs' ys' _ _ A (by omega) rds res rr qr j (by simpa using h1) (by simpa using h2)
end
def rEqD (K:Wf):R2:=fun x y H Q=>∃ds es,((Rep K H (.lst ds) x∧Rep K H (.lst es) y)∨(Rep K H (.tup ds) x∧Rep K H (.tup es) y))∧depL ds≤20∧Q (.bl (deqL ds es)) H
theorem op_eqD (hu:X.A.units+64<cLine):OpR X (compareOp .Eq) (rEqD X.K):=by
 intro pins s σ H x y v u Q I rx ry h
 obtain⟨ds,es,h,hdep,q⟩:=h
 have hu0:X.A.units<cLine:=by omega
 have hin:X.A.in1.units+depL ds<cLine:=by show X.A.units+1+depL ds<cLine;omega
 have key:=eAt_all ds es
 rcases h with ⟨h1,h2⟩ | ⟨h1,h2⟩
 ·simp only[Rep]at h1 h2
  obtain⟨a,xs,rfl,hx,r⟩:=h1
  obtain⟨b,ys,rfl,hy,r'⟩:=h2
  cases rx
  cases ry
  obtain⟨its,rv,p,hz⟩:=I.list hx
  obtain⟨its',rv',p',hz'⟩:=I.list hy
  have l1:=r.len
  have l2:=rv.length
  have l3:=r'.len
  have l4:=rv'.length
  by_cases hl:its.length=its'.length
  ·refine SeqAt.eq_listAt (e:=eAt ds es) p.isList p'.isList (by simpa using hl) hu0 (fun j h1 h2 => ?_) ?_
   ·have q:=eq_deepL I ds es xs ys its its' X.A.in1 hin r r' rv rv' j (by simpa using h1) (by simpa using h2)
    simpa using q
   ·have e1:its.toArray.size=min ds.length es.length:=by rw[List.size_toArray];omega
    have e2:(ds.length == es.length)=true:=by simp;omega
    rw[e2,Bool.and_true]at key
    rw[e1,key]
    exact⟨.bl (deqL ds es),H,I,rfl,q⟩
  ·have e2:(ds.length == es.length)=false:=by simp;omega
   rw[e2,Bool.and_false]at key
   rw[←key]at q
   exact SeqAt.eq_list_lengthsAt p.isList p'.isList (by simpa using hl) hu0 ⟨.bl false,H,I,rfl,q⟩
 ·simp only[Rep]at h1 h2
  obtain⟨a,xs,rfl,hx,r⟩:=h1
  obtain⟨b,ys,rfl,hy,r'⟩:=h2
  cases rx
  cases ry
  obtain⟨its,rv,p,hz⟩:=I.tuple hx
  obtain⟨its',rv',p',hz'⟩:=I.tuple hy
  have l1:=r.len
  have l2:=rv.length
  have l3:=r'.len
  have l4:=rv'.length
  refine SeqAt.eq_tupleAt (e:=eAt ds es) (zz15 p) (zz15 p') hu0 (fun j h1 h2 => ?_) ?_
  ·have q:=eq_deepL I ds es xs ys its its' X.A.in1 hin r r' rv rv' j (by simpa using h1) (by simpa using h2)
   simpa using q
  ·have e1:its.toArray.size=ds.length:=by rw[List.size_toArray];omega
   have e2:its'.toArray.size=es.length:=by rw[List.size_toArray];omega
   rw[e1,e2,key]
   exact⟨.bl (deqL ds es),H,I,rfl,q⟩
theorem RepL.ints {K:Wf}{H:Hp}:∀ns:List Int,RepL K H (ns.map D.int) (ns.map V.int)
 | []=>by simp only[List.map_nil,RepL]
 | n::ns=>by simp only[List.map_cons,RepL];exact⟨_,_,rfl,by simp only[Rep],RepL.ints ns⟩
end
section
variable {X:Cx}{K:Wf}
theorem zz16 (e:X.K=K):IxR X (rIxL K):=e▸ix_list
theorem zz10 (e:X.K=K):IxR X (rIxT K):=e▸ix_tup
theorem sl_listK (e:X.K=K):SlR X (rSlL K):=e▸sl_list
theorem op_catSK (e:X.K=K):OpR X (binaryOp .Add) (rCatS K):=e▸op_catS
theorem op_catTK (e:X.K=K):OpR X (binaryOp .Add) (rCatT K):=e▸op_catT
theorem op_inSK (e:X.K=K):OpR X (compareOp .In) (rIn K false):=e▸op_in_seq
theorem op_eqDK (hu:X.A.units+64<cLine) (e:X.K=K):OpR X (compareOp .Eq) (rEqD K):=e▸op_eqD hu
theorem call_lenK (e:X.K=K):CallR X (.builtin "len") (fun xs H Q=>∃x n,xs=[x]∧LenV K x H n∧Q (.int n) H):=e▸call_len
theorem call_isiK (e:X.K=K):CallR X (.builtin "isinstance") (rIsi K):=e▸call_isi
theorem call_list_ofK (e:X.K=K):CallR X (.type "list") (fun xs H Q=>∃p ys,xs=[.ref p]∧(SqL K H p ys∨SqT K H p ys)∧∀l,H l=none→Q (.ref l) (upd H l (.lst ys))):=e▸call_list_of
theorem pi_listK {tg l:Expr}{tl:TE}(e:X.K=K) (hl:PE X l tl):PI X tg l (iList K tl):=e▸pi_list hl
theorem pi_tupK {tg l:Expr}{tl:TE}(e:X.K=K) (hl:PE X l tl):PI X tg l (iTup K tl):=e▸pi_tup hl
theorem pg_tupK {es:List Expr}{k:Nat}{t:TGs}{n:Nat}{pos:Pos}(e:X.K=K) (hc:X.calm=true) (h:PGs X es t)
  (hn:(assignEach es X.env).length=n:=by rfl) (hst:(assignEach es X.env).findIdx? (·.1)=none:=by rfl):PG X (.Tuple es k pos) (gTup K n t):=e▸pg_tup hc h hn hst
end
end L2
namespace L2
open PySem PySem.Spec PyProof.Rows
section
variable {X:Cx}
noncomputable def rStarts:V→List V→Hp→VK→Prop:=fun x vs H Q=>∃z y,x=.str z∧vs=[.str y]∧Q (.bl (Txt.startswith z y)) H
noncomputable def rIndex:V→List V→Hp→VK→Prop:=fun x vs H Q=>∃z y i,x=.str z∧vs=[.str y]∧(∃rest,Builtin.Str.occurrences z y 0 z.length 1=i::rest)∧Q (.int (i:Nat)) H
end
end L2
namespace L2
open PySem PySem.Spec PyProof.Rows
def ExcIs (h:Heap) (e:Addr) (cls:Value) (dx:Option Addr) (fl:Value) (T:Addr):Prop:=
 ∃oe vs oT ts,h.get? e=some oe∧oe.cls=cls∧oe.dict=dx∧oe.data=.fields vs∧vs[1]?=some (.ref T)∧T≠e∧h.get? T=some oT∧oT.data=.fields ts∧ts[3]?=some fl
set_option genInjectivity false in
structure LeftX (fs:List Addr) (e T0:Addr) (cls:Value) (dx:Option Addr) (fl:Value) (h h':Heap):Prop where
 keep:∀b o,b∉fs→b≠e→b≠T0→h.get? b=some o→h'.get? b=some o
 slot:∀b o,b∈fs→b≠e→b≠T0→h.get? b=some o→∃sl,h'.get? b=some { o with slots:=sl }
 there:∀b o,h.get? b=some o→∃o',h'.get? b=some o'
 exc:∃T,h.objs.size≤T∧ExcIs h' e cls dx fl T
section
variable {M:Model}{A:Around}{E:Vs}{s:Shared}
theorem cls_dict_mapFields (f:Array Value→Array Value) (o:Obj):(Obj.mapFields f o).dict=o.dict:=by
 obtain⟨c,d,da,sl⟩:=o
 cases da<;>rfl
theorem newEntryX {base:Heap}{env:Env}{outer:List Env}{L e T0:Addr}{oe:Obj}{vs:Array Value}{head:Value}{hadNext:Bool}{Q:Unit→Shared→Prop}
  (hfr:A.frames=some (env::outer)) (hl:s.heap.FunFrames base (env::outer)) (hf:env.frame=some L)
  (he:s.heap.get? e=some oe) (hd:oe.data=.fields vs) (hsz:1<vs.size)
  (h:∀h',LeftX (frs (env::outer)) e T0 oe.cls oe.dict (rawInt L) s.heap h'→Q () { s with heap:=h' }):
  wpAny M A (do let a ←frameOf env;let pl ←entryPlaceOf L hadNext;let b ←EntryCells.newEntry head a .none (rawInt L) .none pl;setField (.ref e) 1 b) Q E s:=by
 have hene:e∉(env::outer).filterMap (·.frame):=fun hm=>by
  obtain⟨_,o,ho,hnf⟩:=hl.mem hm
  rw[he]at ho;injection ho with ho;subst ho;exact hnf vs hd
 refine wpAny_bind (wpAny_frameOf_fun hfr hl hf fun h₁ hs₁ => ?_)
 refine wpAny_bind (wpAny_entryPlaceOf fun pl hpl => ?_)
 unfold EntryCells.newEntry newFields
 refine wpAny_bind (wpAny_newObj_type ?_ (hpl.sizeOk5 _ _ _ _ _))
 have he₁:h₁.get? e=some oe:=(hs₁.2.1 e hene).trans he
 have he₂:=Heap.get?_push_of_some (h:=h₁) { cls:=.type "traceback", dict:=none,data:=.fields ([head,.ref L,.none,rawInt L,.none]++(if pl.isEmpty then List.replicate 6 Value.none else pl)).toArray } he₁
 refine wpAny_setField he₂ hd hsz (h _ ?_)
 have hTe:h₁.objs.size≠e:=Nat.ne_of_gt (Heap.lt_size he₁)
 have hd₃:=Obj.data_mapFields hd (·.setIfInBounds 1 (Value.ref h₁.objs.size))
 have he₃:=Heap.get?_update_self (Obj.mapFields (·.setIfInBounds 1 (Value.ref h₁.objs.size))) he₂ (Obj.isFreed_of_fields hd₃)
 have hT₃:=(Heap.get?_update_other (h₁.push { cls:=.type "traceback", dict:=none,data:=.fields ([head,.ref L,.none,rawInt L,.none]++(if pl.isEmpty then List.replicate 6 Value.none else pl)).toArray })
  (Obj.mapFields (·.setIfInBounds 1 (Value.ref h₁.objs.size))) (Ne.symm hTe)).trans (Heap.get?_push_size h₁ rfl)
 have keep:∀b o,b≠e→h₁.get? b=some o→
   ((h₁.push { cls:=.type "traceback", dict:=none,data:=.fields ([head,.ref L,.none,rawInt L,.none]++(if pl.isEmpty then List.replicate 6 Value.none else pl)).toArray }).update e (Obj.mapFields (·.setIfInBounds 1 (Value.ref h₁.objs.size)))).get? b=some o:=
  fun b o hbe hb=>by
   rw[Heap.get?_update_other _ _ (Ne.symm hbe)]
   exact Heap.get?_push_of_some _ hb
 have new:s.heap.objs.size≤h₁.objs.size:=Nat.le_of_eq hs₁.1.symm
 refine⟨fun b o hb hbe _ hbo=>keep b o hbe ((hs₁.2.1 b hb).trans hbo),fun b o _ hbe _ hbo => ?_,fun b o hbo => ?_,h₁.objs.size,new,_,_,_,_,he₃,Obj.cls_mapFields _ _,cls_dict_mapFields _ _,hd₃,by simp[hsz],hTe,hT₃,rfl,?_⟩
 ·obtain⟨sl,hs⟩:=hs₁.2.2 b o hbo
  exact⟨sl,keep b _ hbe hs⟩
 ·by_cases hbe:b=e
  ·subst hbe;exact⟨_,he₃⟩
  ·obtain⟨sl,hs⟩:=hs₁.2.2 b o hbo
   exact⟨_,keep b _ hbe hs⟩
 ·first | (simp;done) | (rcases hpl with rfl | ⟨_,_,_,_,_,_,_,rfl⟩<;>simp)
def ExcNew (h:Heap) (e:Addr) (cls:Value) (dx:Option Addr):Prop:=∃oe vs,h.get? e=some oe∧oe.cls=cls∧oe.dict=dx∧oe.data=.fields vs∧vs[1]?=some .none
theorem note_new {base:Heap}{env:Env}{outer:List Env}{L e:Addr}{cls:Value}{dx:Option Addr}{Q:Unit→Shared→Prop}
  (hfr:A.frames=some (env::outer)) (hl:s.heap.FunFrames base (env::outer)) (hf:env.frame=some L) (hx:ExcNew s.heap e cls dx)
  (h:∀h',LeftX (frs (env::outer)) e e cls dx (rawInt L) s.heap h'→Q () { s with heap:=h' }):wpAny M A (noteFrame (.ref e) env) Q E s:=by
 obtain⟨oe,vs,he,hc,hdx,hd,h1⟩:=hx
 subst hc hdx
 unfold noteFrame
 simp only[hf]
 refine wpAny_bind (wpAny_field he hd h1 ?_)
 rw[if_neg (by decide)]
 exact newEntryX hfr hl hf he hd (Array.getElem?_eq_some_iff.mp h1).1 h
theorem note_next {base:Heap}{env:Env}{outer:List Env}{L e T:Addr}{cls:Value}{dx:Option Addr}{Q:Unit→Shared→Prop}
  (hfr:A.frames=some (env::outer)) (hl:s.heap.FunFrames base (env::outer)) (hf:env.frame=some L) (hx:ExcIs s.heap e cls dx .none T)
  (h:∀h',LeftX (frs (env::outer)) e T cls dx (rawInt L) s.heap h'→Q () { s with heap:=h' }):wpAny M A (noteFrame (.ref e) env) Q E s:=by
 obtain⟨oe,vs,oT,ts,he,hc,hdx,hd,h1,hTe,hT,hdT,h3⟩:=hx
 subst hc hdx
 unfold noteFrame
 simp only[hf]
 refine wpAny_bind (wpAny_field he hd h1 ?_)
 rw[if_pos (show (Value.ref T != Value.none)=true from by simp)]
 refine wpAny_bind (wpAny_field hT hdT h3 ?_)
 rw[if_neg (show ¬((Value.none == rawInt L)=true) from by simp[rawInt])]
 refine wpAny_bind (wpAny_setField hT hdT (Array.getElem?_eq_some_iff.mp h3).1 ?_)
 have other:∀b,b≠T→(s.heap.update T (Obj.mapFields (·.setIfInBounds 3 Value.none))).get? b=s.heap.get? b:=fun b hb=>Heap.get?_update_other _ _ (Ne.symm hb)
 have noRecord:∀b o,s.heap.get? b=some o→(∀vs,o.data≠.fields vs)→b≠T:=fun b o hb hnf q=>by
  rw[q,hT]at hb;injection hb with hb;subst hb;exact hnf ts hdT
 have hT':=Heap.get?_update_self (Obj.mapFields (·.setIfInBounds 3 Value.none)) hT (Obj.isFreed_of_fields (Obj.data_mapFields hdT _))
 refine newEntryX (T0:=T) hfr (hl.of_keeps fun b o hb hnf=>⟨o,(other b (noRecord b o hb hnf)).trans hb,rfl⟩) hf ((other e (Ne.symm hTe)).trans he) hd (Array.getElem?_eq_some_iff.mp h1).1 fun h' x=>h h' ?_
 refine⟨fun b o hb hbe hbT hbo=>x.keep b o hb hbe hbT ((other b hbT).trans hbo),fun b o hb hbe hbT hbo=>x.slot b o hb hbe hbT ((other b hbT).trans hbo),fun b o hbo => ?_,?_⟩
 ·by_cases hb:b=T
  ·subst hb;exact x.there b _ hT'
  ·exact x.there b o ((other b hb).trans hbo)
 ·obtain⟨T',hn,y⟩:=x.exc
  exact⟨T',by rw[Heap.size_update]at hn;exact hn,y⟩
theorem flight_off {e T:Addr}{cls:Value}{dx:Option Addr}{fl:Value}{Q:Unit→Shared→Prop}(hx:ExcIs s.heap e cls dx fl T)
  (h:∀h',(∀b o,b≠T→s.heap.get? b=some o→h'.get? b=some o)→(∃o,h'.get? T=some o)→ExcIs h' e cls dx .none T→Q () { s with heap:=h' }):wpAny M A (setFlight (.ref e) none) Q E s:=by
 obtain⟨oe,vs,oT,ts,he,hc,hdx,hd,h1,hTe,hT,hdT,h3⟩:=hx
 unfold setFlight
 refine wpAny_bind (wpAny_field he hd h1 ?_)
 rw[if_pos (show (Value.ref T != Value.none)=true from by simp)]
 have hs:=(Array.getElem?_eq_some_iff.mp h3).1
 refine wpAny_setField hT hdT hs (h _ (fun b o hb hbo => ?_) ?_ ?_)
 ·rw[Heap.get?_update_other _ _ (Ne.symm hb)];exact hbo
 ·exact⟨_,Heap.get?_update_self _ hT (Obj.isFreed_of_fields (Obj.data_mapFields hdT _))⟩
 ·refine⟨oe,vs,_,_,?_,hc,hdx,hd,h1,hTe,Heap.get?_update_self _ hT (Obj.isFreed_of_fields (Obj.data_mapFields hdT _)),Obj.data_mapFields hdT _,?_⟩
  ·rw[Heap.get?_update_other _ _ hTe];exact he
  ·simp[hs]
theorem LeftX.off {fs:List Addr}{e T0 T:Addr}{cls:Value}{dx:Option Addr}{fl:Value}{h h1 h2:Heap}(x:LeftX fs e T0 cls dx fl h h1) (hT:h.objs.size≤T) (k:∀b o,b≠T→h1.get? b=some o→h2.get? b=some o)
  (hT2:∃o,h2.get? T=some o) (y:ExcIs h2 e cls dx .none T):LeftX fs e T0 cls dx .none h h2:=by
 have ne:∀b o,h.get? b=some o→b≠T:=fun b o e z=>by
  have:=Heap.lt_size e
  rw[z]at this
  exact absurd (Nat.lt_of_lt_of_le this hT) (Nat.lt_irrefl _)
 refine⟨fun b o hb hbe hb0 hbo=>k b o (ne b o hbo) (x.keep b o hb hbe hb0 hbo),fun b o hb hbe hb0 hbo => ?_,fun b o hbo => ?_,T,hT,y⟩
 ·obtain⟨sl,q⟩:=x.slot b o hb hbe hb0 hbo
  exact⟨sl,k b _ (ne b o hbo) q⟩
 ·obtain⟨o',q⟩:=x.there b o hbo
  exact⟨o',k b _ (ne b o hbo) q⟩
theorem leave_new {base:Heap}{env:Env}{outer:List Env}{L e:Addr}{cls:Value}{dx:Option Addr}{Q:Unit→Shared→Prop}
  (hfr:A.frames=some (env::outer)) (hl:s.heap.FunFrames base (env::outer)) (hf:env.frame=some L) (hx:ExcNew s.heap e cls dx)
  (h:∀h',LeftX (frs (env::outer)) e e cls dx .none s.heap h'→Q () { s with heap:=h' }):wpAny M A (leaving env (.ref e)) Q E s:=by
 unfold leaving
 refine wpAny_bind (note_new hfr hl hf hx fun h1 x => ?_)
 obtain⟨T,hT,y⟩:=x.exc
 exact flight_off (s:={ s with heap:=h1 }) y fun h2 k hT2 z=>h h2 (x.off hT k hT2 z)
theorem leave_next {base:Heap}{env:Env}{outer:List Env}{L e T0:Addr}{cls:Value}{dx:Option Addr}{Q:Unit→Shared→Prop}
  (hfr:A.frames=some (env::outer)) (hl:s.heap.FunFrames base (env::outer)) (hf:env.frame=some L) (hx:ExcIs s.heap e cls dx .none T0)
  (h:∀h',LeftX (frs (env::outer)) e T0 cls dx .none s.heap h'→Q () { s with heap:=h' }):wpAny M A (leaving env (.ref e)) Q E s:=by
 unfold leaving
 refine wpAny_bind (note_next hfr hl hf hx fun h1 x => ?_)
 obtain⟨T,hT,y⟩:=x.exc
 exact flight_off (s:={ s with heap:=h1 }) y fun h2 k hT2 z=>h h2 (x.off hT k hT2 z)
end
noncomputable def CXE (P:Program) (w:World):CXT:=fun outer H s E e s'=>∃(a T:Addr) (cls:Value) (dx:Option Addr) (H':Hp),e=.ref a∧s'.os=s.os∧AllBare s'.gens∧Un (frs outer) [] H H' s.heap s'.heap∧HOk P w H' s'.heap∧
 s.heap.get? a=none∧s.heap.get? T=none∧H' a=none∧H' T=none∧ExcIs s'.heap a cls dx .none T∧E cls dx H'
def ExcAt (X:Cx) (H:Hp) (h:Heap) (a:Addr) (cls:Value) (dx:Option Addr):Prop:=
 X.s₀.heap.get? a=none∧H a=none∧(ExcNew h a cls dx∨∃T,X.s₀.heap.get? T=none∧H T=none∧ExcIs h a cls dx .none T)
def Xe (X:Cx) (E:XK):Prop:=∀(pins:Lo) (σ:St) (H:Hp) (s:Shared) (a:Addr) (cls:Value) (dx:Option Addr),Inv X pins σ H s→ExcAt X H s.heap a cls dx→E cls dx H→X.xe (.ref a) s
theorem HOk.tracked {P:Program}{w:World}{H:Hp}{h h':Heap}(ok:HOk P w H h) (k:∀b o u,H b=some u→h.get? b=some o→h'.get? b=some o):HOk P w H h':=fun a o e=>
 (ok a o e).stay (fun b u hb q=>by
  rcases hb with z | z
  ·subst z;exact k b u o e q
  ·exact k b u _ z q) (fun _ q=>q) fun _ _ q=>q
theorem Un.left {X:Cx}{pins:Lo}{σ:St}{H:Hp}{s:Shared}{a T0:Addr}{cls:Value}{dx:Option Addr}{h':Heap}(I:Inv X pins σ H s) (hex:X.ex=[]) (hst:X.stack=X.env::X.outer) (hfr:X.env.frame=some X.env.locals)
  (ha:X.s₀.heap.get? a=none) (hT:X.s₀.heap.get? T0=none) (x:LeftX (frs (X.env::X.outer)) a T0 cls dx .none s.heap h'):Un X.fs [] X.H₀ H X.s₀.heap h':=by
 have hfs:frs (X.env::X.outer)=X.env.locals::X.fs:=by simp[frs,hfr]
 have nl:∀b o,X.s₀.heap.get? b=some o→b≠X.env.locals:=fun b o e z=>by
  have:=Heap.lt_size e
  rw[z]at this
  exact absurd (Nat.lt_of_lt_of_le this I.ok.above) (Nat.lt_irrefl _)
 have na:∀b o,X.s₀.heap.get? b=some o→b≠a:=fun b o e z=>by rw[z,ha]at e;cases e
 have nT:∀b o,X.s₀.heap.get? b=some o→b≠T0:=fun b o e z=>by rw[z,hT]at e;cases e
 have nx:∀b:Addr,b∉X.ex:=fun b=>by rw[hex];simp
 have B:=I.base
 have nfs:∀b o,X.s₀.heap.get? b=some o→b∉X.fs→b∉frs (X.env::X.outer):=fun b o e hb z=>by
  rw[hfs]at z
  rcases List.mem_cons.mp z with q | q
  ·exact nl b o e q
  ·exact hb q
 refine⟨fun b o e n hb _=>x.keep b o (nfs b o e hb) (na b o e) (nT b o e) (B.keep b o e n hb (nx b)),fun b o e n hb _ => ?_,fun b o e n _=>B.free b o e n (nx b),fun b o e _ => ?_,B.tups,B.frzs,B.tbls⟩
 ·obtain⟨sl,q⟩:=B.slot b o e n hb (nx b)
  obtain⟨sl2,q2⟩:=x.slot b _ (by rw[hfs];exact List.mem_cons_of_mem _ hb) (na b o e) (nT b o e) q
  exact⟨sl2,q2⟩
 ·obtain⟨o',q⟩:=B.there b o e (nx b)
  exact x.there b o' q
theorem xe_cx {P:Program}{w:World}{K:Wf}{mg:So}{base:Heap}{N:List Str}{qual:Str}{scope:Scope}{f:Addr}{cd:Value}{A:Around}{outer:List Env}{s₀:Shared}{H₀:Hp}{E₀:XK}:
  Xe (cxOf (CXE P w) P w K mg base N qual scope f cd A outer s₀ H₀ E₀) E₀:=by
 intro pins σ H s a cls dx I hx hE
 obtain⟨ha,hHa,hx⟩:=hx
 have hfr:(envOfC qual scope s₀.heap.objs.size f cd).frame=some s₀.heap.objs.size:=rfl
 have fin:∀(T0:Addr) (h':Heap),s₀.heap.get? T0=none→H T0=none→LeftX (frs (envOfC qual scope s₀.heap.objs.size f cd::outer)) a T0 cls dx .none s.heap h'→CXE P w outer H₀ s₀ E₀ (.ref a) { s with heap:=h' }:=by
  intro T0 h' hT0 hHT0 x
  obtain⟨T,hT,y⟩:=x.exc
  have hTn:s₀.heap.get? T=none:=by
   cases q:s₀.heap.get? T with
   | none=>rfl
   | some o=>exact absurd (Nat.lt_of_lt_of_le (Heap.lt_size q) (Nat.le_trans I.sz hT)) (Nat.lt_irrefl _)
  refine⟨a,T,cls,dx,H,rfl,I.os,I.bare,Un.left I rfl rfl rfl ha hT0 x,?_,ha,hTn,hHa,I.hok.fresh hT,y,hE⟩
  refine I.hok.tracked fun b o u hb q=>x.keep b o (fun z => ?_) (fun z=>by rw[z,hHa]at hb;cases hb) (fun z=>by rw[z,hHT0]at hb;cases hb) q
  have:=I.stkFree b z
  rw[this]at hb;cases hb
 rcases hx with hx | ⟨T0,hT0,hHT0,hx⟩
 ·exact leave_new (base:=base) I.ok.frames I.stack hfr hx fun h' x=>fin a h' ha hHa x
 ·exact leave_next (base:=base) I.ok.frames I.stack hfr hx fun h' x=>fin T0 h' hT0 hHT0 x
theorem passesE {X:Cx}{E:XK}(h:Xe X E) (hex:X.ex=[]:=by rfl):Passes (CXE X.prog X.w) X E:=by
 intro pins σ H s e s' I hx
 obtain⟨a,T,cls,dx,H',rfl,ho,hg,u,hok,ha,hT,hHa,hHT,y,hE⟩:=hx
 have I':Inv X pins σ H' s':=I.call' (ch:=[]) ho u hok hg fun b hb=>absurd hb (by simp)
 have old:∀b,s.heap.get? b=none→X.ex=[]→X.s₀.heap.get? b=none:=fun b hb hx=>by
  cases q:X.s₀.heap.get? b with
  | none=>rfl
  | some o=>
   obtain⟨o',q'⟩:=I.base.there b o q (by rw[hx];simp)
   rw[hb]at q';cases q'
 exact h pins σ H' s' a cls dx I' ⟨old a ha hex,hHa,.inr ⟨T,old T hT hex,hHT,y⟩⟩ hE
end L2
namespace L2
open PySem PySem.Spec PyProof.Rows
theorem ObjOk.there {P:Program}{w:World}{H:Hp}{h:Heap}{a:Addr}{o:HO}(x:ObjOk P w H h a o):∃ob,h.get? a=some ob:=by
 cases o with
 | lst xs=>obtain⟨_,_,_,_,e⟩:=x;exact⟨_,e⟩
 | tup xs=>obtain⟨_,_,_,o,e,_⟩:=x;exact⟨_,e⟩
 | dK kvs=>obtain⟨_,_,_,_,o,_,_,e,_⟩:=x;exact⟨_,e⟩
 | dT kvs=>obtain⟨_,_,_,_,o,_,_,e,_⟩:=x;exact⟨_,e⟩
 | set S n=>obtain⟨o,_,_,_,e,_⟩:=x;exact⟨_,e⟩
 | ins C dx fs=>obtain⟨_,_,_,e,_⟩:=x;exact⟨_,e⟩
 | own y=>obtain⟨_,e⟩:=x;exact⟨_,e⟩
 | xd fs=>obtain⟨_,⟨_,_,_,e,_⟩,_⟩:=x;exact⟨_,e⟩
 | rng lo hi=>obtain⟨_,_,_,e⟩:=x;exact⟨_,e⟩
 | frz ob u=>obtain⟨e,_⟩:=x;exact⟨_,e⟩
 | tbl ps=>exact⟨_,(show h.get? a=some _ from x)⟩
 | met f y=>exact⟨_,(show h.get? a=some _ from x)⟩
 | ext φ=>obtain⟨_,⟨_,e⟩,_⟩:=x;exact⟨_,e⟩
theorem own_obj {K:Wf}{h:Heap}{C:Addr}{bmB:List Value}{newId:String}(X:K.In h) (q:PySem.W.excIn K C bmB newId=true):
  ∃bm N nm q bs hdct sn sub ab col dd k0 k1 k2 k3 k5 mN,h.get? C=some (excClassObj nm q C N bs bm hdct sn sub ab col dd k0 k1 k2 k3 k5 newId)∧h.Ns N mN∧mN "__init__" = none∧OwnTail h bmB bm:=by
 unfold PySem.W.excIn at q
 split at q
 ·rename_i dd cd sl ho
  split at q
  ·rename_i C' bm k0 k1 k2 k3 n k5 hm hs
   simp only[Bool.and_eq_true,beq_iff_eq,Bool.not_eq_true']at q
   obtain⟨⟨⟨⟨⟨rfl,rfl⟩,hdel⟩,ht⟩,hok⟩,hni⟩:=q
   obtain⟨nm,bs,mro,ns,qn,hd,sn,sub,ab,col,del⟩:=cd
   dsimp only at hm hdel hok hni
   subst hm hdel
   have hsl:sl=#[k0,k1,k2,k3,some (.builtin n),k5]:=by
    obtain⟨l⟩:=sl
    simp only at hs
    rw[hs]
   subst hsl
   exact⟨bm,ns,nm,qn,bs,hd,sn,sub,ab,col,dd,k0,k1,k2,k3,k5,_,X _ _ ho,.of_isNs (PySem.W.isNs_of_in X hok),PySem.W.nsMap_none_of_in X hok hni,PySem.W.tail_of_in X ht⟩
  ·cases q
 ·cases q
section
variable {X:Cx}
def tRaise (C:Addr) (E:XK) (t:TA):TS:=fun _ σ H=>t σ H fun vs H1=>vs.length≤sizeLine∧E (.ref C) none H1
end
end L2
namespace L2
open PySem PySem.Spec PyProof.Rows PySem.W
set_option genInjectivity false in
structure XCls (K:Frag) (C:Addr):Prop where
 ga:findIn K (.ref C) "__getattribute__" = some (some (.builtin "BaseException.__getattribute__"))
 gn:findIn K (.ref C) "__getattr__" = some none
 cl:findIn K (.ref C) "__class__" = some (some (.builtin "object.__class__"))
 sg:specialIn K (.builtin "object.__class__") "__get__" = some (some (.builtin "getset_descriptor.__get__"))
 tk:takesIn K (.builtin "object.__class__")=some true
 mo:mroIn K C (.type "object")=some true
 mb:mroIn K C (.type "BaseException")=some true
section
variable {prog:Program}{w:World}{A:Around}{E:Vs}{s:Shared}{K:Frag}{x C:Addr}{ox:Obj}{od:Option Obj}{name:Str}
theorem xc_some {K:Frag}{C:Addr}{b:Value}{r:Bool}(e:mroIn K C b=some r):∃cd,clsIn K C=some cd:=by
 obtain⟨cd,a,_⟩:=Option.bind_eq_some_iff.mp e
 exact⟨cd,a⟩
theorem x_check {M:Model}{nameV:Value}{Q:Unit→Shared→Prop}(X:K.In s.heap) (c:XCls K C) (I:InstAt s.heap x ox C od) (q:Q () s):wpAny M A (checkBuiltinCall "BaseException.__getattribute__" ⟨[.ref x,nameV],[]⟩) Q E s:=
 @check_slot M A E s "BaseException.__getattribute__" "BaseException" "__getattribute__" (.ref x) [nameV] [] Q (by decide +kernel) (by decide +kernel) ((I.type).andThen (looks_mroIn X c.mb)) (F.args_bexc_ga _ _) q
theorem x_entry_value {v:Value}{tk:Tok}{Q:Fin→Shared→Prop}(X:K.In s.heap) (I:InstAt s.heap x ox C od) (hf:findObj K C od name=some (.value v)) (h:Q (.done (.ret v)) s):
  wpAny (model prog w) A (Builtin.«object.__getattribute__» ⟨[.ref x,.str name tk],[]⟩) Q E s:=by
 have L0:=I.type (M:=model prog w)
 have L1:=looks_find (M:=model prog w) X I hf
 unfold Builtin.«object.__getattribute__»
 refine wpAny_bind (wpAny_pure ?_)
 refine wpAny_bind (wpAny_pure ?_)
 refine wpAny_bind (L0.here (wpAny_bind (L1.here ?_)))
 exact wpAny_pure h
theorem x_entry_class {tk:Tok}{Q:Fin→Shared→Prop}(X:K.In s.heap) (c:XCls K C) (I:InstAt s.heap x ox C od) (h:Q (.done (.ret (.ref C))) s):
  wpAny (model prog w) A (Builtin.«object.__getattribute__» ⟨[.ref x,.str "__class__" tk],[]⟩) Q E s:=by
 obtain⟨cd,hc⟩:=xc_some c.mo
 have hf:findObj K C od "__class__" = some (.bind (.builtin "getset_descriptor.__get__") (.builtin "object.__class__")):=by
  unfold findObj
  rw[hc,c.cl]
  simp only[Option.bind_some]
  rw[c.sg]
  simp only[Option.bind_some]
  rw[c.tk]
  rfl
 have L0:=I.type (M:=model prog w)
 have L1:=looks_find (M:=model prog w) X I hf
 unfold Builtin.«object.__getattribute__»
 refine wpAny_bind (wpAny_pure ?_)
 refine wpAny_bind (wpAny_pure ?_)
 refine wpAny_bind (L0.here (wpAny_bind (L1.here ?_)))
 show wpAny _ _ (holding [_] (call _ [_,.ref x,.ref C]) >>= ret) _ _ _
 exact wpAny_bind (wpAny_holding (wpAny_call (class_get X I c.mo (wpAny_pure h))))
theorem bind_bexc (self:Value):bindSpecial (.builtin "BaseException.__getattribute__") self=pure (.builtin "BaseException.__getattribute__", [self]):=F.attr_ValueError.ga.bind self
theorem plain_bexc:plainId "BaseException.__getattribute__" = true:=F.attr_ValueError.ga.plain
theorem x_by {v nameV:Value}{fill expr:Bool}{Q:Vs}(X:K.In s.heap) (c:XCls K C) (I:InstAt s.heap x ox C od)
  (he:∀(A:Around) (E:Vs) (Q:Fin→Shared→Prop),Q (.done (.ret v)) s→wpAny (model prog w) A (Builtin.«object.__getattribute__» ⟨[.ref x,nameV],[]⟩) Q E s)
  (hv:handedIn v=true) (h:Q v s):wpAny (model prog w) A (getAttrBy (.ref x) nameV fill expr) Q E s:=by
 have L0:=I.type (M:=model prog w)
 have L1:=looks_findIn (M:=model prog w) X c.ga
 have L2:=looks_findIn (M:=model prog w) X c.gn
 unfold getAttrBy
 refine wpAny_holding (wpAny_bind (L0.here (wpAny_bind (L1.here ?_))))
 have hne:(onTheHeap (Value.ref C)&&Value.builtin "BaseException.__getattribute__" == Value.builtin "object.__getattribute__")=false:=by
  show (true&&_)=false
  decide +kernel
 show wpAny _ _ (if (onTheHeap (Value.ref C)&&Value.builtin "BaseException.__getattribute__" == Value.builtin "object.__getattribute__")=true then _ else getAttrByItsOwn _ _ _ _ _ _) _ _ _
 rw[hne,if_neg Bool.false_ne_true]
 unfold getAttrByItsOwn
 refine wpAny_bind ?_
 show wpAny _ _ (typeLookup (.ref C) "__getattr__") _ _ _
 refine L2.here ?_
 refine wpAny_bind (wpAny_attempt (wpAny_holding ?_))
 have hcg:callGetattribute (.ref x) nameV (.builtin "BaseException.__getattribute__") expr=boundAndCalled (.builtin "BaseException.__getattribute__") (.ref x) nameV:=by
  unfold callGetattribute
  rw[if_neg (by cases expr<;>decide)]
 rw[hcg]
 unfold boundAndCalled
 rw[bind_bexc]
 refine wpAny_bind (wpAny_pure ?_)
 refine wpAny_call (codeAny_call_builtin plain_bexc F.entry_bexc_ga (x_check X c I (he _ _ _ ?_)))
 show wpAny _ _ (handedOut v) _ _ _
 rw[handedOut_of hv]
 exact wpAny_pure h
theorem x_class {Q:Option Value→Shared→Prop}(X:K.In s.heap) (c:XCls K C) (I:InstAt s.heap x ox C od) (h:Q (some (.ref C)) { s with toks:=s.toks+1 }):wpAny (model prog w) A (getAttr? (.ref x) "__class__") Q E s:=by
 unfold getAttr? getAttrBy?
 refine wpAny_bind (wpAny_mkText (wpAny_bind (wpAny_attempt ?_)))
 exact x_by (s:={ s with toks:=s.toks+1 }) X c I (fun A E Q q=>x_entry_class (s:={ s with toks:=s.toks+1 }) X c I q) rfl (wpAny_pure h)
theorem x_attr {v:Value}{expr:Bool}{Q:Vs}(X:K.In s.heap) (c:XCls K C) (I:InstAt s.heap x ox C od) (hf:findObj K C od name=some (.value v)) (hv:handedIn v=true)
  (h:Q v { s with toks:=s.toks+1 }):wpAny (model prog w) A (getAttr (.ref x) name expr) Q E s:=by
 unfold getAttr
 refine wpAny_bind (wpAny_mkText ?_)
 exact x_by (s:={ s with toks:=s.toks+1 }) X c I (fun A E Q q=>x_entry_value (s:={ s with toks:=s.toks+1 }) X I hf q) hv h
theorem kitx_exc {ox:Obj}{od:Option Obj}(c:XCls K C):KitX K (.ref x) (.ref C) (fun h=>InstAt h x ox C od) where
 ty:=fun _ _ _ I=>I.type
 it:=fun _ _ X _=>by
  obtain⟨cdD,hcD⟩:=xc_some c.mo
  unfold clsIn at hcD
  split at hcD
  ·rename_i c' d' cd' sl' ho
   intro A' Q' E' s' k q
   unfold isType loadHead
   exact wpAny_bind (wpAny_loadPart (k _ _ (X _ _ ho)) (wpAny_pure q))
  ·cases hcD
 ne:=fun h tp dd its n sl X htp=>by
  obtain⟨cdD,hcD⟩:=xc_some c.mo
  refine Bool.eq_false_iff.mpr fun q => ?_
  have e:C=tp:=Value.ref.inj (beq_iff_eq.mp q)
  subst e
  unfold clsIn at hcD
  split at hcD
  ·rename_i c' d' cd' sl' ho
   have z:=(X _ _ ho).symm.trans htp
   cases z
  ·cases hcD
 ca:=fun X I k=>x_class X c I k
end
end L2
namespace L2
open PySem PySem.Spec PyProof.Rows
set_option genInjectivity false in
structure Catch (K:Wf) (B C:Addr):Prop where
 ty:PySem.W.instIn K (.ref B) (.type "tuple")=some false
 bb:PySem.W.mroIn K B (.type "BaseException")=some true
 sub:PySem.W.mroIn K C (.ref B)=some true
theorem isType_of {K:Wf}{M:Model}{h:Heap}{C:Addr}{cd:ClassData}(X:K.In h) (hc:PySem.W.clsIn K C=some cd):PySem.W.Looks M h (isType (.ref C)) true:=by
 unfold PySem.W.clsIn at hc
 split at hc
 ·rename_i c' d' cd' sl' ho
  intro A' Q' E' s' k q
  unfold isType loadHead
  exact wpAny_bind (wpAny_loadPart (k _ _ (X _ _ ho)) (wpAny_pure q))
 ·cases hc
theorem excMatches_in {K:Wf}{M:Model}{A:Around}{E:Vs}{s:Shared}{a B C:Addr}{ox:Obj}{od:Option Obj}{Q:Bool→Shared→Prop}(X:K.In s.heap) (I:PySem.W.InstAt s.heap a ox C od) (c:Catch K B C) (h:Q true s):
  wpAny M A (excMatches (.ref a) (.ref B)) Q E s:=by
 obtain⟨cd,hcd⟩:=xc_some c.bb
 have L0:=PySem.W.looks_instIn (M:=M) X c.ty
 have L1:=isType_of (M:=M) X hcd
 have L2:=PySem.W.looks_mroIn (M:=M) X c.bb
 have L3:=I.type (M:=M)
 have L4:=PySem.W.looks_mroIn (M:=M) X c.sub
 unfold excMatches
 refine wpAny_bind (L0.here ?_)
 simp only[Bool.false_eq_true,if_false]
 refine wpAny_bind (wpAny_pure ?_)
 rw[List.forIn_cons]
 refine wpAny_bind (wpAny_bind (wpAny_bind ?_))
 unfold isExcClass
 refine wpAny_bind (L1.here ?_)
 simp only[if_true]
 refine L2.here ?_
 simp only[Bool.not_true,Bool.false_eq_true,if_false]
 refine wpAny_pure ?_
 simp only[List.forIn_nil]
 refine wpAny_pure ?_
 refine wpAny_bind (L3.here ?_)
 rw[List.forIn_cons]
 refine wpAny_bind (wpAny_bind (wpAny_bind (L4.here ?_)))
 simp only[if_true]
 exact wpAny_pure (wpAny_pure (wpAny_pure h))
noncomputable abbrev Cx.hand (X:Cx) (a:Addr):Cx:={ X with A:=X.A.mark (some (.ref a)),calm:=false,xe:=fun _ _=>False }
theorem Cx.Ok.hand {X:Cx}(ok:X.Ok) (a:Addr):(X.hand a).Ok:=
 ⟨ok.mod,ok.kind,ok.glob,ok.blt,ok.above,ok.inj,ok.has,ok.cab,(fun z=>by cases z),ok.frames,ok.stk,ok.exf,ok.bs,ok.bsz,ok.noex,ok.exfs,ok.funs,ok.frf⟩
section
variable {X:Cx}{pins:Lo}{σ:St}{H:Hp}{s:Shared}{a:Addr}
theorem Inv.hand (I:Inv X pins σ H s) (a:Addr):Inv (X.hand a) pins σ H s:=⟨I.ok.hand a,I.os,I.bare,I.base,I.loc,I.cell,I.free,I.freeC,I.pin,I.hok,I.len⟩
theorem Inv.unhand (ok:X.Ok) (I:Inv (X.hand a) pins σ H s):Inv X pins σ H s:=⟨ok,I.os,I.bare,I.base,I.loc,I.cell,I.free,I.freeC,I.pin,I.hok,I.len⟩
end
noncomputable def XO (a C:Addr) (dx:Option Addr):HO:=.ext fun h=>∃ob vs,h.get? a=some ob∧ob.cls=.ref C∧ob.dict=dx∧ob.data=.fields vs
theorem XO.ok {P:Program}{w:World}{H:Hp}{h:Heap}{a C:Addr}{dx:Option Addr}{fl:Value}{T:Addr}(x:ExcIs h a (.ref C) dx fl T):ObjOk P w H h a (XO a C dx):=by
 obtain⟨oe,vs,oT,ts,he,hc,hdx,hd,_⟩:=x
 exact⟨⟨oe,vs,he,hc,hdx,hd⟩,⟨oe,he⟩,fun h1 h2 ⟨ob,ws,q,r⟩ k=>⟨ob,ws,k _ q,r⟩⟩
noncomputable abbrev XS:=St→XK
def XP (X:Cx) (pins:Lo) (E:XS) (e:Value) (s':Shared):Prop:=∃σ H s,Inv X pins σ H s∧CXE X.prog X.w X.stack H s (E σ) e s'
noncomputable abbrev TEX:=St→Hp→VK→XK→Prop
noncomputable abbrev TSX:=Ends→XS→St→Hp→Prop
def PEX (X:Cx) (e:Expr) (t:TEX):Prop:=∀(pins:Lo) (s:Shared) (σ:St) (H:Hp) (Q:VK) (E:XS),Inv X pins σ H s→t σ H Q (E σ)→
 wpAny (model X.prog X.w) X.A (eval e X.env) (EP X pins σ Q) (XP X pins E) s
def PSX (X:Cx) (st:Stmt) (t:TSX):Prop:=∀(pins:Lo) (s:Shared) (σ:St) (H:Hp) (D:Ends) (E:XS),Inv X pins σ H s→t D E σ H→
 wpAny (model X.prog X.w) X.A (exec st X.env) (SP X pins D) (XP X pins E) s
def PSsX (X:Cx) (st:List Stmt) (t:TSX):Prop:=∀(pins:Lo) (s:Shared) (σ:St) (H:Hp) (D:Ends) (E:XS),Inv X pins σ H s→t D E σ H→
 wpAny (model X.prog X.w) X.A (execs st X.env) (SP X pins D) (XP X pins E) s
section
variable {X:Cx}{k:Nat}{f C:Addr}{fd:FuncData}{ps:List Str}{sp:Sp}{dvs:List V}{ds:List Value}{x m:Str}{p pos apos:Pos}{e o:Expr}{es:List Expr}{ta:TE}{t:TA}
theorem runX {pins:Lo}{σ:St}{H:Hp}{s:Shared}{Q:VK}{E:XS}{us:List Value}{vs:List V}(F:FnOk X.prog X.w X.K X.mg X.base (CXE X.prog X.w) k f fd ps sp) (hr:Room k X.A) (hb:Binds X.K fd ps ds) (hd:Vals dvs ds)
  (I:Inv X pins σ H s) (r:Vals vs us) (h:sp (vs++dvs) H Q (E σ)):wpAny (model X.prog X.w) X.A (call (.ref f) us) (EP X pins σ Q) (XP X pins E) s:=by
 have r2:Vals (vs++dvs) (us++ds):=r.append hd
 have hl:(us++ds).length=ps.length:=by rw[←r2.length];exact F.len _ _ _ _ h
 refine wpAny_call (codeAny_mono (F.run X.A X.stack s H ⟨us,[]⟩ (us++ds) (vs++dvs) Q (E σ) hr I.env0 (hb s us I.kIn hl) r2 h) fun r s' hq => ?_)
 cases r with
 | error e=>exact⟨σ,H,s,I,hq⟩
 | ok fl=>
  cases fl with
  | ret u=>exact I.after hq
  | next=>exact False.elim hq
  | brk=>exact False.elim hq
  | cont=>exact False.elim hq
noncomputable def xCall (sp:Sp) (dvs:List V) (t:TA):TEX:=fun σ H Q E=>t σ H fun vs H1=>sp (vs++dvs) H1 Q E
noncomputable def xMeth (C:Addr) (m:Str) (sp:Sp) (dvs:List V) (ta:TE) (t:TA):TEX:=fun σ H Q E=>ta σ H fun x H1=>∃a dx fs,x=.ref a∧H1 a=some (.ins C dx fs)∧fs.lookup m=none∧
 t σ H1 fun vs H2=>sp (x::(vs++dvs)) H2 Q E
theorem noE {α:Type}{t:Sem α}{Q:α→Shared→Prop}{M:Model}{A:Around}{E:Vs}{s:Shared}(h:wpAny M A t Q (fun _ _=>False) s):wpAny M A t Q E s:=wpAny_mono h (fun _ _ q=>q) fun _ _ z=>False.elim z
theorem pex_call (F:FnOk X.prog X.w X.K X.mg X.base (CXE X.prog X.w) k f fd ps sp) (hr:Room k X.A) (hg:Gl X x) (hm:X.mg x=some (.ref f)) (hk:PySem.W.keepIn X.K (.ref f)=true) (hb:Binds X.K fd ps ds) (hd:Vals dvs ds)
  (ha:PA X.nox (e::es) t) (hdb:(x == ("__debug__" : Str))=false:=by decide) (he:starEach (e::es) X.env=(false,eval e X.env)::starEach es X.env:=by rfl) (hpl:(backTo pos (starEach es X.env)).any (·.1)=false:=by rfl):
  PEX X (.Call (.Name x p) (e::es) [] pos) (xCall sp dvs t):=by
 intro pins s σ H Q E I h
 refine wpAny_Call_Name_kw (ld_glob I hg hm ?_ hdb)
 refine PySem.W.callWith_K (h₀:=X.base) I.ok.mod.kin hk (noE (thn (ha pos pins s σ H _ (I.wish _) h) fun us s1 ⟨vs,H1,I1,r,q⟩=>⟨I1.kIn,?_⟩)) he hpl
 exact runX F hr hb hd I1.unwish r q
end
section
variable {X:Cx}{st:Stmt}{rest:List Stmt}{t:TS}{tx ux:TSX}{e:Expr}{te:TEX}{pos:Pos}
noncomputable def xDrop (te:TEX):TSX:=fun D E σ H=>te σ H (fun _ H1=>D.nx σ H1) (E σ)
noncomputable def xSet (i:Nat) (te:TEX):TSX:=fun D E σ H=>te σ H (fun v H1=>D.nx (σ.set i (some v)) H1) (E σ)
theorem psx_set {i:Nat}{x:Str}{pos':Pos}(hN:X.N.Nodup) (hi:X.N[i]?=some x) (hx:Loc X.env.scope x) (he:PEX X e te) (hs:swapsWith e (some (.Name x pos')) pos.line X.env=pure false:=by rfl) (hf:X.fn x=true∨X.env.scope.names.lookup x=some .local:=by first | exact .inl rfl | exact .inr rfl | assumption):
  PSX X (.Assign [.Name x pos'] e pos) (xSet i te):=by
 intro pins s σ H D E I h
 refine wpAny_Assign_Name (thn (he pins s σ H _ E I h) fun v s1 ⟨y,H1,I1,r1,q1⟩ => ?_) hs
 exact store_ok I1 hN hi hx r1 (fun s2 I2=>⟨_,H1,I2,q1⟩) hf
noncomputable def xRet (te:TEX):TSX:=fun D E σ H=>te σ H D.rt (E σ)
noncomputable def xOf (t:TS):TSX:=fun D _ σ H=>t D σ H
noncomputable def xSeq (t u:TSX):TSX:=fun D E σ H=>t { D with nx:=u D E } E σ H
theorem pssx_one (h1:PSX X st tx):PSsX X [st] tx:=by
 intro pins s σ H D E I h
 refine wpAny_execs_cons (thn (h1 pins s σ H D E I h) fun f s1 q => ?_)
 cases f with
 | next=>exact wpAny_execs_nil q
 | ret v=>exact q
 | brk=>exact q
 | cont=>exact q
end
set_option genInjectivity false in
structure Land (X:Cx) (H:Hp) (s:Shared) (a T:Addr) (cls:Value) (dx:Option Addr) (H':Hp) (s':Shared):Prop where
 os:s'.os=s.os
 bare:AllBare s'.gens
 un:Un (frs X.stack) [] H H' s.heap s'.heap
 hok:HOk X.prog X.w H' s'.heap
 fa:s.heap.get? a=none
 fT:s.heap.get? T=none
 na:H' a=none
 nT:H' T=none
 ex:ExcIs s'.heap a cls dx .none T
section
variable {X:Cx}{pins:Lo}{σ:St}{H H':Hp}{s s':Shared}{a T:Addr}{cls:Value}{dx:Option Addr}{M:Model}{A:Around}{E:Vs}
theorem Land.inv (L:Land X H s a T cls dx H' s') (I:Inv X pins σ H s):Inv X pins σ H' s':=I.call' (ch:=[]) L.os L.un L.hok L.bare fun b hb=>absurd hb (by simp)
theorem Land.left {h':Heap}(L:Land X H s a T cls dx H' s') (I:Inv X pins σ H s) (x:LeftX (frs X.stack) a T cls dx .none s'.heap h'):∃T',Land X H s a T' cls dx H' { s' with heap:=h' }:=by
 have J:=L.inv I
 have na:∀b o,s.heap.get? b=some o→b≠a:=fun b o e z=>by rw[z,L.fa]at e;cases e
 have nT:∀b o,s.heap.get? b=some o→b≠T:=fun b o e z=>by rw[z,L.fT]at e;cases e
 obtain⟨T',hT,y⟩:=x.exc
 have hT':s.heap.get? T'=none:=by
  cases q:s.heap.get? T' with
  | none=>rfl
  | some o=>
   obtain⟨o',q'⟩:=L.un.there T' o q (by simp)
   exact absurd (Nat.lt_of_lt_of_le (Heap.lt_size q') hT) (Nat.lt_irrefl _)
 refine⟨T',L.os,L.bare,⟨fun b o e n hb hx=>x.keep b o hb (na b o e) (nT b o e) (L.un.keep b o e n hb hx),fun b o e n hb hx => ?_,L.un.free,fun b o e hx => ?_,L.un.tups,L.un.frzs,L.un.tbls⟩,?_,L.fa,hT',L.na,L.hok.fresh hT,y⟩
 ·obtain⟨sl,q⟩:=L.un.slot b o e n hb hx
  obtain⟨sl2,q2⟩:=x.slot b _ hb (na b o e) (nT b o e) q
  exact⟨sl2,q2⟩
 ·obtain⟨o',q⟩:=L.un.there b o e hx
  exact x.there b o' q
 ·refine L.hok.tracked fun b o u hb q=>x.keep b o (fun z => ?_) (fun z=>by rw[z,L.na]at hb;cases hb) (fun z=>by rw[z,L.nT]at hb;cases hb) q
  have:=J.stkFree b z
  rw[this]at hb;cases hb
theorem Land.off {h':Heap}(L:Land X H s a T cls dx H' s') (k:∀b o,b≠T→s'.heap.get? b=some o→h'.get? b=some o) (hT:∃o,h'.get? T=some o) (y:ExcIs h' a cls dx .none T):Land X H s a T cls dx H' { s' with heap:=h' }:=by
 have nT:∀b o,s.heap.get? b=some o→b≠T:=fun b o e z=>by rw[z,L.fT]at e;cases e
 refine⟨L.os,L.bare,⟨fun b o e n hb hx=>k b o (nT b o e) (L.un.keep b o e n hb hx),fun b o e n hb hx => ?_,L.un.free,fun b o e hx => ?_,L.un.tups,L.un.frzs,L.un.tbls⟩,?_,L.fa,L.fT,L.na,L.nT,y⟩
 ·obtain⟨sl,q⟩:=L.un.slot b o e n hb hx
  exact⟨sl,k b _ (nT b o e) q⟩
 ·obtain⟨o',q⟩:=L.un.there b o e hx
  exact⟨o',k b o' (nT b o e) q⟩
 ·exact L.hok.tracked fun b o u hb q=>k b o (fun z=>by rw[z,L.nT]at hb;cases hb) q
theorem Land.track {C:Addr}(L:Land X H s a T (.ref C) dx H' s') (I:Inv X pins σ H s):Inv X pins σ (upd H' a (XO a C dx)) s':=by
 have na:∀b o,s.heap.get? b=some o→b≠a:=fun b o e z=>by rw[z,L.fa]at e;cases e
 have up:∀b u,H' b=some u→upd H' a (XO a C dx) b=some u:=fun b u q=>by rw[upd_ne (zz4 q L.na)];exact q
 refine I.call' (ch:=[]) L.os ⟨L.un.keep,L.un.slot,fun b o e n hx => ?_,L.un.there,fun b xs q=>up b _ (L.un.tups b xs q),fun b o u q=>up b _ (L.un.frzs b o u q),fun b ps q => ?_⟩ (fun b u q => ?_) L.bare fun b hb=>absurd hb (by simp)
 ·rw[upd_ne (na b o e)];exact L.un.free b o e n hx
 ·obtain⟨m,z⟩:=L.un.tbls b ps q
  exact⟨m,up b _ z⟩
 ·by_cases hb:b=a
  ·subst hb;rw[zz1]at q;cases q;exact XO.ok L.ex
  ·rw[upd_ne hb]at q
   exact (L.hok b u q).stay (fun c v _ q=>q) (fun c q=>up c _ q) fun c xs q=>up c _ q
def DxOk (dx:Option Addr) (H:Hp):Prop:=dx=none∨∃d fs,dx=some d∧H d=some (.xd fs)
theorem Land.inst {C:Addr}(L:Land X H s a T (.ref C) dx H' s') (hd:DxOk dx H'):∃ox od,PySem.W.InstAt s'.heap a ox C od:=by
 obtain⟨oe,vs,oT,ts,he,hc,hdx,hdt,_⟩:=L.ex
 rcases hd with e | ⟨d,fs,e,hd⟩
 ·refine⟨oe,none,he,hc,?_,?_⟩
  ·unfold PySem.W.notCls;rw[hdt]
  ·rw[hdx,e];trivial
 ·obtain⟨o,q⟩:=(L.hok d _ hd).there
  refine⟨oe,some o,he,hc,?_,?_⟩
  ·unfold PySem.W.notCls;rw[hdt]
  ·rw[hdx,e];exact q
theorem land_note {R:Shared→Prop}(hst:X.stack=X.env::X.outer) (hfr:X.env.frame=some X.env.locals) (L:Land X H s a T cls dx H' s') (I:Inv X pins σ H s)
  (h:∀T' s3,Land X H s a T' cls dx H' s3→R s3):wpAny M X.A (noteFrame (.ref a) X.env) (fun _ s2=>wpAny M X.A (setFlight (.ref a) none) (fun _ s3=>R s3) E s2) E s':=by
 have J:=L.inv I
 refine note_next (base:=X.base) (by rw[J.ok.frames,hst]) (by rw[←hst];exact J.stack) hfr L.ex fun h1 x => ?_
 obtain⟨T1,hT,y⟩:=x.exc
 refine flight_off (s:={ s' with heap:=h1 }) y fun h2 k hT2 z => ?_
 obtain⟨T2,L2⟩:=L.left (h':=h2) I (by rw[hst];exact x.off hT k hT2 z)
 exact h T2 _ L2
theorem name_gone {i:Nat}{n:Str}{pos:Pos}{Q:Unit→Shared→Prop}(I:Inv X pins σ H s) (hN:X.N.Nodup) (hi:X.N[i]?=some n) (hk:X.env.scope.names.lookup n=some .local) (h:∀s',Inv X pins (σ.set i none) H s'→Q () s'):
  wpAny M A (do bindName X.env n .none;unbindBehindTheSuite X.env n pos) Q E s:=by
 obtain⟨m,hn,hl⟩:=id I.loc
 have hcls:(X.env.scope.kind == .class || (X.env.scope.kind == .module&&X.env.locals != X.env.globals))=false:=by rw[I.ok.kind];rfl
 have hiσ:i<σ.length:=by rw[I.len];exact (List.getElem?_eq_some_iff.mp hi).1
 have cne:=I.cne
 refine wpAny_nameGoes_keeps hk hn hcls fun h' v hn' hs => ?_
 obtain⟨oL,_,_,hoL,_⟩:=id hn
 refine h _ ⟨I.ok,I.os,I.bare,⟨fun b o e n hb hx => ?_,fun b o e n hb hx => ?_,I.base.free,fun b o e hx => ?_,I.base.tups,I.base.frzs,I.base.tbls⟩,⟨_,hn',fun j y v' e1 e2 e3 => ?_⟩,fun y c e => ?_,I.free,I.freeC,fun p hp => ?_,fun b ob e => ?_,by simpa using I.len⟩
 ·exact (hs.2 b (Nat.ne_of_lt (Nat.lt_of_lt_of_le (Heap.lt_size e) I.ok.above))).trans (I.base.keep b o e n hb hx)
 ·obtain⟨sl,e1⟩:=I.base.slot b o e n hb hx
  exact⟨sl,(hs.2 b (Nat.ne_of_lt (Nat.lt_of_lt_of_le (Heap.lt_size e) I.ok.above))).trans e1⟩
 ·obtain⟨o',e1⟩:=I.base.there b o e hx
  exact⟨o',(hs.2 b (Nat.ne_of_lt (Nat.lt_of_lt_of_le (Heap.lt_size e) I.ok.above))).trans e1⟩
 ·by_cases hj:j=i
  ·subst hj
   rw[List.getElem?_set_self hiσ]at e2
   cases e2
  ·rw[List.getElem?_set_ne (Ne.symm hj)]at e2
   obtain⟨u',r',q⟩:=hl j y v' e1 e2 e3
   refine⟨u',r',?_⟩
   rcases q with ⟨k,e⟩ | ⟨k,c,e,z⟩
   ·refine .inl ⟨k,?_⟩
    have:y≠n:=fun e=>hj (nodup_ix hN e1 (e▸hi))
    simp[this,e]
   ·exact .inr ⟨k,c,e,z.sameBut hs (cne y c e)⟩
 ·obtain⟨w',z⟩:=I.cell y c e
  exact⟨w',z.sameBut hs (cne y c e)⟩
 ·obtain⟨e,n,ne,nf,d⟩:=I.pin p hp
  exact⟨(hs.2 p.1 ne).trans e,n,ne,nf,d⟩
 ·refine (I.hok b ob e).stay (fun c w' hc q=>(hs.2 c ?_).trans q) (fun _ q=>q) fun _ _ q=>q
  rintro rfl
  have fr:=I.free
  rcases hc with rfl | hc
  ·rw[fr]at e;cases e
  ·rw[fr]at hc;cases hc
end
noncomputable def un1 (i:Nat) (D:Ends):Ends:={ nx:=fun σ H=>D.nx (σ.set i none) H,rt:=D.rt,bk:=fun σ H=>D.bk (σ.set i none) H,ct:=fun σ H=>D.ct (σ.set i none) H }
def tTryAs (K:Wf) (B:Addr) (i:Nat) (tb:TSX) (th:TS):TS:=fun D σ H=>
 tb D (fun σ' cls dx H'=>∃C,cls=.ref C∧Catch K B C∧DxOk dx H'∧∀a,H' a=none→th (un1 i D) (σ'.set i (some (.ref a))) (upd H' a (XO a C dx))) σ H
def tTry0 (K:Wf) (B:Addr) (tb:TSX) (th:TS):TS:=fun D σ H=>
 tb D (fun σ' cls dx H'=>∃C,cls=.ref C∧Catch K B C∧DxOk dx H'∧th D σ' H') σ H
section
variable {X:Cx}{body suite:List Stmt}{b₀:Stmt}{x n:Str}{B:Addr}{i:Nat}{np hpos pos:Pos}{tb:TSX}{th:TS}
theorem ps_tryAs (hst:X.stack=X.env::X.outer) (hfr:X.env.frame=some X.env.locals) (hN:X.N.Nodup) (hi:X.N[i]?=some n) (hlo:X.env.scope.names.lookup n=some .local) (hg:Gl X x) (hm:X.mg x=some (.ref B)) (hb:PSsX X body tb)
  (hs:∀a,PSs (X.hand a) (b₀::suite) th) (hd:(x == ("__debug__" : Str))=false:=by decide):PS X (.Try body [.ExceptHandler (some (.Name x np)) (some n) (b₀::suite) hpos] [] [] pos) (tTryAs X.K B i tb th):=by
 intro pins s σ H D I h
 refine wpAny_Try_except (wpAny_mono (hb pins s σ H D _ I h) (fun f s1 q => ?_) fun e s1 hx => ?_)
 ·cases f with
  | next=>exact wpAny_execs_nil q
  | ret v=>exact q
  | brk=>exact q
  | cont=>exact q
 ·obtain⟨σ1,H1,s2,I1,a,T,cls,dx,H',rfl,ho,hg',u,hok,ha,hT,hHa,hHT,y,C,rfl,hcat,hdx,hth⟩:=hx
  have L:Land X H1 s2 a T (.ref C) dx H' s1:=⟨ho,hg',u,hok,ha,hT,hHa,hHT,y⟩
  refine land_note hst hfr L I1 fun T3 s3 L3 => ?_
  have J:=L3.inv I1
  obtain⟨ox,od,ins⟩:=L3.inst hdx
  refine wpAny_handleBy_cons (codeAny_handlers_test (ld_glob (X:=X.hand a) (J.hand a) hg hm ?_ hd)) (by intro q;cases q)
  refine excMatches_in J.kIn ins hcat ?_
  refine codeAny_handlers_suite_as ?_
  refine flight_off L3.ex fun h4 k4 hT4 y4 => ?_
  have J4:=(L3.off k4 hT4 y4).track I1
  refine store_ok (X:=X.hand a) (J4.hand a) hN hi (.inl hlo) (v:=.ref a) rfl (fun s5 I5 => ?_) (.inr hlo)
  refine noE (thn (hs a pins s5 _ _ (un1 i D) I5 (hth a hHa)) fun f s6 q => ?_)
  have ok:=I.ok
  cases f with
  | next=>
   obtain⟨σ',H2,I6,q⟩:=q
   exact name_gone (I6.unhand ok) hN hi hlo fun s7 I7=>⟨_,H2,I7,q⟩
  | brk=>
   obtain⟨σ',H2,I6,q⟩:=q
   exact name_gone (I6.unhand ok) hN hi hlo fun s7 I7=>⟨_,H2,I7,q⟩
  | cont=>
   obtain⟨σ',H2,I6,q⟩:=q
   exact name_gone (I6.unhand ok) hN hi hlo fun s7 I7=>⟨_,H2,I7,q⟩
  | ret v=>
   obtain⟨v',σ',H2,I6,r,q⟩:=q
   exact name_gone (I6.unhand ok) hN hi hlo fun s7 I7=>⟨v',_,H2,I7,r,q⟩
theorem ps_tryAsK {K:Wf}(e:X.K=K) (hst:X.stack=X.env::X.outer) (hfr:X.env.frame=some X.env.locals) (hN:X.N.Nodup) (hi:X.N[i]?=some n) (hlo:X.env.scope.names.lookup n=some .local) (hg:Gl X x) (hm:X.mg x=some (.ref B)) (hb:PSsX X body tb)
  (hs:∀a,PSs (X.hand a) (b₀::suite) th) (hd:(x == ("__debug__" : Str))=false:=by decide):PS X (.Try body [.ExceptHandler (some (.Name x np)) (some n) (b₀::suite) hpos] [] [] pos) (tTryAs K B i tb th):=e▸ps_tryAs hst hfr hN hi hlo hg hm hb hs hd
end
end L2
namespace L2
open PySem PySem.Spec PyProof.Rows
section
variable {X:Cx}
def Sg (z:Str):Prop:=∀c∈z.cps.toList,c<16 ^ 8
def tRepr (t:TE):TE:=fun σ H Q=>t σ H fun x H1=>∃z,x=.str z∧(reprText z).length≤sizeLine∧Q (.str (reprText z)) H1
theorem pe_repr {e:Expr}{t:TE}{pos:Pos}(he:PE X e t):PE X (.FormattedValue e 114 none pos) (tRepr t):=by
 intro pins s σ H Q I h
 refine wpAny_FormattedValue_repr (thn (he pins s σ H _ I h) fun v s1 ⟨x,H1,I1,r1,z,ez,hz,q⟩ => ?_)
 subst ez
 obtain⟨t',rfl⟩:=r1
 refine pyReprObj_str ?_ hz
 exact formatField_str (fun t'' tk=>⟨.str (reprText z),H1,I1.tok tk,⟨t'',rfl⟩,q⟩) hz
def tFmt (t:TE):TE:=fun σ H Q=>t σ H fun x H1=>(∃z,x=.str z∧z.length≤sizeLine∧Q (.str z) H1)∨∃i:Int,x=.int i∧i.natAbs.log2<1920∧Q (.str (toString i)) H1
noncomputable abbrev TJ:=Str→St→Hp→VK→Prop
def PJ (X:Cx) (es:List Expr) (t:TJ):Prop:=∀(acc:Str) (pins:Lo) (s:Shared) (σ:St) (H:Hp) (Q:VK),Inv X pins σ H s→t acc σ H Q→
 wpAny (model X.prog X.w) X.A (joinParts acc (evalEach es X.env)) (EP X pins σ Q) X.xe s
noncomputable def jNil:TJ:=fun acc _ H Q=>acc.length≤sizeLine∧Q (.str acc) H
noncomputable def jCons (t:TE) (u:TJ):TJ:=fun acc σ H Q=>t σ H fun x H1=>∃y,x=.str y∧(acc++y).length≤sizeLine∧u (acc++y) σ H1 Q
theorem pj_nil:PJ X [] jNil:=fun acc pins s σ H Q I h=>joinParts_nilE (joinParts_nil ⟨.str acc,H,I.tok _,⟨_,rfl⟩,h.2⟩ h.1)
theorem pj_cons {e:Expr}{es:List Expr}{t:TE}{u:TJ}(he:PE X e t) (hr:PJ X es u):PJ X (e::es) (jCons t u):=by
 intro acc pins s σ H Q I h
 refine joinParts_consE (joinParts_cons (thn (he pins s σ H _ I h) fun v s1 ⟨x,H1,I1,r1,y,ey,hy,q⟩ => ?_))
 subst ey
 obtain⟨t',rfl⟩:=r1
 exact⟨hy,hr (acc++y) pins s1 σ H1 Q I1 q⟩
def tJoined (t:TJ):TE:=fun σ H Q=>t Str.empty σ H Q
theorem pe_joined {v₁ v₂:Expr}{rest:List Expr}{pos:Pos}{t:TJ}(h:PJ X (v₁::v₂::rest) t):PE X (.JoinedStr (v₁::v₂::rest) pos) (tJoined t):=
 fun pins s σ H Q I hw=>JoinedStr_many (h Str.empty pins s σ H Q I hw)
noncomputable def rJoin (K:Wf):V→List V→Hp→VK→Prop:=fun x vs H Q=>∃z a zs,x=.str z∧vs=[.ref a]∧SqL K H a (zs.map V.str)∧JoinOk z zs=true∧Q (.str (Txt.join z zs)) H
def TyX (K:Wf) (H:Hp) (x:V) (t:Value):Prop:=TyOf K H x t∨∃a C dx,x=.ref a∧t=.ref C∧H a=some (XO a C dx)∧DxOk dx H∧XCls K C
noncomputable def vOf:V→Value
 | .ref a=>.ref a
 | .ty n=>.type n
 | _=>.none
noncomputable def isCl:V→Bool
 | .ref _=>true
 | .ty _=>true
 | _=>false
theorem xo_inst {pins:Lo}{σ:St}{H:Hp}{s:Shared}{a C:Addr}{dx:Option Addr}(I:Inv X pins σ H s) (e:H a=some (XO a C dx)) (hd:DxOk dx H):∃ox od,PySem.W.InstAt s.heap a ox C od:=by
 obtain⟨⟨ob,vs,he,hc,hdx,hdt⟩,_⟩:=I.hok a _ e
 rcases hd with e | ⟨d,fs,e,hd⟩
 ·refine⟨ob,none,he,hc,?_,?_⟩
  ·unfold PySem.W.notCls;rw[hdt]
  ·rw[hdx,e];trivial
 ·obtain⟨o,q⟩:=(I.hok d _ hd).there
  refine⟨ob,some o,he,hc,?_,?_⟩
  ·unfold PySem.W.notCls;rw[hdt]
  ·rw[hdx,e];exact q
noncomputable def rIsx (K:Wf):List V→Hp→VK→Prop:=fun xs H Q=>∃x c t b,xs=[x,c]∧isCl c=true∧TyX K H x t∧PySem.W.kitOne K t (vOf c)=some b∧Q (.bl b) H
theorem vOf_rel {c:V}{u:Value}(h:isCl c=true) (r:RelV c u):u=vOf c:=by
 cases c<;>first | exact r | cases h
theorem call_isx:CallR X (.builtin "isinstance") (rIsx X.K):=by
 intro pins s σ H xs us Q I r h
 obtain⟨x,c,t,b,rfl,hc,ty,e,q⟩:=h
 obtain⟨u,u2,rfl,ru,ru2⟩:=vals2 r
 have e2:=vOf_rel hc ru2
 subst e2
 rcases ty with ty | ⟨a,C,dx,rfl,rfl,ha,hd,xc⟩
 ·exact isinst_ok I ru ty e fun tk=>⟨.bl b,H,I.tok tk,rfl,q⟩
 ·cases ru
  obtain⟨ox,od,J⟩:=xo_inst I ha hd
  exact PySem.W.kia_one (kitx_exc xc) I.kIn J e (fun z=>nomatch z) fun tk=>⟨.bl b,H,I.tok tk,rfl,q⟩
noncomputable def rIst (K:Wf):List V→Hp→VK→Prop:=fun xs H Q=>∃x tp cs t b,xs=[x,.ref tp]∧H tp=some (.tup cs)∧cs.all isCl=true∧TyX K H x t∧PySem.W.kitAny K t (cs.map vOf)=some b∧Q (.bl b) H
theorem zz17 {K:Wf}(e:X.K=K):CallR X (.builtin "isinstance") (rIsx K):=e▸call_isx
end
section
variable {P:Program}{w:World}{K:Wf}{mg:So}{base:Heap}
theorem Fun.okE {x qual:Str}{st:Stmt}{f:Addr}{fd:FuncData}{N ps:List Str}{k:Nat}{sp:Sp}(F:Fun K x qual st f fd) (S:FnScope N ps (defScope st)) (len:∀vs H Q E,sp vs H Q E→vs.length=ps.length)
  (hbody:∀(cdv:Value) (A:Around) (outer:List Env) (s:Shared) (H:Hp) (vs:List V) (Q:VK) (E:XK),Room k (A.deeper (envOfC qual (defScope st) s.heap.objs.size f cdv))→sp vs H Q E→
   ∃t,PSs (cxOf (CXE P w) P w K mg base N qual (defScope st) f cdv A outer s H E) (defBody st) t∧t { nx:=fun _ H'=>Q .non H',rt:=Q } (start N vs) H):FnOk P w K mg base (CXE P w) (k+1) f fd ps sp:=by
 obtain⟨oc,od,kV,doc,pm,an,cdv,ct,osl,rfl,lk,hcd⟩:=F.ex
 refine fn_of lk hcd S len fun A outer s H vs Q E hr hsp => ?_
 obtain⟨t,h,q⟩:=hbody cdv A outer s H vs Q E hr hsp
 exact⟨t,h,q⟩
end
end L2
namespace L2
end L2
namespace L2
open PySem PySem.Spec PyProof.Rows
theorem repr_le {z:Str}{n:Nat}(h:Sg z) (hz:z.length≤n):(reprText z).length≤10 * n+2:=Nat.le_trans (StrLaws.reprText_len z h) (by omega)
end L2
namespace L2
open PySem PySem.Spec PyProof.Rows
set_option genInjectivity false in
structure FillM where
 a:Addr
 at_:Int
 rule:Str
 name:Str
 add:Int
 soft:Bool
set_option genInjectivity false in
structure StM where
 t:Addr
 lw:Addr
 lf:Addr
 kind:Str
 step:Int
 words:List Int
 fills:List FillM
set_option genInjectivity false in
structure ToldM where
 a:Addr
 name:Str
 sort:Str
 st:Int
 off:Int
set_option genInjectivity false in
structure PcM where
 t:Addr
 ls:Addr
 ln:Addr
 name:Str
 sts:List StM
 nms:List ToldM
noncomputable abbrev FillM.v (f:FillM):V:=.ref f.a
noncomputable abbrev StM.v (s:StM):V:=.ref s.t
noncomputable abbrev ToldM.v (n:ToldM):V:=.ref n.a
noncomputable abbrev PcM.v (p:PcM):V:=.ref p.t
def FillM.At (H:Hp) (f:FillM):Prop:=H f.a=some (.tup [.int f.at_,.str f.rule,.str f.name,.int f.add,.bl f.soft])
def ToldM.At (H:Hp) (n:ToldM):Prop:=H n.a=some (.tup [.str n.name,.str n.sort,.int n.st,.int n.off])
set_option genInjectivity false in
structure StM.At (H:Hp) (s:StM):Prop where
 top:H s.t=some (.tup [.str s.kind,.int s.step,.ref s.lw,.ref s.lf])
 wd:H s.lw=some (.lst (s.words.map V.int))
 fl:H s.lf=some (.lst (s.fills.map FillM.v))
 fs:∀f∈s.fills,f.At H
set_option genInjectivity false in
structure PcM.At (H:Hp) (p:PcM):Prop where
 top:H p.t=some (.tup [.str p.name,.ref p.ls,.ref p.ln])
 sl:H p.ls=some (.lst (p.sts.map StM.v))
 nl:H p.ln=some (.lst (p.nms.map ToldM.v))
 ss:∀s∈p.sts,s.At H
 ns:∀n∈p.nms,n.At H
noncomputable def StM.lists (s:StM):List Addr:=[s.lw,s.lf]
noncomputable def PcM.lists (p:PcM):List Addr:=p.ls::p.ln::p.sts.flatMap StM.lists
noncomputable def listsOf (ps:List PcM):List Addr:=ps.flatMap PcM.lists
set_option genInjectivity false in
structure Pcs (H:Hp) (L:Addr) (ps:List PcM):Prop where
 top:H L=some (.lst (ps.map PcM.v))
 at_:∀p∈ps,p.At H
 nd:(L::listsOf ps).Nodup
theorem FillM.At.mono {H H':Hp}{f:FillM}(h:f.At H) (e:Same H H'):f.At H':=e _ _ h
theorem ToldM.At.mono {H H':Hp}{n:ToldM}(h:n.At H) (e:Same H H'):n.At H':=e _ _ h
theorem StM.At.mono {H H':Hp}{s:StM}(h:s.At H) (e:Same H H'):s.At H':=⟨e _ _ h.top,e _ _ h.wd,e _ _ h.fl,fun f hf=>(h.fs f hf).mono e⟩
theorem PcM.At.mono {H H':Hp}{p:PcM}(h:p.At H) (e:Same H H'):p.At H':=⟨e _ _ h.top,e _ _ h.sl,e _ _ h.nl,fun s hs=>(h.ss s hs).mono e,fun n hn=>(h.ns n hn).mono e⟩
theorem Pcs.mono {H H':Hp}{L:Addr}{ps:List PcM}(h:Pcs H L ps) (e:Same H H'):Pcs H' L ps:=⟨e _ _ h.top,fun p hp=>(h.at_ p hp).mono e,h.nd⟩
def But (H H':Hp) (l:Addr):Prop:=(∃xs,H l=some (.lst xs))∧∀b o,H b=some o→b≠l→H' b=some o
theorem But.upd {H:Hp}{l:Addr}{xs:List V}{o:HO}(h:H l=some (.lst xs)):But H (L2.upd H l o) l:=⟨⟨xs,h⟩,fun b u e n=>by rw[upd_ne n];exact e⟩
theorem But.tup {H H':Hp}{l a:Addr}{xs:List V}(b:But H H' l) (h:H a=some (.tup xs)):H' a=some (.tup xs):=by
 obtain⟨ys,hl⟩:=b.1
 exact b.2 _ _ h fun e=>by rw[e,hl]at h;cases h
theorem FillM.At.but {H H':Hp}{l:Addr}{f:FillM}(h:f.At H) (b:But H H' l):f.At H':=b.tup h
theorem ToldM.At.but {H H':Hp}{l:Addr}{n:ToldM}(h:n.At H) (b:But H H' l):n.At H':=b.tup h
theorem StM.At.but {H H':Hp}{l:Addr}{s:StM}(h:s.At H) (b:But H H' l) (n:l∉s.lists):s.At H':=
 ⟨b.tup h.top,b.2 _ _ h.wd fun e=>n (by simp[StM.lists,e]),b.2 _ _ h.fl fun e=>n (by simp[StM.lists,e]),fun f hf=>(h.fs f hf).but b⟩
theorem PcM.At.but {H H':Hp}{l:Addr}{p:PcM}(h:p.At H) (b:But H H' l) (n:l∉p.lists):p.At H':=
 ⟨b.tup h.top,b.2 _ _ h.sl fun e=>n (by simp[PcM.lists,e]),b.2 _ _ h.nl fun e=>n (by simp[PcM.lists,e]),
  fun s hs=>(h.ss s hs).but b fun z=>n (by simp only[PcM.lists,List.mem_cons];exact .inr (.inr (List.mem_flatMap.mpr ⟨s,hs,z⟩))),fun m hm=>(h.ns m hm).but b⟩
theorem StM.At.list {H:Hp}{s:StM}(h:s.At H) {b:Addr}(hb:b∈s.lists):∃xs,H b=some (.lst xs):=by
 simp only[StM.lists,List.mem_cons,List.not_mem_nil,or_false]at hb
 rcases hb with e | e
 ·rw[e];exact⟨_,h.wd⟩
 ·rw[e];exact⟨_,h.fl⟩
theorem PcM.At.list {H:Hp}{p:PcM}(h:p.At H) {b:Addr}(hb:b∈p.lists):∃xs,H b=some (.lst xs):=by
 simp only[PcM.lists,List.mem_cons]at hb
 rcases hb with e | e | e
 ·rw[e];exact⟨_,h.sl⟩
 ·rw[e];exact⟨_,h.nl⟩
 ·obtain⟨s,hs,z⟩:=List.mem_flatMap.mp e
  exact (h.ss s hs).list z
theorem Pcs.list {H:Hp}{L:Addr}{ps:List PcM}(h:Pcs H L ps) {b:Addr}(hb:b∈L::listsOf ps):∃xs,H b=some (.lst xs):=by
 rcases List.mem_cons.mp hb with e | e
 ·rw[e];exact⟨_,h.top⟩
 ·obtain⟨p,hp,z⟩:=List.mem_flatMap.mp e
  exact (h.at_ p hp).list z
theorem Pcs.fresh {H:Hp}{L:Addr}{ps:List PcM}(h:Pcs H L ps) {b:Addr}(hb:H b=none):b∉L::listsOf ps:=fun z=>by
 obtain⟨xs,e⟩:=h.list z
 rw[hb]at e;cases e
theorem zz9 (ps:List PcM) (p:PcM):listsOf (ps++[p])=listsOf ps++p.lists:=by simp[listsOf,List.flatMap_append]
theorem Pcs.apart {H:Hp}{L:Addr}{ps:List PcM}{p:PcM}(h:Pcs H L (ps++[p])):(∀q∈ps,∀b∈p.lists,b∉q.lists)∧p.lists.Nodup∧L∉p.lists∧∀q∈ps,L∉q.lists:=by
 have n:=h.nd
 rw[zz9]at n
 obtain⟨n1,n2⟩:=List.nodup_cons.mp n
 obtain⟨n3,n4,n5⟩:=List.nodup_append.mp n2
 refine⟨fun q hq b hb z=>n5 b (List.mem_flatMap.mpr ⟨q,hq,z⟩) b hb rfl,n4,fun z=>n1 (List.mem_append_right _ z),fun q hq z=>n1 (List.mem_append_left _ (List.mem_flatMap.mpr ⟨q,hq,z⟩))⟩
theorem Pcs.nil {H:Hp}{L:Addr}(h:H L=some (.lst [])):Pcs H L []:=⟨h,fun p hp=>absurd hp (by simp),by simp[listsOf]⟩
theorem Pcs.newPiece {H:Hp}{L t ls ln:Addr}{nm:Str}{ps:List PcM}(h:Pcs H L ps) (h1:H t=some (.tup [.str nm,.ref ls,.ref ln])) (h2:H ls=some (.lst [])) (h3:H ln=some (.lst [])) (n1:ls≠ln)
  (n2:ls∉L::listsOf ps) (n3:ln∉L::listsOf ps):Pcs (upd H L (.lst (ps.map PcM.v++[.ref t]))) L (ps++[⟨t,ls,ln,nm,[],[]⟩]):=by
 have b:But H (upd H L (.lst (ps.map PcM.v++[.ref t]))) L:=But.upd h.top
 have nL:=(List.nodup_cons.mp h.nd).1
 refine⟨by rw[zz1];simp,fun p hp => ?_,?_⟩
 ·rcases List.mem_append.mp hp with z | z
  ·exact (h.at_ p z).but b fun q=>nL (List.mem_flatMap.mpr ⟨p,z,q⟩)
  ·have e:=List.mem_singleton.mp z
   subst e
   refine⟨b.tup h1,b.2 _ _ h2 fun (e:ls=L)=>n2 (e▸List.mem_cons_self),b.2 _ _ h3 fun (e:ln=L)=>n3 (e▸List.mem_cons_self),fun s hs=>absurd hs (by simp),fun n hn=>absurd hn (by simp)⟩
 ·rw[zz9]
  show (L::(listsOf ps++[ls,ln])).Nodup
  rw[←List.cons_append]
  refine List.nodup_append.mpr ⟨h.nd,by simp[n1],fun x hx y hy e => ?_⟩
  subst e
  simp only[List.mem_cons,List.not_mem_nil,or_false]at hy
  rcases hy with e | e
  ·subst e;exact n2 hx
  ·subst e;exact n3 hx
theorem Pcs.last {H:Hp}{L l:Addr}{ps:List PcM}{p p':PcM}{o:HO}(h:Pcs H L (ps++[p])) (hl:l∈p.lists) (ht:p'.t=p.t) (hp:p'.At (upd H l o)) (hn:(L::listsOf (ps++[p'])).Nodup):Pcs (upd H l o) L (ps++[p']):=by
 obtain⟨a1,a2,a3,a4⟩:=h.apart
 obtain⟨xs,hx⟩:=(h.at_ p (by simp)).list hl
 have b:But H (upd H l o) l:=But.upd hx
 refine⟨?_,fun q hq => ?_,hn⟩
 ·rw[b.2 _ _ h.top fun e=>a3 (by rw[e];exact hl)]
  simp[PcM.v,ht]
 ·rcases List.mem_append.mp hq with z | z
  ·exact (h.at_ q (List.mem_append_left _ z)).but b (a1 q z l hl)
  ·rw[List.mem_singleton.mp z];exact hp
theorem Pcs.newStretch {H:Hp}{L t lw lf:Addr}{kind:Str}{step:Int}{ps:List PcM}{p:PcM}(h:Pcs H L (ps++[p])) (h1:H t=some (.tup [.str kind,.int step,.ref lw,.ref lf])) (h2:H lw=some (.lst [])) (h3:H lf=some (.lst []))
  (n1:lw≠lf) (n2:lw∉L::listsOf (ps++[p])) (n3:lf∉L::listsOf (ps++[p])):
  Pcs (upd H p.ls (.lst (p.sts.map StM.v++[.ref t]))) L (ps++[{ p with sts:=p.sts++[⟨t,lw,lf,kind,step,[],[]⟩] }]):=by
 have hp:=h.at_ p (by simp)
 obtain⟨a1,a2,a3,a4⟩:=h.apart
 have b:But H (upd H p.ls (.lst (p.sts.map StM.v++[.ref t]))) p.ls:=But.upd hp.sl
 have in1:∀x,x∈p.lists→x∈L::listsOf (ps++[p]):=fun x hx=>List.mem_cons_of_mem _ (by rw[zz9];exact List.mem_append_right _ hx)
 have hls:p.ls∈p.lists:=by simp[PcM.lists]
 have nd:p.ls≠p.ln∧p.ls∉p.sts.flatMap StM.lists:=by
  have:=a2
  simp only[PcM.lists,List.nodup_cons,List.mem_cons,not_or]at this
  exact this.1
 refine h.last hls rfl ⟨b.tup hp.top,by rw[zz1];simp,b.2 _ _ hp.nl (Ne.symm nd.1),fun s hs => ?_,fun n hn=>(hp.ns n hn).but b⟩ ?_
 ·rcases List.mem_append.mp hs with z | z
  ·exact (hp.ss s z).but b fun q=>nd.2 (List.mem_flatMap.mpr ⟨s,z,q⟩)
  ·have e:=List.mem_singleton.mp z
   subst e
   exact⟨b.tup h1,b.2 _ _ h2 fun (e:lw=p.ls)=>n2 (in1 _ (e▸hls)),b.2 _ _ h3 fun (e:lf=p.ls)=>n3 (in1 _ (e▸hls)),fun f hf=>absurd hf (by simp)⟩
 ·have e:L::listsOf (ps++[{ p with sts:=p.sts++[⟨t,lw,lf,kind,step,[],[]⟩] }])=(L::listsOf (ps++[p]))++[lw,lf]:=by
   rw[zz9,zz9]
   simp[PcM.lists,StM.lists,List.flatMap_append]
  rw[e]
  refine List.nodup_append.mpr ⟨h.nd,by simp[n1],fun x hx y hy e => ?_⟩
  subst e
  simp only[List.mem_cons,List.not_mem_nil,or_false]at hy
  rcases hy with e | e
  ·subst e;exact n2 hx
  ·subst e;exact n3 hx
theorem Pcs.newTold {H:Hp}{L:Addr}{ps:List PcM}{p:PcM}{n:ToldM}(h:Pcs H L (ps++[p])) (h1:n.At H):Pcs (upd H p.ln (.lst (p.nms.map ToldM.v++[n.v]))) L (ps++[{ p with nms:=p.nms++[n] }]):=by
 have hp:=h.at_ p (by simp)
 obtain⟨a1,a2,a3,a4⟩:=h.apart
 have b:But H (upd H p.ln (.lst (p.nms.map ToldM.v++[n.v]))) p.ln:=But.upd hp.nl
 have hln:p.ln∈p.lists:=by simp[PcM.lists]
 have nd:p.ls≠p.ln∧p.ln∉p.sts.flatMap StM.lists:=by
  have:=a2
  simp only[PcM.lists,List.nodup_cons,List.mem_cons,not_or]at this
  exact⟨this.1.1,this.2.1⟩
 refine h.last hln rfl ⟨b.tup hp.top,b.2 _ _ hp.sl nd.1,by rw[zz1];simp,fun s hs=>(hp.ss s hs).but b fun q=>nd.2 (List.mem_flatMap.mpr ⟨s,hs,q⟩),fun m hm => ?_⟩ ?_
 ·rcases List.mem_append.mp hm with z | z
  ·exact (hp.ns m z).but b
  ·rw[List.mem_singleton.mp z];exact h1.but b
 ·have:=h.nd
  rw[zz9]at this ⊢
  exact this
theorem Pcs.lastSt {H:Hp}{L:Addr}{ps:List PcM}{p:PcM}{ss:List StM}{s:StM}(h:Pcs H L (ps++[p])) (e:p.sts=ss++[s]):s.lw∈p.lists∧s.lf∈p.lists∧s.lw≠s.lf∧(∀b∈s.lists,b≠p.ls∧b≠p.ln∧∀r∈ss,b∉r.lists):=by
 obtain⟨a1,a2,a3,a4⟩:=h.apart
 have hs:s∈p.sts:=by rw[e];simp
 have m:∀b∈s.lists,b∈p.sts.flatMap StM.lists:=fun b hb=>List.mem_flatMap.mpr ⟨s,hs,hb⟩
 have m':∀b∈s.lists,b∈p.lists:=fun b hb=>by simp only[PcM.lists,List.mem_cons];exact .inr (.inr (m b hb))
 simp only[PcM.lists,List.nodup_cons,List.mem_cons,not_or]at a2
 obtain⟨⟨_,b1⟩,b2,b3⟩:=a2
 rw[e,List.flatMap_append]at b3
 obtain⟨_,c2,c3⟩:=List.nodup_append.mp b3
 have c2':s.lists.Nodup:=by simpa using c2
 refine⟨m' _ (by simp[StM.lists]),m' _ (by simp[StM.lists]),?_,fun b hb=>⟨fun z=>b1 (z▸m b hb),fun z=>b2 (z▸m b hb),fun r hr z=>c3 b (List.mem_flatMap.mpr ⟨r,hr,z⟩) b (by simpa using hb) rfl⟩⟩
 simpa [StM.lists] using c2'
theorem Pcs.newFill {H:Hp}{L:Addr}{ps:List PcM}{p:PcM}{ss:List StM}{s:StM}{f:FillM}(h:Pcs H L (ps++[p])) (e:p.sts=ss++[s]) (h1:f.At H):
  Pcs (upd H s.lf (.lst (s.fills.map FillM.v++[f.v]))) L (ps++[{ p with sts:=ss++[{ s with fills:=s.fills++[f] }] }]):=by
 have hp:=h.at_ p (by simp)
 obtain⟨m1,m2,n1,n2⟩:=h.lastSt e
 have hs:s.At H:=hp.ss s (by rw[e];simp)
 have b:But H (upd H s.lf (.lst (s.fills.map FillM.v++[f.v]))) s.lf:=But.upd hs.fl
 obtain⟨q1,q2,q3⟩:=n2 s.lf (by simp[StM.lists])
 refine h.last m2 rfl ⟨b.tup hp.top,?_,b.2 _ _ hp.nl (Ne.symm q2),fun r hr => ?_,fun n hn=>(hp.ns n hn).but b⟩ ?_
 ·rw[b.2 _ _ hp.sl (Ne.symm q1),e];simp[StM.v]
 ·rcases List.mem_append.mp hr with z | z
  ·exact (hp.ss r (by rw[e];exact List.mem_append_left _ z)).but b (q3 r z)
  ·have er:=List.mem_singleton.mp z
   subst er
   refine⟨b.tup hs.top,b.2 _ _ hs.wd n1,by rw[zz1];simp,fun g hg => ?_⟩
   rcases List.mem_append.mp hg with y | y
   ·exact (hs.fs g y).but b
   ·rw[List.mem_singleton.mp y];exact h1.but b
 ·have:=h.nd
  rw[zz9]at this ⊢
  simp only[PcM.lists,e,List.flatMap_append]at this ⊢
  exact this
theorem Pcs.newWord {H:Hp}{L:Addr}{ps:List PcM}{p:PcM}{ss:List StM}{s:StM}{i:Int}(h:Pcs H L (ps++[p])) (e:p.sts=ss++[s]):
  Pcs (upd H s.lw (.lst (s.words.map V.int++[.int i]))) L (ps++[{ p with sts:=ss++[{ s with words:=s.words++[i] }] }]):=by
 have hp:=h.at_ p (by simp)
 obtain⟨m1,m2,n1,n2⟩:=h.lastSt e
 have hs:s.At H:=hp.ss s (by rw[e];simp)
 have b:But H (upd H s.lw (.lst (s.words.map V.int++[.int i]))) s.lw:=But.upd hs.wd
 obtain⟨q1,q2,q3⟩:=n2 s.lw (by simp[StM.lists])
 refine h.last m1 rfl ⟨b.tup hp.top,?_,b.2 _ _ hp.nl (Ne.symm q2),fun r hr => ?_,fun n hn=>(hp.ns n hn).but b⟩ ?_
 ·rw[b.2 _ _ hp.sl (Ne.symm q1),e];simp[StM.v]
 ·rcases List.mem_append.mp hr with z | z
  ·exact (hp.ss r (by rw[e];exact List.mem_append_left _ z)).but b (q3 r z)
  ·have er:=List.mem_singleton.mp z
   subst er
   exact⟨b.tup hs.top,by rw[zz1];simp,b.2 _ _ hs.fl (Ne.symm n1),fun g hg=>(hs.fs g hg).but b⟩
 ·have:=h.nd
  rw[zz9]at this ⊢
  simp only[PcM.lists,e,List.flatMap_append]at this ⊢
  exact this
end L2
namespace L2
open PySem PySem.Spec PyProof.Rows
noncomputable def FillM.d (f:FillM):D:=.tup [.int f.at_,.str f.rule,.str f.name,.int f.add,.bl f.soft]
noncomputable def StM.d (s:StM):D:=.tup [.str s.kind,.int s.step,.lst (s.words.map D.int),.lst (s.fills.map FillM.d)]
noncomputable def ToldM.d (n:ToldM):D:=.tup [.str n.name,.str n.sort,.int n.st,.int n.off]
noncomputable def PcM.d (p:PcM):D:=.tup [.str p.name,.lst (p.sts.map StM.d),.lst (p.nms.map ToldM.d)]
theorem RepL.map {K:Wf}{H:Hp}{α:Type}{f:α→D}{g:α→V}:∀{xs:List α},(∀x∈xs,Rep K H (f x) (g x))→RepL K H (xs.map f) (xs.map g)
 | [],_=>by simp[RepL]
 | x::xs,h=>by
  simp only[List.map_cons,RepL]
  exact⟨_,_,rfl,h x (List.mem_cons_self ..),RepL.map fun y hy=>h y (List.mem_cons_of_mem _ hy)⟩
theorem FillM.At.rep {K:Wf}{H:Hp}{f:FillM}(h:f.At H):Rep K H f.d f.v:=by
 simp only[FillM.d,Rep]
 exact⟨_,_,rfl,SqT.of h,by simp[RepL,Rep]⟩
theorem ToldM.At.rep {K:Wf}{H:Hp}{n:ToldM}(h:n.At H):Rep K H n.d n.v:=by
 simp only[ToldM.d,Rep]
 exact⟨_,_,rfl,SqT.of h,by simp[RepL,Rep]⟩
theorem StM.At.rep {K:Wf}{H:Hp}{s:StM}(h:s.At H):Rep K H s.d s.v:=by
 simp only[StM.d,Rep]
 refine⟨_,_,rfl,SqT.of h.top,?_⟩
 simp only[RepL,Rep]
 exact⟨_,_,rfl,rfl,_,_,rfl,rfl,_,_,rfl,⟨_,_,rfl,SqL.of h.wd,RepL.ints _⟩,_,_,rfl,⟨_,_,rfl,SqL.of h.fl,RepL.map fun f hf=>(h.fs f hf).rep⟩,rfl⟩
theorem PcM.At.rep {K:Wf}{H:Hp}{p:PcM}(h:p.At H):Rep K H p.d p.v:=by
 simp only[PcM.d,Rep]
 refine⟨_,_,rfl,SqT.of h.top,?_⟩
 simp only[RepL,Rep]
 exact⟨_,_,rfl,rfl,_,_,rfl,⟨_,_,rfl,SqL.of h.sl,RepL.map fun s hs=>(h.ss s hs).rep⟩,_,_,rfl,⟨_,_,rfl,SqL.of h.nl,RepL.map fun n hn=>(h.ns n hn).rep⟩,rfl⟩
theorem depL_le {α:Type}{f:α→D}{n:Nat}:∀{xs:List α},(∀x∈xs,dep (f x)≤n)→depL (xs.map f)≤n
 | [],_=>by simp[depL]
 | x::xs,h=>by
  simp only[List.map_cons,depL]
  exact Nat.max_le.mpr ⟨h x (List.mem_cons_self ..),depL_le fun y hy=>h y (List.mem_cons_of_mem _ hy)⟩
theorem dep_fill (f:FillM):dep f.d≤1:=by simp[FillM.d,dep,depL]
theorem dep_told (n:ToldM):dep n.d≤1:=by simp[ToldM.d,dep,depL]
theorem dep_st (s:StM):dep s.d≤3:=by
 have h1:depL (s.words.map D.int)≤0:=depL_le fun x _=>by simp[dep]
 have h2:depL (s.fills.map FillM.d)≤1:=depL_le fun x _=>dep_fill x
 simp only[StM.d,dep,depL]
 omega
theorem dep_pc (p:PcM):dep p.d≤5:=by
 have h1:depL (p.sts.map StM.d)≤3:=depL_le fun x _=>dep_st x
 have h2:depL (p.nms.map ToldM.d)≤1:=depL_le fun x _=>dep_told x
 simp only[PcM.d,dep,depL]
 omega
theorem deqL_nil (ds:List D):deqL ds []=decide (ds=[]):=by cases ds<;>simp[deqL]
theorem Pcs.rep {K:Wf}{H:Hp}{L:Addr}{ps:List PcM}(h:Pcs H L ps):Rep K H (.lst (ps.map PcM.d)) (.ref L):=by
 simp only[Rep]
 exact⟨_,_,rfl,SqL.of h.top,RepL.map fun p hp=>(h.at_ p hp).rep⟩
noncomputable def StM.core (s:StM):Str×Int×List Int×List FillM:=(s.kind,s.step,s.words,s.fills)
theorem StM.d_core {s r:StM}(h:s.core=r.core):s.d=r.d:=by
 simp only[StM.core,Prod.mk.injEq]at h
 simp[StM.d,h]
theorem map_d_core:∀{ss rs:List StM},ss.map StM.core=rs.map StM.core→ss.map StM.d=rs.map StM.d
 | [],[],_=>rfl
 | [],_::_,h=>by simp at h
 | _::_,[],h=>by simp at h
 | s::ss,r::rs,h=>by
  simp only[List.map_cons,List.cons.injEq]at h ⊢
  exact⟨StM.d_core h.1,map_d_core h.2⟩
set_option genInjectivity false in
structure PcM.Copy (p q:PcM):Prop where
 name:q.name=p.name
 nms:q.nms=p.nms
 sts:q.sts.map StM.core=p.sts.map StM.core
theorem PcM.Copy.d {p q:PcM}(h:p.Copy q):q.d=p.d:=by simp[PcM.d,h.name,h.nms,map_d_core h.sts]
theorem pt_never {X:Cx}{e:Expr}:PT X e (fun _ _ _=>False):=fun _ _ _ _ _ _ h=>h.elim
end L2
namespace L2
open PySem PySem.Spec PyProof.Rows PySem.W
noncomputable abbrev VE:List Value:=[.type "ValueError", .type "Exception", .type "BaseException", .type "object"]
noncomputable def ownInit (K:Frag) (C fI:Addr):Bool:=
 match K.lookup C with
 | none=>false
 | some ob=>
  match ob.cls,ob.data,ob.slots.toList with
  | .type "type", .cls cd,[_,_,_,_,some (.builtin n),_]=>
   (match cd.mro with
    | .ref C'::bm=>C' == C&&(n == "ValueError.__new__" && (!cd.hasDel&&(tailIn K VE bm&&(nsOkIn K cd.ns&&(cd.hasDict&&nsIn K cd.ns "__init__" == some (some (.ref fI)))))))
    | _=>false)
  | _,_,_=>false
theorem ns_has {K:Frag}{h:Heap}{N:Addr}{m:So}{n:Str}{v:Value}(X:K.In h) (G:h.Ns N m) (e:nsIn K N n=some (some v)):m n=some v:=by
 obtain⟨o,es,ep,ho,hd,_,hf⟩:=G
 unfold nsIn at e
 split at e
 ·rename_i c d es' n' sl q
  have z:=X _ _ q
  rw[ho]at z
  cases z
  cases hd
  split at e
  ·rename_i en he
   cases e
   rw[←hf]
   unfold nsFind findBy
   rw[←Array.find?_toList,he]
   rfl
  ·split at e<;>cases e
 ·cases e
theorem init_obj {K:Frag}{h:Heap}{C fI:Addr}(X:K.In h) (q:ownInit K C fI=true):
  ∃bm N nm q bs sn sub ab col dd k0 k1 k2 k3 k5 mN,h.get? C=some (excClassObj nm q C N bs bm true sn sub ab col dd k0 k1 k2 k3 k5 "ValueError.__new__")∧h.Ns N mN∧mN "__init__" = some (.ref fI)∧OwnTail h VE bm:=by
 unfold ownInit at q
 split at q
 ·cases q
 ·rename_i ob ho
  split at q
  ·rename_i cd _ _ _ _ n _ hc hd hs
   split at q
   ·rename_i C' bm hm
    simp only[Bool.and_eq_true,beq_iff_eq,Bool.not_eq_true']at q
    obtain⟨rfl,rfl,hdel,ht,hok,hdi,hni⟩:=q
    obtain⟨oc,odi,oda,osl⟩:=ob
    dsimp only at hc hd hs
    subst hc hd
    obtain⟨nm,bs,mro,ns,qn,hdd,sn,sub,ab,col,del⟩:=cd
    dsimp only at hm hdel hok hni hdi
    subst hm hdel hdi
    obtain⟨l⟩:=osl
    simp only at hs
    subst hs
    refine⟨bm,ns,nm,qn,bs,sn,sub,ab,col,odi,_,_,_,_,_,_,X _ _ ho,.of_isNs (PySem.W.isNs_of_in X hok),?_,PySem.W.tail_of_in X ht⟩
    exact ns_has X (.of_isNs (PySem.W.isNs_of_in X hok)) hni
   ·cases q
  ·cases q
section
variable {prog:Program}{w:World}{A:Around}{E:Vs}{h:Heap}{g:Array GenState}{d:Drawn}{t:Nat}{os:OsState}
variable {nm q:Str}{C N:Addr}{bs bm bmB:List Value}{hdct:Bool}{sn:List Str}{sub:List Value}{ab:Bool}{col:Option Bool}{dd:Option Addr}{k0 k1 k2 k3 k5:Option Value}{B newId initId:String}
theorem type_call_init (F:ExcBaseFacts B newId initId bmB) (T:OwnTail h bmB bm) {mN:So}{rest:List Value}{fI:Addr}{oI:Obj}{Q:Fin→Shared→Prop}
  (hC:h.get? C=some (excClassObj nm q C N bs bm hdct sn sub ab col dd k0 k1 k2 k3 k5 newId)) (hn:h.Ns N mN) (hi:mN "__init__" = some (.ref fI))
  (hfI:h.get? fI=some oI) (hfc:oI.cls=.type "function")
  (hq:∀h' e,h.objs.size≤e→Heap.MadeExcOf h h' e (.ref C) rest→
   wpAny (model prog w) A (call (.ref fI) (.ref e::rest)) (fun r s'=>r=.none∧Q (.done (.ret (.ref e))) s') E ⟨h',g,d,t,os⟩) (hrest:rest.length≤sizeLine):
  wpAny (model prog w) A (Builtin.«type.__call__» ⟨.ref C::rest,[]⟩) Q E ⟨h,g,d,t,os⟩:=by
 repeat (first | with_reducible refine wpAny_loadPart_at hC ?_ | with_reducible refine wpAny_madeBy_exc hC ?_ | wp_step)
 refine codeAny_call_builtin_code (Code.quiet_builtin _ F.quiet) (wpAny_check_new_subT F T hC ?_)
 refine codeAny_exc_new_subT F T hC ?_ hrest
 show wpAny _ _ _ _ _ _
 have up:∀b o,h.get? b=some o→((h.push { cls:=.type "tuple", data:=.seq rest.toArray }).push { cls:=.ref C,data:=.fields #[.ref h.objs.size,.none,.none,.none,.bool false,.none] }).get? b=some o:=
  fun b o e=>Heap.get?_push_of_some _ (Heap.get?_push_of_some _ e)
 have hC₁:=up _ _ hC
 have hfI₁:=up _ _ hfI
 have hn₁:=hn.keeps up
 have hget:((h.push { cls:=.type "tuple", data:=.seq rest.toArray }).push
   { cls:=.ref C,data:=.fields #[.ref h.objs.size,.none,.none,.none,.bool false,.none] }).get? (h.objs.size+1)=some
   { cls:=.ref C,data:=.fields #[.ref h.objs.size,.none,.none,.none,.bool false,.none] }:=by heap_get
 have hcC:(Value.ref C::bm).contains (.ref C)=true:=by simp
 unfold isInstance
 repeat (first | with_reducible refine wpAny_loadPart_at hget ?_ | (with_reducible refine wpAny_isSubtype_exc hC₁ ?_;rw[hcC]) | wp_step)
 show wpAny _ _ (typeLookup (.ref C) _) _ _ _
 refine wpAny_typeLookup_tail hC₁ hn₁ (T.keeps up) F.mroIs F.init.lookup ?_
 rw[hi]
 refine wpAny_holding (wpAny_bind ?_)
 unfold bindSpecial
 refine wpAny_bind (wpAny_typeOf (T := "function") ⟨_,hfI₁,hfc⟩ ?_)
 rw[if_pos (by decide)]
 refine wpAny_pure (wpAny_bind (wpAny_mono (hq _ (h.objs.size+1) (Nat.le_succ _) ⟨up,Heap.get?_none_of_le (Nat.le_succ _),h.objs.size,hget,Heap.get?_none_of_le (Nat.le_refl _),?_⟩) (fun r s' hr => ?_) fun _ _ x=>x))
 ·exact Heap.get?_push_of_some _ (Heap.get?_push_at rfl rfl)
 ·obtain⟨rfl,hQ⟩:=hr
  wp_walk
  exact hQ
theorem call_init (F:ExcBaseFacts B newId initId bmB) (T:OwnTail h bmB bm) {mN:So}{rest:List Value}{fI:Addr}{oI:Obj}{Q:Vs}
  (hC:h.get? C=some (excClassObj nm q C N bs bm hdct sn sub ab col dd k0 k1 k2 k3 k5 newId)) (hn:h.Ns N mN) (hi:mN "__init__" = some (.ref fI))
  (hfI:h.get? fI=some oI) (hfc:oI.cls=.type "function")
  (hq:∀h' e,h.objs.size≤e→Heap.MadeExcOf h h' e (.ref C) rest→
   wpAny (model prog w) (A.under (.builtin "type.__call__" ⟨.ref C::rest,[]⟩)) (call (.ref fI) (.ref e::rest)) (fun r s'=>r=.none∧Q (.ref e) s') E ⟨h',g,d,t,os⟩) (hrest:rest.length≤sizeLine):
  wpAny (model prog w) A (call (.ref C) rest) Q E ⟨h,g,d,t,os⟩:=by
 have f1:=tc_lookup
 have f2:=tc_bind (.ref C)
 have hT:(⟨h,g,d,t,os⟩:Shared).TypeIs (.ref C) "type" := ⟨_,hC,rfl⟩
 refine wpAny_call (codeAny_of_tree ?_)
 show wpAny _ _ (callAny (.ref C) _) _ _ _
 repeat (any_goals (first | assumption | with_reducible refine wpAny_loadPart_at hC ?_ | wp_step))
 refine⟨rfl,?_⟩
 refine codeAny_call_builtin_at (Code.quiet_builtin _ (by decide +kernel)) entry_typeCall (wpAny_check_type_call_sub hC (type_call_init (hrest:=hrest) F T hC hn hi hfI hfc fun h' e hz hm => ?_))
 exact hq h' e hz hm
theorem base_init (F:ExcBaseFacts B newId initId bmB) (T:OwnTail h bmB bm) {e:Addr}{oe:Obj}{vs:Array Value}{v0:Value}{rest:List Value}{Q:Vs}
  (hC:h.get? C=some (excClassObj nm q C N bs bm hdct sn sub ab col dd k0 k1 k2 k3 k5 newId)) (he:h.get? e=some oe) (hcls:oe.cls=.ref C) (hd:oe.data=.fields vs) (h0:vs[0]?=some v0)
  (hq:∀h' T,(∀b o,b≠e→h.get? b=some o→h'.get? b=some o)→h'.get? e=some { oe with data:=.fields (vs.setIfInBounds 0 T) }→Q .none ⟨h',g,d,t,os⟩) (hrest:rest.length≤sizeLine):
  wpAny (model prog w) A (call (.builtin initId) (.ref e::rest)) Q E ⟨h,g,d,t,os⟩:=by
 refine wpAny_call (codeAny_call_builtin F.init.plain F.initEntry (wpAny_check_init_subT F T hC he hcls ?_))
 have he1:=Heap.get?_push_of_some { cls:=.type "tuple", data:=.seq rest.toArray } he
 have hsz:=(Array.getElem?_eq_some_iff.mp h0).1
 unfold Builtin.«BaseException.__init__»
 repeat (first | with_reducible refine wpAny_field he1 hd h0 ?_ | with_reducible refine wpAny_setField he1 hd hsz ?_ | wp_step)
 have hd3:(Obj.mapFields (·.setIfInBounds 0 (Value.ref h.objs.size)) oe).data=.fields (vs.setIfInBounds 0 (Value.ref h.objs.size)):=Obj.data_mapFields hd _
 have e3:=Heap.get?_update_self (Obj.mapFields (·.setIfInBounds 0 (Value.ref h.objs.size))) he1 (Obj.isFreed_of_fields hd3)
 have e4:Obj.mapFields (·.setIfInBounds 0 (Value.ref h.objs.size)) oe={ oe with data:=.fields (vs.setIfInBounds 0 (Value.ref h.objs.size)) }:=by
  obtain⟨oc,od,oda,osl⟩:=oe
  dsimp only at hd
  subst hd
  rfl
 rw[e4]at e3
 have fin:=hq _ (.ref h.objs.size) (fun b o hb ho=>by rw[Heap.get?_update_other _ _ (Ne.symm hb)];exact Heap.get?_push_of_some _ ho) e3
 cases v0<;>repeat (first | exact fin | (unfold letGo;done) | with_reducible exact wpAny_holding (wpAny_point (wpAny_pure ?_)) | wp_step)
end
noncomputable def onlyErr:List Value→Bool
 | .ref _::r=>onlyErr r
 | l=>l == VE
noncomputable def errIn (K:Frag) (C:Addr):Bool:=(clsIn K C).any fun cd=>cd.hasDict&&onlyErr cd.mro
theorem refuse_err (self:Value):∀{l:List Value},onlyErr l=true→refuseLoop self "__setattr__" l=pure ()
 | .ref c::r,e=>by rw[refuseLoop_ref];exact refuse_err self (l:=r) e
 | [],e=>by cases (show ([]:List Value)=VE from beq_iff_eq.mp e)
 | .type n::r,e=>by rw[show (Value.type n::r)=VE from beq_iff_eq.mp e];exact PySem.F.store_ValueError.passes self
 | .none::r,e=>nomatch (show (Value.none::r)=VE from beq_iff_eq.mp e)
 | .bool b::r,e=>nomatch (show (Value.bool b::r)=VE from beq_iff_eq.mp e)
 | .int b t::r,e=>nomatch (show (Value.int b t::r)=VE from beq_iff_eq.mp e)
 | .str b t::r,e=>nomatch (show (Value.str b t::r)=VE from beq_iff_eq.mp e)
 | .bytes b t::r,e=>nomatch (show (Value.bytes b t::r)=VE from beq_iff_eq.mp e)
 | .float b t::r,e=>nomatch (show (Value.float b t::r)=VE from beq_iff_eq.mp e)
 | .builtin b::r,e=>nomatch (show (Value.builtin b::r)=VE from beq_iff_eq.mp e)
theorem err_has:∀{l:List Value},onlyErr l=true→l.contains (.type "object")=true
 | .ref c::r,e=>by rw[List.contains_cons,err_has (l:=r) e,Bool.or_true]
 | [],e=>by cases (show ([]:List Value)=VE from beq_iff_eq.mp e)
 | .type n::r,e=>by rw[show (Value.type n::r)=VE from beq_iff_eq.mp e];decide
 | .none::r,e=>nomatch (show (Value.none::r)=VE from beq_iff_eq.mp e)
section
variable {prog:Program}{w:World}{A:Around}{E:Vs}{s:Shared}{K:Frag}{x C:Addr}{R:Result→Shared→Prop}
theorem osa_err {ox:Obj}{od:Option Obj}{name:Str}{tk:Tok}{v:Value}(X:K.In s.heap) (I:InstAt s.heap x ox C od) (hp:errIn K C=true) (hf:findIn K (.ref C) name=some none)
  (h:wpAny (model prog w) A.in1 (Builtin.ObjectAttr.storeInOwnDict (.ref x) (.ref C) (.str name tk) name v false)
   (fun fin s'=>match fin with | .done f=>R (.ok f) s' | .again c'=>c'.quiet=true∧codeAny (model prog w) A c' R s') (fun e s'=>R (.error e) s') s):
  codeAny (model prog w) A (.call (.builtin "object.__setattr__") ⟨[.ref x,.str name tk,v],[]⟩) R s:=by
 have SF:=PySem.F.store_object
 obtain⟨cd,hc,ho⟩:=any_some hp
 rw[Bool.and_eq_true]at ho
 obtain⟨_,ho⟩:=ho
 have ne:cd.mro.isEmpty=false:=by cases q:cd.mro with | nil=>rw[q]at ho;cases ho | cons _ _=>rfl
 have sub:Looks (model prog w) s.heap (isInstance (.ref x) (.type "object")) true:=I.type.andThen (looks_mroIn X (by unfold mroIn;rw[hc,Option.bind_some,if_neg (by rw[ne];decide),err_has ho]))
 refine codeAny_call_builtin SF.slot.plain SF.entry (@check_slot (model prog w) _ _ s "object.__setattr__" "object" "__setattr__" (.ref x) [.str name tk,v] [] _ SF.kind SF.split sub (SF.args (.ref x) (.str name tk) v) ?_)
 have hm:Looks (model prog w) s.heap (mroOf (.ref C)) cd.mro:=(looks_clsIn X hc).andThen .now
 rw[osa_eq,refuse_eq]
 refine wpAny_bind (wpAny_bind (I.type.here (wpAny_bind (hm.here ?_))))
 rw[refuse_err _ ho]
 refine wpAny_pure (wpAny_bind (I.type.here (wpAny_bind ((looks_findIn X hf).here (wpAny_bind (wpAny_pure ?_))))))
 exact h
theorem set_err0 {ox:Obj}{vs:Array Value}{name:Str}{v:Value}{Q:Unit→Shared→Prop}(X:K.In s.heap) (hx:s.heap.get? x=some ox) (hcl:ox.cls=.ref C) (hdn:ox.dict=none) (hda:ox.data=.fields vs) (hp:errIn K C=true)
  (hs:findIn K (.ref C) "__setattr__" = some (some (.builtin "object.__setattr__"))) (hf:findIn K (.ref C) name=some none)
  (h:∀h' tk,h'.get? x=some { ox with dict:=some s.heap.objs.size }→h'.Ns1 s.heap.objs.size (fun y=>if y=name then some v else none)→(∀b o,b≠x→s.heap.get? b=some o→h'.get? b=some o)→Q () { s with heap:=h',toks:=tk }):
  wpAny (model prog w) A (setAttr (.ref x) name v) Q E s:=by
 obtain⟨hh,g,d,t,os⟩:=s
 have J:InstAt hh x ox C none:=⟨hx,hcl,by unfold notCls;rw[hda],by rw[hdn];trivial⟩
 refine set_plain X J hs (osa_err (s:=⟨hh,g,d,t+1,os⟩) X J hp hf ?_)
 obtain⟨cd,hc,ho⟩:=any_some hp
 rw[Bool.and_eq_true]at ho
 refine wpAny_bind (wpAny_pure (wpAny_bind (wpAny_bind (wpAny_loadPart hx ?_))))
 rw[hcl]
 refine wpAny_bind (Looks.here (s:=⟨hh,g,d,t+1,os⟩) (looks_clsIn X hc) ?_)
 rw[ho.1,hdn,hda]
 rw[if_neg (by decide)]
 dsimp only
 rw[if_neg (by simp[typeHasDict])]
 have hx₁:(hh.push { cls:=.type "dict", data:=.dict #[] }).get? x=some ox:=Heap.get?_push_of_some _ hx
 have hxs:x≠hh.objs.size:=Nat.ne_of_lt (Heap.lt_size hx)
 refine wpAny_bind (wpAny_alloc' ?_)
 refine wpAny_bind (wpAny_update' hx₁ ?_)
 refine wpAny_pure ?_
 have hgd:((hh.push { cls:=.type "dict", data:=.dict #[] }).update x fun o=>{ cls:=o.cls,dict:=some hh.objs.size,data:=o.data,slots:=o.slots }).get? hh.objs.size
   = some { cls:=.type "dict", data:=.dict #[] }:=(Heap.get?_update_ne _ _ _ _ hxs.symm).trans (Heap.get?_push_at rfl rfl)
 have hnd:((hh.push { cls:=.type "dict", data:=.dict #[] }).update x fun o=>{ cls:=o.cls,dict:=some hh.objs.size,data:=o.data,slots:=o.slots }).Ns hh.objs.size (fun _=>none):=
  ⟨_,#[],_,hgd,rfl,fun e he=>absurd he (by simp),fun _=>rfl⟩
 show wpAny _ _ (Builtin.ObjectAttr.storeInDict hh.objs.size (.str name t) name v) _ _ _
 unfold Builtin.ObjectAttr.storeInDict Builtin.ObjectAttr.newKeyGuard
 refine wpAny_bind (wpAny_pure (wpAny_bind (wpAny_nsSet1 (Heap.Ns1.of_empty hnd) fun h' hn' hs => ?_)))
 obtain⟨oD,esD,epD,hoD,hdD,hcD⟩:=hn'.count (Within.cons name v Within.nil)
 refine wpAny_bind (wpAny_lookBehind hoD (by rw[hdD];exact pastItsLine_dict (Nat.le_trans hcD (by rw[List.length_cons,List.length_nil,sizeLine_eq];omega))) ?_)
 refine wpAny_pure (h h' _ ?_ hn' fun b o hb hbo => ?_)
 ·refine (hs.2 x hxs).trans (Heap.get?_update_self _ hx₁ ?_)
  obtain⟨oc,od,odt,osl⟩:=ox
  dsimp only at hda
  subst hda
  rfl
 ·exact (hs.2 b (Nat.ne_of_lt (Heap.lt_size hbo))).trans ((Heap.get?_update_ne _ _ _ _ hb).trans (Heap.get?_push_of_some _ hbo))
theorem set_err1 {ox:Obj}{dx:Addr}{mA:So}{vs:Array Value}{name:Str}{v:Value}{ns:List Str}{Q:Unit→Shared→Prop}(X:K.In s.heap) (hx:s.heap.get? x=some ox) (hcl:ox.cls=.ref C) (hdn:ox.dict=some dx) (hda:ox.data=.fields vs)
  (hns:s.heap.Ns1 dx mA) (hp:errIn K C=true) (hs:findIn K (.ref C) "__setattr__" = some (some (.builtin "object.__setattr__"))) (hf:findIn K (.ref C) name=some none) (hw:Within mA ns) (hsz:ns.length≤sizeLine)
  (h:∀h' tk,h'.Ns1 dx (fun y=>if y=name then some v else mA y)→Heap.SameBut dx s.heap h'→Q () { s with heap:=h',toks:=tk }):
  wpAny (model prog w) A (setAttr (.ref x) name v) Q E s:=by
 obtain⟨hh,g,d,t,os⟩:=s
 obtain⟨oD,_,_,hoD,_⟩:=id hns
 have J:InstAt hh x ox C (some oD):=⟨hx,hcl,by unfold notCls;rw[hda],by rw[hdn];exact hoD⟩
 refine set_plain X J hs (osa_err (s:=⟨hh,g,d,t+1,os⟩) X J hp hf ?_)
 obtain⟨cd,hc,ho⟩:=any_some hp
 rw[Bool.and_eq_true]at ho
 refine wpAny_bind (wpAny_pure (wpAny_bind (wpAny_bind (wpAny_loadPart hx ?_))))
 rw[hcl]
 refine wpAny_bind (Looks.here (s:=⟨hh,g,d,t+1,os⟩) (looks_clsIn X hc) ?_)
 rw[ho.1,hdn]
 rw[if_neg (by decide)]
 refine wpAny_pure ?_
 show wpAny _ _ (Builtin.ObjectAttr.storeInDict dx (.str name t) name v) _ _ _
 unfold Builtin.ObjectAttr.storeInDict Builtin.ObjectAttr.newKeyGuard
 refine wpAny_bind (wpAny_pure (wpAny_bind (wpAny_nsSet1 hns fun h' hn' hs => ?_)))
 obtain⟨oD,esD,epD,hoD,hdD,hcD⟩:=hn'.count (Within.cons name v hw)
 refine wpAny_bind (wpAny_lookBehind hoD (by rw[hdD];exact pastItsLine_dict (Nat.le_trans hcD (by rw[List.length_cons];omega))) ?_)
 exact wpAny_pure (h h' _ hn' hs)
end
end L2
namespace L2
open PySem PySem.Spec PyProof.Rows PySem.W
section
variable {M:Model}{A:Around}{E:Vs}{env:Env}
variable {nm q:Str}{C N:Addr}{bs bm:List Value}{hdct:Bool}{sn:List Str}{sub:List Value}{ab:Bool}{col:Option Bool}{dd:Option Addr}{k0 k1 k2 k3 k5:Option Value}{newId:String}
theorem raise_made {s:Shared}{x:Sem Value}{Q:Flow→Shared→Prop}(hbase:bm.contains (.type "BaseException")=true) (hh:A.handled=none)
  (h:wpAny M A x (fun v s₁=>∃e oe vs,v=.ref e∧s₁.heap.get? C=some (excClassObj nm q C N bs bm hdct sn sub ab col dd k0 k1 k2 k3 k5 newId)∧
   s₁.heap.get? e=some oe∧oe.cls=.ref C∧oe.data=.fields vs∧vs[1]?=some .none∧E (.ref e) s₁) E s):
  wpAny M A (raiseStmt env (some x) none) Q E s:=by
 have hcB:(Value.ref C::bm).contains (.type "BaseException")=true:=by rw[List.contains_cons,hbase,Bool.or_true]
 unfold raiseStmt
 refine wpAny_bind (wpAny_mono h (fun v s₁ h₁ => ?_) fun _ _ x=>x)
 obtain⟨e,oe,vs,rfl,hC,he,hcls,hd,h1,hE⟩:=h₁
 obtain⟨hp,g,d,tk,os⟩:=s₁
 obtain⟨oc,odi,oda,osl⟩:=oe
 dsimp only at hcls hd
 subst hcls hd
 repeat (first | with_reducible refine wpAny_loadPart_at he ?_ | with_reducible refine wpAny_loadPart_at hC ?_ | (with_reducible refine wpAny_isSubtype_exc hC ?_;rw[hcB]) | with_reducible refine wpAny_field he rfl h1 ?_ | wp_step)
 exact wpAny_raiseNew_none hh hE
end
section
variable {prog:Program}{w:World}{A:Around}{E:Vs}{s:Shared}{env:Env}
variable {nm q:Str}{C N:Addr}{bs bm bmB:List Value}{hdct:Bool}{sn:List Str}{sub:List Value}{ab:Bool}{col:Option Bool}{dd:Option Addr}{k0 k1 k2 k3 k5:Option Value}{B newId initId:String}
theorem raise_init (F:ExcBaseFacts B newId initId bmB) {mN:So}{x:Str}{np cpos pos:Pos}{args:List Expr}{fI:Addr}{oI:Obj}{Q:Flow→Shared→Prop}
  (hbase:bm.contains (.type "BaseException")=true) (hh:A.handled=none) (hplain:(backTo cpos (starEach args env)).any (·.1)=false) (hi:mN "__init__" = some (.ref fI)) (hfc:oI.cls=.type "function")
  (h:wpAny (model prog w) A (eval (.Name x np) env) (fun f s₁=>f=.ref C∧wpAny (model prog w) A (evalArgs (.ref C) true (backTo cpos (starEach args env)) [])
   (fun a s₂=>a.kw=[]∧a.pos.length≤sizeLine∧s₂.heap.get? C=some (excClassObj nm q C N bs bm hdct sn sub ab col dd k0 k1 k2 k3 k5 newId)∧s₂.heap.Ns N mN∧OwnTail s₂.heap bmB bm∧s₂.heap.get? fI=some oI∧
    ∀h' e,s₂.heap.objs.size≤e→Heap.MadeExcOf s₂.heap h' e (.ref C) a.pos→
     wpAny (model prog w) (A.under (.builtin "type.__call__" ⟨.ref C::a.pos,[]⟩)) (call (.ref fI) (.ref e::a.pos)) (fun r s'=>r=.none∧∃oe vs,s'.heap.get? C=some (excClassObj nm q C N bs bm hdct sn sub ab col dd k0 k1 k2 k3 k5 newId)∧
      s'.heap.get? e=some oe∧oe.cls=.ref C∧oe.data=.fields vs∧vs[1]?=some .none∧E (.ref e) s') E { s₂ with heap:=h' }) E s₁) E s):
  wpAny (model prog w) A (exec (.Raise (some (.Call (.Name x np) args [] cpos)) none pos) env) Q E s:=by
 rw[arm_exec_Raise]
 refine wpAny_bind (wpAny_standAt (raise_made (C:=C) (nm:=nm) (q:=q) (N:=N) (bs:=bs) (bm:=bm) (hdct:=hdct) (sn:=sn) (sub:=sub) (ab:=ab) (col:=col) (dd:=dd) (k0:=k0) (k1:=k1) (k2:=k2) (k3:=k3) (k5:=k5) (newId:=newId) hbase hh
  (wpAny_bind (wpAny_mono (wpAny_Call_ofName (wpAny_mono h (fun f s₁ h₁ => ?_) fun _ _ x=>x)) (fun v s₃ h₃=>wpAny_bind (wpAny_standAt (wpAny_pure h₃))) fun _ _ x=>x))))
 obtain⟨rfl,h₁⟩:=h₁
 unfold callWith
 refine wpAny_bind (wpAny_holding (wpAny_mono h₁ (fun a s₂ h₂=>wpAny_bind (wpAny_standAt ?_)) fun _ _ x=>x))
 obtain⟨apos,akw⟩:=a
 obtain⟨hkw,hlen,hC,hn,T,hfI,h₂⟩:=h₂
 obtain rfl:akw=[]:=hkw
 obtain⟨hp,g,d,tk,os⟩:=s₂
 simp only[hplain]
 refine wpAny_bind (wpAny_keeperOf_exc hC ?_)
 refine wpAny_bind (call_init (hrest:=hlen) F T hC hn hi hfI hfc fun h' e hz hm=>wpAny_mono (h₂ h' e hz hm) (fun r s' hr=>⟨hr.1,wpAny_bind (wpAny_holding (wpAny_point (wpAny_pure ?_)))⟩) fun _ _ x=>x)
 obtain⟨_,oe,vs,k1,k2,k3,k4,k5,k6⟩:=hr
 exact⟨e,oe,vs,rfl,k1,k2,k3,k4,k5,k6⟩
end
noncomputable def XN (a C:Addr) (dx:Option Addr):HO:=.ext fun h=>∃ob vs v0,h.get? a=some ob∧ob.cls=.ref C∧ob.dict=dx∧ob.data=.fields vs∧vs[0]?=some v0∧vs[1]?=some .none
noncomputable def XD (d:Addr) (fs:List (Str×V)):HO:=.ext fun h=>∃mA,h.Ns1 d mA∧(∀f,RelO (fs.lookup f) (mA f))∧PySem.Within mA (fs.map (·.1))
noncomputable def del (H:Hp) (a:Addr):Hp:=fun b=>if b=a then none else H b
theorem del_ne {H:Hp}{a b:Addr}(h:b≠a):del H a b=H b:=by unfold del;rw[if_neg h]
theorem del_same {H:Hp}{a:Addr}:del H a a=none:=by unfold del;rw[if_pos rfl]
theorem XN.get {P:Program}{w:World}{H:Hp}{h:Heap}{a C:Addr}{dx:Option Addr}(ok:HOk P w H h) (e:H a=some (XN a C dx)):∃ob vs v0,h.get? a=some ob∧ob.cls=.ref C∧ob.dict=dx∧ob.data=.fields vs∧vs[0]?=some v0∧vs[1]?=some .none:=(ok a _ e).1
theorem XD.get {P:Program}{w:World}{H:Hp}{h:Heap}{d:Addr}{fs:List (Str×V)}(ok:HOk P w H h) (e:H d=some (XD d fs)):∃mA,h.Ns1 d mA∧(∀f,RelO (fs.lookup f) (mA f))∧PySem.Within mA (fs.map (·.1)):=(ok d _ e).1
theorem XN.ok {P:Program}{w:World}{H:Hp}{h:Heap}{a C:Addr}{dx:Option Addr}(x:∃ob vs v0,h.get? a=some ob∧ob.cls=.ref C∧ob.dict=dx∧ob.data=.fields vs∧vs[0]?=some v0∧vs[1]?=some .none):ObjOk P w H h a (XN a C dx):=by
 obtain⟨ob,vs,v0,he,r⟩:=x
 exact⟨⟨ob,vs,v0,he,r⟩,⟨ob,he⟩,fun h1 h2 ⟨ob,ws,v0,q,r⟩ k=>⟨ob,ws,v0,k _ q,r⟩⟩
theorem XD.ok {P:Program}{w:World}{H:Hp}{h:Heap}{d:Addr}{fs:List (Str×V)}(x:∃mA,h.Ns1 d mA∧(∀f,RelO (fs.lookup f) (mA f))∧PySem.Within mA (fs.map (·.1))):ObjOk P w H h d (XD d fs):=by
 obtain⟨mA,n,r⟩:=x
 obtain⟨o,_,_,e,_⟩:=id n
 exact⟨⟨mA,n,r⟩,⟨o,e⟩,fun h1 h2 ⟨mA,n,r⟩ k=>⟨mA,n.at k,r⟩⟩
section
variable {X:Cx}{pins:Lo}{σ:St}{H:Hp}{s:Shared}{a C:Addr}{φ:Heap→Prop}
theorem Inv.untrack (I:Inv X pins σ H s) (e:H a=some (.ext φ)):Inv X pins σ (del H a) s:=by
 have ne:∀b u,H b=some u→(∀ψ,u≠.ext ψ)→b≠a:=fun b u q n z=>by rw[z,e]at q;exact n φ (Option.some.inj q).symm
 refine I.un (h':=s.heap) (t':=s.toks) ⟨fun b o q _ _ _=>q,fun b o q _ _ _=>⟨o.slots,q⟩,fun b o q n _ => ?_,fun b o q _=>⟨o,q⟩,fun b xs q => ?_,fun b o u q => ?_,fun b ps q=>⟨#[],?_⟩⟩ fun b u q => ?_
 ·by_cases hb:b=a
  ·rw[hb];exact del_same
  ·rw[del_ne hb];exact n
 ·rw[del_ne (ne b _ q (by intro ψ z;cases z))];exact q
 ·rw[del_ne (ne b _ q (by intro ψ z;cases z))];exact q
 ·rw[del_ne (ne b _ q (by intro ψ z;cases z)),q];simp
 ·by_cases hb:b=a
  ·rw[hb,del_same]at q;cases q
  ·rw[del_ne hb]at q
   exact (I.hok b u q).stay (fun _ _ _ z=>z) (fun c z=>by rw[del_ne (ne c _ z (by intro ψ z;cases z))];exact z) fun c xs z=>by rw[del_ne (ne c _ z (by intro ψ z;cases z))];exact z
theorem Inv.dictDone {d:Addr}{fs:List (Str×V)}(I:Inv X pins σ H s) (e:H d=some (XD d fs)):Inv X pins σ (upd H d (.xd fs)) s:=by
 obtain⟨mA,n,r,_⟩:=XD.get I.hok e
 obtain⟨o,_,_,q,_⟩:=id n
 exact I.write (h':=s.heap) (t':=s.toks) (x:=d) (e:=d) (by rw[e];exact True.intro) (.inl rfl) (fun _ _ _ z=>z) ⟨o,q⟩ ⟨mA,n,r⟩
end
end L2
namespace L2
open PySem PySem.Spec PyProof.Rows PySem.W
set_option genInjectivity false in
structure ErrC (K:Frag) (C f:Addr):Prop where
 ini:ownInit K C f=true
 ei:errIn K C=true
 sa:findIn K (.ref C) "__setattr__" = some (some (.builtin "object.__setattr__"))
 fn:isFn K (.ref f)=true
set_option genInjectivity false in
structure BaseI (K:Frag) (B:Addr):Prop where
 rd:readsIn K B (.type "type")=true
 fc:findCls K (.ref B) (.type "type") "__init__" = some (.val (.builtin "ValueError.__init__"))
 ga:specialIn K (.ref B) "__getattribute__" = some (some (.builtin "type.__getattribute__"))
theorem upd_id {H:Hp}{a:Addr}{o:HO}(e:H a=some o):upd H a o=H:=by
 funext b
 by_cases hb:b=a
 ·subst hb;rw[zz1,e]
 ·rw[upd_ne hb]
def tRaiseI (C:Addr) (sp:Sp) (E:XK) (t:TA):TS:=fun _ σ H=>t σ H fun vs H1=>vs.length≤sizeLine∧∀x,H1 x=none→sp (.ref x::vs) (upd H1 x (XN x C none)) (fun v H2=>v=.non∧
 ((H2 x=some (XN x C none)∧E (.ref C) none (del H2 x))∨∃d fs,d≠x∧H2 x=some (XN x C (some d))∧H2 d=some (XD d fs)∧E (.ref C) (some d) (del (upd H2 d (.xd fs)) x))) E0
def tXInit (K:Frag) (t:TA):TE:=fun σ H Q=>t σ H fun vs H1=>∃a C dx rest f,vs=.ref a::rest∧H1 a=some (XN a C dx)∧ErrC K C f∧rest.length≤sizeLine∧Q .non H1
def sXFld (K:Frag) (ta tv:TE) (f:Str):TS:=fun D σ H=>tv σ H fun y H1=>ta σ H1 fun x H2=>∃a C fI dx,x=.ref a∧H2 a=some (XN a C dx)∧ErrC K C fI∧NoAttr K C f∧
 ((dx=none∧∀d,H2 d=none→D.nx σ (upd (upd H2 d (XD d [(f,y)])) a (XN a C (some d))))∨∃d fs,dx=some d∧H2 d=some (XD d fs)∧fs.length<1000∧D.nx σ (upd H2 d (XD d (putF f y fs))))
def tXFld (K:Frag) (ta:TE) (f:Str):TE:=fun σ H Q=>ta σ H fun x H1=>∃a C d fs v,x=.ref a∧H1 a=some (XO a C (some d))∧H1 d=some (.xd fs)∧XCls K C∧hasDictIn K C=true∧NoAttr K C f∧fs.lookup f=some v∧Q v H1
section
variable {X:Cx}{x f:Str}{B C fI:Addr}{k:Nat}{fd:FuncData}{ps:List Str}{sp:Sp}{E:XK}{e o value:Expr}{es:List Expr}{p np apos cpos pos pos':Pos}{t:TA}{ta tv:TE}
theorem ps_raiseI (F:FnOk X.prog X.w X.K X.mg X.base CX0 k fI fd ps sp) (hr:Room (k+1) X.A) (hb:Binds X.K fd ps []) (M:ErrC X.K C fI) (hg:Gl X x) (hm:X.mg x=some (.ref C)) (hc:X.calm=true) (hX:Xe X E) (ha:PA X (e::es) t) (hex:X.ex=[]:=by rfl)
  (he:starEach (e::es) X.env=(false,eval e X.env)::starEach es X.env:=by rfl) (hplain:(backTo cpos (starEach es X.env)).any (·.1)=false:=by rfl) (hdb:(x == ("__debug__" : Str))=false:=by decide):
  PS X (.Raise (some (.Call (.Name x np) (e::es) [] cpos)) none pos) (tRaiseI C sp E t):=by
 intro pins s σ H D I h
 obtain⟨tl,N,nm,qn,bs,sn,sub,ab,col,dd,k0,k1,k2,k3,k5,mN,hC,hN,hni,T⟩:=init_obj I.ok.mod.kin M.ini
 obtain⟨oI,hoI,hfc⟩:∃oI,X.K.lookup fI=some oI∧oI.cls=.type "function" := Option.map_eq_some_iff.mp (beq_iff_eq.mp M.fn)
 have hfI:=I.ok.mod.kin _ _ hoI
 refine raise_init (C:=C) (nm:=nm) (q:=qn) (N:=N) (bs:=bs) (bm:=tl) (hdct:=true) (sn:=sn) (sub:=sub) (ab:=ab) (col:=col) (dd:=dd) (k0:=k0) (k1:=k1) (k2:=k2) (k3:=k3) (k5:=k5) (fI:=fI) (oI:=oI)
  PySem.F.excBase_ValueError (mN:=mN) (T.hasType PySem.F.excBase_ValueError.hasBase) (I.ok.hd hc) (by rw[he];show (false || (backTo cpos (starEach es X.env)).any (·.1))=false;rw[hplain];rfl) hni hfc (ld_glob I hg hm ⟨rfl,?_⟩ hdb)
 have h1:=ha cpos pins s σ H _ I h
 rw[he]at h1 ⊢
 refine Calls.evalArgs_plain (wpAny_mono h1 (fun us s2 h2 => ?_) fun _ _ y=>y)
 obtain⟨vs,H2,I2,rv,hz,hE⟩:=h2
 refine⟨rfl,by rw[←rv.length];exact hz,I2.bk _ _ hC,hN.keeps I2.bk,T.keeps I2.bk,I2.bk _ _ hfI,fun h' e hsz me => ?_⟩
 obtain⟨t',hx,_,_⟩:=me.there
 have I3:Inv X pins σ (upd H2 e (XN e C none)) { s2 with heap:=h' }:=I2.laid (t':=s2.toks) me.keeps hsz (XN.ok ⟨_,_,_,hx,rfl,rfl,rfl,rfl,rfl⟩)
 have hq:=hE e (I2.hok.fresh hsz)
 have r2:Vals (V.ref e::vs) (Value.ref e::us):=.cons rfl rv
 have hl:(Value.ref e::us++[]).length=ps.length:=by
  have z:=r2.length
  rw[F.len _ _ _ _ hq]at z
  rw[List.append_nil];exact z.symm
 have hbb:=hb { s2 with heap:=h' } (Value.ref e::us) I3.kIn hl
 rw[List.append_nil]at hbb
 have hs0:X.s₀.heap.get? e=none:=by
  cases qq:X.s₀.heap.get? e with
  | none=>rfl
  | some o=>
   obtain⟨o',q'⟩:=I2.base.there e o qq (by rw[hex];simp)
   rw[me.new]at q';cases q'
 refine wpAny_call (codeAny_mono (F.run _ X.stack _ _ ⟨Value.ref e::us,[]⟩ (Value.ref e::us) _ _ E0 (hr.make C us []) (I3.env0.make C us []) hbb r2 hq) fun r s' hq' => ?_)
 cases r with
 | error e=>exact False.elim hq'
 | ok fl=>
  cases fl with
  | ret u=>
   obtain⟨v,H',I4,rv',ev,alt⟩:=I3.after hq'
   subst ev
   rcases alt with ⟨e1,hE⟩ | ⟨d,fs,dne,e1,e2,hE⟩
   ·obtain⟨ob,ws,v0,g1,g2,g3,g4,g5,g6⟩:=XN.get I4.hok e1
    exact⟨rv',ob,ws,I4.bk _ _ hC,g1,g2,g4,g6,hX pins σ _ _ e (.ref C) none (I4.untrack e1) ⟨hs0,del_same,.inl ⟨ob,ws,g1,g2,g3,g4,g6⟩⟩ hE⟩
   ·obtain⟨ob,ws,v0,g1,g2,g3,g4,g5,g6⟩:=XN.get I4.hok e1
    have I5:=I4.dictDone e2
    have e3:upd H' d (.xd fs) e=some (XN e C (some d)):=by rw[upd_ne (Ne.symm dne)];exact e1
    exact⟨rv',ob,ws,I4.bk _ _ hC,g1,g2,g4,g6,hX pins σ _ _ e (.ref C) (some d) (I5.untrack e3) ⟨hs0,del_same,.inl ⟨ob,ws,g1,g2,g3,g4,g6⟩⟩ hE⟩
  | next=>exact False.elim hq'
  | brk=>exact False.elim hq'
  | cont=>exact False.elim hq'
theorem pe_xinit {pl:Sem Bool}(hg:Gl X x) (hm:X.mg x=some (.ref B)) (b:BaseI X.K B) (ha:PA X (e::es) t) (hdb:(x == ("__debug__" : Str))=false:=by decide)
  (hst:starEach (e::es) X.env=(false,eval e X.env)::starEach es X.env:=by rfl) (hpl:(backTo pos (starEach es X.env)).any (·.1)=false:=by rfl)
  (ht:eval (.Call (.Attribute (.Name x p) "__init__" apos) (e::es) [] pos) X.env=(do
   let ov ←eval (.Name x p) X.env
   standAt apos.atName
   let (f,first) ←holding [ov] (getMethod ov "__init__" pl)
   callWith pos f first (backTo pos (starEach (e::es) X.env)) (backToKw pos (keywordEach [] X.env))):=by rfl):
  PE X (.Call (.Attribute (.Name x p) "__init__" apos) (e::es) [] pos) (tXInit X.K t):=by
 intro pins s σ H Q I h
 refine methodCall_KW (pl:=pl) (ld_glob I hg hm ?_ hdb) ht
 refine method_cls I.kIn b.ga (cls_value I.kIn b.rd b.fc (by rfl) ?_)
 refine callWith_builtin1 (thn (ha pos pins _ σ H _ (I.tok (s.toks+1)) h) fun us s1 ⟨vs,H1,I2,r,q⟩ => ?_) hst hpl
 obtain⟨a,C,dx,rest,f,rfl,e1,M,hz,q⟩:=q
 cases r with
 | cons ra rr=>
  rename_i u us _
  obtain rfl:u=Value.ref a:=ra
  obtain⟨tl,N,nm,qn,bs,sn,sub,ab,col,dd,k0,k1,k2,k3,k5,mN,hC,hN,hni,T⟩:=init_obj I2.kIn M.ini
  obtain⟨ob,ws,v0,g1,g2,g3,g4,g5,g6⟩:=XN.get I2.hok e1
  obtain⟨hh,g,d,tk,os⟩:=s1
  have h0:=(Array.getElem?_eq_some_iff.mp g5).1
  refine base_init PySem.F.excBase_ValueError T hC g1 g2 g4 g5 (fun h' T' kk e' => ?_) (by rw[←rr.length];exact hz)
  have I3:=I2.write (h':=h') (t':=tk) (x:=a) (e:=a) (o:=XN a C dx) (by rw[e1];exact True.intro) (.inl rfl) kk ⟨_,e'⟩
   (XN.ok ⟨_,ws.setIfInBounds 0 T',T',e',g2,g3,rfl,by simp[h0],by rw[Array.getElem?_setIfInBounds_ne (by decide)];exact g6⟩)
  rw[upd_id e1]at I3
  exact⟨.non,H1,I3,rfl,q⟩
theorem ps_xfld (ha:PE X o ta) (hv:PE X value tv) (hs:swapsWith value (some (.Attribute o f pos')) pos.line X.env=pure false):PS X (.Assign [.Attribute o f pos'] value pos) (sXFld X.K ta tv f):=by
 intro pins s σ H D I h
 refine plainObj_wpAny_Assign_Attribute (thn (hv pins s σ H _ I h) fun u s1 hz => ?_) hs
 obtain⟨y,H1,I1,ry,q⟩:=hz
 refine thn (ha pins s1 σ H1 _ I1 q) fun ov s2 hz => ?_
 obtain⟨x,H2,I2,rx,a,C,fI,dx,ex,ea,M,n,q2⟩:=hz
 subst ex
 obtain rfl:ov=Value.ref a:=rx
 obtain⟨ob,ws,v0,g1,g2,g3,g4,g5,g6⟩:=XN.get I2.hok ea
 rcases q2 with ⟨rfl,q2⟩ | ⟨d,fs,rfl,ed,hl,q2⟩
 ·refine set_err0 I2.kIn g1 g2 g3 g4 M.ei M.sa n fun h' tk k1 k2 k3 => ?_
  have hne:s2.heap.objs.size≠a:=Ne.symm (Nat.ne_of_lt (Heap.lt_size g1))
  have hn:=I2.hok.fresh (Nat.le_refl s2.heap.objs.size)
  refine⟨σ,_,?_,q2 s2.heap.objs.size hn⟩
  have na:∀b u,H2 b=some u→(∀ψ,u≠.ext ψ)→b≠a:=fun b u q nx z=>by rw[z,ea]at q;exact nx _ (Option.some.inj q).symm
  have nd:∀b u,H2 b=some u→b≠s2.heap.objs.size:=fun b u q=>zz4 q hn
  have n0:∀b,H2 b=none→b≠a:=fun b q z=>by rw[z,ea]at q;cases q
  have up:∀b,b≠a→b≠s2.heap.objs.size→upd (upd H2 s2.heap.objs.size (XD s2.heap.objs.size [(f,y)])) a (XN a C (some s2.heap.objs.size)) b=H2 b:=fun b z1 z2=>by rw[upd_ne z1,upd_ne z2]
  refine I2.un (h':=h') (t':=tk) ⟨fun b o q m _ _=>k3 b o (n0 b m) q,fun b o q m _ _=>⟨o.slots,k3 b o (n0 b m) q⟩,fun b o q m _ => ?_,fun b o q _ => ?_,fun b xs q => ?_,fun b o u q => ?_,fun b ps q=>⟨#[],?_⟩⟩ fun b u q => ?_
  ·rw[up b (n0 b m) (Nat.ne_of_lt (Heap.lt_size q))];exact m
  ·by_cases hb:b=a
   ·rw[hb];exact⟨_,k1⟩
   ·exact⟨o,k3 b o hb q⟩
  ·rw[up b (na b _ q (by intro ψ z;cases z)) (nd b _ q)];exact q
  ·rw[up b (na b _ q (by intro ψ z;cases z)) (nd b _ q)];exact q
  ·rw[up b (na b _ q (by intro ψ z;cases z)) (nd b _ q),q];simp
  ·by_cases hb:b=a
   ·subst hb
    rw[zz1]at q;cases q
    exact XN.ok ⟨_,ws,v0,k1,g2,rfl,g4,g5,g6⟩
   ·by_cases hd:b=s2.heap.objs.size
    ·subst hd
     rw[upd_ne hb,zz1]at q;cases q
     refine XD.ok ⟨_,k2,fun g => ?_,fun g hg => ?_⟩
     ·by_cases z:g=f
      ·rw[if_pos z,z];simp[List.lookup];exact ry
      ·have zb:(g == f)=false:=beq_eq_false_iff_ne.mpr z
       rw[if_neg z];simp only[List.lookup,zb];trivial
     ·by_cases z:g=f
      ·rw[z];simp
      ·exact absurd (if_neg z) hg
    ·rw[up b hb hd]at q
     refine (I2.hok b u q).stay (fun c v hc z=>k3 c v ?_ z) (fun c z=>by rw[up c (na c _ z (by intro ψ z;cases z)) (nd c _ z)];exact z) fun c xs z=>by rw[up c (na c _ z (by intro ψ z;cases z)) (nd c _ z)];exact z
     rcases hc with z | z
     ·rw[z];exact hb
     ·exact na c _ z (by intro ψ z;cases z)
 ·obtain⟨mA,n1,r,wi⟩:=XD.get I2.hok ed
  have hz:(fs.map (·.1)).length≤sizeLine:=by rw[List.length_map,sizeLine_eq];omega
  refine set_err1 I2.kIn g1 g2 g3 g4 n1 M.ei M.sa n wi hz fun h' tk k1 sb => ?_
  refine⟨σ,_,?_,q2⟩
  obtain⟨od,_,_,hod,_⟩:=id k1
  refine I2.write (x:=d) (e:=d) (by rw[ed];exact True.intro) (.inl rfl) (fun b q hb z=>(sb.2 b hb).trans z) ⟨od,hod⟩ (XD.ok ⟨_,k1,fun g => ?_,fun g hg => ?_⟩)
  ·show RelO ((putF f y fs).lookup g) (if g=f then some u else mA g)
   rw[lookup_putF]
   by_cases q:g=f
   ·rw[if_pos q,if_pos q];exact ry
   ·rw[if_neg q,if_neg q];exact r g
  ·by_cases q:g=f
   ·rw[q];exact (keys_putF f y fs).1
   ·refine (keys_putF f y fs).2 g (wi g fun z=>hg ?_)
    show (if g=f then some u else mA g)=none
    rw[if_neg q];exact z
theorem pe_xfld (he:PE X o ta) (hb:attributeBase o f X.env (eval o X.env)=eval o X.env):PE X (.Attribute o f pos) (tXFld X.K ta f):=by
 intro pins s σ H Q I h
 refine attr_of hb (thn (he pins s σ H _ I h) fun u s1 hz => ?_)
 obtain⟨x,H1,I1,rx,a,C,d,fs,v,ex,ea,ed,c,hd,n,l,q⟩:=hz
 subst ex
 obtain rfl:u=Value.ref a:=rx
 obtain⟨⟨ob,ws,g1,g2,g3,g4⟩,_⟩:=(I1.hok a _ ea)
 obtain⟨mA,n1,r⟩:=(show ∃mA,s1.heap.Ns1 d mA∧∀f,RelO (fs.lookup f) (mA f) from I1.hok d _ ed)
 obtain⟨od,ho,hl⟩:=lookIn_ns n1
 obtain⟨u,hu,ru⟩:=RelO.some_of (v:=v) (o:=mA f) (by rw[←l];exact r f)
 have J:InstAt s1.heap a ob C (some od):=⟨g1,g2,by unfold notCls;rw[g4],by rw[g3];exact ho⟩
 exact x_attr I1.kIn c J (findObj_own hd n rfl (by rw[hl,hu])) (handed_of ru) ⟨v,H1,I1.tok _,ru,q⟩
end
end L2
namespace L2
open PySem PySem.Spec PyProof.Rows
section
variable {X:Cx}
theorem pss_weak {b:List Stmt}{t u:TS}(h:PSs X b t) (w:∀D σ H,u D σ H→t D σ H):PSs X b u:=fun pins s σ H D I q=>h pins s σ H D I (w D σ H q)
theorem ps_weak {b:Stmt}{t u:TS}(h:PS X b t) (w:∀D σ H,u D σ H→t D σ H):PS X b u:=fun pins s σ H D I q=>h pins s σ H D I (w D σ H q)
theorem pt_weak {e:Expr}{t u:TT}(h:PT X e t) (w:∀σ H R,u σ H R→t σ H R):PT X e u:=fun pins s σ H R I q=>h pins s σ H R I (w σ H R q)
end
end L2
namespace L2
open PySem PySem.Spec PyProof.Rows
section
variable {X:Cx}
theorem ps_setC {elt iter tg:Expr}{ifs:List Expr}{scope:Scope}{pos spos py:Pos}{y:Str}{i:Nat}{N':List Str}{k:Nat}{fm:List Nat}{wi:TI}{g:TG}{tt:TT}{te:TE}(hN:X.N.Nodup) (hi':X.N[i]?=some y) (hy:Loc X.env.scope y) (B:BlkScope X N' k fm scope) (hc:X.calm=true) (hi:PI X tg iter wi)
  (hb:∀fp s H,PG (blk X N' scope fp s H) tg g∧PTs (blk X N' scope fp s H) ifs tt∧PE (blk X N' scope fp s H) elt te)
  (hsw:swapsWith (.ListComp elt [⟨tg,iter,ifs,0⟩] scope pos) (some (.Name y py)) spos.line X.env=pure true:=by rfl)
  (hs:∀x,foldedSetIterable iter X.env x=pure x:=by intro _;rfl) (hfn:X.fn y=true∨X.env.scope.names.lookup y=some .local:=by first | exact .inl rfl | exact .inr rfl | assumption):
  PS X (.Assign [.Name y py] (.ListComp elt [⟨tg,iter,ifs,0⟩] scope pos) spos) (tAsg (tComp k fm wi g tt te) (gName i)):=by
 intro pins s σ H DD I h
 have hfree:∀x∈scope.names,x.2=.free→∃c,X.env.cells.lookup x.1=some c:=fun x hx hk=>I.ok.has x.1 (B.free x hx hk)
 rw[exec_Assign_Name_used _ _ _ _ hsw]
 refine wpAny_bind (wpAny_standAt (wpAny_bind ?_))
 show wpAny _ X.A (do let _ ←comprehension (.ListComp elt [⟨tg,iter,ifs,0⟩] scope pos) scope X.env _ (newList []) false (eval iter X.env) (some (assign (.Name y py) X.env))) _ _ s
 refine wpAny_bind (wpAny_mono (wpAny_comprehension_free (use:=some (assign (.Name y py) X.env)) (Q:=fun _ s'=>SP X pins DD .next s') rfl hs (closureFor_eq hfree) B.kind B.names (thn (hi pins s σ H _ I h) fun v s1 h1=>thn h1 fun itv s2 h2 => ?_)) (fun _ s' hq=>wpAny_pure (wpAny_pure hq)) fun _ _ e=>e)
 obtain⟨it,fp,tn,J,H2,e,I2,T,st2,f2,h2⟩:=h2
 subst e
 obtain⟨W,⟨m0,w0⟩,turn⟩:=h2 s2.heap.objs.size I2.fresh
 refine wpAny_newObj_type (wpAny_newFunctionEnv B.nocell (by intro y hy;simp at hy) (fun h4 hns4 hsb4 => ?_) B.kind)
 have I3:=I2.lnew (its:=[]) (ys:=[]) (t':=s2.toks) .nil (Nat.zero_le _)
 have hf3:∀b∈fp,FpOk X pins (upd H2 s2.heap.objs.size (.lst [])) b:=fun b hb=>by
  obtain⟨o,e,_⟩:=T.obj _ _ st2 b hb
  refine⟨?_,(f2 b hb).2⟩
  rw[upd_ne (fun z=>Nat.lt_irrefl _ (z▸Heap.lt_size e))]
  exact (f2 b hb).1
 have ho3:∀b∈fp,∃o,(s2.heap.push { cls:=.type "list", data:=.seq ([]:List Value).toArray }).get? b=some o:=fun b hb=>by
  obtain⟨o,e,_⟩:=T.obj _ _ st2 b hb
  exact⟨o,Heap.get?_push_of_some _ e⟩
 have kp4:∀b o,(s2.heap.push { cls:=.type "list", data:=.seq ([]:List Value).toArray }).get? b=some o→h4.get? b=some o:=fun b o e=>
  hsb4.extBut b o (fun z=>Nat.lt_irrefl _ (z▸Heap.lt_size e)) (Heap.get?_push_of_some _ e)
 have I4:=I3.block (fp:=fp) (h':=h4) (tk:=s2.toks+([]:List (Str×Value)).length) B hf3 ho3 hns4 kp4
 generalize hs3:({ s2 with heap:=s2.heap.push { cls:=.type "list", data:=.seq ([]:List Value).toArray },toks:=s2.toks }:Shared)=s3 at *
 obtain⟨hg,ht,he⟩:=hb fp s3 (upd H2 s2.heap.objs.size (.lst []))
 have st4:tn 0 h4:=T.keep _ _ _ st2 fun b hb o e=>kp4 b o (Heap.get?_push_of_some _ e)
 have stat:∀{H':Hp},(∀b∈fp,H' b=none)→∀b∈fp,FpOk (blk X N' scope fp s3 (upd H2 s2.heap.objs.size (.lst []))) [] H' b:=fun {H'} hn b hb=>by
  obtain⟨f0,f1,f3,f4,f5,f6⟩:=hf3 b hb
  obtain⟨g1,g2⟩:=I4.ok.exf b hb
  exact⟨hn b hb,g1,I4.ok.exfs b hb,.inl hb,g2,fun p hp=>f6 p ((List.mem_append.mp hp).elim (fun z=>List.mem_append_left _ z) fun z=>absurd z (by simp))⟩
 have loop:codeAny (model X.prog X.w) X.A (.compLoop (.ListComp elt [⟨tg,iter,ifs,0⟩] scope pos) 0 (.ref it) (.ref s2.heap.objs.size) (compEnvC scope (clOf X.env scope.names []) s3.heap.objs.size X.env))
   (compPost (model X.prog X.w) X.A X.xe (some (assign (.Name y py) X.env)) (fun _ s'=>SP X pins DD .next s') (.ref s2.heap.objs.size) s3.heap.objs.size) { s3 with heap:=h4,toks:=s2.toks+([]:List (Str×Value)).length }:=by
  refine blk_loop (X:=blk X N' scope fp s3 (upd H2 s2.heap.objs.size (.lst []))) (D:=s2.heap.objs.size) (Q:=fun v H'=>DD.nx (σ.set i (some v)) H') (W:=W) (m0:=m0) rfl hc T stat hg ht he turn I4 st4 (fun b hb=>(hf3 b hb).1) w0 ?_
  intro H' s' I' q
  obtain⟨m,hn,_⟩:=I'.loc
  have hCn:s3.heap.get? s3.heap.objs.size=none:=by
   cases e:s3.heap.get? s3.heap.objs.size with
   | none=>rfl
   | some o=>exact absurd (Heap.lt_size e) (Nat.lt_irrefl _)
  have J:∀h'':Heap,(∀b o,b≠s3.heap.objs.size→s'.heap.get? b=some o→h''.get? b=some o)→Inv X pins σ H' { s' with heap:=h'' }:=fun h'' hk=>by
   have u:Un (frs X.stack) fp (upd H2 s2.heap.objs.size (.lst [])) H' s3.heap h'':=Un.tail I'.base hk hCn
   refine I3.call' (s':={ s' with heap:=h'' }) (ch:=fp) I'.os u (I'.hok.tail hk I'.free) I'.bare fun b hb => ?_
   obtain⟨f0,f1,f3,f4,f5,f6⟩:=hf3 b hb
   exact⟨f4,f1,f5,f6⟩
  have J1:Inv X pins σ H' s':=J s'.heap fun _ _ _ e=>e
  obtain⟨oC,es,ep,hoC,hdC,rC⟩:=hn
  have hCf:H' s3.heap.objs.size=none:=I'.free
  have hCL:s3.heap.objs.size≠X.env.locals:=Ne.symm (Nat.ne_of_lt I3.lt)
  have hCfs:=I3.nofs (Nat.le_refl _)
  have J2:Inv X (pins++[(s3.heap.objs.size,oC)]) σ H' s':=J1.pins_of fun p hp=>by
   rcases List.mem_append.mp hp with z | z
   ·exact J1.pin p (List.mem_append_right _ z)
   ·rw[List.mem_singleton.mp z]
    exact⟨hoC,hCf,hCL,hCfs,fun v e=>by rw[hdC]at e;cases e⟩
  show wpAny _ X.A (assign (.Name y py) X.env (.ref s2.heap.objs.size)) _ _ _
  refine wpAny_assign_Name (store_ok J2 hN hi' hy (v:=.ref s2.heap.objs.size) rfl (fun s5 I5 => ?_) hfn)
  have hC5:=(I5.pin (s3.heap.objs.size,oC) (List.mem_append_right _ (List.mem_append_right _ (List.mem_singleton.mpr rfl)))).1
  refine⟨m,⟨oC,es,ep,hC5,hdC,rC⟩,fun h'' hs'' => ?_⟩
  have I6:Inv X pins (σ.set i (some (.ref s2.heap.objs.size))) H' s5:=I5.pins_of fun p hp=>I5.pin p (List.mem_append_right _ (List.mem_append_left _ hp))
  refine⟨_,H',I6.turned (t':=s5.toks) (it:=s3.heap.objs.size) (fun b o hb e=>hs''.extBut b o hb e) hCf hCL (.inr I3.sz) (fun x c e z => ?_) (fun p hp z => ?_),q⟩
  ·obtain⟨v,o,ho,_⟩:=I3.cell x c e
   rw[z]at ho
   exact absurd (Heap.lt_size ho) (Nat.lt_irrefl _)
  ·have z':=(I3.pin p hp).1
   rw[z]at z'
   exact absurd (Heap.lt_size z') (Nat.lt_irrefl _)
 subst hs3
 exact codeAny_compStart_list loop (T.self X.A 0 _ _ _ st4 loop)
end
end L2
namespace L2
open PySem PySem.Spec PyProof.Rows
section
variable {prog:Program}{w:World}{K:Type} [DecidableEq K] {knd:KeyKind prog w K}{A:Around}{E:Vs}{s:Shared}
end
section
variable {X:Cx}
def rEqDict (K:Wf):R2:=fun x y H Q=>∃p q kvs,x=.ref p∧y=.ref q∧H p=some (.dK kvs)∧H q=some (.dK kvs)∧(∀kv∈kvs,∃d,Rep K H d kv.2∧dep d≤20)∧Q (.bl true) H
noncomputable def rDictOf:List V→Hp→VK→Prop:=fun xs H Q=>∃p kvs,xs=[.ref p]∧H p=some (.dK kvs)∧∀q,H q=none→Q (.ref q) (upd H q (.dK kvs))
noncomputable def cntV (x:V) (xs:List V):Nat:=xs.countP fun y=>eqV y x
noncomputable def rCount (K:Wf):V→List V→Hp→VK→Prop:=fun x vs H Q=>∃p xs y,x=.ref p∧vs=[y]∧SqL K H p xs∧flatV y=true∧xs.all flatV=true∧Q (.int (cntV y xs:Nat)) H
theorem count_eqU {x:V}:∀{xs:List V}{us:List Value},Vals xs us→xs.all flatV=true→us.countP (eqU x)=xs.countP fun y=>eqV y x
 | _,_,.nil,_=>rfl
 | y::xs,u::us,.cons r t,f=>by
  rw[List.all_cons,Bool.and_eq_true]at f
  rw[List.countP_cons,List.countP_cons,eqU_of r f.1,count_eqU t f.2]
theorem mt_count:MtM X "list.count" (rCount X.K):=by
 intro pins s σ H x vs v us Q I rx rv h
 obtain⟨p,xs,y,rfl,rfl,hq,fy,fs,q⟩:=h
 cases rx
 obtain⟨u,rfl,ru⟩:=rv.one
 obtain⟨its,r,pl,hz⟩:=I.list hq
 obtain⟨⟨cls,dd,data,sl⟩,ho,hc,n,hd⟩:=id pl.isList
 simp only at hc hd
 subst hc hd
 refine call_meets PySem.F.slot_list_count ⟨_,ho,rfl⟩ PySem.F.entry_list_count (PySem.F.args_list_count_2 _ _) (SeqAt.list_countAt p its.toArray n dd sl u (eqU y)) ⟨ho,fun w hw=>mem_eqAt ru fy r fs w (by simpa using hw),?_⟩
 show EP X pins σ Q (Value.int ((its.toArray.toList.countP (eqU y):Nat):Int) s.toks) _
 rw[show its.toArray.toList=its by simp,count_eqU r fs]
 exact⟨V.int (cntV y xs:Nat),H,I.tok _,⟨s.toks,rfl⟩,q⟩
theorem mt_countK {K:Wf}(e:X.K=K):MtM X "list.count" (rCount K):=e▸mt_count
end
end L2
namespace L2
open PySem PySem.Spec PyProof.Rows
section
variable {M:Model}{A:Around}{E:Vs}{s:Shared}
end
section
variable {prog:Program}{w:World}{A:Around}{R:Result→Shared→Prop}{s:Shared}
end
section
variable {X:Cx}
def tCompX (E:XK) (k:Nat) (fm:List Nat) (wi:TI) (g:TG) (tt:TT) (te:TEX):TE:=fun σ H Q=>wi σ H fun J H1=>∀D,H1 D=none→∃W:Nat→Nat→List V→Hp→Prop,
 (∃m,W 0 m [] (upd H1 D (.lst [])))∧∀i m ys H2,W i m ys H2→H2 D=some (.lst ys)∧ys.length<sizeLine∧((J.stop i H2∧Q (.ref D) H2)∨(J.go i H2∧∃N:List V→Hp→Prop,(∀ys' H',N ys' H'→∃m',m'<m∧W (i+1) m' ys' H')∧∀x H3,J.yld i H2 x H3→
  g x (blkSt k fm σ) H3 fun σ3 H4=>Ext (blkSt k fm σ) σ3∧tt σ3 H4 fun b H5=>if b=true then te σ3 H5 (fun y H6=>H6 D=some (.lst ys)∧N (ys++[y]) (upd H6 D (.lst (ys++[y])))) E else N ys H5))
end
def CompWX (E:XK) (g:TG) (tt:TT) (te:TEX) (σ0:St) (Q:VK) (J:It) (H1:Hp):Prop:=∀DD,H1 DD=none→∃W:Nat→Nat→List V→Hp→Prop,
 (∃m,W 0 m [] (upd H1 DD (.lst [])))∧∀i m ys H2,W i m ys H2→H2 DD=some (.lst ys)∧ys.length<sizeLine∧((J.stop i H2∧Q (.ref DD) H2)∨(J.go i H2∧∃N:List V→Hp→Prop,(∀ys' H',N ys' H'→∃m',m'<m∧W (i+1) m' ys' H')∧∀x H3,J.yld i H2 x H3→
  g x σ0 H3 fun σ3 H4=>Ext σ0 σ3∧tt σ3 H4 fun b H5=>if b=true then te σ3 H5 (fun y H6=>H6 DD=some (.lst ys)∧N (ys++[y]) (upd H6 DD (.lst (ys++[y])))) E else N ys H5))
def CompLX (K:Wf) (E:XK) (g:TG) (tt:TT) (te:TEX) (σ0:St) (Q:VK):VK:=fun x H1=>∃a,x=.ref a∧(∃xs,SqL K H1 a xs)∧CompWX E g tt te σ0 Q (Itl K a) H1
section
variable {K:Wf}{k:Nat}{fm:List Nat}{tl:TE}{te:TEX}{g:TG}{tt:TT}{σ σ0:St}{H H1:Hp}{Q:VK}{E:XK}
theorem tCompX_list:tCompX E k fm (iList K tl) g tt te σ H Q=tl σ H (CompLX K E g tt te (blkSt k fm σ) Q):=rfl
end
section
variable {M:Model}{A:Around}{E:Vs}{s:Shared}
end
end L2
namespace L2
open PySem PySem.Spec PyProof.Rows
section
variable {X:Cx}
end
end L2
namespace L2
open PySem PySem.Spec PyProof.Rows
def leS (a b:Str):Prop:=a.cps.toList≤b.cps.toList
theorem leS_trans {a b c:Str}(x:leS a b) (y:leS b c):leS a c:=List.le_trans x y
theorem leS_anti {a b:Str}(x:leS a b) (y:leS b a):a=b:=by
 have e:=List.le_antisymm x y
 cases a;cases b;congr 1;exact Array.toList_inj.mp e
theorem rising_pw:∀{l:List Str}{p:Str},risingS p l=true→(p::l).Pairwise leS
 | [],p,_=>List.pairwise_singleton ..
 | x::r,p,h=>by
  rw[risingS,Bool.and_eq_true,ltCps_eq]at h
  have px:leS p x:=by
   have z:=h.1
   rw[Bool.not_eq_true',decide_eq_false_iff_not]at z
   exact z
  have ih:=rising_pw h.2
  refine List.Pairwise.cons (fun y hy => ?_) ih
  rcases List.mem_cons.mp hy with rfl | hy
  ·exact px
  ·exact leS_trans px ((List.pairwise_cons.mp ih).1 y hy)
theorem sorted_pw:∀{l:List Str},sortedS l=true→l.Pairwise leS
 | [],_=>.nil
 | _::_,h=>rising_pw h
theorem txs_of:∀{ss:List Str}{us:List Value},Vals (ss.map V.str) us→StrsAre us ss
 | [],[],.nil=>.nil
 | x::ss,u::us,.cons r t=>by
  obtain⟨k,rfl⟩:=r
  exact .cons x k (txs_of t)
theorem of_strs:∀{ss:List Str}{us:List Value},StrsAre us ss→Vals (ss.map V.str) us
 | _,_,.nil=>.nil
 | _,_,.cons x k t=>.cons ⟨k,rfl⟩ (of_strs t)
theorem strs_ix:∀{us:List Value}{ss:List Str},us.length=ss.length→(∀(j:Nat) (v:Value),us[j]?=some v→∃y k,ss[j]?=some y∧v=Value.str y k)→StrsAre us ss
 | [],[],_,_=>.nil
 | u::us,s::ss,hl,h=>by
  obtain⟨y,k,e,rfl⟩:=h 0 u rfl
  cases e
  exact .cons _ k (strs_ix (by simpa using hl) fun j v hv=>by simpa using h (j+1) v (by simpa using hv))
theorem StrsAre_len:∀{us:List Value}{ss:List Str},StrsAre us ss→us.length=ss.length
 | _,_,.nil=>rfl
 | _,_,.cons _ _ t=>by rw[List.length_cons,List.length_cons,StrsAre_len t]
theorem sorted_by {prog:Program}{w:World}{A:Around}{E:Vs}{s:Shared}{a:Value}{Q:Vs}
  (hc:wpAny (model prog w) A.in1 (collect a) (fun vs s1=>∃ss:List Str,StrsAre vs ss∧vs.length<64∧
   ∀(h':Heap) (out:List Value) (ss':List Str) (D:Addr) (e:Nat),(∀b o,s1.heap.get? b=some o→h'.get? b=some o)→s1.heap.objs.size≤D→h'.get? D=some (seqObj "list" out.toArray e)→
    StrsAre out ss'→ss'.Perm ss→ss'.Pairwise leS→Q (.ref D) { s1 with heap:=h' }) E s):
  wpAny (model prog w) A (call (.builtin "sorted") [a]) Q E s:=by
 refine Calls.call_function_entry kind_sorted plain_sorted entry_sorted (args_sorted1 _) ?_
 unfold Builtin.«sorted»
 refine wpAny_bind (m:=checkCount "sorted" 1 1 _) (wpAny_pure ?_)
 refine wpAny_bind (wpAny_mono hc (fun vs s1 hv => ?_) fun _ _ z=>z)
 obtain⟨ss,S,hz,q⟩:=hv
 refine wpAny_bind (wpAny_newList ?_ (by rw[sizeLine_eq];omega))
 have hoL:(s1.heap.push (seqObj "list" vs.toArray 0)).get? s1.heap.objs.size=some (seqObj "list" vs.toArray 0):=Heap.get?_push_size _ rfl
 refine wpAny_bind (wpAny_holding (wpAny_call_entry slot_list_sort ⟨_,hoL,rfl⟩ entry_list_sort
  (list_sort_treeK strKind_oneLt hoL S.keysOf (fun v₁ v₂ rest z=>keyKind_strs (by rw[←z];exact S)) hz fun st a1 a2=>⟨_,rfl,?_⟩) (args_list_sort _)))
 obtain⟨ss',t1,t2,t3⟩:=sorted_out_str S a1 a2
 obtain⟨e,he⟩:=sortedHeap_at (out:=(arrOf st).map (·.2)) hoL
 refine wpAny_pure ⟨_,rfl,q _ ((arrOf st).map (·.2)).toList ss' s1.heap.objs.size e (fun b o z => ?_) (Nat.le_refl _) (by rw[Array.toArray_toList];exact he) t1 t2 (sorted_pw t3)⟩
 have lt:=Heap.lt_size z
 rw[sortedHeap_old (Nat.ne_of_lt lt) (by rw[size_push'];exact Nat.lt_succ_of_lt lt)]
 exact Heap.get?_push_of_some _ z
section
variable {X:Cx}
noncomputable def rSorted (K:Wf):List V→Hp→VK→Prop:=fun xs H Q=>∃(p:Addr) (ss:List Str),xs=[.ref p]∧SqL K H p (ss.map V.str)∧ss.length<64∧∀(l:Addr) (ss':List Str),H l=none→ss'.Perm ss→ss'.Pairwise leS→Q (.ref l) (upd H l (.lst (ss'.map V.str)))
theorem call_sorted:CallR X (.builtin "sorted") (rSorted X.K):=by
 intro pins s σ H xs us Q I r h
 obtain⟨p,ss,rfl,hq,hz,q⟩:=h
 obtain⟨u,rfl,rx⟩:=vals1 r
 cases rx
 obtain⟨its,r',pl,_⟩:=I.list hq
 have S:StrsAre its ss:=txs_of r'
 refine sorted_strs pl.isList S (by rw[StrsAre_len S];exact hz) fun out ss' a1 a2 a3 => ?_
 obtain⟨e,he⟩:=sortedAll_at s.heap its out
 refine⟨.ref (s.heap.objs.size+1),_,I.laid (a:=s.heap.objs.size+1) (o:=.lst (ss'.map V.str)) (t':=s.toks) (fun b o=>sortedAll_old) (Nat.le_succ _) ⟨?_,out.toList,e,of_strs a1,by simpa using he⟩,rfl,q _ ss' (I.hok.fresh (Nat.le_succ _)) a2 (sorted_pw a3)⟩
 rw[List.length_map,a2.length_eq,sizeLine_eq];omega
noncomputable def rSortedD:List V→Hp→VK→Prop:=fun xs H Q=>∃p kvs,∃ss:List Str,xs=[.ref p]∧H p=some (.dK kvs)∧kvs.map (·.1)=ss.map Sum.inr∧ss.length<64∧∀(l:Addr) (ss':List Str),H l=none→ss'.Perm ss→ss'.Pairwise leS→Q (.ref l) (upd H l (.lst (ss'.map V.str)))
theorem kv_keys {kvs:List (Key×V)}{vs:List (Key×Value)}(r:KV kvs vs):kvs.map (·.1)=vs.map (·.1):=by
 unfold KV at r
 induction r with
 | nil=>rfl
 | cons h _ ih=>rw[List.map_cons,List.map_cons,h.1,ih]
theorem call_sortedD (hc:X.calm=true):CallR X (.builtin "sorted") rSortedD:=by
 intro pins s σ H xs us Q I r h
 obtain⟨p,kvs,ss,rfl,hq,hk,hz,q⟩:=h
 obtain⟨u,rfl,rx⟩:=vals1 r
 cases rx
 obtain⟨z,hS,vs,rel,dd⟩:=dk_of I.hok hq
 obtain⟨ep,da⟩:=dd.dictAt
 have hh:X.A.in1.handled=none:=by simp[I.ok.hd hc]
 have hkeys:vs.map (·.1)=ss.map Sum.inr:=(kv_keys rel).symm.trans hk
 have hlen:vs.length=ss.length:=by have e:=congrArg List.length hkeys;simpa using e
 refine sorted_by (PySem.W.kdu_collect (PySem.W.kdl_dict hS) hh da (by rw[hlen,sizeLine_eq];omega) fun h1 tk acc kp it => ?_)
 have hal:acc.toList.length=ss.length:=by rw[Array.length_toList,it.1,hlen]
 refine⟨ss,strs_ix hal (fun j v hv => ?_),by rw[hal];exact hz,fun h2 out ss' D e k2 hD hg S pm pw => ?_⟩
 ·rw[Array.getElem?_toList]at hv
  obtain⟨k,x,e,hi⟩:=it.2 j v hv
  have e1:(vs.map (·.1))[j]?=some k:=by rw[List.getElem?_map,e];rfl
  rw[hkeys,List.getElem?_map]at e1
  cases hj:ss[j]? with
  | none=>rw[hj]at e1;cases e1
  | some y=>
   rw[hj]at e1;cases e1
   obtain⟨t,rfl⟩:=Value.isStrOf_shape (x:=y) (v:=v) hi
   exact⟨y,t,rfl,rfl⟩
 ·have I1:=I.kept (t':=tk) kp
  exact⟨.ref D,_,I1.laid (a:=D) (o:=.lst (ss'.map V.str)) (t':=tk) k2 hD ⟨by rw[List.length_map,pm.length_eq,sizeLine_eq];omega,out,e,of_strs S,by simpa using hg⟩,rfl,q _ ss' (I1.hok.fresh hD) pm pw⟩
theorem call_sortedK {K:Wf}(e:X.K=K):CallR X (.builtin "sorted") (rSorted K):=e▸call_sorted
theorem refs_of:∀{as:List Addr}{us:List Value},Vals (as.map V.ref) us→us=as.map Value.ref
 | [],[],.nil=>rfl
 | a::as,u::us,.cons r t=>by
  cases r
  rw[refs_of t];rfl
def rInD (K:Wf) (neg:Bool):R2:=fun x y H Q=>∃(p:Addr) (as:List Addr) (g:Addr→D) (d:D),y=.ref p∧SqL K H p (as.map V.ref)∧(∀a∈as,Rep K H (g a) (.ref a)∧dep (g a)≤20)∧Rep K H d x∧Q (.bl (if neg then !(as.any fun a=>deq (g a) d) else as.any fun a=>deq (g a) d)) H
end
end L2
namespace L2
open PySem
section
variable {prog:Program}{w:World}{A:Around}{E:Vs}{s:Shared}
set_option maxHeartbeats 3200000 in
set_option maxHeartbeats 3200000 in
set_option maxHeartbeats 3200000 in
end
section
open PyProof.Rows PySem.Spec
variable {X:Cx}
end
end L2
namespace L2
open PySem PySem.Spec PyProof.Rows
section
variable {X:Cx}{pins:Lo}{σ:List (Option V)}{H H':Hp}{s:Shared}{h':Heap}
end
section
variable {X:Cx}
end
section
variable {K:Wf}{k:Nat}{fm:List Nat}{te:TE}{ta:TA}{g:TG}{tt:TT}{σ σ0:St}{H H1:Hp}{Q:VK}
end
end L2
namespace L2
open PySem PySem.Spec PyProof.Rows
theorem PS.nox {X:Cx}{st:Stmt}{t:TS}(h:PS X.nox st t):PS X st t:=fun pins s σ H D I hw=>
 wpAny_mono (h pins s σ H D (I.wish _) hw) (fun _ _ q=>q.unwish) fun _ _ q=>q.elim
section
variable {X:Cx}
end
section
variable {K:Wf}{te:TE}{ta:TA}{g:TG}{tb:TS}{D:Ends}{σ:St}{H:Hp}
end
end L2
namespace L2
open PySem PySem.Spec PyProof.Rows
theorem Inv.freeze {X:Cx}{pins:Lo}{σ:St}{H:Hp}{s:Shared}{a:Addr}{kvs:List (Key×V)}(I:Inv X pins σ H s) (e:H a=some (.dK kvs)):
  ∃(o:Obj) (vs:List (Key×Value)) (ep:Nat),s.heap.get? a=some o∧(a == sysModules)=false∧KV kvs vs∧PySem.W.KdkAt (mixKind X.prog X.w) o vs ep∧Inv X pins σ (upd H a (.frz o (.dK kvs))) s:=by
 obtain⟨z,hS,vs,rel,dd⟩:=dk_of I.hok e
 obtain⟨ep,o,es,ho,r⟩:=dd.dictAt
 refine⟨o,vs,ep,ho,hS,rel,⟨es,r⟩,?_⟩
 have ne:∀{b:Addr}{u:HO},H b=some u→u≠.dK kvs→b≠a:=fun {b u} q n z=>by rw[z,e]at q;cases q;exact n rfl
 refine I.step (h':=s.heap) (g':=s.gens) (d':=s.drawn) (t':=s.toks) (ch:=[]) (fun _ z=>nomatch z) (fun b o _ _ _ q _=>q) (fun b o _ _ _ q _=>⟨o.slots,q⟩) (fun b o _ _ n => ?_) (fun b o _ q=>⟨o,q⟩)
  (fun b xs q=>by rw[upd_ne (ne q (fun z=>nomatch z))];exact q) (fun b o u q=>by rw[upd_ne (ne q (fun z=>nomatch z))];exact q) (fun b ps q=>⟨#[],by rw[upd_ne (ne q (fun z=>nomatch z)),q];simp⟩) (fun m hm=>hm) (fun b u q => ?_) I.bare
 ·rw[upd_ne (fun z=>by rw[z,e]at n;cases n)];exact n
 ·by_cases z:b=a
  ·subst z
   rw[zz1]at q
   cases q
   exact⟨ho,I.hok b _ e⟩
  ·rw[upd_ne z]at q
   refine (I.hok b u q).stay (fun c v _ r=>r) (fun c r => ?_) fun c xs r => ?_
   ·rw[upd_ne (ne r (fun z=>nomatch z))];exact r
   ·rw[upd_ne (ne r (fun z=>nomatch z))];exact r
noncomputable def Itd (a:Addr) (o:Obj) (kvs:List (Key×V)):It:=
 ⟨fun i H => H a = some (.frz o (.dK kvs)) ∧ ∃ p, kvs[i]? = some p,
  fun i H v H'=>H'=H∧∃p,kvs[i]?=some p∧v=kV p.1,
  fun i H=>H a=some (.frz o (.dK kvs))∧kvs.length≤i⟩
theorem KV.len {kvs:List (Key×V)}{vs:List (Key×Value)}(h:KV kvs vs):kvs.length=vs.length:=Paired.length h
theorem turn_dict {P:Program}{w:World}{K:Wf}{tg:Expr}{a it:Addr}{o:Obj}{kvs:List (Key×V)}{vs:List (Key×Value)}{ep:Nat}(rel:KV kvs vs) (kd:PySem.W.KdkAt (mixKind P w) o vs ep):
  Turn P w K tg (Itd a o kvs) [it] it (fun i h=>h.IsKeyIter it a i vs.length ep) where
 mem:=by simp
 obj:=fun i h st b hb=>by
  have e:b=it:=by simpa using hb
  subst e
  obtain⟨o,e,c,d⟩:=st
  exact⟨o,e,fun v z=>by rw[d]at z;cases z⟩
 keep:=fun i h h' st k=>st.at fun o e=>k it (by simp) o e
 item:=by
  intro X hP hw hK hc i pins s σ H E I hf st hg
  subst hP hw hK
  obtain⟨hH,p,hp⟩:=hg
  obtain⟨ho,_⟩:=(show ObjOk X.prog X.w H s.heap a (.frz o (.dK kvs)) from I.hok a _ hH)
  have hl:=rel.len
  have hil:=(List.getElem?_eq_some_iff.mp hp).1
  have hv:vs[i]?=some vs[i]:=List.getElem?_eq_getElem (by omega)
  have hk:vs[i].1=p.1:=by
   have e1:(kvs.map (·.1))[i]?=some p.1:=by rw[List.getElem?_map,hp];rfl
   rw[kv_keys rel,List.getElem?_map,hv]at e1
   exact Option.some.inj e1
  obtain⟨f0,f1,f2,f3,f4,f5⟩:=hf it (by simp)
  refine wpAny_pyNext_dict_item st (PySem.W.KdkAt.dictAt kd ho) (k:=vs[i].1) (v:=vs[i].2) hv fun key h' hkey st' sb => ?_
  have I1:Inv X pins σ H { s with heap:=h' }:=I.turned (t':=s.toks) (fun b o hb e=>(sb.2 b hb).trans e) f0 f1 f3 f4 f5
  obtain⟨oi,e,c,d⟩:=id st'
  rw[hk]at hkey
  have rk:RelV (kV p.1) key:=by
   rcases zz18 hkey with ⟨n,t,e1,rfl⟩ | ⟨x,t,e1,rfl⟩
   ·rw[e1];exact⟨t,rfl⟩
   ·rw[e1];exact⟨t,rfl⟩
  exact⟨key,rfl,go_of (s:={ s with heap:=h' }) e c d (by decide) ⟨kV p.1,H,I1,rk,⟨rfl,p,hp,rfl⟩,st',fun b hb=>(hf b hb).1⟩⟩
 done:=by
  intro X hP hw hK hc i pins s σ H E I hf st hg
  subst hP hw hK
  obtain⟨hH,hi⟩:=hg
  obtain⟨ho,_⟩:=(show ObjOk X.prog X.w H s.heap a (.frz o (.dK kvs)) from I.hok a _ hH)
  obtain⟨f0,f1,f2,f3,f4,f5⟩:=hf it (by simp)
  have hl:=rel.len
  exact wpAny_pyNext_dict_end (I.ok.hd hc) st (PySem.W.KdkAt.dictAt kd ho) (by simp;omega) fun h' eb=>⟨rfl,I.turned (t':=s.toks) (fun b o hb e=>eb b o hb e) f0 f1 f3 f4 f5⟩
 self:=fun _ _ _ _ _ st h=>wpAny_pyIter_keyiter st h
section
variable {X:Cx}
def iDict (te:TE):TI:=fun σ H R=>te σ H fun x H1=>∃a kvs,x=.ref a∧H1 a=some (.dK kvs)∧∀o,R (Itd a o kvs) (upd H1 a (.frz o (.dK kvs)))
theorem pi_dict {tg l:Expr}{tl:TE}(hl:PE X l tl):PI X tg l (iDict tl):=by
 intro pins s σ H R I h
 refine thn (hl pins s σ H _ I h) fun v s1 ⟨x,H1,I1,r1,q1⟩ => ?_
 obtain⟨a,kvs,e,hq,q⟩:=q1
 subst e
 cases r1
 obtain⟨o,vs,ep,ho,hS,rel,kd,I2⟩:=I1.freeze hq
 refine wpAny_pyIter_dict hS (PySem.W.KdkAt.dictAt kd ho) ?_
 refine⟨s1.heap.objs.size,[s1.heap.objs.size],_,_,_,rfl,I2.kept (t':=s1.toks) fun b o e=>Heap.get?_push_of_some _ e,turn_dict rel kd,⟨_,Heap.get?_push_size _ rfl,rfl,rfl⟩,fun b hb => ?_,q o⟩
 have e:b=s1.heap.objs.size:=by simpa using hb
 subst e
 exact I2.fpOk (Nat.le_refl _) (I2.hok.fresh (Nat.le_refl _))
end
def ForD (g:TG) (tb:TS) (D:Ends) (σ:St):VK:=fun x H1=>∃a kvs,x=.ref a∧H1 a=some (.dK kvs)∧∀o,ForW g tb D σ (Itd a o kvs) (upd H1 a (.frz o (.dK kvs)))
section
variable {te:TE}{g:TG}{tb:TS}{D:Ends}{σ:St}{H:Hp}
theorem tFor_dict:tFor (iDict te) g tb D σ H=te σ H (ForD g tb D σ):=rfl
theorem ForD.of {a:Addr}{kvs:List (Key×V)}(hd:H a=some (.dK kvs)) (Pv:Obj→Nat→St→Hp→Prop) (h0:∀o,Pv o 0 σ (upd H a (.frz o (.dK kvs)))) (hl:∀o i σ H,i≤kvs.length→Pv o i σ H→H a=some (.frz o (.dK kvs)))
  (hs:∀o i p σ H,kvs[i]?=some p→Pv o i σ H→g (kV p.1) σ H fun σ2 H2=>tb { D with nx:=Pv o (i+1),ct:=Pv o (i+1),bk:=D.nx } σ2 H2) (he:∀o σ H,Pv o kvs.length σ H→D.nx σ H):ForD g tb D σ (.ref a) H:=by
 refine⟨a,kvs,rfl,hd,fun o=>⟨fun i m σ H=>m=kvs.length - i∧i≤kvs.length∧Pv o i σ H,⟨kvs.length,by simp,Nat.zero_le _,h0 o⟩,?_⟩⟩
 rintro i m σ H ⟨rfl,hi,p⟩
 have q:=hl o i σ H hi p
 by_cases hlt:i<kvs.length
 ·refine .inr ⟨⟨q,kvs[i],by simp[hlt]⟩,Pv o (i+1),fun σ' H' p'=>⟨kvs.length - (i+1),by omega,rfl,hlt,p'⟩,fun x H' y => ?_⟩
  obtain⟨rfl,u,hu,rfl⟩:=y
  exact hs o i u σ _ hu p
 ·have e:i=kvs.length:=by omega
  subst e
  exact .inl ⟨⟨q,Nat.le_refl _⟩,he o σ H p⟩
end
end L2
namespace L2
open PySem PySem.Spec PyProof.Rows
section
variable {X:Cx}
end
end L2
namespace L2
open PySem PySem.Spec PyProof.Rows
end L2
namespace L2
open PySem PySem.Spec PyProof.Rows
section
variable {M:Model}{A:Around}{E:Vs}{s:Shared}{env:Env}
end
section
variable {prog:Program}{w:World}{A:Around}{E:Vs}{s:Shared}
end
end L2
namespace L2
open PySem PySem.Spec PyProof.Rows
section
variable {prog:Program}{w:World}{A:Around}{E:Vs}{s:Shared}
end
section
variable {prog:Program}{w:World}{A:Around}{E:Vs}{s:Shared}
end
section
variable {X:Cx}
end
section
variable {K:Wf}{te:TE}{ta:TA}{g:TG}{tb:TS}{D:Ends}{σ:St}{H:Hp}
end
end L2
namespace L2
open PySem PySem.Spec PyProof.Rows
section
variable {X:Cx}{o e:Expr}{ty:TE}{a:Addr}{kvs:List (Key×V)}{apos cpos:Pos}
end
section
variable {K:Wf}{te:TE}{g:TG}{tt:TT}{σ0:St}{H1:Hp}{Q:VK}
end
end L2
namespace L2
open PySem PySem.Spec PyProof.Rows
section
variable {M:Model}{A:Around}{E:Vs}{s:Shared}
end
section
variable {X:Cx}{tg:Expr}{E:XK}
end
end L2
namespace L2
open PySem
section
variable {prog:Program}{w:World}{A:Around}{E:Vs}{s:Shared}{a:Addr}{L:List Str}
end
end L2
namespace L2
open PySem
section
variable {prog:Program}{w:World}{A:Around}{E:Vs}{s:Shared}{it a:Addr}{i n ep slot next:Nat}{es:Array (Int×Value)}{t:SetTable}{Q:Option Value→Shared→Prop}{x:Value}
end
end L2
namespace L2
open PySem
section
variable {prog:Program}{w:World}{A:Around}{E:Vs}{s:Shared}{I a:Addr}{n ep:Nat}{es:Array (Int×Value)}{t:SetTable}
end
end L2
namespace L2
open PySem
section
variable {prog:Program}{w:World}{A:Around}{E:Vs}{s:Shared}{a:Addr}{L:List Str}
end
end L2
namespace L2
open PySem PySem.Spec
section
variable {prog:Program}{w:World}{A:Around}{E:Vs}
set_option maxHeartbeats 3200000 in
end
section
open PyProof.Rows
variable {X:Cx}
end
end L2
namespace L2
open PySem PySem.Spec PyProof.Rows
section
variable {X:Cx}
end
end L2
namespace L2
open PySem PySem.Spec PyProof.Rows
end L2
namespace L2
open PySem PySem.Spec PyProof.Rows
section
variable {prog:Program}{w:World}{K:Type} [DecidableEq K] {knd:HeapKind prog w K}{A:Around}{E:Vs}{s:Shared}
theorem grown {d a:Addr}{o:Obj}{es:Array DictEntry}{ep:Nat}{xs:List (K×Addr×Value)}{k:K}{v:Value}{h:Heap}(ho:h.get? d=some o) (hd:o.data=.dict es ep) (hc:o.ExactDict)
  (he:es.toList=xs.map (entryOfKey knd)) (his:∀x∈xs,knd.is h x.1 x.2.1) (hn:(xs.map (·.1)).Nodup) (hkey:knd.is h k a) (hno:∀(j:Nat) (p:Addr×Value),xs[j]?≠some (k,p)):
  (h.update d (Obj.mapDictKeys fun l=>l.push ⟨knd.hash k,.ref a,v⟩)).DictOfH knd d (storedH xs k a v):=by
 have e:storedH xs k a v=xs++[(k,a,v)]:=storedH_new (atKey_none_of_get hno) a v
 have keep:∀{c:K}{b:Addr},knd.is h c b→knd.is (h.update d (Obj.mapDictKeys fun l=>l.push ⟨knd.hash k,.ref a,v⟩)) c b:=fun q=>knd.keeps q ho hd (Heap.SameBut.update ..)
 have dat:=Obj.data_mapDictKeys hd fun l=>l.push ⟨knd.hash k,.ref a,v⟩
 refine e▸⟨_,es.push ⟨knd.hash k,.ref a,v⟩,ep+1,Heap.get?_update_self _ ho (Obj.isFreed_of_dict dat),hc.mapDictKeys _,dat,?_,?_,?_⟩
 ·rw[Array.toList_push,he,List.map_append];rfl
 ·exact fun x hx=>(List.mem_append.mp hx).elim (fun q=>keep (his x q)) fun q=>by cases List.mem_singleton.mp q;exact keep hkey
 ·rw[List.map_append]
  refine List.nodup_append.mpr ⟨hn,by simp,fun x hx y hy q=>not_mem_keys_of_get hno ?_⟩
  have ey:y=k:=by simpa using hy
  rw[←ey,←q];exact hx
theorem setdef_heap {d a:Addr}{xs:List (K×Addr×Value)}{k:K}{v:Value}{Q:Vs}(hu:knd.room A) (hkey:knd.is s.heap k a) (hm:s.heap.DictOfH knd d xs) (hsz:xs.length≤sizeLine)
  (there:∀u,(atKey xs k).map (·.2)=some u→Q u { s with toks:=s.toks+knd.draws k })
  (new:(atKey xs k).map (·.2)=none→∀h',h'.DictOfH knd d (storedH xs k a v)→Heap.SameBut d s.heap h'→Q v { s with heap:=h',toks:=s.toks+knd.draws k }):
  wpAny (model prog w) A (dictSetDefault d (.ref a) v) Q E s:=by
 obtain⟨o,es,ep,ho,hc,hd,he,his,hn⟩:=hm
 have hes:es.size≤sizeLine:=by rw[size_of_entries he];exact hsz
 have none_of:∀hno:(∀(j:Nat) (p:Addr×Value),xs[j]?≠some (k,p)),(atKey xs k).map (·.2)=none:=fun hno=>by rw[atKey_none_of_get hno];rfl
 exact wpAny_holding (wpAny_bind (knd.pyHash hu hkey (wpAny_bind (wpAny_dictFind_heap (s:={ s with toks:=s.toks+knd.draws k }) hu hkey ho hd he his hn
  (fun hno=>wpAny_bind (wpAny_rule (wpAny_bind (wpAny_updateDictKeys (hz:=hes) (s:={ s with toks:=s.toks+knd.draws k }) ho hd (wpAny_pure (new (none_of hno) _ (grown ho hd hc he his hn hkey hno) (Heap.SameBut.update ..)))))))
  fun j p hj=>wpAny_bind (wpAny_dictEntries (s:={ s with toks:=s.toks+knd.draws k }) ho hd (by
   rw[entry_at he j,hj]
   exact wpAny_bind (wpAny_rule (wpAny_pure (there p.2 (by rw[atKey_of_get hn hj];rfl))))))))))
theorem meets_sd (knd:HeapKind prog w K) {d:Addr}(a:Addr) (hd:(d == sysModules)=false) (x:Value):
  MeetsIn prog w (Builtin.«dict.setdefault» ⟨[.ref d,.ref a,x],[]⟩) fun A R s=>knd.room A.in1∧∃k xs,knd.is s.heap k a∧s.heap.DictOfH knd d xs∧xs.length≤sizeLine∧
   (∀v,(atKey xs k).map (·.2)=some v→R (.ok (.ret v)) { s with toks:=s.toks+knd.draws k })∧
   ((atKey xs k).map (·.2)=none→∀h',h'.DictOfH knd d (storedH xs k a x)→Heap.SameBut d s.heap h'→R (.ok (.ret x)) { s with heap:=h',toks:=s.toks+knd.draws k }):=by
 refine .of_wp ?_
 rintro A R s ⟨hu,k,xs,hkey,hm,hz,there,new⟩
 have main:=setdef_heap (v:=x) (E:=fun e s'=>R (.error e) s') (Q:=fun v s'=>R (.ok (.ret v)) s') hu hkey hm hz there new
 refine wpAny_bind (wpAny_bind (wpAny_notOrdered_dict hm.typeIs (wpAny_pure ?_)))
 simp only[hd,Bool.false_eq_true,if_false]
 exact wpAny_bind (wpAny_mono main (fun v s' q=>wpAny_pure ⟨v,rfl,q⟩) fun _ _ q=>q)
end
section
variable {X:Cx}{pins:Lo}{σ:St}{H:Hp}{s:Shared}{a:Addr}{y d:V}{u r:Value}{o:Option V}{A:Around}{E:Vs}
theorem d_setdef {H':Hp}{Q:Vs}(hu:A.units+1<cLine) (I:Inv X pins σ H s) (g:DGet H a y o) (p:DPut H a y d H') (ry:RelV y u) (rd:RelV d r)
  (h1:∀v w' s',o=some v→Inv X pins σ H s'→RelV v w'→Q w' s') (h2:∀w' s',o=none→Inv X pins σ H' s'→RelV d w'→Q w' s'):
  wpAny (model X.prog X.w) A (call (.builtin "dict.setdefault") [.ref a,u,r]) Q E s:=by
 rcases p with ⟨kvs,k,e,ey,l,eH⟩ | ⟨kvs,k,b,e,ey,eb,l,eH⟩
 ·subst ey eH
  obtain⟨z,hd,vs,rel,dd⟩:=dk_of I.hok e
  have go:o=valV kvs k:=by
   rcases g with ⟨kvs',k',e',ey',l'⟩ | ⟨kvs',k',b,e',ey',eb',l'⟩
   ·have ek:k'=k:=by cases k<;>cases k'<;>simp_all [kV]
    rcases e' with e' | ⟨ob,e'⟩
    ·rw[e]at e';cases e';rw[l',ek]
    ·rw[e]at e';cases e'
   ·cases k<;>cases ey'
  have hz:vs.length≤sizeLine:=by rw[←rel.length];exact z
  have hl:(putK kvs k d).length≤sizeLine:=by have:=length_putK kvs k d;omega
  refine call_meetsIn PySem.F.slot_dict_setdefault dd.typeIs PySem.F.entry_dict_setdefault (PySem.F.args_dict_setdefault_3 _ _ _) (kt_meets_setdefault (mixKind X.prog X.w) a (kV_is ry) hd r) ⟨vs,dd,hz,fun v hv => ?_,fun hn h' dd' hs => ?_⟩
  ·have q:=rel.val k
   rw[hv]at q
   cases ho:valV kvs k with
   | none=>rw[ho]at q;exact q.elim
   | some v'=>rw[ho]at q;exact h1 v' v _ (by rw[go,ho]) (I.tok _) q
  ·have q:=rel.val k
   rw[hn]at q
   have ho:valV kvs k=none:=by
    cases ho:valV kvs k with
    | none=>rfl
    | some v'=>rw[ho]at q;exact q.elim
   have he:∃q,h'.get? a=some q:=let ⟨q,_,_,hq,_⟩:=dd';⟨q,hq⟩
   exact h2 r _ (by rw[go,ho]) (d_write I (by rw[e];exact True.intro) hs he (dk_new hl hd (rel.put k rd) dd')) rd
 ·subst ey eH
  cases (show u=Value.ref b from ry)
  obtain⟨z,hd,xs,rel,dd⟩:=dt_of I.hok e
  have go:o=valV kvs k:=by
   rcases g with ⟨kvs',k',e',ey',l'⟩ | ⟨kvs',k',b',e',ey',eb',l'⟩
   ·cases k'<;>cases ey'
   ·cases ey'
    have ek:k'=k:=by
     rw[eb]at eb'
     injection eb' with eb'
     injection eb' with eb'
     exact (List.map_inj_right (f:=kV) (by intro x y q;cases x<;>cases y<;>simp_all [kV])).mp eb'.symm
    rcases e' with e' | ⟨ob,e'⟩
    ·rw[e]at e';cases e';rw[l',ek]
    ·rw[e]at e';cases e'
  have hz:xs.length≤sizeLine:=by rw[←Paired.length rel];exact z
  have hl:(putK kvs k d).length≤sizeLine:=by have:=length_putK kvs k d;omega
  refine call_meetsIn PySem.F.slot_dict_setdefault dd.typeIs PySem.F.entry_dict_setdefault (PySem.F.args_dict_setdefault_3 _ _ _) (meets_sd (tupleKind (mixKind X.prog X.w)) b hd r) ⟨tupleKind_room_in1 hu,k,xs,key_of I.hok eb,dd,hz,fun v hv => ?_,fun hn h' dd' hs => ?_⟩
  ·have q:=rel.val k
   rw[hv]at q
   cases ho:valV kvs k with
   | none=>rw[ho]at q;exact q.elim
   | some v'=>rw[ho]at q;exact h1 v' v _ (by rw[go,ho]) (I.tok _) q
  ·have q:=rel.val k
   rw[hn]at q
   have ho:valV kvs k=none:=by
    cases ho:valV kvs k with
    | none=>rfl
    | some v'=>rw[ho]at q;exact q.elim
   obtain⟨qo,es,ep,hq,g2,g3,g4,_,g5⟩:=dd'
   refine h2 r _ (by rw[go,ho]) (d_write I (by rw[e];exact True.intro) hs ⟨qo,hq⟩ ⟨hl,hd,_,(rel.put k eb rd).keeps fun c ys ec => ?_,qo,es,ep,hq,g2,g3,g4,g5⟩) rd
   rw[upd_ne (ne_of ec e (fun z=>nomatch z))]
   exact ec
end
def tDSd (td ty tx:TE):TE:=fun σ H Q=>td σ H fun x H1=>∃a,x=.ref a∧IsD H1 a∧ty σ H1 fun y H2=>tx σ H2 fun z H3=>∃o H4,DGet H3 a y o∧DPut H3 a y z H4∧(∀v,o=some v→Q v H3)∧(o=none→Q z H4)
section
variable {X:Cx}{o e f:Expr}{apos cpos:Pos}{td ty tx:TE}
theorem pe_dsd (hu:X.A.units+1<cLine) (ho:PE X o td) (he:PE X e ty) (hf:PE X f tx) (m:M2 X o "setdefault" apos e f cpos):PE X (.Call (.Attribute o "setdefault" apos) [e,f] [] cpos) (tDSd td ty tx):=by
 intro pins s σ H Q I h
 refine wpAny_Call_method m.base m.few m.line PySem.F.plainAttrs_dict PySem.F.slot_dict_setdefault PySem.F.type_dict_setdefault (thn (ho pins s σ H _ I h) fun u s1 ⟨x,H1,I1,rx,a,ex,d,q1⟩ => ?_)
 subst ex
 obtain rfl:u=Value.ref a:=rx
 obtain⟨t1,t2,_⟩:=isD_at I1 d
 refine⟨t1,t2,?_⟩
 rw[m.trees]
 refine Calls.callWith_builtin rfl (Calls.evalArgs_plain (Calls.spliced_cons (thn (he pins s1 σ H1 _ I1 q1) fun iv s2 ⟨y,H2,I2,ry,q2⟩=>
  Calls.spliced_cons (thn (hf pins s2 σ H2 _ I2 q2) fun fv s3 ⟨z,H3,I3,rz,ov,H4,g,p,q3,q4⟩=>Calls.spliced_nil ?_))))
 exact d_setdef hu I3 g p ry rz (fun v w' s4 e4 I4 rw'=>⟨v,H3,I4,rw',q3 v e4⟩) (fun w' s4 e4 I4 rw'=>⟨z,H4,I4,rw',q4 e4⟩)
end
end L2
namespace L2
open PySem PySem.Spec PyProof.Rows
section
variable {prog:Program}{w:World}{A:Around}{E:Vs}{s:Shared}{kd:SortKind}{r:Keyed→Nat}{base:Array Keyed}
noncomputable def rk (r:Keyed→Nat) (xs:Array Keyed) (i:Nat):Nat:=(xs[i]?.map r).getD 0
def Rise (r:Keyed→Nat) (xs:Array Keyed) (n:Nat):Prop:=∀i j,i≤j→j<n→rk r xs i≤rk r xs j
def Fall (r:Keyed→Nat) (xs:Array Keyed) (n:Nat):Prop:=∀i j,i≤j→j<n→rk r xs j≤rk r xs i
def Flat (r:Keyed→Nat) (xs:Array Keyed) (n q:Nat):Prop:=q+1≤n∧∀i,n≤i+(q+1)→i<n→rk r xs i=rk r xs (n - 1)
theorem Rise.one (xs:Array Keyed):Rise r xs 1:=fun i j a b=>by rw[show i=j by omega];exact Nat.le_refl _
theorem Fall.one (xs:Array Keyed):Fall r xs 1:=fun i j a b=>by rw[show i=j by omega];exact Nat.le_refl _
theorem Rise.more {xs:Array Keyed}{n:Nat}(h:Rise r xs n) (h1:1≤n) (hn:rk r xs (n - 1)≤rk r xs n):Rise r xs (n+1):=fun i j a b=>by
 by_cases z:j<n
 ·exact h i j a z
 ·rw[show j=n by omega]
  by_cases y:i=n
  ·rw[y];exact Nat.le_refl _
  ·exact Nat.le_trans (h i (n - 1) (by omega) (by omega)) hn
theorem Fall.more {xs:Array Keyed}{n:Nat}(h:Fall r xs n) (h1:1≤n) (hn:rk r xs n≤rk r xs (n - 1)):Fall r xs (n+1):=fun i j a b=>by
 by_cases z:j<n
 ·exact h i j a z
 ·rw[show j=n by omega]
  by_cases y:i=n
  ·rw[y];exact Nat.le_refl _
  ·exact Nat.le_trans hn (h i (n - 1) (by omega) (by omega))
theorem rk_turn {xs:Array Keyed}{i j:Nat}(hj:j≤xs.size) (k:Nat):rk r (mirror xs i j ((j - i) / 2)) k=if i≤k∧k<j then rk r xs (i+j - 1 - k) else rk r xs k:=by
 unfold rk
 rw[getElem?_mirror_all hj k]
 by_cases z:i≤k∧k<j
 ·rw[if_pos z,if_pos z]
 ·rw[if_neg z,if_neg z]
theorem rk_flat {xs:Array Keyed}{n q:Nat}(h:Flat r xs n q) (hn:n≤xs.size) (k:Nat):rk r (mirror xs (n - (q+1)) n ((n - (n - (q+1))) / 2)) k=rk r xs k:=by
 rw[rk_turn hn]
 by_cases z:n - (q+1)≤k∧k<n
 ·rw[if_pos z,h.2 _ (by omega) (by omega),h.2 k (by omega) (by omega)]
 ·rw[if_neg z]
theorem Fall.turned {xs:Array Keyed}{n:Nat}(h:Fall r xs n) (hn:n≤xs.size):Rise r (mirror xs 0 n ((n - 0) / 2)) n:=fun i j a b=>by
 rw[rk_turn hn,rk_turn hn,if_pos (by omega),if_pos (by omega)]
 exact h _ _ (by omega) (by omega)
set_option genInjectivity false in
structure Srt (kd:SortKind) (base:Array Keyed) (st:SortSt):Prop where
 pm:(arrOf st).Perm base
 kd:kindOf st=kd
 ok:failedOf st=none
 pn:pendingOf st=#[]
theorem Srt.len {st:SortSt}(h:Srt kd base st):(arrOf st).size=base.size:=h.pm.size_eq
theorem Srt.put {st:SortSt}(h:Srt kd base st) {xs:Array Keyed}(p:xs.Perm (arrOf st)):Srt kd base (setArr st xs):=⟨p.trans h.pm,h.kd,h.ok,h.pn⟩
def Asks (prog:Program) (w:World) (A:Around) (E:Vs) (s:Shared) (kd:SortKind) (r:Keyed→Nat) (base:Array Keyed):Prop:=
 ∀x∈base.toList,∀y∈base.toList,∀Q:Bool→Shared→Prop,Q (decide (r x<r y)) s→wpAny (model prog w) A (keyLt' kd x.1 y.1) Q (fun _ _=>False) s
theorem asked {st:SortSt}{i j:Nat}{Q:Option Bool→SortSt→Prop}(ask:Asks prog w A E s kd r base) (S:Srt kd base st) (hi:i<base.size) (hj:j<base.size)
  (q:Q (some (decide (rk r (arrOf st) i<rk r (arrOf st) j))) st):wpS (model prog w) A E s (ltAt' i j) Q st:=by
 have li:i<(arrOf st).size:=by rw[S.len];exact hi
 have lj:j<(arrOf st).size:=by rw[S.len];exact hj
 have ei:(arrOf st)[i]?=some (arrOf st)[i]:=getElem?_pos _ i li
 have ej:(arrOf st)[j]?=some (arrOf st)[j]:=getElem?_pos _ j lj
 have mem:∀{k:Nat}(h:k<(arrOf st).size),(arrOf st)[k]∈base.toList:=fun {k} h=>(Array.perm_iff_toList_perm.mp S.pm).mem_iff.mp (Array.getElem_mem_toList h)
 unfold rk at q
 rw[ei,ej]at q
 rw[ltAt'_eq]
 refine wpS_bind (wpS_get ?_)
 dsimp only
 rw[elem'_eq,elem'_eq,ei,ej]
 refine wpS_bind (wpS_pure (wpS_bind (wpS_pure ?_)))
 rw[lt'_eq]
 refine wpS_bind (wpS_get (wpS_bind (wpS_lift (wpAny_attempt ?_))))
 rw[S.kd]
 exact wpAny_mono (ask _ (mem li) _ (mem lj) (fun b s'=>b=decide (r (arrOf st)[i]<r (arrOf st)[j])∧s'=s) ⟨rfl,rfl⟩) (fun b s' ⟨e1,e2⟩=>⟨e2,by subst e1;exact wpS_pure q⟩) fun _ _ z=>z.elim
theorem asc_loop {st:SortSt}{a n:Nat}{Q:AscSt→SortSt→Prop}(ask:Asks prog w A E s kd r base) (S:Srt kd base st) (ha:1≤a) (han:a≤n) (hn:n≤base.size) (up:Rise r (arrOf st) a)
  (k:∀m,a≤m→m≤n→Rise r (arrOf st) m→(m=n∨rk r (arrOf st) m<rk r (arrOf st) (m - 1))→Q (none,m) st):wpS (model prog w) A E s (ascLoop a n) Q st:=by
 refine wpS_forRange (I:=fun m c st'=>st'=st∧c=(none,m)∧Rise r (arrOf st) m) (fun m c st' am mn ⟨e1,e2,up'⟩ => ?_) (fun c st' ⟨e1,e2,up'⟩ => ?_) ⟨rfl,rfl,up⟩
 ·subst e1 e2
  refine wpS_bind (asked ask S (by omega) (by show m - 1<_;omega) ?_)
  by_cases lt:rk r (arrOf st') m<rk r (arrOf st') (m - 1)
  ·simp only[decide_eq_true lt,if_true]
   exact wpS_pure (k m am (by omega) up' (.inr lt))
  ·simp only[decide_eq_false lt,Bool.false_eq_true,if_false]
   exact wpS_pure ⟨rfl,rfl,up'.more (by omega) (by omega)⟩
 ·subst e1 e2
  have e:max a n=n:=by omega
  rw[e]at up' ⊢
  exact k n han (Nat.le_refl _) up' (.inl rfl)
theorem fall_tail {st:SortSt}{m n:Nat}{Q:Option Nat→SortSt→Prop}(ask:Asks prog w A E s kd r base) (S:Srt kd base st) (h1:1≤m) (hm:m≤n) (hn:n≤base.size) (dn:Fall r (arrOf st) m)
  (k:∀j st',Srt kd base st'→1≤j→j≤n→Rise r (arrOf st') j→Q (some j) st'):wpS (model prog w) A E s (tail3 m n) Q st:=by
 have up:=dn.turned (by rw[S.len];omega)
 have S':=S.put (mirror_perm (arrOf st) 0 m ((m - 0) / 2))
 exact wpS_bind (wpS_reverse (wpS_bind (asc_loop ask S' h1 hm hn up fun j mj jn up' _=>wpS_pure (k j _ S' (by omega) jn up'))))
theorem desc_loop {st:SortSt}{a n:Nat}{Q:DescSt→SortSt→Prop}(ask:Asks prog w A E s kd r base) (S:Srt kd base st) (ha:1≤a) (han:a≤n) (hn:n≤base.size) (dn:Fall r (arrOf st) a)
  (k:∀m q st',Srt kd base st'→a≤m→m≤n→Fall r (arrOf st') m→Flat r (arrOf st') m q→Q (none,m,q) st'):wpS (model prog w) A E s (descLoop a n) Q st:=by
 refine wpS_forRange (I:=fun m c st'=>Srt kd base st'∧∃q,c=(none,m,q)∧Fall r (arrOf st') m∧Flat r (arrOf st') m q) (fun m c st' am mn ⟨S',q,e,dn',fl⟩ => ?_) (fun c st' ⟨S',q,e,dn',fl⟩ => ?_)
  ⟨S,0,rfl,dn,ha,fun i p1 p2=>by rw[show i=a - 1 by omega]⟩
 ·subst e
  have sz:m<(arrOf st').size:=by rw[S'.len];omega
  have one:∀xs:Array Keyed,Flat r xs (m+1) 0:=fun xs=>⟨by omega,fun i a b=>by rw[show i=m by omega];rfl⟩
  refine wpS_bind (asked ask S' (by show m<_;omega) (by show m - 1<_;omega) ?_)
  by_cases lt:rk r (arrOf st') m<rk r (arrOf st') (m - 1)
  ·simp only[decide_eq_true lt,if_true]
   by_cases q0:q>0
   ·rw[if_pos q0]
    have same:=rk_flat fl (Nat.le_of_lt sz)
    refine wpS_bind (wpS_reverse (wpS_pure ⟨S'.put (mirror_perm ..),0,rfl,Fall.more (fun i j a b => ?_) (by omega) ?_,one _⟩))
    ·show rk r (mirror _ _ _ _) j≤rk r (mirror _ _ _ _) i
     rw[same,same];exact dn' i j a b
    ·show rk r (mirror _ _ _ _) m≤rk r (mirror _ _ _ _) (m - 1)
     rw[same,same];exact Nat.le_of_lt lt
   ·rw[if_neg q0]
    exact wpS_pure ⟨S',0,rfl,dn'.more (by omega) (Nat.le_of_lt lt),one _⟩
  ·simp only[decide_eq_false lt,Bool.false_eq_true,if_false]
   refine wpS_bind (asked ask S' (by show m - 1<_;omega) (by show m<_;omega) ?_)
   by_cases gt:rk r (arrOf st') (m - 1)<rk r (arrOf st') m
   ·simp only[decide_eq_true gt,if_true]
    exact wpS_pure (k m q st' S' am (by omega) dn' fl)
   ·simp only[decide_eq_false gt,Bool.false_eq_true,if_false]
    refine wpS_pure ⟨S',q+1,rfl,dn'.more (by omega) (by omega),by have:=fl.1;omega,fun i a b => ?_⟩
    show _=rk r (arrOf st') m
    by_cases z:i=m
    ·rw[z]
    ·have:=fl.2 i (by omega) (by omega);omega
 ·subst e
  have e:max a n=n:=by omega
  rw[e]at dn' fl ⊢
  exact k n q st' S' han (Nat.le_refl _) dn' fl
theorem desc_part {st:SortSt}{m n:Nat}{Q:Option Nat→SortSt→Prop}(ask:Asks prog w A E s kd r base) (S:Srt kd base st) (hm:m+1≤n) (hn:n≤base.size) (dn:Fall r (arrOf st) (m+1))
  (k:∀j st',Srt kd base st'→1≤j→j≤n→Rise r (arrOf st') j→Q (some j) st'):wpS (model prog w) A E s (descPart m n) Q st:=by
 refine wpS_bind (wpS_lift (wpAny_rule ⟨rfl,wpS_bind (desc_loop ask S (by omega) hm hn dn fun j q st' S' mj jn dn' fl => ?_)⟩))
 by_cases q0:q>0
 ·have same:=rk_flat fl (by rw[S'.len];omega)
  simp only[q0,if_true]
  exact wpS_bind (wpS_reverse (fall_tail ask (S'.put (mirror_perm ..)) (by omega) jn hn (fun i l a b=>by show rk r (mirror _ _ _ _) l≤rk r (mirror _ _ _ _) i;rw[same,same];exact dn' i l a b) k))
 ·simp only[q0,if_false]
  exact fall_tail ask S' (by omega) jn hn dn' k
theorem first_run {st:SortSt}{n:Nat}{Q:Option Nat→SortSt→Prop}(ask:Asks prog w A E s kd r base) (S:Srt kd base st) (h1:1≤n) (hn:n≤base.size)
  (k:∀j st',Srt kd base st'→1≤j→j≤n→Rise r (arrOf st') j→Q (some j) st'):wpS (model prog w) A E s (countRun' 0 n) Q st:=by
 rw[countRun0_eq]
 refine wpS_bind (asc_loop ask S (Nat.le_refl 1) h1 hn (Rise.one _) fun m m1 mn up why => ?_)
 by_cases z:m=n
 ·simp only[beq_iff_eq,z,if_true]
  exact wpS_pure (k n st S h1 (Nat.le_refl _) (z▸up))
 ·have lt:=why.resolve_left z
  simp only[beq_iff_eq,z,if_false]
  by_cases m2:m>1
  ·rw[if_pos m2]
   refine wpS_bind (asked ask S (by omega) (by show m - 1<_;omega) ?_)
   by_cases rose:rk r (arrOf st) 0<rk r (arrOf st) (m - 1)
   ·simp only[decide_eq_true rose,if_true]
    exact wpS_pure (k m st S m1 mn up)
   ·simp only[decide_eq_false rose,Bool.false_eq_true,if_false]
    have eq:∀i,i<m→rk r (arrOf st) i=rk r (arrOf st) (m - 1):=fun i hi=>by
     have a:=up 0 i (by omega) hi
     have b:=up i (m - 1) (by omega) (by omega)
     omega
    have sz:m≤(arrOf st).size:=by rw[S.len];omega
    have same:∀i,rk r (mirror (arrOf st) 0 m ((m - 0) / 2)) i=rk r (arrOf st) i:=fun i=>by
     rw[rk_turn sz]
     by_cases y:0≤i∧i<m
     ·rw[if_pos y,eq _ (by omega),eq i y.2]
     ·rw[if_neg y]
    refine wpS_bind (wpS_reverse (desc_part ask (S.put (mirror_perm ..)) (by omega) hn (fun i j a b => ?_) k))
    show rk r (mirror (arrOf st) 0 m ((m - 0) / 2)) j≤rk r (mirror (arrOf st) 0 m ((m - 0) / 2)) i
    rw[same,same]
    by_cases jm:j=m
    ·by_cases im:i=m
     ·rw[jm,im];exact Nat.le_refl _
     ·have:=eq i (by omega);rw[jm];omega
    ·have a1:=eq i (by omega);have a2:=eq j (by omega);omega
  ·rw[if_neg m2]
   have e:m=1:=by omega
   subst e
   exact desc_part ask S (by omega) hn ((Fall.one _).more (Nat.le_refl _) (Nat.le_of_lt lt)) k
theorem rk_moved {xs:Array Keyed}{k l:Nat}(hk:k<xs.size) (hl:l≤k) (i:Nat):rk r (bubble xs k (k - l)) i=if i=l then rk r xs k else if l<i∧i≤k then rk r xs (i - 1) else rk r xs i:=by
 have e:=getElem?_bubble hk (k - l) (by omega) i
 rw[show k - (k - l)=l by omega]at e
 unfold rk
 rw[e]
 by_cases a:i=l
 ·rw[if_pos a,if_pos a]
 ·rw[if_neg a,if_neg a]
  by_cases b:l<i∧i≤k
  ·rw[if_pos b,if_pos b]
  ·rw[if_neg b,if_neg b]
theorem put_in {st:SortSt}{n ok:Nat}{Q:Bool→SortSt→Prop}(ask:Asks prog w A E s kd r base) (S:Srt kd base st) (h1:1≤ok) (hok:ok≤n) (hn:n≤base.size) (up:Rise r (arrOf st) ok)
  (q:∀st',Srt kd base st'→Rise r (arrOf st') n→Q true st'):wpS (model prog w) A E s (binarySort' 0 n ok) Q st:=by
 rw[binarySort'_eq]
 simp only[Nat.zero_add]
 have e1:max ok 1=ok:=by omega
 rw[e1]
 refine wpS_bind (wpS_mono (wpS_forRange (I:=fun k c st'=>c=(none,())∧Srt kd base st'∧Rise r (arrOf st') k) (Q:=fun c st'=>c=(none,())∧Srt kd base st'∧Rise r (arrOf st') n) (fun k c st' ak kn ⟨e,S',up'⟩ => ?step) (fun c st' ⟨e,S',up'⟩ => ?fin) ⟨rfl,S,up⟩) ?post)
 case step=>
  subst e
  have hk:k<(arrOf st').size:=by rw[S'.len];omega
  refine wpS_bind (wpS_mono (wpS_forRange (I:=fun x c st2=>st2=st'∧∃l u,c=(none,l,u)∧l≤u∧u≤k∧u - l+x≤k∧(∀i,i<l→rk r (arrOf st') i≤rk r (arrOf st') k)∧∀i,u≤i→i<k→rk r (arrOf st') k<rk r (arrOf st') i)
   (Q:=fun c st2=>st2=st'∧∃l u,c=(none,l,u)∧l≤k∧(∀i,i<l→rk r (arrOf st') i≤rk r (arrOf st') k)∧∀i,l≤i→i<k→rk r (arrOf st') k<rk r (arrOf st') i)
   (fun x c st2 _ xk ⟨e,l,u,ec,lu,uk,small,lo,hi⟩ => ?look) (fun c st2 ⟨e,l,u,ec,lu,uk,small,lo,hi⟩=>⟨e,l,u,ec,by omega,lo,fun i a b=>hi i (by omega) b⟩) ⟨rfl,0,k,rfl,by omega,by omega,by omega,fun i a=>by omega,fun i a b=>by omega⟩) ?move)
  case look=>
   subst e ec
   dsimp only
   by_cases z:l≥u
   ·rw[if_pos z]
    exact wpS_pure ⟨rfl,l,u,rfl,by omega,lo,fun i a b=>hi i (by omega) b⟩
   ·rw[if_neg z]
    refine wpS_bind (asked ask S' (by omega) (by omega) ?_)
    by_cases lt:rk r (arrOf st2) k<rk r (arrOf st2) ((l+u) / 2)
    ·simp only[decide_eq_true lt,if_true]
     exact wpS_pure ⟨rfl,l,(l+u) / 2,rfl,by omega,by omega,by omega,lo,fun i a b=>Nat.lt_of_lt_of_le lt (up' _ _ a b)⟩
    ·simp only[decide_eq_false lt,Bool.false_eq_true,if_false]
     exact wpS_pure ⟨rfl,(l+u) / 2+1,u,rfl,by omega,by omega,by omega,fun i a=>Nat.le_trans (up' i ((l+u) / 2) (by omega) (by omega)) (by omega),hi⟩
  case move=>
   rintro c st2 ⟨rfl,l,u,rfl,lk,lo,hi⟩
   dsimp only
   rw[moveDown'_eq]
   refine wpS_bind (wpS_modify (wpS_pure ⟨rfl,S'.put (bubble_perm ..),fun i j a b => ?_⟩))
   show rk r (bubble (arrOf st2) k (k - l)) i≤rk r (bubble (arrOf st2) k (k - l)) j
   rw[rk_moved hk lk,rk_moved hk lk]
   have U:=fun x y (p:x≤y) (q:y<k)=>up' x y p q
   by_cases c1:i=l
   ·rw[if_pos c1]
    by_cases c2:j=l
    ·rw[if_pos c2];exact Nat.le_refl _
    ·rw[if_neg c2,if_pos (by omega)];exact Nat.le_of_lt (hi _ (by omega) (by omega))
   ·rw[if_neg c1]
    by_cases c3:l<i∧i≤k
    ·rw[if_pos c3,if_neg (by omega),if_pos (by omega)];exact U _ _ (by omega) (by omega)
    ·rw[if_neg c3]
     by_cases c2:j=l
     ·rw[if_pos c2];exact lo i (by omega)
     ·rw[if_neg c2]
      by_cases c4:l<j∧j≤k
      ·rw[if_pos c4];exact U _ _ (by omega) (by omega)
      ·rw[if_neg c4];exact U _ _ (by omega) (by omega)
 case fin=>
  have e2:max ok n=n:=by omega
  rw[e2]at up'
  exact⟨e,S',up'⟩
 case post=>
  rintro c st' ⟨rfl,S',up'⟩
  exact wpS_pure (q st' S' up')
theorem by_ranks {st:SortSt}{Q:Unit→SortSt→Prop}(ask:Asks prog w A E s kd r base) (S:Srt kd base st) (h2:2≤base.size) (h64:base.size<64)
  (k:∀st',(arrOf st').Perm base→failedOf st'=none→Rise r (arrOf st') base.size→Q () st'):wpS (model prog w) A E s sortRuns' Q st:=by
 have run:minRun' base.size base.size 0=base.size:=by
  generalize base.size=n at h2 h64
  cases n with
  | zero=>omega
  | succ f=>rw[minRun'_succ,if_pos h64]
 rw[sortRuns'_eq]
 refine wpS_bind (wpS_get ?_)
 simp only[S.len,run]
 refine wpS_bind (wpS_mono (wpS_forRange (I:=fun x c st'=>if x=0 then c=(none,0)∧Srt kd base st' else c=(none,base.size)∧(arrOf st').Perm base∧failedOf st'=none∧(pendingOf st').size=1∧Rise r (arrOf st') base.size)
  (Q:=fun c st'=>c=(none,base.size)∧(arrOf st').Perm base∧failedOf st'=none∧(pendingOf st').size=1∧Rise r (arrOf st') base.size) (fun x c st' _ xn h => ?turn) (fun c st' h => ?end_) ?start) ?rest)
 case start=>rw[if_pos rfl];exact⟨rfl,S⟩
 case end_=>rwa [if_neg (by omega)]at h
 case turn=>
  by_cases x0:x=0
  ·rw[if_pos x0]at h
   obtain⟨rfl,S'⟩:=h
   have pend:∀{st2:SortSt},Srt kd base st2→Rise r (arrOf st2) base.size→(arrOf (setPending st2 ((pendingOf st2).push (0,base.size,0)))).Perm base∧failedOf (setPending st2 ((pendingOf st2).push (0,base.size,0)))=none∧(pendingOf (setPending st2 ((pendingOf st2).push (0,base.size,0)))).size=1∧Rise r (arrOf (setPending st2 ((pendingOf st2).push (0,base.size,0)))) base.size:=fun {st2} S2 up=>by
    refine⟨S2.pm,S2.ok,?_,up⟩
    show ((pendingOf st2).push (0,base.size,0)).size=1
    rw[S2.pn];rfl
   dsimp only
   rw[if_neg (by omega)]
   simp only[Nat.sub_zero,Nat.min_self,Nat.zero_add]
   refine wpS_bind (first_run ask S' (by omega) (Nat.le_refl _) fun m st2 S2 m1 mn up => ?_)
   have last:∀{st3:SortSt},Srt kd base st3→(pendingOf st3).back?=none:=fun {st3} S3=>by rw[S3.pn];rfl
   dsimp only
   by_cases lt:m<base.size
   ·rw[if_pos lt]
    refine wpS_bind (wpS_lift (wpAny_rule ⟨rfl,wpS_bind (put_in ask S2 m1 mn (Nat.le_refl _) up fun st3 S3 up3 => ?_)⟩))
    simp only[Bool.not_true,Bool.false_eq_true,if_false]
    refine wpS_bind (wpS_get ?_)
    rw[last S3]
    refine wpS_bind (wpS_modify (wpS_pure ?_))
    dsimp only
    rw[if_neg (by omega)]
    exact⟨rfl,pend S3 up3⟩
   ·rw[if_neg lt]
    have e:m=base.size:=by omega
    subst e
    refine wpS_bind (wpS_get ?_)
    rw[last S2]
    refine wpS_bind (wpS_modify (wpS_pure ?_))
    dsimp only
    rw[if_neg (by omega)]
    exact⟨rfl,pend S2 up⟩
  ·rw[if_neg x0]at h
   obtain⟨rfl,h⟩:=h
   dsimp only
   rw[if_pos (Nat.le_refl _)]
   exact wpS_pure ⟨rfl,h⟩
 case rest=>
  rintro c st' ⟨rfl,p1,p2,p3,p4⟩
  refine wpS_bind (wpS_mono (wpS_forRange (I:=fun _ c st2=>c=(none,())∧st2=st') (Q:=fun c st2=>c=(none,())∧st2=st') (fun x c st2 _ _ ⟨e1,e2⟩ => ?stay) (fun _ _ h=>h) ⟨rfl,rfl⟩) ?done)
  case stay=>
   subst e1 e2
   refine wpS_bind (wpS_get ?_)
   rw[if_pos (Nat.le_of_eq p3)]
   exact wpS_pure ⟨rfl,rfl⟩
  case done=>
   rintro c st2 ⟨rfl,rfl⟩
   exact wpS_pure (k st2 p1 p2 p4)
end
end L2
namespace L2
open PySem PySem.Spec PyProof.Rows
noncomputable abbrev PairD:=Str×Int
noncomputable def ltP (a b:PairD):Bool:=if a.1=b.1 then decide (a.2<b.2) else decide (a.1.cps.toList<b.1.cps.toList)
def leP (a b:PairD):Prop:=ltP b a=false
theorem cps_inj {a b:Str}(h:a.cps.toList=b.cps.toList):a=b:=by
 cases a;cases b;congr 1;exact Array.toList_inj.mp h
theorem ltP_irr (a:PairD):ltP a a=false:=by unfold ltP;rw[if_pos rfl];simp
theorem ltP_cases (a b:PairD):ltP a b=true↔a.1.cps.toList<b.1.cps.toList∨(a.1=b.1∧a.2<b.2):=by
 unfold ltP
 by_cases h:a.1=b.1
 ·rw[if_pos h,decide_eq_true_eq]
  exact⟨fun q=>.inr ⟨h,q⟩,fun q=>q.elim (fun z=>absurd z (by rw[h];exact List.lt_irrefl _)) (·.2)⟩
 ·rw[if_neg h,decide_eq_true_eq]
  exact⟨.inl,fun q=>q.elim id fun z=>absurd z.1 h⟩
theorem ltP_trans {a b c:PairD}(h1:ltP a b=true) (h2:ltP b c=true):ltP a c=true:=by
 rw[ltP_cases]at *
 rcases h1 with h1 | ⟨e1,h1⟩<;>rcases h2 with h2 | ⟨e2,h2⟩
 ·exact .inl (List.lt_trans h1 h2)
 ·exact .inl (by rw[←e2];exact h1)
 ·exact .inl (by rw[e1];exact h2)
 ·exact .inr ⟨e1.trans e2,by omega⟩
theorem ltP_total {a b:PairD}(h1:ltP a b=false) (h2:ltP b a=false):a=b:=by
 have n1:¬(a.1.cps.toList<b.1.cps.toList∨(a.1=b.1∧a.2<b.2)):=fun q=>by rw[(ltP_cases a b).mpr q]at h1;cases h1
 have n2:¬(b.1.cps.toList<a.1.cps.toList∨(b.1=a.1∧b.2<a.2)):=fun q=>by rw[(ltP_cases b a).mpr q]at h2;cases h2
 have e:a.1=b.1:=cps_inj (List.le_antisymm (List.not_lt.mp fun q=>n2 (.inl q)) (List.not_lt.mp fun q=>n1 (.inl q)))
 have e2:a.2=b.2:=by
  have m1:¬a.2<b.2:=fun q=>n1 (.inr ⟨e,q⟩)
  have m2:¬b.2<a.2:=fun q=>n2 (.inr ⟨e.symm,q⟩)
  omega
 exact Prod.ext e e2
theorem leP_trans {a b c:PairD}(h1:leP a b) (h2:leP b c):leP a c:=by
 unfold leP at *
 cases h:ltP c a with
 | false=>rfl
 | true=>
  exfalso
  cases hb:ltP b a with
  | true=>rw[hb]at h1;cases h1
  | false=>
   cases ha:ltP a b with
   | true=>rw[ltP_trans h ha]at h2;cases h2
   | false=>rw[ltP_total ha hb]at h;rw[h]at h2;cases h2
noncomputable def rankP (ds:List PairD) (d:PairD):Nat:=ds.countP fun e=>ltP e d
theorem countP_lt {α:Type}{p q:α→Bool}:∀{l:List α},(∀x∈l,p x=true→q x=true)→(∃x∈l,q x=true∧p x=false)→l.countP p<l.countP q
 | [],_,⟨x,hx,_⟩=>nomatch hx
 | y::l,h,⟨x,hx,h1,h2⟩=>by
  have le:l.countP p≤l.countP q:=List.countP_mono_left fun z hz hp=>h z (.tail _ hz) hp
  rw[List.countP_cons,List.countP_cons]
  rcases List.mem_cons.mp hx with rfl | hx
  ·rw[if_pos h1,if_neg (by rw[h2];simp)];omega
  ·have:=countP_lt (fun z hz=>h z (.tail _ hz)) ⟨x,hx,h1,h2⟩
   by_cases z:p y=true
   ·rw[if_pos z,if_pos (h y (.head _) z)];omega
   ·rw[if_neg z];split<;>omega
theorem rankP_lt {ds:List PairD}{a b:PairD}(ha:a∈ds):decide (rankP ds a<rankP ds b)=ltP a b:=by
 cases h:ltP a b with
 | true=>exact decide_eq_true (countP_lt (fun x _ q=>ltP_trans q h) ⟨a,ha,h,ltP_irr a⟩)
 | false=>
  refine decide_eq_false (Nat.not_lt.mpr (List.countP_mono_left fun x _ q => ?_))
  have le:leP x a:=leP_trans (a:=x) (b:=b) (c:=a) (by
   unfold leP
   cases z:ltP b x with
   | false=>rfl
   | true=>have:=ltP_trans q z;rw[ltP_irr]at this;cases this) h
  cases z:ltP x a with
  | true=>rfl
  | false=>
   have e:x=a:=ltP_total z le
   rw[e]at q;rw[q]at h;cases h
section
variable {prog:Program}{w:World}{A:Around}{E:Vs}{s:Shared}
end
end L2
namespace L2
open PySem PySem.Spec PyProof.Rows
section
variable {prog:Program}{w:World}{A:Around}{E:Vs}{s:Shared}
noncomputable def adr:Value→Addr
 | .ref b=>b
 | _=>0
noncomputable def twice (bs:List Addr):List Keyed:=bs.map fun b=>(Value.ref b,Value.ref b)
end
section
variable {X:Cx}
theorem vals_refs:∀{as:List Addr},Vals (as.map V.ref) (as.map Value.ref)
 | []=>.nil
 | _::_=>.cons rfl vals_refs
end
end L2
namespace L2
open PySem PySem.Spec PyProof.Rows
section
variable {X:Cx}
end
end L2
namespace L2
open PySem PySem.Spec PyProof.Rows
section
variable {prog:Program}{w:World}{A:Around}{E:Vs}{s:Shared}
end
section
variable {X:Cx}{e:Expr}{te:TE}{p1 p2 pos1 pos2:Pos}
def tLRev (K:Wf) (te:TE):TE:=fun σ H Q=>te σ H fun x H1=>∃p ys,x=.ref p∧SqL K H1 p ys∧ys.length<sizeLine∧∀l,H1 l=none→Q (.ref l) (upd H1 l (.lst ys.reverse))
end
end L2
namespace L2
open PySem PySem.Spec PyProof.Rows
section
variable {prog:Program}{w:World}{A:Around}{R:Result→Shared→Prop}{I S:Addr}{fp wr:List Addr}{n:Nat}{P:Nat→Value→Prop}{St:Nat→Heap→Prop}{d:Value}{f:Nat→Int}
end
section
variable {prog:Program}{w:World}{A:Around}{E:Vs}{s:Shared}
end
section
variable {X:Cx}{e:Expr}{te:TE}{p pos cp kp:Pos}{n:Int}{j:Nat}
end
end L2
namespace L2
open PySem PySem.Spec PyProof.Rows
section
variable {X:Cx}{a b c d:Expr}{ta tb tc td:TE}{pos:Pos}
end
end L2
namespace L2
open PySem PySem.Spec PyProof.Rows
section
open PySem.SeqAt
open PySem.AutoSeq1 (wpAny_loadPart')
open PySem.MeetsSeq PySem.MeetsSeq2 PySem.MeetsSeq3
end
end L2
namespace L2
open PySem PySem.Spec PyProof.Rows
def SameX (P:Addr) (H H':Hp):Prop:=∀b o,b≠P→H b=some o→H' b=some o
noncomputable def CRec (c:Addr) (q:Str):HO:=.ext fun h=>h.CodeRec (.ref c) q
noncomputable def ObjO (f:Addr) (o:Obj):HO:=.ext fun h=>h.get? f=some o
def TbOk (P:Addr) (pos:Pos) (q:Str) (H:Hp):Prop:=∃ps:Array Value,H P=some (.tbl ps)∧TriplesOk ps.toList∧(codeAmong pos ps.toList=none∨∃c,codeAmong pos ps.toList=some (.ref c)∧H c=some (CRec c q))
theorem TbOk.more {P:Addr}{pos:Pos}{q:Str}{H H':Hp}(h:TbOk P pos q H) (s:∀b o,H b=some o→H' b=some o):TbOk P pos q H':=by
 obtain⟨ps,h1,h2,h3⟩:=h
 exact⟨ps,s _ _ h1,h2,h3.imp id fun⟨c,h4,h5⟩=>⟨c,h4,s _ _ h5⟩⟩
theorem crec_ok {P:Program}{w:World}{H:Hp}{h:Heap}{c:Addr}{q:Str}(e:h.CodeRec (.ref c) q):ObjOk P w H h c (CRec c q):=by
 refine⟨e,?_,?_⟩
 ·obtain⟨c',o,_,_,e1,e2,_⟩:=e
  cases e1
  exact⟨o,e2⟩
 ·rintro h1 h2 ⟨c',o,vs,t,e1,e2,e3⟩ k
  cases e1
  exact⟨c,o,vs,t,rfl,k o e2,e3⟩
theorem objo_ok {P:Program}{w:World}{H:Hp}{h:Heap}{f:Addr}{o:Obj}(e:h.get? f=some o):ObjOk P w H h f (ObjO f o):=⟨e,⟨o,e⟩,fun _ _ e1 k=>k o e1⟩
def BMod (K:Wf) (mg:So):Prop:=∃(bm:Addr) (sl:Array (Option Value)),mg (Str.ofString "__builtins__")=some (.ref bm)∧bm≠builtinsNs∧bm≠mainGlobals∧K.lookup bm=some ⟨.type "module", some builtinsNs,.plain,sl⟩
section
variable {X:Cx}{pins:Lo}{σ:St}{H:Hp}{s:Shared}
theorem Inv.grow {P c f:Addr}{ps more:Array Value}{o1 o2:HO}{h':Heap}{t':Nat}(I:Inv X pins σ H s) (hP:H P=some (.tbl ps)) (k:∀b o,b≠P→s.heap.get? b=some o→h'.get? b=some o) (hP':h'.get? P=some (PySem.W.tabObj (ps++more)))
  (hc:s.heap.objs.size≤c) (hf:s.heap.objs.size≤f) (hcf:c≠f) (ok1:∀H'',ObjOk X.prog X.w H'' h' c o1) (ok2:∀H'',ObjOk X.prog X.w H'' h' f o2):
  Inv X pins σ (upd (upd (upd H P (.tbl (ps++more))) c o1) f o2) { s with heap:=h',toks:=t' }:=by
 have c0:H c=none:=I.hok.fresh hc
 have f0:H f=none:=I.hok.fresh hf
 have cP:P≠c:=zz4 hP c0
 have fP:P≠f:=zz4 hP f0
 have get:∀b,b≠P→b≠c→b≠f→upd (upd (upd H P (.tbl (ps++more))) c o1) f o2 b=H b:=fun b n1 n2 n3=>by rw[upd_ne n3,upd_ne n2,upd_ne n1]
 have old:∀b o,s.heap.get? b=some o→b≠c∧b≠f:=fun b o e=>⟨Nat.ne_of_lt (Nat.lt_of_lt_of_le (Heap.lt_size e) hc),Nat.ne_of_lt (Nat.lt_of_lt_of_le (Heap.lt_size e) hf)⟩
 have trk:∀b o,H b=some o→b≠P→upd (upd (upd H P (.tbl (ps++more))) c o1) f o2 b=some o:=fun b o e n=>by
  rw[get b n (zz4 e c0) (zz4 e f0)];exact e
 have atP:upd (upd (upd H P (.tbl (ps++more))) c o1) f o2 P=some (.tbl (ps++more)):=by rw[upd_ne fP,upd_ne cP,zz1]
 refine I.un ⟨fun b o e n _ _=>k b o (fun z=>by rw[z,hP]at n;cases n) e,fun b o e n _ _=>⟨o.slots,k b o (fun z=>by rw[z,hP]at n;cases n) e⟩,fun b o e n _ => ?_,fun b o e _ => ?_,fun b xs e=>trk b _ e (fun z=>by rw[z,hP]at e;cases e),fun b o u e=>trk b _ e (fun z=>by rw[z,hP]at e;cases e),fun b ps' e => ?_⟩ fun b u e => ?_
 ·rw[get b (fun z=>by rw[z,hP]at n;cases n) (old b o e).1 (old b o e).2];exact n
 ·by_cases z:b=P
  ·rw[z];exact⟨_,hP'⟩
  ·exact⟨o,k b o z e⟩
 ·by_cases z:b=P
  ·rw[z,hP]at e
   cases e
   rw[z];exact⟨more,atP⟩
  ·exact⟨#[],by rw[trk b _ e z];simp⟩
 ·by_cases z3:b=f
  ·rw[z3,zz1]at e
   cases e
   rw[z3];exact ok2 _
  ·by_cases z2:b=c
   ·rw[z2,upd_ne hcf,zz1]at e
    cases e
    rw[z2];exact ok1 _
   ·by_cases z1:b=P
    ·rw[z1,atP]at e
     cases e
     rw[z1];exact hP'
    ·rw[get b z1 z2 z3]at e
     refine (I.hok b u e).stay (fun d v hd q=>k d v ?_ q) (fun d q=>trk d _ q (fun z=>by rw[z,hP]at q;cases q)) fun d xs q=>trk d _ q (fun z=>by rw[z,hP]at q;cases q)
     rcases hd with z | z
     ·rw[z];exact z1
     ·intro y;rw[y,hP]at z;cases z
theorem make_lam {A:Around}{P c:Addr}{pos:Pos}{x q:Str}{pr:Arguments}{bd:Expr}{sc:Scope}{line:Nat}{E:Vs}{Q:Vs}(I:Inv X pins σ H s) (hcl:closureFor sc X.env=pure []) (hcd:X.env.code=.ref c) (hc:PySem.W.codeHdIn X.K c P=true) (hb:BMod X.K X.mg) (ht:TbOk P pos q H)
  (k:∀(f c':Addr) (ctv pm:Value) (H':Hp) (s':Shared),Inv X pins σ H' s'→SameX P H H'→TbOk P pos q H'→H f=none→f≠P→H' f=some (ObjO f (PySem.W.kla_obj x q pr bd sc [] pm c' ctv))→H' c'=some (CRec c' q)→Q (.ref f) s'):
  wpAny (model X.prog X.w) A (makeFunction x q pr (.expr bd) sc X.env [] [] [] pos line) Q E s:=by
 obtain⟨ps,hP,tri,cs⟩:=ht
 have gP:s.heap.get? P=some (PySem.W.tabObj ps):=I.hok P _ hP
 have ns:s.heap.Ns mainGlobals X.mg:=I.ok.mod.glob.keeps I.bk
 have nP:∀b o,X.base.get? b=some o→b≠P:=fun b o e z=>by
  have:=(I.bs b o e).2
  rw[z,hP]at this;cases this
 have mP:mainGlobals≠P:=by
  obtain⟨o,_,_,e,_⟩:=I.ok.mod.glob
  exact nP _ o e
 have hd:PySem.W.CodeHd s.heap c P:=PySem.W.codeHd_of_K I.kIn hc
 have bl:s.heap.BuiltinsAt X.mg P:=by
  obtain⟨bm,sl,e1,e2,e3,e4⟩:=hb
  exact⟨bm,_,e1,e2,e3,nP bm _ (I.ok.mod.kin _ _ e4),I.kIn _ _ e4,rfl,rfl,rfl⟩
 rcases cs with cs | ⟨c',cs,hc'⟩
 ·refine PySem.W.kla_makeFunction hcl I.ok.glob ns hcd hd gP tri cs mP bl fun c' ctv h' tk ext h1 h2 h3 h4 => ?_
  have pk:∀b o,h'.get? b=some o→(h'.push (PySem.W.kla_obj x q pr bd sc [] ((X.mg (Str.ofString "__name__")).getD .none) c' ctv)).get? b=some o:=fun b o e=>Heap.get?_push_of_some _ e
  have sz:s.heap.objs.size≤h'.objs.size:=by omega
  have fP:P≠h'.objs.size:=Nat.ne_of_lt (Heap.lt_size h4)
  have cP:P≠c':=Nat.ne_of_lt (Nat.lt_of_lt_of_le (Heap.lt_size gP) h1)
  have J:=I.grow (P:=P) (c:=c') (f:=h'.objs.size) (t':=tk) (h':=h'.push (PySem.W.kla_obj x q pr bd sc [] ((X.mg (Str.ofString "__name__")).getD .none) c' ctv)) (o1:=CRec c' q) (o2:=ObjO h'.objs.size (PySem.W.kla_obj x q pr bd sc [] ((X.mg (Str.ofString "__name__")).getD .none) c' ctv)) hP
   (fun b o n e=>pk b o (ext b o n e)) (pk _ _ h4) h1 sz (Nat.ne_of_lt h2) (fun H''=>crec_ok (by
    obtain⟨c2,o,vs,t,e1,e2,e3⟩:=h3
    exact⟨c2,o,vs,t,e1,pk _ _ e2,e3⟩)) (fun H''=>objo_ok (Heap.get?_push_size _ rfl))
  refine k _ c' ctv _ _ _ J (fun b o n e => ?_) ⟨_,by rw[upd_ne fP,upd_ne cP,zz1],?_,.inr ⟨c',?_,by rw[upd_ne (Nat.ne_of_lt h2),zz1]⟩⟩ (I.hok.fresh sz) (Ne.symm fP) zz1 (by rw[upd_ne (Nat.ne_of_lt h2),zz1])
  ·rw[upd_ne (zz4 e (I.hok.fresh sz)),upd_ne (zz4 e (I.hok.fresh h1)),upd_ne n];exact e
  ·rw[Array.toList_append];exact TriplesOk_snoc _ _ _ _ tri
  ·rw[Array.toList_append];exact codeAmong_snoc _ tri cs
 ·refine PySem.W.kla_makeFunctionHit hcl I.ok.glob ns hcd hd gP tri cs bl fun ctv h' tk kp sz => ?_
  have J:=I.laid (a:=h'.objs.size) (t':=tk) (h':=h'.push (PySem.W.kla_obj x q pr bd sc [] ((X.mg (Str.ofString "__name__")).getD .none) c' ctv)) (o:=ObjO h'.objs.size (PySem.W.kla_obj x q pr bd sc [] ((X.mg (Str.ofString "__name__")).getD .none) c' ctv)) (fun b o e=>Heap.get?_push_of_some _ (kp b o e)) sz (objo_ok (Heap.get?_push_size _ rfl))
  have f0:=I.hok.fresh sz
  have st:∀b o,H b=some o→upd H h'.objs.size (ObjO h'.objs.size (PySem.W.kla_obj x q pr bd sc [] ((X.mg (Str.ofString "__name__")).getD .none) c' ctv)) b=some o:=fun b o e=>by rw[upd_ne (zz4 e f0)];exact e
  exact k _ c' ctv _ _ _ J (fun b o _ e=>st b o e) ⟨ps,st _ _ hP,tri,.inr ⟨c',cs,st _ _ hc'⟩⟩ f0 (fun z=>by rw[z,hP]at f0;cases f0) zz1 (st _ _ hc')
end
end L2
namespace L2
open PySem PySem.Spec PyProof.Rows
theorem lam_run {P:Program}{w:World}{K:Wf}{mg:So}{base:Heap}{A:Around}{outer:List Env}{s:Shared}{H:Hp}{f c:Addr}{x q:Str}{pr:Arguments}{bd:Expr}{sc:Scope}{pm ct:Value}{N ps:List Str}{us:List Value}{vs:List V}{Q:VK}{t:TE}
  (ho:s.heap.get? f=some (PySem.W.kla_obj x q pr bd sc [] pm c ct)) (hc:s.heap.CodeRec (.ref c) q) (S:FnScope N ps sc) (hr:Room 1 A) (e0:Env0 P w K mg base A outer s H)
  (hb:BindsTo s (PySem.W.kla_fn x q pr bd sc [] pm (.ref c) ct) ⟨us,[]⟩ (ps.zip us)) (hl:vs.length=ps.length) (r:Vals vs us)
  (ht:PE (cxOf CX0 P w K mg base N q sc f (.ref c) A outer s H E0) bd t) (hq:t (start N vs) H Q):codeAny (model P w) A (.call (.ref f) ⟨us,[]⟩) (CR CX0 outer P w H s Q E0) s:=by
 have lim:s.heap.NoLimit:=e0.mod.nolimit.keeps fun b o e=>(e0.bs b o e).1
 have hkind:∀y∈ps.zip us,sc.names.lookup y.1=some .local∨(sc.names.lookup y.1=some .cell∧((cellsFrom (s.heap.objs.size+1) sc.names []).lookup y.1).isSome=true):=fun⟨n,v⟩ hy=>by
  rcases S.par n (List.of_mem_zip hy).1 with q | q
  ·exact .inl q
  ·exact .inr ⟨q,PySem.W.cellsFrom_some _ _ _ (.inl q)⟩
 refine PySem.W.kla_callFunE hr.depth ho rfl S.co S.gen rfl hc (hb _ _ _ _ ?_)
 refine wpAny_newFunctionEnv_cells S.kind hkind fun env he s1 x => ?_
 subst he
 refine⟨lim.keeps x.toInCall.keep,PySem.W.kla_codeExpr ?_⟩
 have I:=inv_start (CX:=CX0) (E:=E0) (f:=f) (cd:=.ref c) (qual:=q) S hr.hd e0 hl r x
 refine wpAny_mono (ht [] s1 (start N vs) H Q I hq) (fun u s' ⟨v,H',J,rv,q⟩ => ?_) fun e s' hs=>hs
 exact⟨v,H',J.os,J.bare,J.base,J.hok,rv,q⟩
theorem sorted_flip {bs:List Addr}{z:Addr→Str}(h:bs.length<2):(bs.map fun b=>((z b,0):PairD)).Pairwise leP:=by
 rw[List.pairwise_iff_getElem]
 intro i j hi hj lt
 rw[List.length_map]at hj
 omega
noncomputable def keyed (kt:List Value) (bs:List Addr):List Keyed:=kt.zip (bs.map Value.ref)
noncomputable def sOf:Value→Str
 | .str x _=>x
 | _=>Str.ofString ""
section
variable {X:Cx}{pins:Lo}{σ:St}{H:Hp}{s:Shared}{A:Around}{E:Vs}
theorem kstr_ix:∀{kt:List Value}{ss:List Str}{i:Nat}{k:Value},StrsAre kt ss→kt[i]?=some k→ss[i]?=some (sOf k)∧∃t,k=.str (sOf k) t
 | _,_,0,_,.cons y t h,e=>by cases e;exact⟨rfl,t,rfl⟩
 | _,_,i+1,_,.cons _ _ h,e=>kstr_ix (i:=i) h e
theorem kstr_len:∀{kt:List Value}{ss:List Str},StrsAre kt ss→kt.length=ss.length
 | _,_,.nil=>rfl
 | _,_,.cons _ _ h=>by rw[List.length_cons,List.length_cons,kstr_len h]
theorem kstr_snoc:∀{kt:List Value}{ss:List Str}{y:Str}{t:Tok},StrsAre kt ss→StrsAre (kt++[.str y t]) (ss++[y])
 | _,_,y,t,.nil=>.cons y t .nil
 | _,_,_,_,.cons a b h=>.cons a b (kstr_snoc h)
theorem keyed_mem {kt:List Value}{bs:List Addr}{z:Addr→Str}{x:Keyed}(h:StrsAre kt (bs.map z)) (hx:x∈keyed kt bs):∃b t,b∈bs∧x=(.str (z b) t,.ref b):=by
 obtain⟨i,hi⟩:=List.getElem?_of_mem hx
 unfold keyed at hi
 rw[List.getElem?_zip_eq_some]at hi
 obtain⟨h1,h2⟩:=hi
 rw[List.getElem?_map]at h2
 obtain⟨b,h3,h4⟩:=Option.map_eq_some_iff.mp h2
 obtain⟨h5,t,h6⟩:=kstr_ix h h1
 rw[List.getElem?_map,h3]at h5
 refine⟨b,t,List.mem_of_getElem? h3,?_⟩
 rw[←Option.some.inj h5]at h6
 exact Prod.ext h6 h4.symm
theorem sort_end {a kS:Addr}{bs:List Addr}{z:Addr→Str}{kt:List Value}{n e:Nat}{Q:Fin→Shared→Prop}(I:Inv X pins σ H s) (fa:FpOk X pins H a) (fk:FpOk X pins H kS) (nak:a≠kS) (ha:s.heap.get? a=some (seqObj "list" #[] n)) (hk:s.heap.get? kS=some (seqObj "list" kt.toArray e)) (hz:StrsAre kt (bs.map z)) (h64:bs.length<64)
  (k:∀(s':Shared) (bs':List Addr) (e':Nat),Inv X pins σ H s'→bs'.Perm bs→(bs'.map fun b=>((z b,0):PairD)).Pairwise leP→s'.heap.get? a=some (seqObj "list" (bs'.map Value.ref).toArray e')→Q (.done (.ret .none)) s'):
  wpAny (model X.prog X.w) A (ksk_end a false (bs.map Value.ref).toArray n (.ref kS) kt.toArray) Q E s:=by
 have kl:kt.length=bs.length:=by have:=kstr_len hz;rwa [List.length_map]at this
 have sl:(kt.toArray.zip (bs.map Value.ref).toArray).toList=keyed kt bs:=ksk_zip kt.toArray (bs.map Value.ref)
 have epi:∀(st:SortSt) (bs':List Addr),failedOf st=none→(arrOf st).toList.map (·.2)=bs'.map Value.ref→bs'.Perm bs→(bs'.map fun b=>((z b,0):PairD)).Pairwise leP→wpAny (model X.prog X.w) A (ksk_tail a false n (.ref kS) st) Q E s:=fun st bs' f ea p pw=>by
  unfold ksk_tail
  have ea':((arrOf st).map fun x=>x.2)=(bs'.map Value.ref).toArray:=by
   apply Array.ext'
   rw[Array.toList_map,ea]
  rw[f,ea']
  refine wpAny_bind (listUpdate_at hk rfl ?_ (hsz2:=by simp))
  have k1:∀b o,b≠kS→s.heap.get? b=some o→(s.heap.update kS (Obj.mapSeq fun _=>#[])).get? b=some o:=fun b o nb g=>by rw[Heap.get?_update_ne _ _ _ _ nb];exact g
  have I1:=I.turned (t':=s.toks) k1 fk.1 fk.2.1 fk.2.2.2.1 fk.2.2.2.2.1 fk.2.2.2.2.2
  have ha1:=k1 a _ nak ha
  generalize s.heap.update kS (Obj.mapSeq fun _=>#[])=h1 at k1 I1 ha1
  refine wpAny_bind (wpAny_letGo (wpAny_bind (seqEpoch_at ha1 rfl (wpAny_bind (listUpdate_at ha1 rfl ?_ (hsz2 := ?_))))))
  ·have k2:∀b o,b≠a→h1.get? b=some o→(h1.update a (Obj.mapSeq fun _=>(bs'.map Value.ref).toArray)).get? b=some o:=fun b o nb g=>by rw[Heap.get?_update_ne _ _ _ _ nb];exact g
   have I2:=I1.turned (t':=s.toks) k2 fa.1 fa.2.1 fa.2.2.2.1 fa.2.2.2.2.1 fa.2.2.2.2.2
   have e2:=get?_update_seq ha1 fun _=>(bs'.map Value.ref).toArray
   simp only[bne_self_eq_false,Bool.false_eq_true,if_false]
   exact wpAny_pure (k _ bs' _ I2 p pw e2)
  ·simp only[Bool.false_eq_true,if_false]
   rw[List.size_toArray,List.length_map,p.length_eq,sizeLine_eq];omega
 unfold ksk_end
 simp only[Bool.false_eq_true,if_false,List.size_toArray,List.length_map]
 by_cases few:bs.length<2
 ·simp only[if_pos few]
  refine wpAny_bind (wpAny_pure ?_)
  rw[StateT.run_pure]
  refine wpAny_bind (wpAny_pure ?_)
  refine epi _ bs rfl ?_ (.refl _) (sorted_flip few)
  show (kt.toArray.zip (bs.map Value.ref).toArray).toList.map (·.2)=_
  rw[sl]
  unfold keyed
  exact List.map_snd_zip (by rw[List.length_map,kl];exact Nat.le_refl _)
 ·simp only[if_neg few]
  have kk:keyKind' kt.toArray=pure oneType':=by
   match kt,hz,kl with
   | [],_,kl=>exact absurd kl (by simp;omega)
   | [_],_,kl=>exact absurd kl (by simp;omega)
   | _::_::_,hz,_=>exact keyKind_strs hz
  refine wpAny_bind (wpAny_of_eq kk ?_)
  have bz:(kt.toArray.zip (bs.map Value.ref).toArray).size=bs.length:=by rw[←Array.length_toList,sl];unfold keyed;rw[List.length_zip,List.length_map,kl,Nat.min_self]
  have ask:Asks X.prog X.w A E s oneType' (fun x=>rankP (bs.map fun b=>((z b,0):PairD)) (sOf x.1,0)) (kt.toArray.zip (bs.map Value.ref).toArray):=fun x hx y hy Q q=>by
   rw[sl]at hx hy
   obtain⟨b,t,hb,rfl⟩:=keyed_mem hz hx
   obtain⟨c,u,hc,rfl⟩:=keyed_mem hz hy
   refine oneLt_str (?_:Q (decide ((z b).cps.toList<(z c).cps.toList)) s)
   have e:=rankP_lt (ds:=bs.map fun b=>((z b,0):PairD)) (a:=(z b,0)) (b:=(z c,0)) (List.mem_map.mpr ⟨b,hb,rfl⟩)
   have e2:ltP ((z b,0):PairD) (z c,0)=decide ((z b).cps.toList<(z c).cps.toList):=by
    unfold ltP
    by_cases h:z b=z c
    ·rw[if_pos h,h,decide_eq_false (by omega),decide_eq_false (List.lt_irrefl _)]
    ·rw[if_neg h]
   rw[←e2,←e];exact q
  refine wpAny_bind (wpAny_mono (by_ranks (Q:=fun _ st=>(arrOf st).Perm (kt.toArray.zip (bs.map Value.ref).toArray)∧failedOf st=none∧Rise (fun x=>rankP (bs.map fun b=>((z b,0):PairD)) (sOf x.1,0)) (arrOf st) bs.length) ask (st:=SortSt.mk' oneType' (kt.toArray.zip (bs.map Value.ref).toArray) #[] 7 none) ⟨.refl _,rfl,rfl,rfl⟩ (by rw[bz];omega) (by rw[bz];exact h64) fun st p f up=>⟨p,f,by rw[bz]at up;exact up⟩) ?_ fun _ _ z=>z)
  rintro⟨⟨⟩,st⟩ s' ⟨rfl,p,f,up⟩
  have p':=Array.perm_iff_toList_perm.mp p
  rw[sl]at p'
  have all:∀x∈(arrOf st).toList,∃b t,b∈bs∧x=(Value.str (z b) t,Value.ref b):=fun x hx=>keyed_mem hz (p'.mem_iff.mp hx)
  have e2:(arrOf st).toList.map (·.2)=((arrOf st).toList.map fun x=>adr x.2).map Value.ref:=by
   rw[List.map_map]
   refine List.map_congr_left fun x hx => ?_
   obtain⟨b,t,_,rfl⟩:=all x hx
   rfl
  have pb:((arrOf st).toList.map fun x=>adr x.2).Perm bs:=by
   have:=p'.map fun x:Keyed=>adr x.2
   have e3:(keyed kt bs).map (fun x:Keyed=>adr x.2)=bs:=by
    unfold keyed
    have:(fun x:Keyed=>adr x.2)=adr ∘ (·.2):=rfl
    rw[this,←List.map_map,List.map_snd_zip (by rw[List.length_map,kl];exact Nat.le_refl _),List.map_map]
    exact (List.map_congr_left fun _ _=>rfl).trans (List.map_id _)
   rwa [e3]at this
  refine epi st _ f e2 pb ?_
  rw[List.pairwise_iff_getElem]
  intro i j hi hj lt
  rw[List.length_map,List.length_map]at hi hj
  have at_:∀m (hm:m<(arrOf st).toList.length),rk (fun x=>rankP (bs.map fun b=>((z b,0):PairD)) (sOf x.1,0)) (arrOf st) m=rankP (bs.map fun b=>((z b,0):PairD)) (z (adr ((arrOf st).toList[m]).2),0):=fun m hm=>by
   unfold rk
   rw[←Array.getElem?_toList,List.getElem?_eq_getElem hm]
   obtain⟨b,t,_,e⟩:=all _ (List.getElem_mem hm)
   rw[e];rfl
  have len:(arrOf st).toList.length=bs.length:=by rw[←pb.length_eq,List.length_map]
  have h:=up i j (Nat.le_of_lt lt) (by omega)
  rw[at_ i hi,at_ j hj]at h
  simp only[List.getElem_map]
  unfold leP
  rw[←rankP_lt (ds:=bs.map fun b=>((z b,0):PairD))]
  ·exact decide_eq_false (Nat.not_lt.mpr h)
  ·obtain⟨b,t,hb,e⟩:=all _ (List.getElem_mem hj)
   rw[e];exact List.mem_map.mpr ⟨b,hb,rfl⟩
theorem sort_keys {a f:Addr}{bs:List Addr}{z:Addr→Str}{n:Nat}{Q:Fin→Shared→Prop}(I:Inv X pins σ H s) (fa:FpOk X pins H a) (ha:s.heap.get? a=some (seqObj "list" (bs.map Value.ref).toArray n)) (h64:bs.length<64)
  (key:∀s',Inv X pins σ H s'→∀b∈bs,wpAny (model X.prog X.w) A (call (.ref f) [.ref b]) (fun u s''=>∃t,u=.str (z b) t∧Inv X pins σ H s''∧∀d o,FpOk X pins H d→s'.heap.get? d=some o→s''.heap.get? d=some o) (fun _ _=>False) s')
  (k:∀(s':Shared) (bs':List Addr) (e':Nat),Inv X pins σ H s'→bs'.Perm bs→(bs'.map fun b=>((z b,0):PairD)).Pairwise leP→s'.heap.get? a=some (seqObj "list" (bs'.map Value.ref).toArray e')→Q (.done (.ret .none)) s'):
  wpAny (model X.prog X.w) A (ksk_tree a (.ref f) false) Q E s:=by
 unfold ksk_tree
 refine wpAny_bind (listItems_at ha rfl (wpAny_bind (listUpdate_at ha rfl ?_ (hsz2:=by simp))))
 have k1:∀b o,b≠a→s.heap.get? b=some o→(s.heap.update a (Obj.mapSeq fun _=>#[])).get? b=some o:=fun b o nb g=>by rw[Heap.get?_update_ne _ _ _ _ nb];exact g
 have I1:=I.turned (t':=s.toks) k1 fa.1 fa.2.1 fa.2.2.2.1 fa.2.2.2.2.1 fa.2.2.2.2.2
 have e1:=get?_update_seq ha fun _=>#[]
 generalize (if (#[]:Array Value).size == (bs.map Value.ref).toArray.size then n else n+1)=n1 at e1
 generalize s.heap.update a (Obj.mapSeq fun _=>#[])=h1 at k1 I1 e1
 refine wpAny_bind (seqEpoch_at e1 rfl (wpAny_bind (wpAny_newTuple (wpAny_bind (wpAny_newList (wpAny_holding ?_) (Nat.zero_le _))) ?_)))
 ·have I2:=I1.kept (h':=h1.push { cls:=Value.type "tuple", data:=Data.seq (bs.map Value.ref).toArray.toList.toArray }) (t':=s.toks) fun b o g=>Heap.get?_push_of_some _ g
  have e2:(h1.push { cls:=Value.type "tuple", data:=Data.seq (bs.map Value.ref).toArray.toList.toArray }).get? a=some (seqObj "list" #[] n1):=Heap.get?_push_of_some _ e1
  generalize h1.push { cls:=Value.type "tuple", data:=Data.seq (bs.map Value.ref).toArray.toList.toArray }=h2 at I2 e2
  have fk:FpOk X pins H h2.objs.size:=I2.fpOk (Nat.le_refl _) (I2.hok.fresh (Nat.le_refl _))
  have nak:a≠h2.objs.size:=Nat.ne_of_lt (Heap.lt_size e2)
  have I3:=I2.kept (h':=h2.push { cls:=Value.type "list", data:=Data.seq ([]:List Value).toArray }) (t':=s.toks) fun b o g=>Heap.get?_push_of_some _ g
  have e3:(h2.push { cls:=Value.type "list", data:=Data.seq ([]:List Value).toArray }).get? a=some (seqObj "list" #[] n1):=Heap.get?_push_of_some _ e2
  have k3:(h2.push { cls:=Value.type "list", data:=Data.seq ([]:List Value).toArray }).get? h2.objs.size=some (seqObj "list" ([]:List Value).toArray 0):=Heap.get?_push_size _ rfl
  dsimp only
  generalize h2.objs.size=kS at fk nak k3 ⊢
  generalize h2.push { cls:=Value.type "list", data:=Data.seq ([]:List Value).toArray }=h3 at I3 e3 k3
  unfold ksk_rest
  refine wpAny_bind (wpAny_rule (wpAny_bind ?_))
  rw[List.forIn_toArray]
  refine ksk_fold (fun i s'=>∃(kt:List Value) (e:Nat),Inv X pins σ H s'∧s'.heap.get? a=some (seqObj "list" #[] n1)∧s'.heap.get? kS=some (seqObj "list" kt.toArray e)∧StrsAre kt ((bs.take i).map z)) (bs.map Value.ref) 0 _ ⟨[],0,I3,e3,k3,.nil⟩ (fun j v s' hv hI => ?_) fun s' hI => ?_
  ·rw[Nat.zero_add]at hI ⊢
   obtain⟨kt,e,J,ja,jk,jz⟩:=hI
   rw[List.getElem?_map]at hv
   obtain⟨b,hb,rfl⟩:=Option.map_eq_some_iff.mp hv
   have jl:=kstr_len jz
   rw[List.length_map,List.length_take]at jl
   refine wpAny_bind (wpAny_attempt (wpAny_mono (key s' J b (List.mem_of_getElem? hb)) (fun u s'' hu => ?_) fun _ _ h=>h.elim))
   obtain⟨t,rfl,J2,kp⟩:=hu
   have ja2:=kp a _ fa ja
   have jk2:=kp kS _ fk jk
   dsimp only
   have up:=get?_update_seq jk2 fun x=>x.push (.str (z b) t)
   rw[List.push_toArray]at up
   refine wpAny_bind (listUpdate_at jk2 rfl (wpAny_pure ⟨rfl,kt++[.str (z b) t],_,J2.turned (t':=s''.toks) (fun d o nd g=>by rw[Heap.get?_update_ne _ _ _ _ nd];exact g) fk.1 fk.2.1 fk.2.2.2.1 fk.2.2.2.2.1 fk.2.2.2.2.2,by rw[Heap.get?_update_ne _ _ _ _ nak];exact ja2,up,?_⟩) ?_ ?_)
   ·rw[List.take_succ,hb,List.map_append]
    exact kstr_snoc jz
   ·rw[List.size_toArray,sizeLine_eq];omega
   ·rw[Array.size_push,List.size_toArray,sizeLine_eq];omega
  ·rw[Nat.zero_add,List.length_map,List.take_length]at hI
   obtain⟨kt,e,J,ja,jk,jz⟩:=hI
   refine wpAny_bind (listItems_at jk rfl ?_)
   exact sort_end J fa fk nak ja jk jz h64 k
 ·rw[List.toList_toArray,List.length_map,sizeLine_eq];omega
theorem Inv.track {a:Addr}{o:HO}(I:Inv X pins σ H s) (fa:FpOk X pins H a) (new:∀H'',ObjOk X.prog X.w H'' s.heap a o):Inv X pins σ (upd H a o) s:=by
 have n0:=fa.1
 have trk:∀b u,H b=some u→upd H a o b=some u:=fun b u e=>by rw[upd_ne (zz4 e n0)];exact e
 refine I.step (g':=s.gens) (d':=s.drawn) (t':=s.toks) (h':=s.heap) (ch:=[a]) (fun b hb => ?_) (fun b o _ _ _ e _=>e) (fun b o _ _ _ e _=>⟨o.slots,e⟩) (fun b u hb _ n => ?_) (fun b u _ e=>⟨u,e⟩) (fun b xs e=>trk b _ e) (fun b u v e=>trk b _ e) (fun b ps e=>⟨#[],by rw[trk b _ e];simp⟩) (fun m hm=>hm) (fun b u e => ?_) I.bare
 ·rw[List.mem_singleton.mp hb]
  exact⟨fa.2.2.2.1,fa.2.1,fa.2.2.2.2.1,fa.2.2.2.2.2⟩
 ·rw[upd_ne (fun z=>hb (by rw[z];exact List.mem_singleton_self _))];exact n
 ·by_cases z:b=a
  ·rw[z,zz1]at e
   cases e
   rw[z];exact new _
  ·rw[upd_ne z]at e
   exact (I.hok b u e).stay (fun _ _ _ q=>q) (fun d q=>trk d _ q) fun d xs q=>trk d _ q
theorem sorted_keys {p f c:Addr}{bs:List Addr}{z:Addr→Str}{x q:Str}{pr:Arguments}{bd:Expr}{sc:Scope}{pm ct:Value}{y:Str}{rs:Addr→List V}{Q:VK}(I:Inv X pins σ H s) (hr:Room 4 X.A) (hp:SqL X.K H p (bs.map V.ref)) (hd:∀b∈bs,H b=some (.tup (.str (z b)::rs b))) (h64:bs.length<64)
  (hf:H f=some (ObjO f (PySem.W.kla_obj x q pr bd sc [] pm c ct))) (hc:H c=some (CRec c q)) (S:FnScope [y] [y] sc) (hb:∀(s:Shared) (u:Value),BindsTo s (PySem.W.kla_fn x q pr bd sc [] pm (.ref c) ct) ⟨[u],[]⟩ [(y,u)])
  (ht:∀A outer s H,PE (cxOf CX0 X.prog X.w X.K X.mg X.base [y] q sc f (.ref c) A outer s H E0) bd (tOp (rIxT X.K) (tVar 0) (tC (.int 0))))
  (k:∀(l:Addr) (bs':List Addr),H l=none→bs'.Perm bs→(bs'.map fun b=>((z b,0):PairD)).Pairwise leP→Q (.ref l) (upd H l (.lst (bs'.map V.ref)))):
  wpAny (model X.prog X.w) X.A (call (.builtin "sorted") [.ref p] [(Str.ofString "key", .ref f)]) (EP X pins σ Q) X.xe s:=by
 obtain⟨its,r',pl,_⟩:=I.list hp
 have e:=refs_of r'
 subst e
 have fit:(bs.map Value.ref).length≤sizeLine:=by rw[List.length_map,sizeLine_eq];omega
 refine call_function_entry_kw kind_sorted plain_sorted entry_sorted (ksk_s1 _ _) (wpAny_bind (m:=checkCount "sorted" 1 1 _) (wpAny_pure (wpAny_bind (collect_list pl.isList (wpAny_bind (wpAny_newList ?_ fit)) fit))))
 dsimp only
 have k1:∀b o,s.heap.get? b=some o→((s.heap.push (seqObj "list" #[] 0)).update s.heap.objs.size (Obj.mapSeq (·++(bs.map Value.ref).toArray))).get? b=some o:=fun b o g=>by
  rw[Heap.get?_update_ne _ _ _ _ (Nat.ne_of_lt (Heap.lt_size g))];exact Heap.get?_push_of_some _ g
 have I1:=I.kept (t':=s.toks) k1
 generalize (s.heap.push (seqObj "list" #[] 0)).update s.heap.objs.size (Obj.mapSeq (·++(bs.map Value.ref).toArray))=h1 at k1 I1
 have I2:=I1.kept (t':=s.toks) (h':=h1.push { cls:=.type "list", data:=.seq (bs.map Value.ref).toArray }) fun b o g=>Heap.get?_push_of_some _ g
 have new:(h1.push { cls:=.type "list", data:=.seq (bs.map Value.ref).toArray }).get? h1.objs.size=some (seqObj "list" (bs.map Value.ref).toArray 0):=Heap.get?_push_size _ rfl
 have fa:FpOk X pins H h1.objs.size:=I1.fpOk (Nat.le_refl _) (I1.hok.fresh (Nat.le_refl _))
 refine wpAny_bind (wpAny_holding (wpAny_call_entry_kw slot_list_sort ⟨_,new,rfl⟩ entry_list_sort ?_ (ksk_l1 _ _)))
 rw[ksk_t1]
 refine sort_keys (z:=z) I2 fa new h64 (fun s' J b hb' => ?_) fun s' bs' e' J pb pw g => ?_
 ·refine wpAny_call (codeAny_mono (lam_run (vs:=[.ref b]) (us:=[.ref b]) (Q:=fun v H'=>v=.str (z b)∧H'=H) (J.hok f _ hf).1 (J.hok c _ hc).1 S (hr.in1.in1.mono (by decide)) J.env0.in1.in1 (hb s' _) rfl (.cons rfl .nil) (ht _ _ _ _) ?_) fun r s'' hq => ?_)
  ·refine⟨.ref b,rfl,?_⟩
   exact⟨b,_,0,_,rfl,rfl,SqT.of (hd b hb'),show atI (V.str (z b)::rs b) ((0:Nat):Int)=_ from atI_nat rfl,rfl,rfl⟩
  ·cases r with
   | error e=>exact hq.elim
   | ok fl=>
    cases fl with
    | next=>exact False.elim hq
    | brk=>exact False.elim hq
    | cont=>exact False.elim hq
    | ret u=>
     obtain⟨v,H',os,bare,un,hok,rv,hv,hH⟩:=hq
     subst hv hH
     obtain⟨t,rfl⟩:=rv
     refine⟨t,rfl,J.call' (ch:=[]) os un hok bare (fun b z=>absurd z (by simp)),fun d o fd g=>un.keep d o g fd.1 (fun z => ?_) (by simp)⟩
     exact (List.mem_cons.mp (J.stkSub d z)).elim fd.2.1 fd.2.2.1
 ·refine⟨_,rfl,wpAny_pure ⟨_,rfl,.ref h1.objs.size,upd H h1.objs.size (.lst (bs'.map V.ref)),?_,rfl,k _ bs' fa.1 pb pw⟩⟩
  exact J.track fa fun H''=>⟨by rw[List.length_map,pb.length_eq,sizeLine_eq];omega,bs'.map Value.ref,e',vals_refs,g⟩
def tSortL (K:Wf) (P:Addr) (lp:Pos) (q:Str) (te:TE):TE:=fun σ H Q=>te σ H fun x H1=>∃(p:Addr) (bs:List Addr) (z:Addr→Str) (rs:Addr→List V),x=.ref p∧SqL K H1 p (bs.map V.ref)∧(∀b∈bs,H1 b=some (.tup (.str (z b)::rs b)))∧bs.length<64∧TbOk P lp q H1∧
 ∀(l:Addr) (bs':List Addr) (H2:Hp),H1 l=none→bs'.Perm bs→(bs'.map fun b=>((z b,0):PairD)).Pairwise leP→SameX P H1 H2→TbOk P lp q H2→H2 l=some (.lst (bs'.map V.ref))→Q (.ref l) H2
theorem pe_sortL {K:Wf}{P c:Addr}{e:Expr}{te:TE}{p kp lp pos:Pos}{pr:Arguments}{bd:Expr}{sc:Scope}{y q:Str}(eK:X.K=K) (hr:Room 4 X.A) (he:PE X e te) (hg:Gl X "sorted") (hm:X.mg "sorted" = none) (hcd:X.env.code=.ref c) (hc:PySem.W.codeHdIn K c P=true) (bm:BMod K X.mg) (S:FnScope [y] [y] sc)
  (ht:∀(f c:Addr) A outer s H,PE (cxOf CX0 X.prog X.w X.K X.mg X.base [y] q sc f (.ref c) A outer s H E0) bd (tOp (rIxT X.K) (tVar 0) (tC (.int 0))))
  (hb:∀(pm cd ct u:Value),bindArgs (PySem.W.kla_fn (Str.ofString "<lambda>") q pr bd sc [] pm cd ct) ⟨[u],[]⟩=pure [(y,u)]:=by intros;rfl)
  (hcl:closureFor sc X.env=pure []:=by rfl) (hq:X.env.qual++Str.ofString "<lambda>" = q:=by rfl) (hdf:defaultsOf pr X.env=([],[]):=by rfl) (s1:starEach [e] X.env=[(false,eval e X.env)]:=by rfl):
  PE X (.Call (.Name "sorted" p) [e] [⟨some "key", .Lambda pr bd sc lp,kp⟩] pos) (tSortL K P lp q te):=by
 subst eK
 intro pins s σ H Q I h
 refine wpAny_Call_Name_kw (ld_blt I hg hm (show bootBuiltins "sorted" = some (.builtin "sorted") by kernel_rfl) ?_)
 refine PyProof.Rows.callWith_kw ?_ (by rw[s1];rfl) (by rw[s1];rfl)
 rw[s1]
 refine Calls.spliced_cons (thn (he pins s σ H _ I h) fun u s2 ⟨x,H1,I1,r1,p',bs,z,rs,ex,hp,hd,h64,tb,k⟩=>Calls.spliced_nil (kws_cons (PySem.W.kla_eval hdf ?_)))
 subst ex
 cases r1
 rw[hq]
 refine make_lam I1 hcl hcd hc bm tb fun f c' ctv pm H' s' J sx tb' f0 fP hf hc'=>kws_nil ?_
 have pt:∀(b:Addr) (o:HO),(∀ps,o≠.tbl ps)→H1 b=some o→H' b=some o:=fun b o ne e=>sx b o (fun zz=>by
  obtain⟨ps,hP,_⟩:=tb
  rw[zz,hP]at e
  exact ne ps (Option.some.inj e).symm) e
 have hp':SqL X.K H' p' (bs.map V.ref):=by
  rcases hp with hp | hp
  ·rcases hp with hp | ⟨o,hp⟩
   ·exact .inl (.inl (pt _ _ (fun ps z=>by cases z) hp))
   ·exact .inl (.inr ⟨o,pt _ _ (fun ps z=>by cases z) hp⟩)
  ·exact .inr hp
 refine sorted_keys (z:=z) (rs:=rs) J hr hp' (fun b hb=>pt _ _ (fun ps z=>by cases z) (hd b hb)) h64 hf hc' S (fun s u=>.of_eq (hb _ _ _ _)) (fun A outer s H=>ht f c' A outer s H) fun l bs' l0 pb pw => ?_
 have st:∀b o,H' b=some o→upd H' l (.lst (bs'.map V.ref)) b=some o:=fun b o e=>by rw[upd_ne (zz4 e l0)];exact e
 have l1:H1 l=none:=by
  cases e:H1 l with
  | none=>rfl
  | some o=>
   obtain⟨ps,hP,_⟩:=tb'
   have:=sx l o (fun zz=>by rw[zz,hP]at l0;cases l0) e
   rw[l0]at this;cases this
 exact k l bs' _ l1 pb pw (fun b o n e=>st b o (sx b o n e)) (tb'.more st) zz1
end
end L2
namespace L2
open PySem PySem.Spec PyProof.Rows
section
variable {P:Program}{w:World}{K:Wf}{mg:So}{base:Heap}
def Lam (K:Wf) (fd:FuncData) (T:Addr):Prop:=∃c,fd.code=.ref c∧PySem.W.codeHdIn K c T=true
theorem Fun.okCE {x qual:Str}{st:Stmt}{f T:Addr}{fd:FuncData}{N ps:List Str}{k:Nat}{sp:Sp}(F:Fun K x qual st f fd) (L:Lam K fd T) (S:FnScope N ps (defScope st)) (len:∀vs H Q E,sp vs H Q E→vs.length=ps.length)
  (hbody:∀(c:Addr) (cdv:Value) (A:Around) (outer:List Env) (s:Shared) (H:Hp) (vs:List V) (Q:VK) (E:XK),cdv=.ref c→PySem.W.codeHdIn K c T=true→Room k (A.deeper (envOfC qual (defScope st) s.heap.objs.size f cdv))→sp vs H Q E→
   ∃t,PSs (cxOf (CXE P w) P w K mg base N qual (defScope st) f cdv A outer s H E) (defBody st) t∧t { nx:=fun _ H'=>Q .non H',rt:=Q } (start N vs) H):FnOk P w K mg base (CXE P w) (k+1) f fd ps sp:=by
 obtain⟨oc,od,kV,doc,pm,an,cdv,ct,osl,rfl,lk,hcd⟩:=F.ex
 obtain⟨c,e1,e2⟩:=L
 refine fn_of lk hcd S len fun A outer s H vs Q E hr hsp => ?_
 obtain⟨t,h,q⟩:=hbody c cdv A outer s H vs Q E e1 e2 hr hsp
 exact⟨t,h,q⟩
end
def AtEntry (Ts:List Addr) (H:Hp):Prop:=∀T∈Ts,H T=some (.tbl #[])
theorem law_callT {P:Program}{w:World}{K:Wf}{mg mb:So}{CX:CXT}{k:Nat}{fa a:Addr}{fd:FuncData}{x:Str}{sp:Sp}{s₁:Shared}{vs:List Value}{ns:List Int}{Ts:List Addr}
  (KX:K.In s₁.heap) (hns:s₁.heap.Ns mainGlobals mg) (hb:s₁.heap.Ns builtinsNs mb) (hbb:∀x:Str,x ≠ "__name__" → mb x=bootBuiltins x) (hlim:s₁.heap.NoLimit) (hg:s₁.gens=#[])
  (ha:s₁.heap.get? a=some { cls:=.type "list", data:=.seq vs.toArray }) (hi:IntsAre vs ns) (hl:ns.length≤sizeLine) (hr:Room k callerA)
  (hT:∀T∈Ts,s₁.heap.get? T=some (PySem.W.tabObj #[])∧isCodeTable s₁.heap T∧K.lookup T=none)
  (F:∀base:Heap,K.In base→base.Ns mainGlobals mg→FnOk P w K mg base CX k fa fd [x] sp) (hbind:∀(s:Shared) (u:Value),BindsTo s fd ⟨[u],[]⟩ [(x,u)])
  (hsp:∀H:Hp,AtEntry Ts H→SqL K H a (ns.map V.int)→sp [.ref a] H (fun v _=>v=.bl true) fun _ _ _=>False)
  (hCX:∀H e s',CX [] H s₁ (fun _ _ _=>False) e s'→False):
  codeAny (model P w) callerA (.call (.ref fa) ⟨[.ref a],[]⟩) (fun r s'=>r=.ok (.ret (.bool true))∧OldK s₁.heap s'.heap∧s'.os=s₁.os∧AllBare s'.gens) s₁:=by
 have rv:=vals_ints hi
 have lenV:=hi.length
 have aT:a∉Ts:=fun z=>by
  have:=(hT a z).1
  rw[ha]at this;cases this
 have core:∀H:Hp,SqL K H a (ns.map V.int)→(∀b,H b=none∨(b=a∧K.lookup a=none∧H b=some (.frz { cls:=.type "list", data:=.seq vs.toArray } (.lst (ns.map V.int))))∨(b∈Ts∧H b=some (.tbl #[])))→AtEntry Ts H→
   codeAny (model P w) callerA (.call (.ref fa) ⟨[.ref a],[]⟩) (fun r s'=>r=.ok (.ret (.bool true))∧OldK s₁.heap s'.heap∧s'.os=s₁.os∧AllBare s'.gens) s₁:=by
  intro H hS hO hE
  have hok:HOk P w H s₁.heap:=fun b u z=>by
   rcases hO b with y | ⟨rfl,_,y⟩ | ⟨y1,y⟩
   ·rw[y]at z;cases z
   ·rw[y]at z;cases z
    exact⟨ha,by rw[List.length_map];exact hl,vs,_,rv,ha⟩
   ·rw[y]at z;cases z
    exact (hT b y1).1
  have base_of:∀{b:Addr}{o:Obj},s₁.heap.get? b=some o→H b=none→(hidT s₁.heap H).get? b=some o:=fun e n=>hidT_get e n
  have noA:∀{b:Addr}{o:Obj}{es:Array DictEntry}{ep:Nat},s₁.heap.get? b=some o→o.data=.dict es ep→H b=none:=fun {b o es ep} e d=>by
   rcases hO b with y | ⟨rfl,_,y⟩ | ⟨y1,y⟩
   ·exact y
   ·rw[ha]at e;cases e
    have d':Data.seq vs.toArray _=Data.dict es ep:=d
    cases d'
   ·rw[(hT b y1).1]at e;cases e
    have d':Data.fields #[]=Data.dict es ep:=d
    cases d'
  have nsK:∀{b:Addr}{m:So},s₁.heap.Ns b m→(hidT s₁.heap H).Ns b m:=fun {b m} ⟨o,es,ep,e,d,r⟩=>⟨o,es,ep,base_of e (noA e d),d,r⟩
  have hKb:K.In (hidT s₁.heap H):=fun b o e=>base_of (KX b o e) (by
   rcases hO b with y | ⟨rfl,y1,y⟩ | ⟨y1,y⟩
   ·exact y
   ·rw[y1]at e;cases e
   ·rw[(hT b y1).2.2]at e;cases e)
  have hM:Mod K mg (hidT s₁.heap H):=⟨hKb,nsK hns,⟨mb,nsK hb,hbb⟩,let ⟨mc,h1,h2⟩:=hlim;⟨mc,nsK h1,h2⟩⟩
  have e0:Env0 P w K mg (hidT s₁.heap H) callerA [] s₁ H:=⟨rfl,hM,fun b o e=>of_hidT e,Nat.le_of_eq (hidT_size _ _),trivial,fun b hb=>absurd (show b∈([]:List Addr) from hb) (by simp),hok,.of_eq hg⟩
  refine codeAny_mono ((F _ hKb (nsK hns)).run callerA [] s₁ H ⟨[.ref a],[]⟩ [.ref a] [.ref a] _ _ hr e0 (hbind s₁ (.ref a)) (.cons rfl .nil) (hsp H hE hS)) fun r s' h => ?_
  cases r with
  | error e=>exact (hCX H e s' h).elim
  | ok fl=>
   cases fl with
   | next=>exact False.elim h
   | brk=>exact False.elim h
   | cont=>exact False.elim h
   | ret u=>
    obtain⟨v,H',os,bare,un,hok',r',q⟩:=h
    have q':v=.bl true:=q
    subst q'
    obtain rfl:u=Value.bool true:=r'
    have nf:∀b:Addr,b∉frs []:=fun b z=>absurd (show b∈([]:List Addr) from z) (by simp)
    refine⟨rfl,⟨fun b o e => ?_,fun b o e=>un.there b o e (by simp)⟩,os,bare⟩
    rcases hO b with y | ⟨_,_,y⟩ | ⟨y1,y⟩
    ·exact .inl (un.keep b o e y (nf b) (by simp))
    ·obtain⟨e1,_⟩:=hok b _ y
     obtain⟨e2,_⟩:=hok' b _ (un.frzs b _ _ y)
     rw[e]at e1;cases e1
     exact .inl e2
    ·obtain⟨more,z⟩:=un.tbls b _ y
     have e2:s'.heap.get? b=some { cls:=.none,data:=.fields (#[]++more) }:=hok' b _ z
     obtain⟨t1,t2,_⟩:=hT b y1
     rw[e]at t1;cases t1
     exact .inr (.inl ⟨t2,rfl,#[],more,rfl,e2⟩)
 cases hk:K.lookup a with
 | some o=>
  have e:=KX a o hk
  rw[ha]at e
  cases e
  refine core (fun b=>if b∈Ts then some (.tbl #[]) else none) (.inr ⟨_,vs.toArray,_,hk,rfl,rfl,rfl,by rw[List.size_toArray,lenV];exact hl,by simpa using rv⟩) (fun b => ?_) fun T hT'=>if_pos hT'
  by_cases z:b∈Ts
  ·exact .inr (.inr ⟨z,if_pos z⟩)
  ·exact .inl (if_neg z)
 | none=>
  refine core (fun b=>if b∈Ts then some (.tbl #[]) else if b=a then some (.frz { cls:=.type "list", data:=.seq vs.toArray } (.lst (ns.map V.int))) else none) (.inl (.inr ⟨{ cls:=.type "list", data:=.seq vs.toArray },(if_neg aT).trans (if_pos rfl)⟩)) (fun b => ?_) fun T hT'=>if_pos hT'
  by_cases z:b∈Ts
  ·exact .inr (.inr ⟨z,if_pos z⟩)
  ·by_cases y:b=a
   ·exact .inr (.inl ⟨y,hk,(if_neg z).trans (if_pos y)⟩)
   ·exact .inl ((if_neg z).trans (if_neg y))
def FOT (K:Wf) (f T:Addr) (st:Stmt) (x q:Str):Prop:=∃(oc:Value) (od an:Option Addr) (sl:Array (Option Value)) (kV dc pm ct:Value) (c:Addr),K.lookup f=some ⟨oc,od,.func (PySem.W.fnOf x q (defArgs st) (defBody st) (defScope st) .none kV dc pm an (.ref c) ct),sl⟩∧PySem.W.codeIn K (.ref c) q=true∧PySem.W.keepIn K (.ref f)=true∧PySem.W.codeHdIn K c T=true
def TabIn (K:Wf) (h:Heap) (T:Addr):Prop:=h.get? T=some (PySem.W.tabObj #[])∧(∃c,PySem.W.codeHdIn K c T=true)∧K.lookup T=none
theorem tab_in {q:Program}{loose:List Str}{mean:ExcName→Option Value}{mg mb:So}{h:Heap}{K:Wf}{f T:Addr}{st:Stmt}{x y:Str}(KX:K.In h) (TP:Top q loose mean mg mb h) (hrec:((recsOf q).any fun d=>d.name == x)=true) (a:PySem.W.nsIn K mainGlobals x=some (some (.ref f))) (l:FOT K f T st x y) (n:K.lookup T=none):TabIn K h T:=by
 obtain⟨oc,od,an,sl,kV,dc,pm,ct,c,lk,_,_,hc⟩:=l
 obtain⟨d,hd,en⟩:=List.any_eq_true.mp hrec
 have en:d.name=x:=by simpa using en
 obtain⟨a',o,fd,c',P,e1,e2,e3,e4,_,e6⟩:=TP.tab d hd
 have ef:=PySem.W.mg_of KX TP.g a
 rw[en,ef]at e1
 cases e1
 rw[KX _ _ lk]at e2
 cases e2
 cases e3
 have ec:c=c':=Value.ref.inj e4
 subst ec
 obtain⟨⟨o2,vs2,g1,g2,g3,g4⟩,g5⟩:=e6
 obtain⟨o3,vs3,_,_,_,_,_,_,_,k1,k2,k3,k4,_⟩:=PySem.W.codeHd_of_K KX hc
 rw[k1]at g1
 cases g1
 rw[k3]at g3
 cases g3
 rw[k4]at g4
 cases g4
 exact⟨g5,⟨c,hc⟩,n⟩
theorem walk_ofT {l:PySem.W.OpenLaw}{n k:Nat}{q:Program}{loose:List Str}{XP:(Str→Option Value)→Heap→Prop}{YP:World→Heap→Prop}{d:DefRec}{K:Params→Wf}{CX:World→CXT}{sp:World→Sp}{x:Str}{Ts:List Addr}
  (hn:l.most=some n) (hn2:n≤sizeLine) (hdf:d.params.defaults=[]) (hr:Room k callerA)
  (hY:∀(w:World) (h:Heap),YP w h→(K w.params).In h)
  (hT:∀(w:World) (h:Heap) (lo:List Str) (mean:ExcName→Option Value) (mg mb:So),(K w.params).In h→Top q lo mean mg mb h→∀T∈Ts,TabIn (K w.params) h T)
  (F:∀(w:World) (mg:So) (fa:Addr) (h:Heap),(K w.params).In h→h.Ns mainGlobals mg→mg d.name=some (.ref fa)→
   ∃fd:FuncData,(∀(s:Shared) (u:Value),BindsTo s fd ⟨[u],[]⟩ [(x,u)])∧
    ∀base:Heap,(K w.params).In base→base.Ns mainGlobals mg→FnOk l.prog w (K w.params) mg base (CX w) k fa fd [x] (sp w))
  (hsp:∀(w:World) (H:Hp) (a:Addr) (ns:List Int),ns.length≤n→AtEntry Ts H→SqL (K w.params) H a (ns.map V.int)→sp w [.ref a] H (fun v _=>v=.bl true) fun _ _ _=>False)
  (hCX:∀(w:World) (H:Hp) (s:Shared) (e:Value) (s':Shared),CX w [] H s (fun _ _ _=>False) e s'→False):
  PySem.W.WalkO q loose XP YP l.row.toRowW d [] (fun f vs=>PySem.call f vs):=by
 refine Att.attach_call hn hdf fun w s₀ s₁ mg mb fa o pm cd doc a vs ns G Y ho hd hcd hmg hobj hints hlen hg => ?_
 have KX:=hY w _ Y
 obtain⟨fd,hb,hF⟩:=F w mg fa _ KX G.T.g hmg
 refine law_callT KX G.T.g G.T.b G.T.builtins G.T.nolimit hg hobj hints (Nat.le_trans hlen hn2) hr (fun T hT' => ?_) hF hb (fun H hO hS=>hsp w H a ns hlen hO hS) fun H e s'=>hCX w H s₁ e s'
 obtain⟨t1,⟨c,t2⟩,t3⟩:=hT w _ _ _ mg mb KX G.T T hT'
 obtain⟨o',vs',_,_,_,_,_,_,_,e1,e2,e3,e4,_⟩:=PySem.W.codeHd_of_K KX t2
 exact⟨t1,⟨c,o',vs',e1,e2,e3,e4⟩,t3⟩
theorem SameX.get {P:Addr}{ps:Array Value}{H H':Hp}(s:SameX P H H') (hP:H P=some (.tbl ps)) {b:Addr}{o:HO}(e:H b=some o) (n:∀ps,o≠.tbl ps):H' b=some o:=
 s b o (fun z=>by rw[z,hP]at e;exact n ps (Option.some.inj e).symm) e
noncomputable def noT (P:Addr) (H:Hp):Hp:=fun b=>if b=P then none else H b
theorem noT_get {P b:Addr}{ps:Array Value}{H:Hp}{o:HO}(hP:H P=some (.tbl ps)) (e:H b=some o) (n:∀ps,o≠.tbl ps):noT P H b=some o:=by
 unfold noT
 rw[if_neg (fun z=>by rw[z,hP]at e;exact n ps (Option.some.inj e).symm)];exact e
theorem SameX.same {P:Addr}{H H':Hp}(s:SameX P H H'):Same (noT P H) H':=fun b o e=>by
 unfold noT at e
 by_cases z:b=P
 ·rw[if_pos z]at e;cases e
 ·rw[if_neg z]at e;exact s b o z e
theorem SameX.free {P:Addr}{H H':Hp}(s:SameX P H H') {b:Addr}(hb:b≠P) (h:H' b=none):H b=none:=by
 cases e:H b with
 | none=>rfl
 | some o=>rw[s b o hb e]at h;cases h
theorem StM.At.noT {P:Addr}{ps:Array Value}{H:Hp}{s:StM}(hP:H P=some (.tbl ps)) (h:s.At H):s.At (noT P H):=
 ⟨noT_get hP h.top (fun _ z=>by cases z),noT_get hP h.wd (fun _ z=>by cases z),noT_get hP h.fl (fun _ z=>by cases z),fun f hf=>noT_get hP (h.fs f hf) (fun _ z=>by cases z)⟩
theorem PcM.At.noT {P:Addr}{ps:Array Value}{H:Hp}{p:PcM}(hP:H P=some (.tbl ps)) (h:p.At H):p.At (noT P H):=
 ⟨noT_get hP h.top (fun _ z=>by cases z),noT_get hP h.sl (fun _ z=>by cases z),noT_get hP h.nl (fun _ z=>by cases z),fun s hs=>(h.ss s hs).noT hP,fun n hn=>noT_get hP (h.ns n hn) (fun _ z=>by cases z)⟩
theorem PcM.At.keep {P:Addr}{ps:Array Value}{H H':Hp}{p:PcM}(h:p.At H) (hP:H P=some (.tbl ps)) (s:SameX P H H'):p.At H':=(h.noT hP).mono s.same
end L2
namespace L2
open PySem PySem.Spec PyProof.Rows
noncomputable def Itv (K:Wf) (a:Addr) (xs:List V):It:=
 ⟨fun i H=>SqL K H a xs∧i<xs.length,fun i H x H'=>H'=H∧xs.reverse[i]?=some x,fun i H=>SqL K H a xs∧xs.length≤i⟩
theorem turn_rev {P:Program}{w:World}{K:Wf}{tg:Expr}(a it:Addr) (xs:List V):Turn P w K tg (Itv K a xs) [it] it (fun i h=>i≤xs.length∧h.IsRevIter it a ((xs.length:Int) - 1 - i)) where
 mem:=by simp
 obj:=fun i h st b hb=>by
  have e:b=it:=by simpa using hb
  subst e
  obtain⟨_,o,e,c,d⟩:=st
  exact⟨o,e,fun v z=>by rw[d]at z;cases z⟩
 keep:=fun i h h' st k=>⟨st.1,st.2.at fun o e=>k it (by simp) o e⟩
 item:=by
  intro X hP hw hK hc i pins s σ H E I hf st hg
  subst hP hw hK
  obtain⟨hq,hi⟩:=hg
  obtain⟨its,rv,p,hz⟩:=I.list hq
  obtain⟨f0,f1,f2,f3,f4,f5⟩:=hf it (by simp)
  have hl:=rv.length
  have hx:xs[xs.length - 1 - i]?=some xs[xs.length - 1 - i]:=List.getElem?_eq_getElem (by omega)
  generalize hxx:xs[xs.length - 1 - i]=x at hx
  obtain⟨u,hu,ru⟩:=rv.get hx
  have st2:s.heap.IsRevIter it a ((xs.length - 1 - i:Nat):Int):=by
   have:=st.2
   rwa [show ((xs.length:Int) - 1 - i)=((xs.length - 1 - i:Nat):Int) by omega]at this
  refine wpAny_pyNext_rev_item st2 p.isList (x:=u) (by simpa using hu) fun h' st' sb => ?_
  have I1:Inv X pins σ H { s with heap:=h' }:=I.turned (t':=s.toks) (fun b o hb e=>(sb.2 b hb).trans e) f0 f1 f3 f4 f5
  obtain⟨o,e,c,d⟩:=id st'
  refine⟨u,rfl,go_of (s:={ s with heap:=h' }) e c d (by decide) ⟨x,H,I1,ru,⟨rfl,?_⟩,⟨by omega,?_⟩,fun b hb=>(hf b hb).1⟩⟩
  ·rw[List.getElem?_reverse hi];exact hx
  ·rwa [show ((xs.length:Int) - 1 - ((i+1:Nat):Int))=((xs.length - 1 - i:Nat):Int) - 1 by omega]
 done:=by
  intro X hP hw hK hc i pins s σ H E I hf st hg
  subst hP hw hK
  obtain⟨hq,hi⟩:=hg
  obtain⟨f0,f1,f2,f3,f4,f5⟩:=hf it (by simp)
  have st2:s.heap.IsRevIter it a (-1):=by
   have:=st.2
   rwa [show ((xs.length:Int) - 1 - i) = -1 by have:=st.1;omega]at this
  exact wpAny_pyNext_rev_end (I.ok.hd hc) st2 fun h' eb=>⟨rfl,I.turned (t':=s.toks) (fun b o hb e=>eb b o hb e) f0 f1 f3 f4 f5⟩
 self:=fun _ _ _ _ _ st h=>wpAny_pyIter_revIter st.2 h
section
variable {X:Cx}{tg:Expr}{K:Wf}
def iRev (K:Wf) (tl:TE):TI:=fun σ H R=>tl σ H fun x H1=>∃a xs,x=.ref a∧SqL K H1 a xs∧R (Itv K a xs) H1
theorem pi_rev {l:Expr}{tl:TE}{p pos:Pos}(eK:X.K=K) (hg:Gl X "reversed") (hm:X.mg "reversed" = none) (hl:PE X l tl) (hs:starEach [l] X.env=[(false,eval l X.env)]:=by rfl):PI X tg (.Call (.Name "reversed" p) [l] [] pos) (iRev K tl):=by
 subst eK
 intro pins s σ H R I h
 refine wpAny_Call_Name_kw (ld_blt I hg hm (show bootBuiltins "reversed" = some (.type "reversed") by kernel_rfl) ?_)
 refine PyProof.Rows.callWith_type1 ?_ (by rw[hs];rfl) rfl
 rw[hs]
 show wpAny _ _ (spliced ((false,eval l X.env)::[])) _ _ s
 refine Calls.spliced_cons (thn (hl pins s σ H _ I h) fun u s1 ⟨x,H1,I1,r1,a,xs,ex,hq,q⟩=>Calls.spliced_nil ?_)
 subst ex
 cases r1
 obtain⟨its,r',pl,hz'⟩:=I1.list hq
 refine call_reversed_list pl.isList ?_
 have ln:=r'.length
 have it0:(s1.heap.push (revObj a ((its.toArray.size:Int) - 1))).IsRevIter s1.heap.objs.size a ((xs.length:Int) - 1 - ((0:Nat):Int)):=⟨_,Heap.get?_push_size _ rfl,rfl,by
  show (revObj a ((its.toArray.size:Int) - 1)).data=_
  rw[List.size_toArray,←ln,show ((xs.length:Int) - 1 - ((0:Nat):Int))=(xs.length:Int) - 1 by omega];rfl⟩
 refine wpAny_pyIter_revIter it0 ?_
 refine⟨s1.heap.objs.size,[s1.heap.objs.size],_,_,H1,rfl,I1.kept (t':=s1.toks) fun b o e=>Heap.get?_push_of_some _ e,turn_rev a _ xs,⟨Nat.zero_le _,it0⟩,fun b hb => ?_,q⟩
 have e:b=s1.heap.objs.size:=by simpa using hb
 subst e
 exact I1.fpOk (Nat.le_refl _) (I1.hok.fresh (Nat.le_refl _))
def ForV (K:Wf) (g:TG) (tb:TS) (D:Ends) (σ:St):VK:=fun x H1=>∃a xs,x=.ref a∧SqL K H1 a xs∧ForW g tb D σ (Itv K a xs) H1
section
variable {te:TE}{g:TG}{tb:TS}{D:Ends}{σ:St}{H:Hp}
theorem tFor_rev:tFor (iRev K te) g tb D σ H=te σ H (ForV K g tb D σ):=rfl
theorem ForV.of {a:Addr}{xs:List V}(Pv:Nat→St→Hp→Prop) (h0:Pv 0 σ H) (hl:∀i σ H,i≤xs.length→Pv i σ H→SqL K H a xs)
  (hs:∀i x σ H,xs.reverse[i]?=some x→Pv i σ H→g x σ H fun σ2 H2=>tb { D with nx:=Pv (i+1),ct:=Pv (i+1),bk:=D.nx } σ2 H2) (hd:∀σ H,Pv xs.length σ H→D.nx σ H):ForV K g tb D σ (.ref a) H:=by
 refine⟨a,xs,rfl,hl 0 _ _ (Nat.zero_le _) h0,fun i m σ H=>m=xs.length - i∧i≤xs.length∧Pv i σ H,⟨xs.length,by simp,Nat.zero_le _,h0⟩,?_⟩
 rintro i m σ H ⟨rfl,hi,p⟩
 have q:=hl i σ H hi p
 by_cases hlt:i<xs.length
 ·refine .inr ⟨⟨q,hlt⟩,Pv (i+1),fun σ' H' p'=>⟨xs.length - (i+1),by omega,rfl,hlt,p'⟩,fun x H' y => ?_⟩
  obtain⟨rfl,hx⟩:=y
  exact hs i x σ _ hx p
 ·have e:i=xs.length:=by omega
  subst e
  exact .inl ⟨⟨q,Nat.le_refl _⟩,hd σ H p⟩
end
noncomputable def rUpdD:V→List V→Hp→VK→Prop:=fun x vs H Q=>∃d o kvs more,x=.ref d∧vs=[.ref o]∧H d=some (.dK kvs)∧H o=some (.dK more)∧d≠o∧kvs.length+more.length≤100000∧Q .non (upd H d (.dK (mergeK kvs more)))
theorem mt_upddict:MtM X "dict.update" rUpdD:=by
 intro pins s σ H x vs v us Q I rx rv h
 obtain⟨d,o,kvs,more,rfl,rfl,hd,ho,ne,z,q⟩:=h
 cases rx
 obtain⟨u,rfl,ru⟩:=vals1 rv
 cases ru
 obtain⟨_,hS,ws,rel,dd⟩:=dk_of I.hok hd
 obtain⟨_,hS2,ws2,rel2,dd2⟩:=dk_of I.hok ho
 have l1:kvs.length=ws.length:=Paired.length rel
 have l2:more.length=ws2.length:=Paired.length rel2
 have l3:=length_mergeK more kvs
 refine call_meetsIn PySem.F.slot_dict_update dd.typeIs PySem.F.entry_dict_update (PySem.F.args_dict_update_2 _ _) (meets_dict_update (mixKind X.prog X.w) d o ne hS2) ⟨ws,ws2,dd,dd2,by rw[sizeLine_eq];omega,fun h' d1 d2 sb => ?_⟩
 have he:∃q,h'.get? d=some q:=let ⟨q,_,_,hq,_⟩:=d1;⟨q,hq⟩
 exact⟨.non,_,d_write (t':=s.toks) I (by rw[hd];exact True.intro) sb he (dk_new (by rw[sizeLine_eq];omega) hS (KV.merge rel2 rel) d1),rfl,q⟩
def CompD (g:TG) (tt:TT) (te:TE) (σ0:St) (Q:VK):VK:=fun x H1=>∃a kvs,x=.ref a∧H1 a=some (.dK kvs)∧∀o,CompW g tt te σ0 Q (Itd a o kvs) (upd H1 a (.frz o (.dK kvs)))
section
variable {k:Nat}{fm:List Nat}{tl te:TE}{g:TG}{tt:TT}{σ σ0:St}{H H1:Hp}{Q:VK}
theorem tComp_dict:tComp k fm (iDict tl) g tt te σ H Q=tl σ H (CompD g tt te (blkSt k fm σ) Q):=rfl
theorem CompD.of {a:Addr}{kvs:List (Key×V)}(hz:kvs.length<sizeLine) (hx:H1 a=some (.dK kvs)) (Pv:Obj→Addr→Nat→List V→Hp→Prop) (h0:∀o D,H1 D=none→Pv o D 0 [] (upd (upd H1 a (.frz o (.dK kvs))) D (.lst [])))
  (hl:∀o D i ys H',H1 D=none→i≤kvs.length→Pv o D i ys H'→H' a=some (.frz o (.dK kvs))∧H' D=some (.lst ys)∧ys.length≤i)
  (hs:∀o D i p ys H',H1 D=none→kvs[i]?=some p→Pv o D i ys H'→g (kV p.1) σ0 H' fun σ3 H4=>Ext σ0 σ3∧tt σ3 H4 fun b H5=>if b=true then te σ3 H5 fun y H6=>H6 D=some (.lst ys)∧Pv o D (i+1) (ys++[y]) (upd H6 D (.lst (ys++[y]))) else Pv o D (i+1) ys H5)
  (hd:∀o D ys H',H1 D=none→Pv o D kvs.length ys H'→Q (.ref D) H'):CompD g tt te σ0 Q (.ref a) H1:=by
 refine⟨a,kvs,rfl,hx,fun o D hD0 => ?_⟩
 have nD:D≠a:=fun e=>by rw[e,zz1]at hD0;cases hD0
 have hD:H1 D=none:=by rwa [upd_ne nD]at hD0
 refine⟨fun i m ys H=>m=kvs.length - i∧i≤kvs.length∧Pv o D i ys H,⟨kvs.length,by simp,Nat.zero_le _,h0 o D hD⟩,?_⟩
 rintro i m ys H2 ⟨rfl,hi,p⟩
 obtain⟨l0,l1,l2⟩:=hl o D i ys H2 hD hi p
 refine⟨l1,by omega,?_⟩
 by_cases hlt:i<kvs.length
 ·refine .inr ⟨⟨l0,kvs[i],by simp[hlt]⟩,Pv o D (i+1),fun ys' H' p'=>⟨_,(by omega:kvs.length - (i+1)<kvs.length - i),rfl,hlt,p'⟩,fun x H3 y => ?_⟩
  obtain⟨rfl,u,hu,rfl⟩:=y
  exact hs o D i u ys _ hD hu p
 ·have e:i=kvs.length:=by omega
  subst e
  exact .inl ⟨⟨l0,Nat.le_refl _⟩,hd o D ys H2 hD p⟩
end
def iDictR (te:TE):TI:=fun σ H R=>te σ H fun x H1=>∃a kvs,x=.ref a∧Rd H1 a (.dK kvs)∧∀o H2,H2 a=some (.frz o (.dK kvs))→(∀b,b≠a→H2 b=H1 b)→R (Itd a o kvs) H2
def ForDR (g:TG) (tb:TS) (D:Ends) (σ:St):VK:=fun x H1=>∃a kvs,x=.ref a∧Rd H1 a (.dK kvs)∧∀o H2,H2 a=some (.frz o (.dK kvs))→(∀b,b≠a→H2 b=H1 b)→ForW g tb D σ (Itd a o kvs) H2
section
variable {te:TE}{g:TG}{tb:TS}{D:Ends}{σ:St}{H:Hp}
theorem tFor_dictR:tFor (iDictR te) g tb D σ H=te σ H (ForDR g tb D σ):=rfl
end
end
end L2
namespace L2
open PySem PySem.Spec PyProof.Rows
section
variable {X:Cx}
end
end L2
namespace L2
open PySem PySem.Spec PyProof.Rows
section
variable {X:Cx}
noncomputable def rInsert:V→List V→Hp→VK→Prop:=fun x vs H Q=>∃l xs,∃i:Int,∃y,x=.ref l∧vs=[.int i,y]∧H l=some (.lst xs)∧0≤i∧i<2 ^ 62∧xs.length<sizeLine∧Q .non (upd H l (.lst (xs.take i.toNat++y::xs.drop i.toNat)))
theorem mt_insert:MtM X "list.insert" rInsert:=by
 intro pins s σ H x vs v us Q I rx rv h
 obtain⟨l,xs,i,y,rfl,rfl,hH,h0,h1,hz,q⟩:=h
 cases rx
 match us,rv with
 | [u1,u2],.cons r1 (.cons r2 .nil)=>
  obtain⟨t,rfl⟩:=r1
  obtain⟨z,its,n,r,hl,e⟩:=I.lstM hH
  have hlen:xs.length=its.length:=r.length
  have hf:Builtin.List.listFitsIndex i=true:=fitsIndex_of h0 (by omega)
  refine call_meets F.slot_list_insert ⟨_,e,rfl⟩ F.entry_list_insert (F.args_list_insert_3 _ _ _) (PySem.AutoSeq1.list_insert_list_int_val_1 l its.toArray n i t u2 (by rw[hf];decide) (by rw[List.size_toArray];omega)) ⟨e,?_⟩
  refine⟨.non,_,I.lset (its':=its.take i.toNat++u2::its.drop i.toNat) hH e ?_ ((r.take _).append (.cons r2 (r.drop _))) ?_,rfl,q⟩
  ·have hn:¬i<0:=by omega
   simp only[hn,if_false,List.size_toArray]
   apply Array.toList_inj.mp
   simp[Array.toList_extract]
   by_cases hi:i.toNat≤its.length
   ·rw[Nat.min_eq_left hi,List.take_of_length_le (show (its.drop i.toNat).length≤its.length - i.toNat by rw[List.length_drop];exact Nat.le_refl _)]
   ·rw[Nat.min_eq_right (by omega),List.take_length,List.drop_length,List.take_nil,List.take_of_length_le (show its.length≤i.toNat by omega),List.drop_of_length_le (show its.length≤i.toNat by omega)]
  ·rw[List.length_append,List.length_take,List.length_cons,List.length_drop]
   omega
end
end L2
namespace L2
open PySem PySem.Spec PyProof.Rows
theorem CmpOf.strs_lt {prog:Program}{w:World}{A:Around}{P:Nat→Value→Prop}(val:Nat→Str) (hval:∀i v,P i v→∃t,v=.str (val i) t):
  CmpOf prog w A .Lt P (fun i j=>decide ((val i).cps.toList<(val j).cps.toList)):=fun i j vi vj s Q E hi hj h=>by
 obtain⟨t,rfl⟩:=hval i vi hi
 obtain⟨u,rfl⟩:=hval j vj hj
 exact richCompare_gives (op:=.Lt) (typeIs_str s _ t) (typeIs_str s _ u) F.slot_str_lt F.entry_str_lt (F.args_str_lt_2 _ _) (gives_str_lt _ _ t u) (fun x=>nomatch x) h
theorem best_le (bt:Nat→Nat→Bool):∀n,argBest bt n≤n
 | 0=>Nat.le_refl _
 | n+1=>by
  unfold argBest
  have:=best_le bt n
  split<;>omega
theorem best_min (val:Nat→Str):∀n i,i≤n→leS (val (argBest (fun i j=>decide ((val i).cps.toList<(val j).cps.toList)) n)) (val i)
 | 0,i,h=>by
  rw[show i=0 by omega]
  exact List.le_refl _
 | n+1,i,h=>by
  unfold argBest
  have ih:=best_min val n
  split
  ·rename_i q
   have q:=of_decide_eq_true q
   by_cases e:i=n+1
   ·rw[e];exact List.le_refl _
   ·exact leS_trans (List.le_of_lt q) (ih i (by omega))
  ·rename_i q
   have q:¬(val (n+1)).cps.toList<(val (argBest (fun i j=>decide ((val i).cps.toList<(val j).cps.toList)) n)).cps.toList:=fun z=>q (decide_eq_true z)
   by_cases e:i=n+1
   ·rw[e];exact List.not_lt.mp q
   ·exact ih i (by omega)
section
variable {X:Cx}
noncomputable def rMinL (K:Wf):List V→Hp→VK→Prop:=fun xs H Q=>∃(p:Addr) (ss:List Str),xs=[.ref p]∧SqL K H p (ss.map V.str)∧ss≠[]∧∀m:Str,m∈ss→(∀z∈ss,leS m z)→Q (.str m) H
theorem call_minL (hc:X.calm=true):CallR X (.builtin "min") (rMinL X.K):=by
 intro pins s σ H xs us Q I r h
 obtain⟨p,ss,rfl,hq,hne,q⟩:=h
 obtain⟨u,rfl,rx⟩:=vals1 r
 cases rx
 obtain⟨its,rv,pl,hz⟩:=I.list hq
 have hl:=rv.length
 rw[List.length_map]at hl
 have hlt:p<s.heap.objs.size:=by obtain⟨_,e,_⟩:=pl.isList;exact Heap.lt_size e
 have npos:0<its.length:=by rw[←hl];exact List.length_pos_iff.mpr hne
 have val:∀(i:Nat) (v:Value),its.toArray[i]?=some v→∃t,v=.str (ss.getD i (Str.ofString "")) t:=fun i v hv=>by
  have hv:its[i]?=some v:=by simpa using hv
  have hi:=(List.getElem?_eq_some_iff.mp hv).1
  have e1:(ss.map V.str)[i]?=some (V.str (ss[i]'(by omega))):=by rw[List.getElem?_map,List.getElem?_eq_getElem (by omega)];rfl
  obtain⟨u,hu,ru⟩:=rv.get e1
  rw[hv]at hu
  rw[Option.some.inj hu]
  obtain⟨t,et⟩:=ru
  exact⟨t,by rw[et,List.getD_eq_getElem?_getD,List.getElem?_eq_getElem (show i<ss.length by omega)];rfl⟩
 refine call_min_walk (wpAny_pyIter_list pl.isList ?_)
 refine⟨_,_,_,_,_,_,_,rfl,Walks.list (A:=X.A.in1) (by simp[I.ok.hd hc]) s.heap.objs.size p (Nat.ne_of_lt hlt) its.toArray,⟨⟨_,Heap.get?_push_size _ rfl,rfl,rfl⟩,pl.isList.push _⟩,fun b hb => ?_,by simpa using npos,CmpOf.strs_lt (fun i=>ss.getD i (Str.ofString "")) val,fun v h' tk hP kp => ?_⟩
 ·show b<(s.heap.push _).objs.size
  rw[Heap.size_push]
  rcases List.mem_cons.mp hb with rfl | hb
  ·exact Nat.lt_succ_self _
  ·rw[List.mem_singleton.mp hb];exact Nat.lt_succ_of_lt hlt
 ·obtain⟨t,rfl⟩:=val _ v hP
  have kept:∀b o,s.heap.get? b=some o→h'.get? b=some o:=fun b o e=>kp b o (fun hm=>by rw[List.mem_singleton.mp hm]at e;exact absurd (Heap.lt_size e) (Nat.lt_irrefl _)) (Heap.get?_push_of_some _ e)
  have bl:=best_le (fun i j=>decide ((ss.getD i (Str.ofString "")).cps.toList<(ss.getD j (Str.ofString "")).cps.toList)) (its.toArray.size - 1)
  have bm:=best_min (fun i=>ss.getD i (Str.ofString "")) (its.toArray.size - 1)
  rw[List.size_toArray]at bl bm
  refine⟨V.str _,H,I.kept kept,⟨t,rfl⟩,q _ ?_ fun z hz => ?_⟩
  ·rw[List.size_toArray]
   have:argBest (fun i j=>decide ((ss.getD i (Str.ofString "")).cps.toList<(ss.getD j (Str.ofString "")).cps.toList)) (its.length - 1)<ss.length:=by omega
   rw[List.getD_eq_getElem?_getD,List.getElem?_eq_getElem this]
   exact List.getElem_mem _
  ·obtain⟨i,hi⟩:=List.getElem?_of_mem hz
   have il:=(List.getElem?_eq_some_iff.mp hi).1
   have:=bm i (by omega)
   rw[List.size_toArray]
   rw[show ss.getD i (Str.ofString "")=z by rw[List.getD_eq_getElem?_getD,hi];rfl]at this
   exact this
theorem call_minLK {K:Wf}(hc:X.calm=true) (e:X.K=K):CallR X (.builtin "min") (rMinL K):=e▸call_minL hc
end
end L2
set_option maxHeartbeats 0
set_option pp.deepTerms true
set_option pp.maxSteps 100000
namespace My
open PySem PySem.Spec PyProof.Rows L2
set_option hygiene false in
local macro_rules | `(tactic| walk_at "0") => `(tactic| have mem : ∀ b ∈ p.lists, b ∈ L :: listsOf (ps ++ [p]) := fun b hb => List.mem_cons_of_mem _ (by rw [zz9]; exact List.mem_append_right _ hb))
set_option hygiene false in
local macro_rules | `(tactic| walk_at "1") => `(tactic| rw [List.getElem?_map] at hv)
set_option hygiene false in
local macro_rules | `(tactic| walk_at "2") => `(tactic| obtain ⟨p, hp, rfl⟩ := Option.map_eq_some_iff.mp hv)
local macro_rules | `(tactic| walk_at "o") => `(tactic| first | exact Or.inl rfl | exact Or.inr rfl)
local macro_rules | `(tactic| walk_at "s") => `(tactic| (rw [sizeLine_eq]; decide))
local macro_rules | `(tactic| walk_at "p") => `(tactic| first | exact Or.inl rfl | exact Or.inr (Or.inl rfl) | exact Or.inr (Or.inr rfl))
local macro_rules | `(tactic| walk_at "q") => `(tactic| first | exact .inl rfl | exact .inr rfl | assumption)
noncomputable def top (i:Nat):Stmt:=PySem.Challenge.pw_joinload_k17_told_twice.main.body.getD i (.Pass ⟨0,0,0,0⟩)
noncomputable abbrev s_qqq:Stmt:=inClass (top 4) 0
noncomputable abbrev s_qzq:Stmt:=top 13
noncomputable abbrev s_qqk:Stmt:=top 14
noncomputable abbrev s_qqv:Stmt:=top 15
noncomputable abbrev s_qqy:Stmt:=top 17
noncomputable abbrev s_qqx:Stmt:=top 18
noncomputable abbrev s_qqw:Stmt:=top 19
noncomputable abbrev s_qqj:Stmt:=top 20
noncomputable abbrev s_qwz:Stmt:=top 21
noncomputable abbrev s_qwv:Stmt:=top 22
noncomputable abbrev s_qwx:Stmt:=top 23
noncomputable abbrev s_qzw:Stmt:=top 24
noncomputable abbrev s_qwq:Stmt:=top 25
noncomputable abbrev s_qwy:Stmt:=top 26
noncomputable abbrev s_qww:Stmt:=top 27
noncomputable abbrev s_qqz:Stmt:=top 28
noncomputable abbrev s_qwk:Stmt:=top 29
noncomputable abbrev s_law:Stmt:=top 30
theorem bt_ValueError:bootBuiltins "ValueError" = some (.type "ValueError"):=by decide +kernel
theorem bt_dict:bootBuiltins "dict" = some (.type "dict"):=by decide +kernel
theorem bt_int:bootBuiltins "int" = some (.type "int"):=by decide +kernel
theorem zz8:bootBuiltins "isinstance" = some (.builtin "isinstance"):=by decide +kernel
theorem bt_len:bootBuiltins "len" = some (.builtin "len"):=by decide +kernel
theorem bt_list:bootBuiltins "list" = some (.type "list"):=by decide +kernel
theorem bt_min:bootBuiltins "min" = some (.builtin "min"):=by decide +kernel
theorem bt_sorted:bootBuiltins "sorted" = some (.builtin "sorted"):=by decide +kernel
theorem bt_str:bootBuiltins "str" = some (.type "str"):=by decide +kernel
theorem relT {n:String}:RelV (.ty n) (.type n):=rfl
set_option genInjectivity false in
structure Ad where
 qqq:Addr
 fd_qqq:FuncData
 qzq:Addr
 fd_qzq:FuncData
 qqk:Addr
 fd_qqk:FuncData
 qqv:Addr
 fd_qqv:FuncData
 qqy:Addr
 fd_qqy:FuncData
 qqx:Addr
 fd_qqx:FuncData
 qqw:Addr
 fd_qqw:FuncData
 qqj:Addr
 fd_qqj:FuncData
 qwz:Addr
 fd_qwz:FuncData
 qwv:Addr
 fd_qwv:FuncData
 qwx:Addr
 fd_qwx:FuncData
 qzw:Addr
 fd_qzw:FuncData
 qwq:Addr
 fd_qwq:FuncData
 qwy:Addr
 fd_qwy:FuncData
 qww:Addr
 fd_qww:FuncData
 qqz:Addr
 fd_qqz:FuncData
 qwk:Addr
 fd_qwk:FuncData
 law:Addr
 fd_law:FuncData
 tb_qzq:Addr
 c_qwj:Addr
 c_Lost:Addr
 c_qyq:Addr
 c_qzx:Addr
 c_qzj:Addr
 c_qzy:Addr
 c_qzk:Addr
 c_qzz:Addr
 c_qzv:Addr
 c_qyw:Addr
 c_qyz:Addr
set_option genInjectivity false in
structure Txt (K:Wf) (mg:So) (A:Ad):Prop where
 k_qqq:PySem.W.keepIn K (.ref A.qqq)=true
 b_qqq:Binds K A.fd_qqq ["self", "name", "one", "other"] []
 F_qqq:Fun K "__init__" "Twice.__init__" s_qqq A.qqq A.fd_qqq
 m_qzq:mg "names_of" = some (.ref A.qzq)
 k_qzq:PySem.W.keepIn K (.ref A.qzq)=true
 b_qzq:Binds K A.fd_qzq ["pieces"] []
 F_qzq:Fun K "names_of" "names_of" s_qzq A.qzq A.fd_qzq
 m_qqk:mg "refuse_twice" = some (.ref A.qqk)
 k_qqk:PySem.W.keepIn K (.ref A.qqk)=true
 b_qqk:Binds K A.fd_qqk ["ordered"] []
 F_qqk:Fun K "refuse_twice" "refuse_twice" s_qqk A.qqk A.fd_qqk
 m_qqv:mg "places_told" = some (.ref A.qqv)
 k_qqv:PySem.W.keepIn K (.ref A.qqv)=true
 b_qqv:Binds K A.fd_qqv ["piece", "told_by"] []
 F_qqv:Fun K "places_told" "places_told" s_qqv A.qqv A.fd_qqv
 m_qqy:mg "_law_cell_at" = some (.ref A.qqy)
 k_qqy:PySem.W.keepIn K (.ref A.qqy)=true
 b_qqy:Binds K A.fd_qqy ["_law_script", "_law_k"] []
 F_qqy:Fun K "_law_cell_at" "_law_cell_at" s_qqy A.qqy A.fd_qqy
 m_qqx:mg "_law_name_by" = some (.ref A.qqx)
 k_qqx:PySem.W.keepIn K (.ref A.qqx)=true
 b_qqx:Binds K A.fd_qqx ["_law_cell", "_law_k"] []
 F_qqx:Fun K "_law_name_by" "_law_name_by" s_qqx A.qqx A.fd_qqx
 m_qqw:mg "_law_word_row" = some (.ref A.qqw)
 k_qqw:PySem.W.keepIn K (.ref A.qqw)=true
 b_qqw:Binds K A.fd_qqw ["_law_cell", "_law_names_by"] []
 F_qqw:Fun K "_law_word_row" "_law_word_row" s_qqw A.qqw A.fd_qqw
 m_qqj:mg "_law_told_by" = some (.ref A.qqj)
 k_qqj:PySem.W.keepIn K (.ref A.qqj)=true
 b_qqj:Binds K A.fd_qqj ["_law_pieces", "_law_cell", "_law_names_by", "_law_strict"] []
 F_qqj:Fun K "_law_told_by" "_law_told_by" s_qqj A.qqj A.fd_qqj
 m_qwz:mg "_law_drawn" = some (.ref A.qwz)
 k_qwz:PySem.W.keepIn K (.ref A.qwz)=true
 b_qwz:Binds K A.fd_qwz ["_law_cells", "_law_names_by", "_law_titles_by", "_law_strict"] []
 F_qwz:Fun K "_law_drawn" "_law_drawn" s_qwz A.qwz A.fd_qwz
 m_qwv:mg "_law_copy" = some (.ref A.qwv)
 k_qwv:PySem.W.keepIn K (.ref A.qwv)=true
 b_qwv:Binds K A.fd_qwv ["_law_piece"] []
 F_qwv:Fun K "_law_copy" "_law_copy" s_qwv A.qwv A.fd_qwv
 m_qwx:mg "_law_texts" = some (.ref A.qwx)
 k_qwx:PySem.W.keepIn K (.ref A.qwx)=true
 b_qwx:Binds K A.fd_qwx ["_law_found", "_law_due_here"] []
 F_qwx:Fun K "_law_texts" "_law_texts" s_qwx A.qwx A.fd_qwx
 m_qzw:mg "_law_due" = some (.ref A.qzw)
 k_qzw:PySem.W.keepIn K (.ref A.qzw)=true
 b_qzw:Binds K A.fd_qzw ["_law_pieces"] []
 F_qzw:Fun K "_law_due" "_law_due" s_qzw A.qzw A.fd_qzw
 m_qwq:mg "_law_weaker" = some (.ref A.qwq)
 k_qwq:PySem.W.keepIn K (.ref A.qwq)=true
 b_qwq:Binds K A.fd_qwq ["_law_pieces"] []
 F_qwq:Fun K "_law_weaker" "_law_weaker" s_qwq A.qwq A.fd_qwq
 m_qwy:mg "_law_alone" = some (.ref A.qwy)
 k_qwy:PySem.W.keepIn K (.ref A.qwy)=true
 b_qwy:Binds K A.fd_qwy ["_law_kept"] []
 F_qwy:Fun K "_law_alone" "_law_alone" s_qwy A.qwy A.fd_qwy
 m_qww:mg "_law_answer" = some (.ref A.qww)
 k_qww:PySem.W.keepIn K (.ref A.qww)=true
 b_qww:Binds K A.fd_qww ["_law_pieces"] []
 F_qww:Fun K "_law_answer" "_law_answer" s_qww A.qww A.fd_qww
 m_qqz:mg "_law_told_all" = some (.ref A.qqz)
 k_qqz:PySem.W.keepIn K (.ref A.qqz)=true
 b_qqz:Binds K A.fd_qqz ["_law_answer_here", "_law_pieces"] []
 F_qqz:Fun K "_law_told_all" "_law_told_all" s_qqz A.qqz A.fd_qqz
 m_qwk:mg "_law_holds" = some (.ref A.qwk)
 k_qwk:PySem.W.keepIn K (.ref A.qwk)=true
 b_qwk:Binds K A.fd_qwk ["_law_pieces"] []
 F_qwk:Fun K "_law_holds" "_law_holds" s_qwk A.qwk A.fd_qwk
 m_law:mg "law" = some (.ref A.law)
 k_law:PySem.W.keepIn K (.ref A.law)=true
 b_law:Binds K A.fd_law ["_law_script"] []
 F_law:Fun K "law" "law" s_law A.law A.fd_law
 n_ValueError:mg "ValueError" = none
 n_dict:mg "dict" = none
 n_int:mg "int" = none
 n_isinstance:mg "isinstance" = none
 n_len:mg "len" = none
 n_list:mg "list" = none
 n_min:mg "min" = none
 n_range:mg "range" = none
 n_reversed:mg "reversed" = none
 n_sorted:mg "sorted" = none
 n_str:mg "str" = none
 bm:BMod K mg
 lm_qzq:Lam K A.fd_qzq A.tb_qzq
 mc_qwj:mg "JoinError" = some (.ref A.c_qwj)
 mc_Lost:mg "Lost" = some (.ref A.c_Lost)
 mc_qyq:mg "NoBase" = some (.ref A.c_qyq)
 mc_qzx:mg "NoPiece" = some (.ref A.c_qzx)
 mc_qzj:mg "NoRule" = some (.ref A.c_qzj)
 mc_qzy:mg "NoSense" = some (.ref A.c_qzy)
 mc_qzk:mg "NoWhole" = some (.ref A.c_qzk)
 mc_qzz:mg "SameName" = some (.ref A.c_qzz)
 mc_qzv:mg "TooFar" = some (.ref A.c_qzv)
 mc_qyw:mg "Twice" = some (.ref A.c_qyw)
 mc_qyz:mg "Unmet" = some (.ref A.c_qyz)
 hd_T:PySem.W.hasDictIn K A.c_qyw=true
 ki_qzj:PySem.W.kitOne K (.ref A.c_qyw) (.ref A.c_qzj)=some false
 ki_qzx:PySem.W.kitOne K (.ref A.c_qyw) (.ref A.c_qzx)=some false
 ki_qyw:PySem.W.kitOne K (.ref A.c_qyw) (.ref A.c_qyw)=some true
 ki_qzz:PySem.W.kitOne K (.ref A.c_qyw) (.ref A.c_qzz)=some false
 ki_qyz:PySem.W.kitOne K (.ref A.c_qyw) (.ref A.c_qyz)=some false
 ki_qzv:PySem.W.kitOne K (.ref A.c_qyw) (.ref A.c_qzv)=some false
 ki_qzk:PySem.W.kitOne K (.ref A.c_qyw) (.ref A.c_qzk)=some false
 ki_qyq:PySem.W.kitOne K (.ref A.c_qyw) (.ref A.c_qyq)=some false
 ki_Lost:PySem.W.kitOne K (.ref A.c_qyw) (.ref A.c_Lost)=some false
 ki_qzy:PySem.W.kitOne K (.ref A.c_qyw) (.ref A.c_qzy)=some false
 ki_qwj:PySem.W.kitOne K (.ref A.c_qyw) (.ref A.c_qwj)=some true
 ki_V:PySem.W.kitOne K (.ref A.c_qyw) (.type "ValueError")=some true
 mj:PySem.W.mroIn K A.c_qyw (.ref A.c_qwj)=some true
 xg_qyw:PySem.W.findIn K (.ref A.c_qyw) "__getattribute__" = some (some (.builtin "BaseException.__getattribute__"))
 xn_qyw:PySem.W.findIn K (.ref A.c_qyw) "__getattr__" = some none
 xl_qyw:PySem.W.findIn K (.ref A.c_qyw) "__class__" = some (some (.builtin "object.__class__"))
 xo_qyw:PySem.W.mroIn K A.c_qyw (.type "object")=some true
 xb_qyw:PySem.W.mroIn K A.c_qyw (.type "BaseException")=some true
 sp_cl:PySem.W.specialIn K (.builtin "object.__class__") "__get__" = some (some (.builtin "getset_descriptor.__get__"))
 tk_cl:PySem.W.takesIn K (.builtin "object.__class__")=some true
 ei_qyw:ownInit K A.c_qyw A.qqq=true
 ee_qyw:errIn K A.c_qyw=true
 es_qyw:PySem.W.findIn K (.ref A.c_qyw) "__setattr__" = some (some (.builtin "object.__setattr__"))
 br_qwj:PySem.W.readsIn K A.c_qwj (.type "type")=true
 bf_qwj:PySem.W.findCls K (.ref A.c_qwj) (.type "type") "__init__" = some (.val (.builtin "ValueError.__init__"))
 bg_qwj:PySem.W.specialIn K (.ref A.c_qwj) "__getattribute__" = some (some (.builtin "type.__getattribute__"))
 ct_qwj:PySem.W.instIn K (.ref A.c_qwj) (.type "tuple")=some false
 cb_qwj:PySem.W.mroIn K A.c_qwj (.type "BaseException")=some true
 er_qyw:ErrC K A.c_qyw A.qqq
 bi_qwj:BaseI K A.c_qwj
 no_qyw_name:NoAttr K A.c_qyw "name"
 no_qyw_one:NoAttr K A.c_qyw "one"
 no_qyw_other:NoAttr K A.c_qyw "other"
theorem sc_qqq:FnScope ["self", "name", "one", "other"] ["self", "name", "one", "other"] (defScope s_qqq):=⟨rfl,rfl,rfl,by decide +kernel,rfl,by decide +kernel,by decide +kernel⟩
theorem sc_qzq:FnScope ["pieces", "ordered", "names", "sort", "piece"] ["pieces"] (defScope s_qzq):=⟨rfl,rfl,rfl,by decide +kernel,rfl,by decide +kernel,by decide +kernel⟩
theorem sc_qqk:FnScope ["ordered", "tellers", "piece", "name", "twice", "least"] ["ordered"] (defScope s_qqk):=⟨rfl,rfl,rfl,by decide +kernel,rfl,by decide +kernel,by decide +kernel⟩
theorem sc_qqv:FnScope ["piece", "told_by", "places", "name", "sort", "stretch", "offset"] ["piece", "told_by"] (defScope s_qqv):=⟨rfl,rfl,rfl,by decide +kernel,rfl,by decide +kernel,by decide +kernel⟩
theorem sc_qqy:FnScope ["_law_script", "_law_k"] ["_law_script", "_law_k"] (defScope s_qqy):=⟨rfl,rfl,rfl,by decide +kernel,rfl,by decide +kernel,by decide +kernel⟩
theorem sc_qqx:FnScope ["_law_cell", "_law_k", "_law_signs", "_law_size", "_law_at", "_law_name", "_law_j", "_law_many", "_law_place"] ["_law_cell", "_law_k"] (defScope s_qqx):=⟨rfl,rfl,rfl,by decide +kernel,rfl,by decide +kernel,by decide +kernel⟩
theorem sc_qqw:FnScope ["_law_cell", "_law_names_by", "_law_what", "_law_rest", "_law_soft", "_law_add", "_law_rule"] ["_law_cell", "_law_names_by"] (defScope s_qqw):=⟨rfl,rfl,rfl,by decide +kernel,rfl,by decide +kernel,by decide +kernel⟩
theorem sc_qqj:FnScope ["_law_pieces", "_law_cell", "_law_names_by", "_law_strict", "_law_piece", "_law_name", "_law_sort", "_law_other"] ["_law_pieces", "_law_cell", "_law_names_by", "_law_strict"] (defScope s_qqj):=⟨rfl,rfl,rfl,by decide +kernel,rfl,by decide +kernel,by decide +kernel⟩
theorem sc_qwz:FnScope ["_law_cells", "_law_names_by", "_law_titles_by", "_law_strict", "_law_pieces", "_law_cell", "_law_what", "_law_step", "_law_stretch", "_law_more"] ["_law_cells", "_law_names_by", "_law_titles_by", "_law_strict"] (defScope s_qwz):=⟨rfl,rfl,rfl,by decide +kernel,rfl,by decide +kernel,by decide +kernel⟩
theorem sc_qwv:FnScope ["_law_piece", "_law_stretches"] ["_law_piece"] (defScope s_qwv):=⟨rfl,rfl,rfl,by decide +kernel,rfl,by decide +kernel,by decide +kernel⟩
theorem sc_qwx:FnScope ["_law_found", "_law_due_here", "_law_k"] ["_law_found", "_law_due_here"] (defScope s_qwx):=⟨rfl,rfl,rfl,by decide +kernel,rfl,by decide +kernel,by decide +kernel⟩
theorem sc_qzw:FnScope ["_law_pieces", "_law_strong", "_law_title", "_law_stretches", "_law_told", "_law_row", "_law_name"] ["_law_pieces"] (defScope s_qzw):=⟨rfl,rfl,rfl,by decide +kernel,rfl,by decide +kernel,by decide +kernel⟩
theorem sc_qwq:FnScope ["_law_pieces", "_law_there", "_law_some", "_law_title", "_law_stretches", "_law_told", "_law_rows", "_law_name", "_law_sort", "_law_stretch", "_law_offset"] ["_law_pieces"] (defScope s_qwq):=⟨rfl,rfl,rfl,by decide +kernel,rfl,by decide +kernel,by decide +kernel⟩
theorem sc_qwy:FnScope ["_law_kept", "_law_some"] ["_law_kept"] (defScope s_qwy):=⟨rfl,rfl,rfl,by decide +kernel,rfl,by decide +kernel,by decide +kernel⟩
theorem sc_qww:FnScope ["_law_pieces", "_law_kept", "_law_answer_here", "refusal"] ["_law_pieces"] (defScope s_qww):=⟨rfl,rfl,rfl,by decide +kernel,rfl,by decide +kernel,by decide +kernel⟩
theorem sc_qqz:FnScope ["_law_answer_here", "_law_pieces", "_law_some", "_law_title", "_law_stretches", "_law_told", "_law_row"] ["_law_answer_here", "_law_pieces"] (defScope s_qqz):=⟨rfl,rfl,rfl,by decide +kernel,rfl,by decide +kernel,by decide +kernel⟩
theorem sc_qwk:FnScope ["_law_pieces", "_law_handed", "_law_due_here", "_law_answer_here", "_law_refused"] ["_law_pieces"] (defScope s_qwk):=⟨rfl,rfl,rfl,by decide +kernel,rfl,by decide +kernel,by decide +kernel⟩
theorem sc_law:FnScope ["_law_script", "_law_names_by", "_law_titles_by", "_law_pieces", "_law_more", "_law_name"] ["_law_script"] (defScope s_law):=⟨rfl,rfl,rfl,by decide +kernel,rfl,by decide +kernel,by decide +kernel⟩
theorem cK {CX P w K mg base N qual scope f cd Ar outer s H E}:(cxOf CX P w K mg base N qual scope f cd Ar outer s H E).K=K:=rfl
theorem bK {X:Cx}{N':List Str}{scope:Scope}{fp:List Addr}{s:Shared}{H:Hp}:(blk X N' scope fp s H).K=X.K:=rfl
theorem slen (a b:Str):(a++b).length=a.length+b.length:=Array.size_append
theorem atI_ex {α:Type}{xs:List α}{i:Int}(h1 : -(xs.length:Int)≤i) (h2:i<xs.length):∃v,atI xs i=some v∧v∈xs:=by
 unfold atI ixN
 by_cases h0:0≤i
 ·have hl:i.toNat<xs.length:=by omega
  refine⟨xs[i.toNat],?_,List.getElem_mem hl⟩
  rw[if_pos h0,if_pos h2]
  show xs[i.toNat]?=_
  rw[List.getElem?_eq_getElem hl]
 ·have hl:(i+xs.length).toNat<xs.length:=by omega
  refine⟨xs[(i+xs.length).toNat],?_,List.getElem_mem hl⟩
  rw[if_neg h0,if_pos h1]
  show xs[(i+xs.length).toNat]?=_
  rw[List.getElem?_eq_getElem hl]
def isT (z:Str):Prop:=z=Str.ofString "whole" ∨ z=Str.ofString "high" ∨ z=Str.ofString "low" ∨ z=Str.ofString "near" ∨ z=Str.ofString "split"
def isSort (z:Str):Prop:=z=Str.ofString "tell" ∨ z=Str.ofString "weak" ∨ z=Str.ofString "own"
def isKind (z:Str):Prop:=z=Str.ofString "code" ∨ z=Str.ofString "data"
noncomputable def signs:Str:=Str.ofString "abcdefghijklmnopqrstuvwxyz0123456789_"
noncomputable def sgn (i:Int):Nat:=(atI signs.cps.toList i).getD 0
noncomputable def nmSize (c k:Int):Int:=if c / 256 % 3=0 then 1+k % 16 else 1+c % 16
noncomputable def nmAt (c:Int):Int:=if c / 256 % 3=0 then 16 else c / 16 % (1+c % 16)
noncomputable def nmIx (c k:Int) (j:Int):Int:=(c / (j+3)+j * j+k * (if decide (j=nmAt c)=true then 1 else 0)) % (37 - 11 * (if decide (j=0)=true then 1 else 0))
noncomputable def nmTo (c k:Int) (n:Nat):Str:=⟨((List.range n).map fun j:Nat=>sgn (nmIx c k j)).toArray⟩
noncomputable def nameOf (c k:Int):Str:=nmTo c k (nmSize c k).toNat
def NmIn (c:Int) (z:Str):Prop:=∃k:Int,0≤k∧k<12∧z=nameOf c k
set_option genInjectivity false in
structure FillOk (c:Int) (n:Nat) (f:FillM):Prop where
 rule:isT f.rule
 name:NmIn c f.name
 lo:0≤f.at_
 hi:f.at_<n
 addlo : -2147483648≤f.add
 addhi:f.add<2147483648
 soft:f.soft=true→f.rule=Str.ofString "whole" ∨ f.rule=Str.ofString "high" ∨ f.rule=Str.ofString "low"
set_option genInjectivity false in
structure StOk (c:Int) (s:StM):Prop where
 kind:isKind s.kind
 step:s.step=1∨s.step=2∨s.step=4∨s.step=16∨s.step=65536
 words:∀i∈s.words,0≤i∧i<4294967296
 fills:∀f∈s.fills,FillOk c s.words.length f
 asc:s.fills.Pairwise fun f g=>f.at_<g.at_
 few:s.fills.length≤s.words.length
set_option genInjectivity false in
structure ToldOk (c:Int) (ss:List StM) (n:ToldM):Prop where
 name:NmIn c n.name
 sort:isSort n.sort
 at_:∃(k:Nat) (s:StM),ss[k]?=some s∧n.st=k∧0≤n.off∧n.off≤s.words.length
set_option genInjectivity false in
structure PcOk (c:Int) (p:PcM):Prop where
 sts:∀s∈p.sts,StOk c s
 nms:∀n∈p.nms,ToldOk c p.sts n
 nd:(p.nms.map ToldM.name).Nodup
noncomputable def _root_.L2.PcM.size (p:PcM):Nat:=1+p.sts.length+(p.sts.map fun s=>s.words.length).sum+p.nms.length
set_option genInjectivity false in
structure Drawn (c t:Int) (n:Nat) (ps:List PcM):Prop where
 ok:∀p∈ps,PcOk c p
 few:ps.length≤12
 names:ps.map PcM.name=(List.range ps.length).map fun i:Nat=>nameOf t i
 size:(ps.map PcM.size).sum≤n
set_option genInjectivity false in
structure DC (H0:Hp) (a L:Addr) (c t v:Int) (i:Nat) (ps:List PcM) (σ:L2.St) (H:Hp):Prop where
 st:∃b7 b8 b9,σ=[some (V.ref a),some (V.int c),some (V.int t),some (V.bl true),some (V.ref L),some (V.int v),some (V.int (v % 9)),b7,b8,b9]
 same:Same H0 H
 pcs:Pcs H L ps
 new:∀b∈L::listsOf ps,H0 b=none
 dr:Drawn c t i ps
 lt:i<61
theorem DC.mono {H0:Hp}{a L:Addr}{c t v:Int}{i:Nat}{ps:List PcM}{σ:L2.St}{H H':Hp}(d:DC H0 a L c t v i ps σ H) (e:Same H H'):DC H0 a L c t v i ps σ H':=⟨d.st,d.same.trans e,d.pcs.mono e,d.new,d.dr,d.lt⟩
def DN (H0:Hp) (a L:Addr) (c t:Int) (i:Nat) (D:Ends):Prop:=∀ps σ H,(∃b5 b6 b7 b8 b9,σ=[some (V.ref a),some (V.int c),some (V.int t),some (V.bl true),some (V.ref L),b5,b6,b7,b8,b9])→Same H0 H→Pcs H L ps→(∀b∈L::listsOf ps,H0 b=none)→Drawn c t (i+1) ps→D.nx σ H
def dB1:TS:=fun D σ H=>∃H0 a L c t v i ps,DC H0 a L c t v i ps σ H∧ps.length<12∧DN H0 a L c t i D
def dB2:TS:=fun D σ H=>∃H0 a L c t v i ps p,DC H0 a L c t v i (ps++[p]) σ H∧DN H0 a L c t i D
def dB3:TS:=fun D σ H=>∃H0 a L c t v i ps p ss s,DC H0 a L c t v i (ps++[p]) σ H∧p.sts=ss++[s]∧DN H0 a L c t i D
def dB4:TS:=fun D σ H=>∃H0 a L c t v i ps p ss s,DC H0 a L c t v i (ps++[p]) σ H∧p.sts=ss++[s]∧DN H0 a L c t i D
def dT1:TT:=fun σ H R=>∃H0 a L c t v i ps,DC H0 a L c t v i ps σ H∧∀(b:Bool) H',Same H H'→(b=true→ps.length<12)→(b=false→ps≠[])→R b H'
def dT2:TT:=fun σ H R=>∃H0 a L c t v i ps p,DC H0 a L c t v i (ps++[p]) σ H∧∀(b:Bool) H',Same H H'→(b=false→p.sts≠[])→R b H'
def sp_cellat (K:Wf):Sp:=fun vs H Q _=>∃(a:Addr) (ns:List Int) (k:Int),vs=[.ref a,.int k]∧SqL K H a (ns.map V.int)∧ns.length≤63∧0≤k∧∀i:Int,Q (.int i) H
def sp_nameby:Sp:=fun vs H Q _=>∃c k:Int,vs=[.int c,.int k]∧Q (.str (nameOf c k)) H
def sp_wordrow:Sp:=fun vs H Q _=>∃c n:Int,vs=[.int c,.int n]∧∀H',Same H H'→Q .non H'∧∀f:FillM,FillOk n 1 { f with at_:=0 }→H' f.a=some (.tup [.str f.rule,.str f.name,.int f.add,.bl f.soft])→H f.a=none→Q (.ref f.a) H'
def sp_toldby (K:Wf):Sp:=fun vs H Q _=>∃(L:Addr) (c n:Int) (ps:List PcM) (p:PcM) (ss:List StM) (s:StM),vs=[.ref L,.int c,.int n,.bl true]∧Pcs H L (ps++[p])∧p.sts=ss++[s]∧ps.length≤12∧p.nms.length≤61∧p.sts.length≤61∧s.words.length≤61∧
 (∀H',Same H H'→Q .non H')∧∀(m:ToldM) (H':Hp),Same H H'→m.At H'→NmIn n m.name→m.name∉p.nms.map ToldM.name→isSort m.sort→m.st=ss.length→m.off=s.words.length→Q .non (upd H' p.ln (.lst (p.nms.map ToldM.v++[m.v])))
def sp_drawn (K:Wf):Sp:=fun vs H Q _=>∃(a:Addr) (ns:List Int) (c t:Int),vs=[.ref a,.int c,.int t,.bl true]∧SqL K H a (ns.map V.int)∧ns.length≤61∧∀(L:Addr) (ps:List PcM) (H':Hp),Same H H'→Pcs H' L ps→(∀b∈L::listsOf ps,H b=none)→Drawn c t ns.length ps→Q (.ref L) H'
def sp_copy (K:Wf):Sp:=fun vs H Q _=>∃p:PcM,vs=[p.v]∧p.At H∧p.sts.length≤61∧p.nms.length≤62∧(∀s∈p.sts,s.words.length≤61∧s.fills.length≤61)∧∀(q:PcM) (H':Hp),Same H H'→q.At H'→p.Copy q→(∀b∈q.lists,H b=none)→q.lists.Nodup→Q q.v H'
set_option genInjectivity false in
structure TabM where
 name:Str
 t:Addr
 a:Str
 b:Int
 c:Int
noncomputable def TabM.kv (m:TabM):Key×V:=(.inr m.name,.ref m.t)
def TabM.At (H:Hp) (m:TabM):Prop:=H m.t=some (.tup [.str m.a,.int m.b,.int m.c])
set_option genInjectivity false in
structure Tab (H:Hp) (d:Addr) (ms:List TabM):Prop where
 top:H d=some (.dK (ms.map TabM.kv))
 at_:∀m∈ms,TabM.At H m
noncomputable def lookT (ms:List TabM) (z:Str):Option TabM:=ms.find? fun m=>decide (m.name=z)
noncomputable def putT (ms:List TabM) (m:TabM):List TabM:=if (ms.any fun n=>decide (n.name=m.name))=true then ms.map (fun n=>if n.name=m.name then m else n) else ms++[m]
theorem any_kv (ms:List TabM) (z:Str):((ms.map TabM.kv).any fun kv=>decide (kv.1=(.inr z:Key)))=ms.any fun n=>decide (n.name=z):=by
 rw[List.any_map]
 congr 1
 funext m
 simp[TabM.kv]
theorem putK_T (ms:List TabM) (m:TabM):putK (ms.map TabM.kv) (.inr m.name) (.ref m.t)=(putT ms m).map TabM.kv:=by
 unfold putK putT
 rw[any_kv]
 by_cases h:(ms.any fun n=>decide (n.name=m.name))=true
 ·rw[if_pos h,if_pos h,List.map_map,List.map_map]
  congr 1
  funext n
  by_cases e:n.name=m.name
  ·simp[TabM.kv,e]
  ·simp[TabM.kv,e]
 ·rw[if_neg h,if_neg h,List.map_append];rfl
theorem putT_mem {ms:List TabM}{m n:TabM}(h:n∈putT ms m):n∈ms∨n=m:=by
 unfold putT at h
 split at h
 ·obtain⟨x,hx,e⟩:=List.mem_map.mp h
  split at e
  ·exact .inr e.symm
  ·exact .inl (e▸hx)
 ·rcases List.mem_append.mp h with z | z
  ·exact .inl z
  ·exact .inr (List.mem_singleton.mp z)
theorem putT_len {ms:List TabM}{m:TabM}:(putT ms m).length≤ms.length+1:=by
 unfold putT
 split
 ·rw[List.length_map];omega
 ·rw[List.length_append];simp
theorem putT_new {ms:List TabM}{m:TabM}(h:m.name∉ms.map TabM.name):putT ms m=ms++[m]:=by
 unfold putT
 rw[if_neg]
 intro z
 obtain⟨n,hn,e⟩:=List.any_eq_true.mp z
 exact h (List.mem_map.mpr ⟨n,hn,of_decide_eq_true e⟩)
theorem Tab.mono {H H':Hp}{d:Addr}{ms:List TabM}(h:Tab H d ms) (e:Same H H'):Tab H' d ms:=⟨e _ _ h.top,fun m hm=>e _ _ (h.at_ m hm)⟩
theorem Tab.put {H:Hp}{d:Addr}{ms:List TabM}{m:TabM}(h:Tab H d ms) (hm:TabM.At H m):Tab (upd H d (.dK (putK (ms.map TabM.kv) (.inr m.name) (.ref m.t)))) d (putT ms m):=by
 refine⟨by rw[zz1,putK_T],fun n hn => ?_⟩
 have tup:∀n:TabM,TabM.At H n→TabM.At (upd H d (.dK (putK (ms.map TabM.kv) (.inr m.name) (.ref m.t)))) n:=fun n hn=>by
  unfold TabM.At
  rw[upd_ne (ne_of hn h.top (by intro z;cases z))]
  exact hn
 rcases putT_mem hn with z | z
 ·exact tup n (h.at_ n z)
 ·rw[z];exact tup m hm
noncomputable def sOwn:Str:=Str.ofString "own"
def sp_places:Sp:=fun vs H Q _=>∃(p:PcM) (z:Str),vs=[p.v,.str z]∧p.At H∧p.nms.length≤61∧(p.nms.map ToldM.name).Nodup∧
 ∀d ms H',Same H H'→Tab H' d ms→ms.map (fun m=>(m.name,m.a,m.b,m.c))=(p.nms.filter fun n=>decide (n.sort=z)).map (fun n=>(n.name,p.name,n.st,n.off))→H d=none→Q (.ref d) H'
set_option genInjectivity false in
structure PL (H:Hp) (L:Addr) (ps:List PcM):Prop where
 top:H L=some (.lst (ps.map PcM.v))
 at_:∀p∈ps,p.At H
noncomputable def sTell:Str:=Str.ofString "tell"
noncomputable def sWeak:Str:=Str.ofString "weak"
noncomputable def rowsN (ps:List PcM):List (Str×ToldM):=ps.flatMap fun p=>p.nms.map fun n=>(p.name,n)
noncomputable def rvl (r:Str×ToldM):Str×Int×Int:=(r.1,r.2.st,r.2.off)
noncomputable def TabM.vl (m:TabM):Str×Int×Int:=(m.a,m.b,m.c)
def leN (a b:Str):Prop:=¬b.cps.toList<a.cps.toList
set_option genInjectivity false in
structure NmOk (R:List (Str×ToldM)) (ms:List TabM):Prop where
 nd:(ms.map TabM.name).Nodup
 som:∀z m,lookT ms z=some m→(∃r∈R,r.2.name=z∧r.2.sort=sTell∧TabM.vl m=rvl r)∨((∀r∈R,r.2.name=z→r.2.sort≠sTell)∧∃r∈R,r.2.name=z∧r.2.sort=sWeak∧TabM.vl m=rvl r∧∀r'∈R,r'.2.name=z→r'.2.sort=sWeak→leN r.1 r'.1)
 non:∀z,lookT ms z=none→∀r∈R,r.2.name=z→r.2.sort≠sTell∧r.2.sort≠sWeak
noncomputable def lamP:Pos:=⟨56,33,56,55⟩
noncomputable def lamQ:Str:=(Str.ofString "names_of" ++ Str.ofString ".<locals>.")++Str.ofString "<lambda>"
noncomputable def strR (ps:List PcM):List (Str×Str):=ps.flatMap fun p=>(p.nms.filter fun n=>decide (n.sort=sTell)).map fun n=>(n.name,p.name)
noncomputable def grp (R:List (Str×Str)) (z:Str):List Str:=(R.filter fun r=>decide (r.1=z)).map (·.2)
set_option genInjectivity false in
structure PsX (ps:List PcM):Prop where
 few:ps.length≤14
 nd:(ps.map PcM.name).Nodup
 nms:∀p∈ps,p.nms.length≤61∧(p.nms.map ToldM.name).Nodup
 sg:∀p∈ps,(p.name.length≤16∧Sg p.name)∧∀n∈p.nms,(n.name.length≤16∧Sg n.name)∧isSort n.sort
 rl:(rowsN ps).length≤63
def LeastD (R:List (Str×Str)) (z:Str):Prop:=2≤(grp R z).length∧∀z',2≤(grp R z').length→leS z z'
def NoD (ps:List PcM):Prop:=∀z,(grp (strR ps) z).length≤1
noncomputable def xdT (z a b:Str):HO:=.xd [("name", .str z),("one", .str a),("other", .str b)]
def sp_tinit (A:Ad):Sp:=fun vs H Q _=>∃(a:Addr) (n p q:Str),vs=[.ref a,.str n,.str p,.str q]∧H a=some (XN a A.c_qyw none)∧(n.length≤16∧Sg n)∧(p.length≤16∧Sg p)∧(q.length≤16∧Sg q)∧
 ∀d H',H d=none→d≠a→(∀b o,b≠a→H b=some o→H' b=some o)→H' a=some (XN a A.c_qyw (some d))→H' d=some (XD d [("name", .str n),("one", .str p),("other", .str q)])→Q .non H'
def sp_twiceX (A:Ad):Sp:=fun vs H Q E=>∃(L:Addr) (ps:List PcM),vs=[.ref L]∧PL H L ps∧PsX ps∧(NoD ps→∀H',Same H H'→Q .non H')∧
 ∀(z a b:Str) (r:List Str) (d:Addr) (H':Hp),Same H H'→LeastD (strR ps) z→grp (strR ps) z=a::b::r→H' d=some (xdT z a b)→E (.ref A.c_qyw) (some d) H'
def sp_namesX (A:Ad):Sp:=fun vs H Q E=>∃(L:Addr) (ps:List PcM),vs=[.ref L]∧PL H L ps∧PsX ps∧TbOk A.tb_qzq lamP lamQ H∧
 (∀(d:Addr) (ms:List TabM) (H':Hp),NoD ps→SameX A.tb_qzq H H'→TbOk A.tb_qzq lamP lamQ H'→Tab H' d ms→NmOk (rowsN ps) ms→H d=none→Q (.ref d) H')∧
 ∀(so:List PcM) (z a b:Str) (r:List Str) (d:Addr) (H':Hp),so.Perm ps→(so.map PcM.name).Pairwise leS→LeastD (strR so) z→grp (strR so) z=a::b::r→SameX A.tb_qzq H H'→TbOk A.tb_qzq lamP lamQ H'→H' d=some (xdT z a b)→E (.ref A.c_qyw) (some d) H'
noncomputable def addW (W:List Str) (y:Str):List Str:=if y∈W then W else W++[y]
noncomputable def wkv (y:Str):Key×V:=(.inr y,.bl true)
noncomputable def Due (ps:List PcM):Option (Str×Str×Str)→Prop
 | none=>NoD ps
 | some (z,a,b)=>LeastD (strR ps) z∧∃(so r:List Str),so.Perm (grp (strR ps) z)∧so.Pairwise leS∧so=a::b::r
noncomputable def DueV (H:Hp) (v:V):Option (Str×Str×Str)→Prop
 | none=>v=.non
 | some (z,a,b)=>∃l,v=.ref l∧H l=some (.lst [.str z,.str a,.str b])
def CpB (p:PcM):Prop:=p.sts.length≤61∧p.nms.length≤62∧∀s∈p.sts,s.words.length≤61∧s.fills.length≤61
def sp_due:Sp:=fun vs H Q _=>∃(L:Addr) (ps:List PcM),vs=[.ref L]∧PL H L ps∧PsX ps∧∀v o H',Same H H'→Due ps o→DueV H' v o→Q v H'
def sp_aloneT (A:Ad):Sp:=fun vs H Q _=>∃(a:Addr) (dx:Option Addr),vs=[.ref a]∧H a=some (XO a A.c_qyw dx)∧DxOk dx H∧∀H',Same H H'→Q (.bl true) H'
def sp_answer (A:Ad):Sp:=fun vs H Q _=>∃(L:Addr) (ps:List PcM),vs=[.ref L]∧PL H L ps∧PsX ps∧TbOk A.tb_qzq lamP lamQ H∧
 ∀(t:Addr) (u v:V) (o:Option (Str×Str×Str)) (H':Hp),SameX A.tb_qzq H H'→TbOk A.tb_qzq lamP lamQ H'→H' t=some (.tup [u,v])→Due ps o→DueV H' v o→(o=none→∃d ms,u=.ref d∧Tab H' d ms∧NmOk (rowsN ps) ms)→(o≠none→u=.non)→Q (.ref t) H'
def sp_toldall:Sp:=fun vs H Q _=>∃(d L:Addr) (ms:List TabM) (ps:List PcM),vs=[.ref d,.ref L]∧Tab H d ms∧PL H L ps∧PsX ps∧NmOk (rowsN ps) ms∧∀H',Same H H'→Q (.bl true) H'
def sp_textsT:Sp:=fun vs H Q _=>∃(a b:Addr) (ss:List Str),vs=[.ref a,.ref b]∧H a=some (.lst (ss.map V.str))∧H b=some (.lst (ss.map V.str))∧ss.length≤100∧Q (.bl true) H
def sp_weaker:Sp:=fun vs H Q _=>∃(L:Addr) (ps:List PcM),vs=[.ref L]∧PL H L ps∧PsX ps∧(∀p∈ps,CpB p)∧∀(L':Addr) (qs:List PcM) (H':Hp),Same H H'→PL H' L' qs→PsX qs→(∀q∈qs,CpB q)→Q (.ref L') H'
def sp_holdsT (A:Ad):Sp:=fun vs H Q _=>∃(L:Addr) (ps:List PcM),vs=[.ref L]∧PL H L ps∧PsX ps∧(∀p∈ps,CpB p)∧TbOk A.tb_qzq lamP lamQ H∧∀H',SameX A.tb_qzq H H'→TbOk A.tb_qzq lamP lamQ H'→Q (.bl true) H'
def sp_law (K:Wf) (tb:Addr):Sp:=fun vs H Q _=>∃(a:Addr) (ns:List Int),vs=[.ref a]∧SqL K H a (ns.map V.int)∧ns.length≤63∧H tb=some (.tbl #[])∧∀H',Q (.bl true) H'
noncomputable def aF4:List V:=[.bl false,.bl false,.bl true,.bl false]
noncomputable def aF7:List V:=aF4++[.bl false,.bl false,.bl false]
noncomputable def aF10:List V:=aF7++[.bl false,.bl false,.bl false]
def aS1 (K:Wf) (A:Ad):TS:=fun D σ H=>∃(a:Addr) (b1:Option V),σ=[some (.ref a),b1]∧TyX K H (.ref a) (.ref A.c_qyw)∧∀q H',Same H H'→H' q=some (.lst aF4)→D.nx [some (.ref a),some (.ref q)] H'
def aS2 (K:Wf) (A:Ad):TS:=fun D σ H=>∃(a l:Addr),σ=[some (.ref a),some (.ref l)]∧H l=some (.lst aF4)∧(∀{H'},Same H H'→TyX K H' (.ref a) (.ref A.c_qyw))∧∀q H',Same H H'→H' q=some (.lst aF7)→D.nx [some (.ref a),some (.ref q)] H'
def aS3 (K:Wf) (A:Ad):TS:=fun D σ H=>∃(a l:Addr),σ=[some (.ref a),some (.ref l)]∧H l=some (.lst aF7)∧(∀{H'},Same H H'→TyX K H' (.ref a) (.ref A.c_qyw))∧∀q H',Same H H'→H' q=some (.lst aF10)→D.nx [some (.ref a),some (.ref q)] H'
def lB (A:Ad):TS:=fun D σ H=>∃(L:Addr) (ps:List PcM) (b0 b1 b2 b4 b5:Option V),σ=[b0,b1,b2,some (.ref L),b4,b5]∧PL H L ps∧PsX ps∧(∀p∈ps,CpB p)∧TbOk A.tb_qzq lamP lamQ H∧∀H',D.rt (.bl true) H'
def NewQ (t k:Int) (z:Str) (q:PcM):Prop:=q.name=nameOf t k∧q.nms.map (fun n=>(n.name,n.sort))=[(z,sTell)]∧q.sts.length≤1∧∀s∈q.sts,s.words.length≤1∧s.fills.length≤1
def aQ1:TS:=fun D σ H=>∃(b0 b1 b4:Option V) (t:Int) (L:Addr) (z:Str) (ps:List PcM),σ=[b0,b1,some (.int t),some (.ref L),b4,some (.str z)]∧PL H L ps∧(∀p∈ps,L∉p.lists)∧ps.length≤100∧∀(q:PcM) (H':Hp),SameX L H H'→PL H' L (ps++[q])→(∀p∈ps++[q],L∉p.lists)→NewQ t 13 z q→D.nx [b0,b1,some (.int t),some (.ref L),b4,some (.str z)] H'
def aQ2:TS:=fun D σ H=>∃(b0 b1 b4:Option V) (t:Int) (L:Addr) (z:Str) (ps:List PcM),σ=[b0,b1,some (.int t),some (.ref L),b4,some (.str z)]∧PL H L ps∧(∀p∈ps,L∉p.lists)∧ps.length≤100∧∀(q:PcM) (H':Hp),SameX L H H'→PL H' L (q::ps)→NewQ t 12 z q→D.nx [b0,b1,some (.int t),some (.ref L),b4,some (.str z)] H'
local macro_rules | `(tactic| walk_at "rdd") => `(tactic| (try dsimp only [tSeq, tAsg, gName, tC, tOp, tUn, tVar, tRet, tIfS, tOr, tAnd, tNot, tTest, tB, tChain, tCB, tCons, tNil, tCall, tSl, tNoPart, tPart, tNext, tDrop, tLst, tTup, tYes, tNotV, tAndV, tOrV, L2.start, List.set, List.map, List.length, List.replicate, List.cons_append, List.nil_append, List.append_nil, cK, bK, rI0, rI, rU, rIxS, rIxL, rIxT, tRetN, rSlL, rIn, rCatT, gTup, gCons, gNil, tRaiseI, tXInit, tDGet, tDGet1, tDGet2, tDIn, tDNotIn, sDPut, tDNewK, rDictOf, rEqDict, rCount, tCompX_list, xCall, sXFld, tXFld, rSlS, rEq, rNe, sc0, sc1, sc2, sc3, sc4, sc5, sc6, sc7, sc8, sc9, sc10, sc11, sc12, sc13, rCatS, rIsi, LenV, rAll, tFor_list, tFor_tup, tFor_str, tFor_rng1, tFor_rng2, tComp_list, tComp_tup, tComp_str, tComp_rng1, blkSt, tBM, rAppend, rStarts, rIndex, tIf, tMake, tMeth, sFld, tFld, tRepr, tFmt, jNil, jCons, tJoined, rJoin, rIsx, rIst, tRaise, tTryAs, tTry0, un1, xMeth, xDrop, xSet, xRet, xOf, xSeq, List.getElem?_cons_zero, List.getElem?_cons_succ, Option.some.injEq, V.int.injEq, V.str.injEq, V.bl.injEq, V.ref.injEq, V.ty.injEq, List.cons.injEq, exists_eq_left', exists_eq_left, exists_eq', and_assoc, if_true, if_false, Bool.not_false, Bool.not_true, Bool.not_not, Bool.false_eq_true, exists_and_left, and_true, true_and, List.set_cons_zero, List.set_cons_succ, Option.join_some, false_and, or_false, false_or, exists_false, sp_cellat, sp_nameby, sp_wordrow, sp_toldby, sp_drawn, sp_copy, sp_places, sp_tinit, sp_twiceX, sp_namesX, sp_due, sp_aloneT, sp_answer, sp_toldall, sp_textsT, sp_weaker, sp_holdsT, rSlT, rInD, rUpdD, tFor_rev, tFor_dict, tFor_dictR, tComp_dict, tSortL, tDSd, tLRev, rMinL, rSortedD, rSorted, rInsert, Ends.nx, Nat.reduceSub, Nat.reduceAdd]))
local macro_rules | `(tactic| walk_at "rd") => `(tactic| (walk_at "rdd"; (try simp only [tSeq, tAsg, gName, tC, tOp, tUn, tVar, tRet, tIfS, tOr, tAnd, tNot, tTest, tB, tChain, tCB, tCons, tNil, tCall, tSl, tNoPart, tPart, tNext, tDrop, tLst, tTup, tYes, tNotV, tAndV, tOrV, L2.start, List.set, List.map, List.length, List.replicate, List.cons_append, List.nil_append, List.append_nil, cK, bK, rI0, rI, rU, rIxS, rIxL, rIxT, tRetN, rSlL, rIn, rCatT, gTup, gCons, gNil, tRaiseI, tXInit, tDGet, tDGet1, tDGet2, tDIn, tDNotIn, sDPut, tDNewK, rDictOf, rEqDict, rCount, tCompX_list, xCall, sXFld, tXFld, rSlS, rEq, rNe, sc0, sc1, sc2, sc3, sc4, sc5, sc6, sc7, sc8, sc9, sc10, sc11, sc12, sc13, rCatS, rIsi, LenV, rAll, tFor_list, tFor_tup, tFor_str, tFor_rng1, tFor_rng2, tComp_list, tComp_tup, tComp_str, tComp_rng1, blkSt, tBM, rAppend, rStarts, rIndex, tIf, tMake, tMeth, sFld, tFld, tRepr, tFmt, jNil, jCons, tJoined, rJoin, rIsx, rIst, tRaise, tTryAs, tTry0, un1, xMeth, xDrop, xSet, xRet, xOf, xSeq, List.getElem?_cons_zero, List.getElem?_cons_succ, Option.some.injEq, V.int.injEq, V.str.injEq, V.bl.injEq, V.ref.injEq, V.ty.injEq, List.cons.injEq, exists_eq_left', exists_eq_left, exists_eq', and_assoc, if_true, if_false, Bool.not_false, Bool.not_true, Bool.not_not, Bool.false_eq_true, exists_and_left, and_true, true_and, List.set_cons_zero, List.set_cons_succ, Option.join_some, false_and, or_false, false_or, exists_false, sp_cellat, sp_nameby, sp_wordrow, sp_toldby, sp_drawn, sp_copy, sp_places, sp_tinit, sp_twiceX, sp_namesX, sp_due, sp_aloneT, sp_answer, sp_toldall, sp_textsT, sp_weaker, sp_holdsT, rSlT, rInD, rUpdD, tFor_rev, tFor_dict, tFor_dictR, tComp_dict, tSortL, tDSd, tLRev, rMinL, rSortedD, rSorted, rInsert, Ends.nx, Nat.reduceSub, Nat.reduceAdd, reduceCtorEq])))
section
variable {P:Program}{w:World}{K:Wf}{mg:So}{base:Heap}{A:Ad}
theorem nmTo_succ (c k:Int) (n:Nat):nmTo c k (n+1)=nmTo c k n++(⟨#[sgn (nmIx c k n)]⟩:Str):=by
 show (⟨_⟩:Str)=⟨_⟩
 congr 1
 rw[List.range_succ,List.map_append]
 apply Array.ext'
 unfold nmTo
 simp
theorem nmTo_len (c k:Int) (n:Nat):(nmTo c k n).length=n:=by
 show ((List.range n).map _).toArray.size=n
 simp
theorem sgn_at {i:Int}(h0:0≤i) (h1:i<37):atI signs.cps.toList i=some (sgn i):=by
 have hl:signs.cps.toList.length=37:=by decide +kernel
 obtain⟨v,hv,_⟩:=atI_ex (xs:=signs.cps.toList) (i:=i) (by omega) (by omega)
 unfold sgn
 rw[hv];rfl
theorem nmIx_lo (c k:Int) (j:Nat):0≤nmIx c k j∧nmIx c k j<37:=by
 unfold nmIx
 generalize c / ((j:Int)+3)+(j:Int) * (j:Int)+k * (if decide ((j:Int)=nmAt c)=true then 1 else 0)=x
 split<;>omega
theorem sgn_sg {i:Int}(h0:0≤i) (h1:i<37):sgn i<16 ^ 8:=by
 have hl:signs.cps.toList.length=37:=by decide +kernel
 obtain⟨v,hv,hm⟩:=atI_ex (xs:=signs.cps.toList) (i:=i) (by omega) (by omega)
 unfold sgn
 rw[hv]
 have all:signs.cps.toList.all (fun c=>decide (c<16 ^ 8))=true:=by decide +kernel
 exact of_decide_eq_true (List.all_eq_true.mp all v hm)
theorem nameOf_ok (c k:Int) (hk:0≤k):(nameOf c k).length≤16∧Sg (nameOf c k):=by
 unfold nameOf
 refine⟨?_,fun x hx => ?_⟩
 ·rw[nmTo_len];unfold nmSize;split<;>omega
 ·unfold nmTo at hx
  simp only[List.mem_toArray,List.mem_map,List.mem_range]at hx
  obtain⟨j,_,rfl⟩:=hx
  exact sgn_sg (nmIx_lo c k j).1 (nmIx_lo c k j).2
theorem G_qqy (T:Txt K mg A):FnOk P w K mg base CX0 1 A.qqy A.fd_qqy ["_law_script", "_law_k"] (sp_cellat K):=by
 refine T.F_qqy.ok sc_qqy (fun vs H Q E h => ?_) (fun cdv Ar outer s H vs Q E hr h => ?_)
 ·obtain⟨a,ns,k,rfl,_⟩:=h
  rfl
 ·obtain⟨a,ns,i,rfl,hS,hl,h0,k⟩:=h
  refine⟨_,(@zz2 _ _ _ _ _ (@ps_if _ _ _ _ _ _ _ _ (@zz11 _ _ _ _ _ _ _ _ op_lt (@pv _ 1 _ _ (by rfl) (by walk_at "p") (by decide) (by decide)) (@zz6 _ _ _ _ _ _ _ _ _ (call_lenK (K:=K) rfl) (by rfl) T.n_len bt_len (@zz0 _ _ _ _ _ (@pv _ 0 _ _ (by rfl) (by walk_at "p") (by decide) (by decide)) (@pa_nil _) (by rfl)) (by decide) (by decide) (by rfl) (by rfl)) (nomark _)) (@zz5 _ _ _ (@ps_ret _ _ _ _ (@pe_ix _ _ _ _ _ _ _ (zz16 (K:=K) rfl) (@pv _ 0 _ _ (by rfl) (by walk_at "p") (by decide) (by decide)) (@pv _ 1 _ _ (by rfl) (by walk_at "p") (by decide) (by decide)) (fun _ _=>rfl)))) (@zz13 _)) (@zz5 _ _ _ (@ps_ret _ _ _ _ (@pe_int _ _ _ _)))),?_⟩
  walk_at "rd"
  refine⟨ns.length,.inl ⟨_,hS,by simp⟩,ite2 (fun hi => ?_) (fun _=>k 0)⟩
  have hi:=of_decide_eq_true hi
  obtain⟨v,hv,hm⟩:=atI_ex (xs:=ns.map V.int) (i:=i) (by simp;omega) (by simpa using hi)
  obtain⟨j,_,rfl⟩:=List.mem_map.mp hm
  exact⟨_,hS,_,hv,k j⟩
theorem G_qqx (T:Txt K mg A):FnOk P w K mg base CX0 1 A.qqx A.fd_qqx ["_law_cell", "_law_k"] sp_nameby:=by
 refine T.F_qqx.ok sc_qqx (fun vs H Q E h => ?_) (fun cdv Ar outer s H vs Q E hr h => ?_)
 ·obtain⟨c,k,rfl,_⟩:=h
  rfl
 ·obtain⟨c,i,rfl,k⟩:=h
  refine⟨_,(@zz2 _ _ _ _ _ (@ps_set _ _ 2 _ _ _ _ sc_qqx.nd rfl (by walk_at "o") (@pe_str _ _ _ _) (by rfl) (by walk_at "q")) (@zz2 _ _ _ _ _ (@ps_set _ _ 3 _ _ _ _ sc_qqx.nd rfl (by walk_at "o") (@pe_op _ _ _ _ _ _ _ _ op_add (@pe_int _ _ _ _) (@pe_op _ _ _ _ _ _ _ _ op_mod (@pv _ 0 _ _ (by rfl) (by walk_at "p") (by decide) (by decide)) (@pe_int _ _ _ _))) (by rfl) (by walk_at "q")) (@zz2 _ _ _ _ _ (@ps_set _ _ 4 _ _ _ _ sc_qqx.nd rfl (by walk_at "o") (@pe_op _ _ _ _ _ _ _ _ op_mod (@pe_op _ _ _ _ _ _ _ _ op_fdiv (@pv _ 0 _ _ (by rfl) (by walk_at "p") (by decide) (by decide)) (@pe_int _ _ _ _)) (@pv _ 3 _ _ (by rfl) (by walk_at "p") (by decide) (by decide))) (by rfl) (by walk_at "q")) (@zz2 _ _ _ _ _ (@ps_if _ _ _ _ _ _ _ _ (@zz11 _ _ _ _ _ _ _ _ op_eq (@pe_op _ _ _ _ _ _ _ _ op_mod (@pe_op _ _ _ _ _ _ _ _ op_fdiv (@pv _ 0 _ _ (by rfl) (by walk_at "p") (by decide) (by decide)) (@pe_int _ _ _ _)) (@pe_int _ _ _ _)) (@pe_int _ _ _ _) (nomark _)) (@zz2 _ _ _ _ _ (@ps_set _ _ 3 _ _ _ _ sc_qqx.nd rfl (by walk_at "o") (@pe_op _ _ _ _ _ _ _ _ op_add (@pe_int _ _ _ _) (@pe_op _ _ _ _ _ _ _ _ op_mod (@pv _ 1 _ _ (by rfl) (by walk_at "p") (by decide) (by decide)) (@pe_int _ _ _ _))) (by rfl) (by walk_at "q")) (@zz5 _ _ _ (@ps_set _ _ 4 _ _ _ _ sc_qqx.nd rfl (by walk_at "o") (@pe_int _ _ _ _) (by rfl) (by walk_at "q")))) (@zz13 _)) (@zz2 _ _ _ _ _ (@ps_set _ _ 5 _ _ _ _ sc_qqx.nd rfl (by walk_at "o") (@pe_str _ _ _ _) (by rfl) (by walk_at "q")) (@zz2 _ _ _ _ _ (@ps_for _ _ _ _ _ _ _ _ PassesOwn.never rfl (@pi_range1 _ _ _ _ _ _ rfl T.n_range (@zz0 _ _ _ _ _ (@pv _ 3 _ _ (by rfl) (by walk_at "p") (by decide) (by decide)) (@pa_nil _) (by rfl)) (by rfl)) (@zz7 _ _ 6 _ sc_qqx.nd rfl (by walk_at "o") (by walk_at "q")) (@zz2 _ _ _ _ _ (@ps_set _ _ 7 _ _ _ _ sc_qqx.nd rfl (by walk_at "o") (@pe_op _ _ _ _ _ _ _ _ op_sub (@pe_int _ _ _ _) (@pe_op _ _ _ _ _ _ _ _ op_mul (@pe_int _ _ _ _) (@pe_callTy _ _ _ _ _ _ _ _ _ call_int1 (by rfl) T.n_int bt_int (@zz0 _ _ _ _ _ (@pe_cmpR _ _ _ _ _ _ _ _ op_eq (@pv _ 6 _ _ (by rfl) (by walk_at "p") (by decide) (by decide)) (@pe_int _ _ _ _) (nomark _)) (@pa_nil _) (by rfl)) (by decide) (by decide) (by rfl) (by rfl)))) (by rfl) (by walk_at "q")) (@zz2 _ _ _ _ _ (@ps_set _ _ 8 _ _ _ _ sc_qqx.nd rfl (by walk_at "o") (@pe_op _ _ _ _ _ _ _ _ op_add (@pe_op _ _ _ _ _ _ _ _ op_add (@pe_op _ _ _ _ _ _ _ _ op_fdiv (@pv _ 0 _ _ (by rfl) (by walk_at "p") (by decide) (by decide)) (@pe_op _ _ _ _ _ _ _ _ op_add (@pv _ 6 _ _ (by rfl) (by walk_at "p") (by decide) (by decide)) (@pe_int _ _ _ _))) (@pe_op _ _ _ _ _ _ _ _ op_mul (@pv _ 6 _ _ (by rfl) (by walk_at "p") (by decide) (by decide)) (@pv _ 6 _ _ (by rfl) (by walk_at "p") (by decide) (by decide)))) (@pe_op _ _ _ _ _ _ _ _ op_mul (@pv _ 1 _ _ (by rfl) (by walk_at "p") (by decide) (by decide)) (@pe_callTy _ _ _ _ _ _ _ _ _ call_int1 (by rfl) T.n_int bt_int (@zz0 _ _ _ _ _ (@pe_cmpR _ _ _ _ _ _ _ _ op_eq (@pv _ 6 _ _ (by rfl) (by walk_at "p") (by decide) (by decide)) (@pv _ 4 _ _ (by rfl) (by walk_at "p") (by decide) (by decide)) (nomark _)) (@pa_nil _) (by rfl)) (by decide) (by decide) (by rfl) (by rfl)))) (by rfl) (by walk_at "q")) (@zz5 _ _ _ (@ps_set _ _ 5 _ _ _ _ sc_qqx.nd rfl (by walk_at "o") (@pe_op _ _ _ _ _ _ _ _ op_add_str (@pv _ 5 _ _ (by rfl) (by walk_at "p") (by decide) (by decide)) (@pe_ix _ _ _ _ _ _ _ ix_str (@pv _ 2 _ _ (by rfl) (by walk_at "p") (by decide) (by decide)) (@pe_op _ _ _ _ _ _ _ _ op_mod (@pv _ 8 _ _ (by rfl) (by walk_at "p") (by decide) (by decide)) (@pv _ 7 _ _ (by rfl) (by walk_at "p") (by decide) (by decide))) (fun _ _=>rfl))) (by rfl) (by walk_at "q"))))) (by intro _;rfl)) (@zz5 _ _ _ (@ps_ret _ _ _ _ (@pv _ 5 _ _ (by rfl) (by walk_at "p") (by decide) (by decide)))))))))),?_⟩
  walk_at "rd"
  refine⟨by decide,⟨by decide,by decide⟩,by omega,⟨by decide,by decide⟩,by decide,ite2 (fun hc=>⟨by decide,?_⟩) (fun hc => ?_)⟩
  ·have hc:=of_decide_eq_true hc
   have e1:nmSize c i=1+i % 16:=by unfold nmSize;rw[if_pos hc]
   have e2:nmAt c=16:=by unfold nmAt;rw[if_pos hc]
   refine ForR.of (by omega) (by omega) (fun n σ H'=>H'=H∧∃b6 b7 b8,σ=[some (.int c),some (.int i),some (.str signs),some (.int (1+i % 16)),some (.int 16),some (.str (nmTo c i n)),b6,b7,b8]) ⟨rfl,_,_,_,rfl⟩ ?_ ?_
   ·rintro n σ H' hn ⟨rfl,b6,b7,b8,rfl⟩
    walk_at "rd"
    have lo:=nmIx_lo c i n
    have at_:=sgn_at lo.1 lo.2
    unfold nmIx at at_ lo
    rw[e2]at at_ lo
    exact⟨.inl ⟨by decide,by decide⟩,⟨by omega,by omega⟩,.inl ⟨by omega,by omega⟩,.inr (by split<;>exact⟨by decide,by decide⟩),by split<;>decide,by rw[sizeLine_eq];decide +kernel,_,at_,by rw[nmTo_len,sizeLine_eq];show n+1≤_;omega,by rw[nmTo_succ];unfold nmIx;rw[e2]⟩
   ·rintro σ H' ⟨rfl,b6,b7,b8,rfl⟩
    walk_at "rd"
    rw[←e1];exact k
  ·have hc:¬c / 256 % 3=0:=by simpa using hc
   have e1:nmSize c i=1+c % 16:=by unfold nmSize;rw[if_neg hc]
   have e2:nmAt c=c / 16 % (1+c % 16):=by unfold nmAt;rw[if_neg hc]
   refine ForR.of (by omega) (by omega) (fun n σ H'=>H'=H∧∃b6 b7 b8,σ=[some (.int c),some (.int i),some (.str signs),some (.int (1+c % 16)),some (.int (c / 16 % (1+c % 16))),some (.str (nmTo c i n)),b6,b7,b8]) ⟨rfl,_,_,_,rfl⟩ ?_ ?_
   ·rintro n σ H' hn ⟨rfl,b6,b7,b8,rfl⟩
    walk_at "rd"
    have lo:=nmIx_lo c i n
    have at_:=sgn_at lo.1 lo.2
    unfold nmIx at at_ lo
    rw[e2]at at_ lo
    exact⟨.inl ⟨by decide,by decide⟩,⟨by omega,by omega⟩,.inl ⟨by omega,by omega⟩,.inr (by split<;>exact⟨by decide,by decide⟩),by split<;>decide,by rw[sizeLine_eq];decide +kernel,_,at_,by rw[nmTo_len,sizeLine_eq];show n+1≤_;omega,by rw[nmTo_succ];unfold nmIx;rw[e2]⟩
   ·rintro σ H' ⟨rfl,b6,b7,b8,rfl⟩
    walk_at "rd"
    rw[←e1];exact k
theorem G_qqw (T:Txt K mg A):FnOk P w K mg base CX0 2 A.qqw A.fd_qqw ["_law_cell", "_law_names_by"] sp_wordrow:=by
 refine T.F_qqw.ok sc_qqw (fun vs H Q E h => ?_) (fun cdv Ar outer s H vs Q E hr h => ?_)
 ·obtain⟨c,n,rfl,_⟩:=h
  rfl
 ·obtain⟨c,n,rfl,k⟩:=h
  refine⟨_,(@zz2 _ _ _ _ _ (@ps_set _ _ 2 _ _ _ _ sc_qqw.nd rfl (by walk_at "o") (@pe_op _ _ _ _ _ _ _ _ op_mod (@pv _ 0 _ _ (by rfl) (by walk_at "p") (by decide) (by decide)) (@pe_int _ _ _ _)) (by rfl) (by walk_at "q")) (@zz2 _ _ _ _ _ (@ps_set _ _ 3 _ _ _ _ sc_qqw.nd rfl (by walk_at "o") (@pe_op _ _ _ _ _ _ _ _ op_fdiv (@pv _ 0 _ _ (by rfl) (by walk_at "p") (by decide) (by decide)) (@pe_int _ _ _ _)) (by rfl) (by walk_at "q")) (@zz2 _ _ _ _ _ (@ps_set _ _ 4 _ _ _ _ sc_qqw.nd rfl (by walk_at "o") (@pe_and _ _ _ _ _ _ _ (@pe_cmpR _ _ _ _ _ _ _ _ op_eq (@pe_op _ _ _ _ _ _ _ _ op_mod (@pe_op _ _ _ _ _ _ _ _ op_fdiv (@pv _ 3 _ _ (by rfl) (by walk_at "p") (by decide) (by decide)) (@pe_int _ _ _ _)) (@pe_int _ _ _ _)) (@pe_int _ _ _ _) (nomark _)) (@pe_one _ _ _ _ _ (@pe_cmpR _ _ _ _ _ _ _ _ op_lt (@pe_op _ _ _ _ _ _ _ _ op_mod (@pv _ 3 _ _ (by rfl) (by walk_at "p") (by decide) (by decide)) (@pe_int _ _ _ _)) (@pe_int _ _ _ _) (nomark _)))) (by rfl) (by walk_at "q")) (@zz2 _ _ _ _ _ (@ps_set _ _ 5 _ _ _ _ sc_qqw.nd rfl (by walk_at "o") (@pe_op _ _ _ _ _ _ _ _ op_sub (@pe_op _ _ _ _ _ _ _ _ op_mod (@pe_op _ _ _ _ _ _ _ _ op_fdiv (@pv _ 3 _ _ (by rfl) (by walk_at "p") (by decide) (by decide)) (@pe_int _ _ _ _)) (@pe_int _ _ _ _)) (@pe_int _ _ _ _)) (by rfl) (by walk_at "q")) (@zz2 _ _ _ _ _ (@ps_if _ _ _ _ _ _ _ _ (@zz11 _ _ _ _ _ _ _ _ op_eq (@pe_op _ _ _ _ _ _ _ _ op_mod (@pe_op _ _ _ _ _ _ _ _ op_fdiv (@pv _ 3 _ _ (by rfl) (by walk_at "p") (by decide) (by decide)) (@pe_int _ _ _ _)) (@pe_int _ _ _ _)) (@pe_int _ _ _ _) (nomark _)) (@zz5 _ _ _ (@ps_set _ _ 5 _ _ _ _ sc_qqw.nd rfl (by walk_at "o") (@pe_op _ _ _ _ _ _ _ _ op_sub (@pe_op _ _ _ _ _ _ _ _ op_mod (@pe_op _ _ _ _ _ _ _ _ op_mul (@pe_op _ _ _ _ _ _ _ _ op_fdiv (@pv _ 3 _ _ (by rfl) (by walk_at "p") (by decide) (by decide)) (@pe_int _ _ _ _)) (@pe_int _ _ _ _)) (@pe_int _ _ _ _)) (@pe_int _ _ _ _)) (by rfl) (by walk_at "q"))) (@zz13 _)) (@zz2 _ _ _ _ _ (@ps_set _ _ 6 _ _ _ _ sc_qqw.nd rfl (by walk_at "o") (@pe_ix _ _ _ _ _ _ _ (zz16 (K:=K) rfl) (@pe_lst _ _ _ _ (@zz0 _ _ _ _ _ (@pe_str _ _ _ _) (@zz0 _ _ _ _ _ (@pe_str _ _ _ _) (@zz0 _ _ _ _ _ (@pe_str _ _ _ _) (@zz0 _ _ _ _ _ (@pe_str _ _ _ _) (@zz0 _ _ _ _ _ (@pe_str _ _ _ _) (@pa_nil _) (by rfl)) (by rfl)) (by rfl)) (by rfl)) (by rfl))) (@pe_op _ _ _ _ _ _ _ _ op_mod (@pv _ 3 _ _ (by rfl) (by walk_at "p") (by decide) (by decide)) (@pe_int _ _ _ _)) (fun _ _=>rfl)) (by rfl) (by walk_at "q")) (@zz2 _ _ _ _ _ (@ps_if _ _ _ _ _ _ _ _ (@zz11 _ _ _ _ _ _ _ _ op_eq (@pv _ 2 _ _ (by rfl) (by walk_at "p") (by decide) (by decide)) (@pe_int _ _ _ _) (nomark _)) (@zz5 _ _ _ (@ps_ret _ _ _ _ (@pe_non _ _ _))) (@zz13 _)) (@zz5 _ _ _ (@ps_ret _ _ _ _ (@pe_tup _ _ _ _ _ (@zz0 _ _ _ _ _ (@pv _ 6 _ _ (by rfl) (by walk_at "p") (by decide) (by decide)) (@zz0 _ _ _ _ _ (@zz12 _ _ _ _ _ _ _ _ _ _ _ _ _ _ _ _ (G_qqx T) (hr.mono (by decide)) rfl T.m_qqx T.k_qqx T.b_qqx .nil (@pass0 _) (@zz0 _ _ _ _ _ (@pv _ 1 _ _ (by rfl) (by walk_at "p") (by decide) (by decide)) (@zz0 _ _ _ _ _ (@pe_op _ _ _ _ _ _ _ _ op_mod (@pe_op _ _ _ _ _ _ _ _ op_fdiv (@pv _ 3 _ _ (by rfl) (by walk_at "p") (by decide) (by decide)) (@pe_int _ _ _ _)) (@pe_int _ _ _ _)) (@pa_nil _) (by rfl)) (by rfl)) (by decide) (by rfl) (by rfl)) (@zz0 _ _ _ _ _ (@pv _ 5 _ _ (by rfl) (by walk_at "p") (by decide) (by decide)) (@zz0 _ _ _ _ _ (@pv _ 4 _ _ (by rfl) (by walk_at "p") (by decide) (by decide)) (@pa_nil _) (by rfl)) (by rfl)) (by rfl)) (by rfl)))))))))))),?_⟩
  walk_at "rd"
  have five:∀(p:Addr) (sf:Bool) (add:Int),H p=none→(sf=true→c / 9 % 5<3) → -2147483648≤add→add<2147483648→
    (0:Int)<5∧∃x,SqL K (upd H p (HO.lst [V.str (Str.ofString "whole"),V.str (Str.ofString "high"),V.str (Str.ofString "low"),V.str (Str.ofString "near"),V.str (Str.ofString "split")])) p x∧
     ∃x_1,atI x (c / 9 % 5)=some x_1∧
      if decide (c % 9=2)=true then Q V.non (upd H p (HO.lst [V.str (Str.ofString "whole"),V.str (Str.ofString "high"),V.str (Str.ofString "low"),V.str (Str.ofString "near"),V.str (Str.ofString "split")]))
      else CDiv (c / 9) 5∧(0:Int)<12∧4≤sizeLine∧∀(p_1:Addr),
       upd H p (HO.lst [V.str (Str.ofString "whole"),V.str (Str.ofString "high"),V.str (Str.ofString "low"),V.str (Str.ofString "near"),V.str (Str.ofString "split")]) p_1=none→
       Q (V.ref p_1) (upd (upd H p (HO.lst [V.str (Str.ofString "whole"),V.str (Str.ofString "high"),V.str (Str.ofString "low"),V.str (Str.ofString "near"),V.str (Str.ofString "split")])) p_1 (HO.tup [x_1,V.str (nameOf n (c / 9 / 5 % 12)),V.int add,V.bl sf])):=by
   intro p sf add hp hsf h1 h2
   refine⟨by decide,_,SqL.of zz1,?_⟩
   obtain⟨z,hz,hT,hS⟩:∃z:Str,atI [V.str (Str.ofString "whole"),V.str (Str.ofString "high"),V.str (Str.ofString "low"),V.str (Str.ofString "near"),V.str (Str.ofString "split")] (c / 9 % 5)=some (V.str z)∧isT z∧(c / 9 % 5<3→z=Str.ofString "whole" ∨ z=Str.ofString "high" ∨ z=Str.ofString "low"):=by
    have hd:c / 9 % 5=0∨c / 9 % 5=1∨c / 9 % 5=2∨c / 9 % 5=3∨c / 9 % 5=4:=by omega
    rcases hd with e | e | e | e | e<;>rw[e]
    ·exact⟨_,rfl,.inl rfl,fun _=>.inl rfl⟩
    ·exact⟨_,rfl,.inr (.inl rfl),fun _=>.inr (.inl rfl)⟩
    ·exact⟨_,rfl,.inr (.inr (.inl rfl)),fun _=>.inr (.inr rfl)⟩
    ·exact⟨_,rfl,.inr (.inr (.inr (.inl rfl))),fun h=>absurd h (by decide)⟩
    ·exact⟨_,rfl,.inr (.inr (.inr (.inr rfl))),fun h=>absurd h (by decide)⟩
   refine⟨_,hz,ite2 (fun _=>(k _ fun b o e => ?_).1) (fun _=>⟨⟨by decide,by decide⟩,by decide,by walk_at "s", fun q hq => ?_⟩)⟩
   ·rw[upd_ne (zz4 e hp)];exact e
   ·have hqp:q≠p:=fun e=>by rw[e,zz1]at hq;cases hq
    have hq':H q=none:=by rw[upd_ne hqp]at hq;exact hq
    refine (k _ fun b o e => ?_).2 ⟨q,0,z,nameOf n (c / 9 / 5 % 12),add,sf⟩ ⟨hT,⟨_,by omega,by omega,rfl⟩,by show (0:Int)≤0;decide,by show (0:Int)<(1:Nat);decide,h1,h2,fun h=>hS (hsf h)⟩ zz1 hq'
    rw[upd_ne (zz4 e hq'),upd_ne (zz4 e hp)];exact e
  refine⟨by decide,⟨by decide,by decide⟩,⟨by decide,by decide⟩,by decide,ite2 (fun _=>⟨by decide,⟨by decide,by decide⟩,by decide,⟨by decide,by decide⟩,by decide,ite2 (fun _=>⟨⟨by decide,by decide⟩,.inr ⟨by decide,by decide⟩,by decide,by walk_at "s", fun p hp => ?_⟩) (fun _=>⟨by rw[sizeLine_eq];decide,fun p hp => ?_⟩)⟩)
   (fun hs=>⟨⟨by decide,by decide⟩,by decide,⟨by decide,by decide⟩,by decide,ite2 (fun _=>⟨⟨by decide,by decide⟩,.inr ⟨by decide,by decide⟩,by decide,by walk_at "s", fun p hp => ?_⟩) (fun _=>⟨by rw[sizeLine_eq];decide,fun p hp => ?_⟩)⟩)⟩
  ·refine five p _ _ hp (fun h=>of_decide_eq_true h) ?_ ?_<;>omega
  ·refine five p _ _ hp (fun h=>of_decide_eq_true h) ?_ ?_<;>omega
  ·refine five p _ _ hp (fun h=>absurd h (by decide)) ?_ ?_<;>omega
  ·refine five p _ _ hp (fun h=>absurd h (by decide)) ?_ ?_<;>omega
theorem zz3 {H:Hp}{p:Addr}{o:HO}(h:H p=none):Same H (upd H p o):=fun b u e=>by rw[upd_ne (zz4 e h)];exact e
theorem free_of {H:Hp}{p q:Addr}{o:HO}(h:upd H p o q=none):q≠p∧H q=none:=by
 have n:q≠p:=fun e=>by rw[e,zz1]at h;cases h
 exact⟨n,by rw[upd_ne n]at h;exact h⟩
theorem atI_last {α:Type}{xs:List α}{x:α}:atI (xs++[x]) (-1)=some x:=by
 unfold atI ixN
 rw[if_neg (by decide),if_pos (by simp;omega)]
 show (xs++[x])[(-1+((xs++[x]).length:Int)).toNat]?=some x
 have e:(-1+((xs++[x]).length:Int)).toNat=xs.length:=by simp;omega
 rw[e];simp
theorem inV_str {z:Str}{xs:List Str}:inV (.str z) (xs.map V.str)=true↔z∈xs:=by
 unfold inV
 rw[List.any_map,List.any_eq_true]
 constructor
 ·rintro⟨y,hy,e⟩
  have:y=z:=by simpa [Function.comp,eqV] using e
  exact this▸hy
 ·intro h
  exact⟨z,h,by simp[Function.comp,eqV]⟩
theorem sort_at {c:Int}:∃z:Str,atI [V.str (Str.ofString "tell"),V.str (Str.ofString "weak"),V.str (Str.ofString "own")] (c % 3)=some (V.str z)∧isSort z:=by
 have hd:c % 3=0∨c % 3=1∨c % 3=2:=by omega
 rcases hd with e | e | e<;>rw[e]
 ·exact⟨_,rfl,.inl rfl⟩
 ·exact⟨_,rfl,.inr (.inl rfl)⟩
 ·exact⟨_,rfl,.inr (.inr rfl)⟩
theorem G_qqj (T:Txt K mg A):FnOk P w K mg base CX0 2 A.qqj A.fd_qqj ["_law_pieces", "_law_cell", "_law_names_by", "_law_strict"] (sp_toldby K):=by
 refine T.F_qqj.ok sc_qqj (fun vs H Q E h => ?_) (fun cdv Ar outer s H vs Q E hr h => ?_)
 ·obtain⟨L,c,n,ps,p,ss,st,rfl,_⟩:=h
  rfl
 ·obtain⟨L,c,n,ps,p,ss,st,rfl,hP,hst,b1,b2,b3,b4,k0,k1⟩:=h
  refine⟨_,(@zz2 _ _ _ _ _ (@ps_set _ _ 4 _ _ _ _ sc_qqj.nd rfl (by walk_at "o") (@pe_ix _ _ _ _ _ _ _ (zz16 (K:=K) rfl) (@pv _ 0 _ _ (by rfl) (by walk_at "p") (by decide) (by decide)) (@pe_un _ _ _ _ _ _ un_neg (@pe_int _ _ _ _)) (fun _ _=>rfl)) (by rfl) (by walk_at "q")) (@zz2 _ _ _ _ _ (@ps_set _ _ 5 _ _ _ _ sc_qqj.nd rfl (by walk_at "o") (@zz12 _ _ _ _ _ _ _ _ _ _ _ _ _ _ _ _ (G_qqx T) (hr.mono (by decide)) rfl T.m_qqx T.k_qqx T.b_qqx .nil (@pass0 _) (@zz0 _ _ _ _ _ (@pv _ 2 _ _ (by rfl) (by walk_at "p") (by decide) (by decide)) (@zz0 _ _ _ _ _ (@pe_op _ _ _ _ _ _ _ _ op_mod (@pe_op _ _ _ _ _ _ _ _ op_fdiv (@pv _ 1 _ _ (by rfl) (by walk_at "p") (by decide) (by decide)) (@pe_int _ _ _ _)) (@pe_int _ _ _ _)) (@pa_nil _) (by rfl)) (by rfl)) (by decide) (by rfl) (by rfl)) (by rfl) (by walk_at "q")) (@zz2 _ _ _ _ _ (@ps_if _ _ _ _ _ _ _ _ (@zz11 _ _ _ _ _ _ _ _ (op_inSK (K:=K) rfl) (@pv _ 5 _ _ (by rfl) (by walk_at "p") (by decide) (by decide)) (@pe_comp _ _ _ _ _ _ _ _ _ _ _ _ _ _ (blk_mk (own:=["_law_row"]) (fr:=[]) (fm:=[]) rfl (by decide +kernel) (by decide +kernel) (by decide +kernel) .nil) rfl (@pi_listK _ K _ _ _ rfl (@pe_ix _ _ _ _ _ _ _ (zz10 (K:=K) rfl) (@pv _ 4 _ _ (by rfl) (by walk_at "p") (by decide) (by decide)) (@pe_int _ _ _ _) (fun _ _=>rfl))) (fun _ _ _=>⟨(@zz7 _ _ 0 _ (by show List.Nodup (["_law_row"]:List Str);decide +kernel) rfl (by walk_at "o") (by walk_at "q")) , pts_nil,(@pe_ix _ _ _ _ _ _ _ (zz10 (K:=K) rfl) (@pv _ 0 _ _ (by rfl) (by walk_at "p") (by decide) (by decide)) (@pe_int _ _ _ _) (fun _ _=>rfl))⟩) (by intro _;rfl)) (by with_unfolding_all rfl)) (@zz5 _ _ _ (@ps_retN _ _)) (@zz13 _)) (@zz2 _ _ _ _ _ (@ps_set _ _ 6 _ _ _ _ sc_qqj.nd rfl (by walk_at "o") (@pe_ix _ _ _ _ _ _ _ (zz16 (K:=K) rfl) (@pe_lst _ _ _ _ (@zz0 _ _ _ _ _ (@pe_str _ _ _ _) (@zz0 _ _ _ _ _ (@pe_str _ _ _ _) (@zz0 _ _ _ _ _ (@pe_str _ _ _ _) (@pa_nil _) (by rfl)) (by rfl)) (by rfl))) (@pe_op _ _ _ _ _ _ _ _ op_mod (@pv _ 1 _ _ (by rfl) (by walk_at "p") (by decide) (by decide)) (@pe_int _ _ _ _)) (fun _ _=>rfl)) (by rfl) (by walk_at "q")) (@zz2 _ _ _ _ _ (@ps_for _ _ _ _ _ _ _ _ PassesOwn.never rfl (@pi_listK _ K _ _ _ rfl (@pe_slice _ _ _ _ _ _ _ _ _ _ (sl_listK (K:=K) rfl) (@pv _ 0 _ _ (by rfl) (by walk_at "p") (by decide) (by decide)) (@po_none _) (@po_some _ _ _ (@pe_un _ _ _ _ _ _ un_neg (@pe_int _ _ _ _))))) (@zz7 _ _ 7 _ sc_qqj.nd rfl (by walk_at "o") (by walk_at "q")) (@zz5 _ _ _ (@ps_if _ _ _ _ _ _ _ _ (@PW.pt _ _ _ (@pw_and _ _ _ _ _ _ _ (@zz11 _ _ _ _ _ _ _ _ op_eq (@pv _ 6 _ _ (by rfl) (by walk_at "p") (by decide) (by decide)) (@pe_str _ _ _ _) (nomark _)) (@pw_and _ _ _ _ _ _ _ (@pt_not _ _ _ _ (@pt_val _ _ _ (@pv _ 3 _ _ (by rfl) (by walk_at "p") (by decide) (by decide)) (by intro _;rfl))) (@pw_and1 _ _ _ _ (@pt_never _ _))))) (@zz5 _ _ _ (@ps_set _ _ 6 _ _ _ _ sc_qqj.nd rfl (by walk_at "o") (@pe_str _ _ _ _) (by rfl) (by walk_at "q"))) (@zz13 _))) (by intro _;rfl)) (@zz5 _ _ _ (@ps_expr _ _ _ _ (@pe_bm _ _ _ _ _ _ _ _ _ _ _ _ PySem.F.plainAttrs_list PySem.F.slot_list_append PySem.F.type_list_append mt_append (@pe_ix _ _ _ _ _ _ _ (zz10 (K:=K) rfl) (@pv _ 4 _ _ (by rfl) (by walk_at "p") (by decide) (by decide)) (@pe_int _ _ _ _) (fun _ _=>rfl)) (@zz0 _ _ _ _ _ (@pe_tup _ _ _ _ _ (@zz0 _ _ _ _ _ (@pv _ 5 _ _ (by rfl) (by walk_at "p") (by decide) (by decide)) (@zz0 _ _ _ _ _ (@pv _ 6 _ _ (by rfl) (by walk_at "p") (by decide) (by decide)) (@zz0 _ _ _ _ _ (@pe_op _ _ _ _ _ _ _ _ op_sub (@zz6 _ _ _ _ _ _ _ _ _ (call_lenK (K:=K) rfl) (by rfl) T.n_len bt_len (@zz0 _ _ _ _ _ (@pe_ix _ _ _ _ _ _ _ (zz10 (K:=K) rfl) (@pv _ 4 _ _ (by rfl) (by walk_at "p") (by decide) (by decide)) (@pe_int _ _ _ _) (fun _ _=>rfl)) (@pa_nil _) (by rfl)) (by decide) (by decide) (by rfl) (by rfl)) (@pe_int _ _ _ _)) (@zz0 _ _ _ _ _ (@zz6 _ _ _ _ _ _ _ _ _ (call_lenK (K:=K) rfl) (by rfl) T.n_len bt_len (@zz0 _ _ _ _ _ (@pe_ix _ _ _ _ _ _ _ (zz10 (K:=K) rfl) (@pe_ix _ _ _ _ _ _ _ (zz16 (K:=K) rfl) (@pe_ix _ _ _ _ _ _ _ (zz10 (K:=K) rfl) (@pv _ 4 _ _ (by rfl) (by walk_at "p") (by decide) (by decide)) (@pe_int _ _ _ _) (fun _ _=>rfl)) (@pe_un _ _ _ _ _ _ un_neg (@pe_int _ _ _ _)) (fun _ _=>rfl)) (@pe_int _ _ _ _) (fun _ _=>rfl)) (@pa_nil _) (by rfl)) (by decide) (by decide) (by rfl) (by rfl)) (@pa_nil _) (by rfl)) (by rfl)) (by rfl)) (by rfl))) (@pa_nil _) (by rfl)) (by rfl) (by rfl) (by rfl) (by rfl) (by rfl)) (by rfl)))))))),?_⟩
  walk_at "rd"
  have hp:=hP.at_ p (by simp)
  refine⟨_,SqL.of hP.top,V.ref p.t,by rw[List.map_append];exact atI_last,⟨by decide,by decide⟩,by decide,p.t,rfl,_,SqT.of hp.top,_,rfl,?_⟩
  refine CompL.of (by rw[List.length_map,sizeLine_eq];omega) (SqL.of hp.nl) (fun D i ys H'=>ys=(p.nms.take i).map (fun m=>V.str m.name)∧H'=upd H D (.lst ys)) (fun D hD=>⟨rfl,rfl⟩) (fun D i ys H' hD hi ⟨e1,e2⟩ => ?_) (fun D i x ys H' hD hx ⟨e1,e2⟩ => ?_) (fun D ys H' hD ⟨e1,e2⟩ => ?_)
  ·subst e2
   refine⟨SqL.of (by rw[upd_ne (zz4 hp.nl hD)];exact hp.nl),zz1,?_⟩
   rw[e1,List.length_map];exact List.length_take_le ..
  ·subst e2
   rw[List.getElem?_map]at hx
   obtain⟨m,hm,rfl⟩:=Option.map_eq_some_iff.mp hx
   have ma:=hp.ns m (List.mem_of_getElem? hm)
   walk_at "rd"
   refine⟨.no .nil,_,SqT.of (by rw[upd_ne (zz4 ma hD)];exact ma),_,rfl,zz1,?_,upd_upd⟩
   rw[e1,List.take_succ,hm,List.map_append];rfl
  ·subst e2
   have e3:ys=(p.nms.map ToldM.name).map V.str:=by rw[e1,List.length_map,List.take_length,List.map_map];rfl
   refine⟨D,rfl,ys,.inl (SqL.of zz1),rfl,?_,ite2 (fun _=>k0 _ (zz3 hD)) (fun hin=>⟨by rw[sizeLine_eq];decide,fun p1 h1 => ?_⟩)⟩
   ·rw[e3,List.all_map];exact List.all_eq_true.mpr fun _ _=>rfl
   ·obtain⟨z,hz,hs⟩:=sort_at (c:=c)
    have sm:Same H (upd (upd H D (.lst ys)) p1 (.lst [V.str (Str.ofString "tell"),V.str (Str.ofString "weak"),V.str (Str.ofString "own")])):=(zz3 hD).trans (zz3 h1)
    refine⟨by decide,_,SqL.of zz1,_,hz,_,SqL.of (sm _ _ hP.top),fun p2 h2 => ?_⟩
    have sm2:=sm.trans (zz3 (o:=HO.lst (cutV ((ps++[p]).map PcM.v) none (some (-1)))) h2)
    generalize hH4:upd (upd (upd H D (.lst ys)) p1 (.lst [V.str (Str.ofString "tell"),V.str (Str.ofString "weak"),V.str (Str.ofString "own")])) p2 (HO.lst (cutV ((ps++[p]).map PcM.v) none (some (-1))))=H4 at *
    have hl4:H4 p2=some (HO.lst (cutV ((ps++[p]).map PcM.v) none (some (-1)))):=by rw[←hH4];exact zz1
    refine ForL.of (fun i σ H'=>H'=H4∧∃b7,σ=[some (V.ref L),some (V.int c),some (V.int n),some (V.bl true),some (V.ref p.t),some (V.str (nameOf n (c / 9 % 12))),some (V.str z),b7]) ⟨rfl,_,rfl⟩ (fun i σ H' _ ⟨e,_⟩=>by rw[e];exact SqL.of hl4) ?_ ?_
    ·rintro i x σ H' hx ⟨rfl,b7,rfl⟩
     walk_at "rd"
     split<;>trivial
    ·rintro σ H' ⟨rfl,b7,rfl⟩
     walk_at "rd"
     have hs':=hp.ss st (by rw[hst];simp)
     refine⟨_,SqT.of (sm2 _ _ hp.top),_,rfl,.inl ⟨rfl,_,SqL.of (sm2 _ _ hp.nl)⟩,_,SqT.of (sm2 _ _ hp.top),_,rfl,p.sts.length,.inl ⟨_,SqL.of (sm2 _ _ hp.sl),by simp⟩,_,SqT.of (sm2 _ _ hp.top),_,rfl,p.ls,rfl,_,SqL.of (sm2 _ _ hp.sl),st.v,(by rw[hst,List.map_append];exact atI_last),st.t,rfl,_,SqT.of (sm2 _ _ hs'.top),_,rfl,st.words.length,.inl ⟨_,SqL.of (sm2 _ _ hs'.wd),by simp⟩,by walk_at "s", fun m hm=>⟨p.ln,rfl,p.nms.map ToldM.v,?_,?_,?_⟩⟩
     ·rw[upd_ne (zz4 (sm2 _ _ hp.nl) hm)];exact sm2 _ _ hp.nl
     ·rw[List.length_map,sizeLine_eq];omega
     ·refine k1 ⟨m,nameOf n (c / 9 % 12),z,(p.sts.length:Int) - 1,st.words.length⟩ _ (sm2.trans (zz3 hm)) zz1 ⟨_,by omega,by omega,rfl⟩ (fun hn=>hin ?_) hs ?_ rfl
      ·rw[e3];exact inV_str.mpr hn
      ·show (p.sts.length:Int) - 1=ss.length
       rw[hst,List.length_append];simp
theorem same_upd {H0 H:Hp}{L:Addr}{o:HO}(h:H0 L=none) (e:Same H0 H):Same H0 (upd H L o):=fun b u q=>by rw[upd_ne (zz4 q h)];exact e b u q
theorem PcOk.empty {c:Int}{t ls ln:Addr}{nm:Str}:PcOk c ⟨t,ls,ln,nm,[],[]⟩:=⟨fun s hs=>absurd hs (by simp),fun n hn=>absurd hn (by simp),by simp⟩
theorem Drawn.push {c t:Int}{i:Nat}{ps:List PcM}{a ls ln:Addr}(d:Drawn c t i ps) (h:ps.length<12):Drawn c t (i+1) (ps++[⟨a,ls,ln,nameOf t ps.length,[],[]⟩]):=by
 refine⟨fun p hp => ?_,by rw[List.length_append];simp;omega,?_,?_⟩
 ·rcases List.mem_append.mp hp with z | z
  ·exact d.ok p z
  ·rw[List.mem_singleton.mp z];exact PcOk.empty
 ·rw[List.map_append,d.names,List.length_append,List.length_singleton,List.range_succ,List.map_append];rfl
 ·have:=d.size
  rw[List.map_append,List.sum_append]
  simp[PcM.size]
  exact this
theorem Drawn.last {c t:Int}{i:Nat}{ps:List PcM}{p p':PcM}(d:Drawn c t i (ps++[p])) (h:PcOk c p') (hn:p'.name=p.name) (hs:p'.size≤p.size+1):Drawn c t (i+1) (ps++[p']):=by
 refine⟨fun q hq => ?_,by have:=d.few;simpa using this,?_,?_⟩
 ·rcases List.mem_append.mp hq with z | z
  ·exact d.ok q (List.mem_append_left _ z)
  ·rw[List.mem_singleton.mp z];exact h
 ·have:=d.names
  simpa [hn] using this
 ·have:=d.size
  rw[List.map_append,List.sum_append]at this ⊢
  simp at this ⊢
  omega
theorem Drawn.lastSize {c t:Int}{i:Nat}{ps:List PcM}{p:PcM}(d:Drawn c t i (ps++[p])):p.size≤i:=by
 have:=d.size
 rw[List.map_append,List.sum_append]at this
 simp at this
 omega
theorem Drawn.keep {c t:Int}{i:Nat}{ps:List PcM}(d:Drawn c t i ps):Drawn c t (i+1) ps:=⟨d.ok,d.few,d.names,Nat.le_succ_of_le d.size⟩
theorem PcOk.stretch {c:Int}{p:PcM}{s:StM}(h:PcOk c p) (hs:StOk c s):PcOk c { p with sts:=p.sts++[s] }:=by
 refine⟨fun r hr => ?_,fun n hn => ?_,h.nd⟩
 ·rcases List.mem_append.mp hr with z | z
  ·exact h.sts r z
  ·rw[List.mem_singleton.mp z];exact hs
 ·obtain⟨a,b,k,r,e,q⟩:=h.nms n hn
  exact⟨a,b,k,r,by rw[List.getElem?_append_left (List.getElem?_eq_some_iff.mp e).1];exact e,q⟩
theorem PcOk.lastSt {c:Int}{p:PcM}{ss:List StM}{s s':StM}(h:PcOk c p) (e:p.sts=ss++[s]) (hs:StOk c s') (hw:s.words.length≤s'.words.length):PcOk c { p with sts:=ss++[s'] }:=by
 refine⟨fun r hr => ?_,fun n hn => ?_,h.nd⟩
 ·rcases List.mem_append.mp hr with z | z
  ·exact h.sts r (by rw[e];exact List.mem_append_left _ z)
  ·rw[List.mem_singleton.mp z];exact hs
 ·obtain⟨a,b,k,r,g,q1,q2,q3⟩:=h.nms n hn
  rw[e]at g
  by_cases hk:k<ss.length
  ·rw[List.getElem?_append_left hk]at g
   exact⟨a,b,k,r,by show (ss++[s'])[k]?=some r;rw[List.getElem?_append_left hk];exact g,q1,q2,q3⟩
  ·rw[List.getElem?_append_right (by omega)]at g
   have hk0:k - ss.length=0:=by
    have:=(List.getElem?_eq_some_iff.mp g).1
    simp at this;omega
   rw[hk0]at g
   simp at g
   subst g
   exact⟨a,b,k,s',by show (ss++[s'])[k]?=some s';rw[List.getElem?_append_right (by omega),hk0];rfl,q1,q2,Int.le_trans q3 (by omega)⟩
theorem PcOk.told {c:Int}{p:PcM}{m:ToldM}(h:PcOk c p) (hm:ToldOk c p.sts m) (hn:m.name∉p.nms.map ToldM.name):PcOk c { p with nms:=p.nms++[m] }:=by
 refine⟨h.sts,fun n hn => ?_,?_⟩
 ·rcases List.mem_append.mp hn with z | z
  ·exact h.nms n z
  ·rw[List.mem_singleton.mp z];exact hm
 ·show ((p.nms++[m]).map ToldM.name).Nodup
  rw[List.map_append]
  refine List.nodup_append.mpr ⟨h.nd,by simp,fun x hx y hy e => ?_⟩
  have:y=m.name:=by simpa using hy
  subst this
  exact hn (e▸hx)
theorem step_at {v:Int}:∃z:Int,atI [V.int 1,V.int 1,V.int 2,V.int 4,V.int 16,V.int 65536] (v % 6)=some (V.int z)∧(z=1∨z=2∨z=4∨z=16∨z=65536):=by
 have hd:v % 6=0∨v % 6=1∨v % 6=2∨v % 6=3∨v % 6=4∨v % 6=5:=by omega
 rcases hd with e | e | e | e | e | e<;>rw[e]<;>exact⟨_,rfl,by decide⟩
theorem kind_at {v:Int}:∃z:Str,atI [V.str (Str.ofString "code"),V.str (Str.ofString "data")] (v % 2)=some (V.str z)∧isKind z:=by
 have hd:v % 2=0∨v % 2=1:=by omega
 rcases hd with e | e<;>rw[e]
 ·exact⟨_,rfl,.inl rfl⟩
 ·exact⟨_,rfl,.inr rfl⟩
theorem size_last {p:PcM}{ss:List StM}{s:StM}(e:p.sts=ss++[s]):s.words.length+p.sts.length+p.nms.length<p.size:=by
 unfold PcM.size
 rw[e,List.map_append,List.sum_append]
 simp
 omega
theorem size_st {p:PcM}{ss:List StM}{s s':StM}(e:p.sts=ss++[s]) (h:s'.words.length=s.words.length+1):({ p with sts:=ss++[s'] }:PcM).size≤p.size+1:=by
 unfold PcM.size
 rw[e,List.map_append,List.sum_append,List.map_append,List.sum_append]
 simp[h]
 omega
theorem StOk.word {c:Int}{s:StM}{wd:Int}(h:StOk c s) (h1:0≤wd) (h2:wd<4294967296):StOk c { s with words:=s.words++[wd] }:=by
 refine⟨h.kind,h.step,fun i hi => ?_,fun f hf => ?_,h.asc,?_⟩
 ·rcases List.mem_append.mp hi with z | z
  ·exact h.words i z
  ·rw[List.mem_singleton.mp z];exact⟨h1,h2⟩
 ·have g:=h.fills f hf
  exact⟨g.rule,g.name,g.lo,by have:=g.hi;show f.at_<((s.words++[wd]).length:Int);rw[List.length_append];simp;omega,g.addlo,g.addhi,g.soft⟩
 ·have:=h.few
  show s.fills.length≤(s.words++[wd]).length
  rw[List.length_append];simp;omega
theorem StOk.fill {c:Int}{s:StM}{f:FillM}{wd:Int}(h:StOk c s) (hf:FillOk c 1 { f with at_:=0 }) (ha:f.at_=s.words.length) (h1:0≤wd) (h2:wd<4294967296):StOk c { s with fills:=s.fills++[f],words:=s.words++[wd] }:=by
 have w:=h.word h1 h2
 refine⟨h.kind,h.step,w.words,fun g hg => ?_,?_,?_⟩
 ·rcases List.mem_append.mp hg with z | z
  ·exact w.fills g z
  ·rw[List.mem_singleton.mp z]
   exact⟨hf.rule,hf.name,by omega,by show f.at_<((s.words++[wd]).length:Int);rw[List.length_append];simp;omega,hf.addlo,hf.addhi,hf.soft⟩
 ·show (s.fills++[f]).Pairwise _
  refine List.pairwise_append.mpr ⟨h.asc,by simp,fun g hg y hy => ?_⟩
  rw[List.mem_singleton.mp hy,ha]
  exact (h.fills g hg).hi
 ·have:=h.few
  show (s.fills++[f]).length≤(s.words++[wd]).length
  rw[List.length_append,List.length_append];simp;omega
theorem G_qwz (T:Txt K mg A):FnOk P w K mg base CX0 3 A.qwz A.fd_qwz ["_law_cells", "_law_names_by", "_law_titles_by", "_law_strict"] (sp_drawn K):=by
 refine T.F_qwz.ok sc_qwz (fun vs H Q E h => ?_) (fun cdv Ar outer s H vs Q E hr h => ?_)
 ·obtain⟨a,ns,c,t,rfl,_⟩:=h
  rfl
 ·obtain⟨a,ns,c,t,rfl,hS,hl,k⟩:=h
  refine⟨_,(@zz2 _ _ _ _ _ (@ps_set _ _ 4 _ _ _ _ sc_qwz.nd rfl (by walk_at "o") (@pe_lst _ _ _ _ (@pa_nil _)) (by rfl) (by walk_at "q")) (@zz2 _ _ _ _ _ (@ps_for _ _ _ _ _ _ _ _ PassesOwn.never rfl (@pi_listK _ K _ _ _ rfl (@pv _ 0 _ _ (by rfl) (by walk_at "p") (by decide) (by decide))) (@zz7 _ _ 5 _ sc_qwz.nd rfl (by walk_at "o") (by walk_at "q")) (@zz2 _ _ _ _ _ (@ps_set _ _ 6 _ _ _ _ sc_qwz.nd rfl (by walk_at "o") (@pe_op _ _ _ _ _ _ _ _ op_mod (@pv _ 5 _ _ (by rfl) (by walk_at "p") (by decide) (by decide)) (@pe_int _ _ _ _)) (by rfl) (by walk_at "q")) (@zz5 _ _ _ (@ps_if _ _ _ _ _ _ _ _ (@pt_weak _ _ _ dT1 (@PW.pt _ _ _ (@pw_or _ _ _ _ _ _ _ (@PW.pt _ _ _ (@pw_and _ _ _ _ _ _ _ (@zz11 _ _ _ _ _ _ _ _ op_eq (@pv _ 6 _ _ (by rfl) (by walk_at "p") (by decide) (by decide)) (@pe_int _ _ _ _) (nomark _)) (@pw_and1 _ _ _ _ (@zz11 _ _ _ _ _ _ _ _ op_lt (@zz6 _ _ _ _ _ _ _ _ _ (call_lenK (K:=K) rfl) (by rfl) T.n_len bt_len (@zz0 _ _ _ _ _ (@pv _ 4 _ _ (by rfl) (by walk_at "p") (by decide) (by decide)) (@pa_nil _) (by rfl)) (by decide) (by decide) (by rfl) (by rfl)) (@pe_int _ _ _ _) (nomark _))))) (@pw_or1 _ _ _ _ (@zz11 _ _ _ _ _ _ _ _ (op_eqDK hr.units (K:=K) rfl) (@pv _ 4 _ _ (by rfl) (by walk_at "p") (by decide) (by decide)) (@pe_lst _ _ _ _ (@pa_nil _)) (nomark _))))) ?wt1) (@pss_weak _ _ _ dB1 (@zz5 _ _ _ (@ps_expr _ _ _ _ (@pe_bm _ _ _ _ _ _ _ _ _ _ _ _ PySem.F.plainAttrs_list PySem.F.slot_list_append PySem.F.type_list_append mt_append (@pv _ 4 _ _ (by rfl) (by walk_at "p") (by decide) (by decide)) (@zz0 _ _ _ _ _ (@pe_tup _ _ _ _ _ (@zz0 _ _ _ _ _ (@zz12 _ _ _ _ _ _ _ _ _ _ _ _ _ _ _ _ (G_qqx T) (hr.mono (by decide)) rfl T.m_qqx T.k_qqx T.b_qqx .nil (@pass0 _) (@zz0 _ _ _ _ _ (@pv _ 2 _ _ (by rfl) (by walk_at "p") (by decide) (by decide)) (@zz0 _ _ _ _ _ (@zz6 _ _ _ _ _ _ _ _ _ (call_lenK (K:=K) rfl) (by rfl) T.n_len bt_len (@zz0 _ _ _ _ _ (@pv _ 4 _ _ (by rfl) (by walk_at "p") (by decide) (by decide)) (@pa_nil _) (by rfl)) (by decide) (by decide) (by rfl) (by rfl)) (@pa_nil _) (by rfl)) (by rfl)) (by decide) (by rfl) (by rfl)) (@zz0 _ _ _ _ _ (@pe_lst _ _ _ _ (@pa_nil _)) (@zz0 _ _ _ _ _ (@pe_lst _ _ _ _ (@pa_nil _)) (@pa_nil _) (by rfl)) (by rfl)) (by rfl))) (@pa_nil _) (by rfl)) (by rfl) (by rfl) (by rfl) (by rfl) (by rfl)) (by rfl))) ?wb1) (@zz5 _ _ _ (@ps_if _ _ _ _ _ _ _ _ (@pt_weak _ _ _ dT2 (@PW.pt _ _ _ (@pw_or _ _ _ _ _ _ _ (@zz11 _ _ _ _ _ _ _ _ op_lt (@pv _ 6 _ _ (by rfl) (by walk_at "p") (by decide) (by decide)) (@pe_int _ _ _ _) (nomark _)) (@pw_or1 _ _ _ _ (@zz11 _ _ _ _ _ _ _ _ (op_eqDK hr.units (K:=K) rfl) (@pe_ix _ _ _ _ _ _ _ (zz10 (K:=K) rfl) (@pe_ix _ _ _ _ _ _ _ (zz16 (K:=K) rfl) (@pv _ 4 _ _ (by rfl) (by walk_at "p") (by decide) (by decide)) (@pe_un _ _ _ _ _ _ un_neg (@pe_int _ _ _ _)) (fun _ _=>rfl)) (@pe_int _ _ _ _) (fun _ _=>rfl)) (@pe_lst _ _ _ _ (@pa_nil _)) (nomark _))))) ?wt2) (@pss_weak _ _ _ dB2 (@zz2 _ _ _ _ _ (@ps_set _ _ 7 _ _ _ _ sc_qwz.nd rfl (by walk_at "o") (@pe_ix _ _ _ _ _ _ _ (zz16 (K:=K) rfl) (@pe_lst _ _ _ _ (@zz0 _ _ _ _ _ (@pe_int _ _ _ _) (@zz0 _ _ _ _ _ (@pe_int _ _ _ _) (@zz0 _ _ _ _ _ (@pe_int _ _ _ _) (@zz0 _ _ _ _ _ (@pe_int _ _ _ _) (@zz0 _ _ _ _ _ (@pe_int _ _ _ _) (@zz0 _ _ _ _ _ (@pe_int _ _ _ _) (@pa_nil _) (by rfl)) (by rfl)) (by rfl)) (by rfl)) (by rfl)) (by rfl))) (@pe_op _ _ _ _ _ _ _ _ op_mod (@pe_op _ _ _ _ _ _ _ _ op_fdiv (@pv _ 5 _ _ (by rfl) (by walk_at "p") (by decide) (by decide)) (@pe_int _ _ _ _)) (@pe_int _ _ _ _)) (fun _ _=>rfl)) (by rfl) (by walk_at "q")) (@zz5 _ _ _ (@ps_expr _ _ _ _ (@pe_bm _ _ _ _ _ _ _ _ _ _ _ _ PySem.F.plainAttrs_list PySem.F.slot_list_append PySem.F.type_list_append mt_append (@pe_ix _ _ _ _ _ _ _ (zz10 (K:=K) rfl) (@pe_ix _ _ _ _ _ _ _ (zz16 (K:=K) rfl) (@pv _ 4 _ _ (by rfl) (by walk_at "p") (by decide) (by decide)) (@pe_un _ _ _ _ _ _ un_neg (@pe_int _ _ _ _)) (fun _ _=>rfl)) (@pe_int _ _ _ _) (fun _ _=>rfl)) (@zz0 _ _ _ _ _ (@pe_tup _ _ _ _ _ (@zz0 _ _ _ _ _ (@pe_ix _ _ _ _ _ _ _ (zz16 (K:=K) rfl) (@pe_lst _ _ _ _ (@zz0 _ _ _ _ _ (@pe_str _ _ _ _) (@zz0 _ _ _ _ _ (@pe_str _ _ _ _) (@pa_nil _) (by rfl)) (by rfl))) (@pe_op _ _ _ _ _ _ _ _ op_mod (@pe_op _ _ _ _ _ _ _ _ op_fdiv (@pv _ 5 _ _ (by rfl) (by walk_at "p") (by decide) (by decide)) (@pe_int _ _ _ _)) (@pe_int _ _ _ _)) (fun _ _=>rfl)) (@zz0 _ _ _ _ _ (@pv _ 7 _ _ (by rfl) (by walk_at "p") (by decide) (by decide)) (@zz0 _ _ _ _ _ (@pe_lst _ _ _ _ (@pa_nil _)) (@zz0 _ _ _ _ _ (@pe_lst _ _ _ _ (@pa_nil _)) (@pa_nil _) (by rfl)) (by rfl)) (by rfl)) (by rfl))) (@pa_nil _) (by rfl)) (by rfl) (by rfl) (by rfl) (by rfl) (by rfl)) (by rfl)))) ?wb2) (@zz5 _ _ _ (@ps_if _ _ _ _ _ _ _ _ (@zz11 _ _ _ _ _ _ _ _ op_lt (@pv _ 6 _ _ (by rfl) (by walk_at "p") (by decide) (by decide)) (@pe_int _ _ _ _) (nomark _)) (@pss_weak _ _ _ dB3 (@zz2 _ _ _ _ _ (@ps_set _ _ 8 _ _ _ _ sc_qwz.nd rfl (by walk_at "o") (@pe_ix _ _ _ _ _ _ _ (zz16 (K:=K) rfl) (@pe_ix _ _ _ _ _ _ _ (zz10 (K:=K) rfl) (@pe_ix _ _ _ _ _ _ _ (zz16 (K:=K) rfl) (@pv _ 4 _ _ (by rfl) (by walk_at "p") (by decide) (by decide)) (@pe_un _ _ _ _ _ _ un_neg (@pe_int _ _ _ _)) (fun _ _=>rfl)) (@pe_int _ _ _ _) (fun _ _=>rfl)) (@pe_un _ _ _ _ _ _ un_neg (@pe_int _ _ _ _)) (fun _ _=>rfl)) (by rfl) (by walk_at "q")) (@zz2 _ _ _ _ _ (@ps_set _ _ 9 _ _ _ _ sc_qwz.nd rfl (by walk_at "o") (@zz12 _ _ _ _ _ _ _ _ _ _ _ _ _ _ _ _ (G_qqw T) (hr.mono (by decide)) rfl T.m_qqw T.k_qqw T.b_qqw .nil (@pass0 _) (@zz0 _ _ _ _ _ (@pv _ 5 _ _ (by rfl) (by walk_at "p") (by decide) (by decide)) (@zz0 _ _ _ _ _ (@pv _ 1 _ _ (by rfl) (by walk_at "p") (by decide) (by decide)) (@pa_nil _) (by rfl)) (by rfl)) (by decide) (by rfl) (by rfl)) (by rfl) (by walk_at "q")) (@zz2 _ _ _ _ _ (@ps_if _ _ _ _ _ _ _ _ (@zz11 _ _ _ _ _ _ _ _ op_notN (@pv _ 9 _ _ (by rfl) (by walk_at "p") (by decide) (by decide)) (@pe_non _ _ _) (nomark _)) (@zz5 _ _ _ (@ps_expr _ _ _ _ (@pe_bm _ _ _ _ _ _ _ _ _ _ _ _ PySem.F.plainAttrs_list PySem.F.slot_list_append PySem.F.type_list_append mt_append (@pe_ix _ _ _ _ _ _ _ (zz10 (K:=K) rfl) (@pv _ 8 _ _ (by rfl) (by walk_at "p") (by decide) (by decide)) (@pe_int _ _ _ _) (fun _ _=>rfl)) (@zz0 _ _ _ _ _ (@pe_op _ _ _ _ _ _ _ _ (op_catTK (K:=K) rfl) (@pe_tup _ _ _ _ _ (@zz0 _ _ _ _ _ (@zz6 _ _ _ _ _ _ _ _ _ (call_lenK (K:=K) rfl) (by rfl) T.n_len bt_len (@zz0 _ _ _ _ _ (@pe_ix _ _ _ _ _ _ _ (zz10 (K:=K) rfl) (@pv _ 8 _ _ (by rfl) (by walk_at "p") (by decide) (by decide)) (@pe_int _ _ _ _) (fun _ _=>rfl)) (@pa_nil _) (by rfl)) (by decide) (by decide) (by rfl) (by rfl)) (@pa_nil _) (by rfl))) (@pv _ 9 _ _ (by rfl) (by walk_at "p") (by decide) (by decide))) (@pa_nil _) (by rfl)) (by rfl) (by rfl) (by rfl) (by rfl) (by rfl)) (by rfl))) (@zz13 _)) (@zz5 _ _ _ (@ps_expr _ _ _ _ (@pe_bm _ _ _ _ _ _ _ _ _ _ _ _ PySem.F.plainAttrs_list PySem.F.slot_list_append PySem.F.type_list_append mt_append (@pe_ix _ _ _ _ _ _ _ (zz10 (K:=K) rfl) (@pv _ 8 _ _ (by rfl) (by walk_at "p") (by decide) (by decide)) (@pe_int _ _ _ _) (fun _ _=>rfl)) (@zz0 _ _ _ _ _ (@pe_op _ _ _ _ _ _ _ _ op_mod (@pe_op _ _ _ _ _ _ _ _ op_mul (@pv _ 5 _ _ (by rfl) (by walk_at "p") (by decide) (by decide)) (@pe_int _ _ _ _)) (@pe_int _ _ _ _)) (@pa_nil _) (by rfl)) (by rfl) (by rfl) (by rfl) (by rfl) (by rfl)) (by rfl)))))) ?wb3) (@pss_weak _ _ _ dB4 (@zz5 _ _ _ (@ps_expr _ _ _ _ (@zz12 _ _ _ _ _ _ _ _ _ _ _ _ _ _ _ _ (G_qqj T) (hr.mono (by decide)) rfl T.m_qqj T.k_qqj T.b_qqj .nil (@pass0 _) (@zz0 _ _ _ _ _ (@pv _ 4 _ _ (by rfl) (by walk_at "p") (by decide) (by decide)) (@zz0 _ _ _ _ _ (@pv _ 5 _ _ (by rfl) (by walk_at "p") (by decide) (by decide)) (@zz0 _ _ _ _ _ (@pv _ 1 _ _ (by rfl) (by walk_at "p") (by decide) (by decide)) (@zz0 _ _ _ _ _ (@pv _ 3 _ _ (by rfl) (by walk_at "p") (by decide) (by decide)) (@pa_nil _) (by rfl)) (by rfl)) (by rfl)) (by rfl)) (by decide) (by rfl) (by rfl)) (by rfl))) ?wb4)))))))) (by intro _;rfl)) (@zz5 _ _ _ (@ps_ret _ _ _ _ (@pv _ 4 _ _ (by rfl) (by walk_at "p") (by decide) (by decide)))))),?main⟩
  case wt1=>
   rintro σ H R ⟨H0,a,L,c,t,v,i,ps,⟨⟨b7,b8,b9,rfl⟩,sm,hP,hf,hd,hi⟩,k⟩
   walk_at "rd"
   have z:(0:Nat)≤sizeLine:=Nat.zero_le _
   have eqd:∀q,H q=none→rEqD K (V.ref L) (V.ref q) (upd H q (HO.lst [])) fun x H'=>∃k,x=V.bl k∧R k H':=fun q hq=>by
    refine⟨ps.map PcM.d,[],.inl ⟨(hP.mono (zz3 hq)).rep,⟨q,[],rfl,SqL.of zz1,by simp[RepL]⟩⟩,Nat.le_trans (depL_le fun p _=>dep_pc p) (by decide),_,rfl,k _ _ (zz3 hq) (fun h => ?_) fun h e => ?_⟩
    ·rw[deqL_nil]at h
     have e:=of_decide_eq_true h
     rw[List.map_eq_nil_iff.mp e];decide
    ·rw[deqL_nil,e]at h
     simp at h
   exact ite2 (fun _=>⟨ps.length,.inl ⟨_,SqL.of hP.top,by simp⟩,ite2 (fun h=>k true H (Same.refl _) (fun _=>by have:=of_decide_eq_true h;omega) (fun h=>by cases h)) (fun _=>⟨z,eqd⟩)⟩) (fun _=>⟨z,eqd⟩)
  case wt2=>
   rintro σ H R ⟨H0,a,L,c,t,v,i,ps,p,⟨⟨b7,b8,b9,rfl⟩,sm,hP,hf,hd,hi⟩,k⟩
   walk_at "rd"
   have hp:=hP.at_ p (by simp)
   refine ite2 (fun _=>k true H (Same.refl _) (fun h=>by cases h)) (fun _=>⟨_,SqL.of hP.top,V.ref p.t,by rw[List.map_append];exact atI_last,p.t,rfl,_,SqT.of hp.top,_,rfl,Nat.zero_le _,fun q hq => ?_⟩)
   refine⟨p.sts.map StM.d,[],.inl ⟨⟨p.ls,_,rfl,SqL.of (zz3 hq _ _ hp.sl),RepL.map fun s hs=>((hp.ss s hs).mono (zz3 hq)).rep⟩,⟨q,[],rfl,SqL.of zz1,by simp[RepL]⟩⟩,Nat.le_trans (depL_le fun p _=>dep_st p) (by decide),_,rfl,k _ _ (zz3 hq) fun h e => ?_⟩
   rw[deqL_nil,e]at h
   simp at h
  case wb1=>
   rintro D σ H ⟨H0,a,L,c,t,v,i,ps,⟨⟨b7,b8,b9,rfl⟩,sm,hP,hf,hd,hi⟩,hz,k⟩
   walk_at "rd"
   refine⟨.inl ⟨rfl,_,SqL.of hP.top⟩,ps.length,.inl ⟨_,SqL.of hP.top,by simp⟩,Nat.zero_le _,fun ls h1=>⟨Nat.zero_le _,fun ln h2=>⟨by rw[sizeLine_eq];decide,fun tt h3 => ?_⟩⟩⟩
   obtain⟨n2,h2'⟩:=free_of h2
   obtain⟨n3,h3a⟩:=free_of h3
   obtain⟨n4,h3'⟩:=free_of h3a
   have s3:=((zz3 (o:=HO.lst []) h1).trans (zz3 (o:=HO.lst []) h2)).trans (zz3 (o:=HO.tup [V.str (nameOf t (ps.length:Int)),V.ref ls,V.ref ln]) h3)
   refine⟨_,s3 _ _ hP.top,by rw[List.length_map,sizeLine_eq];omega,?_⟩
   have hL0:=hf L List.mem_cons_self
   refine k _ _ _ ⟨_,_,_,_,_,rfl⟩ (same_upd hL0 (sm.trans s3)) ((hP.mono s3).newPiece zz1 (by rw[upd_ne (Ne.symm n4),upd_ne (Ne.symm n2),zz1]) (by rw[upd_ne (Ne.symm n3),zz1]) (Ne.symm n2) (hP.fresh h1) (hP.fresh h2')) (fun b hb => ?_) (hd.push hz)
   rw[zz9,←List.cons_append]at hb
   rcases List.mem_append.mp hb with e | e
   ·exact hf b e
   ·simp[PcM.lists]at e
    rcases e with e | e
    ·rw[e];exact sm.free h1
    ·rw[e];exact sm.free h2'
  case wb2=>
   rintro D σ H ⟨H0,a,L,c,t,v,i,ps,p,⟨⟨b7,b8,b9,rfl⟩,sm,hP,hf,hd,hi⟩,k⟩
   walk_at "rd"
   have hp:=hP.at_ p (by simp)
   have hsz:=hd.lastSize
   obtain⟨z,hz,hz'⟩:=step_at (v:=v / 9)
   obtain⟨kd,hk,hk'⟩:=kind_at (v:=v / 54)
   refine⟨by rw[sizeLine_eq];decide,fun q1 h1=>⟨⟨by decide,by decide⟩,by decide,_,SqL.of zz1,_,hz,_,SqL.of (zz3 h1 _ _ hP.top),V.ref p.t,by rw[List.map_append];exact atI_last,p.t,rfl,_,SqT.of (zz3 h1 _ _ hp.top),_,rfl,.inl ⟨rfl,_,SqL.of (zz3 h1 _ _ hp.sl)⟩,by walk_at "s", fun q2 h2=>⟨⟨by decide,by decide⟩,by decide,_,SqL.of zz1,_,hk,Nat.zero_le _,fun lw h3=>⟨Nat.zero_le _,fun lf h4=>⟨by rw[sizeLine_eq];decide,fun tt h5=>⟨p.ls,rfl,?_⟩⟩⟩⟩⟩⟩
   have s2:=(zz3 (o:=HO.lst [V.int 1,V.int 1,V.int 2,V.int 4,V.int 16,V.int 65536]) h1).trans (zz3 (o:=HO.lst [V.str (Str.ofString "code"),V.str (Str.ofString "data")]) h2)
   generalize upd (upd H q1 (HO.lst [V.int 1,V.int 1,V.int 2,V.int 4,V.int 16,V.int 65536])) q2 (HO.lst [V.str (Str.ofString "code"),V.str (Str.ofString "data")])=H2 at *
   obtain⟨n4,h4'⟩:=free_of h4
   obtain⟨n5,h5a⟩:=free_of h5
   obtain⟨n6,h5'⟩:=free_of h5a
   have sA:=s2.trans (((zz3 (o:=HO.lst []) h3).trans (zz3 (o:=HO.lst []) h4)).trans (zz3 (o:=HO.tup [V.str kd,V.int z,V.ref lw,V.ref lf]) h5))
   refine⟨_,sA _ _ hp.sl,by rw[List.length_map,sizeLine_eq];unfold PcM.size at hsz;omega,?_⟩
   walk_at "0"
   refine k _ _ _ ⟨_,_,_,_,_,rfl⟩ (same_upd (hf p.ls (mem _ (by simp[PcM.lists]))) (sm.trans sA)) ((hP.mono sA).newStretch zz1 (by rw[upd_ne (Ne.symm n6),upd_ne (Ne.symm n4),zz1]) (by rw[upd_ne (Ne.symm n5),zz1]) (Ne.symm n4) ((hP.mono s2).fresh h3) ((hP.mono s2).fresh h4')) (fun b hb => ?_) (hd.last ((hd.ok p (by simp)).stretch ⟨hk',hz',by simp,by simp,by simp,by simp⟩) rfl ?_)
   ·have hb':b∈L::listsOf (ps++[p])∨b=lw∨b=lf:=by
     rw[zz9]at hb ⊢
     simp only[PcM.lists,List.flatMap_append,List.mem_cons,List.mem_append,List.flatMap_cons,List.flatMap_nil,StM.lists,List.append_nil,List.not_mem_nil,or_false]at hb ⊢
     grind
    rcases hb' with e | e | e
    ·exact hf b e
    ·rw[e];exact (sm.trans s2).free h3
    ·rw[e];exact (sm.trans s2).free h4'
   ·unfold PcM.size
    simp
    omega
  case wb3=>
   rintro D σ H ⟨H0,a,L,c,t,v,i,ps,p,ss,s,⟨⟨b7,b8,b9,rfl⟩,sm,hP,hf,hd,hi⟩,hs,k⟩
   walk_at "rd"
   have hp:=hP.at_ p (by simp)
   have hsz:=hd.lastSize
   have hs':=hp.ss s (by rw[hs];simp)
   have hw:=size_last hs
   walk_at "0"
   refine⟨_,SqL.of hP.top,V.ref p.t,by rw[List.map_append];exact atI_last,p.t,rfl,_,SqT.of hp.top,_,rfl,p.ls,rfl,_,SqL.of hp.sl,s.v,by rw[hs,List.map_append];exact atI_last,fun H' s1=>⟨?_,fun f hf1 hf2 hf3 => ?_⟩⟩
   ·rw[if_neg (by simp)]
    refine⟨s.t,rfl,_,SqT.of (s1 _ _ hs'.top),_,rfl,.inl ⟨rfl,_,SqL.of (s1 _ _ hs'.wd)⟩,.inr ⟨by decide,by decide⟩,by decide,s.lw,rfl,_,s1 _ _ hs'.wd,by rw[List.length_map,sizeLine_eq];omega,?_⟩
    refine k _ _ _ ⟨_,_,_,_,_,rfl⟩ (same_upd (hf _ (mem _ (by simp[PcM.lists,hs,StM.lists]))) (sm.trans s1)) ((hP.mono s1).newWord hs) (fun b hb=>hf b ?_) (hd.last (PcOk.lastSt (hd.ok p (by simp)) hs (((hd.ok p (by simp)).sts s (by rw[hs];simp)).word (by omega) (by omega)) (by simp)) rfl (size_st hs (by simp)))
    rw[zz9]at hb ⊢
    simpa [PcM.lists,hs,StM.lists] using hb
   ·rw[if_pos (by simp)]
    refine⟨s.t,rfl,_,SqT.of (s1 _ _ hs'.top),_,rfl,.inl ⟨rfl,_,SqL.of (s1 _ _ hs'.fl)⟩,s.t,rfl,_,SqT.of (s1 _ _ hs'.top),_,rfl,s.words.length,.inl ⟨_,SqL.of (s1 _ _ hs'.wd),by simp⟩,by walk_at "s", fun q1 h1=>⟨_,SqT.of zz1,_,SqT.of (zz3 h1 _ _ hf2),by simp,by rw[sizeLine_eq];simp,fun e=>(by cases e),fun _ q2 h2=>⟨s.lf,rfl,?_⟩⟩⟩
    have s3:=s1.trans ((zz3 (o:=HO.tup [V.int (s.words.length:Int)]) h1).trans (zz3 (o:=HO.tup ([V.int (s.words.length:Int)]++[V.str f.rule,V.str f.name,V.int f.add,V.bl f.soft])) h2))
    have hat:FillM.At (upd (upd H' q1 (HO.tup [V.int (s.words.length:Int)])) q2 (HO.tup ([V.int (s.words.length:Int)]++[V.str f.rule,V.str f.name,V.int f.add,V.bl f.soft]))) ⟨q2,s.words.length,f.rule,f.name,f.add,f.soft⟩:=zz1
    generalize upd (upd H' q1 (HO.tup [V.int (s.words.length:Int)])) q2 (HO.tup ([V.int (s.words.length:Int)]++[V.str f.rule,V.str f.name,V.int f.add,V.bl f.soft]))=H3 at *
    have P1:=(hP.mono s3).newFill hs hat
    have ok:=PcOk.lastSt (p:=p) (s':={ s with fills:=s.fills++[⟨q2,s.words.length,f.rule,f.name,f.add,f.soft⟩],words:=s.words++[v * 48271 % 4294967296] }) (hd.ok p (by simp)) hs (StOk.fill ((hd.ok p (by simp)).sts s (by rw[hs];simp)) (f:=⟨q2,s.words.length,f.rule,f.name,f.add,f.soft⟩) ⟨hf1.rule,hf1.name,hf1.lo,hf1.hi,hf1.addlo,hf1.addhi,hf1.soft⟩ rfl (by omega) (by omega)) (by simp)
    have sz:=size_st (p:=p) (s':={ s with fills:=s.fills++[⟨q2,s.words.length,f.rule,f.name,f.add,f.soft⟩],words:=s.words++[v * 48271 % 4294967296] }) hs (by simp)
    have a1:=(P1.at_ _ (List.mem_append_right _ (List.mem_singleton.mpr rfl))).ss _ (List.mem_append_right _ (List.mem_singleton.mpr rfl))
    refine⟨_,s3 _ _ hs'.fl,by rw[List.length_map,sizeLine_eq];have:=((hd.ok p (by simp)).sts s (by rw[hs];simp)).few;omega,s.t,rfl,_,SqT.of a1.top,_,rfl,.inl ⟨rfl,_,SqL.of a1.wd⟩,.inr ⟨by decide,by decide⟩,by decide,s.lw,rfl,_,a1.wd,by rw[List.length_map,sizeLine_eq];show s.words.length<_;omega,?_⟩
    have P2:=P1.newWord (i:=v * 48271 % 4294967296) rfl
    refine k (ps++[({ p with sts:=ss++[{ s with fills:=s.fills++[⟨q2,s.words.length,f.rule,f.name,f.add,f.soft⟩],words:=s.words++[v * 48271 % 4294967296] }] }:PcM)]) _ _ ⟨_,_,_,_,_,rfl⟩ (same_upd (hf _ (mem _ (by simp[PcM.lists,hs,StM.lists]))) (same_upd (hf _ (mem _ (by simp[PcM.lists,hs,StM.lists]))) (sm.trans s3))) (by exact P2) (fun b hb=>hf b ?_) (hd.last ok rfl sz)
    rw[zz9]at hb ⊢
    simpa [PcM.lists,hs,StM.lists] using hb
  case wb4=>
   rintro D σ H ⟨H0,a,L,c,t,v,i,ps,p,ss,s,⟨⟨b7,b8,b9,rfl⟩,sm,hP,hf,hd,hi⟩,hs,k⟩
   walk_at "rd"
   have hsz:=hd.lastSize
   have hw:=size_last hs
   have hfew:=hd.few
   walk_at "0"
   refine⟨ps,p,hP,ss,s,hs,by simp at hfew;omega,by omega,by omega,by omega,fun H' s1=>k _ _ _ ⟨_,_,_,_,_,rfl⟩ (sm.trans s1) (hP.mono s1) hf hd.keep,fun m H' s1 hm hn hne hso hst hoff => ?_⟩
   refine k _ _ _ ⟨_,_,_,_,_,rfl⟩ (same_upd (hf _ (mem _ (by simp[PcM.lists]))) (sm.trans s1)) ((hP.mono s1).newTold hm) (fun b hb=>hf b ?_) (hd.last ((hd.ok p (by simp)).told ⟨hn,hso,ss.length,s,by rw[hs];simp,hst,by omega,by omega⟩ hne) rfl ?_)
   ·rw[zz9]at hb ⊢
    exact hb
   ·unfold PcM.size
    simp
    omega
  case main=>
  walk_at "rd"
  refine⟨by rw[sizeLine_eq];decide,fun L hL => ?_⟩
  refine ForL.of (xs:=ns.map V.int) (fun i σ H'=>∃ps b5 b6 b7 b8 b9,σ=[some (V.ref a),some (V.int c),some (V.int t),some (V.bl true),some (V.ref L),b5,b6,b7,b8,b9]∧Same H H'∧Pcs H' L ps∧(∀b∈L::listsOf ps,H b=none)∧Drawn c t i ps)
   ⟨[],_,_,_,_,_,rfl,zz3 hL,Pcs.nil zz1,by simpa [listsOf] using hL,⟨by simp,by simp,rfl,by simp⟩⟩ (fun i σ H' _ ⟨_,_,_,_,_,_,_,sm,_⟩=>sm.seq hS) ?_ ?_
  ·rintro i x σ H' hx ⟨ps,b5,b6,b7,b8,b9,rfl,sm,hP,hf,hd⟩
   rw[List.getElem?_map]at hx
   obtain⟨v,hv,rfl⟩:=Option.map_eq_some_iff.mp hx
   have hi:i<61:=Nat.lt_of_lt_of_le (List.getElem?_eq_some_iff.mp hv).1 hl
   walk_at "rd"
   have dc:DC H a L c t v i ps [some (V.ref a),some (V.int c),some (V.int t),some (V.bl true),some (V.ref L),some (V.int v),some (V.int (v % 9)),b7,b8,b9] H':=⟨⟨_,_,_,rfl⟩,sm,hP,hf,hd,hi⟩
   refine⟨by decide,H,a,L,c,t,v,i,ps,dc,fun b H1 s1 ht hn => ?_⟩
   cases b with
   | true=>exact⟨H,a,L,c,t,v,i,ps,dc.mono s1,ht rfl,fun ps' σ' H'' ⟨b5,b6,b7,b8,b9,e⟩ s1 s2 s3 s4=>⟨ps',b5,b6,b7,b8,b9,e,s1,s2,s3,s4⟩⟩
   | false=>
    obtain⟨ps0,p,e⟩:∃ps0 p,ps=ps0++[p]:=by
     rcases List.eq_nil_or_concat ps with e | ⟨l,x,e⟩
     ·exact absurd e (hn rfl)
     ·exact⟨l,x,by rw[e,List.concat_eq_append]⟩
    subst e
    refine⟨H,a,L,c,t,v,i,ps0,p,dc.mono s1,fun b H2 s2 hn2 => ?_⟩
    cases b with
    | true=>exact⟨H,a,L,c,t,v,i,ps0,p,(dc.mono s1).mono s2,fun ps' σ' H'' ⟨b5,b6,b7,b8,b9,e⟩ s1 s2 s3 s4=>⟨ps',b5,b6,b7,b8,b9,e,s1,s2,s3,s4⟩⟩
    | false=>
     obtain⟨ss,r,e⟩:∃ss r,p.sts=ss++[r]:=by
      rcases List.eq_nil_or_concat p.sts with e | ⟨l,x,e⟩
      ·exact absurd e (hn2 rfl)
      ·exact⟨l,x,by rw[e,List.concat_eq_append]⟩
     by_cases h6:v % 9<6
     ·rw[if_neg (by decide),if_pos (decide_eq_true h6)]
      exact⟨H,a,L,c,t,v,i,ps0,p,ss,r,(dc.mono s1).mono s2,e,fun ps' σ' H'' ⟨b5,b6,b7,b8,b9,e⟩ s1 s2 s3 s4=>⟨ps',b5,b6,b7,b8,b9,e,s1,s2,s3,s4⟩⟩
     ·rw[if_neg (by decide),if_neg (by simpa using h6)]
      exact⟨H,a,L,c,t,v,i,ps0,p,ss,r,(dc.mono s1).mono s2,e,fun ps' σ' H'' ⟨b5,b6,b7,b8,b9,e⟩ s1 s2 s3 s4=>⟨ps',b5,b6,b7,b8,b9,e,s1,s2,s3,s4⟩⟩
  ·rintro σ H' ⟨ps,b5,b6,b7,b8,b9,rfl,sm,hP,hf,hd⟩
   rw[List.length_map]at hd
   walk_at "rd"
   exact k L ps H' sm hP hf hd
theorem G_qwv (T:Txt K mg A):FnOk P w K mg base CX0 1 A.qwv A.fd_qwv ["_law_piece"] (sp_copy K):=by
 refine T.F_qwv.ok sc_qwv (fun vs H Q E h => ?_) (fun cdv Ar outer s H vs Q E hr h => ?_)
 ·obtain⟨p,rfl,_⟩:=h
  rfl
 ·obtain⟨p,rfl,hp,b1,b2,b3,k⟩:=h
  refine⟨_,(@zz2 _ _ _ _ _ (@ps_setC _ _ _ _ _ _ _ _ _ _ 1 _ _ _ _ _ _ _ sc_qwv.nd rfl (by walk_at "o") (blk_mk (own:=["_law_row"]) (fr:=[]) (fm:=[]) rfl (by decide +kernel) (by decide +kernel) (by decide +kernel) .nil) rfl (@pi_listK _ K _ _ _ rfl (@pe_ix _ _ _ _ _ _ _ (zz10 (K:=K) rfl) (@pv _ 0 _ _ (by rfl) (by walk_at "p") (by decide) (by decide)) (@pe_int _ _ _ _) (fun _ _=>rfl))) (fun _ _ _=>⟨(@zz7 _ _ 0 _ (by show List.Nodup (["_law_row"]:List Str);decide +kernel) rfl (by walk_at "o") (by walk_at "q")) , pts_nil,(@pe_tup _ _ _ _ _ (@zz0 _ _ _ _ _ (@pe_ix _ _ _ _ _ _ _ (zz10 (K:=K) rfl) (@pv _ 0 _ _ (by rfl) (by walk_at "p") (by decide) (by decide)) (@pe_int _ _ _ _) (fun _ _=>rfl)) (@zz0 _ _ _ _ _ (@pe_ix _ _ _ _ _ _ _ (zz10 (K:=K) rfl) (@pv _ 0 _ _ (by rfl) (by walk_at "p") (by decide) (by decide)) (@pe_int _ _ _ _) (fun _ _=>rfl)) (@zz0 _ _ _ _ _ (@pe_callTy _ _ _ _ _ _ _ _ _ (call_list_ofK (K:=K) rfl) (by rfl) T.n_list bt_list (@zz0 _ _ _ _ _ (@pe_ix _ _ _ _ _ _ _ (zz10 (K:=K) rfl) (@pv _ 0 _ _ (by rfl) (by walk_at "p") (by decide) (by decide)) (@pe_int _ _ _ _) (fun _ _=>rfl)) (@pa_nil _) (by rfl)) (by decide) (by decide) (by rfl) (by rfl)) (@zz0 _ _ _ _ _ (@pe_callTy _ _ _ _ _ _ _ _ _ (call_list_ofK (K:=K) rfl) (by rfl) T.n_list bt_list (@zz0 _ _ _ _ _ (@pe_ix _ _ _ _ _ _ _ (zz10 (K:=K) rfl) (@pv _ 0 _ _ (by rfl) (by walk_at "p") (by decide) (by decide)) (@pe_int _ _ _ _) (fun _ _=>rfl)) (@pa_nil _) (by rfl)) (by decide) (by decide) (by rfl) (by rfl)) (@pa_nil _) (by rfl)) (by rfl)) (by rfl)) (by rfl)))⟩) (by rfl) (by intro _;rfl) (by walk_at "q")) (@zz5 _ _ _ (@ps_ret _ _ _ _ (@pe_tup _ _ _ _ _ (@zz0 _ _ _ _ _ (@pe_ix _ _ _ _ _ _ _ (zz10 (K:=K) rfl) (@pv _ 0 _ _ (by rfl) (by walk_at "p") (by decide) (by decide)) (@pe_int _ _ _ _) (fun _ _=>rfl)) (@zz0 _ _ _ _ _ (@pv _ 1 _ _ (by rfl) (by walk_at "p") (by decide) (by decide)) (@zz0 _ _ _ _ _ (@pe_callTy _ _ _ _ _ _ _ _ _ (call_list_ofK (K:=K) rfl) (by rfl) T.n_list bt_list (@zz0 _ _ _ _ _ (@pe_ix _ _ _ _ _ _ _ (zz10 (K:=K) rfl) (@pv _ 0 _ _ (by rfl) (by walk_at "p") (by decide) (by decide)) (@pe_int _ _ _ _) (fun _ _=>rfl)) (@pa_nil _) (by rfl)) (by decide) (by decide) (by rfl) (by rfl)) (@pa_nil _) (by rfl)) (by rfl)) (by rfl)))))),?_⟩
  walk_at "rd"
  refine⟨_,SqT.of hp.top,_,rfl,?_⟩
  refine CompL.of (by rw[List.length_map,sizeLine_eq];omega) (SqL.of hp.sl) (fun D i ys H'=>∃qs:List StM,ys=qs.map StM.v∧qs.map StM.core=(p.sts.take i).map StM.core∧Same H H'∧H' D=some (.lst ys)∧(∀q∈qs,q.At H')∧(∀b∈qs.flatMap StM.lists,H b=none∧b≠D)∧(qs.flatMap StM.lists).Nodup)
   (fun D hD=>⟨[],rfl,rfl,zz3 hD,zz1,by simp,by simp,by simp⟩) ?_ ?_ ?_
  ·rintro D i ys H' hD hi ⟨qs,rfl,hc,sm,hDD,_⟩
   refine⟨SqL.of (sm _ _ hp.sl),hDD,?_⟩
   have e:=congrArg List.length hc
   rw[List.length_map,List.length_map]at e
   rw[List.length_map,e]
   exact List.length_take_le ..
  ·rintro D i x ys H' hD hx ⟨qs,rfl,hc,sm,hDD,hat,hnew,hnd⟩
   rw[List.getElem?_map]at hx
   obtain⟨s,hs,rfl⟩:=Option.map_eq_some_iff.mp hx
   have hs':=hp.ss s (List.mem_of_getElem? hs)
   walk_at "rd"
   refine⟨.no .nil,_,SqT.of (sm _ _ hs'.top),_,rfl,_,SqT.of (sm _ _ hs'.top),_,rfl,_,SqT.of (sm _ _ hs'.top),_,rfl,s.lw,rfl,_,.inl (SqL.of (sm _ _ hs'.wd)),fun lw h1=>⟨_,SqT.of (zz3 h1 _ _ (sm _ _ hs'.top)),_,rfl,s.lf,rfl,_,.inl (SqL.of (zz3 h1 _ _ (sm _ _ hs'.fl))),fun lf h2=>⟨by rw[sizeLine_eq];decide,fun t h3 => ?_⟩⟩⟩
   obtain⟨n2,h2'⟩:=free_of h2
   obtain⟨n3,h3a⟩:=free_of h3
   obtain⟨n4,h3'⟩:=free_of h3a
   have s3:=((zz3 (o:=HO.lst (s.words.map V.int)) h1).trans (zz3 (o:=HO.lst (s.fills.map FillM.v)) h2)).trans (zz3 (o:=HO.tup [V.str s.kind,V.int s.step,V.ref lw,V.ref lf]) h3)
   have e1:upd (upd (upd H' lw (HO.lst (s.words.map V.int))) lf (HO.lst (s.fills.map FillM.v))) t (HO.tup [V.str s.kind,V.int s.step,V.ref lw,V.ref lf]) lw=some (HO.lst (s.words.map V.int)):=by rw[upd_ne (Ne.symm n4),upd_ne (Ne.symm n2),zz1]
   have e2:upd (upd (upd H' lw (HO.lst (s.words.map V.int))) lf (HO.lst (s.fills.map FillM.v))) t (HO.tup [V.str s.kind,V.int s.step,V.ref lw,V.ref lf]) lf=some (HO.lst (s.fills.map FillM.v)):=by rw[upd_ne (Ne.symm n3),zz1]
   have e3:upd (upd (upd H' lw (HO.lst (s.words.map V.int))) lf (HO.lst (s.fills.map FillM.v))) t (HO.tup [V.str s.kind,V.int s.step,V.ref lw,V.ref lf]) t=some (HO.tup [V.str s.kind,V.int s.step,V.ref lw,V.ref lf]):=zz1
   generalize upd (upd (upd H' lw (HO.lst (s.words.map V.int))) lf (HO.lst (s.fills.map FillM.v))) t (HO.tup [V.str s.kind,V.int s.step,V.ref lw,V.ref lf])=H3 at *
   have bt:But H3 (upd H3 D (HO.lst (qs.map StM.v++[V.ref t]))) D:=But.upd (s3 _ _ hDD)
   have d1:lw≠D:=Ne.symm (zz4 hDD h1)
   have d2:lf≠D:=Ne.symm (zz4 hDD h2')
   refine⟨s3 _ _ hDD,qs++[⟨t,lw,lf,s.kind,s.step,s.words,s.fills⟩],by simp,?_,same_upd hD (sm.trans s3),zz1,fun q hq => ?_,fun b hb => ?_,?_⟩
   ·rw[List.map_append,hc,List.take_succ,hs,List.map_append];rfl
   ·rcases List.mem_append.mp hq with z | z
    ·exact ((hat q z).mono s3).but bt fun y=>(hnew D (List.mem_flatMap.mpr ⟨q,z,y⟩)).2 rfl
    ·rw[List.mem_singleton.mp z]
     exact⟨bt.tup e3,bt.2 _ _ e1 d1,bt.2 _ _ e2 d2,fun f hf=>(((hs'.fs f hf).mono sm).mono s3).but bt⟩
   ·rw[List.flatMap_append]at hb
    rcases List.mem_append.mp hb with z | z
    ·exact hnew b z
    ·simp[StM.lists]at z
     rcases z with e | e
     ·rw[e];exact⟨sm.free h1,d1⟩
     ·rw[e];exact⟨sm.free h2',d2⟩
   ·rw[List.flatMap_append]
    refine List.nodup_append.mpr ⟨hnd,by simp[StM.lists,Ne.symm n2],fun x hx y hy e => ?_⟩
    obtain⟨q,hq,hb'⟩:=List.mem_flatMap.mp hx
    obtain⟨xs,he⟩:=(hat q hq).list hb'
    simp[StM.lists]at hy
    rcases hy with z | z
    ·rw[e,z,h1]at he;cases he
    ·rw[e,z,h2']at he;cases he
  ·rintro D ys H' hD ⟨qs,rfl,hc,sm,hDD,hat,hnew,hnd⟩
   rw[List.length_map,List.take_length]at hc
   refine⟨_,SqT.of (sm _ _ hp.top),_,rfl,_,SqT.of (sm _ _ hp.top),_,rfl,p.ln,rfl,_,.inl (SqL.of (sm _ _ hp.nl)),fun l hl=>⟨by rw[sizeLine_eq];decide,fun t ht => ?_⟩⟩
   obtain⟨n1,ht'⟩:=free_of ht
   have s2:=(zz3 (o:=HO.lst (p.nms.map ToldM.v)) hl).trans (zz3 (o:=HO.tup [V.str p.name,V.ref D,V.ref l]) ht)
   have nl:∀b∈qs.flatMap StM.lists,b≠l∧b≠t:=fun b hb=>by
    obtain⟨q,hq,hb'⟩:=List.mem_flatMap.mp hb
    obtain⟨xs,e⟩:=(hat q hq).list hb'
    exact⟨zz4 e hl,zz4 e ht'⟩
   refine k ⟨t,D,l,p.name,qs,p.nms⟩ _ (sm.trans s2) ⟨zz1,s2 _ _ hDD,by rw[upd_ne (Ne.symm n1),zz1],fun q hq=>(hat q hq).mono s2,fun n hn=>((hp.ns n hn).mono sm).mono s2⟩ ⟨rfl,rfl,hc⟩ (fun b hb => ?_) ?_
   ·simp only[PcM.lists,List.mem_cons]at hb
    rcases hb with e | e | e
    ·rw[e];exact hD
    ·rw[e];exact sm.free hl
    ·exact (hnew b e).1
   ·show (D::l::qs.flatMap StM.lists).Nodup
    refine List.nodup_cons.mpr ⟨fun z => ?_,List.nodup_cons.mpr ⟨fun z=>(nl l z).1 rfl,hnd⟩⟩
    rcases List.mem_cons.mp z with e | e
    ·exact zz4 hDD hl e
    ·exact (hnew D e).2 rfl
theorem G_qqv (T:Txt K mg A):FnOk P w K mg base CX0 1 A.qqv A.fd_qqv ["piece", "told_by"] sp_places:=by
 refine T.F_qqv.ok sc_qqv (fun vs H Q E h => ?_) (fun cdv Ar outer s H vs Q E hr h => ?_)
 ·obtain⟨p,z,rfl,_⟩:=h
  rfl
 ·obtain⟨p,z,rfl,hp,hf,hd,k⟩:=h
  refine⟨_,(@zz2 _ _ _ _ _ (@ps_set _ _ 2 _ _ _ _ sc_qqv.nd rfl (by walk_at "o") (@pe_dnewK _ _) (by rfl) (by walk_at "q")) (@zz2 _ _ _ _ _ (@ps_for _ _ _ _ _ _ _ _ PassesOwn.never rfl (@pi_listK _ K _ _ _ rfl (@pe_ix _ _ _ _ _ _ _ (zz10 (K:=K) rfl) (@pv _ 0 _ _ (by rfl) (by walk_at "p") (by decide) (by decide)) (@pe_int _ _ _ _) (fun _ _=>rfl))) (@pg_tupK _ K _ _ _ 4 _ rfl rfl (@zz14 _ _ _ _ _ (@zz7 _ _ 3 _ sc_qqv.nd rfl (by walk_at "o") (by walk_at "q")) (@zz14 _ _ _ _ _ (@zz7 _ _ 4 _ sc_qqv.nd rfl (by walk_at "o") (by walk_at "q")) (@zz14 _ _ _ _ _ (@zz7 _ _ 5 _ sc_qqv.nd rfl (by walk_at "o") (by walk_at "q")) (@zz14 _ _ _ _ _ (@zz7 _ _ 6 _ sc_qqv.nd rfl (by walk_at "o") (by walk_at "q")) (@pgs_nil _) (by rfl)) (by rfl)) (by rfl)) (by rfl)) (by rfl) (by rfl)) (@zz5 _ _ _ (@ps_if _ _ _ _ _ _ _ _ (@zz11 _ _ _ _ _ _ _ _ op_eq (@pv _ 4 _ _ (by rfl) (by walk_at "p") (by decide) (by decide)) (@pv _ 1 _ _ (by rfl) (by walk_at "p") (by decide) (by decide)) (nomark _)) (@zz5 _ _ _ (@ps_dput _ _ _ _ _ _ _ _ _ (hu_of hr) (@pv _ 2 _ _ (by rfl) (by walk_at "p") (by decide) (by decide)) (@pv _ 3 _ _ (by rfl) (by walk_at "p") (by decide) (by decide)) (@pe_tup _ _ _ _ _ (@zz0 _ _ _ _ _ (@pe_ix _ _ _ _ _ _ _ (zz10 (K:=K) rfl) (@pv _ 0 _ _ (by rfl) (by walk_at "p") (by decide) (by decide)) (@pe_int _ _ _ _) (fun _ _=>rfl)) (@zz0 _ _ _ _ _ (@pv _ 5 _ _ (by rfl) (by walk_at "p") (by decide) (by decide)) (@zz0 _ _ _ _ _ (@pv _ 6 _ _ (by rfl) (by walk_at "p") (by decide) (by decide)) (@pa_nil _) (by rfl)) (by rfl)) (by rfl))) rfl)) (@zz13 _))) (by intro _;rfl)) (@zz5 _ _ _ (@ps_ret _ _ _ _ (@pv _ 2 _ _ (by rfl) (by walk_at "p") (by decide) (by decide)))))),?_⟩
  walk_at "rd"
  intro d hdn
  refine⟨_,SqT.of (zz3 hdn _ _ hp.top),_,rfl,?_⟩
  refine ForL.of (xs:=p.nms.map ToldM.v) (fun i σ H'=>∃ms b3 b4 b5 b6,σ=[some p.v,some (V.str z),some (V.ref d),b3,b4,b5,b6]∧Same H H'∧Tab H' d ms∧ms.map (fun m=>(m.name,m.a,m.b,m.c))=((p.nms.take i).filter fun n=>decide (n.sort=z)).map (fun n=>(n.name,p.name,n.st,n.off)))
   ⟨[],_,_,_,_,rfl,zz3 hdn,⟨zz1,by simp⟩,rfl⟩ (fun i σ H' _ ⟨_,_,_,_,_,_,sm,_⟩=>SqL.of (sm _ _ hp.nl)) ?_ ?_
  ·rintro i x σ H' hx ⟨ms,b3,b4,b5,b6,rfl,sm,tab,e⟩
   rw[List.getElem?_map]at hx
   obtain⟨n,hn,rfl⟩:=Option.map_eq_some_iff.mp hx
   have na:=sm _ _ (hp.ns n (List.mem_of_getElem? hn))
   have tk:(p.nms.take (i+1))=p.nms.take i++[n]:=by rw[List.take_succ,hn];rfl
   have hnew:n.name∉ms.map TabM.name:=by
    have e1:ms.map TabM.name=((p.nms.take i).filter fun n=>decide (n.sort=z)).map ToldM.name:=by
     have:=congrArg (List.map (·.1)) e
     rw[List.map_map,List.map_map]at this
     exact this
    rw[e1]
    intro h
    obtain⟨n',h1,h2⟩:=List.mem_map.mp h
    have h3:=(List.mem_filter.mp h1).1
    have nd:((p.nms.take (i+1)).map ToldM.name).Nodup:=List.Nodup.sublist (List.Sublist.map _ (List.take_sublist _ _)) hd
    rw[tk,List.map_append]at nd
    exact (List.nodup_append.mp nd).2.2 n'.name (List.mem_map.mpr ⟨n',h3,rfl⟩) n.name (by simp) h2
   have hlen:ms.length≤61:=by
    have:=congrArg List.length e
    rw[List.length_map,List.length_map]at this
    have h1:=List.length_filter_le (fun n:ToldM=>decide (n.sort=z)) (p.nms.take i)
    have h2:=List.length_take_le i p.nms
    have h3:(p.nms.take i).length≤p.nms.length:=by rw[List.length_take];omega
    omega
   walk_at "rd"
   refine⟨_,SqT.of na,rfl,_,_,rfl,_,_,rfl,_,_,rfl,_,_,rfl,rfl,rfl,ite2 (fun hz => ?_) (fun hz => ?_)⟩
   ·have hz':n.sort=z:=by
     have:=of_decide_eq_true hz
     injection this
    refine⟨_,SqT.of (sm _ _ hp.top),_,rfl,by walk_at "s", fun q hq=>⟨_,DPut.k (k:=Sum.inr n.name) (zz3 hq _ _ tab.top) (by rw[List.length_map,sizeLine_eq];omega),same_upd hdn (sm.trans (zz3 hq)),_,(tab.mono (zz3 hq)).put (m:=⟨n.name,q,p.name,n.st,n.off⟩) zz1,?_⟩⟩
    rw[putT_new hnew,List.map_append,e,tk,List.filter_append,List.map_append]
    simp[hz']
   ·have hz':n.sort≠z:=fun y=>hz (decide_eq_true (by rw[y]))
    refine⟨sm,ms,tab,?_⟩
    rw[tk,List.filter_append,e]
    simp[hz']
  ·rintro σ H' ⟨ms,b3,b4,b5,b6,rfl,sm,tab,e⟩
   rw[List.length_map,List.take_length]at e
   walk_at "rd"
   exact k d ms H' sm tab e hdn
theorem val_no {β:Type}{es:List (Str×Addr×β)}{z:Str}(h:z∉es.map (·.1)):valV (es.map fun e=>((.inr e.1:Key),V.ref e.2.1)) (.inr z)=none:=by
 unfold valV
 rw[List.find?_eq_none.mpr]
 ·rfl
 ·intro x hx
  obtain⟨e,he,rfl⟩:=List.mem_map.mp hx
  intro q
  exact h (List.mem_map.mpr ⟨e,he,Sum.inr.inj (of_decide_eq_true q)⟩)
theorem put_no {β:Type}{es:List (Str×Addr×β)}{z:Str}{v:V}(h:z∉es.map (·.1)):putK (es.map fun e=>((.inr e.1:Key),V.ref e.2.1)) (.inr z) v=(es.map fun e=>((.inr e.1:Key),V.ref e.2.1))++[(.inr z,v)]:=by
 unfold putK
 rw[if_neg]
 intro q
 obtain⟨x,hx,q⟩:=List.any_eq_true.mp q
 obtain⟨e,he,rfl⟩:=List.mem_map.mp hx
 exact h (List.mem_map.mpr ⟨e,he,Sum.inr.inj (of_decide_eq_true q)⟩)
theorem val_in {kvs:List (Key×V)}{k:Key}{v:V}(h:(k,v)∈kvs):∃v',valV kvs k=some v'∧(k,v')∈kvs:=by
 unfold valV
 cases hf:kvs.find? fun kv=>decide (kv.1=k) with
 | none=>exact absurd (decide_eq_true (rfl:k=k)) (List.find?_eq_none.mp hf (k,v) h)
 | some x=>
  have h1:=List.find?_some hf
  have h2:=List.mem_of_find?_eq_some hf
  refine⟨x.2,rfl,?_⟩
  rw[←(of_decide_eq_true h1:x.1=k)];exact h2
noncomputable def zF (H:Hp) (b:Addr):Str:=match H b with | some (.tup (.str n::_))=>n | _=>Str.ofString ""
noncomputable def rF (H:Hp) (b:Addr):List V:=match H b with | some (.tup (.str _::r))=>r | _=>[]
theorem by_adr {H:Hp}{ps:List PcM}{bs:List Addr}(at_:∀p∈ps,p.At H) (nd:(ps.map PcM.name).Nodup) (pm:bs.Perm (ps.map PcM.t)):∃so:List PcM,so.Perm ps∧so.map PcM.t=bs:=by
 have one:∀p∈ps,∀q∈ps,p.t=q.t→p=q:=fun p hp q hq e=>by
  have h1:=(at_ p hp).top
  have h2:=(at_ q hq).top
  rw[e,h2]at h1
  have en:q.name=p.name:=by
   have:=Option.some.inj h1
   injection this with this
   injection this with this _
   injection this
  obtain⟨i,hi,rfl⟩:=List.getElem_of_mem hp
  obtain⟨j,hj,rfl⟩:=List.getElem_of_mem hq
  have pw:=List.pairwise_iff_getElem.mp nd
  rcases Nat.lt_trichotomy i j with z | z | z
  ·exact absurd (by rw[List.getElem_map,List.getElem_map];exact en.symm) (pw i j (by simpa using hi) (by simpa using hj) z)
  ·subst z;rfl
  ·exact absurd (by rw[List.getElem_map,List.getElem_map];exact en) (pw j i (by simpa using hj) (by simpa using hi) z)
 let g:Addr→PcM:=fun b=>(ps.find? fun p=>decide (p.t=b)).getD ⟨0,0,0,Str.ofString "", [],[]⟩
 have hg:∀p∈ps,g p.t=p:=fun p hp=>by
  show (ps.find? fun q=>decide (q.t=p.t)).getD _=p
  cases hf:ps.find? fun q=>decide (q.t=p.t) with
  | none=>exact absurd (decide_eq_true rfl) (List.find?_eq_none.mp hf p hp)
  | some q=>exact (one p hp q (List.mem_of_find?_eq_some hf) (of_decide_eq_true (List.find?_some (p:=fun q:PcM=>decide (q.t=p.t)) hf)).symm).symm
 refine⟨bs.map g,?_,?_⟩
 ·have:=pm.map g
  rw[List.map_map,(List.map_congr_left (f:=g ∘ PcM.t) (g:=id) fun p hp=>hg p hp),List.map_id]at this
  exact this
 ·rw[List.map_map]
  refine (List.map_congr_left (g:=id) fun b hb => ?_).trans (List.map_id _)
  obtain⟨p,hp,rfl⟩:=List.mem_map.mp (pm.mem_iff.mp hb)
  show (g p.t).t=p.t
  rw[hg p hp]
noncomputable def tellOf (p:PcM) (s z:Str):Option (Str×Int×Int):=(p.nms.find? fun n=>decide (n.name=z)&&decide (n.sort=s)).map fun n=>(p.name,n.st,n.off)
noncomputable def firstT (so:List PcM) (s z:Str):Option (Str×Int×Int):=so.findSome? fun p=>tellOf p s z
theorem look_put (ms:List TabM) (m:TabM) (z:Str):lookT (putT ms m) z=if m.name=z then some m else lookT ms z:=by
 unfold putT lookT
 by_cases h:(ms.any fun n=>decide (n.name=m.name))=true
 ·rw[if_pos h]
  by_cases e:m.name=z
  ·rw[if_pos e]
   induction ms with
   | nil=>cases h
   | cons n r ih=>
    rw[List.map_cons,List.find?_cons]
    by_cases q:n.name=m.name
    ·rw[if_pos q,decide_eq_true e]
    ·rw[if_neg q,decide_eq_false (fun y=>q (y.trans e.symm))]
     refine ih ?_
     rw[List.any_cons,decide_eq_false q]at h
     exact h
  ·rw[if_neg e]
   clear h
   induction ms with
   | nil=>rfl
   | cons n r ih=>
    rw[List.map_cons,List.find?_cons,List.find?_cons]
    by_cases q:n.name=m.name
    ·rw[if_pos q,decide_eq_false e,decide_eq_false (fun y=>e (q.symm.trans y))];exact ih
    ·rw[if_neg q]
     by_cases y:n.name=z
     ·rw[decide_eq_true y]
     ·rw[decide_eq_false y];exact ih
 ·rw[if_neg h,List.find?_append]
  by_cases e:m.name=z
  ·rw[if_pos e,List.find?_eq_none.mpr]
   ·rw[List.find?_cons,decide_eq_true e];rfl
   ·intro n hn q
    exact h (List.any_eq_true.mpr ⟨n,hn,decide_eq_true ((of_decide_eq_true q).trans e.symm)⟩)
  ·rw[if_neg e,List.find?_cons,decide_eq_false e]
   cases ms.find? fun n=>decide (n.name=z)<;>rfl
theorem put_nd {ms:List TabM}{m:TabM}(h:(ms.map TabM.name).Nodup):((putT ms m).map TabM.name).Nodup:=by
 unfold putT
 by_cases q:(ms.any fun n=>decide (n.name=m.name))=true
 ·rw[if_pos q,List.map_map]
  have e:(TabM.name ∘ fun n=>if n.name=m.name then m else n)=TabM.name:=by
   funext n
   show TabM.name (if n.name=m.name then m else n)=n.name
   by_cases y:n.name=m.name
   ·rw[if_pos y,y]
   ·rw[if_neg y]
  rw[e];exact h
 ·rw[if_neg q,List.map_append]
  refine List.nodup_append.mpr ⟨h,by simp,fun x hx y hy e => ?_⟩
  obtain⟨n,hn,rfl⟩:=List.mem_map.mp hx
  rw[List.map_singleton,List.mem_singleton]at hy
  exact q (List.any_eq_true.mpr ⟨n,hn,decide_eq_true (e.trans hy)⟩)
theorem merge_T:∀(ns ms:List TabM),mergeK (ms.map TabM.kv) (ns.map TabM.kv)=(ns.foldl putT ms).map TabM.kv
 | [],ms=>rfl
 | n::ns,ms=>by
  rw[List.map_cons,List.foldl_cons,←merge_T ns,←putK_T];rfl
theorem merge_nd:∀{ns ms:List TabM},(ms.map TabM.name).Nodup→((ns.foldl putT ms).map TabM.name).Nodup
 | [],_,h=>h
 | n::ns,ms,h=>merge_nd (ns:=ns) (put_nd h)
theorem merge_mem:∀{ns ms:List TabM}{m:TabM},m∈ns.foldl putT ms→m∈ns∨m∈ms
 | [],_,_,h=>.inr h
 | n::ns,ms,m,h=>by
  rcases merge_mem (ns:=ns) h with z | z
  ·exact .inl (List.mem_cons_of_mem _ z)
  ·rcases putT_mem z with y | y
   ·exact .inr y
   ·exact .inl (y▸List.mem_cons_self)
theorem merge_len:∀{ns ms:List TabM},(ns.foldl putT ms).length≤ms.length+ns.length
 | [],_=>Nat.le_refl _
 | n::ns,ms=>by
  have h1:=merge_len (ns:=ns) (ms:=putT ms n)
  have h2:=putT_len (ms:=ms) (m:=n)
  rw[List.foldl_cons,List.length_cons]
  omega
theorem merge_look:∀{ns ms:List TabM}{z:Str},(ns.map TabM.name).Nodup→lookT (ns.foldl putT ms) z=(lookT ns z).or (lookT ms z)
 | [],ms,z,_=>rfl
 | n::ns,ms,z,h=>by
  rw[List.map_cons]at h
  obtain⟨h1,h2⟩:=List.nodup_cons.mp h
  rw[List.foldl_cons,merge_look h2,look_put]
  by_cases e:n.name=z
  ·rw[if_pos e]
   have:lookT ns z=none:=List.find?_eq_none.mpr fun m hm q=>h1 (List.mem_map.mpr ⟨m,hm,(of_decide_eq_true q).trans e.symm⟩)
   rw[this]
   unfold lookT
   rw[List.find?_cons,decide_eq_true e];rfl
  ·rw[if_neg e]
   unfold lookT
   rw[List.find?_cons,decide_eq_false e]
theorem told_look {p:PcM}{s z:Str}{ms:List TabM}(e:ms.map (fun m=>(m.name,m.a,m.b,m.c))=(p.nms.filter fun n=>decide (n.sort=s)).map (fun n=>(n.name,p.name,n.st,n.off))):(lookT ms z).map TabM.vl=tellOf p s z:=by
 have h1:(lookT ms z).map TabM.vl=((ms.map (fun m=>(m.name,m.a,m.b,m.c))).find? fun t=>decide (t.1=z)).map (·.2):=by
  unfold lookT
  rw[List.find?_map,Option.map_map];rfl
 rw[h1,e,List.find?_map,Option.map_map,List.find?_filter]
 unfold tellOf
 congr 1
 refine congrArg (fun f=>List.find? f p.nms) (funext fun n => ?_)
 show decide (decide (n.sort=s)=true∧decide (n.name=z)=true)=_
 by_cases a:n.name=z<;>by_cases b:n.sort=s<;>simp[a,b]
theorem told_nd {p:PcM}{s:Str}{ms:List TabM}(h:(p.nms.map ToldM.name).Nodup) (e:ms.map (fun m=>(m.name,m.a,m.b,m.c))=(p.nms.filter fun n=>decide (n.sort=s)).map (fun n=>(n.name,p.name,n.st,n.off))):(ms.map TabM.name).Nodup:=by
 have e1:ms.map TabM.name=(p.nms.filter fun n=>decide (n.sort=s)).map ToldM.name:=by
  have:=congrArg (List.map (·.1)) e
  rw[List.map_map,List.map_map]at this
  exact this
 rw[e1]
 exact List.Nodup.sublist (List.Sublist.map _ List.filter_sublist) h
theorem told_len {p:PcM}{s:Str}{ms:List TabM}(e:ms.map (fun m=>(m.name,m.a,m.b,m.c))=(p.nms.filter fun n=>decide (n.sort=s)).map (fun n=>(n.name,p.name,n.st,n.off))):ms.length≤p.nms.length:=by
 have:=congrArg List.length e
 rw[List.length_map,List.length_map]at this
 have h1:=List.length_filter_le (fun n:ToldM=>decide (n.sort=s)) p.nms
 omega
theorem tell_some {p:PcM}{s z:Str}{v:Str×Int×Int}(h:tellOf p s z=some v):∃n∈p.nms,n.name=z∧n.sort=s∧v=rvl (p.name,n):=by
 unfold tellOf at h
 obtain⟨n,h1,h2⟩:=Option.map_eq_some_iff.mp h
 have h3:=List.find?_some h1
 rw[Bool.and_eq_true]at h3
 exact⟨n,List.mem_of_find?_eq_some h1,of_decide_eq_true h3.1,of_decide_eq_true h3.2,h2.symm⟩
theorem tell_none {p:PcM}{s z:Str}(h:tellOf p s z=none):∀n∈p.nms,n.name=z→n.sort≠s:=fun n hn h1 h2=>by
 unfold tellOf at h
 have:=List.find?_eq_none.mp (Option.map_eq_none_iff.mp h) n hn
 exact this (by rw[decide_eq_true h1,decide_eq_true h2];rfl)
theorem mem_rows {ps:List PcM}{r:Str×ToldM}:r∈rowsN ps↔∃p∈ps,p.name=r.1∧r.2∈p.nms:=by
 unfold rowsN
 rw[List.mem_flatMap]
 constructor
 ·rintro⟨p,hp,h⟩
  obtain⟨n,hn,rfl⟩:=List.mem_map.mp h
  exact⟨p,hp,rfl,hn⟩
 ·rintro⟨p,hp,h1,h2⟩
  exact⟨p,hp,List.mem_map.mpr ⟨r.2,h2,by rw[h1]⟩⟩
theorem nm_of {ps so:List PcM}{ms:List TabM}(pm:so.Perm ps) (pw:(so.map fun p=>((p.name,0):PairD)).Pairwise leP) (nd:(ms.map TabM.name).Nodup) (h:∀z,(lookT ms z).map TabM.vl=(firstT so sTell z).or (firstT so sWeak z)):NmOk (rowsN ps) ms:=by
 refine⟨nd,fun z m hm => ?_,fun z hz r hr hn => ?_⟩
 ·have e:=h z
  rw[hm]at e
  cases h1:firstT so sTell z with
  | some v=>
   rw[h1]at e
   obtain⟨p,hp,hv⟩:=List.exists_of_findSome?_eq_some h1
   obtain⟨n,hn,q1,q2,q3⟩:=tell_some hv
   exact .inl ⟨(p.name,n),mem_rows.mpr ⟨p,pm.mem_iff.mp hp,rfl,hn⟩,q1,q2,(Option.some.inj e).trans q3⟩
  | none=>
   rw[h1]at e
   refine .inr ⟨fun r hr hn => ?_,?_⟩
   ·obtain⟨p,hp,q1,q2⟩:=mem_rows.mp hr
    exact tell_none (List.findSome?_eq_none_iff.mp h1 p (pm.mem_iff.mpr hp)) r.2 q2 hn
   ·obtain⟨l1,p,l2,el,hv,nn⟩:=List.findSome?_eq_some_iff.mp (show firstT so sWeak z=some (TabM.vl m) from e.symm)
    obtain⟨n,hn,q1,q2,q3⟩:=tell_some hv
    have hp:p∈so:=by rw[el];simp
    refine⟨(p.name,n),mem_rows.mpr ⟨p,pm.mem_iff.mp hp,rfl,hn⟩,q1,q2,q3,fun r' hr' n' s' => ?_⟩
    obtain⟨q,hq,y1,y2⟩:=mem_rows.mp hr'
    have hq':=pm.mem_iff.mpr hq
    rw[el]at hq'
    rcases List.mem_append.mp hq' with y | y
    ·exact absurd s' (tell_none (nn q y) r'.2 y2 n')
    ·rcases List.mem_cons.mp y with y | y
     ·rw[←y1,y];exact List.lt_irrefl _
     ·rw[el,List.map_append,List.map_cons]at pw
      have:=(List.pairwise_cons.mp (List.pairwise_append.mp pw).2.1).1 (q.name,0) (List.mem_map.mpr ⟨q,y,rfl⟩)
      show ¬r'.1.cps.toList<p.name.cps.toList
      rw[←y1]
      intro z
      unfold leP at this
      rw[(ltP_cases (q.name,0) (p.name,0)).mpr (.inl z)]at this
      cases this
 ·have e:=h z
  rw[hz]at e
  have e:(firstT so sTell z).or (firstT so sWeak z)=none:=e.symm
  obtain⟨e1,e2⟩:=Option.or_eq_none_iff.mp e
  obtain⟨p,hp,q1,q2⟩:=mem_rows.mp hr
  have hp':=pm.mem_iff.mpr hp
  exact⟨tell_none (List.findSome?_eq_none_iff.mp e1 p hp') r.2 q2 hn,tell_none (List.findSome?_eq_none_iff.mp e2 p hp') r.2 q2 hn⟩
theorem fold_first (so:List PcM) (s z:Str) (b:Option (Str×Int×Int)):so.reverse.foldl (fun b p=>(tellOf p s z).or b) b=(firstT so s z).or b:=by
 induction so with
 | nil=>rfl
 | cons p r ih=>
  rw[List.reverse_cons,List.foldl_append,ih]
  unfold firstT
  rw[List.findSome?_cons]
  show (tellOf p s z).or ((r.findSome? fun p=>tellOf p s z).or b)=_
  cases tellOf p s z<;>rfl
theorem G_qqq (T:Txt K mg A):FnOk P w K mg base CX0 1 A.qqq A.fd_qqq ["self", "name", "one", "other"] (sp_tinit A):=by
 refine T.F_qqq.ok sc_qqq (fun vs H Q E h => ?_) (fun cdv Ar outer s H vs Q E hr h => ?_)
 ·obtain⟨a,n,p,q,rfl,_⟩:=h
  rfl
 ·obtain⟨a,n,p,q,rfl,ha,hn,hp,hq,k⟩:=h
  refine⟨_,(@zz2 _ _ _ _ _ (@ps_expr _ _ _ _ (@pe_xinit _ _ _ _ _ _ _ _ _ _ rfl T.mc_qwj T.bi_qwj (@zz0 _ _ _ _ _ (@pv _ 0 _ _ (by rfl) (by walk_at "p") (by decide) (by decide)) (@zz0 _ _ _ _ _ (@pe_joined _ _ _ _ _ _ (@pj_cons _ _ _ _ _ (@pe_repr _ _ _ _ (@pv _ 1 _ _ (by rfl) (by walk_at "p") (by decide) (by decide))) (@pj_cons _ _ _ _ _ (@pe_str _ _ _ _) (@pj_cons _ _ _ _ _ (@pe_repr _ _ _ _ (@pv _ 2 _ _ (by rfl) (by walk_at "p") (by decide) (by decide))) (@pj_cons _ _ _ _ _ (@pe_str _ _ _ _) (@pj_cons _ _ _ _ _ (@pe_repr _ _ _ _ (@pv _ 3 _ _ (by rfl) (by walk_at "p") (by decide) (by decide))) (@pj_nil _))))))) (@pa_nil _) (by rfl)) (by rfl)) (by decide) (by rfl) (by rfl) (by rfl)) (by rfl)) (@zz2 _ _ _ _ _ (@ps_xfld _ _ _ _ _ _ _ _ (@pv _ 0 _ _ (by rfl) (by walk_at "p") (by decide) (by decide)) (@pv _ 1 _ _ (by rfl) (by walk_at "p") (by decide) (by decide)) rfl) (@zz2 _ _ _ _ _ (@ps_xfld _ _ _ _ _ _ _ _ (@pv _ 0 _ _ (by rfl) (by walk_at "p") (by decide) (by decide)) (@pv _ 2 _ _ (by rfl) (by walk_at "p") (by decide) (by decide)) rfl) (@zz5 _ _ _ (@ps_xfld _ _ _ _ _ _ _ _ (@pv _ 0 _ _ (by rfl) (by walk_at "p") (by decide) (by decide)) (@pv _ 3 _ _ (by rfl) (by walk_at "p") (by decide) (by decide)) rfl))))),?_⟩
  walk_at "rd"
  have l1:=repr_le hn.2 hn.1
  have l2:=repr_le hp.2 hp.1
  have l4:=repr_le hq.2 hq.1
  have l0:Str.empty.length=0:=rfl
  have l3:(Str.ofString " is told by ").length=12:=by decide +kernel
  have l5:(Str.ofString " and by ").length=8:=by decide +kernel
  have sz:∀m:Nat,m≤600→m≤sizeLine:=fun m h=>by rw[sizeLine_eq];omega
  have e1:putF (Str.ofString "one") (V.str p) [(Str.ofString "name", V.str n)]=[(Str.ofString "name", V.str n),(Str.ofString "one", V.str p)]:=by
   show (if Str.ofString "name" = Str.ofString "one" then _ else _)=_
   rw[if_neg (by decide)]
   rfl
  have e2:putF (Str.ofString "other") (V.str q) [(Str.ofString "name", V.str n),(Str.ofString "one", V.str p)]=[(Str.ofString "name", V.str n),(Str.ofString "one", V.str p),(Str.ofString "other", V.str q)]:=by
   show (if Str.ofString "name" = Str.ofString "other" then _ else (Str.ofString "name", V.str n)::if Str.ofString "one" = Str.ofString "other" then _ else _)=_
   rw[if_neg (by decide),if_neg (by decide)]
   rfl
  refine⟨sz _ (by omega),sz _ (by rw[slen];omega),sz _ (by rw[slen,slen];omega),sz _ (by omega),sz _ (by rw[slen,slen,slen];omega),sz _ (by rw[slen,slen,slen,slen];omega),sz _ (by omega),sz _ (by rw[slen,slen,slen,slen,slen];omega),sz _ (by rw[slen,slen,slen,slen,slen];omega),A.c_qyw,none,ha,A.qqq,T.er_qyw,sz _ (by decide),A.c_qyw,A.qqq,none,ha,T.er_qyw,T.no_qyw_name,.inl ⟨rfl,fun d hd => ?_⟩⟩
  have hne:d≠a:=Ne.symm (zz4 ha hd)
  have hD:upd (upd H d (XD d [(Str.ofString "name", V.str n)])) a (XN a A.c_qyw (some d)) d=some (XD d [(Str.ofString "name", V.str n)]):=by rw[upd_ne hne,zz1]
  refine⟨A.c_qyw,A.qqq,some d,zz1,T.er_qyw,T.no_qyw_one,.inr ⟨d,rfl,_,hD,by simp,A.c_qyw,A.qqq,some d,by rw[upd_ne (Ne.symm hne),zz1],T.er_qyw,T.no_qyw_other,.inr ⟨d,rfl,_,zz1,by rw[e1];simp,?_⟩⟩⟩
  rw[e1,e2]
  refine k d _ hd hne (fun b o hb q => ?_) ?_ zz1
  ·have hbd:=zz4 q hd
   rw[upd_ne hbd,upd_ne hbd,upd_ne hb,upd_ne hbd];exact q
  ·rw[upd_ne (Ne.symm hne),upd_ne (Ne.symm hne),zz1]
theorem inj_nd {α β:Type}{l:List α}{f:α→β}(nd:(l.map f).Nodup) {x y:α}(hx:x∈l) (hy:y∈l) (e:f x=f y):x=y:=by
 obtain⟨i,hi,rfl⟩:=List.getElem_of_mem hx
 obtain⟨j,hj,rfl⟩:=List.getElem_of_mem hy
 have h:∀i j (hi:i<l.length) (hj:j<l.length),i<j→f l[i]≠f l[j]:=fun i j hi hj q=>by
  have:=List.pairwise_iff_getElem.mp nd i j (by rw[List.length_map];exact hi) (by rw[List.length_map];exact hj) q
  rwa [List.getElem_map,List.getElem_map]at this
 rcases Nat.lt_trichotomy i j with q | q | q
 ·exact absurd e (h i j hi hj q)
 ·subst q;rfl
 ·exact absurd e.symm (h j i hj hi q)
theorem grp_snoc {R:List (Str×Str)}{y t z:Str}:grp (R++[(y,t)]) z=if y=z then grp R z++[t] else grp R z:=by
 unfold grp
 rw[List.filter_append,List.map_append]
 by_cases e:y=z
 ·simp[e]
 ·simp[e]
theorem grp_no {R:List (Str×Str)}{z:Str}(h:z∉R.map (·.1)):grp R z=[]:=by
 unfold grp
 rw[List.filter_eq_nil_iff.mpr]
 ·rfl
 ·intro r hr q
  exact h (List.mem_map.mpr ⟨r,hr,of_decide_eq_true q⟩)
theorem grp_len {R:List (Str×Str)}{z:Str}:(grp R z).length≤R.length:=by
 unfold grp
 rw[List.length_map];exact List.length_filter_le _ _
set_option genInjectivity false in
structure Grp (H0 H:Hp) (d:Addr) (es:List (Str×Addr×List Str)) (R:List (Str×Str)):Prop where
 sm:Same H0 H
 fd:H0 d=none
 top:H d=some (.dK (es.map fun e=>((.inr e.1:Key),V.ref e.2.1)))
 at_:∀e∈es,H e.2.1=some (.lst (e.2.2.map V.str))
 fr:∀e∈es,H0 e.2.1=none
 nd:(es.map (·.1)).Nodup
 na:(es.map (·.2.1)).Nodup
 eq:∀e∈es,e.2.2=grp R e.1
 all:∀z,z∈es.map (·.1)↔z∈R.map (·.1)
 ln:es.length≤R.length
theorem Grp.nil {H:Hp}{d:Addr}(h:H d=none):Grp H (upd H d (.dK [])) d [] []:=⟨zz3 h,h,zz1,(fun e he=>by cases he),(fun e he=>by cases he),List.nodup_nil,List.nodup_nil,(fun e he=>by cases he),fun z=>Iff.rfl,Nat.le_refl _⟩
theorem Grp.same {H0 H H':Hp}{d:Addr}{es:List (Str×Addr×List Str)}{R:List (Str×Str)}(g:Grp H0 H d es R) (s:Same H H'):Grp H0 H' d es R:=⟨g.sm.trans s,g.fd,s _ _ g.top,fun e he=>s _ _ (g.at_ e he),g.fr,g.nd,g.na,g.eq,g.all,g.ln⟩
theorem Grp.val {H0 H:Hp}{d:Addr}{es:List (Str×Addr×List Str)}{R:List (Str×Str)}(g:Grp H0 H d es R) {e:Str×Addr×List Str}(he:e∈es):valV (es.map fun e=>((.inr e.1:Key),V.ref e.2.1)) (.inr e.1)=some (V.ref e.2.1):=by
 obtain⟨v,h1,h2⟩:=val_in (List.mem_map.mpr ⟨e,he,rfl⟩:((.inr e.1:Key),V.ref e.2.1)∈es.map fun e=>((.inr e.1:Key),V.ref e.2.1))
 obtain⟨x,hx,ex⟩:=List.mem_map.mp h2
 have q1:x.1=e.1:=Sum.inr.inj (congrArg (·.1) ex)
 have q2:V.ref x.2.1=v:=congrArg (·.2) ex
 have:x=e:=inj_nd g.nd hx he q1
 rw[h1,←q2,this]
theorem Grp.neq {H0 H:Hp}{d:Addr}{es:List (Str×Addr×List Str)}{R:List (Str×Str)}(g:Grp H0 H d es R) {e:Str×Addr×List Str}(he:e∈es):e.2.1≠d:=ne_of (g.at_ e he) g.top (by intro z;cases z)
theorem Grp.new {H0 H:Hp}{d l:Addr}{es:List (Str×Addr×List Str)}{R:List (Str×Str)}{z t:Str}(g:Grp H0 H d es R) (hz:z∉es.map (·.1)) (hl:H l=none):Grp H0 (upd (upd (upd H l (.lst [])) d (.dK (putK (es.map fun e=>((.inr e.1:Key),V.ref e.2.1)) (.inr z) (.ref l)))) l (.lst [.str t])) d (es++[(z,l,[t])]) (R++[(z,t)]):=by
 have nl:d≠l:=zz4 g.top hl
 have old:∀b o,b≠d→H b=some o→upd (upd (upd H l (.lst [])) d (.dK (putK (es.map fun e=>((.inr e.1:Key),V.ref e.2.1)) (.inr z) (.ref l)))) l (.lst [.str t]) b=some o:=fun b o n e=>by
  have:=zz4 e hl
  rw[upd_ne this,upd_ne n,upd_ne this];exact e
 refine⟨fun b o e=>old b o (zz4 e g.fd) (g.sm _ _ e),g.fd,by rw[upd_ne nl,zz1,put_no hz,List.map_append];rfl,fun e he => ?_,fun e he => ?_,?_,?_,fun e he => ?_,fun y => ?_,by rw[List.length_append,List.length_append];have:=g.ln;simp;exact this⟩
 ·rcases List.mem_append.mp he with q | q
  ·exact old _ _ (g.neq q) (g.at_ e q)
  ·rw[List.mem_singleton.mp q];exact zz1
 ·rcases List.mem_append.mp he with q | q
  ·exact g.fr e q
  ·rw[List.mem_singleton.mp q];exact g.sm.free hl
 ·rw[List.map_append]
  refine List.nodup_append.mpr ⟨g.nd,by simp,fun x hx y hy e => ?_⟩
  rw[List.map_singleton,List.mem_singleton]at hy
  exact hz ((e.trans hy:x=z)▸hx)
 ·rw[List.map_append]
  refine List.nodup_append.mpr ⟨g.na,by simp,fun x hx y hy e => ?_⟩
  rw[List.map_singleton,List.mem_singleton]at hy
  obtain⟨u,hu,rfl⟩:=List.mem_map.mp hx
  have:=g.at_ u hu
  rw[e,hy,hl]at this;cases this
 ·rw[grp_snoc]
  rcases List.mem_append.mp he with q | q
  ·rw[if_neg (fun y:z=e.1=>hz (by rw[y];exact List.mem_map.mpr ⟨e,q,rfl⟩))];exact g.eq e q
  ·rw[List.mem_singleton.mp q]
   show [t]=if z=z then grp R z++[t] else _
   rw[if_pos rfl,grp_no fun y=>hz ((g.all z).mpr y)];rfl
 ·rw[List.map_append,List.map_append,List.mem_append,List.mem_append,g.all y];rfl
theorem Grp.old {H0 H:Hp}{d l:Addr}{es:List (Str×Addr×List Str)}{R:List (Str×Str)}{t:Str}{e:Str×Addr×List Str}(g:Grp H0 H d es R) (he:e∈es) (hl:H l=none):Grp H0 (upd (upd H l (.lst [])) e.2.1 (.lst (e.2.2.map V.str++[.str t]))) d (es.map fun x=>if x.1=e.1 then (x.1,x.2.1,x.2.2++[t]) else x) (R++[(e.1,t)]):=by
 have h1:∀x:Str×Addr×List Str,(if x.1=e.1 then (x.1,x.2.1,x.2.2++[t]) else x).1=x.1:=fun x=>by split<;>rfl
 have h2:∀x:Str×Addr×List Str,(if x.1=e.1 then (x.1,x.2.1,x.2.2++[t]) else x).2.1=x.2.1:=fun x=>by split<;>rfl
 have m1:(es.map fun x=>if x.1=e.1 then (x.1,x.2.1,x.2.2++[t]) else x).map (·.1)=es.map (·.1):=by rw[List.map_map];exact List.map_congr_left fun x _=>h1 x
 have m2:(es.map fun x=>if x.1=e.1 then (x.1,x.2.1,x.2.2++[t]) else x).map (·.2.1)=es.map (·.2.1):=by rw[List.map_map];exact List.map_congr_left fun x _=>h2 x
 have uq:∀x∈es,x.1=e.1→x=e:=fun x hx q1=>inj_nd g.nd hx he q1
 have ua:∀x∈es,x.2.1=e.2.1→x=e:=fun x hx q1=>inj_nd g.na hx he q1
 have old:∀b o,b≠e.2.1→H b=some o→upd (upd H l (.lst [])) e.2.1 (.lst (e.2.2.map V.str++[.str t])) b=some o:=fun b o n q=>by
  rw[upd_ne n,upd_ne (zz4 q hl)];exact q
 refine⟨fun b o q=>old b o (zz4 q (g.fr e he)) (g.sm _ _ q),g.fd,?_,fun x hx => ?_,fun x hx => ?_,by rw[m1];exact g.nd,by rw[m2];exact g.na,fun x hx => ?_,fun y => ?_,by rw[List.length_map,List.length_append];exact Nat.le_succ_of_le g.ln⟩
 ·rw[List.map_map,old _ _ (Ne.symm (g.neq he)) g.top]
  refine congrArg (fun u=>some (HO.dK u)) (List.map_congr_left fun x _ => ?_)
  show _=((.inr (if x.1=e.1 then (x.1,x.2.1,x.2.2++[t]) else x).1:Key),V.ref (if x.1=e.1 then (x.1,x.2.1,x.2.2++[t]) else x).2.1)
  rw[h1,h2]
 ·obtain⟨y,hy,rfl⟩:=List.mem_map.mp hx
  by_cases q:y.1=e.1
  ·have:=uq y hy q
   subst this
   rw[if_pos rfl,List.map_append];exact zz1
  ·rw[if_neg q]
   exact old _ _ (fun z=>q (by rw[ua y hy z])) (g.at_ y hy)
 ·obtain⟨y,hy,rfl⟩:=List.mem_map.mp hx
  rw[h2];exact g.fr y hy
 ·obtain⟨y,hy,rfl⟩:=List.mem_map.mp hx
  rw[grp_snoc]
  by_cases q:y.1=e.1
  ·rw[if_pos q]
   show y.2.2++[t]=if e.1=y.1 then grp R y.1++[t] else _
   rw[if_pos q.symm,g.eq y hy]
  ·rw[if_neg q,if_neg (Ne.symm q)];exact g.eq y hy
 ·rw[m1,g.all y,List.map_append,List.mem_append]
  refine⟨.inl,fun q=>q.elim id fun q => ?_⟩
  rw[List.map_singleton,List.mem_singleton]at q
  rw[q];exact (g.all _).mp (List.mem_map.mpr ⟨e,he,rfl⟩)
theorem NoD.perm {ps so:List PcM}(h:NoD so) (p:ps.Perm so):NoD ps:=fun z=>by
 have h1:(grp (strR ps) z).Perm (grp (strR so) z):=((p.flatMap_right _).filter _).map _
 rw[h1.length_eq];exact h z
theorem PsX.perm {ps so:List PcM}(h:PsX ps) (pm:so.Perm ps):PsX so:=
 ⟨by rw[pm.length_eq];exact h.few,(pm.map _).nodup_iff.mpr h.nd,fun p hp=>h.nms p (pm.mem_iff.mp hp),fun p hp=>h.sg p (pm.mem_iff.mp hp),by have:(rowsN so).Perm (rowsN ps):=pm.flatMap_right _;rw[this.length_eq];exact h.rl⟩
theorem str_len {ps:List PcM}:(strR ps).length≤(rowsN ps).length:=by
 unfold strR rowsN
 induction ps with
 | nil=>exact Nat.le_refl _
 | cons p r ih=>
  rw[List.flatMap_cons,List.flatMap_cons,List.length_append,List.length_append,List.length_map,List.length_map]
  have:=List.length_filter_le (fun n:ToldM=>decide (n.sort=sTell)) p.nms
  omega
theorem str_snoc {ps:List PcM}{p:PcM}:strR (ps++[p])=strR ps++(p.nms.filter fun n=>decide (n.sort=sTell)).map fun n=>(n.name,p.name):=by
 unfold strR
 rw[List.flatMap_append];simp
theorem G_qqk (T:Txt K mg A):FnOk P w K mg base (CXE P w) 3 A.qqk A.fd_qqk ["ordered"] (sp_twiceX A):=by
 refine T.F_qqk.okE sc_qqk (fun vs H Q E h => ?_) (fun cdv Ar outer s H vs Q E hr h => ?_)
 ·obtain⟨L,ps,rfl,_⟩:=h
  rfl
 ·obtain⟨L,ps,rfl,hP,hN,k,kx⟩:=h
  refine⟨_,(@zz2 _ _ _ _ _ (@ps_set _ _ 1 _ _ _ _ sc_qqk.nd rfl (by walk_at "o") (@pe_dnewK _ _) (by rfl) (by walk_at "q")) (@zz2 _ _ _ _ _ (@PS.nox _ _ _ (@ps_for _ _ _ _ _ _ _ _ PassesOwn.never rfl (@pi_listK _ K _ _ _ rfl (@pv _ 0 _ _ (by rfl) (by walk_at "p") (by decide) (by decide))) (@zz7 _ _ 2 _ sc_qqk.nd rfl (by walk_at "o") (by walk_at "q")) (@zz5 _ _ _ (@PS.nox _ _ _ (@ps_for _ _ _ _ _ _ _ _ PassesOwn.never rfl (@pi_dict _ _ _ _ (@zz12 _ _ _ _ _ _ _ _ _ _ _ _ _ _ _ _ (G_qqv T) (hr.mono (by decide)) rfl T.m_qqv T.k_qqv T.b_qqv .nil (@pass0 _) (@zz0 _ _ _ _ _ (@pv _ 2 _ _ (by rfl) (by walk_at "p") (by decide) (by decide)) (@zz0 _ _ _ _ _ (@pe_str _ _ _ _) (@pa_nil _) (by rfl)) (by rfl)) (by decide) (by rfl) (by rfl))) (@zz7 _ _ 3 _ sc_qqk.nd rfl (by walk_at "o") (by walk_at "q")) (@zz5 _ _ _ (@ps_expr _ _ _ _ (@pe_bm _ _ _ _ _ _ _ _ _ _ _ _ PySem.F.plainAttrs_list PySem.F.slot_list_append PySem.F.type_list_append mt_append (@pe_dsd _ _ _ _ _ _ _ _ _ (hu_of hr) (@pv _ 1 _ _ (by rfl) (by walk_at "p") (by decide) (by decide)) (@pv _ 3 _ _ (by rfl) (by walk_at "p") (by decide) (by decide)) (@pe_lst _ _ _ _ (@pa_nil _)) ⟨rfl,rfl,rfl,rfl⟩) (@zz0 _ _ _ _ _ (@pe_ix _ _ _ _ _ _ _ (zz10 (K:=K) rfl) (@pv _ 2 _ _ (by rfl) (by walk_at "p") (by decide) (by decide)) (@pe_int _ _ _ _) (fun _ _=>rfl)) (@pa_nil _) (by rfl)) (by rfl) (by rfl) (by rfl) (by rfl) (by rfl)) (by rfl))) (by intro _;rfl)))) (by intro _;rfl))) (@zz2 _ _ _ _ _ (@ps_setC _ _ _ _ _ _ _ _ _ _ 4 _ _ _ _ _ _ _ sc_qqk.nd rfl (by walk_at "o") (blk_mk (own:=["name"]) (fr:=["tellers"]) (fm:=[1]) rfl (by decide +kernel) (by decide +kernel) (by decide +kernel) (.cons rfl (by walk_at "o") rfl .nil)) rfl (@pi_dict _ _ _ _ (@pv _ 1 _ _ (by rfl) (by walk_at "p") (by decide) (by decide))) (fun _ _ _=>⟨(@zz7 _ _ 0 _ (by show List.Nodup (["name", "tellers"]:List Str);decide +kernel) rfl (by walk_at "o") (by walk_at "q")) , (@pts_one _ _ _ (@zz11 _ _ _ _ _ _ _ _ op_gt (@zz6 _ _ _ _ _ _ _ _ _ (call_lenK (K:=K) rfl) (by rfl) T.n_len bt_len (@zz0 _ _ _ _ _ (@pe_dget _ _ _ _ _ _ (hu_of hr) (@pv _ 1 _ _ (by rfl) (by walk_at "p") (by decide) (by decide)) (@pv _ 0 _ _ (by rfl) (by walk_at "p") (by decide) (by decide)) (fun _ _=>rfl)) (@pa_nil _) (by rfl)) (by decide) (by decide) (by rfl) (by rfl)) (@pe_int _ _ _ _) (nomark _))) , (@pv _ 0 _ _ (by rfl) (by walk_at "p") (by decide) (by decide))⟩) (by rfl) (by intro _;rfl) (by walk_at "q")) (@zz5 _ _ _ (@ps_if _ _ _ _ _ _ _ _ (@pt_truth _ _ _ (@pv _ 4 _ _ (by rfl) (by walk_at "p") (by decide) (by decide)) (fun _=>rfl)) (@zz2 _ _ _ _ _ (@ps_set _ _ 5 _ _ _ _ sc_qqk.nd rfl (by walk_at "o") (@zz6 _ _ _ _ _ _ _ _ _ (call_minLK rfl (K:=K) rfl) (by rfl) T.n_min bt_min (@zz0 _ _ _ _ _ (@pv _ 4 _ _ (by rfl) (by walk_at "p") (by decide) (by decide)) (@pa_nil _) (by rfl)) (by decide) (by decide) (by rfl) (by rfl)) (by rfl) (by walk_at "q")) (@zz5 _ _ _ (@ps_raiseI _ _ _ _ _ _ _ _ _ _ _ _ _ _ _ (G_qqq T) (hr.mono (by decide)) T.b_qqq T.er_qyw rfl T.mc_qyw rfl xe_cx (@zz0 _ _ _ _ _ (@pv _ 5 _ _ (by rfl) (by walk_at "p") (by decide) (by decide)) (@zz0 _ _ _ _ _ (@pe_ix _ _ _ _ _ _ _ (zz16 (K:=K) rfl) (@pe_dget _ _ _ _ _ _ (hu_of hr) (@pv _ 1 _ _ (by rfl) (by walk_at "p") (by decide) (by decide)) (@pv _ 5 _ _ (by rfl) (by walk_at "p") (by decide) (by decide)) (fun _ _=>rfl)) (@pe_int _ _ _ _) (fun _ _=>rfl)) (@zz0 _ _ _ _ _ (@pe_ix _ _ _ _ _ _ _ (zz16 (K:=K) rfl) (@pe_dget _ _ _ _ _ _ (hu_of hr) (@pv _ 1 _ _ (by rfl) (by walk_at "p") (by decide) (by decide)) (@pv _ 5 _ _ (by rfl) (by walk_at "p") (by decide) (by decide)) (fun _ _=>rfl)) (@pe_int _ _ _ _) (fun _ _=>rfl)) (@pa_nil _) (by rfl)) (by rfl)) (by rfl)) (by rfl) (by rfl) (by rfl) (by decide)))) (@zz13 _)))))),?_⟩
  walk_at "rd"
  intro d hd
  have rl:=hN.rl
  have sl:=str_len (ps:=ps)
  refine ForL.of (xs:=ps.map PcM.v) (fun i σ H'=>∃(es:List (Str×Addr×List Str)) (b2 b3:Option V),σ=[some (.ref L),some (.ref d),b2,b3,none,none]∧Grp H H' d es (strR (ps.take i)))
   ⟨[],_,_,rfl,Grp.nil hd⟩ ?_ ?_ ?_
  ·rintro i σ H' hi ⟨es,b2,b3,rfl,g⟩
   exact SqL.of (g.sm _ _ hP.top)
  ·rintro i v σ H' hv ⟨es,b2,b3,rfl,g⟩
   walk_at "1"
   walk_at "2"
   have hm:=List.mem_of_getElem? hp
   have pa:=(hP.at_ p hm).mono g.sm
   obtain⟨n1,n2⟩:=hN.nms p hm
   walk_at "rd"
   refine⟨p,rfl,pa,n1,n2,fun d2 ms H2 s2 tab em f2 => ?_⟩
   have ep:∀j,(ms.take j).map (fun m=>(m.name,p.name))=(((p.nms.filter fun n=>decide (n.sort=sTell)).take j).map fun n=>(n.name,p.name)):=fun j=>by
    have:=congrArg (fun l=>(List.map (fun x:Str×Str×Int×Int=>(x.1,p.name)) l).take j) em
    simp only[List.map_map]at this
    rw[List.map_take,List.map_take];exact this
   have tk:ps.take (i+1)=ps.take i++[p]:=by rw[List.take_succ,hp];rfl
   have lnT:∀j,(strR (ps.take i)++(ms.take j).map fun m=>(m.name,p.name)).length≤63:=fun j=>by
    have h1:(strR (ps.take (i+1))).length≤(strR ps).length:=by
     conv=>rhs;rw[←List.take_append_drop (i+1) ps]
     unfold strR
     rw[List.flatMap_append,List.length_append];omega
    rw[tk,str_snoc,List.length_append,List.length_map]at h1
    rw[List.length_append,ep j,List.length_map,List.length_take]
    omega
   refine ForD.of tab.top (fun o j σ H3=>∃(es':List (Str×Addr×List Str)) (b3:Option V),σ=[some (.ref L),some (.ref d),some p.v,b3,none,none]∧H3 d2=some (.frz o (.dK (ms.map TabM.kv)))∧Grp H H3 d es' (strR (ps.take i)++(ms.take j).map fun m=>(m.name,p.name))) ?_ ?_ ?_ ?_
   ·intro o
    refine⟨es,_,rfl,zz1,?_⟩
    rw[List.take_zero,List.map_nil,List.append_nil]
    exact g.same fun x u e=>by rw[upd_ne (zz4 e f2)];exact s2 _ _ e
   ·rintro o j σ H3 hj ⟨es',b3,rfl,hz,_⟩
    exact hz
   ·rintro o j pr σ H3 hv ⟨es',b3,rfl,hz,g'⟩
    walk_at "1"
    obtain⟨m,hj,rfl⟩:=Option.map_eq_some_iff.mp hv
    have pa3:=(hP.at_ p hm).mono g'.sm
    have tj:strR (ps.take i)++((ms.take (j+1)).map fun m=>(m.name,p.name))=(strR (ps.take i)++(ms.take j).map fun m=>(m.name,p.name))++[(m.name,p.name)]:=by rw[List.take_succ,hj,List.map_append,List.append_assoc];rfl
    have ll:=lnT j
    have le:=g'.ln
    rw[tj]
    walk_at "rd"
    refine⟨.inl ⟨_,.inl g'.top⟩,Nat.zero_le _,fun l hl => ?_⟩
    have sl:=zz3 (o:=HO.lst []) hl
    have nl:d≠l:=zz4 g'.top hl
    have fz:∀a o',a≠l→o'≠.lst []→upd H3 l (.lst []) a=some o'→H3 a=some o':=fun a o' n _ e=>by rwa [upd_ne n]at e
    by_cases hin:m.name∈es'.map (·.1)
    ·obtain⟨e,he,ee⟩:=List.mem_map.mp hin
     have ve:=g'.val he
     rw[ee]at ve
     have gx:=g'.old (l:=l) (t:=p.name) he hl
     have ea:=sl _ _ (g'.at_ e he)
     have el:=grp_len (R:=strR (ps.take i)++(ms.take j).map fun m=>(m.name,p.name)) (z:=e.1)
     rw[←g'.eq e he]at el
     refine⟨some (.ref e.2.1),.inl ⟨_,.inr m.name,.inl (sl _ _ g'.top),rfl,ve.symm⟩,_,DPut.k (k:=.inr m.name) (sl _ _ g'.top) (by rw[List.length_map,sizeLine_eq];omega),fun v hv => ?_,fun q=>by cases q⟩
     cases hv
     refine⟨.inl ⟨rfl,_,SqL.of ea⟩,_,SqT.of (sl _ _ pa3.top),_,rfl,_,rfl,_,ea,by rw[List.length_map,sizeLine_eq];omega,?_,_,by rw[←ee];exact gx⟩
     rw[upd_ne (ne_of hz (g'.at_ e he) (by intro z;cases z)),upd_ne (zz4 hz hl)];exact hz
    ·have vn:valV (es'.map fun e=>((.inr e.1:Key),V.ref e.2.1)) (.inr m.name)=none:=val_no hin
     refine⟨none,.inl ⟨_,.inr m.name,.inl (sl _ _ g'.top),rfl,vn.symm⟩,_,DPut.k (k:=.inr m.name) (sl _ _ g'.top) (by rw[List.length_map,sizeLine_eq];omega),(fun v hv=>by cases hv),fun _ => ?_⟩
     have l1:upd (upd H3 l (.lst [])) d (.dK (putK (es'.map fun e=>((.inr e.1:Key),V.ref e.2.1)) (.inr m.name) (.ref l))) l=some (.lst []):=by rw[upd_ne (Ne.symm nl),zz1]
     have tp:upd (upd H3 l (.lst [])) d (.dK (putK (es'.map fun e=>((.inr e.1:Key),V.ref e.2.1)) (.inr m.name) (.ref l))) p.t=some (.tup [.str p.name,.ref p.ls,.ref p.ln]):=by
      rw[upd_ne (ne_of pa3.top g'.top (by intro z;cases z))];exact sl _ _ pa3.top
     refine⟨.inl ⟨rfl,_,SqL.of l1⟩,_,SqT.of tp,_,rfl,_,l1,by walk_at "s", ?_,_,g'.new hin hl⟩
     rw[upd_ne (zz4 hz hl),upd_ne (ne_of hz g'.top (by intro z;cases z)),upd_ne (zz4 hz hl)];exact hz
   ·rintro o σ H3 ⟨es',b3,rfl,hz,g'⟩
    refine⟨es',_,_,rfl,?_⟩
    have el:=congrArg List.length em
    rw[List.length_map,List.length_map]at el
    rw[List.length_map,ep,el,show (p.nms.filter fun n=>decide (n.sort=Str.ofString "tell"))=p.nms.filter fun n=>decide (n.sort=sTell) from rfl,List.take_length]at g'
    rw[tk,str_snoc];exact g'
  ·rintro σ H' ⟨es,b2,b3,rfl,g⟩
   rw[List.length_map,List.take_length]at g
   walk_at "rd"
   have le:=g.ln
   refine CompD.of (by rw[List.length_map,sizeLine_eq];omega) g.top (fun o D i ys H2=>ys=(((es.take i).filter fun e=>decide (2≤e.2.2.length)).map (·.1)).map V.str∧H2 D=some (.lst ys)∧H2 d=some (.frz o (.dK (es.map fun e=>((.inr e.1:Key),V.ref e.2.1))))∧∀b u,b≠d→H' b=some u→H2 b=some u)
    (fun o D hD=>⟨rfl,zz1,by rw[upd_ne (zz4 g.top hD),zz1],fun b u n e=>by rw[upd_ne (zz4 e hD),upd_ne n];exact e⟩) ?_ ?_ ?_
   ·rintro o D i ys H2 hD hi ⟨e,h1,h2,_⟩
    refine⟨h2,h1,?_⟩
    rw[e,List.length_map,List.length_map]
    exact Nat.le_trans (List.length_filter_le _ _) (by rw[List.length_take];omega)
   ·rintro o D i pr ys H2 hD hv ⟨ey,h1,h2,h3⟩
    walk_at "1"
    obtain⟨e,he,rfl⟩:=Option.map_eq_some_iff.mp hv
    have hm:=List.mem_of_getElem? he
    have tk:es.take (i+1)=es.take i++[e]:=by rw[List.take_succ,he];rfl
    have nD:∀b u,b≠d→H' b=some u→b≠D:=fun b u n q z=>by rw[z,hD]at q;cases q
    walk_at "rd"
    refine⟨.no (.yes .nil),_,.inl ⟨_,.inr e.1,.inr ⟨o,h2⟩,rfl,(g.val hm).symm⟩,_,.inl ⟨_,SqL.of (h3 _ _ (g.neq hm) (g.at_ e hm)),rfl⟩,?_⟩
    rw[List.length_map]
    by_cases q:2≤e.2.2.length
    ·rw[if_pos (by rw[decide_eq_true_eq];omega)]
     refine⟨h1,?_,zz1,by rw[upd_ne (ne_of h2 h1 (by intro z;cases z))];exact h2,fun b u n y=>by rw[upd_ne (nD b u n y)];exact h3 b u n y⟩
     rw[ey,tk,List.filter_append,List.map_append,List.map_append]
     simp[q]
     rfl
    ·rw[if_neg (by rw[decide_eq_true_eq];omega)]
     refine⟨?_,h1,h2,h3⟩
     rw[ey,tk,List.filter_append,List.map_append,List.map_append]
     simp[q]
   ·rintro o D ys H2 hD ⟨ey,h1,h2,h3⟩
    rw[List.length_map,List.take_length]at ey
    have sH:Same H H2:=fun b u q=>h3 b u (zz4 q hd) (g.sm _ _ q)
    refine⟨!ys.isEmpty,.inl ⟨ys,SqL.of h1,rfl⟩,?_⟩
    cases hF:es.filter fun e=>decide (2≤e.2.2.length) with
    | nil=>
     rw[hF]at ey
     rw[ey,if_neg (by decide)]
     refine k (fun z => ?_) H2 sH
     by_cases hz:z∈es.map (·.1)
     ·obtain⟨e,he,rfl⟩:=List.mem_map.mp hz
      have:=List.filter_eq_nil_iff.mp hF e he
      rw[decide_eq_true_eq]at this
      rw[←g.eq e he];omega
     ·rw[grp_no fun y=>hz ((g.all z).mpr y)];exact Nat.zero_le _
    | cons e0 er=>
     rw[if_pos (by rw[ey,hF];rfl)]
     refine⟨_,rfl,(es.filter fun e=>decide (2≤e.2.2.length)).map (·.1),by rw[←ey];exact SqL.of h1,by rw[hF];simp,fun m hm hl => ?_⟩
     obtain⟨e,he,rfl⟩:=List.mem_map.mp hm
     obtain⟨he,h4⟩:=List.mem_filter.mp he
     have h4:2≤e.2.2.length:=of_decide_eq_true h4
     have eg:=g.eq e he
     obtain⟨a,b,r,ea⟩:∃a b r,e.2.2=a::b::r:=by
      match e.2.2,h4 with
      | a::b::r,_=>exact⟨a,b,r,rfl⟩
     have hd3:=h3 _ _ (g.neq he) (g.at_ e he)
     rw[ea]at hd3
     have ld:LeastD (strR ps) e.1:=⟨by rw[←eg];exact h4,fun z hz=>hl z (List.mem_map.mpr (by
      have hin:z∈(strR ps).map (·.1):=by
       by_cases q:z∈(strR ps).map (·.1)
       ·exact q
       ·rw[grp_no q]at hz;cases hz
      obtain⟨x,hx,rfl⟩:=List.mem_map.mp ((g.all z).mpr hin)
      exact⟨x,List.mem_filter.mpr ⟨hx,decide_eq_true (by rw[g.eq x hx];exact hz)⟩,rfl⟩))⟩
     have sgn_:∀r∈strR ps,(r.1.length≤16∧Sg r.1)∧(r.2.length≤16∧Sg r.2):=fun r hr=>by
      obtain⟨p,hp,q⟩:=List.mem_flatMap.mp hr
      obtain⟨n,hn,rfl⟩:=List.mem_map.mp q
      have:=hN.sg p hp
      exact⟨(this.2 n (List.mem_filter.mp hn).1).1,this.1⟩
     have sa:∀y∈grp (strR ps) e.1,y.length≤16∧Sg y:=fun y hy=>by
      obtain⟨r,hr,rfl⟩:=List.mem_map.mp hy
      exact (sgn_ r (List.mem_filter.mp hr).1).2
     have se:e.1.length≤16∧Sg e.1:=by
      obtain⟨r,hr,q⟩:=List.mem_map.mp ((g.all e.1).mp (List.mem_map.mpr ⟨e,he,rfl⟩))
      rw[←q];exact (sgn_ r hr).1
     rw[←eg,ea]at sa
     have at1:atI (List.map V.str (a::b::r)) 1=some (V.str b):=(show atI _ ((1:Nat):Int)=_ from atI_nat rfl)
     have a1:=sa a (by simp)
     have a2:=sa b (by simp)
     have at0:atI (List.map V.str (a::b::r)) 0=some (V.str a):=(show atI _ ((0:Nat):Int)=_ from atI_nat rfl)
     refine⟨_,.inl ⟨_,.inr e.1,.inr ⟨o,h2⟩,rfl,(g.val he).symm⟩,_,rfl,_,SqL.of hd3,_,at0,_,.inl ⟨_,.inr e.1,.inr ⟨o,h2⟩,rfl,(g.val he).symm⟩,_,rfl,_,SqL.of hd3,_,at1,by walk_at "s", fun x hx=>⟨a,rfl,b,rfl,zz1,se.1,se.2,a1.1,a1.2,a2.1,a2.2,fun d2 H4 hd2 hne hk hx' hd'=>.inr ⟨d2,hne,hx',_,hd',kx e.1 a b r d2 _ (fun b o q => ?_) ld (by rw[←eg,ea]) ?_⟩⟩⟩
     ·have q2:=sH _ _ q
      have hb:=zz4 q2 hx
      have hdn:=(free_of hd2).2
      rw[del_ne hb,upd_ne (zz4 q2 hdn)]
      exact hk b o hb (by rw[upd_ne hb];exact q2)
     ·rw[del_ne hne,zz1];rfl
theorem le_str {so:List PcM}(h:(so.map fun p=>((p.name,0):PairD)).Pairwise leP):(so.map PcM.name).Pairwise leS:=by
 rw[List.pairwise_map]at h ⊢
 refine h.imp fun {a b} h=>List.not_lt.mp fun q => ?_
 have h:ltP (b.name,0) (a.name,0)=false:=h
 rw[(ltP_cases _ _).mpr (.inl q)]at h
 cases h
theorem G_qzq (T:Txt K mg A):FnOk P w K mg base (CXE P w) 6 A.qzq A.fd_qzq ["pieces"] (sp_namesX A):=by
 refine T.F_qzq.okCE T.lm_qzq sc_qzq (fun vs H Q E h => ?_) (fun c cdv Ar outer s H vs Q E hcd hcc hr h => ?_)
 ·obtain⟨L,ps,rfl,_⟩:=h
  rfl
 ·obtain⟨L,ps,rfl,hP,hN,tb,k,kx⟩:=h
  refine⟨_,(@zz2 _ _ _ _ _ (@ps_set _ _ 1 _ _ _ _ sc_qzq.nd rfl (by walk_at "o") (@pe_sortL _ K A.tb_qzq _ _ _ _ _ _ _ _ _ _ "piece" _ rfl (hr.mono (by decide)) (@pv _ 0 _ _ (by rfl) (by walk_at "p") (by decide) (by decide)) (by rfl) T.n_sorted hcd hcc T.bm ⟨rfl,rfl,rfl,by decide +kernel,rfl,by decide +kernel,by decide +kernel⟩ (fun _ _ _ _ _ _=>(@pe_ix _ _ _ _ _ _ _ (zz10 (K:=K) rfl) (@pv _ 0 _ _ (by rfl) (by walk_at "p") (by decide) (by decide)) (@pe_int _ _ _ _) (fun _ _=>rfl))) (by intros;rfl) (by rfl) (by rfl) (by rfl) (by rfl)) (by rfl) (by walk_at "q")) (@zz2 _ _ _ _ _ (@ps_expr _ _ _ _ (@zz12 _ _ _ _ _ _ _ _ _ _ _ _ _ _ _ _ (G_qqk T) (hr.mono (by decide)) rfl T.m_qqk T.k_qqk T.b_qqk .nil (@passesE _ _ xe_cx (by rfl)) (@zz0 _ _ _ _ _ (@pv _ 1 _ _ (by rfl) (by walk_at "p") (by decide) (by decide)) (@pa_nil _) (by rfl)) (by decide) (by rfl) (by rfl)) (by rfl)) (@zz2 _ _ _ _ _ (@ps_set _ _ 2 _ _ _ _ sc_qzq.nd rfl (by walk_at "o") (@pe_dnewK _ _) (by rfl) (by walk_at "q")) (@zz2 _ _ _ _ _ (@PS.nox _ _ _ (@ps_for _ _ _ _ _ _ _ _ PassesOwn.never rfl (@pi_tupK _ K _ _ _ rfl (@pe_tup _ _ _ _ _ (@zz0 _ _ _ _ _ (@pe_str _ _ _ _) (@zz0 _ _ _ _ _ (@pe_str _ _ _ _) (@pa_nil _) (by rfl)) (by rfl)))) (@zz7 _ _ 3 _ sc_qzq.nd rfl (by walk_at "o") (by walk_at "q")) (@zz5 _ _ _ (@PS.nox _ _ _ (@ps_for _ _ _ _ _ _ _ _ PassesOwn.never rfl (@pi_rev _ _ K _ _ _ _ rfl rfl T.n_reversed (@pv _ 1 _ _ (by rfl) (by walk_at "p") (by decide) (by decide)) (by rfl)) (@zz7 _ _ 4 _ sc_qzq.nd rfl (by walk_at "o") (by walk_at "q")) (@zz5 _ _ _ (@ps_expr _ _ _ _ (@pe_bm _ _ _ _ _ _ _ _ _ _ _ _ PySem.F.plainAttrs_dict PySem.F.slot_dict_update PySem.F.type_dict_update mt_upddict (@pv _ 2 _ _ (by rfl) (by walk_at "p") (by decide) (by decide)) (@zz0 _ _ _ _ _ (@zz12 _ _ _ _ _ _ _ _ _ _ _ _ _ _ _ _ (G_qqv T) (hr.mono (by decide)) rfl T.m_qqv T.k_qqv T.b_qqv .nil (@pass0 _) (@zz0 _ _ _ _ _ (@pv _ 4 _ _ (by rfl) (by walk_at "p") (by decide) (by decide)) (@zz0 _ _ _ _ _ (@pv _ 3 _ _ (by rfl) (by walk_at "p") (by decide) (by decide)) (@pa_nil _) (by rfl)) (by rfl)) (by decide) (by rfl) (by rfl)) (@pa_nil _) (by rfl)) (by rfl) (by rfl) (by rfl) (by rfl) (by rfl)) (by rfl))) (by intro _;rfl)))) (by intro _;rfl))) (@zz5 _ _ _ (@ps_ret _ _ _ _ (@pv _ 2 _ _ (by rfl) (by walk_at "p") (by decide) (by decide)))))))),?_⟩
  walk_at "rd"
  obtain⟨ps0,hT,_⟩:=id tb
  have hz:∀p∈ps,zF H p.t=p.name∧rF H p.t=[.ref p.ls,.ref p.ln]:=fun p hp=>by
   unfold zF rF
   rw[(hP.at_ p hp).top];exact⟨rfl,rfl⟩
  refine⟨ps.map PcM.t,by rw[List.map_map];exact SqL.of hP.top,zF H,rF H,fun b hb => ?_,by rw[List.length_map];have:=hN.few;omega,tb,fun l bs H2 l0 pm pw sx tb2 hl => ?_⟩
  ·obtain⟨p,hp,rfl⟩:=List.mem_map.mp hb
   rw[(hz p hp).1,(hz p hp).2];exact (hP.at_ p hp).top
  obtain⟨so,sp,rfl⟩:=by_adr hP.at_ hN.nd pm
  have pw2:(so.map fun p=>((p.name,0):PairD)).Pairwise leP:=by
   rw[List.map_map]at pw
   rwa [List.map_congr_left (g:=fun p:PcM=>((p.name,0):PairD)) fun p hp=>by show (zF H p.t,(0:Int))=_;rw[(hz p (sp.mem_iff.mp hp)).1]]at pw
  have hP2:PL H2 l so:=⟨by rw[List.map_map]at hl;exact hl,fun p hp=>(hP.at_ p (sp.mem_iff.mp hp)).keep hT sx⟩
  have hN2:=hN.perm sp
  have tbm:=tb2
  refine⟨so,hP2,hN2,fun nod H3 s3 d hd=>⟨by rw[sizeLine_eq];decide,fun q hq => ?_⟩,fun z a b r d H' s3 ld e hd=>kx so z a b r d H' sp (le_str pw2) ld e (fun b o n e=>s3 _ _ (sx b o n e)) (tb2.more s3) hd⟩
  have s4:=zz3 (o:=HO.dK []) hd
  have s5:=zz3 (o:=HO.tup [V.str (Str.ofString "weak"),V.str (Str.ofString "tell")]) hq
  have d5:upd (upd H3 d (.dK [])) q (.tup [V.str (Str.ofString "weak"),V.str (Str.ofString "tell")]) d=some (.dK []):=s5 _ _ zz1
  have q5:upd (upd H3 d (.dK [])) q (.tup [V.str (Str.ofString "weak"),V.str (Str.ofString "tell")]) q=some (.tup [V.str (Str.ofString "weak"),V.str (Str.ofString "tell")]):=zz1
  have s25:Same H2 (upd (upd H3 d (.dK [])) q (.tup [V.str (Str.ofString "weak"),V.str (Str.ofString "tell")])):=s3.trans (s4.trans s5)
  have d2:H2 d=none:=s3.free hd
  have ndq:d≠q:=zz4 (zz1 (H:=H3) (a:=d) (o:=HO.dK [])) hq
  have few:=hN2.few
  generalize upd (upd H3 d (.dK [])) q (.tup [V.str (Str.ofString "weak"),V.str (Str.ofString "tell")])=H5 at *
  refine ForT.of (xs:=[V.str (Str.ofString "weak"),V.str (Str.ofString "tell")]) (fun a σ H'=>∃(ms:List TabM) (b3 b4:Option V),σ=[some (.ref L),some (.ref l),some (.ref d),b3,b4]∧Same H2 H'∧H' q=some (.tup [V.str (Str.ofString "weak"),V.str (Str.ofString "tell")])∧Tab H' d ms∧ms.length≤61 * 14 * a∧(ms.map TabM.name).Nodup∧∀z,(lookT ms z).map TabM.vl=if a=0 then none else if a=1 then firstT so sWeak z else (firstT so sTell z).or (firstT so sWeak z))
   ⟨[],_,_,rfl,s25,q5,⟨d5,fun m hm=>by cases hm⟩,by simp,by simp,fun z=>rfl⟩ ?_ ?_ ?_
  ·rintro a σ H' ha ⟨ms,b3,b4,rfl,s6,hq6,_⟩
   exact SqT.of hq6
  ·rintro a v σ H' hv ⟨ms,b3,b4,rfl,s6,hq6,tab,len,nd,look⟩
   obtain⟨s,hs,rfl,ha⟩:∃s:Str,True∧v=.str s∧((a=0∧s=sWeak)∨(a=1∧s=sTell)):=by
    match a,hv with
    | 0,hv=>cases hv;exact⟨_,trivial,rfl,.inl ⟨rfl,rfl⟩⟩
    | 1,hv=>cases hv;exact⟨_,trivial,rfl,.inr ⟨rfl,rfl⟩⟩
   walk_at "rd"
   refine ForV.of (xs:=so.map PcM.v) (fun i σ H'=>∃(ms':List TabM) (b4:Option V),σ=[some (.ref L),some (.ref l),some (.ref d),some (.str s),b4]∧Same H2 H'∧H' q=some (.tup [V.str (Str.ofString "weak"),V.str (Str.ofString "tell")])∧Tab H' d ms'∧ms'.length≤61 * 14 * a+61 * i∧(ms'.map TabM.name).Nodup∧∀z,(lookT ms' z).map TabM.vl=(so.reverse.take i).foldl (fun b p=>(tellOf p s z).or b) ((lookT ms z).map TabM.vl))
    ⟨ms,_,rfl,s6,hq6,tab,by omega,nd,fun z=>rfl⟩ ?_ ?_ ?_
   ·rintro i σ H7 hi ⟨ms',b4,rfl,s7,_⟩
    exact SqL.of (s7 _ _ hP2.top)
   ·rintro i v σ H7 hv ⟨ms',b4,rfl,s7,hq7,tab7,len7,nd7,look7⟩
    rw[←List.map_reverse,List.getElem?_map]at hv
    walk_at "2"
    have pm':p∈so:=List.mem_reverse.mp (List.mem_of_getElem? hp)
    have il:=(List.getElem?_eq_some_iff.mp hp).1
    rw[List.length_reverse]at il
    have pa:=(hP2.at_ p pm').mono s7
    obtain⟨n1,n2⟩:=hN2.nms p pm'
    walk_at "rd"
    refine⟨.inr (.inr (.inl ⟨rfl,.inl ⟨_,tab7.top⟩⟩)),p,rfl,pa,n1,n2,fun d8 ns H8 s8 tab8 em f8 => ?_⟩
    have nd8:d≠d8:=zz4 tab7.top f8
    have tl:=told_len em
    have tab7':=tab7.mono s8
    refine⟨_,tab7'.top,_,tab8.top,nd8,by rw[List.length_map,List.length_map];rcases ha with ⟨rfl,_⟩ | ⟨rfl,_⟩<;>omega,?_⟩
    rw[merge_T]
    refine⟨same_upd d2 (s7.trans s8),?_,ns.foldl putT ms',⟨zz1,fun m hm => ?_⟩,?_,merge_nd nd7,fun z => ?_⟩
    ·rw[upd_ne (ne_of hq7 tab7.top (by intro z;cases z))];exact s8 _ _ hq7
    ·have key:TabM.At H8 m:=(merge_mem hm).elim (fun y=>tab8.at_ m y) fun y=>tab7'.at_ m y
     unfold TabM.At
     rw[upd_ne (ne_of key tab7'.top (by intro z;cases z))];exact key
    ·have:=merge_len (ns:=ns) (ms:=ms')
     omega
    ·rw[merge_look (told_nd n2 em),List.take_succ,hp,List.foldl_append]
     show _=(tellOf p s z).or _
     rw[←look7 z,←told_look em]
     cases lookT ns z<;>rfl
   ·rintro σ H7 ⟨ms',b4,rfl,s7,hq7,tab7,len7,nd7,look7⟩
    rw[List.length_map]at len7
    refine⟨ms',_,_,rfl,s7,hq7,tab7,by omega,nd7,fun z => ?_⟩
    rw[look7 z,List.length_map,List.take_of_length_le (by rw[List.length_reverse];exact Nat.le_refl _),fold_first,look z]
    rcases ha with ⟨rfl,rfl⟩ | ⟨rfl,rfl⟩
    ·show (firstT so sWeak z).or none=firstT so sWeak z
     rw[Option.or_none]
    ·rfl
  ·rintro σ H' ⟨ms,b3,b4,rfl,s6,hq6,tab,len,nd,look⟩
   walk_at "rd"
   have dP:d≠A.tb_qzq:=fun e=>by
    obtain⟨_,e1,_⟩:=tb2
    rw[e,e1]at d2;cases d2
   exact k d ms H' (nod.perm sp.symm) (fun b o n e=>s6 _ _ (sx b o n e)) (tb2.more s6) tab (nm_of sp pw2 nd fun z=>by rw[look z];rfl) (sx.free dP d2)
theorem sgn_inj {i j:Int}(h0:0≤i) (h1:i<37) (g0:0≤j) (g1:j<37) (e:sgn i=sgn j):i=j:=by
 obtain⟨m,rfl⟩:=Int.eq_ofNat_of_zero_le h0
 obtain⟨n,rfl⟩:=Int.eq_ofNat_of_zero_le g0
 have hm:m<37:=by omega
 have hn:n<37:=by omega
 have:∀a:Nat,a<37→∀b:Nat,b<37→sgn (a:Int)=sgn (b:Int)→a=b:=by decide +kernel
 rw[this m hm n hn e]
theorem nameOf_inj {t k k':Int}(h0:0≤k) (h1:k<16) (g0:0≤k') (g1:k'<16) (e:nameOf t k=nameOf t k'):k=k':=by
 unfold nameOf at e
 by_cases hc:t / 256 % 3=0
 ·have l:=congrArg Str.length e
  rw[nmTo_len,nmTo_len]at l
  unfold nmSize at l
  rw[if_pos hc,if_pos hc]at l
  omega
 ·unfold nmSize at e
  rw[if_neg hc,if_neg hc]at e
  have a0:0≤t / 16 % (1+t % 16):=Int.emod_nonneg _ (by omega)
  have a1:t / 16 % (1+t % 16)<1+t % 16:=Int.emod_lt_of_pos _ (by omega)
  have ea:nmAt t=t / 16 % (1+t % 16):=by unfold nmAt;rw[if_neg hc]
  obtain⟨j,ej⟩:=Int.eq_ofNat_of_zero_le a0
  have hj:j<(1+t % 16).toNat:=by omega
  have e1:=congrArg (fun z:Str=>z.cps.toList[j]?) e
  have get:∀k:Int,(nmTo t k (1+t % 16).toNat).cps.toList[j]?=some (sgn (nmIx t k j)):=fun k=>by
   unfold nmTo
   simp[hj]
  have e2:sgn (nmIx t k j)=sgn (nmIx t k' j):=by
   have e1:(nmTo t k (1+t % 16).toNat).cps.toList[j]?=(nmTo t k' (1+t % 16).toNat).cps.toList[j]?:=e1
   rw[get,get]at e1
   exact Option.some.inj e1
  have e3:=sgn_inj (nmIx_lo t k j).1 (nmIx_lo t k j).2 (nmIx_lo t k' j).1 (nmIx_lo t k' j).2 e2
  unfold nmIx at e3
  rw[decide_eq_true (show (j:Int)=nmAt t by rw[ea,ej])]at e3
  simp only[if_true,Int.mul_one]at e3
  generalize t / ((j:Int)+3)+(j:Int) * (j:Int)=y at e3
  by_cases hj0:(j:Int)=0
  ·rw[decide_eq_true hj0]at e3
   simp at e3
   omega
  ·rw[decide_eq_false hj0]at e3
   simp at e3
   omega
theorem range_nd {t:Int}:∀n:Nat,n≤12→(((List.range n).map fun i:Nat=>nameOf t i)++[nameOf t 14]).Nodup:=fun n hn=>by
 rw[List.nodup_append]
 refine⟨?_,by simp,fun x hx y hy e => ?_⟩
 ·rw[List.Nodup,List.pairwise_map]
  refine List.Pairwise.imp_of_mem (fun {a b} ha hb hne e=>hne ?_) (List.nodup_range (n:=n))
  have:=nameOf_inj (k:=(a:Int)) (k':=(b:Int)) (by omega) (by have:=List.mem_range.mp ha;omega) (by omega) (by have:=List.mem_range.mp hb;omega) e
  omega
 ·obtain⟨i,hi,rfl⟩:=List.mem_map.mp hx
  rw[List.mem_singleton.mp hy]at e
  have:=nameOf_inj (k:=(i:Int)) (k':=14) (by omega) (by have:=List.mem_range.mp hi;omega) (by omega) (by omega) e
  have:=List.mem_range.mp hi
  omega
theorem sum_mem {l:List Nat}{x:Nat}(h:x∈l):x≤l.sum:=by
 induction l with
 | nil=>cases h
 | cons a l ih=>
  rw[List.sum_cons]
  rcases List.mem_cons.mp h with e | e
  ·omega
  ·have:=ih e
   omega
theorem Drawn.pc {c t:Int}{n:Nat}{ps:List PcM}{p:PcM}(d:Drawn c t n ps) (h:p∈ps):(p.name.length≤16∧Sg p.name)∧p.nms.length≤n∧p.sts.length≤n∧∀s∈p.sts,s.words.length≤n∧s.fills.length≤n:=by
 have h1:p.size≤n:=Nat.le_trans (sum_mem (List.mem_map.mpr ⟨p,h,rfl⟩)) d.size
 have h2:p.name∈(List.range ps.length).map fun i:Nat=>nameOf t i:=by rw[←d.names];exact List.mem_map.mpr ⟨p,h,rfl⟩
 obtain⟨i,_,e⟩:=List.mem_map.mp h2
 unfold PcM.size at h1
 refine⟨by rw[←e];exact nameOf_ok t i (Int.natCast_nonneg i),by omega,by omega,fun s hs => ?_⟩
 have h3:=sum_mem (List.mem_map.mpr ⟨s,hs,rfl⟩:s.words.length∈p.sts.map fun s=>s.words.length)
 have h4:=((d.ok p h).sts s hs).few
 exact⟨by omega,by omega⟩
theorem nodup_perm:∀{a b:List Str},a.Nodup→b.Nodup→(∀x,x∈a↔x∈b)→a.Perm b
 | [],b,_,_,h=>by
  have:b=[]:=List.eq_nil_iff_forall_not_mem.mpr fun x hx=>by simpa using (h x).mpr hx
  rw[this]
 | x::a,b,ha,hb,h=>by
  have hx:x∈b:=(h x).mp (.head _)
  refine ((nodup_perm (List.nodup_cons.mp ha).2 (hb.erase x) fun y => ?_).cons x).trans (List.perm_cons_erase hx).symm
  rw[hb.mem_erase_iff]
  constructor
  ·intro hy
   exact⟨fun e=>(List.nodup_cons.mp ha).1 (e▸hy),(h y).mp (.tail _ hy)⟩
  ·rintro⟨ne,hy⟩
   exact (List.mem_cons.mp ((h y).mpr hy)).resolve_left ne
theorem putW (W:List Str) (y:Str):putK (W.map wkv) (.inr y) (.bl true)=(addW W y).map wkv:=by
 unfold putK addW
 have e:((W.map wkv).any fun kv=>decide (kv.1=(.inr y:Key)))=decide (y∈W):=by
  rw[List.any_map,Bool.eq_iff_iff,List.any_eq_true,decide_eq_true_eq]
  constructor
  ·rintro⟨z,hz,q⟩
   have:z=y:=by simpa [wkv] using q
   exact this▸hz
  ·intro hy
   exact⟨y,hy,by simp[wkv]⟩
 rw[e]
 by_cases m:y∈W
 ·rw[if_pos (decide_eq_true m),if_pos m,List.map_map]
  refine List.map_congr_left fun z hz => ?_
  by_cases q:z=y
  ·simp[wkv,q]
  ·simp[wkv,q]
 ·rw[if_neg (by simpa using m),if_neg m,List.map_append];rfl
theorem addW_len (W:List Str) (y:Str):(addW W y).length≤W.length+1:=by
 unfold addW
 split
 ·omega
 ·simp
theorem addW_in {W:List Str}{y z:Str}:z∈addW W y↔z∈W∨z=y:=by
 unfold addW
 split
 ·rename_i h
  exact⟨.inl,fun q=>q.elim id fun e=>e▸h⟩
 ·simp
theorem valW_no' {W:List Str}{z:Str}(h:z∉W):valV (W.map wkv) (.inr z)=none:=by
 cases q:valV (W.map wkv) (.inr z) with
 | none=>rfl
 | some v=>
  have a:=valV_any (.inr z:Key) (W.map wkv)
  rw[q]at a
  obtain⟨x,hx,e⟩:=List.any_eq_true.mp (a.trans rfl)
  obtain⟨y,hy,rfl⟩:=List.mem_map.mp hx
  exact absurd (Sum.inr.inj (of_decide_eq_true e:(Sum.inr y:Key)=Sum.inr z)▸hy) h
theorem valW_yes' {W:List Str}{z:Str}(h:z∈W):(valV (W.map wkv) (.inr z)).isSome=true:=by
 rw[←valV_any]
 exact List.any_eq_true.mpr ⟨wkv z,List.mem_map.mpr ⟨z,h,rfl⟩,decide_eq_true rfl⟩
theorem Due.one {ps:List PcM}{x y:Option (Str×Str×Str)}(hx:Due ps x) (hy:Due ps y):x=y:=by
 match x,y,hx,hy with
 | none,none,_,_=>rfl
 | none,some (z,a,b),hx,hy=>
  have h1:(grp (strR ps) z).length≤1:=hx z
  have h2:2≤(grp (strR ps) z).length:=hy.1.1
  omega
 | some (z,a,b),none,hx,hy=>
  have h1:(grp (strR ps) z).length≤1:=hy z
  have h2:2≤(grp (strR ps) z).length:=hx.1.1
  omega
 | some (z,a,b),some (z',a',b'),hx,hy=>
  obtain⟨⟨l1,l2⟩,so,r,p1,w1,e1⟩:=hx
  obtain⟨⟨m1,m2⟩,so',r',p2,w2,e2⟩:=hy
  have ez:z=z':=leS_anti (l2 z' m1) (m2 z l1)
  subst ez
  have e:so=so':=(p1.trans p2.symm).eq_of_pairwise (fun _ _ _ _ x y=>leS_anti x y) w1 w2
  rw[e1,e2]at e
  injection e with q1 q2
  injection q2 with q2 q3
  rw[q1,q2]
theorem due_copy {ps qs:List PcM}(h:qs.map (fun p=>(p.name,p.nms))=ps.map fun p=>(p.name,p.nms)):strR qs=strR ps:=by
 have e:∀l:List PcM,strR l=(l.map fun p=>(p.name,p.nms)).flatMap fun x=>(x.2.filter fun n=>decide (n.sort=sTell)).map fun n=>(n.name,x.1):=fun l=>by
  unfold strR
  rw[List.flatMap_map]
 rw[e,e,h]
theorem grp_sorted {so:List PcM}{z:Str}(h:(so.map PcM.name).Pairwise leS):(grp (strR so) z).Pairwise leS:=by
 unfold grp
 rw[List.pairwise_map]
 refine List.Pairwise.filter _ ?_
 unfold strR
 rw[List.pairwise_flatMap]
 rw[List.pairwise_map]at h
 refine⟨fun p hp => ?_,h.imp fun {p q} l x hx y hy => ?_⟩
 ·rw[List.pairwise_map]
  exact List.pairwise_of_forall fun _ _=>List.le_refl _
 ·obtain⟨n,_,rfl⟩:=List.mem_map.mp hx
  obtain⟨m,_,rfl⟩:=List.mem_map.mp hy
  exact l
theorem LeastD.perm {ps so:List PcM}{z:Str}(p:so.Perm ps) (h:LeastD (strR so) z):LeastD (strR ps) z:=by
 have e:∀y,(grp (strR so) y).length=(grp (strR ps) y).length:=fun y=>by
  have h1:(grp (strR so) y).Perm (grp (strR ps) y):=((p.flatMap_right _).filter _).map _
  exact h1.length_eq
 exact⟨by rw[←e];exact h.1,fun y hy=>h.2 y (by rw[e];exact hy)⟩
theorem G_qwx (T:Txt K mg A):FnOk P w K mg base CX0 1 A.qwx A.fd_qwx ["_law_found", "_law_due_here"] sp_textsT:=by
 refine T.F_qwx.ok sc_qwx (fun vs H Q E h => ?_) (fun cdv Ar outer s H vs Q E hr h => ?_)
 ·obtain⟨a,b,ss,rfl,_⟩:=h
  rfl
 ·obtain⟨a,b,ss,rfl,ha,hb,hl,k⟩:=h
  refine⟨_,(@zz2 _ _ _ _ _ (@ps_if _ _ _ _ _ _ _ _ (@PW.pt _ _ _ (@pw_or _ _ _ _ _ _ _ (@pt_not _ _ _ _ (@pt_val _ _ _ (@zz6 _ _ _ _ _ _ _ _ _ (call_isiK (K:=K) rfl) (by rfl) T.n_isinstance zz8 (@zz0 _ _ _ _ _ (@pv _ 0 _ _ (by rfl) (by walk_at "p") (by decide) (by decide)) (@zz0 _ _ _ _ _ (@pe_bltn _ _ _ _ _ rfl T.n_list bt_list relT (by decide) (by decide)) (@pa_nil _) (by rfl)) (by rfl)) (by decide) (by decide) (by rfl) (by rfl)) (by intro _;rfl))) (@pw_or1 _ _ _ _ (@zz11 _ _ _ _ _ _ _ _ op_ne (@zz6 _ _ _ _ _ _ _ _ _ (call_lenK (K:=K) rfl) (by rfl) T.n_len bt_len (@zz0 _ _ _ _ _ (@pv _ 0 _ _ (by rfl) (by walk_at "p") (by decide) (by decide)) (@pa_nil _) (by rfl)) (by decide) (by decide) (by rfl) (by rfl)) (@zz6 _ _ _ _ _ _ _ _ _ (call_lenK (K:=K) rfl) (by rfl) T.n_len bt_len (@zz0 _ _ _ _ _ (@pv _ 1 _ _ (by rfl) (by walk_at "p") (by decide) (by decide)) (@pa_nil _) (by rfl)) (by decide) (by decide) (by rfl) (by rfl)) (nomark _))))) (@zz5 _ _ _ (@ps_ret _ _ _ _ (@pe_bl _ _ _ _))) (@zz13 _)) (@zz2 _ _ _ _ _ (@ps_for _ _ _ _ _ _ _ _ PassesOwn.never rfl (@pi_range1 _ _ _ _ _ _ rfl T.n_range (@zz0 _ _ _ _ _ (@zz6 _ _ _ _ _ _ _ _ _ (call_lenK (K:=K) rfl) (by rfl) T.n_len bt_len (@zz0 _ _ _ _ _ (@pv _ 1 _ _ (by rfl) (by walk_at "p") (by decide) (by decide)) (@pa_nil _) (by rfl)) (by decide) (by decide) (by rfl) (by rfl)) (@pa_nil _) (by rfl)) (by rfl)) (@zz7 _ _ 2 _ sc_qwx.nd rfl (by walk_at "o") (by walk_at "q")) (@zz5 _ _ _ (@ps_if _ _ _ _ _ _ _ _ (@PW.pt _ _ _ (@pw_or _ _ _ _ _ _ _ (@pt_not _ _ _ _ (@pt_val _ _ _ (@zz6 _ _ _ _ _ _ _ _ _ (call_isiK (K:=K) rfl) (by rfl) T.n_isinstance zz8 (@zz0 _ _ _ _ _ (@pe_ix _ _ _ _ _ _ _ (zz16 (K:=K) rfl) (@pv _ 0 _ _ (by rfl) (by walk_at "p") (by decide) (by decide)) (@pv _ 2 _ _ (by rfl) (by walk_at "p") (by decide) (by decide)) (fun _ _=>rfl)) (@zz0 _ _ _ _ _ (@pe_bltn _ _ _ _ _ rfl T.n_str bt_str relT (by decide) (by decide)) (@pa_nil _) (by rfl)) (by rfl)) (by decide) (by decide) (by rfl) (by rfl)) (by intro _;rfl))) (@pw_or1 _ _ _ _ (@zz11 _ _ _ _ _ _ _ _ op_ne (@pe_ix _ _ _ _ _ _ _ (zz16 (K:=K) rfl) (@pv _ 0 _ _ (by rfl) (by walk_at "p") (by decide) (by decide)) (@pv _ 2 _ _ (by rfl) (by walk_at "p") (by decide) (by decide)) (fun _ _=>rfl)) (@pe_ix _ _ _ _ _ _ _ (zz16 (K:=K) rfl) (@pv _ 1 _ _ (by rfl) (by walk_at "p") (by decide) (by decide)) (@pv _ 2 _ _ (by rfl) (by walk_at "p") (by decide) (by decide)) (fun _ _=>rfl)) (nomark _))))) (@zz5 _ _ _ (@ps_ret _ _ _ _ (@pe_bl _ _ _ _))) (@zz13 _))) (by intro _;rfl)) (@zz5 _ _ _ (@ps_ret _ _ _ _ (@pe_bl _ _ _ _))))),?_⟩
  walk_at "rd"
  refine⟨_,.lst ha,true,rfl,?_⟩
  rw[if_neg (by simp)]
  refine⟨_,.inl ⟨_,SqL.of ha,rfl⟩,_,.inl ⟨_,SqL.of hb,rfl⟩,?_⟩
  rw[if_neg (by simp)]
  refine⟨_,.inl ⟨_,SqL.of hb,rfl⟩,?_⟩
  refine ForR.of (by rw[List.length_map];omega) (by omega) (fun i σ H'=>H'=H∧∃v2,σ=[some (.ref a),some (.ref b),v2]) ⟨rfl,_,rfl⟩ ?_ ?_
  ·rintro i σ H' hi ⟨rfl,v2,rfl⟩
   rw[List.length_map,Int.toNat_natCast]at hi
   have at_:atI (ss.map V.str) (i:Int)=some (V.str ss[i]):=atI_nat (by rw[List.getElem?_map,List.getElem?_eq_getElem hi];rfl)
   walk_at "rd"
   refine⟨_,SqL.of ha,_,at_,_,.str _,true,rfl,?_⟩
   rw[if_neg (by simp)]
   refine⟨_,SqL.of ha,_,at_,_,SqL.of hb,_,at_,rfl,?_⟩
   rw[if_neg (by simp)]
   trivial
  ·rintro σ H' ⟨rfl,v2,rfl⟩
   walk_at "rd"
   exact k
theorem cut2 (x y:V) (r:List V):cutV (x::y::r) none (some 2)=[x,y]:=by
 unfold cutV
 have e:HT.sIx (x::y::r).length (x::y::r).length (some 2)=min 2 (x::y::r).length:=HT.sIx_nat _ _ 2
 have e0:HT.sIx (x::y::r).length 0 none=0:=rfl
 rw[e,e0]
 rw[show min 2 (x::y::r).length=2 by simp]
 rfl
theorem G_qzw (T:Txt K mg A):FnOk P w K mg base CX0 1 A.qzw A.fd_qzw ["_law_pieces"] sp_due:=by
 refine T.F_qzw.ok sc_qzw (fun vs H Q E h => ?_) (fun cdv Ar outer s H vs Q E hr h => ?_)
 ·obtain⟨L,ps,rfl,_⟩:=h
  rfl
 ·obtain⟨L,ps,rfl,hP,hN,k⟩:=h
  refine⟨_,(@zz2 _ _ _ _ _ (@ps_set _ _ 1 _ _ _ _ sc_qzw.nd rfl (by walk_at "o") (@pe_dnewK _ _) (by rfl) (by walk_at "q")) (@zz2 _ _ _ _ _ (@ps_for _ _ _ _ _ _ _ _ PassesOwn.never rfl (@pi_listK _ K _ _ _ rfl (@pv _ 0 _ _ (by rfl) (by walk_at "p") (by decide) (by decide))) (@pg_tupK _ K _ _ _ 3 _ rfl rfl (@zz14 _ _ _ _ _ (@zz7 _ _ 2 _ sc_qzw.nd rfl (by walk_at "o") (by walk_at "q")) (@zz14 _ _ _ _ _ (@zz7 _ _ 3 _ sc_qzw.nd rfl (by walk_at "o") (by walk_at "q")) (@zz14 _ _ _ _ _ (@zz7 _ _ 4 _ sc_qzw.nd rfl (by walk_at "o") (by walk_at "q")) (@pgs_nil _) (by rfl)) (by rfl)) (by rfl)) (by rfl) (by rfl)) (@zz5 _ _ _ (@ps_for _ _ _ _ _ _ _ _ PassesOwn.never rfl (@pi_listK _ K _ _ _ rfl (@pv _ 4 _ _ (by rfl) (by walk_at "p") (by decide) (by decide))) (@zz7 _ _ 5 _ sc_qzw.nd rfl (by walk_at "o") (by walk_at "q")) (@zz5 _ _ _ (@ps_if _ _ _ _ _ _ _ _ (@zz11 _ _ _ _ _ _ _ _ op_eq (@pe_ix _ _ _ _ _ _ _ (zz10 (K:=K) rfl) (@pv _ 5 _ _ (by rfl) (by walk_at "p") (by decide) (by decide)) (@pe_int _ _ _ _) (fun _ _=>rfl)) (@pe_str _ _ _ _) (nomark _)) (@zz5 _ _ _ (@ps_expr _ _ _ _ (@pe_bm _ _ _ _ _ _ _ _ _ _ _ _ PySem.F.plainAttrs_list PySem.F.slot_list_append PySem.F.type_list_append mt_append (@pe_dsd _ _ _ _ _ _ _ _ _ (hu_of hr) (@pv _ 1 _ _ (by rfl) (by walk_at "p") (by decide) (by decide)) (@pe_ix _ _ _ _ _ _ _ (zz10 (K:=K) rfl) (@pv _ 5 _ _ (by rfl) (by walk_at "p") (by decide) (by decide)) (@pe_int _ _ _ _) (fun _ _=>rfl)) (@pe_lst _ _ _ _ (@pa_nil _)) ⟨rfl,rfl,rfl,rfl⟩) (@zz0 _ _ _ _ _ (@pv _ 2 _ _ (by rfl) (by walk_at "p") (by decide) (by decide)) (@pa_nil _) (by rfl)) (by rfl) (by rfl) (by rfl) (by rfl) (by rfl)) (by rfl))) (@zz13 _))) (by intro _;rfl))) (by intro _;rfl)) (@zz2 _ _ _ _ _ (@ps_for _ _ _ _ _ _ _ _ PassesOwn.never rfl (@pi_listK _ K _ _ _ rfl (@zz6 _ _ _ _ _ _ _ _ _ (call_sortedD rfl) (by rfl) T.n_sorted bt_sorted (@zz0 _ _ _ _ _ (@pv _ 1 _ _ (by rfl) (by walk_at "p") (by decide) (by decide)) (@pa_nil _) (by rfl)) (by decide) (by decide) (by rfl) (by rfl))) (@zz7 _ _ 6 _ sc_qzw.nd rfl (by walk_at "o") (by walk_at "q")) (@zz5 _ _ _ (@ps_if _ _ _ _ _ _ _ _ (@zz11 _ _ _ _ _ _ _ _ op_gt (@zz6 _ _ _ _ _ _ _ _ _ (call_lenK (K:=K) rfl) (by rfl) T.n_len bt_len (@zz0 _ _ _ _ _ (@pe_dget _ _ _ _ _ _ (hu_of hr) (@pv _ 1 _ _ (by rfl) (by walk_at "p") (by decide) (by decide)) (@pv _ 6 _ _ (by rfl) (by walk_at "p") (by decide) (by decide)) (fun _ _=>rfl)) (@pa_nil _) (by rfl)) (by decide) (by decide) (by rfl) (by rfl)) (@pe_int _ _ _ _) (nomark _)) (@zz5 _ _ _ (@ps_ret _ _ _ _ (@pe_op _ _ _ _ _ _ _ _ (op_catSK (K:=K) rfl) (@pe_lst _ _ _ _ (@zz0 _ _ _ _ _ (@pv _ 6 _ _ (by rfl) (by walk_at "p") (by decide) (by decide)) (@pa_nil _) (by rfl))) (@pe_slice _ _ _ _ _ _ _ _ _ _ (sl_listK (K:=K) rfl) (@zz6 _ _ _ _ _ _ _ _ _ (call_sortedK (K:=K) rfl) (by rfl) T.n_sorted bt_sorted (@zz0 _ _ _ _ _ (@pe_dget _ _ _ _ _ _ (hu_of hr) (@pv _ 1 _ _ (by rfl) (by walk_at "p") (by decide) (by decide)) (@pv _ 6 _ _ (by rfl) (by walk_at "p") (by decide) (by decide)) (fun _ _=>rfl)) (@pa_nil _) (by rfl)) (by decide) (by decide) (by rfl) (by rfl)) (@po_none _) (@po_some _ _ _ (@pe_int _ _ _ _)))))) (@zz13 _))) (by intro _;rfl)) (@zz5 _ _ _ (@ps_ret _ _ _ _ (@pe_non _ _ _)))))),?_⟩
  walk_at "rd"
  intro d hd
  have rl:=hN.rl
  have sl:=str_len (ps:=ps)
  refine ForL.of (xs:=ps.map PcM.v) (fun i σ H'=>∃(es:List (Str×Addr×List Str)) (b2 b3 b4 b5:Option V),σ=[some (.ref L),some (.ref d),b2,b3,b4,b5,none]∧Grp H H' d es (strR (ps.take i)))
   ⟨[],_,_,_,_,rfl,Grp.nil hd⟩ ?_ ?_ ?_
  ·rintro i σ H' hi ⟨es,b2,b3,b4,b5,rfl,g⟩
   exact SqL.of (g.sm _ _ hP.top)
  ·rintro i v σ H' hv ⟨es,b2,b3,b4,b5,rfl,g⟩
   walk_at "1"
   walk_at "2"
   have hm:=List.mem_of_getElem? hp
   have pa:=(hP.at_ p hm).mono g.sm
   obtain⟨n1,n2⟩:=hN.nms p hm
   have tk:ps.take (i+1)=ps.take i++[p]:=by rw[List.take_succ,hp];rfl
   walk_at "rd"
   refine⟨_,SqT.of pa.top,rfl,_,_,rfl,_,_,rfl,_,_,rfl,rfl,?_⟩
   refine ForL.of (xs:=p.nms.map ToldM.v) (fun j σ H2=>∃(es:List (Str×Addr×List Str)) (b5:Option V),σ=[some (.ref L),some (.ref d),some (.str p.name),some (.ref p.ls),some (.ref p.ln),b5,none]∧Grp H H2 d es (strR (ps.take i)++((p.nms.take j).filter fun n=>decide (n.sort=sTell)).map fun n=>(n.name,p.name)))
    ⟨es,_,rfl,by simpa using g⟩ ?_ ?_ ?_
   ·rintro j σ H2 hj ⟨es,b5,rfl,g⟩
    exact SqL.of (g.sm _ _ (hP.at_ p hm).nl)
   ·rintro j v σ H2 hv ⟨es,b5,rfl,g⟩
    walk_at "1"
    obtain⟨n,hn,rfl⟩:=Option.map_eq_some_iff.mp hv
    have na:=g.sm _ _ ((hP.at_ p hm).ns n (List.mem_of_getElem? hn))
    walk_at "rd"
    refine⟨_,SqT.of na,_,rfl,rfl,ite2 (fun hz => ?_) (fun hz => ?_)⟩
    ·have hs:n.sort=sTell:=by have q:=of_decide_eq_true hz;injection q
     have tj:strR (ps.take i)++((p.nms.take (j+1)).filter fun n=>decide (n.sort=sTell)).map (fun n=>(n.name,p.name))=(strR (ps.take i)++((p.nms.take j).filter fun n=>decide (n.sort=sTell)).map fun n=>(n.name,p.name))++[(n.name,p.name)]:=by
      rw[List.take_succ,hn,List.filter_append,List.map_append,List.append_assoc]
      simp[hs]
     have ll:(strR (ps.take i)++((p.nms.take j).filter fun n=>decide (n.sort=sTell)).map fun n=>(n.name,p.name)).length≤63:=by
      have h1:(strR (ps.take (i+1))).length≤(strR ps).length:=by
       conv=>rhs;rw[←List.take_append_drop (i+1) ps]
       unfold strR
       rw[List.flatMap_append,List.length_append];omega
      rw[tk,str_snoc,List.length_append,List.length_map]at h1
      have h2:((p.nms.take j).filter fun n=>decide (n.sort=sTell)).length≤(p.nms.filter fun n=>decide (n.sort=sTell)).length:=((List.take_sublist j p.nms).filter _).length_le
      rw[List.length_append,List.length_map]
      omega
     rw[tj]
     generalize strR (ps.take i)++((p.nms.take j).filter fun n=>decide (n.sort=sTell)).map (fun n=>(n.name,p.name))=R at *
     have le:=g.ln
     refine⟨.inl ⟨_,.inl g.top⟩,_,SqT.of na,_,rfl,Nat.zero_le _,fun l hl => ?_⟩
     have sl:=zz3 (o:=HO.lst []) hl
     have nl:d≠l:=zz4 g.top hl
     by_cases hin:n.name∈es.map (·.1)
     ·obtain⟨e,he,ee⟩:=List.mem_map.mp hin
      have ve:=g.val he
      rw[ee]at ve
      have gx:=g.old (l:=l) (t:=p.name) he hl
      have ea:=sl _ _ (g.at_ e he)
      have el:=grp_len (R:=R) (z:=e.1)
      rw[←g.eq e he]at el
      refine⟨some (.ref e.2.1),.inl ⟨_,.inr n.name,.inl (sl _ _ g.top),rfl,ve.symm⟩,_,DPut.k (k:=.inr n.name) (sl _ _ g.top) (by rw[List.length_map,sizeLine_eq];omega),fun v hv => ?_,fun q=>by cases q⟩
      cases hv
      exact⟨.inl ⟨rfl,_,SqL.of ea⟩,_,rfl,_,ea,by rw[List.length_map,sizeLine_eq];omega,_,by rw[←ee];exact gx⟩
     ·have vn:valV (es.map fun e=>((.inr e.1:Key),V.ref e.2.1)) (.inr n.name)=none:=val_no hin
      refine⟨none,.inl ⟨_,.inr n.name,.inl (sl _ _ g.top),rfl,vn.symm⟩,_,DPut.k (k:=.inr n.name) (sl _ _ g.top) (by rw[List.length_map,sizeLine_eq];omega),(fun v hv=>by cases hv),fun _ => ?_⟩
      have l1:upd (upd H2 l (.lst [])) d (.dK (putK (es.map fun e=>((.inr e.1:Key),V.ref e.2.1)) (.inr n.name) (.ref l))) l=some (.lst []):=by rw[upd_ne (Ne.symm nl),zz1]
      exact⟨.inl ⟨rfl,_,SqL.of l1⟩,_,l1,by walk_at "s", _,g.new hin hl⟩
    ·have hs:n.sort≠sTell:=fun y=>hz (decide_eq_true (by rw[y];rfl))
     refine⟨es,?_⟩
     rw[List.take_succ,hn,List.filter_append]
     simp[hs]
     exact g
   ·rintro σ H2 ⟨es,b5,rfl,g⟩
    rw[List.length_map,List.take_length]at g
    exact⟨es,_,_,_,_,rfl,by rw[tk,str_snoc];exact g⟩
  ·rintro σ H' ⟨es,b2,b3,b4,b5,rfl,g⟩
   rw[List.length_map,List.take_length]at g
   walk_at "rd"
   have le:=g.ln
   refine⟨_,g.top,es.map (·.1),by rw[List.map_map,List.map_map];rfl,by rw[List.length_map];omega,fun l ss hl pm pw => ?_⟩
   have s1:=zz3 (o:=HO.lst (ss.map V.str)) hl
   have g1:=g.same s1
   have hl1:upd H' l (HO.lst (ss.map V.str)) l=some (HO.lst (ss.map V.str)):=zz1
   generalize upd H' l (HO.lst (ss.map V.str))=H1 at *
   refine ForL.of (xs:=ss.map V.str) (fun i σ H2=>∃b6:Option V,σ=[some (.ref L),some (.ref d),b2,b3,b4,b5,b6]∧H2=H1∧∀z∈ss.take i,(grp (strR ps) z).length≤1)
    ⟨_,rfl,rfl,fun z hz=>by simp at hz⟩ ?_ ?_ ?_
   ·rintro i σ H2 hi ⟨b6,rfl,rfl,_⟩
    exact SqL.of hl1
   ·rintro i v σ H2 hv ⟨b6,rfl,rfl,few⟩
    walk_at "1"
    obtain⟨z,hz,rfl⟩:=Option.map_eq_some_iff.mp hv
    have tz:ss.take (i+1)=ss.take i++[z]:=by rw[List.take_succ,hz];rfl
    have hz_:=hz
    obtain⟨e,he,rfl⟩:=List.mem_map.mp (pm.mem_iff.mp (List.mem_of_getElem? hz))
    have el:=grp_len (R:=strR ps) (z:=e.1)
    have eg:=g1.eq e he
    walk_at "rd"
    refine⟨_,.inl ⟨_,.inr e.1,.inl g1.top,rfl,(g1.val he).symm⟩,_,.inl ⟨_,SqL.of (g1.at_ e he),rfl⟩,?_⟩
    rw[List.length_map]
    by_cases q:2≤e.2.2.length
    ·rw[if_pos (by rw[decide_eq_true_eq];omega)]
     refine⟨by rw[sizeLine_eq];decide,fun q1 f1 => ?_⟩
     have s2:=zz3 (o:=HO.lst [V.str e.1]) f1
     have g2:=g1.same s2
     rw[←eg]at el
     refine⟨_,.inl ⟨_,.inr e.1,.inl g2.top,rfl,(g2.val he).symm⟩,_,rfl,e.2.2,SqL.of (g2.at_ e he),by omega,fun l2 tt f2 pm2 pw2 => ?_⟩
     have s3:=zz3 (o:=HO.lst (tt.map V.str)) f2
     refine⟨_,SqL.of zz1,fun q3 f3 => ?_⟩
     have e2:=pm2.length_eq
     obtain⟨x,y,r,rfl⟩:∃x y r,tt=x::y::r:=by
      match tt,(show 2≤tt.length by omega) with
      | x::y::r,_=>exact⟨x,y,r,rfl⟩
     rw[List.map_cons,List.map_cons,cut2]
     have s4:=zz3 (o:=HO.lst [V.str x,V.str y]) f3
     refine⟨_,SqL.of (s4 _ _ (s3 _ _ zz1)),_,SqL.of zz1,by rw[sizeLine_eq];exact (by decide:1+2≤16777216),fun q5 f5 => ?_⟩
     have s5:=zz3 (o:=HO.lst ([V.str e.1]++[V.str x,V.str y])) f5
     refine k _ (some (e.1,x,y)) _ (g1.sm.trans (((s2.trans s3).trans s4).trans s5)) ⟨⟨by rw[←eg];exact q,fun z hz => ?_⟩,_,r,by rw[←eg];exact pm2,pw2,rfl⟩ ⟨_,rfl,zz1⟩
     have hin:z∈ss:=pm.mem_iff.mpr ((g1.all z).mpr (by
      by_cases y:z∈(strR ps).map (·.1)
      ·exact y
      ·rw[grp_no y]at hz;cases hz))
     obtain⟨j,hj,rfl⟩:=List.getElem_of_mem hin
     obtain⟨hi,ei⟩:=List.getElem?_eq_some_iff.mp hz_
     rcases Nat.lt_trichotomy j i with q' | q' | q'
     ·have:=few ss[j] (List.mem_take_iff_getElem.mpr ⟨j,by omega,rfl⟩)
      omega
     ·subst q';rw[ei];exact List.le_refl _
     ·have:=List.pairwise_iff_getElem.mp pw i j hi hj q'
      rw[ei]at this;exact this
    ·rw[if_neg (by rw[decide_eq_true_eq];omega)]
     refine fun y hy => ?_
     rw[tz]at hy
     rcases List.mem_append.mp hy with h | h
     ·exact few y h
     ·rw[List.mem_singleton.mp h,←eg];omega
   ·rintro σ H2 ⟨b6,rfl,rfl,few⟩
    rw[List.length_map,List.take_length]at few
    walk_at "rd"
    refine k .non none H2 g1.sm (fun z => ?_) rfl
    by_cases hz:z∈es.map (·.1)
    ·exact few z (pm.mem_iff.mpr hz)
    ·rw[grp_no fun y=>hz ((g.all z).mpr y)];exact Nat.zero_le _
theorem G_qwy (T:Txt K mg A):FnOk P w K mg base CX0 1 A.qwy A.fd_qwy ["_law_kept"] (sp_aloneT A):=by
 refine T.F_qwy.ok sc_qwy (fun vs H Q E h => ?_) (fun cdv Ar outer s H vs Q E hr h => ?_)
 ·obtain⟨a,dx,rfl,_⟩:=h
  rfl
 ·obtain⟨a,dx,rfl,ha,hd,k⟩:=h
  have xc:XCls K A.c_qyw:=⟨T.xg_qyw,T.xn_qyw,T.xl_qyw,T.sp_cl,T.tk_cl,T.xo_qyw,T.xb_qyw⟩
  refine⟨_,(@zz2 _ _ _ _ _ (@ps_weak _ _ _ (aS1 K A) (@ps_set _ _ 1 _ _ _ _ sc_qwy.nd rfl (by walk_at "o") (@pe_lst _ _ _ _ (@zz0 _ _ _ _ _ (@zz6 _ _ _ _ _ _ _ _ _ (zz17 (K:=K) rfl) (by rfl) T.n_isinstance zz8 (@zz0 _ _ _ _ _ (@pv _ 0 _ _ (by rfl) (by walk_at "p") (by decide) (by decide)) (@zz0 _ _ _ _ _ (@pe_glob _ _ (.ref A.c_qzj) _ _ rfl T.mc_qzj rfl (by decide)) (@pa_nil _) (by rfl)) (by rfl)) (by decide) (by decide) (by rfl) (by rfl)) (@zz0 _ _ _ _ _ (@zz6 _ _ _ _ _ _ _ _ _ (zz17 (K:=K) rfl) (by rfl) T.n_isinstance zz8 (@zz0 _ _ _ _ _ (@pv _ 0 _ _ (by rfl) (by walk_at "p") (by decide) (by decide)) (@zz0 _ _ _ _ _ (@pe_glob _ _ (.ref A.c_qzx) _ _ rfl T.mc_qzx rfl (by decide)) (@pa_nil _) (by rfl)) (by rfl)) (by decide) (by decide) (by rfl) (by rfl)) (@zz0 _ _ _ _ _ (@zz6 _ _ _ _ _ _ _ _ _ (zz17 (K:=K) rfl) (by rfl) T.n_isinstance zz8 (@zz0 _ _ _ _ _ (@pv _ 0 _ _ (by rfl) (by walk_at "p") (by decide) (by decide)) (@zz0 _ _ _ _ _ (@pe_glob _ _ (.ref A.c_qyw) _ _ rfl T.mc_qyw rfl (by decide)) (@pa_nil _) (by rfl)) (by rfl)) (by decide) (by decide) (by rfl) (by rfl)) (@zz0 _ _ _ _ _ (@zz6 _ _ _ _ _ _ _ _ _ (zz17 (K:=K) rfl) (by rfl) T.n_isinstance zz8 (@zz0 _ _ _ _ _ (@pv _ 0 _ _ (by rfl) (by walk_at "p") (by decide) (by decide)) (@zz0 _ _ _ _ _ (@pe_glob _ _ (.ref A.c_qzz) _ _ rfl T.mc_qzz rfl (by decide)) (@pa_nil _) (by rfl)) (by rfl)) (by decide) (by decide) (by rfl) (by rfl)) (@pa_nil _) (by rfl)) (by rfl)) (by rfl)) (by rfl))) (by rfl) (by walk_at "q")) ?wa1) (@zz2 _ _ _ _ _ (@ps_weak _ _ _ (aS2 K A) (@ps_set _ _ 1 _ _ _ _ sc_qwy.nd rfl (by walk_at "o") (@pe_op _ _ _ _ _ _ _ _ (op_catSK (K:=K) rfl) (@pv _ 1 _ _ (by rfl) (by walk_at "p") (by decide) (by decide)) (@pe_lst _ _ _ _ (@zz0 _ _ _ _ _ (@zz6 _ _ _ _ _ _ _ _ _ (zz17 (K:=K) rfl) (by rfl) T.n_isinstance zz8 (@zz0 _ _ _ _ _ (@pv _ 0 _ _ (by rfl) (by walk_at "p") (by decide) (by decide)) (@zz0 _ _ _ _ _ (@pe_glob _ _ (.ref A.c_qyz) _ _ rfl T.mc_qyz rfl (by decide)) (@pa_nil _) (by rfl)) (by rfl)) (by decide) (by decide) (by rfl) (by rfl)) (@zz0 _ _ _ _ _ (@zz6 _ _ _ _ _ _ _ _ _ (zz17 (K:=K) rfl) (by rfl) T.n_isinstance zz8 (@zz0 _ _ _ _ _ (@pv _ 0 _ _ (by rfl) (by walk_at "p") (by decide) (by decide)) (@zz0 _ _ _ _ _ (@pe_glob _ _ (.ref A.c_qzv) _ _ rfl T.mc_qzv rfl (by decide)) (@pa_nil _) (by rfl)) (by rfl)) (by decide) (by decide) (by rfl) (by rfl)) (@zz0 _ _ _ _ _ (@zz6 _ _ _ _ _ _ _ _ _ (zz17 (K:=K) rfl) (by rfl) T.n_isinstance zz8 (@zz0 _ _ _ _ _ (@pv _ 0 _ _ (by rfl) (by walk_at "p") (by decide) (by decide)) (@zz0 _ _ _ _ _ (@pe_glob _ _ (.ref A.c_qzk) _ _ rfl T.mc_qzk rfl (by decide)) (@pa_nil _) (by rfl)) (by rfl)) (by decide) (by decide) (by rfl) (by rfl)) (@pa_nil _) (by rfl)) (by rfl)) (by rfl)))) (by rfl) (by walk_at "q")) ?wa2) (@zz2 _ _ _ _ _ (@ps_weak _ _ _ (aS3 K A) (@ps_set _ _ 1 _ _ _ _ sc_qwy.nd rfl (by walk_at "o") (@pe_op _ _ _ _ _ _ _ _ (op_catSK (K:=K) rfl) (@pv _ 1 _ _ (by rfl) (by walk_at "p") (by decide) (by decide)) (@pe_lst _ _ _ _ (@zz0 _ _ _ _ _ (@zz6 _ _ _ _ _ _ _ _ _ (zz17 (K:=K) rfl) (by rfl) T.n_isinstance zz8 (@zz0 _ _ _ _ _ (@pv _ 0 _ _ (by rfl) (by walk_at "p") (by decide) (by decide)) (@zz0 _ _ _ _ _ (@pe_glob _ _ (.ref A.c_qyq) _ _ rfl T.mc_qyq rfl (by decide)) (@pa_nil _) (by rfl)) (by rfl)) (by decide) (by decide) (by rfl) (by rfl)) (@zz0 _ _ _ _ _ (@zz6 _ _ _ _ _ _ _ _ _ (zz17 (K:=K) rfl) (by rfl) T.n_isinstance zz8 (@zz0 _ _ _ _ _ (@pv _ 0 _ _ (by rfl) (by walk_at "p") (by decide) (by decide)) (@zz0 _ _ _ _ _ (@pe_glob _ _ (.ref A.c_Lost) _ _ rfl T.mc_Lost rfl (by decide)) (@pa_nil _) (by rfl)) (by rfl)) (by decide) (by decide) (by rfl) (by rfl)) (@zz0 _ _ _ _ _ (@zz6 _ _ _ _ _ _ _ _ _ (zz17 (K:=K) rfl) (by rfl) T.n_isinstance zz8 (@zz0 _ _ _ _ _ (@pv _ 0 _ _ (by rfl) (by walk_at "p") (by decide) (by decide)) (@zz0 _ _ _ _ _ (@pe_glob _ _ (.ref A.c_qzy) _ _ rfl T.mc_qzy rfl (by decide)) (@pa_nil _) (by rfl)) (by rfl)) (by decide) (by decide) (by rfl) (by rfl)) (@pa_nil _) (by rfl)) (by rfl)) (by rfl)))) (by rfl) (by walk_at "q")) ?wa3) (@zz5 _ _ _ (@ps_ret _ _ _ _ (@pe_and _ _ _ _ _ _ _ (@pe_cmpR _ _ _ _ _ _ _ _ op_eq (@pe_bm _ _ _ _ _ _ _ _ _ _ _ _ PySem.F.plainAttrs_list PySem.F.slot_list_count PySem.F.type_list_count (mt_countK (K:=K) rfl) (@pv _ 1 _ _ (by rfl) (by walk_at "p") (by decide) (by decide)) (@zz0 _ _ _ _ _ (@pe_bl _ _ _ _) (@pa_nil _) (by rfl)) (by rfl) (by rfl) (by rfl) (by rfl) (by rfl)) (@pe_int _ _ _ _) (nomark _)) (@pe_and _ _ _ _ _ _ _ (@zz6 _ _ _ _ _ _ _ _ _ (zz17 (K:=K) rfl) (by rfl) T.n_isinstance zz8 (@zz0 _ _ _ _ _ (@pv _ 0 _ _ (by rfl) (by walk_at "p") (by decide) (by decide)) (@zz0 _ _ _ _ _ (@pe_glob _ _ (.ref A.c_qwj) _ _ rfl T.mc_qwj rfl (by decide)) (@pa_nil _) (by rfl)) (by rfl)) (by decide) (by decide) (by rfl) (by rfl)) (@pe_one _ _ _ _ _ (@zz6 _ _ _ _ _ _ _ _ _ (zz17 (K:=K) rfl) (by rfl) T.n_isinstance zz8 (@zz0 _ _ _ _ _ (@pv _ 0 _ _ (by rfl) (by walk_at "p") (by decide) (by decide)) (@zz0 _ _ _ _ _ (@pe_bltn _ _ _ _ _ rfl T.n_ValueError bt_ValueError relT (by decide) (by decide)) (@pa_nil _) (by rfl)) (by rfl)) (by decide) (by decide) (by rfl) (by rfl)))))))))),?main⟩
  case wa1=>
   rintro D σ H ⟨a,b1,rfl,ty,k⟩
   walk_at "rd"
   exact⟨rfl,_,ty,_,T.ki_qzj,rfl,_,ty,_,T.ki_qzx,rfl,_,ty,_,T.ki_qyw,rfl,_,ty,_,T.ki_qzz,by walk_at "s", fun q h=>k q _ (zz3 h) zz1⟩
  case wa2=>
   rintro D σ H ⟨a,l,rfl,hl,ty',k⟩
   have ty:=ty' (Same.refl _)
   walk_at "rd"
   refine⟨rfl,_,ty,_,T.ki_qyz,rfl,_,ty,_,T.ki_qzv,rfl,_,ty,_,T.ki_qzk,by walk_at "s", fun q h => ?_⟩
   exact⟨_,SqL.of (zz3 h _ _ hl),_,SqL.of zz1,by walk_at "s", fun r h2=>k r _ ((zz3 h).trans (zz3 h2)) zz1⟩
  case wa3=>
   rintro D σ H ⟨a,l,rfl,hl,ty',k⟩
   have ty:=ty' (Same.refl _)
   walk_at "rd"
   refine⟨rfl,_,ty,_,T.ki_qyq,rfl,_,ty,_,T.ki_Lost,rfl,_,ty,_,T.ki_qzy,by walk_at "s", fun q h => ?_⟩
   exact⟨_,SqL.of (zz3 h _ _ hl),_,SqL.of zz1,by walk_at "s", fun r h2=>k r _ ((zz3 h).trans (zz3 h2)) zz1⟩
  walk_at "rd"
  have dm:∀{H':Hp},Same H H'→DxOk dx H':=fun {H'} e=>by
   rcases hd with z | ⟨d,fs,z,y⟩
   ·exact .inl z
   ·exact .inr ⟨d,fs,z,e _ _ y⟩
  have ty:∀{H':Hp},Same H H'→TyX K H' (V.ref a) (.ref A.c_qyw):=fun {H'} e=>.inr ⟨a,_,dx,rfl,rfl,e _ _ ha,dm e,xc⟩
  refine⟨a,_,rfl,ty (Same.refl _),fun q1 H1 s1 h1=>⟨a,q1,rfl,h1,fun e=>ty (s1.trans e),fun q2 H2 s2 h2=>⟨a,q2,rfl,h2,fun e=>ty ((s1.trans s2).trans e),fun q3 H3 s3 h3 => ?_⟩⟩⟩
  have s5:=(s1.trans s2).trans s3
  have t5:=ty s5
  walk_at "rd"
  refine⟨.inl ⟨rfl,_,SqL.of h3⟩,_,SqL.of h3,rfl,rfl,?_⟩
  rw[if_pos (by decide)]
  exact⟨rfl,_,t5,_,T.ki_qwj,⟨rfl,_,t5,_,T.ki_V,k _ s5⟩⟩
theorem G_qww (T:Txt K mg A):FnOk P w K mg base CX0 8 A.qww A.fd_qww ["_law_pieces"] (sp_answer A):=by
 refine T.F_qww.ok sc_qww (fun vs H Q E h => ?_) (fun cdv Ar outer s H vs Q E hr h => ?_)
 ·obtain⟨L,ps,rfl,_⟩:=h
  rfl
 ·obtain⟨L,ps,rfl,hP,hN,tb,k⟩:=h
  refine⟨_,(@zz2 _ _ _ _ _ (@ps_set _ _ 1 _ _ _ _ sc_qww.nd rfl (by walk_at "o") (@pe_non _ _ _) (by rfl) (by walk_at "q")) (@zz2 _ _ _ _ _ (@ps_set _ _ 2 _ _ _ _ sc_qww.nd rfl (by walk_at "o") (@pe_non _ _ _) (by rfl) (by walk_at "q")) (@zz2 _ _ _ _ _ (@ps_tryAsK _ _ _ _ _ _ _ 3 _ _ _ _ _ K rfl rfl rfl sc_qww.nd rfl rfl rfl T.mc_qwj (@pssx_one _ _ _ (@psx_set _ _ _ _ 2 _ _ sc_qww.nd rfl (by walk_at "o") (@pex_call _ _ _ _ _ _ _ _ _ _ _ _ _ _ (G_qzq T) (hr.mono (by decide)) rfl T.m_qzq T.k_qzq T.b_qzq .nil (@zz0 _ _ _ _ _ (@pv _ 0 _ _ (by rfl) (by walk_at "p") (by decide) (by decide)) (@pa_nil _) (by rfl)) (by decide) (by rfl) (by rfl)) (by rfl) (by walk_at "q"))) (fun _=>(@zz5 _ _ _ (@ps_set _ _ 1 _ _ _ _ sc_qww.nd rfl (by walk_at "o") (@pv _ 3 _ _ (by rfl) (by walk_at "p") (by decide) (by decide)) (by rfl) (by walk_at "q")))) (by decide)) (@zz2 _ _ _ _ _ (@ps_if _ _ _ _ _ _ _ _ (@zz11 _ _ _ _ _ _ _ _ op_isN (@pv _ 1 _ _ (by rfl) (by walk_at "p") (by decide) (by decide)) (@pe_non _ _ _) (nomark _)) (@zz5 _ _ _ (@ps_ret _ _ _ _ (@pe_tup _ _ _ _ _ (@zz0 _ _ _ _ _ (@pv _ 2 _ _ (by rfl) (by walk_at "p") (by decide) (by decide)) (@zz0 _ _ _ _ _ (@pe_non _ _ _) (@pa_nil _) (by rfl)) (by rfl))))) (@zz13 _)) (@zz2 _ _ _ _ _ (@ps_if _ _ _ _ _ _ _ _ (@PW.pt _ _ _ (@pw_or _ _ _ _ _ _ _ (@pt_not _ _ _ _ (@pt_val _ _ _ (@zz6 _ _ _ _ _ _ _ _ _ (zz17 (K:=K) rfl) (by rfl) T.n_isinstance zz8 (@zz0 _ _ _ _ _ (@pv _ 1 _ _ (by rfl) (by walk_at "p") (by decide) (by decide)) (@zz0 _ _ _ _ _ (@pe_glob _ _ (.ref A.c_qyw) _ _ rfl T.mc_qyw rfl (by decide)) (@pa_nil _) (by rfl)) (by rfl)) (by decide) (by decide) (by rfl) (by rfl)) (by intro _;rfl))) (@pw_or1 _ _ _ _ (@pt_not _ _ _ _ (@pt_val _ _ _ (@zz12 _ _ _ _ _ _ _ _ _ _ _ _ _ _ _ _ (G_qwy T) (hr.mono (by decide)) rfl T.m_qwy T.k_qwy T.b_qwy .nil (@pass0 _) (@zz0 _ _ _ _ _ (@pv _ 1 _ _ (by rfl) (by walk_at "p") (by decide) (by decide)) (@pa_nil _) (by rfl)) (by decide) (by rfl) (by rfl)) (by intro _;rfl)))))) (@zz5 _ _ _ (@ps_ret _ _ _ _ (@pe_tup _ _ _ _ _ (@zz0 _ _ _ _ _ (@pe_non _ _ _) (@zz0 _ _ _ _ _ (@pe_non _ _ _) (@pa_nil _) (by rfl)) (by rfl))))) (@zz13 _)) (@zz5 _ _ _ (@ps_ret _ _ _ _ (@pe_tup _ _ _ _ _ (@zz0 _ _ _ _ _ (@pe_non _ _ _) (@zz0 _ _ _ _ _ (@pe_lst _ _ _ _ (@zz0 _ _ _ _ _ (@pe_xfld _ _ _ _ _ (@pv _ 1 _ _ (by rfl) (by walk_at "p") (by decide) (by decide)) rfl) (@zz0 _ _ _ _ _ (@pe_xfld _ _ _ _ _ (@pv _ 1 _ _ (by rfl) (by walk_at "p") (by decide) (by decide)) rfl) (@zz0 _ _ _ _ _ (@pe_xfld _ _ _ _ _ (@pv _ 1 _ _ (by rfl) (by walk_at "p") (by decide) (by decide)) rfl) (@pa_nil _) (by rfl)) (by rfl)) (by rfl))) (@pa_nil _) (by rfl)) (by rfl)))))))))),?_⟩
  walk_at "rd"
  refine⟨ps,hP,hN,tb,fun d ms H' nod sx tb' tab ok hd => ?_,fun so z a b r d H' pm pw ld eg sx tb' hd => ?_⟩
  ·rw[if_pos (by simp)]
   refine⟨by rw[sizeLine_eq];decide,fun p hp => ?_⟩
   have s2:=zz3 (o:=HO.tup [V.ref d,V.non]) hp
   exact k p (.ref d) .non none _ (fun b o n e=>s2 _ _ (sx b o n e)) (tb'.more s2) zz1 nod rfl (fun _=>⟨d,ms,rfl,tab.mono s2,ok⟩) (fun q=>absurd rfl q)
  ·have xc:XCls K A.c_qyw:=⟨T.xg_qyw,T.xn_qyw,T.xl_qyw,T.sp_cl,T.tk_cl,T.xo_qyw,T.xb_qyw⟩
   refine⟨A.c_qyw,rfl,⟨T.ct_qwj,T.cb_qwj,T.mj⟩,.inr ⟨d,_,rfl,hd⟩,fun x hx => ?_⟩
   have s2:=zz3 (o:=XO x A.c_qyw (some d)) hx
   have hx2:upd H' x (XO x A.c_qyw (some d)) x=some (XO x A.c_qyw (some d)):=zz1
   have hd2:=s2 _ _ hd
   generalize upd H' x (XO x A.c_qyw (some d))=H2 at *
   have dk:DxOk (some d) H2:=.inr ⟨d,_,rfl,hd2⟩
   have ty:TyX K H2 (V.ref x) (.ref A.c_qyw):=.inr ⟨x,_,some d,rfl,rfl,hx2,dk,xc⟩
   rw[if_neg (by simp)]
   refine⟨rfl,_,ty,_,T.ki_qyw,iteF ⟨some d,hx2,dk,fun H3 s3 => ?_⟩⟩
   have hx3:=s3 _ _ hx2
   have hd3:=s3 _ _ hd2
   have lk1:List.lookup (Str.ofString "name") [(Str.ofString "name", V.str z),(Str.ofString "one", V.str a),(Str.ofString "other", V.str b)]=some (V.str z):=by simp[List.lookup]
   have lk2:List.lookup (Str.ofString "one") [(Str.ofString "name", V.str z),(Str.ofString "one", V.str a),(Str.ofString "other", V.str b)]=some (V.str a):=by
    have e:(Str.ofString "one" == Str.ofString "name")=false:=by decide +kernel
    simp only[List.lookup,e]
    simp
   have lk3:List.lookup (Str.ofString "other") [(Str.ofString "name", V.str z),(Str.ofString "one", V.str a),(Str.ofString "other", V.str b)]=some (V.str b):=by
    have e:(Str.ofString "other" == Str.ofString "name")=false:=by decide +kernel
    have e':(Str.ofString "other" == Str.ofString "one")=false:=by decide +kernel
    simp only[List.lookup,e,e']
    simp
   refine⟨_,d,hx3,_,hd3,xc,T.hd_T,T.no_qyw_name,_,lk1,_,d,hx3,_,hd3,xc,T.hd_T,T.no_qyw_one,_,lk2,_,d,hx3,_,hd3,xc,T.hd_T,T.no_qyw_other,_,lk3,by walk_at "s", fun l hl=>⟨by rw[sizeLine_eq];decide,fun p hp => ?_⟩⟩
   have s4:=zz3 (o:=HO.lst [V.str z,V.str a,V.str b]) hl
   have s5:=zz3 (o:=HO.tup [V.non,V.ref l]) hp
   have sA:=((s2.trans s3).trans s4).trans s5
   exact k p .non (.ref l) (some (z,a,b)) _ (fun b o n e=>sA _ _ (sx b o n e)) (tb'.more sA) zz1 ⟨ld.perm pm,_,r,((pm.flatMap_right _).filter _).map _,grp_sorted pw,eg⟩ ⟨l,rfl,s5 _ _ zz1⟩ (fun q=>by cases q) (fun _=>rfl)
theorem addW_nd {W:List Str}{y:Str}(h:W.Nodup):(addW W y).Nodup:=by
 unfold addW
 split
 ·exact h
 ·rename_i q
  exact List.nodup_append.mpr ⟨h,by simp,fun a ha b hb e=>q (by rw[List.mem_singleton]at hb;rw[←hb,←e];exact ha)⟩
theorem strs_rep {H:Hp}{l:Addr}{ss:List Str}(h:H l=some (.lst (ss.map V.str))):Rep K H (.lst (ss.map D.str)) (.ref l):=by
 simp only[Rep]
 exact⟨_,_,rfl,SqL.of h,RepL.map fun s _=>by simp[Rep]⟩
theorem strs_dep (ss:List Str):depL (ss.map D.str)≤20:=Nat.le_trans (depL_le (n:=1) fun s _=>by simp[dep]) (by decide)
theorem G_qqz (T:Txt K mg A):FnOk P w K mg base CX0 1 A.qqz A.fd_qqz ["_law_answer_here", "_law_pieces"] sp_toldall:=by
 refine T.F_qqz.ok sc_qqz (fun vs H Q E h => ?_) (fun cdv Ar outer s H vs Q E hr h => ?_)
 ·obtain⟨d,L,ms,ps,rfl,_⟩:=h
  rfl
 ·obtain⟨d,L,ms,ps,rfl,td,hP,hN,ok,k⟩:=h
  refine⟨_,(@zz2 _ _ _ _ _ (@ps_set _ _ 2 _ _ _ _ sc_qqz.nd rfl (by walk_at "o") (@pe_dnewK _ _) (by rfl) (by walk_at "q")) (@zz2 _ _ _ _ _ (@ps_for _ _ _ _ _ _ _ _ PassesOwn.never rfl (@pi_listK _ K _ _ _ rfl (@pv _ 1 _ _ (by rfl) (by walk_at "p") (by decide) (by decide))) (@pg_tupK _ K _ _ _ 3 _ rfl rfl (@zz14 _ _ _ _ _ (@zz7 _ _ 3 _ sc_qqz.nd rfl (by walk_at "o") (by walk_at "q")) (@zz14 _ _ _ _ _ (@zz7 _ _ 4 _ sc_qqz.nd rfl (by walk_at "o") (by walk_at "q")) (@zz14 _ _ _ _ _ (@zz7 _ _ 5 _ sc_qqz.nd rfl (by walk_at "o") (by walk_at "q")) (@pgs_nil _) (by rfl)) (by rfl)) (by rfl)) (by rfl) (by rfl)) (@zz5 _ _ _ (@ps_for _ _ _ _ _ _ _ _ PassesOwn.never rfl (@pi_listK _ K _ _ _ rfl (@pv _ 5 _ _ (by rfl) (by walk_at "p") (by decide) (by decide))) (@zz7 _ _ 6 _ sc_qqz.nd rfl (by walk_at "o") (by walk_at "q")) (@zz5 _ _ _ (@ps_if _ _ _ _ _ _ _ _ (@zz11 _ _ _ _ _ _ _ _ op_ne (@pe_ix _ _ _ _ _ _ _ (zz10 (K:=K) rfl) (@pv _ 6 _ _ (by rfl) (by walk_at "p") (by decide) (by decide)) (@pe_int _ _ _ _) (fun _ _=>rfl)) (@pe_str _ _ _ _) (nomark _)) (@zz5 _ _ _ (@ps_dput _ _ _ _ _ _ _ _ _ (hu_of hr) (@pv _ 2 _ _ (by rfl) (by walk_at "p") (by decide) (by decide)) (@pe_ix _ _ _ _ _ _ _ (zz10 (K:=K) rfl) (@pv _ 6 _ _ (by rfl) (by walk_at "p") (by decide) (by decide)) (@pe_int _ _ _ _) (fun _ _=>rfl)) (@pe_bl _ _ _ _) rfl)) (@zz13 _))) (by intro _;rfl))) (by intro _;rfl)) (@zz5 _ _ _ (@ps_ret _ _ _ _ (@pe_and _ _ _ _ _ _ _ (@zz6 _ _ _ _ _ _ _ _ _ (call_isiK (K:=K) rfl) (by rfl) T.n_isinstance zz8 (@zz0 _ _ _ _ _ (@pv _ 0 _ _ (by rfl) (by walk_at "p") (by decide) (by decide)) (@zz0 _ _ _ _ _ (@pe_bltn _ _ _ _ _ rfl T.n_dict bt_dict relT (by decide) (by decide)) (@pa_nil _) (by rfl)) (by rfl)) (by decide) (by decide) (by rfl) (by rfl)) (@pe_one _ _ _ _ _ (@pe_cmpR _ _ _ _ _ _ _ _ (op_eqDK hr.units (K:=K) rfl) (@zz6 _ _ _ _ _ _ _ _ _ (call_sortedD rfl) (by rfl) T.n_sorted bt_sorted (@zz0 _ _ _ _ _ (@pv _ 0 _ _ (by rfl) (by walk_at "p") (by decide) (by decide)) (@pa_nil _) (by rfl)) (by decide) (by decide) (by rfl) (by rfl)) (@zz6 _ _ _ _ _ _ _ _ _ (call_sortedD rfl) (by rfl) T.n_sorted bt_sorted (@zz0 _ _ _ _ _ (@pv _ 2 _ _ (by rfl) (by walk_at "p") (by decide) (by decide)) (@pa_nil _) (by rfl)) (by decide) (by decide) (by rfl) (by rfl)) (nomark _)))))))),?_⟩
  walk_at "rd"
  intro e he
  have rl:=hN.rl
  refine ForL.of (xs:=ps.map PcM.v) (fun i σ H'=>∃(W:List Str) (b3 b4 b5 b6:Option V),σ=[some (.ref d),some (.ref L),some (.ref e),b3,b4,b5,b6]∧Same H H'∧H' e=some (.dK (W.map wkv))∧W.Nodup∧W.length≤(rowsN (ps.take i)).length∧∀z,z∈W↔∃r∈rowsN (ps.take i),r.2.name=z∧r.2.sort≠sOwn)
   ⟨[],_,_,_,_,rfl,zz3 he,zz1,List.nodup_nil,Nat.le_refl _,fun z=>⟨(fun h=>by cases h),(fun⟨r,hr,_⟩=>by simp[rowsN]at hr)⟩⟩ ?_ ?_ ?_
  ·rintro i σ H' hi ⟨W,b3,b4,b5,b6,rfl,s1,_⟩
   exact SqL.of (s1 _ _ hP.top)
  ·rintro i v σ H' hv ⟨W,b3,b4,b5,b6,rfl,s1,hW,nd,wl,wm⟩
   walk_at "1"
   walk_at "2"
   have hm:=List.mem_of_getElem? hp
   have pa:=(hP.at_ p hm).mono s1
   have tk:rowsN (ps.take (i+1))=rowsN (ps.take i)++p.nms.map fun n=>(p.name,n):=by
    unfold rowsN
    rw[List.take_succ,hp,List.flatMap_append];simp
   have tl:(rowsN (ps.take (i+1))).length≤(rowsN ps).length:=by
    conv=>rhs;rw[←List.take_append_drop (i+1) ps]
    unfold rowsN
    rw[List.flatMap_append,List.length_append];omega
   rw[tk,List.length_append,List.length_map]at tl
   walk_at "rd"
   refine⟨_,SqT.of pa.top,rfl,_,_,rfl,_,_,rfl,_,_,rfl,rfl,?_⟩
   refine ForL.of (xs:=p.nms.map ToldM.v) (fun j σ H2=>∃(W:List Str) (b6:Option V),σ=[some (.ref d),some (.ref L),some (.ref e),some (.str p.name),some (.ref p.ls),some (.ref p.ln),b6]∧Same H H2∧H2 e=some (.dK (W.map wkv))∧W.Nodup∧W.length≤(rowsN (ps.take i)).length+j∧∀z,z∈W↔∃r∈rowsN (ps.take i)++(p.nms.take j).map (fun n=>(p.name,n)),r.2.name=z∧r.2.sort≠sOwn)
    ⟨W,_,rfl,s1,hW,nd,wl,by simpa using wm⟩ ?_ ?_ ?_
   ·rintro j σ H2 hj ⟨W,b6,rfl,s2,_⟩
    exact SqL.of (s2 _ _ (hP.at_ p hm).nl)
   ·rintro j v σ H2 hv ⟨W,b6,rfl,s2,hW,nd,wl,wm⟩
    walk_at "1"
    obtain⟨n,hn,rfl⟩:=Option.map_eq_some_iff.mp hv
    have jl:=(List.getElem?_eq_some_iff.mp hn).1
    have na:=s2 _ _ ((hP.at_ p hm).ns n (List.mem_of_getElem? hn))
    have tj:rowsN (ps.take i)++((p.nms.take (j+1)).map fun n=>(p.name,n))=(rowsN (ps.take i)++(p.nms.take j).map fun n=>(p.name,n))++[(p.name,n)]:=by rw[List.take_succ,hn,List.map_append,List.append_assoc];rfl
    rw[tj]
    have al:=addW_len W n.name
    walk_at "rd"
    refine⟨_,SqT.of na,_,rfl,rfl,ite2 (fun hz => ?_) (fun hz => ?_)⟩
    ·have hs:n.sort≠sOwn:=fun y=>by rw[y]at hz;exact absurd hz (by decide +kernel)
     refine⟨_,SqT.of na,_,rfl,_,DPut.k (k:=.inr n.name) hW (by rw[List.length_map,sizeLine_eq];omega),same_upd he s2,addW W n.name,by rw[zz1,putW],addW_nd nd,by omega,fun z => ?_⟩
     rw[addW_in,wm]
     constructor
     ·rintro (⟨r,hr,q⟩ | rfl)
      ·exact⟨r,List.mem_append_left _ hr,q⟩
      ·exact⟨(p.name,n),by simp,rfl,hs⟩
     ·rintro⟨r,hr,q1,q2⟩
      rcases List.mem_append.mp hr with y | y
      ·exact .inl ⟨r,y,q1,q2⟩
      ·rw[List.mem_singleton.mp y]at q1;exact .inr q1.symm
    ·have hs:n.sort=sOwn:=by
      by_cases q:n.sort=sOwn
      ·exact q
      ·exact absurd (by rw[decide_eq_false (show ¬V.str n.sort=V.str (Str.ofString "own") from fun y=>q (V.str.inj y))];rfl) hz
     refine⟨s2,W,hW,nd,by omega,fun z => ?_⟩
     rw[wm]
     constructor
     ·rintro⟨r,hr,q⟩
      exact⟨r,List.mem_append_left _ hr,q⟩
     ·rintro⟨r,hr,q1,q2⟩
      rcases List.mem_append.mp hr with y | y
      ·exact⟨r,y,q1,q2⟩
      ·rw[List.mem_singleton.mp y]at q2;exact absurd hs q2
   ·rintro σ H2 ⟨W,b6,rfl,s2,hW,nd,wl,wm⟩
    rw[List.length_map]at wl
    rw[List.length_map,List.take_length]at wm
    exact⟨W,_,_,_,_,rfl,s2,hW,nd,by rw[tk,List.length_append,List.length_map];exact wl,by rw[tk];exact wm⟩
  ·rintro σ H' ⟨W,b3,b4,b5,b6,rfl,s1,hW,nd,wl,wm⟩
   rw[List.length_map,List.take_length]at wl wm
   walk_at "rd"
   have td1:=td.mono s1
   have mk:∀z,z∈ms.map TabM.name↔z∈W:=fun z=>by
    rw[wm]
    constructor
    ·intro hz
     obtain⟨m,hm⟩:∃m,lookT ms z=some m:=by
      cases q:lookT ms z with
      | some m=>exact⟨m,rfl⟩
      | none=>
       obtain⟨m,hm,e⟩:=List.mem_map.mp hz
       exact absurd (decide_eq_true e) (List.find?_eq_none.mp q m hm)
     rcases ok.som z m hm with ⟨r,hr,q1,q2,_⟩ | ⟨_,r,hr,q1,q2,_⟩
     ·exact⟨r,hr,q1,by rw[q2];decide +kernel⟩
     ·exact⟨r,hr,q1,by rw[q2];decide +kernel⟩
    ·rintro⟨r,hr,q1,q2⟩
     cases q:lookT ms z with
     | some m=>exact List.mem_map.mpr ⟨m,List.mem_of_find?_eq_some q,of_decide_eq_true (List.find?_some (p:=fun n:TabM=>decide (n.name=z)) q)⟩
     | none=>
      obtain⟨n1,n2⟩:=ok.non z q r hr q1
      obtain⟨p,hp,_,hn⟩:=mem_rows.mp hr
      rcases ((hN.sg p hp).2 r.2 hn).2 with y | y | y
      ·exact absurd y n1
      ·exact absurd y n2
      ·exact absurd y q2
   have pm:=nodup_perm ok.nd nd mk
   have ml:ms.length=W.length:=by have:=pm.length_eq;rwa [List.length_map]at this
   refine⟨_,.dK td1.top,true,rfl,iteT ⟨_,td1.top,ms.map TabM.name,by rw[List.map_map,List.map_map];rfl,by rw[List.length_map];omega,fun l ss hl p1 w1 => ?_⟩⟩
   have s2:=zz3 (o:=HO.lst (ss.map V.str)) hl
   refine⟨_,s2 _ _ hW,W,by rw[List.map_map];rfl,by omega,fun l2 tt hl2 p2 w2 => ?_⟩
   have s3:=zz3 (o:=HO.lst (tt.map V.str)) hl2
   have e:ss=tt:=((p1.trans pm).trans p2.symm).eq_of_pairwise (fun _ _ _ _ x y=>leS_anti x y) w1 w2
   refine⟨_,_,.inl ⟨strs_rep (s3 _ _ zz1),strs_rep zz1⟩,strs_dep _,?_⟩
   rw[←e,deqL_refl]
   rw[←e]at s3
   exact k _ (s1.trans (s2.trans s3))
noncomputable def wkE (p:PcM):Str×List StM×List Str:=(p.name,p.sts,p.nms.map ToldM.name)
theorem psx_wk {ps qs:List PcM}(h:qs.map wkE=ps.map wkE) (hs:∀q∈qs,∀n∈q.nms,isSort n.sort) (hN:PsX ps) (cb:∀p∈ps,CpB p):PsX qs∧∀q∈qs,CpB q:=by
 have nm:qs.map PcM.name=ps.map PcM.name:=by
  have:=congrArg (List.map (·.1)) h
  rw[List.map_map,List.map_map]at this
  exact this
 have ln:qs.length=ps.length:=by have:=congrArg List.length nm;rwa [List.length_map,List.length_map]at this
 have fnd:∀q∈qs,∃p∈ps,p.name=q.name∧p.sts=q.sts∧p.nms.map ToldM.name=q.nms.map ToldM.name:=fun q hq=>by
  have:wkE q∈qs.map wkE:=List.mem_map.mpr ⟨q,hq,rfl⟩
  rw[h]at this
  obtain⟨p,hp,e⟩:=List.mem_map.mp this
  exact⟨p,hp,congrArg (·.1) e,congrArg (·.2.1) e,congrArg (·.2.2) e⟩
 have nl:∀{p q:PcM},p.nms.map ToldM.name=q.nms.map ToldM.name→p.nms.length=q.nms.length:=fun {p q} e=>by have:=congrArg List.length e;rwa [List.length_map,List.length_map]at this
 refine⟨⟨by rw[ln];exact hN.few,by rw[nm];exact hN.nd,fun q hq => ?_,fun q hq => ?_,?_⟩,fun q hq => ?_⟩
 ·obtain⟨p,hp,_,_,e⟩:=fnd q hq
  obtain⟨h1,h2⟩:=hN.nms p hp
  exact⟨by rw[←nl e];exact h1,by rw[←e];exact h2⟩
 ·obtain⟨p,hp,e1,_,e⟩:=fnd q hq
  obtain⟨h1,h2⟩:=hN.sg p hp
  refine⟨by rw[←e1];exact h1,fun n hn=>⟨?_,hs q hq n hn⟩⟩
  have:n.name∈q.nms.map ToldM.name:=List.mem_map.mpr ⟨n,hn,rfl⟩
  rw[←e]at this
  obtain⟨m,hm,e2⟩:=List.mem_map.mp this
  rw[←e2];exact (h2 m hm).1
 ·have e:∀l:List PcM,(rowsN l).length=((l.map wkE).map fun x=>x.2.2.length).sum:=fun l=>by
   unfold rowsN
   rw[List.length_flatMap,List.map_map]
   congr 1
   exact List.map_congr_left fun p _=>by simp[wkE]
  rw[e,h,←e];exact hN.rl
 ·obtain⟨p,hp,_,e2,e⟩:=fnd q hq
  obtain⟨c1,c2,c3⟩:=cb p hp
  exact⟨by rw[←e2];exact c1,by rw[←nl e];exact c2,by rw[←e2];exact c3⟩
set_option genInjectivity false in
structure WkI (H H':Hp) (th S:Addr) (W:List Str) (qs:List PcM):Prop where
 sm:Same H H'
 ht:H th=none
 hs:H S=none
 w:H' th=some (.dK (W.map wkv))
 pl:PL H' S qs
 nS:∀q∈qs,S∉q.lists
 so:∀q∈qs,∀n∈q.nms,isSort n.sort
theorem WkI.same {H H' H'':Hp}{th S:Addr}{W:List Str}{qs:List PcM}(h:WkI H H' th S W qs) (s:Same H' H''):WkI H H'' th S W qs:=⟨h.sm.trans s,h.ht,h.hs,s _ _ h.w,⟨s _ _ h.pl.top,fun p hp=>(h.pl.at_ p hp).mono s⟩,h.nS,h.so⟩
theorem WkI.but {H H':Hp}{th S R:Addr}{W:List Str}{qs:List PcM}{xs:List V}{o:HO}(h:WkI H H' th S W qs) (hR:H' R=some (.lst xs)) (fR:H R=none) (nR:R≠S) (nq:∀q∈qs,R∉q.lists):WkI H (upd H' R o) th S W qs:=
 have bt:But H' (upd H' R o) R:=But.upd hR
 ⟨same_upd fR h.sm,h.ht,h.hs,bt.2 _ _ h.w (ne_of h.w hR (by intro z;cases z)),⟨bt.2 _ _ h.pl.top (Ne.symm nR),fun p hp=>(h.pl.at_ p hp).but bt (nq p hp)⟩,h.nS,h.so⟩
theorem WkI.put {H H':Hp}{th S:Addr}{W:List Str}{qs:List PcM}{z:Str}(h:WkI H H' th S W qs):WkI H (upd H' th (.dK (putK (W.map wkv) (.inr z) (.bl true)))) th S (addW W z) qs:=by
 have nt:∀b o,(∀k,o≠.dK k)→H' b=some o→upd H' th (.dK (putK (W.map wkv) (.inr z) (.bl true))) b=some o:=fun b o n e=>by
  rw[upd_ne (ne_of e h.w (n _))];exact e
 have l:∀b xs,H' b=some (.lst xs)→upd H' th (.dK (putK (W.map wkv) (.inr z) (.bl true))) b=some (.lst xs):=fun b xs=>nt b _ (fun k z=>by cases z)
 have t:∀b xs,H' b=some (.tup xs)→upd H' th (.dK (putK (W.map wkv) (.inr z) (.bl true))) b=some (.tup xs):=fun b xs=>nt b _ (fun k z=>by cases z)
 exact⟨same_upd h.ht h.sm,h.ht,h.hs,by rw[zz1,putW],⟨l _ _ h.pl.top,fun p hp=>have q:=h.pl.at_ p hp;⟨t _ _ q.top,l _ _ q.sl,l _ _ q.nl,fun s hs=>have y:=q.ss s hs;⟨t _ _ y.top,l _ _ y.wd,l _ _ y.fl,fun f hf=>t _ _ (y.fs f hf)⟩,fun n hn=>t _ _ (q.ns n hn)⟩⟩,h.nS,h.so⟩
theorem G_qwq (T:Txt K mg A):FnOk P w K mg base CX0 1 A.qwq A.fd_qwq ["_law_pieces"] sp_weaker:=by
 refine T.F_qwq.ok sc_qwq (fun vs H Q E h => ?_) (fun cdv Ar outer s H vs Q E hr h => ?_)
 ·obtain⟨L,ps,rfl,_⟩:=h
  rfl
 ·obtain⟨L,ps,rfl,hP,hN,cb,k⟩:=h
  refine⟨_,(@zz2 _ _ _ _ _ (@ps_set _ _ 1 _ _ _ _ sc_qwq.nd rfl (by walk_at "o") (@pe_dnewK _ _) (by rfl) (by walk_at "q")) (@zz2 _ _ _ _ _ (@ps_set _ _ 2 _ _ _ _ sc_qwq.nd rfl (by walk_at "o") (@pe_lst _ _ _ _ (@pa_nil _)) (by rfl) (by walk_at "q")) (@zz2 _ _ _ _ _ (@ps_for _ _ _ _ _ _ _ _ PassesOwn.never rfl (@pi_listK _ K _ _ _ rfl (@pv _ 0 _ _ (by rfl) (by walk_at "p") (by decide) (by decide))) (@pg_tupK _ K _ _ _ 3 _ rfl rfl (@zz14 _ _ _ _ _ (@zz7 _ _ 3 _ sc_qwq.nd rfl (by walk_at "o") (by walk_at "q")) (@zz14 _ _ _ _ _ (@zz7 _ _ 4 _ sc_qwq.nd rfl (by walk_at "o") (by walk_at "q")) (@zz14 _ _ _ _ _ (@zz7 _ _ 5 _ sc_qwq.nd rfl (by walk_at "o") (by walk_at "q")) (@pgs_nil _) (by rfl)) (by rfl)) (by rfl)) (by rfl) (by rfl)) (@zz2 _ _ _ _ _ (@ps_set _ _ 6 _ _ _ _ sc_qwq.nd rfl (by walk_at "o") (@pe_lst _ _ _ _ (@pa_nil _)) (by rfl) (by walk_at "q")) (@zz2 _ _ _ _ _ (@ps_for _ _ _ _ _ _ _ _ PassesOwn.never rfl (@pi_listK _ K _ _ _ rfl (@pv _ 5 _ _ (by rfl) (by walk_at "p") (by decide) (by decide))) (@pg_tupK _ K _ _ _ 4 _ rfl rfl (@zz14 _ _ _ _ _ (@zz7 _ _ 7 _ sc_qwq.nd rfl (by walk_at "o") (by walk_at "q")) (@zz14 _ _ _ _ _ (@zz7 _ _ 8 _ sc_qwq.nd rfl (by walk_at "o") (by walk_at "q")) (@zz14 _ _ _ _ _ (@zz7 _ _ 9 _ sc_qwq.nd rfl (by walk_at "o") (by walk_at "q")) (@zz14 _ _ _ _ _ (@zz7 _ _ 10 _ sc_qwq.nd rfl (by walk_at "o") (by walk_at "q")) (@pgs_nil _) (by rfl)) (by rfl)) (by rfl)) (by rfl)) (by rfl) (by rfl)) (@zz2 _ _ _ _ _ (@ps_if _ _ _ _ _ _ _ _ (@PW.pt _ _ _ (@pw_and _ _ _ _ _ _ _ (@zz11 _ _ _ _ _ _ _ _ op_eq (@pv _ 8 _ _ (by rfl) (by walk_at "p") (by decide) (by decide)) (@pe_str _ _ _ _) (nomark _)) (@pw_and1 _ _ _ _ (@pt_cmp _ _ _ _ _ _ (@pc_din _ _ _ _ _ (hu_of hr) (@pv _ 7 _ _ (by rfl) (by walk_at "p") (by decide) (by decide)) (@pv _ 1 _ _ (by rfl) (by walk_at "p") (by decide) (by decide))) (by first | exact nobehind _ (by decide) (by decide) | rfl))))) (@zz5 _ _ _ (@ps_set _ _ 8 _ _ _ _ sc_qwq.nd rfl (by walk_at "o") (@pe_str _ _ _ _) (by rfl) (by walk_at "q"))) (@zz13 _)) (@zz2 _ _ _ _ _ (@ps_if _ _ _ _ _ _ _ _ (@zz11 _ _ _ _ _ _ _ _ op_eq (@pv _ 8 _ _ (by rfl) (by walk_at "p") (by decide) (by decide)) (@pe_str _ _ _ _) (nomark _)) (@zz5 _ _ _ (@ps_dput _ _ _ _ _ _ _ _ _ (hu_of hr) (@pv _ 1 _ _ (by rfl) (by walk_at "p") (by decide) (by decide)) (@pv _ 7 _ _ (by rfl) (by walk_at "p") (by decide) (by decide)) (@pe_bl _ _ _ _) rfl)) (@zz13 _)) (@zz5 _ _ _ (@ps_expr _ _ _ _ (@pe_bm _ _ _ _ _ _ _ _ _ _ _ _ PySem.F.plainAttrs_list PySem.F.slot_list_append PySem.F.type_list_append mt_append (@pv _ 6 _ _ (by rfl) (by walk_at "p") (by decide) (by decide)) (@zz0 _ _ _ _ _ (@pe_tup _ _ _ _ _ (@zz0 _ _ _ _ _ (@pv _ 7 _ _ (by rfl) (by walk_at "p") (by decide) (by decide)) (@zz0 _ _ _ _ _ (@pv _ 8 _ _ (by rfl) (by walk_at "p") (by decide) (by decide)) (@zz0 _ _ _ _ _ (@pv _ 9 _ _ (by rfl) (by walk_at "p") (by decide) (by decide)) (@zz0 _ _ _ _ _ (@pv _ 10 _ _ (by rfl) (by walk_at "p") (by decide) (by decide)) (@pa_nil _) (by rfl)) (by rfl)) (by rfl)) (by rfl))) (@pa_nil _) (by rfl)) (by rfl) (by rfl) (by rfl) (by rfl) (by rfl)) (by rfl))))) (by intro _;rfl)) (@zz5 _ _ _ (@ps_expr _ _ _ _ (@pe_bm _ _ _ _ _ _ _ _ _ _ _ _ PySem.F.plainAttrs_list PySem.F.slot_list_append PySem.F.type_list_append mt_append (@pv _ 2 _ _ (by rfl) (by walk_at "p") (by decide) (by decide)) (@zz0 _ _ _ _ _ (@pe_tup _ _ _ _ _ (@zz0 _ _ _ _ _ (@pv _ 3 _ _ (by rfl) (by walk_at "p") (by decide) (by decide)) (@zz0 _ _ _ _ _ (@pv _ 4 _ _ (by rfl) (by walk_at "p") (by decide) (by decide)) (@zz0 _ _ _ _ _ (@pv _ 6 _ _ (by rfl) (by walk_at "p") (by decide) (by decide)) (@pa_nil _) (by rfl)) (by rfl)) (by rfl))) (@pa_nil _) (by rfl)) (by rfl) (by rfl) (by rfl) (by rfl) (by rfl)) (by rfl))))) (by intro _;rfl)) (@zz5 _ _ _ (@ps_ret _ _ _ _ (@pv _ 2 _ _ (by rfl) (by walk_at "p") (by decide) (by decide))))))),?_⟩
  walk_at "rd"
  refine fun th f1=>⟨Nat.zero_le _,fun S f2 => ?_⟩
  have rl:=hN.rl
  have few:=hN.few
  have s0:=(zz3 (o:=HO.dK []) f1).trans (zz3 (o:=HO.lst []) f2)
  refine ForL.of (xs:=ps.map PcM.v) (fun i σ H'=>∃(W:List Str) (qs:List PcM) (b3 b4 b5 b6 b7 b8 b9 b10:Option V),σ=[some (.ref L),some (.ref th),some (.ref S),b3,b4,b5,b6,b7,b8,b9,b10]∧WkI H H' th S W qs∧W.length≤(rowsN (ps.take i)).length∧qs.map wkE=(ps.take i).map wkE)
   ⟨[],[],_,_,_,_,_,_,_,_,rfl,⟨s0,f1,(free_of f2).2,by rw[upd_ne (Ne.symm (free_of f2).1),zz1];rfl,⟨zz1,(fun q hq=>by cases hq)⟩,(fun q hq=>by cases hq),(fun q hq=>by cases hq)⟩,Nat.zero_le _,rfl⟩ ?_ ?_ ?_
  ·rintro i σ H' hi ⟨W,qs,b3,b4,b5,b6,b7,b8,b9,b10,rfl,wi,_⟩
   exact SqL.of (wi.sm _ _ hP.top)
  ·rintro i v σ H' hv ⟨W,qs,b3,b4,b5,b6,b7,b8,b9,b10,rfl,wi,wl,we⟩
   walk_at "1"
   walk_at "2"
   have hm:=List.mem_of_getElem? hp
   have il:=(List.getElem?_eq_some_iff.mp hp).1
   have p0:=hP.at_ p hm
   have pa:=p0.mono wi.sm
   have tkp:ps.take (i+1)=ps.take i++[p]:=by rw[List.take_succ,hp];rfl
   have tk:rowsN (ps.take (i+1))=rowsN (ps.take i)++p.nms.map fun n=>(p.name,n):=by
    unfold rowsN
    rw[tkp,List.flatMap_append];simp
   have tl:(rowsN (ps.take (i+1))).length≤(rowsN ps).length:=by
    conv=>rhs;rw[←List.take_append_drop (i+1) ps]
    unfold rowsN
    rw[List.flatMap_append,List.length_append];omega
   rw[tk,List.length_append,List.length_map]at tl
   have ql:qs.length≤14:=by
    have:=congrArg List.length we
    rw[List.length_map,List.length_map,List.length_take]at this
    omega
   walk_at "rd"
   refine⟨_,SqT.of pa.top,rfl,_,_,rfl,_,_,rfl,_,_,rfl,rfl,Nat.zero_le _,fun R fR => ?_⟩
   have sR:=zz3 (o:=HO.lst []) fR
   have fR0:H R=none:=wi.sm.free fR
   have nRS:R≠S:=fun e=>by rw[e,wi.pl.top]at fR;cases fR
   have nq:∀q∈qs,R∉q.lists:=fun q hq z=>by
    obtain⟨zs,e⟩:=(wi.pl.at_ q hq).list z
    rw[fR]at e;cases e
   have nRp:R∉p.lists:=fun z=>by
    obtain⟨zs,e⟩:=p0.list z
    rw[fR0]at e;cases e
   refine ForL.of (xs:=p.nms.map ToldM.v) (fun j σ H2=>∃(W:List Str) (ns:List ToldM) (b7 b8 b9 b10:Option V),σ=[some (.ref L),some (.ref th),some (.ref S),some (.str p.name),some (.ref p.ls),some (.ref p.ln),some (.ref R),b7,b8,b9,b10]∧WkI H H2 th S W qs∧W.length≤(rowsN (ps.take i)).length+j∧H2 R=some (.lst (ns.map ToldM.v))∧(∀n∈ns,n.At H2)∧ns.map ToldM.name=(p.nms.take j).map ToldM.name∧∀n∈ns,isSort n.sort)
    ⟨W,[],_,_,_,_,rfl,wi.same sR,wl,zz1,(fun n hn=>by cases hn),rfl,(fun n hn=>by cases hn)⟩ ?_ ?_ ?_
   ·rintro j σ H2 hj ⟨W,ns,b7,b8,b9,b10,rfl,wi,_⟩
    exact SqL.of (wi.sm _ _ p0.nl)
   ·rintro j v σ H2 hv ⟨W,ns,b7,b8,b9,b10,rfl,wi,wl,hR,na,ne,nso⟩
    walk_at "1"
    obtain⟨n,hn,rfl⟩:=Option.map_eq_some_iff.mp hv
    have hnm:=List.mem_of_getElem? hn
    have jl:=(List.getElem?_eq_some_iff.mp hn).1
    have nt:=wi.sm _ _ (p0.ns n hnm)
    have ns0:=((hN.sg p hm).2 n hnm).2
    have al:=addW_len W n.name
    have nl:ns.length≤61:=by
     have:=congrArg List.length ne
     rw[List.length_map,List.length_map,List.length_take]at this
     have:=(hN.nms p hm).1
     omega
    have fin:∀(so:Str) (W':List Str) (Hx:Hp),isSort so→W'.length≤(rowsN (ps.take i)).length+(j+1)→WkI H Hx th S W' qs→Hx R=some (.lst (ns.map ToldM.v))→(∀m∈ns,m.At Hx)→tyV K "list" (V.ref R) Hx∧4≤sizeLine∧∀t:Addr,Hx t=none→∃x,upd Hx t (.tup [.str n.name,.str so,.int n.st,.int n.off]) R=some (.lst x)∧x.length<sizeLine∧∃W:List Str,WkI H (upd (upd Hx t (.tup [.str n.name,.str so,.int n.st,.int n.off])) R (.lst (x++[.ref t]))) th S W qs∧W.length≤(rowsN (ps.take i)).length+(j+1)∧∃ns':List ToldM,upd (upd Hx t (.tup [.str n.name,.str so,.int n.st,.int n.off])) R (.lst (x++[.ref t])) R=some (.lst (ns'.map ToldM.v))∧(∀m∈ns',m.At (upd (upd Hx t (.tup [.str n.name,.str so,.int n.st,.int n.off])) R (.lst (x++[.ref t]))))∧ns'.map ToldM.name=(p.nms.take (j+1)).map ToldM.name∧∀m∈ns',isSort m.sort:=by
     intro so W' Hx is wl' wx hRx nax
     refine⟨.inl ⟨rfl,_,SqL.of hRx⟩,by walk_at "s", fun t ft => ?_⟩
     have st:=zz3 (o:=HO.tup [.str n.name,.str so,.int n.st,.int n.off]) ft
     have hR2:=st _ _ hRx
     have bt:But (upd Hx t (.tup [.str n.name,.str so,.int n.st,.int n.off])) (upd (upd Hx t (.tup [.str n.name,.str so,.int n.st,.int n.off])) R (.lst (ns.map ToldM.v++[.ref t]))) R:=But.upd hR2
     refine⟨_,hR2,by rw[List.length_map,sizeLine_eq];omega,W',(wx.same st).but hR2 fR0 nRS nq,wl',ns++[⟨t,n.name,so,n.st,n.off⟩],by rw[zz1,List.map_append];rfl,fun m hm => ?_,?_,fun m hm => ?_⟩
     ·rcases List.mem_append.mp hm with y | y
      ·exact ((nax m y).mono st).but bt
      ·rw[List.mem_singleton.mp y]
       exact bt.tup zz1
     ·rw[List.map_append,ne,List.take_succ,hn,List.map_append];rfl
     ·rcases List.mem_append.mp hm with y | y
      ·exact nso m y
      ·rw[List.mem_singleton.mp y];exact is
    walk_at "rd"
    have g:=DGet.k (k:=Sum.inr n.name) wi.w
    refine⟨_,SqT.of nt,rfl,_,_,rfl,_,_,rfl,_,_,rfl,_,_,rfl,rfl,rfl,?_⟩
    by_cases ht:n.sort=sTell
    ·have hf:decide (V.str n.sort=V.str (Str.ofString "tell"))=true:=decide_eq_true (congrArg V.str ht)
     rw[if_pos hf]
     refine⟨_,g,?_⟩
     by_cases hin:n.name∈W
     ·rw[if_pos (valW_yes' hin),if_neg (by decide +kernel)]
      exact fin (Str.ofString "weak") W H2 (.inr (.inl rfl)) (by omega) wi hR na
     ·rw[if_neg (by rw[valW_no' hin];decide)]
      refine⟨rfl,?_⟩
      rw[if_pos hf]
      refine⟨_,DPut.k (k:=Sum.inr n.name) wi.w (by rw[List.length_map,sizeLine_eq];omega),?_⟩
      have bt:∀b o,(∀k,o≠.dK k)→H2 b=some o→upd H2 th (.dK (putK (W.map wkv) (.inr n.name) (.bl true))) b=some o:=fun b o n e=>by
       rw[upd_ne (ne_of e wi.w (n _))];exact e
      exact fin n.sort (addW W n.name) _ ns0 (by omega) wi.put (bt _ _ (fun k z=>by cases z) hR) (fun m hm=>bt _ _ (fun k z=>by cases z) (na m hm))
    ·have hf:¬decide (V.str n.sort=V.str (Str.ofString "tell"))=true:=fun y=>ht (V.str.inj (of_decide_eq_true y))
     rw[if_neg hf]
     refine⟨rfl,?_⟩
     rw[if_neg hf]
     exact fin n.sort W H2 ns0 (by omega) wi hR na
   ·rintro σ H2 ⟨W,ns,b7,b8,b9,b10,rfl,wi,wl,hR,na,ne,nso⟩
    rw[List.length_map]at wl
    rw[List.length_map,List.take_length]at ne
    walk_at "rd"
    refine⟨.inl ⟨rfl,_,SqL.of wi.pl.top⟩,by walk_at "s", fun t ft => ?_⟩
    have st:=zz3 (o:=HO.tup [V.str p.name,V.ref p.ls,V.ref R]) ft
    have w2:=wi.same st
    have bt:But (upd H2 t (HO.tup [V.str p.name,V.ref p.ls,V.ref R])) (upd (upd H2 t (HO.tup [V.str p.name,V.ref p.ls,V.ref R])) S (.lst (qs.map PcM.v++[.ref t]))) S:=But.upd w2.pl.top
    have qa:PcM.At (upd H2 t (HO.tup [V.str p.name,V.ref p.ls,V.ref R])) ⟨t,p.ls,R,p.name,p.sts,ns⟩:=⟨zz1,w2.sm _ _ p0.sl,st _ _ hR,fun s hs=>(p0.ss s hs).mono w2.sm,fun n hn=>(na n hn).mono st⟩
    have nSq:S∉(⟨t,p.ls,R,p.name,p.sts,ns⟩:PcM).lists:=fun z=>by
     rcases List.mem_cons.mp z with e | z
     ·have:=p0.sl
      rw[←(e:S=p.ls),wi.hs]at this;cases this
     ·rcases List.mem_cons.mp z with e | z
      ·exact nRS (e:S=R).symm
      ·obtain⟨zs,e⟩:=p0.list (List.mem_cons_of_mem _ (List.mem_cons_of_mem _ z))
       rw[wi.hs]at e;cases e
    refine⟨_,w2.pl.top,by rw[List.length_map,sizeLine_eq];omega,W,qs++[⟨t,p.ls,R,p.name,p.sts,ns⟩],⟨same_upd wi.hs w2.sm,wi.ht,wi.hs,bt.2 _ _ w2.w (ne_of w2.w w2.pl.top (by intro z;cases z)),⟨by rw[zz1,List.map_append];rfl,fun q hq => ?_⟩,fun q hq => ?_,fun q hq => ?_⟩,by rw[tk,List.length_append,List.length_map];exact wl,?_⟩
    ·rcases List.mem_append.mp hq with y | y
     ·exact (w2.pl.at_ q y).but bt (wi.nS q y)
     ·rw[List.mem_singleton.mp y];exact qa.but bt nSq
    ·rcases List.mem_append.mp hq with y | y
     ·exact wi.nS q y
     ·rw[List.mem_singleton.mp y];exact nSq
    ·rcases List.mem_append.mp hq with y | y
     ·exact wi.so q y
     ·rw[List.mem_singleton.mp y];exact nso
    ·rw[List.map_append,we,tkp,List.map_append]
     congr 1
     show [(p.name,p.sts,ns.map ToldM.name)]=[(p.name,p.sts,p.nms.map ToldM.name)]
     rw[ne]
  ·rintro σ H' ⟨W,qs,b3,b4,b5,b6,b7,b8,b9,b10,rfl,wi,wl,we⟩
   rw[List.length_map,List.take_length]at we
   walk_at "rd"
   obtain⟨h1,h2⟩:=psx_wk we wi.so hN cb
   exact k S qs H' wi.sm wi.pl h1 h2
theorem pl_mono {H H':Hp}{L:Addr}{ps:List PcM}(h:PL H L ps) (s:Same H H'):PL H' L ps:=⟨s _ _ h.top,fun p hp=>(h.at_ p hp).mono s⟩
theorem pl_keep {H H':Hp}{L T:Addr}{ps:List PcM}{qs:Array Value}(h:PL H L ps) (hT:H T=some (.tbl qs)) (s:SameX T H H'):PL H' L ps:=⟨s.get hT h.top (fun _ z=>by cases z),fun p hp=>(h.at_ p hp).keep hT s⟩
theorem rows_copy {ps qs:List PcM}(h:qs.map (fun p=>(p.name,p.nms))=ps.map fun p=>(p.name,p.nms)):rowsN qs=rowsN ps:=by
 have e:∀l:List PcM,rowsN l=(l.map fun p=>(p.name,p.nms)).flatMap fun x=>x.2.map fun n=>(x.1,n):=fun l=>by
  unfold rowsN
  rw[List.flatMap_map]
 rw[e,e,h]
theorem due_ps {ps qs:List PcM}(h:strR qs=strR ps) {o:Option (Str×Str×Str)}(d:Due qs o):Due ps o:=by
 match o,d with
 | none,d=>
  intro z
  have:=d z
  rwa [h]at this
 | some (z,a,b),d=>
  obtain⟨d1,d2⟩:=d
  rw[h]at d1 d2
  exact⟨d1,d2⟩
theorem psx_copy {ps qs:List PcM}(h:qs.map (fun p=>(p.name,p.nms))=ps.map fun p=>(p.name,p.nms)) (hN:PsX ps):PsX qs:=by
 have nm:qs.map PcM.name=ps.map PcM.name:=by
  have:=congrArg (List.map (·.1)) h
  rw[List.map_map,List.map_map]at this
  exact this
 have ln:qs.length=ps.length:=by have:=congrArg List.length nm;rwa [List.length_map,List.length_map]at this
 have fnd:∀q∈qs,∃p∈ps,p.name=q.name∧p.nms=q.nms:=fun q hq=>by
  have:(q.name,q.nms)∈qs.map fun p=>(p.name,p.nms):=List.mem_map.mpr ⟨q,hq,rfl⟩
  rw[h]at this
  obtain⟨p,hp,e⟩:=List.mem_map.mp this
  exact⟨p,hp,congrArg (·.1) e,congrArg (·.2) e⟩
 refine⟨by rw[ln];exact hN.few,by rw[nm];exact hN.nd,fun q hq => ?_,fun q hq => ?_,by rw[rows_copy h];exact hN.rl⟩
 ·obtain⟨p,hp,_,e⟩:=fnd q hq
  rw[←e];exact hN.nms p hp
 ·obtain⟨p,hp,e1,e⟩:=fnd q hq
  rw[←e,←e1];exact hN.sg p hp
theorem G_qwk (T:Txt K mg A):FnOk P w K mg base CX0 9 A.qwk A.fd_qwk ["_law_pieces"] (sp_holdsT A):=by
 refine T.F_qwk.ok sc_qwk (fun vs H Q E h => ?_) (fun cdv Ar outer s H vs Q E hr h => ?_)
 ·obtain⟨L,ps,rfl,_⟩:=h
  rfl
 ·obtain⟨L,ps,rfl,hP,hN,cb,tb,k⟩:=h
  refine⟨_,(@zz2 _ _ _ _ _ (@ps_setC _ _ _ _ _ _ _ _ _ _ 1 _ _ _ _ _ _ _ sc_qwk.nd rfl (by walk_at "o") (blk_mk (own:=["_law_piece"]) (fr:=[]) (fm:=[]) rfl (by decide +kernel) (by decide +kernel) (by decide +kernel) .nil) rfl (@pi_listK _ K _ _ _ rfl (@pv _ 0 _ _ (by rfl) (by walk_at "p") (by decide) (by decide))) (fun _ _ _=>⟨(@zz7 _ _ 0 _ (by show List.Nodup (["_law_piece"]:List Str);decide +kernel) rfl (by walk_at "o") (by walk_at "q")) , pts_nil,(@zz12 _ _ _ _ _ _ _ _ _ _ _ _ _ _ _ _ (G_qwv T) (hr.mono (by decide)) rfl T.m_qwv T.k_qwv T.b_qwv .nil (@pass0 _) (@zz0 _ _ _ _ _ (@pv _ 0 _ _ (by rfl) (by walk_at "p") (by decide) (by decide)) (@pa_nil _) (by rfl)) (by decide) (by rfl) (by rfl))⟩) (by rfl) (by intro _;rfl) (by walk_at "q")) (@zz2 _ _ _ _ _ (@ps_set _ _ 2 _ _ _ _ sc_qwk.nd rfl (by walk_at "o") (@zz12 _ _ _ _ _ _ _ _ _ _ _ _ _ _ _ _ (G_qzw T) (hr.mono (by decide)) rfl T.m_qzw T.k_qzw T.b_qzw .nil (@pass0 _) (@zz0 _ _ _ _ _ (@pv _ 0 _ _ (by rfl) (by walk_at "p") (by decide) (by decide)) (@pa_nil _) (by rfl)) (by decide) (by rfl) (by rfl)) (by rfl) (by walk_at "q")) (@zz2 _ _ _ _ _ (@ps_asg _ _ _ _ _ _ (@zz12 _ _ _ _ _ _ _ _ _ _ _ _ _ _ _ _ (G_qww T) (hr.mono (by decide)) rfl T.m_qww T.k_qww T.b_qww .nil (@pass0 _) (@zz0 _ _ _ _ _ (@pv _ 1 _ _ (by rfl) (by walk_at "p") (by decide) (by decide)) (@pa_nil _) (by rfl)) (by decide) (by rfl) (by rfl)) (@pg_tupK _ K _ _ _ 2 _ rfl rfl (@zz14 _ _ _ _ _ (@zz7 _ _ 3 _ sc_qwk.nd rfl (by walk_at "o") (by walk_at "q")) (@zz14 _ _ _ _ _ (@zz7 _ _ 4 _ sc_qwk.nd rfl (by walk_at "o") (by walk_at "q")) (@pgs_nil _) (by rfl)) (by rfl)) (by rfl) (by rfl)) (by rfl) (by rfl) (by rfl)) (@zz2 _ _ _ _ _ (@ps_if _ _ _ _ _ _ _ _ (@zz11 _ _ _ _ _ _ _ _ op_isN (@pv _ 2 _ _ (by rfl) (by walk_at "p") (by decide) (by decide)) (@pe_non _ _ _) (nomark _)) (@zz5 _ _ _ (@ps_ret _ _ _ _ (@pe_and _ _ _ _ _ _ _ (@pe_cmpR _ _ _ _ _ _ _ _ op_isN (@pv _ 4 _ _ (by rfl) (by walk_at "p") (by decide) (by decide)) (@pe_non _ _ _) (nomark _)) (@pe_and _ _ _ _ _ _ _ (@zz12 _ _ _ _ _ _ _ _ _ _ _ _ _ _ _ _ (G_qqz T) (hr.mono (by decide)) rfl T.m_qqz T.k_qqz T.b_qqz .nil (@pass0 _) (@zz0 _ _ _ _ _ (@pv _ 3 _ _ (by rfl) (by walk_at "p") (by decide) (by decide)) (@zz0 _ _ _ _ _ (@pv _ 0 _ _ (by rfl) (by walk_at "p") (by decide) (by decide)) (@pa_nil _) (by rfl)) (by rfl)) (by decide) (by rfl) (by rfl)) (@pe_one _ _ _ _ _ (@pe_cmpR _ _ _ _ _ _ _ _ (op_eqDK hr.units (K:=K) rfl) (@pv _ 1 _ _ (by rfl) (by walk_at "p") (by decide) (by decide)) (@pv _ 0 _ _ (by rfl) (by walk_at "p") (by decide) (by decide)) (nomark _))))))) (@zz13 _)) (@zz5 _ _ _ (@ps_ret _ _ _ _ (@pe_and _ _ _ _ _ _ _ (@pe_cmpR _ _ _ _ _ _ _ _ op_isN (@pv _ 3 _ _ (by rfl) (by walk_at "p") (by decide) (by decide)) (@pe_non _ _ _) (nomark _)) (@pe_and _ _ _ _ _ _ _ (@pe_cmpR _ _ _ _ _ _ _ _ op_notN (@pv _ 4 _ _ (by rfl) (by walk_at "p") (by decide) (by decide)) (@pe_non _ _ _) (nomark _)) (@pe_and _ _ _ _ _ _ _ (@zz12 _ _ _ _ _ _ _ _ _ _ _ _ _ _ _ _ (G_qwx T) (hr.mono (by decide)) rfl T.m_qwx T.k_qwx T.b_qwx .nil (@pass0 _) (@zz0 _ _ _ _ _ (@pv _ 4 _ _ (by rfl) (by walk_at "p") (by decide) (by decide)) (@zz0 _ _ _ _ _ (@pv _ 2 _ _ (by rfl) (by walk_at "p") (by decide) (by decide)) (@pa_nil _) (by rfl)) (by rfl)) (by decide) (by rfl) (by rfl)) (@pe_one _ _ _ _ _ (@pe_cmpR _ _ _ _ _ _ _ _ (op_eqDK hr.units (K:=K) rfl) (@pv _ 1 _ _ (by rfl) (by walk_at "p") (by decide) (by decide)) (@pv _ 0 _ _ (by rfl) (by walk_at "p") (by decide) (by decide)) (nomark _)))))))))))),?_⟩
  walk_at "rd"
  refine CompL.of (xs:=ps.map PcM.v) (by rw[List.length_map,sizeLine_eq];have:=hN.few;omega) (SqL.of hP.top) (fun Da i ys H'=>∃qs:List PcM,ys=qs.map PcM.v∧Same H H'∧H' Da=some (.lst ys)∧(∀q∈qs,q.At H')∧(∀q∈qs,Da∉q.lists)∧qs.map PcM.d=(ps.take i).map PcM.d∧qs.map (fun p=>(p.name,p.nms))=(ps.take i).map fun p=>(p.name,p.nms))
   (fun Da hD=>⟨[],rfl,zz3 hD,zz1,(fun q hq=>by cases hq),(fun q hq=>by cases hq),rfl,rfl⟩) ?_ ?_ ?_
  ·rintro Da i ys H' hD hi ⟨qs,rfl,s2,hDD,_,_,_,e⟩
   refine⟨SqL.of (s2 _ _ hP.top),hDD,?_⟩
   have:=congrArg List.length e
   rw[List.length_map,List.length_map,List.length_take]at this
   rw[List.length_map];omega
  ·rintro Da i x ys H' hD hx ⟨qs,rfl,s2,hDD,at_,nD,e1,e2⟩
   rw[List.getElem?_map]at hx
   obtain⟨p,hp,rfl⟩:=Option.map_eq_some_iff.mp hx
   have hm:=List.mem_of_getElem? hp
   obtain⟨c1,c2,c3⟩:=cb p hm
   walk_at "rd"
   refine⟨.no .nil,p,rfl,(hP.at_ p hm).mono s2,c1,c2,c3,fun q H2 s3 qa cp fr nd=>⟨s3 _ _ hDD,qs++[q],by simp,same_upd hD (s2.trans s3),zz1,fun y hy => ?_,fun y hy => ?_,?_,?_⟩⟩
   ·have bt:But H2 (upd H2 Da (.lst (qs.map PcM.v++[q.v]))) Da:=But.upd (s3 _ _ hDD)
    rcases List.mem_append.mp hy with z | z
    ·exact ((at_ y z).mono s3).but bt (nD y z)
    ·rw[List.mem_singleton.mp z]
     exact qa.but bt fun z=>by have:=fr Da z;rw[hDD]at this;cases this
   ·rcases List.mem_append.mp hy with z | z
    ·exact nD y z
    ·rw[List.mem_singleton.mp z]
     exact fun z=>by have:=fr Da z;rw[hDD]at this;cases this
   ·rw[List.map_append,e1,List.take_succ,hp,List.map_append]
    congr 1
    show [q.d]=[p.d]
    rw[cp.d]
   ·rw[List.map_append,e2,List.take_succ,hp,List.map_append]
    congr 1
    show [(q.name,q.nms)]=[(p.name,p.nms)]
    rw[cp.name,cp.nms]
  ·rintro Da ys H1 hD ⟨qs,rfl,s1,hDD,at_,nD,e1,e2⟩
   rw[List.length_map,List.take_length]at e1 e2
   have hQ:PL H1 Da qs:=⟨hDD,at_⟩
   have hNq:=psx_copy e2 hN
   have hP1:=pl_mono hP s1
   refine⟨ps,hP1,hN,fun v o H2 s2 du dv=>⟨Da,rfl,qs,pl_mono hQ s2,hNq,tb.more (s1.trans s2),fun t u v' o' H3 sx tb3 ht du' dv' nn nx => ?_⟩⟩
   have es:=due_copy e2
   have rq:=rows_copy e2
   have eo:o'=o:=Due.one (due_ps es du') du
   subst eo
   obtain⟨t0,hT2,_⟩:=tb.more (s1.trans s2)
   have sA:SameX A.tb_qzq H H3:=fun b o n e=>sx b o n (s2 _ _ (s1 _ _ e))
   have hP3:PL H3 L ps:=pl_keep (pl_mono hP1 s2) hT2 sx
   have hQ3:PL H3 Da qs:=pl_keep (pl_mono hQ s2) hT2 sx
   have fin:∀H4,Same H3 H4→rEqD K (V.ref Da) (V.ref L) H4 Q:=fun H4 s4=>by
    have a4:=pl_mono hQ3 s4
    have b4:=pl_mono hP3 s4
    refine⟨qs.map PcM.d,ps.map PcM.d,.inl ⟨?_,?_⟩,Nat.le_trans (depL_le (n:=5) fun x _=>dep_pc x) (by decide),by rw[e1,deqL_refl];exact k _ (fun b o n e=>s4 _ _ (sA b o n e)) (tb3.more s4)⟩
    ·simp only[Rep]
     exact⟨_,_,rfl,SqL.of a4.top,RepL.map fun p hp=>(a4.at_ p hp).rep⟩
    ·simp only[Rep]
     exact⟨_,_,rfl,SqL.of b4.top,RepL.map fun p hp=>(b4.at_ p hp).rep⟩
   refine⟨_,SqT.of ht,rfl,_,_,rfl,_,_,rfl,rfl,?_⟩
   match o',dv,dv',nn,nx with
   | none,dv,dv',nn,_=>
    have e1:v=.non:=dv
    have e2:v'=.non:=dv'
    subst e1 e2
    obtain⟨d,rfl,ms,tab,ok⟩:=nn rfl
    rw[rq]at ok
    rw[if_pos (by simp),if_pos (by simp)]
    exact⟨d,rfl,ms,tab,ps,hP3,hN,ok,fin⟩
   | some (z,a,b),dv,dv',_,nx=>
    obtain⟨l,rfl,hl⟩:=dv
    obtain⟨l',rfl,hl'⟩:=dv'
    have:=nx (by simp)
    subst this
    rw[if_neg (by simp),if_pos (by simp),if_pos (by simp)]
    have hl3:H3 l=some (.lst [.str z,.str a,.str b]):=sx.get hT2 hl (fun _ z=>by cases z)
    exact⟨_,rfl,_,rfl,[z,a,b],hl',hl3,by simp,fin _ (Same.refl _)⟩
theorem new_pc {H H1 H2 H3 H4 H5 H6 H7:Hp}{p p1 p2 p3 p4 p5 p6:Addr}{ws:List Int}{kd nm z so:Str}{sp st off:Int}(e1:H1=upd H p (.lst (ws.map V.int))) (f0:H p=none) (e2:H2=upd H1 p1 (.lst [])) (f1:H1 p1=none) (e3:H3=upd H2 p2 (.tup [.str kd,.int sp,.ref p,.ref p1])) (f2:H2 p2=none) (e4:H4=upd H3 p3 (.lst [.ref p2])) (f3:H3 p3=none) (e5:H5=upd H4 p4 (.tup [.str z,.str so,.int st,.int off])) (f4:H4 p4=none) (e6:H6=upd H5 p5 (.lst [.ref p4])) (f5:H5 p5=none) (e7:H7=upd H6 p6 (.tup [.str nm,.ref p3,.ref p5])) (f6:H6 p6=none):
  Same H H7∧PcM.At H7 ⟨p6,p3,p5,nm,[⟨p2,p,p1,kd,sp,ws,[]⟩],[⟨p4,z,so,st,off⟩]⟩∧∀b∈(⟨p6,p3,p5,nm,[⟨p2,p,p1,kd,sp,ws,[]⟩],[⟨p4,z,so,st,off⟩]⟩:PcM).lists,H b=none:=by
 have s1:Same H H1:=e1▸zz3 f0
 have s2:Same H1 H2:=e2▸zz3 f1
 have s3:Same H2 H3:=e3▸zz3 f2
 have s4:Same H3 H4:=e4▸zz3 f3
 have s5:Same H4 H5:=e5▸zz3 f4
 have s6:Same H5 H6:=e6▸zz3 f5
 have s7:Same H6 H7:=e7▸zz3 f6
 have t6:=s7
 have t5:=s6.trans t6
 have t4:=s5.trans t5
 have t3:=s4.trans t4
 have t2:=s3.trans t3
 have t1:=s2.trans t2
 refine⟨s1.trans t1,⟨by rw[e7];exact zz1,t4 _ _ (by rw[e4];exact zz1),t6 _ _ (by rw[e6];exact zz1),fun s hs => ?_,fun n hn => ?_⟩,fun b hb => ?_⟩
 ·rw[List.mem_singleton.mp hs]
  exact⟨t3 _ _ (by rw[e3];exact zz1),t1 _ _ (by rw[e1];exact zz1),t2 _ _ (by rw[e2];exact zz1),fun f hf=>by cases hf⟩
 ·rw[List.mem_singleton.mp hn]
  exact t5 _ _ (by rw[e5];exact zz1)
 ·have hb:b∈[p3,p5,p,p1]:=hb
  simp only[List.mem_cons,List.not_mem_nil,or_false]at hb
  rcases hb with rfl | rfl | rfl | rfl
  ·exact ((s1.trans s2).trans s3).free f3
  ·exact ((((s1.trans s2).trans s3).trans s4).trans s5).free f5
  ·exact f0
  ·exact s1.free f1
theorem out_l {H:Hp}{L:Addr}{o:HO}{l:List Addr}(h:H L=some o) (fr:∀b∈l,H b=none):L∉l:=fun z=>by rw[fr L z]at h;cases h
theorem pl_ins {H:Hp}{L:Addr}{ps qs:List PcM}{q:PcM}(h:PL H L ps) (nL:∀p∈ps,L∉p.lists) (qa:q.At H) (nq:L∉q.lists) (hq:∀p∈qs,p∈ps∨p=q):PL (upd H L (.lst (qs.map PcM.v))) L qs:=by
 have b:But H (upd H L (.lst (qs.map PcM.v))) L:=But.upd h.top
 refine⟨zz1,fun p hp => ?_⟩
 rcases hq p hp with y | y
 ·exact (h.at_ p y).but b (nL p y)
 ·rw[y];exact qa.but b nq
theorem names_nd {t:Int}{l:List Int}(nd:l.Nodup) (h:∀x∈l,0≤x∧x<16):(l.map (nameOf t)).Nodup:=by
 rw[List.Nodup,List.pairwise_map]
 exact List.Pairwise.imp_of_mem (fun {a b} ha hb hne e=>hne (nameOf_inj (h a ha).1 (h a ha).2 (h b hb).1 (h b hb).2 e)) nd
theorem rows_size (ps:List PcM):(rowsN ps).length≤(ps.map PcM.size).sum:=by
 induction ps with
 | nil=>exact Nat.le_refl _
 | cons p r ih=>
  have e:rowsN (p::r)=(p.nms.map fun n=>(p.name,n))++rowsN r:=rfl
  rw[e,List.length_append,List.length_map,List.map_cons,List.sum_cons]
  unfold PcM.size at *
  omega
theorem Drawn.nm {c t:Int}{n:Nat}{ps:List PcM}(d:Drawn c t n ps) {p:PcM}(hp:p∈ps):(p.name.length≤16∧Sg p.name)∧∀m∈p.nms,(m.name.length≤16∧Sg m.name)∧isSort m.sort:=by
 refine⟨(d.pc hp).1,fun m hm => ?_⟩
 have:=(d.ok p hp).nms m hm
 obtain⟨k,k0,_,e⟩:=this.name
 exact⟨by rw[e];exact nameOf_ok c k k0,this.sort⟩
theorem Drawn.psx {c t:Int}{n:Nat}{ps:List PcM}(d:Drawn c t n ps) (hn:n≤60):PsX ps∧∀p∈ps,CpB p:=by
 have rs:=rows_size ps
 have sz:=d.size
 refine⟨⟨by have:=d.few;omega,?_,fun p hp=>⟨by have:=(d.pc hp).2.1;omega,(d.ok p hp).nd⟩,fun p hp=>d.nm hp,by omega⟩,fun p hp => ?_⟩
 ·rw[d.names]
  exact (List.nodup_append.mp (range_nd (t:=t) ps.length d.few)).1
 ·obtain⟨_,h1,h2,h3⟩:=d.pc hp
  exact⟨by omega,by omega,fun s hs=>by have:=h3 s hs;omega⟩
theorem NewQ.nms {t k:Int}{z:Str}{q:PcM}(h:NewQ t k z q):∃m,q.nms=[m]∧m.name=z∧m.sort=sTell:=by
 have e:=h.2.1
 cases hq:q.nms with
 | nil=>rw[hq]at e;cases e
 | cons m r=>
  rw[hq,List.map_cons]at e
  injection e with e1 e2
  rw[List.map_eq_nil_iff.mp e2]
  exact⟨m,rfl,congrArg (·.1) e1,congrArg (·.2) e1⟩
theorem Drawn.more {c t:Int}{n:Nat}{ps:List PcM}{q0 q1:PcM}{z:Str}(d:Drawn c t n ps) (hn:n≤60) (h0:NewQ t 12 z q0) (h1:NewQ t 13 z q1) (hz:z.length≤16∧Sg z):PsX (q0::(ps++[q1]))∧∀p∈q0::(ps++[q1]),CpB p:=by
 have rs:=rows_size ps
 have sz:=d.size
 have few:=d.few
 obtain⟨m0,e0,a0,b0⟩:=h0.nms
 obtain⟨m1,e1,a1,b1⟩:=h1.nms
 have alt:∀{C:PcM→Prop},(∀p∈ps,C p)→C q0→C q1→∀p∈q0::(ps++[q1]),C p:=fun {C} c1 c2 c3 p hp=>by
  rcases List.mem_cons.mp hp with y | y
  ·rw[y];exact c2
  ·rcases List.mem_append.mp y with y | y
   ·exact c1 p y
   ·rw[List.mem_singleton.mp y];exact c3
 obtain⟨px,cb⟩:=d.psx hn
 have nq:∀{q:PcM}{m:ToldM}{k:Int},q.nms=[m]→m.name=z→m.sort=sTell→q.name=nameOf t k→0≤k→(q.name.length≤16∧Sg q.name)∧∀m∈q.nms,(m.name.length≤16∧Sg m.name)∧isSort m.sort:=fun {q m k} e a b en k0=>by
  refine⟨by rw[en];exact nameOf_ok t k k0,fun x hx => ?_⟩
  rw[e]at hx
  rw[List.mem_singleton.mp hx,a,b]
  exact⟨hz,.inl rfl⟩
 have nl:∀{q:PcM}{m:ToldM},q.nms=[m]→q.nms.length≤61∧(q.nms.map ToldM.name).Nodup:=fun {q m} e=>by rw[e];exact⟨by simp,by simp⟩
 have cq:∀{q:PcM}{m:ToldM}{k:Int},q.nms=[m]→NewQ t k z q→CpB q:=fun {q m k} e h=>⟨by have:=h.2.2.1;omega,by rw[e];simp,fun s hs=>by have:=h.2.2.2 s hs;omega⟩
 refine⟨⟨by rw[List.length_cons,List.length_append];exact (by omega:ps.length+1+1≤14),?_,alt px.nms (nl e0) (nl e1),alt px.sg (nq e0 a0 b0 h0.1 (by decide)) (nq e1 a1 b1 h1.1 (by decide)),?_⟩,alt cb (cq e0 h0) (cq e1 h1)⟩
 ·have e:(q0::(ps++[q1])).map PcM.name=((12:Int)::((List.range ps.length).map Int.ofNat++[13])).map (nameOf t):=by
   rw[List.map_cons,List.map_append,d.names,h0.1,List.map_cons (f:=nameOf t),List.map_append (f:=nameOf t),List.map_map,List.map_singleton,h1.1]
   rfl
  rw[e]
  have hr:∀x∈(List.range ps.length).map Int.ofNat,0≤x∧x<12:=fun x hx=>by
   obtain⟨i,hi,rfl⟩:=List.mem_map.mp hx
   have:=List.mem_range.mp hi
   exact⟨Int.natCast_nonneg i,by show (i:Int)<12;omega⟩
  refine names_nd (List.nodup_cons.mpr ⟨fun h => ?_,List.nodup_append.mpr ⟨?_,by simp,fun x hx y hy e => ?_⟩⟩) (fun x hx => ?_)
  ·rcases List.mem_append.mp h with y | y
   ·have:=(hr _ y).2;omega
   ·have:=List.mem_singleton.mp y;omega
  ·rw[List.Nodup,List.pairwise_map]
   exact (List.nodup_range (n:=ps.length)).imp fun {a b} h e=>h (Int.ofNat.inj e)
  ·have:=(hr x hx).2
   rw[List.mem_singleton.mp hy]at e
   omega
  ·rcases List.mem_cons.mp hx with y | y
   ·omega
   ·rcases List.mem_append.mp y with y | y
    ·have:=hr x y;omega
    ·have:=List.mem_singleton.mp y;omega
 ·have e:rowsN (q0::(ps++[q1]))=(q0.nms.map fun n=>(q0.name,n))++(rowsN ps++q1.nms.map fun n=>(q1.name,n)):=by
   unfold rowsN
   rw[List.flatMap_cons,List.flatMap_append];simp
  rw[e,e0,e1,List.length_append,List.length_append]
  show 1+((rowsN ps).length+1)≤63
  omega
theorem cut_ints3 (ns:List Int) (h:ns.length≤63):∃ms:List Int,cutV (ns.map V.int) (some 3) (some 201)=ms.map V.int∧ms.length≤60:=by
 refine⟨(ns.drop (HT.sIx (ns.map V.int).length 0 (some 3))).take (HT.sIx (ns.map V.int).length (ns.map V.int).length (some 201) - HT.sIx (ns.map V.int).length 0 (some 3)),?_,?_⟩
 ·unfold cutV
  rw[List.map_take,List.map_drop]
 ·have e:HT.sIx (ns.map V.int).length 0 (some 3)=min 3 ns.length:=by
   rw[show (some (3:Int))=some ((3:Nat):Int) from rfl,HT.sIx_nat,List.length_map]
  rw[List.length_take,List.length_drop,e]
  omega
theorem tb_l {H H':Hp}{T L:Addr}{xs:List V}{p:Pos}{q:Str}(hL:H L=some (.lst xs)) (s:SameX L H H') (h:TbOk T p q H):TbOk T p q H':=by
 have ne:∀{b:Addr}{o:HO},H b=some o→(∀k,o≠.lst k)→b≠L:=fun {b o} e n1 z=>by
  rw[z,hL]at e
  exact n1 _ (Option.some.inj e).symm
 obtain⟨ps,h1,h2,h3⟩:=h
 exact⟨ps,s _ _ (ne h1 (fun k z=>by cases z)) h1,h2,h3.imp id fun⟨c,h4,h5⟩=>⟨c,h4,s _ _ (ne h5 (fun k z=>by cases z)) h5⟩⟩
theorem G_law (T:Txt K mg A):FnOk P w K mg base CX0 10 A.law A.fd_law ["_law_script"] (sp_law K A.tb_qzq):=by
 refine T.F_law.ok sc_law (fun vs H Q E h => ?_) (fun cdv Ar outer s H vs Q E hr h => ?_)
 ·obtain⟨a,ns,rfl,_⟩:=h
  rfl
 ·obtain⟨sc,ns,rfl,hS,hl,hT,k⟩:=h
  refine⟨_,(@zz2 _ _ _ _ _ (@ps_set _ _ 1 _ _ _ _ sc_law.nd rfl (by walk_at "o") (@zz12 _ _ _ _ _ _ _ _ _ _ _ _ _ _ _ _ (G_qqy T) (hr.mono (by decide)) rfl T.m_qqy T.k_qqy T.b_qqy .nil (@pass0 _) (@zz0 _ _ _ _ _ (@pv _ 0 _ _ (by rfl) (by walk_at "p") (by decide) (by decide)) (@zz0 _ _ _ _ _ (@pe_int _ _ _ _) (@pa_nil _) (by rfl)) (by rfl)) (by decide) (by rfl) (by rfl)) (by rfl) (by walk_at "q")) (@zz2 _ _ _ _ _ (@ps_set _ _ 2 _ _ _ _ sc_law.nd rfl (by walk_at "o") (@zz12 _ _ _ _ _ _ _ _ _ _ _ _ _ _ _ _ (G_qqy T) (hr.mono (by decide)) rfl T.m_qqy T.k_qqy T.b_qqy .nil (@pass0 _) (@zz0 _ _ _ _ _ (@pv _ 0 _ _ (by rfl) (by walk_at "p") (by decide) (by decide)) (@zz0 _ _ _ _ _ (@pe_int _ _ _ _) (@pa_nil _) (by rfl)) (by rfl)) (by decide) (by rfl) (by rfl)) (by rfl) (by walk_at "q")) (@zz2 _ _ _ _ _ (@ps_set _ _ 3 _ _ _ _ sc_law.nd rfl (by walk_at "o") (@zz12 _ _ _ _ _ _ _ _ _ _ _ _ _ _ _ _ (G_qwz T) (hr.mono (by decide)) rfl T.m_qwz T.k_qwz T.b_qwz .nil (@pass0 _) (@zz0 _ _ _ _ _ (@pe_slice _ _ _ _ _ _ _ _ _ _ (sl_listK (K:=K) rfl) (@pv _ 0 _ _ (by rfl) (by walk_at "p") (by decide) (by decide)) (@po_some _ _ _ (@pe_int _ _ _ _)) (@po_some _ _ _ (@pe_int _ _ _ _))) (@zz0 _ _ _ _ _ (@pv _ 1 _ _ (by rfl) (by walk_at "p") (by decide) (by decide)) (@zz0 _ _ _ _ _ (@pv _ 2 _ _ (by rfl) (by walk_at "p") (by decide) (by decide)) (@zz0 _ _ _ _ _ (@pe_bl _ _ _ _) (@pa_nil _) (by rfl)) (by rfl)) (by rfl)) (by rfl)) (by decide) (by rfl) (by rfl)) (by rfl) (by walk_at "q")) (@zz2 _ _ _ _ _ (@ps_set _ _ 4 _ _ _ _ sc_law.nd rfl (by walk_at "o") (@zz12 _ _ _ _ _ _ _ _ _ _ _ _ _ _ _ _ (G_qqy T) (hr.mono (by decide)) rfl T.m_qqy T.k_qqy T.b_qqy .nil (@pass0 _) (@zz0 _ _ _ _ _ (@pv _ 0 _ _ (by rfl) (by walk_at "p") (by decide) (by decide)) (@zz0 _ _ _ _ _ (@pe_int _ _ _ _) (@pa_nil _) (by rfl)) (by rfl)) (by decide) (by rfl) (by rfl)) (by rfl) (by walk_at "q")) (@zz2 _ _ _ _ _ (@ps_if _ _ _ _ _ _ _ _ (@zz11 _ _ _ _ _ _ _ _ op_eq (@pe_op _ _ _ _ _ _ _ _ op_mod (@pv _ 4 _ _ (by rfl) (by walk_at "p") (by decide) (by decide)) (@pe_int _ _ _ _)) (@pe_int _ _ _ _) (nomark _)) (@zz2 _ _ _ _ _ (@ps_set _ _ 5 _ _ _ _ sc_law.nd rfl (by walk_at "o") (@zz12 _ _ _ _ _ _ _ _ _ _ _ _ _ _ _ _ (G_qqx T) (hr.mono (by decide)) rfl T.m_qqx T.k_qqx T.b_qqx .nil (@pass0 _) (@zz0 _ _ _ _ _ (@pv _ 1 _ _ (by rfl) (by walk_at "p") (by decide) (by decide)) (@zz0 _ _ _ _ _ (@pe_op _ _ _ _ _ _ _ _ op_mod (@pe_op _ _ _ _ _ _ _ _ op_fdiv (@pv _ 4 _ _ (by rfl) (by walk_at "p") (by decide) (by decide)) (@pe_int _ _ _ _)) (@pe_int _ _ _ _)) (@pa_nil _) (by rfl)) (by rfl)) (by decide) (by rfl) (by rfl)) (by rfl) (by walk_at "q")) (@zz2 _ _ _ _ _ (@ps_weak _ _ _ aQ1 (@ps_expr _ _ _ _ (@pe_bm _ _ _ _ _ _ _ _ _ _ _ _ PySem.F.plainAttrs_list PySem.F.slot_list_append PySem.F.type_list_append mt_append (@pv _ 3 _ _ (by rfl) (by walk_at "p") (by decide) (by decide)) (@zz0 _ _ _ _ _ (@pe_tup _ _ _ _ _ (@zz0 _ _ _ _ _ (@zz12 _ _ _ _ _ _ _ _ _ _ _ _ _ _ _ _ (G_qqx T) (hr.mono (by decide)) rfl T.m_qqx T.k_qqx T.b_qqx .nil (@pass0 _) (@zz0 _ _ _ _ _ (@pv _ 2 _ _ (by rfl) (by walk_at "p") (by decide) (by decide)) (@zz0 _ _ _ _ _ (@pe_int _ _ _ _) (@pa_nil _) (by rfl)) (by rfl)) (by decide) (by rfl) (by rfl)) (@zz0 _ _ _ _ _ (@pe_lst _ _ _ _ (@zz0 _ _ _ _ _ (@pe_tup _ _ _ _ _ (@zz0 _ _ _ _ _ (@pe_str _ _ _ _) (@zz0 _ _ _ _ _ (@pe_int _ _ _ _) (@zz0 _ _ _ _ _ (@pe_lst _ _ _ _ (@zz0 _ _ _ _ _ (@pe_int _ _ _ _) (@pa_nil _) (by rfl))) (@zz0 _ _ _ _ _ (@pe_lst _ _ _ _ (@pa_nil _)) (@pa_nil _) (by rfl)) (by rfl)) (by rfl)) (by rfl))) (@pa_nil _) (by rfl))) (@zz0 _ _ _ _ _ (@pe_lst _ _ _ _ (@zz0 _ _ _ _ _ (@pe_tup _ _ _ _ _ (@zz0 _ _ _ _ _ (@pv _ 5 _ _ (by rfl) (by walk_at "p") (by decide) (by decide)) (@zz0 _ _ _ _ _ (@pe_str _ _ _ _) (@zz0 _ _ _ _ _ (@pe_int _ _ _ _) (@zz0 _ _ _ _ _ (@pe_int _ _ _ _) (@pa_nil _) (by rfl)) (by rfl)) (by rfl)) (by rfl))) (@pa_nil _) (by rfl))) (@pa_nil _) (by rfl)) (by rfl)) (by rfl))) (@pa_nil _) (by rfl)) (by rfl) (by rfl) (by rfl) (by rfl) (by rfl)) (by rfl)) ?q1) (@zz5 _ _ _ (@ps_weak _ _ _ aQ2 (@ps_expr _ _ _ _ (@pe_bm _ _ _ _ _ _ _ _ _ _ _ _ PySem.F.plainAttrs_list PySem.F.slot_list_insert PySem.F.type_list_insert mt_insert (@pv _ 3 _ _ (by rfl) (by walk_at "p") (by decide) (by decide)) (@zz0 _ _ _ _ _ (@pe_int _ _ _ _) (@zz0 _ _ _ _ _ (@pe_tup _ _ _ _ _ (@zz0 _ _ _ _ _ (@zz12 _ _ _ _ _ _ _ _ _ _ _ _ _ _ _ _ (G_qqx T) (hr.mono (by decide)) rfl T.m_qqx T.k_qqx T.b_qqx .nil (@pass0 _) (@zz0 _ _ _ _ _ (@pv _ 2 _ _ (by rfl) (by walk_at "p") (by decide) (by decide)) (@zz0 _ _ _ _ _ (@pe_int _ _ _ _) (@pa_nil _) (by rfl)) (by rfl)) (by decide) (by rfl) (by rfl)) (@zz0 _ _ _ _ _ (@pe_lst _ _ _ _ (@zz0 _ _ _ _ _ (@pe_tup _ _ _ _ _ (@zz0 _ _ _ _ _ (@pe_str _ _ _ _) (@zz0 _ _ _ _ _ (@pe_int _ _ _ _) (@zz0 _ _ _ _ _ (@pe_lst _ _ _ _ (@pa_nil _)) (@zz0 _ _ _ _ _ (@pe_lst _ _ _ _ (@pa_nil _)) (@pa_nil _) (by rfl)) (by rfl)) (by rfl)) (by rfl))) (@pa_nil _) (by rfl))) (@zz0 _ _ _ _ _ (@pe_lst _ _ _ _ (@zz0 _ _ _ _ _ (@pe_tup _ _ _ _ _ (@zz0 _ _ _ _ _ (@pv _ 5 _ _ (by rfl) (by walk_at "p") (by decide) (by decide)) (@zz0 _ _ _ _ _ (@pe_str _ _ _ _) (@zz0 _ _ _ _ _ (@pe_int _ _ _ _) (@zz0 _ _ _ _ _ (@pe_int _ _ _ _) (@pa_nil _) (by rfl)) (by rfl)) (by rfl)) (by rfl))) (@pa_nil _) (by rfl))) (@pa_nil _) (by rfl)) (by rfl)) (by rfl))) (@pa_nil _) (by rfl)) (by rfl)) (by rfl) (by rfl) (by rfl) (by rfl) (by rfl)) (by rfl)) ?q2)))) (@zz13 _)) (@pss_weak _ _ _ (lB A) (@zz2 _ _ _ _ _ (@ps_if _ _ _ _ _ _ _ _ (@pt_not _ _ _ _ (@pt_val _ _ _ (@zz12 _ _ _ _ _ _ _ _ _ _ _ _ _ _ _ _ (G_qwk T) (hr.mono (by decide)) rfl T.m_qwk T.k_qwk T.b_qwk .nil (@pass0 _) (@zz0 _ _ _ _ _ (@pv _ 3 _ _ (by rfl) (by walk_at "p") (by decide) (by decide)) (@pa_nil _) (by rfl)) (by decide) (by rfl) (by rfl)) (by intro _;rfl))) (@zz5 _ _ _ (@ps_ret _ _ _ _ (@pe_bl _ _ _ _))) (@zz13 _)) (@zz2 _ _ _ _ _ (@ps_if _ _ _ _ _ _ _ _ (@pt_not _ _ _ _ (@pt_val _ _ _ (@zz12 _ _ _ _ _ _ _ _ _ _ _ _ _ _ _ _ (G_qwk T) (hr.mono (by decide)) rfl T.m_qwk T.k_qwk T.b_qwk .nil (@pass0 _) (@zz0 _ _ _ _ _ (@zz12 _ _ _ _ _ _ _ _ _ _ _ _ _ _ _ _ (G_qwq T) (hr.mono (by decide)) rfl T.m_qwq T.k_qwq T.b_qwq .nil (@pass0 _) (@zz0 _ _ _ _ _ (@pv _ 3 _ _ (by rfl) (by walk_at "p") (by decide) (by decide)) (@pa_nil _) (by rfl)) (by decide) (by rfl) (by rfl)) (@pa_nil _) (by rfl)) (by decide) (by rfl) (by rfl)) (by intro _;rfl))) (@zz5 _ _ _ (@ps_ret _ _ _ _ (@pe_bl _ _ _ _))) (@zz13 _)) (@zz5 _ _ _ (@ps_ret _ _ _ _ (@zz12 _ _ _ _ _ _ _ _ _ _ _ _ _ _ _ _ (G_qwk T) (hr.mono (by decide)) rfl T.m_qwk T.k_qwk T.b_qwk .nil (@pass0 _) (@zz0 _ _ _ _ _ (@pv _ 3 _ _ (by rfl) (by walk_at "p") (by decide) (by decide)) (@pa_nil _) (by rfl)) (by decide) (by rfl) (by rfl)))))) ?lb)))))),?main⟩
  case q1=>
   rintro D σ H ⟨b0,b1,b4,t,L,z,ps,rfl,hP,nL,few,k⟩
   walk_at "rd"
   have sz:∀m:Nat,m≤400→m≤sizeLine:=fun m h=>by rw[sizeLine_eq];omega
   refine⟨.inl ⟨rfl,_,SqL.of hP.top⟩,sz _ (by decide),fun p f0=>⟨Nat.zero_le _,fun p1 f1=>⟨sz _ (by decide),fun p2 f2=>⟨sz _ (by decide),fun p3 f3=>⟨sz _ (by decide),fun p4 f4=>⟨sz _ (by decide),fun p5 f5=>⟨sz _ (by decide),fun p6 f6 => ?_⟩⟩⟩⟩⟩⟩⟩
   obtain⟨s7,qa,fr⟩:=new_pc (ws:=[7]) rfl f0 rfl f1 rfl f2 rfl f3 rfl f4 rfl f5 rfl f6
   have nq:=out_l hP.top fr
   refine⟨_,s7 _ _ hP.top,by rw[List.length_map,sizeLine_eq];omega,?_⟩
   have pl:=pl_ins (qs:=ps++[_]) (pl_mono hP s7) nL qa nq (fun p hp=>(List.mem_append.mp hp).imp id List.mem_singleton.mp)
   rw[List.map_append]at pl
   exact k _ _ (fun b o n e=>by rw[upd_ne n];exact s7 _ _ e) pl (fun p hp=>(List.mem_append.mp hp).elim (nL p) fun y=>by rw[List.mem_singleton.mp y];exact nq) ⟨rfl,rfl,Nat.le_refl _,fun s hs=>by rw[List.mem_singleton.mp hs];exact⟨Nat.le_refl _,Nat.zero_le _⟩⟩
  case q2=>
   rintro D σ H ⟨b0,b1,b4,t,L,z,ps,rfl,hP,nL,few,k⟩
   walk_at "rd"
   have sz:∀m:Nat,m≤400→m≤sizeLine:=fun m h=>by rw[sizeLine_eq];omega
   refine⟨.inl ⟨rfl,_,SqL.of hP.top⟩,Nat.zero_le _,fun p f0=>⟨Nat.zero_le _,fun p1 f1=>⟨sz _ (by decide),fun p2 f2=>⟨sz _ (by decide),fun p3 f3=>⟨sz _ (by decide),fun p4 f4=>⟨sz _ (by decide),fun p5 f5=>⟨sz _ (by decide),fun p6 f6 => ?_⟩⟩⟩⟩⟩⟩⟩
   obtain⟨s7,qa,fr⟩:=new_pc (ws:=[]) rfl f0 rfl f1 rfl f2 rfl f3 rfl f4 rfl f5 rfl f6
   have nq:=out_l hP.top fr
   refine⟨_,s7 _ _ hP.top,by decide,by decide,by rw[List.length_map,sizeLine_eq];omega,?_⟩
   exact k _ _ (fun b o n e=>by rw[upd_ne n];exact s7 _ _ e) (pl_ins (qs:=_::ps) (pl_mono hP s7) nL qa nq (fun p hp=>(List.mem_cons.mp hp).symm)) ⟨rfl,rfl,Nat.le_refl _,fun s hs=>by rw[List.mem_singleton.mp hs];exact⟨Nat.zero_le _,Nat.zero_le _⟩⟩
  case lb=>
   rintro D σ H ⟨L,ps,b0,b1,b2,b4,b5,rfl,hP,hN,cb,tb,k⟩
   walk_at "rd"
   refine⟨ps,hP,hN,cb,tb,fun H1 s1 t1 => ?_⟩
   obtain⟨t0,hT,_⟩:=id tb
   have hP1:=pl_keep hP hT s1
   refine⟨ps,hP1,hN,cb,fun L' qs H2 s2 hQ hNq cq=>⟨qs,hQ,hNq,cq,t1.more s2,fun H3 s3 t3 => ?_⟩⟩
   obtain⟨t4,hT2,_⟩:=t1.more s2
   exact⟨ps,pl_keep (pl_mono hP1 s2) hT2 s3,hN,cb,t3,fun H4 _ _=>k H4⟩
  case main=>
   walk_at "rd"
   refine⟨ns,hS,hl,by decide,fun c=>⟨ns,hS,hl,by decide,fun t=>⟨_,hS,fun p hp => ?_⟩⟩⟩
   obtain⟨ms,em,lm⟩:=cut_ints3 ns hl
   rw[em]
   have s1:=zz3 (o:=HO.lst (ms.map V.int)) hp
   refine⟨ms,SqL.of zz1,by omega,fun L ps H1 s2 hP _ dr=>⟨ns,(s1.trans s2).seq hS,hl,by decide,fun v=>⟨by decide,?_⟩⟩⟩
   have tb:TbOk A.tb_qzq lamP lamQ H:=⟨#[],hT,trivial,.inl rfl⟩
   have tb1:=tb.more (s1.trans s2)
   have pl:PL H1 L ps:=⟨hP.top,hP.at_⟩
   have nL:∀p∈ps,L∉p.lists:=fun p hp z=>(List.nodup_cons.mp hP.nd).1 (List.mem_flatMap.mpr ⟨p,hp,z⟩)
   have few:=dr.few
   refine ite2 (fun _=>⟨⟨by decide,by decide⟩,by decide,?_⟩) (fun _ => ?_)
   ·have hz:(nameOf c (v / 2 % 12)).length≤16∧Sg (nameOf c (v / 2 % 12)):=nameOf_ok _ _ (Int.emod_nonneg _ (by decide))
    refine⟨_,_,_,t,L,_,ps,rfl,pl,nL,by omega,fun q1 H2 x2 p2 n2 w1=>⟨_,_,_,t,L,_,ps++[q1],rfl,p2,n2,by rw[List.length_append];exact (by omega:ps.length+1≤100),fun q0 H3 x3 p3 w0 => ?_⟩⟩
    obtain⟨hN,cb⟩:=dr.more lm w0 w1 hz
    exact⟨L,_,_,_,_,_,_,rfl,p3,hN,cb,tb_l p2.top x3 (tb_l pl.top x2 tb1),k⟩
   ·obtain⟨hN,cb⟩:=dr.psx lm
    exact⟨L,ps,_,_,_,_,_,rfl,pl,hN,cb,tb1,k⟩
end
@[elab_as_elim] theorem len1 {α:Type}{p:List α→Prop}(us:List α) (h:us.length=1) (f:∀a,p [a]):p us:=by
 match us,h with | [a],_=>exact f a
@[elab_as_elim] theorem len2 {α:Type}{p:List α→Prop}(us:List α) (h:us.length=2) (f:∀a b,p [a,b]):p us:=by
 match us,h with | [a,b],_=>exact f a b
@[elab_as_elim] theorem len4 {α:Type}{p:List α→Prop}(us:List α) (h:us.length=4) (f:∀a b c d,p [a,b,c,d]):p us:=by
 match us,h with | [a,b,c,d],_=>exact f a b c d
def FO (K:Wf) (f:Addr) (st:Stmt) (x q:Str):Prop:=∃(oc:Value) (od an:Option Addr) (sl:Array (Option Value)) (kV dc pm cd ct:Value),K.lookup f=some ⟨oc,od,.func (PySem.W.fnOf x q (defArgs st) (defBody st) (defScope st) .none kV dc pm an cd ct),sl⟩∧PySem.W.codeIn K cd q=true∧PySem.W.keepIn K (.ref f)=true
def BMO (K:Wf) (bm:Addr):Prop:=∃sl,bm≠builtinsNs∧bm≠mainGlobals∧K.lookup bm=some ⟨.type "module", some builtinsNs,.plain,sl⟩
theorem all_mk {l:PySem.W.OpenLaw}{w:World}{K:Wf}{h:Heap}{mg:So}{fa f_qqq f_qzq f_qqk f_qqv f_qqy f_qqx f_qqw f_qqj f_qwz f_qwv f_qwx f_qzw f_qwq f_qwy f_qww f_qqz f_qwk f_law C_qwj C_Lost C_qyq C_qzx C_qzj C_qzy C_qzk C_qzz C_qzv C_qyw C_qyz bm tb_qzq:Addr}(X:K.In h) (G:h.Ns mainGlobals mg) (hfa:mg "law" = some (.ref fa))
  (ac_qwj:PySem.W.nsIn K mainGlobals "JoinError" = some (some (.ref C_qwj)))
  (ac_Lost:PySem.W.nsIn K mainGlobals "Lost" = some (some (.ref C_Lost)))
  (ac_qyq:PySem.W.nsIn K mainGlobals "NoBase" = some (some (.ref C_qyq)))
  (ac_qzx:PySem.W.nsIn K mainGlobals "NoPiece" = some (some (.ref C_qzx)))
  (ac_qzj:PySem.W.nsIn K mainGlobals "NoRule" = some (some (.ref C_qzj)))
  (ac_qzy:PySem.W.nsIn K mainGlobals "NoSense" = some (some (.ref C_qzy)))
  (ac_qzk:PySem.W.nsIn K mainGlobals "NoWhole" = some (some (.ref C_qzk)))
  (ac_qzz:PySem.W.nsIn K mainGlobals "SameName" = some (some (.ref C_qzz)))
  (ac_qzv:PySem.W.nsIn K mainGlobals "TooFar" = some (some (.ref C_qzv)))
  (ac_qyw:PySem.W.nsIn K mainGlobals "Twice" = some (some (.ref C_qyw)))
  (ac_qyz:PySem.W.nsIn K mainGlobals "Unmet" = some (some (.ref C_qyz)))
  (a_qqq:PySem.W.findIn K (.ref C_qyw) "__init__" = some (some (.ref f_qqq)))
  (i_qqq:PySem.W.isFn K (.ref f_qqq)=true)
  (l_qqq:FO K f_qqq s_qqq "__init__" "Twice.__init__")
  (a_qzq:PySem.W.nsIn K mainGlobals "names_of" = some (some (.ref f_qzq)))
  (l_qzq:FOT K f_qzq tb_qzq s_qzq "names_of" "names_of")
  (a_qqk:PySem.W.nsIn K mainGlobals "refuse_twice" = some (some (.ref f_qqk)))
  (l_qqk:FO K f_qqk s_qqk "refuse_twice" "refuse_twice")
  (a_qqv:PySem.W.nsIn K mainGlobals "places_told" = some (some (.ref f_qqv)))
  (l_qqv:FO K f_qqv s_qqv "places_told" "places_told")
  (a_qqy:PySem.W.nsIn K mainGlobals "_law_cell_at" = some (some (.ref f_qqy)))
  (l_qqy:FO K f_qqy s_qqy "_law_cell_at" "_law_cell_at")
  (a_qqx:PySem.W.nsIn K mainGlobals "_law_name_by" = some (some (.ref f_qqx)))
  (l_qqx:FO K f_qqx s_qqx "_law_name_by" "_law_name_by")
  (a_qqw:PySem.W.nsIn K mainGlobals "_law_word_row" = some (some (.ref f_qqw)))
  (l_qqw:FO K f_qqw s_qqw "_law_word_row" "_law_word_row")
  (a_qqj:PySem.W.nsIn K mainGlobals "_law_told_by" = some (some (.ref f_qqj)))
  (l_qqj:FO K f_qqj s_qqj "_law_told_by" "_law_told_by")
  (a_qwz:PySem.W.nsIn K mainGlobals "_law_drawn" = some (some (.ref f_qwz)))
  (l_qwz:FO K f_qwz s_qwz "_law_drawn" "_law_drawn")
  (a_qwv:PySem.W.nsIn K mainGlobals "_law_copy" = some (some (.ref f_qwv)))
  (l_qwv:FO K f_qwv s_qwv "_law_copy" "_law_copy")
  (a_qwx:PySem.W.nsIn K mainGlobals "_law_texts" = some (some (.ref f_qwx)))
  (l_qwx:FO K f_qwx s_qwx "_law_texts" "_law_texts")
  (a_qzw:PySem.W.nsIn K mainGlobals "_law_due" = some (some (.ref f_qzw)))
  (l_qzw:FO K f_qzw s_qzw "_law_due" "_law_due")
  (a_qwq:PySem.W.nsIn K mainGlobals "_law_weaker" = some (some (.ref f_qwq)))
  (l_qwq:FO K f_qwq s_qwq "_law_weaker" "_law_weaker")
  (a_qwy:PySem.W.nsIn K mainGlobals "_law_alone" = some (some (.ref f_qwy)))
  (l_qwy:FO K f_qwy s_qwy "_law_alone" "_law_alone")
  (a_qww:PySem.W.nsIn K mainGlobals "_law_answer" = some (some (.ref f_qww)))
  (l_qww:FO K f_qww s_qww "_law_answer" "_law_answer")
  (a_qqz:PySem.W.nsIn K mainGlobals "_law_told_all" = some (some (.ref f_qqz)))
  (l_qqz:FO K f_qqz s_qqz "_law_told_all" "_law_told_all")
  (a_qwk:PySem.W.nsIn K mainGlobals "_law_holds" = some (some (.ref f_qwk)))
  (l_qwk:FO K f_qwk s_qwk "_law_holds" "_law_holds")
  (a_law:PySem.W.nsIn K mainGlobals "law" = some (some (.ref f_law)))
  (l_law:FO K f_law s_law "law" "law")
  (hd_T:PySem.W.hasDictIn K C_qyw=true)
  (ki_qzj:PySem.W.kitOne K (.ref C_qyw) (.ref C_qzj)=some false)
  (ki_qzx:PySem.W.kitOne K (.ref C_qyw) (.ref C_qzx)=some false)
  (ki_qyw:PySem.W.kitOne K (.ref C_qyw) (.ref C_qyw)=some true)
  (ki_qzz:PySem.W.kitOne K (.ref C_qyw) (.ref C_qzz)=some false)
  (ki_qyz:PySem.W.kitOne K (.ref C_qyw) (.ref C_qyz)=some false)
  (ki_qzv:PySem.W.kitOne K (.ref C_qyw) (.ref C_qzv)=some false)
  (ki_qzk:PySem.W.kitOne K (.ref C_qyw) (.ref C_qzk)=some false)
  (ki_qyq:PySem.W.kitOne K (.ref C_qyw) (.ref C_qyq)=some false)
  (ki_Lost:PySem.W.kitOne K (.ref C_qyw) (.ref C_Lost)=some false)
  (ki_qzy:PySem.W.kitOne K (.ref C_qyw) (.ref C_qzy)=some false)
  (ki_qwj:PySem.W.kitOne K (.ref C_qyw) (.ref C_qwj)=some true)
  (ki_V:PySem.W.kitOne K (.ref C_qyw) (.type "ValueError")=some true)
  (mj:PySem.W.mroIn K C_qyw (.ref C_qwj)=some true)
  (xg_qyw:PySem.W.findIn K (.ref C_qyw) "__getattribute__" = some (some (.builtin "BaseException.__getattribute__")))
  (xn_qyw:PySem.W.findIn K (.ref C_qyw) "__getattr__" = some none)
  (xl_qyw:PySem.W.findIn K (.ref C_qyw) "__class__" = some (some (.builtin "object.__class__")))
  (xo_qyw:PySem.W.mroIn K C_qyw (.type "object")=some true)
  (xb_qyw:PySem.W.mroIn K C_qyw (.type "BaseException")=some true)
  (sp_cl:PySem.W.specialIn K (.builtin "object.__class__") "__get__" = some (some (.builtin "getset_descriptor.__get__")))
  (tk_cl:PySem.W.takesIn K (.builtin "object.__class__")=some true)
  (ei_qyw:ownInit K C_qyw f_qqq=true)
  (ee_qyw:errIn K C_qyw=true)
  (es_qyw:PySem.W.findIn K (.ref C_qyw) "__setattr__" = some (some (.builtin "object.__setattr__")))
  (br_qwj:PySem.W.readsIn K C_qwj (.type "type")=true)
  (bf_qwj:PySem.W.findCls K (.ref C_qwj) (.type "type") "__init__" = some (.val (.builtin "ValueError.__init__")))
  (bg_qwj:PySem.W.specialIn K (.ref C_qwj) "__getattribute__" = some (some (.builtin "type.__getattribute__")))
  (ct_qwj:PySem.W.instIn K (.ref C_qwj) (.type "tuple")=some false)
  (cb_qwj:PySem.W.mroIn K C_qwj (.type "BaseException")=some true)
  (no_qyw_name:PySem.W.findIn K (.ref C_qyw) "name" = some none)
  (no_qyw_one:PySem.W.findIn K (.ref C_qyw) "one" = some none)
  (no_qyw_other:PySem.W.findIn K (.ref C_qyw) "other" = some none)
  (n_ValueError:PySem.W.nsIn K mainGlobals "ValueError" = some none)
  (n_dict:PySem.W.nsIn K mainGlobals "dict" = some none)
  (n_int:PySem.W.nsIn K mainGlobals "int" = some none)
  (n_isinstance:PySem.W.nsIn K mainGlobals "isinstance" = some none)
  (n_len:PySem.W.nsIn K mainGlobals "len" = some none)
  (n_list:PySem.W.nsIn K mainGlobals "list" = some none)
  (n_min:PySem.W.nsIn K mainGlobals "min" = some none)
  (n_range:PySem.W.nsIn K mainGlobals "range" = some none)
  (n_reversed:PySem.W.nsIn K mainGlobals "reversed" = some none)
  (n_sorted:PySem.W.nsIn K mainGlobals "sorted" = some none)
  (n_str:PySem.W.nsIn K mainGlobals "str" = some none)
  (a_bm:PySem.W.nsIn K mainGlobals "__builtins__" = some (some (.ref bm)))
  (l_bm:BMO K bm):
  ∃fd:FuncData,(∀(s:Shared) (v:Value),BindsTo s fd ⟨[v],[]⟩ [("_law_script", v)])∧∀base:Heap,K.In base→base.Ns mainGlobals mg→FnOk l.prog w K mg base CX0 10 fa fd ["_law_script"] (sp_law K tb_qzq):=by
 have e:=hfa.symm.trans (PySem.W.mg_of X G a_law)
 cases e
 obtain⟨_,_,_,_,_,_,_,_,_,l_qqq,e_qqq,k_qqq⟩:=l_qqq
 have F_qqq:=fun_mk l_qqq e_qqq k_qqq
 have b_qqq:=F_qqq.binds (ps:=["self", "name", "one", "other"]) fun _ _ _ _ _ _ us hl=>len4 us hl fun _ _ _ _=>rfl
 obtain⟨_,_,_,_,_,_,_,_,_,l_qzq,e_qzq,k_qzq,h_qzq⟩:=l_qzq
 have F_qzq:=fun_mk l_qzq e_qzq k_qzq
 have b_qzq:=F_qzq.binds (ps:=["pieces"]) fun _ _ _ _ _ _ us hl=>len1 us hl fun _=>rfl
 obtain⟨_,_,_,_,_,_,_,_,_,l_qqk,e_qqk,k_qqk⟩:=l_qqk
 have F_qqk:=fun_mk l_qqk e_qqk k_qqk
 have b_qqk:=F_qqk.binds (ps:=["ordered"]) fun _ _ _ _ _ _ us hl=>len1 us hl fun _=>rfl
 obtain⟨_,_,_,_,_,_,_,_,_,l_qqv,e_qqv,k_qqv⟩:=l_qqv
 have F_qqv:=fun_mk l_qqv e_qqv k_qqv
 have b_qqv:=F_qqv.binds (ps:=["piece", "told_by"]) fun _ _ _ _ _ _ us hl=>len2 us hl fun _ _=>rfl
 obtain⟨_,_,_,_,_,_,_,_,_,l_qqy,e_qqy,k_qqy⟩:=l_qqy
 have F_qqy:=fun_mk l_qqy e_qqy k_qqy
 have b_qqy:=F_qqy.binds (ps:=["_law_script", "_law_k"]) fun _ _ _ _ _ _ us hl=>len2 us hl fun _ _=>rfl
 obtain⟨_,_,_,_,_,_,_,_,_,l_qqx,e_qqx,k_qqx⟩:=l_qqx
 have F_qqx:=fun_mk l_qqx e_qqx k_qqx
 have b_qqx:=F_qqx.binds (ps:=["_law_cell", "_law_k"]) fun _ _ _ _ _ _ us hl=>len2 us hl fun _ _=>rfl
 obtain⟨_,_,_,_,_,_,_,_,_,l_qqw,e_qqw,k_qqw⟩:=l_qqw
 have F_qqw:=fun_mk l_qqw e_qqw k_qqw
 have b_qqw:=F_qqw.binds (ps:=["_law_cell", "_law_names_by"]) fun _ _ _ _ _ _ us hl=>len2 us hl fun _ _=>rfl
 obtain⟨_,_,_,_,_,_,_,_,_,l_qqj,e_qqj,k_qqj⟩:=l_qqj
 have F_qqj:=fun_mk l_qqj e_qqj k_qqj
 have b_qqj:=F_qqj.binds (ps:=["_law_pieces", "_law_cell", "_law_names_by", "_law_strict"]) fun _ _ _ _ _ _ us hl=>len4 us hl fun _ _ _ _=>rfl
 obtain⟨_,_,_,_,_,_,_,_,_,l_qwz,e_qwz,k_qwz⟩:=l_qwz
 have F_qwz:=fun_mk l_qwz e_qwz k_qwz
 have b_qwz:=F_qwz.binds (ps:=["_law_cells", "_law_names_by", "_law_titles_by", "_law_strict"]) fun _ _ _ _ _ _ us hl=>len4 us hl fun _ _ _ _=>rfl
 obtain⟨_,_,_,_,_,_,_,_,_,l_qwv,e_qwv,k_qwv⟩:=l_qwv
 have F_qwv:=fun_mk l_qwv e_qwv k_qwv
 have b_qwv:=F_qwv.binds (ps:=["_law_piece"]) fun _ _ _ _ _ _ us hl=>len1 us hl fun _=>rfl
 obtain⟨_,_,_,_,_,_,_,_,_,l_qwx,e_qwx,k_qwx⟩:=l_qwx
 have F_qwx:=fun_mk l_qwx e_qwx k_qwx
 have b_qwx:=F_qwx.binds (ps:=["_law_found", "_law_due_here"]) fun _ _ _ _ _ _ us hl=>len2 us hl fun _ _=>rfl
 obtain⟨_,_,_,_,_,_,_,_,_,l_qzw,e_qzw,k_qzw⟩:=l_qzw
 have F_qzw:=fun_mk l_qzw e_qzw k_qzw
 have b_qzw:=F_qzw.binds (ps:=["_law_pieces"]) fun _ _ _ _ _ _ us hl=>len1 us hl fun _=>rfl
 obtain⟨_,_,_,_,_,_,_,_,_,l_qwq,e_qwq,k_qwq⟩:=l_qwq
 have F_qwq:=fun_mk l_qwq e_qwq k_qwq
 have b_qwq:=F_qwq.binds (ps:=["_law_pieces"]) fun _ _ _ _ _ _ us hl=>len1 us hl fun _=>rfl
 obtain⟨_,_,_,_,_,_,_,_,_,l_qwy,e_qwy,k_qwy⟩:=l_qwy
 have F_qwy:=fun_mk l_qwy e_qwy k_qwy
 have b_qwy:=F_qwy.binds (ps:=["_law_kept"]) fun _ _ _ _ _ _ us hl=>len1 us hl fun _=>rfl
 obtain⟨_,_,_,_,_,_,_,_,_,l_qww,e_qww,k_qww⟩:=l_qww
 have F_qww:=fun_mk l_qww e_qww k_qww
 have b_qww:=F_qww.binds (ps:=["_law_pieces"]) fun _ _ _ _ _ _ us hl=>len1 us hl fun _=>rfl
 obtain⟨_,_,_,_,_,_,_,_,_,l_qqz,e_qqz,k_qqz⟩:=l_qqz
 have F_qqz:=fun_mk l_qqz e_qqz k_qqz
 have b_qqz:=F_qqz.binds (ps:=["_law_answer_here", "_law_pieces"]) fun _ _ _ _ _ _ us hl=>len2 us hl fun _ _=>rfl
 obtain⟨_,_,_,_,_,_,_,_,_,l_qwk,e_qwk,k_qwk⟩:=l_qwk
 have F_qwk:=fun_mk l_qwk e_qwk k_qwk
 have b_qwk:=F_qwk.binds (ps:=["_law_pieces"]) fun _ _ _ _ _ _ us hl=>len1 us hl fun _=>rfl
 obtain⟨_,_,_,_,_,_,_,_,_,l_law,e_law,k_law⟩:=l_law
 have F_law:=fun_mk l_law e_law k_law
 have b_law:=F_law.binds (ps:=["_law_script"]) fun _ _ _ _ _ _ us hl=>len1 us hl fun _=>rfl
 obtain⟨_,n1_bm,n2_bm,l_bm⟩:=l_bm
 have T:Txt K mg { qqq:=f_qqq,fd_qqq:=_,qzq:=f_qzq,fd_qzq:=_,qqk:=f_qqk,fd_qqk:=_,qqv:=f_qqv,fd_qqv:=_,qqy:=f_qqy,fd_qqy:=_,qqx:=f_qqx,fd_qqx:=_,qqw:=f_qqw,fd_qqw:=_,qqj:=f_qqj,fd_qqj:=_,qwz:=f_qwz,fd_qwz:=_,qwv:=f_qwv,fd_qwv:=_,qwx:=f_qwx,fd_qwx:=_,qzw:=f_qzw,fd_qzw:=_,qwq:=f_qwq,fd_qwq:=_,qwy:=f_qwy,fd_qwy:=_,qww:=f_qww,fd_qww:=_,qqz:=f_qqz,fd_qqz:=_,qwk:=f_qwk,fd_qwk:=_,law:=fa,fd_law:=_,c_qwj:=C_qwj,c_Lost:=C_Lost,c_qyq:=C_qyq,c_qzx:=C_qzx,c_qzj:=C_qzj,c_qzy:=C_qzy,c_qzk:=C_qzk,c_qzz:=C_qzz,c_qzv:=C_qzv,c_qyw:=C_qyw,c_qyz:=C_qyz,tb_qzq:=tb_qzq }:={
  k_qqq:=k_qqq
  b_qqq:=b_qqq
  F_qqq:=F_qqq
  lm_qzq:=⟨_,rfl,h_qzq⟩
  m_qzq:=PySem.W.mg_of X G a_qzq
  k_qzq:=k_qzq
  b_qzq:=b_qzq
  F_qzq:=F_qzq
  m_qqk:=PySem.W.mg_of X G a_qqk
  k_qqk:=k_qqk
  b_qqk:=b_qqk
  F_qqk:=F_qqk
  m_qqv:=PySem.W.mg_of X G a_qqv
  k_qqv:=k_qqv
  b_qqv:=b_qqv
  F_qqv:=F_qqv
  m_qqy:=PySem.W.mg_of X G a_qqy
  k_qqy:=k_qqy
  b_qqy:=b_qqy
  F_qqy:=F_qqy
  m_qqx:=PySem.W.mg_of X G a_qqx
  k_qqx:=k_qqx
  b_qqx:=b_qqx
  F_qqx:=F_qqx
  m_qqw:=PySem.W.mg_of X G a_qqw
  k_qqw:=k_qqw
  b_qqw:=b_qqw
  F_qqw:=F_qqw
  m_qqj:=PySem.W.mg_of X G a_qqj
  k_qqj:=k_qqj
  b_qqj:=b_qqj
  F_qqj:=F_qqj
  m_qwz:=PySem.W.mg_of X G a_qwz
  k_qwz:=k_qwz
  b_qwz:=b_qwz
  F_qwz:=F_qwz
  m_qwv:=PySem.W.mg_of X G a_qwv
  k_qwv:=k_qwv
  b_qwv:=b_qwv
  F_qwv:=F_qwv
  m_qwx:=PySem.W.mg_of X G a_qwx
  k_qwx:=k_qwx
  b_qwx:=b_qwx
  F_qwx:=F_qwx
  m_qzw:=PySem.W.mg_of X G a_qzw
  k_qzw:=k_qzw
  b_qzw:=b_qzw
  F_qzw:=F_qzw
  m_qwq:=PySem.W.mg_of X G a_qwq
  k_qwq:=k_qwq
  b_qwq:=b_qwq
  F_qwq:=F_qwq
  m_qwy:=PySem.W.mg_of X G a_qwy
  k_qwy:=k_qwy
  b_qwy:=b_qwy
  F_qwy:=F_qwy
  m_qww:=PySem.W.mg_of X G a_qww
  k_qww:=k_qww
  b_qww:=b_qww
  F_qww:=F_qww
  m_qqz:=PySem.W.mg_of X G a_qqz
  k_qqz:=k_qqz
  b_qqz:=b_qqz
  F_qqz:=F_qqz
  m_qwk:=PySem.W.mg_of X G a_qwk
  k_qwk:=k_qwk
  b_qwk:=b_qwk
  F_qwk:=F_qwk
  m_law:=PySem.W.mg_of X G a_law
  k_law:=k_law
  b_law:=b_law
  F_law:=F_law
  bm:=⟨bm,_,PySem.W.mg_of X G a_bm,n1_bm,n2_bm,l_bm⟩
  n_ValueError:=PySem.W.mg_none_of X G n_ValueError
  n_dict:=PySem.W.mg_none_of X G n_dict
  n_int:=PySem.W.mg_none_of X G n_int
  n_isinstance:=PySem.W.mg_none_of X G n_isinstance
  n_len:=PySem.W.mg_none_of X G n_len
  n_list:=PySem.W.mg_none_of X G n_list
  n_min:=PySem.W.mg_none_of X G n_min
  n_range:=PySem.W.mg_none_of X G n_range
  n_reversed:=PySem.W.mg_none_of X G n_reversed
  n_sorted:=PySem.W.mg_none_of X G n_sorted
  n_str:=PySem.W.mg_none_of X G n_str
  mc_qwj:=PySem.W.mg_of X G ac_qwj
  mc_Lost:=PySem.W.mg_of X G ac_Lost
  mc_qyq:=PySem.W.mg_of X G ac_qyq
  mc_qzx:=PySem.W.mg_of X G ac_qzx
  mc_qzj:=PySem.W.mg_of X G ac_qzj
  mc_qzy:=PySem.W.mg_of X G ac_qzy
  mc_qzk:=PySem.W.mg_of X G ac_qzk
  mc_qzz:=PySem.W.mg_of X G ac_qzz
  mc_qzv:=PySem.W.mg_of X G ac_qzv
  mc_qyw:=PySem.W.mg_of X G ac_qyw
  mc_qyz:=PySem.W.mg_of X G ac_qyz
  hd_T:=hd_T
  ki_qzj:=ki_qzj
  ki_qzx:=ki_qzx
  ki_qyw:=ki_qyw
  ki_qzz:=ki_qzz
  ki_qyz:=ki_qyz
  ki_qzv:=ki_qzv
  ki_qzk:=ki_qzk
  ki_qyq:=ki_qyq
  ki_Lost:=ki_Lost
  ki_qzy:=ki_qzy
  ki_qwj:=ki_qwj
  ki_V:=ki_V
  mj:=mj
  xg_qyw:=xg_qyw
  xn_qyw:=xn_qyw
  xl_qyw:=xl_qyw
  xo_qyw:=xo_qyw
  xb_qyw:=xb_qyw
  sp_cl:=sp_cl
  tk_cl:=tk_cl
  ei_qyw:=ei_qyw
  ee_qyw:=ee_qyw
  es_qyw:=es_qyw
  br_qwj:=br_qwj
  bf_qwj:=bf_qwj
  bg_qwj:=bg_qwj
  ct_qwj:=ct_qwj
  cb_qwj:=cb_qwj
  er_qyw:=⟨ei_qyw,ee_qyw,es_qyw,i_qqq⟩
  bi_qwj:=⟨br_qwj,bf_qwj,bg_qwj⟩
  no_qyw_name:=no_qyw_name
  no_qyw_one:=no_qyw_one
  no_qyw_other:=no_qyw_other }
 exact⟨_,fun s v=>.of_eq rfl,fun base _ _=>G_law T⟩
theorem walk {l:PySem.W.OpenLaw}{q:Program}{loose:List Str}{XP:(Str→Option Value)→Heap→Prop}{YP:World→Heap→Prop}{d:DefRec}{K:Params→Wf}{tb_qzq:Addr}(hn:l.most=some 63) (hdf:d.params.defaults=[])
  (hY:∀(w:World) (h:Heap),YP w h→(K w.params).In h)
  (hT:∀(w:World) (h:Heap) (lo:List Str) (mean:ExcName→Option Value) (mg mb:So),(K w.params).In h→Top q lo mean mg mb h→∀T∈[tb_qzq],TabIn (K w.params) h T)
  (F:∀(w:World) (mg:So) (fa:Addr) (h:Heap),(K w.params).In h→h.Ns mainGlobals mg→mg d.name=some (.ref fa)→
   ∃fd:FuncData,(∀(s:Shared) (u:Value),BindsTo s fd ⟨[u],[]⟩ [("_law_script", u)])∧∀base:Heap,(K w.params).In base→base.Ns mainGlobals mg→FnOk l.prog w (K w.params) mg base CX0 10 fa fd ["_law_script"] (sp_law (K w.params) tb_qzq)):
  PySem.W.WalkO q loose XP YP l.row.toRowW d [] (fun f vs=>PySem.call f vs):=
 L2.walk_ofT (n:=63) (k:=10) (x := "_law_script") (CX:=fun _=>CX0) (sp:=fun w=>sp_law (K w.params) tb_qzq) hn (by decide) hdf ⟨rfl,by decide,by decide⟩ hY hT F (fun _ _ a ns hl hE hS=>⟨a,ns,rfl,hS,hl,hE _ (by simp),fun _=>rfl⟩) fun _ _ _ _ _ z=>z
end My
namespace Hd
open PySem PySem.W PySem.Calls PyProof.Rows
variable (P:Params)
noncomputable abbrev pw:Program:=PySem.Challenge.pw_joinload_k17_told_twice
noncomputable def T (i:Nat):Stmt:=My.top i
noncomputable def C (i j:Nat):Stmt:=L2.inClass (My.top i) j
noncomputable abbrev k (P:Params) (x:Str) (t:Tok) (v:Value):DictEntry:=⟨PyData.keyHash P x,.str x t,v⟩
noncomputable abbrev fn (s:Stmt) (x q:Str) (dV kV doc pm:Value) (an:Option Addr) (cd ct:Value):FuncData:=fnOf x q (L2.defArgs s) (L2.defBody s) (L2.defScope s) dV kV doc pm an cd ct
noncomputable abbrev e1:Obj:=⟨.type "tuple", none,.seq #[] 0,#[]⟩
noncomputable abbrev e2:Obj:=⟨.none,none,.fields #[],#[]⟩
noncomputable abbrev bp:Obj:=⟨.type "builtin_function_or_method", none,.fields #[.builtin "type.__prepare__", .type "type"],#[]⟩
noncomputable abbrev tu (x:Array Value):Obj:=⟨.type "tuple", none,.seq x 0,#[]⟩
noncomputable abbrev nf (x:Array Value):Obj:=⟨.none,none,.fields x,#[]⟩
noncomputable abbrev bs (a:Addr):Obj:=⟨.type "builtin_function_or_method", none,.fields #[.builtin "object.__init_subclass__", .ref a],#[]⟩
noncomputable abbrev su (a:Addr):Obj:=⟨.type "super", none,.fields #[.ref a,.ref a,.ref a],#[]⟩
noncomputable abbrev co (x q:Str) (t:Nat) (l a b:Int) (r:Addr) (o:Bool) (r2:Addr) (v:Value) (u:Nat):Obj:=⟨.type "code", none,.fields #[.str x t,.str q (t+1),.str "/claim/cut.py" (t+2),.int l 0,.int a 0,.int 0 0,.int 0 0,.int b 0,.ref r,.bool o,.int 181 0,.ref r2,.none,.none,.none,v,.int (Int.ofNat u) 0,.int l 0,.str "/claim/cut.py" (u+1)],#[]⟩
noncomputable abbrev fm (a b:Addr) (v:Value):Obj:=⟨.type "frame", none,.plain,#[some (.ref a),some (.ref 3),some (.ref b),none,some v,none,some (.ref 0)]⟩
noncomputable abbrev fo (s:Stmt) (x q m:Str) (t:Nat) (c:Addr):Obj:=⟨.type "function", none,.func (fn s x q .none .none .none (.str m t) none (.ref c) .none),#[]⟩
noncomputable abbrev ft (s:Stmt) (x q:Str):Obj:=⟨.none,none,.func { fn s x q .none .none .none .none none .none .none with globals:=0,closure:=[],builtins:=0 },#[]⟩
noncomputable abbrev di (l:List DictEntry) (n:Nat):Obj:=⟨.type "dict", none,.dict l.toArray n,#[]⟩
noncomputable def sv:List DictEntry→Nat→Value→List DictEntry
 | [],_,_=>[]
 | e::r,0,v=>⟨e.hash,e.key,v⟩::r
 | e::r,n+1,v=>e::sv r n v
noncomputable def od:List (Nat×Obj)→List (Nat×Obj)
 | []=>[]
 | (i,o)::r=>match Nat.beq (i % 2) 1 with
  | true=>(i / 2,o)::od r
  | false=>od r
noncomputable def ev:List (Nat×Obj)→List (Nat×Obj)
 | []=>[]
 | (i,o)::r=>match Nat.beq i 0 with
  | true=>ev r
  | false=>match Nat.beq (i % 2) 1 with
   | true=>ev r
   | false=>(i / 2 - 1,o)::ev r
noncomputable def at0 (v:Obj):List (Nat×Obj)→Obj
 | []=>v
 | (i,o)::r=>match Nat.beq i 0 with
  | true=>o
  | false=>at0 v r
noncomputable def mg:Nat→BT→List (Nat×Obj)→BT
 | 0,t,_=>t
 | f+1,t,d=>match d with
  | []=>t
  | x::r=>match t with
   | .nil=>.node (at0 default (x::r)) (mg f .nil (od (x::r))) (mg f .nil (ev (x::r)))
   | .node v a b=>.node (at0 v (x::r)) (mg f a (od (x::r))) (mg f b (ev (x::r)))
noncomputable def bd:List Stmt:=behindTheImports pw
noncomputable def en:Env:={ scope:=pw.main.scope,locals:=mainNs,globals:=mainNs,cells:=[],code:=(.ref 13),frame:=some 14 }
noncomputable abbrev cE:Code:=.body bd en
noncomputable abbrev B:List Frame:=[topFrame ⟨0,0,0,0⟩]
noncomputable def li:Life:={ registered:=[],finalised:=[],alive:=[],known:=0,ids:=[],orphanDicts:=[],counting:=false,cnt:=⟨[]⟩,zero:=[],soft:=0,below:=false,collecting:=false,loading:=false,debug:=0,thresholds:=[2000,10,10],woke:=false,asked:=0,gcEnabled:=true,old:=[],middle:=[],young:=0,intoMiddle:=false }
noncomputable abbrev an:Option Value:=(some (.ref 6))
noncomputable abbrev sT (t:BT) (n k:Nat) (os:OsState):SharedT:=⟨t,n,li,⟨[]⟩,boot_drawn,k,os⟩
noncomputable abbrev sR (w:World) (n:Nat) (S S':World→OsState→SharedT) (l:List Stmt) (p p':Pos):Prop:=(fun os=>segRunT treeTable pw w 11 an 1 n (S w os) (piecesOf l en cE p B))=fun os=>some (.next,S' w os,cE,p')
noncomputable def o11_0:=e1
noncomputable def o12_0:=e2
noncomputable def o13_0:=co "<module>" "<module>" 182 1 0 0 11 false 12 .none 185
noncomputable def o14_0:=fm 13 3 (.str "__main__" 164)
noncomputable def Ha (P:Params):Heap:=⟨⟨boot_o_0 P::boot_o_1 P::boot_o_2 P::boot_o_3 P::boot_o_4 P::boot_o_5 P::boot_o_6 P::boot_o_7 P::boot_o_8 P::boot_o_9 P::boot_o_10 P::o11_0::o12_0::o13_0::o14_0::[]⟩,li⟩
noncomputable def S0 (w:World) (os:OsState):Shared:=⟨boot_heap w.params,⟨[]⟩,boot_drawn,boot_toks,os⟩
noncomputable def Sa (w:World) (os:OsState):Shared:=⟨Ha w.params,⟨[]⟩,boot_drawn,187,os⟩
def Pre (w:World):Prop:=(fun os=>topGo treeTable pw w 11 an 12 (S0 w os) (topStub pw))=fun os=>some (Sa w os,⟨denote treeTable cE,cE,⟨0,0,0,0⟩,B⟩)
noncomputable def D0 (P:Params):List (Nat×Obj):=(0,boot_o_0 P)::(1,boot_o_1 P)::(2,boot_o_2 P)::(3,boot_o_3 P)::(4,boot_o_4 P)::(5,boot_o_5 P)::(6,boot_o_6 P)::(7,boot_o_7 P)::(8,boot_o_8 P)::(9,boot_o_9 P)::(10,boot_o_10 P)::(11,o11_0)::(12,o12_0)::(13,o13_0)::(14,o14_0)::[]
noncomputable def T0 (P:Params):BT:=mg 14 .nil (D0 P)
noncomputable def S0T (w:World):OsState→SharedT:=sT (T0 w.params) 15 187
def Blk (w:World):Prop:=(fun os=>segRun treeTable pw w 11 an 1 1 (Sa w os) (blockOf bd en cE ⟨0,0,0,0⟩ B))=fun os=>some (.next,(S0T w os).abs,cE,⟨0,0,0,0⟩)
noncomputable def g3_2 (P:Params):List DictEntry:=[k P "__name__" 165 (.str "joinload.errors" 187),k P "__doc__" 166 .none,k P "__package__" 167 .none,k P "__loader__" 168 (.builtin "__main__.__loader__#opaque"),k P "__spec__" 169 .none,k P "__annotations__" 170 (.ref 6),k P "__builtins__" 171 (.ref 4),k P "__file__" 173 (.str "/claim/cut.py" 172),k P "__cached__" 174 .none,k P "JoinError" 206 (.ref 24),k P "NoRule" 222 (.ref 37),k P "NoPiece" 247 (.ref 56)]
noncomputable def o3_2:Obj:=⟨(.type "dict"),none,.dict (g3_2 P).toArray 12,#[]⟩
noncomputable def o12_2:=nf #[(.int (2) 0),(.int (0) 0),(.ref 20),(.int (4) 0),(.int (0) 0),(.ref 33),(.int (6) 0),(.int (0) 0),(.ref 45)]
noncomputable def o15_2:=tu #[(.type "ValueError")]
noncomputable def o16_2:=bp
noncomputable def o17_2:=di [k P "__module__" 196 (.str "joinload.errors" 187),k P "__qualname__" 198 (.str "JoinError" 197),k P "__firstlineno__" 200 (.int (2) 199),k P "__static_attributes__" 201 (.ref 22)] 4
noncomputable def o18_2:=e1
noncomputable def o19_2:=e2
noncomputable def o20_2:=co "JoinError" "JoinError" 191 2 0 0 18 false 19 .none 194
noncomputable def o21_2:=fm 20 17 (.str "joinload.errors" 187)
noncomputable def o22_2:=e1
noncomputable def o23_2:=di [k P "__module__" 196 (.str "joinload.errors" 187),k P "__firstlineno__" 200 (.int (2) 199),k P "__static_attributes__" 201 (.ref 22),k P "__weakref__" 203 (.ref 25),k P "__doc__" 204 .none] 3
noncomputable def o24_2:Obj:=⟨(.type "type"),none,(.cls ⟨"JoinError", [(.type "ValueError")],[(.ref 24),(.type "ValueError"),(.type "Exception"),(.type "BaseException"),(.type "object")],23, "JoinError", true,[],[(.ref 37),(.ref 56)],false,none,false⟩),#[(some (.ref 15)),none,(some (.str "JoinError" 189)),(some (.str "JoinError" 197)),(some (.builtin "ValueError.__new__")),(some (.bool true))]⟩
noncomputable def o25_2:Obj:=⟨(.type "getset_descriptor"),none,(.fields #[(.str "__weakref__" 202),(.ref 24),(.builtin "ExceptionGroup.__weakref__"),.none]),#[]⟩
noncomputable def o26_2:=su 24
noncomputable def o27_2:=bs 24
noncomputable def o28_2:=tu #[(.ref 24)]
noncomputable def o29_2:=bp
noncomputable def o30_2:=di [k P "__module__" 214 (.str "joinload.errors" 187),k P "__qualname__" 216 (.str "NoRule" 215),k P "__firstlineno__" 218 (.int (4) 217),k P "__static_attributes__" 219 (.ref 35)] 4
noncomputable def o31_2:=e1
noncomputable def o32_2:=e2
noncomputable def o33_2:=co "NoRule" "NoRule" 209 4 0 0 31 false 32 .none 212
noncomputable def o34_2:=fm 33 30 (.str "joinload.errors" 187)
noncomputable def o35_2:=e1
noncomputable def o36_2:=di [k P "__module__" 214 (.str "joinload.errors" 187),k P "__firstlineno__" 218 (.int (4) 217),k P "__static_attributes__" 219 (.ref 35),k P "__doc__" 220 .none] 2
noncomputable def o37_2:Obj:=⟨(.type "type"),none,(.cls ⟨"NoRule", [(.ref 24)],[(.ref 37),(.ref 24),(.type "ValueError"),(.type "Exception"),(.type "BaseException"),(.type "object")],36, "NoRule", true,[],[],false,none,false⟩),#[(some (.ref 28)),none,(some (.str "NoRule" 207)),(some (.str "NoRule" 215)),(some (.builtin "ValueError.__new__")),(some (.bool true))]⟩
noncomputable def o38_2:=su 37
noncomputable def o39_2:=bs 37
noncomputable def o40_2:=tu #[(.ref 24)]
noncomputable def o41_2:=bp
noncomputable def o42_2:=di [k P "__module__" 230 (.str "joinload.errors" 187),k P "__qualname__" 232 (.str "NoPiece" 231),k P "__firstlineno__" 234 (.int (6) 233),k P "__init__" 242 (.ref 53),k P "__static_attributes__" 244 (.ref 54)] 5
noncomputable def o43_2:=e1
noncomputable def o44_2:=nf #[(.int (8) 0),(.int (4) 0),(.ref 52)]
noncomputable def o45_2:=co "NoPiece" "NoPiece" 225 6 0 0 43 false 44 .none 228
noncomputable def o46_2:=fm 45 42 (.str "joinload.errors" 187)
noncomputable def o47_2:=e1
noncomputable def o48_2:=e2
noncomputable def o49_2:=tu #[(.str "self" 238),(.str "row" 239)]
noncomputable def o50_2:=e1
noncomputable def o51_2:=ft (C 3 0) "__init__" "NoPiece.__init__"
noncomputable def o52_2:Obj:=⟨(.type "code"),none,(.fields #[(.str "__init__" 235),(.str "NoPiece.__init__" 236),(.str "/claim/cut.py" 237),(.int (8) 0),(.int (2) 0),(.int (0) 0),(.int (0) 0),(.int (3) 0),(.ref 47),(.bool true),(.int (181) 0),(.ref 48),.none,(.ref 49),(.ref 50),(.ref 51),(.int (240) 0),(.int (8) 0),(.str "/claim/cut.py" 241)]),#[]⟩
noncomputable def o53_2:=fo (C 3 0) "__init__" "NoPiece.__init__" "joinload.errors" 187 52
noncomputable def o54_2:=tu #[(.str "row" 243)]
noncomputable def o55_2:=di [k P "__module__" 230 (.str "joinload.errors" 187),k P "__firstlineno__" 234 (.int (6) 233),k P "__init__" 242 (.ref 53),k P "__static_attributes__" 244 (.ref 54),k P "__doc__" 245 .none] 2
noncomputable def o56_2:Obj:=⟨(.type "type"),none,(.cls ⟨"NoPiece", [(.ref 24)],[(.ref 56),(.ref 24),(.type "ValueError"),(.type "Exception"),(.type "BaseException"),(.type "object")],55, "NoPiece", true,[],[],false,none,false⟩),#[(some (.ref 40)),none,(some (.str "NoPiece" 223)),(some (.str "NoPiece" 231)),(some (.builtin "ValueError.__new__")),(some (.bool true))]⟩
noncomputable def o57_2:=su 56
noncomputable def o58_2:=bs 56
noncomputable def d1_0 (P:Params) (r:List (Nat×Obj)):List (Nat×Obj):=(3,o3_2 P)::(12,o12_2)::(15,o15_2)::(16,o16_2)::(17,o17_2 P)::(18,o18_2)::(19,o19_2)::(20,o20_2)::(21,o21_2)::(22,o22_2)::(23,o23_2 P)::(24,o24_2)::(25,o25_2)::(26,o26_2)::(27,o27_2)::(28,o28_2)::(29,o29_2)::(30,o30_2 P)::(31,o31_2)::(32,o32_2)::(33,o33_2)::(34,o34_2)::(35,o35_2)::(36,o36_2 P)::r
noncomputable def d1_1 (P:Params) (r:List (Nat×Obj)):List (Nat×Obj):=(37,o37_2)::(38,o38_2)::(39,o39_2)::(40,o40_2)::(41,o41_2)::(42,o42_2 P)::(43,o43_2)::(44,o44_2)::(45,o45_2)::(46,o46_2)::(47,o47_2)::(48,o48_2)::(49,o49_2)::(50,o50_2)::(51,o51_2)::(52,o52_2)::(53,o53_2)::(54,o54_2)::(55,o55_2 P)::(56,o56_2)::(57,o57_2)::(58,o58_2)::r
noncomputable def T1 (P:Params):BT:=mg 14 (T0 P) (d1_0 P (d1_1 P ([])))
noncomputable def S1T (w:World):OsState→SharedT:=sT (T1 w.params) 59 248
noncomputable def L0:List Stmt:=My.top 0::My.top 1::My.top 2::My.top 3::[]
def P0 (w:World):Prop:=sR w 654 S0T S1T L0 ⟨0,0,0,0⟩ ⟨6,0,10,22⟩
noncomputable def g3_3 (P:Params):List DictEntry:=g3_2 P++[k P "Twice" 276 (.ref 75),k P "SameName" 301 (.ref 94),k P "Unmet" 328 (.ref 113)]
noncomputable def o3_3:Obj:=⟨(.type "dict"),none,.dict (g3_3 P).toArray 15,#[]⟩
noncomputable def o12_3:=nf #[(.int (2) 0),(.int (0) 0),(.ref 20),(.int (4) 0),(.int (0) 0),(.ref 33),(.int (6) 0),(.int (0) 0),(.ref 45),(.int (11) 0),(.int (0) 0),(.ref 64),(.int (18) 0),(.int (0) 0),(.ref 83),(.int (23) 0),(.int (0) 0),(.ref 102)]
noncomputable def o24_3:Obj:=⟨(.type "type"),none,(.cls ⟨"JoinError", [(.type "ValueError")],[(.ref 24),(.type "ValueError"),(.type "Exception"),(.type "BaseException"),(.type "object")],23, "JoinError", true,[],[(.ref 37),(.ref 56),(.ref 75),(.ref 94),(.ref 113)],false,none,false⟩),#[(some (.ref 15)),none,(some (.str "JoinError" 189)),(some (.str "JoinError" 197)),(some (.builtin "ValueError.__new__")),(some (.bool true))]⟩
noncomputable def o59_3:=tu #[(.ref 24)]
noncomputable def o60_3:=bp
noncomputable def o61_3:=di [k P "__module__" 255 (.str "joinload.errors" 187),k P "__qualname__" 257 (.str "Twice" 256),k P "__firstlineno__" 259 (.int (11) 258),k P "__init__" 269 (.ref 72),k P "__static_attributes__" 273 (.ref 73)] 5
noncomputable def o62_3:=e1
noncomputable def o63_3:=nf #[(.int (13) 0),(.int (4) 0),(.ref 71)]
noncomputable def o64_3:=co "Twice" "Twice" 250 11 0 0 62 false 63 .none 253
noncomputable def o65_3:=fm 64 61 (.str "joinload.errors" 187)
noncomputable def o66_3:=e1
noncomputable def o67_3:=e2
noncomputable def o68_3:=tu #[(.str "self" 263),(.str "name" 264),(.str "one" 265),(.str "other" 266)]
noncomputable def o69_3:=e1
noncomputable def o70_3:=ft (C 4 0) "__init__" "Twice.__init__"
noncomputable def o71_3:Obj:=⟨(.type "code"),none,(.fields #[(.str "__init__" 260),(.str "Twice.__init__" 261),(.str "/claim/cut.py" 262),(.int (13) 0),(.int (4) 0),(.int (0) 0),(.int (0) 0),(.int (3) 0),(.ref 66),(.bool true),(.int (181) 0),(.ref 67),.none,(.ref 68),(.ref 69),(.ref 70),(.int (267) 0),(.int (13) 0),(.str "/claim/cut.py" 268)]),#[]⟩
noncomputable def o72_3:=fo (C 4 0) "__init__" "Twice.__init__" "joinload.errors" 187 71
noncomputable def o73_3:=tu #[(.str "name" 270),(.str "one" 271),(.str "other" 272)]
noncomputable def o74_3:=di [k P "__module__" 255 (.str "joinload.errors" 187),k P "__firstlineno__" 259 (.int (11) 258),k P "__init__" 269 (.ref 72),k P "__static_attributes__" 273 (.ref 73),k P "__doc__" 274 .none] 2
noncomputable def o75_3:Obj:=⟨(.type "type"),none,(.cls ⟨"Twice", [(.ref 24)],[(.ref 75),(.ref 24),(.type "ValueError"),(.type "Exception"),(.type "BaseException"),(.type "object")],74, "Twice", true,[],[],false,none,false⟩),#[(some (.ref 59)),none,(some (.str "Twice" 248)),(some (.str "Twice" 256)),(some (.builtin "ValueError.__new__")),(some (.bool true))]⟩
noncomputable def o76_3:=su 75
noncomputable def o77_3:=bs 75
noncomputable def o78_3:=tu #[(.ref 24)]
noncomputable def o79_3:=bp
noncomputable def o80_3:=di [k P "__module__" 284 (.str "joinload.errors" 187),k P "__qualname__" 286 (.str "SameName" 285),k P "__firstlineno__" 288 (.int (18) 287),k P "__init__" 296 (.ref 91),k P "__static_attributes__" 298 (.ref 92)] 5
noncomputable def o81_3:=e1
noncomputable def o82_3:=nf #[(.int (20) 0),(.int (4) 0),(.ref 90)]
noncomputable def o83_3:=co "SameName" "SameName" 279 18 0 0 81 false 82 .none 282
noncomputable def o84_3:=fm 83 80 (.str "joinload.errors" 187)
noncomputable def o85_3:=e1
noncomputable def o86_3:=e2
noncomputable def o87_3:=tu #[(.str "self" 292),(.str "name" 293)]
noncomputable def o88_3:=e1
noncomputable def o89_3:=ft (C 5 0) "__init__" "SameName.__init__"
noncomputable def o90_3:Obj:=⟨(.type "code"),none,(.fields #[(.str "__init__" 289),(.str "SameName.__init__" 290),(.str "/claim/cut.py" 291),(.int (20) 0),(.int (2) 0),(.int (0) 0),(.int (0) 0),(.int (3) 0),(.ref 85),(.bool true),(.int (181) 0),(.ref 86),.none,(.ref 87),(.ref 88),(.ref 89),(.int (294) 0),(.int (20) 0),(.str "/claim/cut.py" 295)]),#[]⟩
noncomputable def o91_3:=fo (C 5 0) "__init__" "SameName.__init__" "joinload.errors" 187 90
noncomputable def o92_3:=tu #[(.str "name" 297)]
noncomputable def o93_3:=di [k P "__module__" 284 (.str "joinload.errors" 187),k P "__firstlineno__" 288 (.int (18) 287),k P "__init__" 296 (.ref 91),k P "__static_attributes__" 298 (.ref 92),k P "__doc__" 299 .none] 2
noncomputable def o94_3:Obj:=⟨(.type "type"),none,(.cls ⟨"SameName", [(.ref 24)],[(.ref 94),(.ref 24),(.type "ValueError"),(.type "Exception"),(.type "BaseException"),(.type "object")],93, "SameName", true,[],[],false,none,false⟩),#[(some (.ref 78)),none,(some (.str "SameName" 277)),(some (.str "SameName" 285)),(some (.builtin "ValueError.__new__")),(some (.bool true))]⟩
noncomputable def o95_3:=su 94
noncomputable def o96_3:=bs 94
noncomputable def o97_3:=tu #[(.ref 24)]
noncomputable def o98_3:=bp
noncomputable def o99_3:=di [k P "__module__" 309 (.str "joinload.errors" 187),k P "__qualname__" 311 (.str "Unmet" 310),k P "__firstlineno__" 313 (.int (23) 312),k P "__init__" 322 (.ref 110),k P "__static_attributes__" 325 (.ref 111)] 5
noncomputable def o100_3:=e1
noncomputable def o101_3:=nf #[(.int (25) 0),(.int (4) 0),(.ref 109)]
noncomputable def o102_3:=co "Unmet" "Unmet" 304 23 0 0 100 false 101 .none 307
noncomputable def o103_3:=fm 102 99 (.str "joinload.errors" 187)
noncomputable def o104_3:=e1
noncomputable def o105_3:=e2
noncomputable def o106_3:=tu #[(.str "self" 317),(.str "name" 318),(.str "piece" 319)]
noncomputable def o107_3:=e1
noncomputable def o108_3:=ft (C 6 0) "__init__" "Unmet.__init__"
noncomputable def o109_3:Obj:=⟨(.type "code"),none,(.fields #[(.str "__init__" 314),(.str "Unmet.__init__" 315),(.str "/claim/cut.py" 316),(.int (25) 0),(.int (3) 0),(.int (0) 0),(.int (0) 0),(.int (3) 0),(.ref 104),(.bool true),(.int (181) 0),(.ref 105),.none,(.ref 106),(.ref 107),(.ref 108),(.int (320) 0),(.int (25) 0),(.str "/claim/cut.py" 321)]),#[]⟩
noncomputable def o110_3:=fo (C 6 0) "__init__" "Unmet.__init__" "joinload.errors" 187 109
noncomputable def o111_3:=tu #[(.str "name" 323),(.str "piece" 324)]
noncomputable def o112_3:=di [k P "__module__" 309 (.str "joinload.errors" 187),k P "__firstlineno__" 313 (.int (23) 312),k P "__init__" 322 (.ref 110),k P "__static_attributes__" 325 (.ref 111),k P "__doc__" 326 .none] 2
noncomputable def o113_3:Obj:=⟨(.type "type"),none,(.cls ⟨"Unmet", [(.ref 24)],[(.ref 113),(.ref 24),(.type "ValueError"),(.type "Exception"),(.type "BaseException"),(.type "object")],112, "Unmet", true,[],[],false,none,false⟩),#[(some (.ref 97)),none,(some (.str "Unmet" 302)),(some (.str "Unmet" 310)),(some (.builtin "ValueError.__new__")),(some (.bool true))]⟩
noncomputable def o114_3:=su 113
noncomputable def o115_3:=bs 113
noncomputable def d2_0 (P:Params) (r:List (Nat×Obj)):List (Nat×Obj):=(3,o3_3 P)::(12,o12_3)::(24,o24_3)::(59,o59_3)::(60,o60_3)::(61,o61_3 P)::(62,o62_3)::(63,o63_3)::(64,o64_3)::(65,o65_3)::(66,o66_3)::(67,o67_3)::(68,o68_3)::(69,o69_3)::(70,o70_3)::(71,o71_3)::(72,o72_3)::(73,o73_3)::(74,o74_3 P)::(75,o75_3)::(76,o76_3)::(77,o77_3)::(78,o78_3)::(79,o79_3)::r
noncomputable def d2_1 (P:Params) (r:List (Nat×Obj)):List (Nat×Obj):=(80,o80_3 P)::(81,o81_3)::(82,o82_3)::(83,o83_3)::(84,o84_3)::(85,o85_3)::(86,o86_3)::(87,o87_3)::(88,o88_3)::(89,o89_3)::(90,o90_3)::(91,o91_3)::(92,o92_3)::(93,o93_3 P)::(94,o94_3)::(95,o95_3)::(96,o96_3)::(97,o97_3)::(98,o98_3)::(99,o99_3 P)::(100,o100_3)::(101,o101_3)::(102,o102_3)::(103,o103_3)::r
noncomputable def d2_2 (P:Params) (r:List (Nat×Obj)):List (Nat×Obj):=(104,o104_3)::(105,o105_3)::(106,o106_3)::(107,o107_3)::(108,o108_3)::(109,o109_3)::(110,o110_3)::(111,o111_3)::(112,o112_3 P)::(113,o113_3)::(114,o114_3)::(115,o115_3)::r
noncomputable def T2 (P:Params):BT:=mg 14 (T1 P) (d2_0 P (d2_1 P (d2_2 P ([]))))
noncomputable def S2T (w:World):OsState→SharedT:=sT (T2 w.params) 116 329
noncomputable def L1:List Stmt:=My.top 4::My.top 5::My.top 6::[]
def P1 (w:World):Prop:=sR w 742 S1T S2T L1 ⟨6,0,10,22⟩ ⟨23,0,28,26⟩
noncomputable def g3_4 (P:Params):List DictEntry:=g3_3 P++[k P "TooFar" 359 (.ref 132),k P "NoWhole" 384 (.ref 151),k P "NoBase" 409 (.ref 170)]
noncomputable def o3_4:Obj:=⟨(.type "dict"),none,.dict (g3_4 P).toArray 18,#[]⟩
noncomputable def o12_4:=nf #[(.int (2) 0),(.int (0) 0),(.ref 20),(.int (4) 0),(.int (0) 0),(.ref 33),(.int (6) 0),(.int (0) 0),(.ref 45),(.int (11) 0),(.int (0) 0),(.ref 64),(.int (18) 0),(.int (0) 0),(.ref 83),(.int (23) 0),(.int (0) 0),(.ref 102),(.int (29) 0),(.int (0) 0),(.ref 121),(.int (37) 0),(.int (0) 0),(.ref 140),(.int (42) 0),(.int (0) 0),(.ref 159)]
noncomputable def o24_4:Obj:=⟨(.type "type"),none,(.cls ⟨"JoinError", [(.type "ValueError")],[(.ref 24),(.type "ValueError"),(.type "Exception"),(.type "BaseException"),(.type "object")],23, "JoinError", true,[],[(.ref 37),(.ref 56),(.ref 75),(.ref 94),(.ref 113),(.ref 132),(.ref 151),(.ref 170)],false,none,false⟩),#[(some (.ref 15)),none,(some (.str "JoinError" 189)),(some (.str "JoinError" 197)),(some (.builtin "ValueError.__new__")),(some (.bool true))]⟩
noncomputable def o116_4:=tu #[(.ref 24)]
noncomputable def o117_4:=bp
noncomputable def o118_4:=di [k P "__module__" 336 (.str "joinload.errors" 187),k P "__qualname__" 338 (.str "TooFar" 337),k P "__firstlineno__" 340 (.int (29) 339),k P "__init__" 351 (.ref 129),k P "__static_attributes__" 356 (.ref 130)] 5
noncomputable def o119_4:=e1
noncomputable def o120_4:=nf #[(.int (31) 0),(.int (4) 0),(.ref 128)]
noncomputable def o121_4:=co "TooFar" "TooFar" 331 29 0 0 119 false 120 .none 334
noncomputable def o122_4:=fm 121 118 (.str "joinload.errors" 187)
noncomputable def o123_4:=e1
noncomputable def o124_4:=e2
noncomputable def o125_4:=tu #[(.str "self" 344),(.str "name" 345),(.str "piece" 346),(.str "stretch" 347),(.str "at" 348)]
noncomputable def o126_4:=e1
noncomputable def o127_4:=ft (C 7 0) "__init__" "TooFar.__init__"
noncomputable def o128_4:Obj:=⟨(.type "code"),none,(.fields #[(.str "__init__" 341),(.str "TooFar.__init__" 342),(.str "/claim/cut.py" 343),(.int (31) 0),(.int (5) 0),(.int (0) 0),(.int (0) 0),(.int (3) 0),(.ref 123),(.bool true),(.int (181) 0),(.ref 124),.none,(.ref 125),(.ref 126),(.ref 127),(.int (349) 0),(.int (31) 0),(.str "/claim/cut.py" 350)]),#[]⟩
noncomputable def o129_4:=fo (C 7 0) "__init__" "TooFar.__init__" "joinload.errors" 187 128
noncomputable def o130_4:=tu #[(.str "at" 352),(.str "name" 353),(.str "piece" 354),(.str "stretch" 355)]
noncomputable def o131_4:=di [k P "__module__" 336 (.str "joinload.errors" 187),k P "__firstlineno__" 340 (.int (29) 339),k P "__init__" 351 (.ref 129),k P "__static_attributes__" 356 (.ref 130),k P "__doc__" 357 .none] 2
noncomputable def o132_4:Obj:=⟨(.type "type"),none,(.cls ⟨"TooFar", [(.ref 24)],[(.ref 132),(.ref 24),(.type "ValueError"),(.type "Exception"),(.type "BaseException"),(.type "object")],131, "TooFar", true,[],[],false,none,false⟩),#[(some (.ref 116)),none,(some (.str "TooFar" 329)),(some (.str "TooFar" 337)),(some (.builtin "ValueError.__new__")),(some (.bool true))]⟩
noncomputable def o133_4:=su 132
noncomputable def o134_4:=bs 132
noncomputable def o135_4:=tu #[(.ref 24)]
noncomputable def o136_4:=bp
noncomputable def o137_4:=di [k P "__module__" 367 (.str "joinload.errors" 187),k P "__qualname__" 369 (.str "NoWhole" 368),k P "__firstlineno__" 371 (.int (37) 370),k P "__init__" 379 (.ref 148),k P "__static_attributes__" 381 (.ref 149)] 5
noncomputable def o138_4:=e1
noncomputable def o139_4:=nf #[(.int (39) 0),(.int (4) 0),(.ref 147)]
noncomputable def o140_4:=co "NoWhole" "NoWhole" 362 37 0 0 138 false 139 .none 365
noncomputable def o141_4:=fm 140 137 (.str "joinload.errors" 187)
noncomputable def o142_4:=e1
noncomputable def o143_4:=e2
noncomputable def o144_4:=tu #[(.str "self" 375),(.str "row" 376)]
noncomputable def o145_4:=e1
noncomputable def o146_4:=ft (C 8 0) "__init__" "NoWhole.__init__"
noncomputable def o147_4:Obj:=⟨(.type "code"),none,(.fields #[(.str "__init__" 372),(.str "NoWhole.__init__" 373),(.str "/claim/cut.py" 374),(.int (39) 0),(.int (2) 0),(.int (0) 0),(.int (0) 0),(.int (3) 0),(.ref 142),(.bool true),(.int (181) 0),(.ref 143),.none,(.ref 144),(.ref 145),(.ref 146),(.int (377) 0),(.int (39) 0),(.str "/claim/cut.py" 378)]),#[]⟩
noncomputable def o148_4:=fo (C 8 0) "__init__" "NoWhole.__init__" "joinload.errors" 187 147
noncomputable def o149_4:=tu #[(.str "row" 380)]
noncomputable def o150_4:=di [k P "__module__" 367 (.str "joinload.errors" 187),k P "__firstlineno__" 371 (.int (37) 370),k P "__init__" 379 (.ref 148),k P "__static_attributes__" 381 (.ref 149),k P "__doc__" 382 .none] 2
noncomputable def o151_4:Obj:=⟨(.type "type"),none,(.cls ⟨"NoWhole", [(.ref 24)],[(.ref 151),(.ref 24),(.type "ValueError"),(.type "Exception"),(.type "BaseException"),(.type "object")],150, "NoWhole", true,[],[],false,none,false⟩),#[(some (.ref 135)),none,(some (.str "NoWhole" 360)),(some (.str "NoWhole" 368)),(some (.builtin "ValueError.__new__")),(some (.bool true))]⟩
noncomputable def o152_4:=su 151
noncomputable def o153_4:=bs 151
noncomputable def o154_4:=tu #[(.ref 24)]
noncomputable def o155_4:=bp
noncomputable def o156_4:=di [k P "__module__" 392 (.str "joinload.errors" 187),k P "__qualname__" 394 (.str "NoBase" 393),k P "__firstlineno__" 396 (.int (42) 395),k P "__init__" 404 (.ref 167),k P "__static_attributes__" 406 (.ref 168)] 5
noncomputable def o157_4:=e1
noncomputable def o158_4:=nf #[(.int (44) 0),(.int (4) 0),(.ref 166)]
noncomputable def o159_4:=co "NoBase" "NoBase" 387 42 0 0 157 false 158 .none 390
noncomputable def o160_4:=fm 159 156 (.str "joinload.errors" 187)
noncomputable def o161_4:=e1
noncomputable def o162_4:=e2
noncomputable def o163_4:=tu #[(.str "self" 400),(.str "base" 401)]
noncomputable def o164_4:=e1
noncomputable def o165_4:=ft (C 9 0) "__init__" "NoBase.__init__"
noncomputable def o166_4:Obj:=⟨(.type "code"),none,(.fields #[(.str "__init__" 397),(.str "NoBase.__init__" 398),(.str "/claim/cut.py" 399),(.int (44) 0),(.int (2) 0),(.int (0) 0),(.int (0) 0),(.int (3) 0),(.ref 161),(.bool true),(.int (181) 0),(.ref 162),.none,(.ref 163),(.ref 164),(.ref 165),(.int (402) 0),(.int (44) 0),(.str "/claim/cut.py" 403)]),#[]⟩
noncomputable def o167_4:=fo (C 9 0) "__init__" "NoBase.__init__" "joinload.errors" 187 166
noncomputable def o168_4:=tu #[(.str "base" 405)]
noncomputable def o169_4:=di [k P "__module__" 392 (.str "joinload.errors" 187),k P "__firstlineno__" 396 (.int (42) 395),k P "__init__" 404 (.ref 167),k P "__static_attributes__" 406 (.ref 168),k P "__doc__" 407 .none] 2
noncomputable def o170_4:Obj:=⟨(.type "type"),none,(.cls ⟨"NoBase", [(.ref 24)],[(.ref 170),(.ref 24),(.type "ValueError"),(.type "Exception"),(.type "BaseException"),(.type "object")],169, "NoBase", true,[],[],false,none,false⟩),#[(some (.ref 154)),none,(some (.str "NoBase" 385)),(some (.str "NoBase" 393)),(some (.builtin "ValueError.__new__")),(some (.bool true))]⟩
noncomputable def o171_4:=su 170
noncomputable def o172_4:=bs 170
noncomputable def d3_0 (P:Params) (r:List (Nat×Obj)):List (Nat×Obj):=(3,o3_4 P)::(12,o12_4)::(24,o24_4)::(116,o116_4)::(117,o117_4)::(118,o118_4 P)::(119,o119_4)::(120,o120_4)::(121,o121_4)::(122,o122_4)::(123,o123_4)::(124,o124_4)::(125,o125_4)::(126,o126_4)::(127,o127_4)::(128,o128_4)::(129,o129_4)::(130,o130_4)::(131,o131_4 P)::(132,o132_4)::(133,o133_4)::(134,o134_4)::(135,o135_4)::(136,o136_4)::r
noncomputable def d3_1 (P:Params) (r:List (Nat×Obj)):List (Nat×Obj):=(137,o137_4 P)::(138,o138_4)::(139,o139_4)::(140,o140_4)::(141,o141_4)::(142,o142_4)::(143,o143_4)::(144,o144_4)::(145,o145_4)::(146,o146_4)::(147,o147_4)::(148,o148_4)::(149,o149_4)::(150,o150_4 P)::(151,o151_4)::(152,o152_4)::(153,o153_4)::(154,o154_4)::(155,o155_4)::(156,o156_4 P)::(157,o157_4)::(158,o158_4)::(159,o159_4)::(160,o160_4)::r
noncomputable def d3_2 (P:Params) (r:List (Nat×Obj)):List (Nat×Obj):=(161,o161_4)::(162,o162_4)::(163,o163_4)::(164,o164_4)::(165,o165_4)::(166,o166_4)::(167,o167_4)::(168,o168_4)::(169,o169_4 P)::(170,o170_4)::(171,o171_4)::(172,o172_4)::r
noncomputable def T3 (P:Params):BT:=mg 14 (T2 P) (d3_0 P (d3_1 P (d3_2 P ([]))))
noncomputable def S3T (w:World):OsState→SharedT:=sT (T3 w.params) 173 410
noncomputable def L2:List Stmt:=My.top 7::My.top 8::My.top 9::[]
def P2 (w:World):Prop:=sR w 742 S2T S3T L2 ⟨23,0,28,26⟩ ⟨42,0,46,24⟩
noncomputable def g3_5 (P:Params):List DictEntry:=sv (g3_4 P) 0 (.str "law_joinload_k17_told_twice" 483)++[k P "Lost" 434 (.ref 189),k P "NoSense" 450 (.ref 201),k P "names_of" 463 (.ref 210),k P "refuse_twice" 469 (.ref 215),k P "places_told" 482 (.ref 222),k P "_law_cell_at" 492 (.ref 229),k P "_law_name_by" 507 (.ref 236),k P "_law_word_row" 520 (.ref 243),k P "_law_told_by" 526 (.ref 248),k P "_law_drawn" 542 (.ref 255),k P "_law_copy" 548 (.ref 260),k P "_law_texts" 557 (.ref 267),k P "_law_due" 570 (.ref 274),k P "_law_weaker" 587 (.ref 281),k P "_law_alone" 595 (.ref 288)]
noncomputable def o3_5:Obj:=⟨(.type "dict"),none,.dict (g3_5 P).toArray 33,#[]⟩
noncomputable def o12_5:=nf #[(.int (2) 0),(.int (0) 0),(.ref 20),(.int (4) 0),(.int (0) 0),(.ref 33),(.int (6) 0),(.int (0) 0),(.ref 45),(.int (11) 0),(.int (0) 0),(.ref 64),(.int (18) 0),(.int (0) 0),(.ref 83),(.int (23) 0),(.int (0) 0),(.ref 102),(.int (29) 0),(.int (0) 0),(.ref 121),(.int (37) 0),(.int (0) 0),(.ref 140),(.int (42) 0),(.int (0) 0),(.ref 159),(.int (47) 0),(.int (0) 0),(.ref 178),(.int (52) 0),(.int (0) 0),(.ref 197),(.int (55) 0),(.int (0) 0),(.ref 209),(.int (63) 0),(.int (0) 0),(.ref 214),(.int (72) 0),(.int (0) 0),(.ref 221),(.int (79) 0),(.int (0) 0),(.ref 228),(.int (83) 0),(.int (0) 0),(.ref 235),(.int (96) 0),(.int (0) 0),(.ref 242),(.int (107) 0),(.int (0) 0),(.ref 247),(.int (117) 0),(.int (0) 0),(.ref 254),(.int (135) 0),(.int (0) 0),(.ref 259),(.int (138) 0),(.int (0) 0),(.ref 266),(.int (145) 0),(.int (0) 0),(.ref 273),(.int (155) 0),(.int (0) 0),(.ref 280),(.int (168) 0),(.int (0) 0),(.ref 287)]
noncomputable def o24_5:Obj:=⟨(.type "type"),none,(.cls ⟨"JoinError", [(.type "ValueError")],[(.ref 24),(.type "ValueError"),(.type "Exception"),(.type "BaseException"),(.type "object")],23, "JoinError", true,[],[(.ref 37),(.ref 56),(.ref 75),(.ref 94),(.ref 113),(.ref 132),(.ref 151),(.ref 170),(.ref 189),(.ref 201)],false,none,false⟩),#[(some (.ref 15)),none,(some (.str "JoinError" 189)),(some (.str "JoinError" 197)),(some (.builtin "ValueError.__new__")),(some (.bool true))]⟩
noncomputable def o173_5:=tu #[(.ref 24)]
noncomputable def o174_5:=bp
noncomputable def o175_5:=di [k P "__module__" 417 (.str "joinload.errors" 187),k P "__qualname__" 419 (.str "Lost" 418),k P "__firstlineno__" 421 (.int (47) 420),k P "__init__" 429 (.ref 186),k P "__static_attributes__" 431 (.ref 187)] 5
noncomputable def o176_5:=e1
noncomputable def o177_5:=nf #[(.int (49) 0),(.int (4) 0),(.ref 185)]
noncomputable def o178_5:=co "Lost" "Lost" 412 47 0 0 176 false 177 .none 415
noncomputable def o179_5:=fm 178 175 (.str "joinload.errors" 187)
noncomputable def o180_5:=e1
noncomputable def o181_5:=e2
noncomputable def o182_5:=tu #[(.str "self" 425),(.str "place" 426)]
noncomputable def o183_5:=e1
noncomputable def o184_5:=ft (C 10 0) "__init__" "Lost.__init__"
noncomputable def o185_5:Obj:=⟨(.type "code"),none,(.fields #[(.str "__init__" 422),(.str "Lost.__init__" 423),(.str "/claim/cut.py" 424),(.int (49) 0),(.int (2) 0),(.int (0) 0),(.int (0) 0),(.int (3) 0),(.ref 180),(.bool true),(.int (181) 0),(.ref 181),.none,(.ref 182),(.ref 183),(.ref 184),(.int (427) 0),(.int (49) 0),(.str "/claim/cut.py" 428)]),#[]⟩
noncomputable def o186_5:=fo (C 10 0) "__init__" "Lost.__init__" "joinload.errors" 187 185
noncomputable def o187_5:=tu #[(.str "place" 430)]
noncomputable def o188_5:=di [k P "__module__" 417 (.str "joinload.errors" 187),k P "__firstlineno__" 421 (.int (47) 420),k P "__init__" 429 (.ref 186),k P "__static_attributes__" 431 (.ref 187),k P "__doc__" 432 .none] 2
noncomputable def o189_5:Obj:=⟨(.type "type"),none,(.cls ⟨"Lost", [(.ref 24)],[(.ref 189),(.ref 24),(.type "ValueError"),(.type "Exception"),(.type "BaseException"),(.type "object")],188, "Lost", true,[],[],false,none,false⟩),#[(some (.ref 173)),none,(some (.str "Lost" 410)),(some (.str "Lost" 418)),(some (.builtin "ValueError.__new__")),(some (.bool true))]⟩
noncomputable def o190_5:=su 189
noncomputable def o191_5:=bs 189
noncomputable def o192_5:=tu #[(.ref 24)]
noncomputable def o193_5:=bp
noncomputable def o194_5:=di [k P "__module__" 442 (.str "joinload.errors" 187),k P "__qualname__" 444 (.str "NoSense" 443),k P "__firstlineno__" 446 (.int (52) 445),k P "__static_attributes__" 447 (.ref 199)] 4
noncomputable def o195_5:=e1
noncomputable def o196_5:=e2
noncomputable def o197_5:=co "NoSense" "NoSense" 437 52 0 0 195 false 196 .none 440
noncomputable def o198_5:=fm 197 194 (.str "joinload.errors" 187)
noncomputable def o199_5:=e1
noncomputable def o200_5:=di [k P "__module__" 442 (.str "joinload.errors" 187),k P "__firstlineno__" 446 (.int (52) 445),k P "__static_attributes__" 447 (.ref 199),k P "__doc__" 448 .none] 2
noncomputable def o201_5:Obj:=⟨(.type "type"),none,(.cls ⟨"NoSense", [(.ref 24)],[(.ref 201),(.ref 24),(.type "ValueError"),(.type "Exception"),(.type "BaseException"),(.type "object")],200, "NoSense", true,[],[],false,none,false⟩),#[(some (.ref 192)),none,(some (.str "NoSense" 435)),(some (.str "NoSense" 443)),(some (.builtin "ValueError.__new__")),(some (.bool true))]⟩
noncomputable def o202_5:=su 201
noncomputable def o203_5:=bs 201
noncomputable def o204_5:=e1
noncomputable def o205_5:=e2
noncomputable def o206_5:=tu #[(.str "pieces" 456),(.str "ordered" 457),(.str "names" 458),(.str "sort" 459),(.str "piece" 460)]
noncomputable def o207_5:=e1
noncomputable def o208_5:=ft (T 13) "names_of" "names_of"
noncomputable def o209_5:Obj:=⟨(.type "code"),none,(.fields #[(.str "names_of" 453),(.str "names_of" 454),(.str "/claim/cut.py" 455),(.int (55) 0),(.int (1) 0),(.int (0) 0),(.int (0) 0),(.int (3) 0),(.ref 204),(.bool true),(.int (181) 0),(.ref 205),.none,(.ref 206),(.ref 207),(.ref 208),(.int (461) 0),(.int (55) 0),(.str "/claim/cut.py" 462)]),#[]⟩
noncomputable def o210_5:=fo (T 13) "names_of" "names_of" "joinload.names" 451 209
noncomputable def o211_5:=e1
noncomputable def o212_5:=e2
noncomputable def o213_5:=ft (T 14) "refuse_twice" "refuse_twice"
noncomputable def o214_5:=co "refuse_twice" "refuse_twice" 464 63 1 3 211 true 212 (.ref 213) 467
noncomputable def o215_5:=fo (T 14) "refuse_twice" "refuse_twice" "joinload.names" 451 214
noncomputable def o216_5:=e1
noncomputable def o217_5:=e2
noncomputable def o218_5:=tu #[(.str "piece" 473),(.str "told_by" 474),(.str "places" 475),(.str "name" 476),(.str "sort" 477),(.str "stretch" 478),(.str "offset" 479)]
noncomputable def o219_5:=e1
noncomputable def o220_5:=ft (T 15) "places_told" "places_told"
noncomputable def o221_5:Obj:=⟨(.type "code"),none,(.fields #[(.str "places_told" 470),(.str "places_told" 471),(.str "/claim/cut.py" 472),(.int (72) 0),(.int (2) 0),(.int (0) 0),(.int (0) 0),(.int (3) 0),(.ref 216),(.bool true),(.int (181) 0),(.ref 217),.none,(.ref 218),(.ref 219),(.ref 220),(.int (480) 0),(.int (72) 0),(.str "/claim/cut.py" 481)]),#[]⟩
noncomputable def o222_5:=fo (T 15) "places_told" "places_told" "joinload.names" 451 221
noncomputable def o223_5:=e1
noncomputable def o224_5:=e2
noncomputable def o225_5:=tu #[(.str "_law_script" 488),(.str "_law_k" 489)]
noncomputable def o226_5:=e1
noncomputable def o227_5:=ft (T 17) "_law_cell_at" "_law_cell_at"
noncomputable def o228_5:Obj:=⟨(.type "code"),none,(.fields #[(.str "_law_cell_at" 485),(.str "_law_cell_at" 486),(.str "/claim/cut.py" 487),(.int (79) 0),(.int (2) 0),(.int (0) 0),(.int (0) 0),(.int (3) 0),(.ref 223),(.bool true),(.int (181) 0),(.ref 224),.none,(.ref 225),(.ref 226),(.ref 227),(.int (490) 0),(.int (79) 0),(.str "/claim/cut.py" 491)]),#[]⟩
noncomputable def o229_5:=fo (T 17) "_law_cell_at" "_law_cell_at" "law_joinload_k17_told_twice" 483 228
noncomputable def o230_5:=e1
noncomputable def o231_5:=e2
noncomputable def o232_5:=tu #[(.str "_law_cell" 496),(.str "_law_k" 497),(.str "_law_signs" 498),(.str "_law_size" 499),(.str "_law_at" 500),(.str "_law_name" 501),(.str "_law_j" 502),(.str "_law_many" 503),(.str "_law_place" 504)]
noncomputable def o233_5:=e1
noncomputable def o234_5:=ft (T 18) "_law_name_by" "_law_name_by"
noncomputable def o235_5:Obj:=⟨(.type "code"),none,(.fields #[(.str "_law_name_by" 493),(.str "_law_name_by" 494),(.str "/claim/cut.py" 495),(.int (83) 0),(.int (2) 0),(.int (0) 0),(.int (0) 0),(.int (3) 0),(.ref 230),(.bool true),(.int (181) 0),(.ref 231),.none,(.ref 232),(.ref 233),(.ref 234),(.int (505) 0),(.int (83) 0),(.str "/claim/cut.py" 506)]),#[]⟩
noncomputable def o236_5:=fo (T 18) "_law_name_by" "_law_name_by" "law_joinload_k17_told_twice" 483 235
noncomputable def o237_5:=e1
noncomputable def o238_5:=e2
noncomputable def o239_5:=tu #[(.str "_law_cell" 511),(.str "_law_names_by" 512),(.str "_law_what" 513),(.str "_law_rest" 514),(.str "_law_soft" 515),(.str "_law_add" 516),(.str "_law_rule" 517)]
noncomputable def o240_5:=e1
noncomputable def o241_5:=ft (T 19) "_law_word_row" "_law_word_row"
noncomputable def o242_5:Obj:=⟨(.type "code"),none,(.fields #[(.str "_law_word_row" 508),(.str "_law_word_row" 509),(.str "/claim/cut.py" 510),(.int (96) 0),(.int (2) 0),(.int (0) 0),(.int (0) 0),(.int (3) 0),(.ref 237),(.bool true),(.int (181) 0),(.ref 238),.none,(.ref 239),(.ref 240),(.ref 241),(.int (518) 0),(.int (96) 0),(.str "/claim/cut.py" 519)]),#[]⟩
noncomputable def o243_5:=fo (T 19) "_law_word_row" "_law_word_row" "law_joinload_k17_told_twice" 483 242
noncomputable def o244_5:=e1
noncomputable def o245_5:=e2
noncomputable def o246_5:=ft (T 20) "_law_told_by" "_law_told_by"
noncomputable def o247_5:=co "_law_told_by" "_law_told_by" 521 107 4 3 244 true 245 (.ref 246) 524
noncomputable def o248_5:=fo (T 20) "_law_told_by" "_law_told_by" "law_joinload_k17_told_twice" 483 247
noncomputable def o249_5:=e1
noncomputable def o250_5:=e2
noncomputable def o251_5:=tu #[(.str "_law_cells" 530),(.str "_law_names_by" 531),(.str "_law_titles_by" 532),(.str "_law_strict" 533),(.str "_law_pieces" 534),(.str "_law_cell" 535),(.str "_law_what" 536),(.str "_law_step" 537),(.str "_law_stretch" 538),(.str "_law_more" 539)]
noncomputable def o252_5:=e1
noncomputable def o253_5:=ft (T 21) "_law_drawn" "_law_drawn"
noncomputable def o254_5:Obj:=⟨(.type "code"),none,(.fields #[(.str "_law_drawn" 527),(.str "_law_drawn" 528),(.str "/claim/cut.py" 529),(.int (117) 0),(.int (4) 0),(.int (0) 0),(.int (0) 0),(.int (3) 0),(.ref 249),(.bool true),(.int (181) 0),(.ref 250),.none,(.ref 251),(.ref 252),(.ref 253),(.int (540) 0),(.int (117) 0),(.str "/claim/cut.py" 541)]),#[]⟩
noncomputable def o255_5:=fo (T 21) "_law_drawn" "_law_drawn" "law_joinload_k17_told_twice" 483 254
noncomputable def o256_5:=e1
noncomputable def o257_5:=e2
noncomputable def o258_5:=ft (T 22) "_law_copy" "_law_copy"
noncomputable def o259_5:=co "_law_copy" "_law_copy" 543 135 1 3 256 true 257 (.ref 258) 546
noncomputable def o260_5:=fo (T 22) "_law_copy" "_law_copy" "law_joinload_k17_told_twice" 483 259
noncomputable def o261_5:=e1
noncomputable def o262_5:=e2
noncomputable def o263_5:=tu #[(.str "_law_found" 552),(.str "_law_due_here" 553),(.str "_law_k" 554)]
noncomputable def o264_5:=e1
noncomputable def o265_5:=ft (T 23) "_law_texts" "_law_texts"
noncomputable def o266_5:Obj:=⟨(.type "code"),none,(.fields #[(.str "_law_texts" 549),(.str "_law_texts" 550),(.str "/claim/cut.py" 551),(.int (138) 0),(.int (2) 0),(.int (0) 0),(.int (0) 0),(.int (3) 0),(.ref 261),(.bool true),(.int (181) 0),(.ref 262),.none,(.ref 263),(.ref 264),(.ref 265),(.int (555) 0),(.int (138) 0),(.str "/claim/cut.py" 556)]),#[]⟩
noncomputable def o267_5:=fo (T 23) "_law_texts" "_law_texts" "law_joinload_k17_told_twice" 483 266
noncomputable def o268_5:=e1
noncomputable def o269_5:=e2
noncomputable def o270_5:=tu #[(.str "_law_pieces" 561),(.str "_law_strong" 562),(.str "_law_title" 563),(.str "_law_stretches" 564),(.str "_law_told" 565),(.str "_law_row" 566),(.str "_law_name" 567)]
noncomputable def o271_5:=e1
noncomputable def o272_5:=ft (T 24) "_law_due" "_law_due"
noncomputable def o273_5:Obj:=⟨(.type "code"),none,(.fields #[(.str "_law_due" 558),(.str "_law_due" 559),(.str "/claim/cut.py" 560),(.int (145) 0),(.int (1) 0),(.int (0) 0),(.int (0) 0),(.int (3) 0),(.ref 268),(.bool true),(.int (181) 0),(.ref 269),.none,(.ref 270),(.ref 271),(.ref 272),(.int (568) 0),(.int (145) 0),(.str "/claim/cut.py" 569)]),#[]⟩
noncomputable def o274_5:=fo (T 24) "_law_due" "_law_due" "law_joinload_k17_told_twice" 483 273
noncomputable def o275_5:=e1
noncomputable def o276_5:=e2
noncomputable def o277_5:=tu #[(.str "_law_pieces" 574),(.str "_law_there" 575),(.str "_law_some" 576),(.str "_law_title" 577),(.str "_law_stretches" 578),(.str "_law_told" 579),(.str "_law_rows" 580),(.str "_law_name" 581),(.str "_law_sort" 582),(.str "_law_stretch" 583),(.str "_law_offset" 584)]
noncomputable def o278_5:=e1
noncomputable def o279_5:=ft (T 25) "_law_weaker" "_law_weaker"
noncomputable def o280_5:Obj:=⟨(.type "code"),none,(.fields #[(.str "_law_weaker" 571),(.str "_law_weaker" 572),(.str "/claim/cut.py" 573),(.int (155) 0),(.int (1) 0),(.int (0) 0),(.int (0) 0),(.int (3) 0),(.ref 275),(.bool true),(.int (181) 0),(.ref 276),.none,(.ref 277),(.ref 278),(.ref 279),(.int (585) 0),(.int (155) 0),(.str "/claim/cut.py" 586)]),#[]⟩
noncomputable def o281_5:=fo (T 25) "_law_weaker" "_law_weaker" "law_joinload_k17_told_twice" 483 280
noncomputable def o282_5:=e1
noncomputable def o283_5:=e2
noncomputable def o284_5:=tu #[(.str "_law_kept" 591),(.str "_law_some" 592)]
noncomputable def o285_5:=e1
noncomputable def o286_5:=ft (T 26) "_law_alone" "_law_alone"
noncomputable def o287_5:Obj:=⟨(.type "code"),none,(.fields #[(.str "_law_alone" 588),(.str "_law_alone" 589),(.str "/claim/cut.py" 590),(.int (168) 0),(.int (1) 0),(.int (0) 0),(.int (0) 0),(.int (3) 0),(.ref 282),(.bool true),(.int (181) 0),(.ref 283),.none,(.ref 284),(.ref 285),(.ref 286),(.int (593) 0),(.int (168) 0),(.str "/claim/cut.py" 594)]),#[]⟩
noncomputable def o288_5:=fo (T 26) "_law_alone" "_law_alone" "law_joinload_k17_told_twice" 483 287
noncomputable def d4_0 (P:Params) (r:List (Nat×Obj)):List (Nat×Obj):=(3,o3_5 P)::(12,o12_5)::(24,o24_5)::(173,o173_5)::(174,o174_5)::(175,o175_5 P)::(176,o176_5)::(177,o177_5)::(178,o178_5)::(179,o179_5)::(180,o180_5)::(181,o181_5)::(182,o182_5)::(183,o183_5)::(184,o184_5)::(185,o185_5)::(186,o186_5)::(187,o187_5)::(188,o188_5 P)::(189,o189_5)::(190,o190_5)::(191,o191_5)::(192,o192_5)::(193,o193_5)::r
noncomputable def d4_1 (P:Params) (r:List (Nat×Obj)):List (Nat×Obj):=(194,o194_5 P)::(195,o195_5)::(196,o196_5)::(197,o197_5)::(198,o198_5)::(199,o199_5)::(200,o200_5 P)::(201,o201_5)::(202,o202_5)::(203,o203_5)::(204,o204_5)::(205,o205_5)::(206,o206_5)::(207,o207_5)::(208,o208_5)::(209,o209_5)::(210,o210_5)::(211,o211_5)::(212,o212_5)::(213,o213_5)::(214,o214_5)::(215,o215_5)::(216,o216_5)::(217,o217_5)::r
noncomputable def d4_2 (P:Params) (r:List (Nat×Obj)):List (Nat×Obj):=(218,o218_5)::(219,o219_5)::(220,o220_5)::(221,o221_5)::(222,o222_5)::(223,o223_5)::(224,o224_5)::(225,o225_5)::(226,o226_5)::(227,o227_5)::(228,o228_5)::(229,o229_5)::(230,o230_5)::(231,o231_5)::(232,o232_5)::(233,o233_5)::(234,o234_5)::(235,o235_5)::(236,o236_5)::(237,o237_5)::(238,o238_5)::(239,o239_5)::(240,o240_5)::(241,o241_5)::r
noncomputable def d4_3 (P:Params) (r:List (Nat×Obj)):List (Nat×Obj):=(242,o242_5)::(243,o243_5)::(244,o244_5)::(245,o245_5)::(246,o246_5)::(247,o247_5)::(248,o248_5)::(249,o249_5)::(250,o250_5)::(251,o251_5)::(252,o252_5)::(253,o253_5)::(254,o254_5)::(255,o255_5)::(256,o256_5)::(257,o257_5)::(258,o258_5)::(259,o259_5)::(260,o260_5)::(261,o261_5)::(262,o262_5)::(263,o263_5)::(264,o264_5)::(265,o265_5)::r
noncomputable def d4_4 (P:Params) (r:List (Nat×Obj)):List (Nat×Obj):=(266,o266_5)::(267,o267_5)::(268,o268_5)::(269,o269_5)::(270,o270_5)::(271,o271_5)::(272,o272_5)::(273,o273_5)::(274,o274_5)::(275,o275_5)::(276,o276_5)::(277,o277_5)::(278,o278_5)::(279,o279_5)::(280,o280_5)::(281,o281_5)::(282,o282_5)::(283,o283_5)::(284,o284_5)::(285,o285_5)::(286,o286_5)::(287,o287_5)::(288,o288_5)::r
noncomputable def T4 (P:Params):BT:=mg 14 (T3 P) (d4_0 P (d4_1 P (d4_2 P (d4_3 P (d4_4 P ([]))))))
noncomputable def S4T (w:World):OsState→SharedT:=sT (T4 w.params) 289 596
noncomputable def L3:List Stmt:=My.top 10::My.top 11::My.top 12::My.top 13::My.top 14::My.top 15::My.top 16::My.top 17::My.top 18::My.top 19::My.top 20::My.top 21::My.top 22::My.top 23::My.top 24::My.top 25::My.top 26::[]
def P3 (w:World):Prop:=sR w 898 S3T S4T L3 ⟨42,0,46,24⟩ ⟨168,0,172,112⟩
noncomputable def g3_6 (P:Params):List DictEntry:=g3_5 P++[k P "_law_answer" 605 (.ref 295),k P "_law_told_all" 618 (.ref 302),k P "_law_holds" 624 (.ref 307),k P "law" 636 (.ref 314)]
noncomputable def o3_6:Obj:=⟨(.type "dict"),none,.dict (g3_6 P).toArray 37,#[]⟩
noncomputable def o12_6:=nf #[(.int (2) 0),(.int (0) 0),(.ref 20),(.int (4) 0),(.int (0) 0),(.ref 33),(.int (6) 0),(.int (0) 0),(.ref 45),(.int (11) 0),(.int (0) 0),(.ref 64),(.int (18) 0),(.int (0) 0),(.ref 83),(.int (23) 0),(.int (0) 0),(.ref 102),(.int (29) 0),(.int (0) 0),(.ref 121),(.int (37) 0),(.int (0) 0),(.ref 140),(.int (42) 0),(.int (0) 0),(.ref 159),(.int (47) 0),(.int (0) 0),(.ref 178),(.int (52) 0),(.int (0) 0),(.ref 197),(.int (55) 0),(.int (0) 0),(.ref 209),(.int (63) 0),(.int (0) 0),(.ref 214),(.int (72) 0),(.int (0) 0),(.ref 221),(.int (79) 0),(.int (0) 0),(.ref 228),(.int (83) 0),(.int (0) 0),(.ref 235),(.int (96) 0),(.int (0) 0),(.ref 242),(.int (107) 0),(.int (0) 0),(.ref 247),(.int (117) 0),(.int (0) 0),(.ref 254),(.int (135) 0),(.int (0) 0),(.ref 259),(.int (138) 0),(.int (0) 0),(.ref 266),(.int (145) 0),(.int (0) 0),(.ref 273),(.int (155) 0),(.int (0) 0),(.ref 280),(.int (168) 0),(.int (0) 0),(.ref 287),(.int (173) 0),(.int (0) 0),(.ref 294),(.int (185) 0),(.int (0) 0),(.ref 301),(.int (192) 0),(.int (0) 0),(.ref 306),(.int (199) 0),(.int (0) 0),(.ref 313)]
noncomputable def o289_6:=e1
noncomputable def o290_6:=e2
noncomputable def o291_6:=tu #[(.str "_law_pieces" 599),(.str "_law_kept" 600),(.str "_law_answer_here" 601),(.str "refusal" 602)]
noncomputable def o292_6:=e1
noncomputable def o293_6:=ft (T 27) "_law_answer" "_law_answer"
noncomputable def o294_6:Obj:=⟨(.type "code"),none,(.fields #[(.str "_law_answer" 596),(.str "_law_answer" 597),(.str "/claim/cut.py" 598),(.int (173) 0),(.int (1) 0),(.int (0) 0),(.int (0) 0),(.int (3) 0),(.ref 289),(.bool true),(.int (181) 0),(.ref 290),.none,(.ref 291),(.ref 292),(.ref 293),(.int (603) 0),(.int (173) 0),(.str "/claim/cut.py" 604)]),#[]⟩
noncomputable def o295_6:=fo (T 27) "_law_answer" "_law_answer" "law_joinload_k17_told_twice" 483 294
noncomputable def o296_6:=e1
noncomputable def o297_6:=e2
noncomputable def o298_6:=tu #[(.str "_law_answer_here" 609),(.str "_law_pieces" 610),(.str "_law_some" 611),(.str "_law_title" 612),(.str "_law_stretches" 613),(.str "_law_told" 614),(.str "_law_row" 615)]
noncomputable def o299_6:=e1
noncomputable def o300_6:=ft (T 28) "_law_told_all" "_law_told_all"
noncomputable def o301_6:Obj:=⟨(.type "code"),none,(.fields #[(.str "_law_told_all" 606),(.str "_law_told_all" 607),(.str "/claim/cut.py" 608),(.int (185) 0),(.int (2) 0),(.int (0) 0),(.int (0) 0),(.int (3) 0),(.ref 296),(.bool true),(.int (181) 0),(.ref 297),.none,(.ref 298),(.ref 299),(.ref 300),(.int (616) 0),(.int (185) 0),(.str "/claim/cut.py" 617)]),#[]⟩
noncomputable def o302_6:=fo (T 28) "_law_told_all" "_law_told_all" "law_joinload_k17_told_twice" 483 301
noncomputable def o303_6:=e1
noncomputable def o304_6:=e2
noncomputable def o305_6:=ft (T 29) "_law_holds" "_law_holds"
noncomputable def o306_6:=co "_law_holds" "_law_holds" 619 192 1 3 303 true 304 (.ref 305) 622
noncomputable def o307_6:=fo (T 29) "_law_holds" "_law_holds" "law_joinload_k17_told_twice" 483 306
noncomputable def o308_6:=e1
noncomputable def o309_6:=e2
noncomputable def o310_6:=tu #[(.str "_law_script" 628),(.str "_law_names_by" 629),(.str "_law_titles_by" 630),(.str "_law_pieces" 631),(.str "_law_more" 632),(.str "_law_name" 633)]
noncomputable def o311_6:=e1
noncomputable def o312_6:=ft (T 30) "law" "law"
noncomputable def o313_6:Obj:=⟨(.type "code"),none,(.fields #[(.str "law" 625),(.str "law" 626),(.str "/claim/cut.py" 627),(.int (199) 0),(.int (1) 0),(.int (0) 0),(.int (0) 0),(.int (3) 0),(.ref 308),(.bool true),(.int (181) 0),(.ref 309),.none,(.ref 310),(.ref 311),(.ref 312),(.int (634) 0),(.int (199) 0),(.str "/claim/cut.py" 635)]),#[]⟩
noncomputable def o314_6:=fo (T 30) "law" "law" "law_joinload_k17_told_twice" 483 313
noncomputable def d5_0 (P:Params) (r:List (Nat×Obj)):List (Nat×Obj):=(3,o3_6 P)::(12,o12_6)::(289,o289_6)::(290,o290_6)::(291,o291_6)::(292,o292_6)::(293,o293_6)::(294,o294_6)::(295,o295_6)::(296,o296_6)::(297,o297_6)::(298,o298_6)::(299,o299_6)::(300,o300_6)::(301,o301_6)::(302,o302_6)::(303,o303_6)::(304,o304_6)::(305,o305_6)::(306,o306_6)::(307,o307_6)::(308,o308_6)::(309,o309_6)::(310,o310_6)::r
noncomputable def d5_1 (P:Params) (r:List (Nat×Obj)):List (Nat×Obj):=(311,o311_6)::(312,o312_6)::(313,o313_6)::(314,o314_6)::r
noncomputable def T5 (P:Params):BT:=mg 14 (T4 P) (d5_0 P (d5_1 P ([])))
noncomputable def S5T (w:World):OsState→SharedT:=sT (T5 w.params) 315 637
noncomputable def L4:List Stmt:=My.top 27::My.top 28::My.top 29::My.top 30::[]
def P4 (w:World):Prop:=sR w 128 S4T S5T L4 ⟨168,0,172,112⟩ ⟨199,0,212,34⟩
noncomputable def h_0 (P:Params) (r:List Obj):List Obj:=boot_o_0 P::boot_o_1 P::boot_o_2 P::o3_6 P::boot_o_4 P::boot_o_5 P::boot_o_6 P::boot_o_7 P::boot_o_8 P::boot_o_9 P::boot_o_10 P::o11_0::o12_6::o13_0::o14_0::o15_2::o16_2::o17_2 P::o18_2::o19_2::o20_2::o21_2::o22_2::o23_2 P::r
noncomputable def h_1 (P:Params) (r:List Obj):List Obj:=o24_5::o25_2::o26_2::o27_2::o28_2::o29_2::o30_2 P::o31_2::o32_2::o33_2::o34_2::o35_2::o36_2 P::o37_2::o38_2::o39_2::o40_2::o41_2::o42_2 P::o43_2::o44_2::o45_2::o46_2::o47_2::r
noncomputable def h_2 (P:Params) (r:List Obj):List Obj:=o48_2::o49_2::o50_2::o51_2::o52_2::o53_2::o54_2::o55_2 P::o56_2::o57_2::o58_2::o59_3::o60_3::o61_3 P::o62_3::o63_3::o64_3::o65_3::o66_3::o67_3::o68_3::o69_3::o70_3::o71_3::r
noncomputable def h_3 (P:Params) (r:List Obj):List Obj:=o72_3::o73_3::o74_3 P::o75_3::o76_3::o77_3::o78_3::o79_3::o80_3 P::o81_3::o82_3::o83_3::o84_3::o85_3::o86_3::o87_3::o88_3::o89_3::o90_3::o91_3::o92_3::o93_3 P::o94_3::o95_3::r
noncomputable def h_4 (P:Params) (r:List Obj):List Obj:=o96_3::o97_3::o98_3::o99_3 P::o100_3::o101_3::o102_3::o103_3::o104_3::o105_3::o106_3::o107_3::o108_3::o109_3::o110_3::o111_3::o112_3 P::o113_3::o114_3::o115_3::o116_4::o117_4::o118_4 P::o119_4::r
noncomputable def h_5 (P:Params) (r:List Obj):List Obj:=o120_4::o121_4::o122_4::o123_4::o124_4::o125_4::o126_4::o127_4::o128_4::o129_4::o130_4::o131_4 P::o132_4::o133_4::o134_4::o135_4::o136_4::o137_4 P::o138_4::o139_4::o140_4::o141_4::o142_4::o143_4::r
noncomputable def h_6 (P:Params) (r:List Obj):List Obj:=o144_4::o145_4::o146_4::o147_4::o148_4::o149_4::o150_4 P::o151_4::o152_4::o153_4::o154_4::o155_4::o156_4 P::o157_4::o158_4::o159_4::o160_4::o161_4::o162_4::o163_4::o164_4::o165_4::o166_4::o167_4::r
noncomputable def h_7 (P:Params) (r:List Obj):List Obj:=o168_4::o169_4 P::o170_4::o171_4::o172_4::o173_5::o174_5::o175_5 P::o176_5::o177_5::o178_5::o179_5::o180_5::o181_5::o182_5::o183_5::o184_5::o185_5::o186_5::o187_5::o188_5 P::o189_5::o190_5::o191_5::r
noncomputable def h_8 (P:Params) (r:List Obj):List Obj:=o192_5::o193_5::o194_5 P::o195_5::o196_5::o197_5::o198_5::o199_5::o200_5 P::o201_5::o202_5::o203_5::o204_5::o205_5::o206_5::o207_5::o208_5::o209_5::o210_5::o211_5::o212_5::o213_5::o214_5::o215_5::r
noncomputable def h_9 (P:Params) (r:List Obj):List Obj:=o216_5::o217_5::o218_5::o219_5::o220_5::o221_5::o222_5::o223_5::o224_5::o225_5::o226_5::o227_5::o228_5::o229_5::o230_5::o231_5::o232_5::o233_5::o234_5::o235_5::o236_5::o237_5::o238_5::o239_5::r
noncomputable def h_10 (P:Params) (r:List Obj):List Obj:=o240_5::o241_5::o242_5::o243_5::o244_5::o245_5::o246_5::o247_5::o248_5::o249_5::o250_5::o251_5::o252_5::o253_5::o254_5::o255_5::o256_5::o257_5::o258_5::o259_5::o260_5::o261_5::o262_5::o263_5::r
noncomputable def h_11 (P:Params) (r:List Obj):List Obj:=o264_5::o265_5::o266_5::o267_5::o268_5::o269_5::o270_5::o271_5::o272_5::o273_5::o274_5::o275_5::o276_5::o277_5::o278_5::o279_5::o280_5::o281_5::o282_5::o283_5::o284_5::o285_5::o286_5::o287_5::r
noncomputable def h_12 (P:Params) (r:List Obj):List Obj:=o288_5::o289_6::o290_6::o291_6::o292_6::o293_6::o294_6::o295_6::o296_6::o297_6::o298_6::o299_6::o300_6::o301_6::o302_6::o303_6::o304_6::o305_6::o306_6::o307_6::o308_6::o309_6::o310_6::o311_6::r
noncomputable def h_13 (P:Params) (r:List Obj):List Obj:=o312_6::o313_6::o314_6::r
noncomputable def Hf (P:Params):Heap:=⟨⟨h_0 P (h_1 P (h_2 P (h_3 P (h_4 P (h_5 P (h_6 P (h_7 P (h_8 P (h_9 P (h_10 P (h_11 P (h_12 P (h_13 P ([]))))))))))))))⟩,li⟩
noncomputable def Sf (w:World) (os:OsState):Shared:=⟨Hf w.params,⟨[]⟩,boot_drawn,637,os⟩
def Fin (w:World):Prop:=(fun os=>topRun treeTable pw w 11 an 2 (S5T w os).abs ⟨doneF .next,cE,⟨199,0,212,34⟩,B⟩)=fun os=>some (Sf w os)
noncomputable def q:Program:={ pw with main:={ pw.main with body:=My.top 1::My.top 2::My.top 3::My.top 4::My.top 5::My.top 6::My.top 7::My.top 8::My.top 9::My.top 10::My.top 11::My.top 13::My.top 14::My.top 15::My.top 17::My.top 18::My.top 19::My.top 20::My.top 21::My.top 22::My.top 23::My.top 24::My.top 25::My.top 26::My.top 27::My.top 28::My.top 29::My.top 30::[] } }
noncomputable def K (P:Params):Frag:=(nat_lit 2,boot_o_2 P)::(nat_lit 3,o3_6 P)::(nat_lit 4,boot_o_4 P)::(nat_lit 15,o15_2)::(nat_lit 22,o22_2)::(nat_lit 23,o23_2 P)::(nat_lit 24,o24_5)::(nat_lit 25,o25_2)::(nat_lit 28,o28_2)::(nat_lit 35,o35_2)::(nat_lit 36,o36_2 P)::(nat_lit 37,o37_2)::(nat_lit 40,o40_2)::(nat_lit 47,o47_2)::(nat_lit 49,o49_2)::(nat_lit 50,o50_2)::(nat_lit 52,o52_2)::(nat_lit 53,o53_2)::(nat_lit 54,o54_2)::(nat_lit 55,o55_2 P)::(nat_lit 56,o56_2)::(nat_lit 59,o59_3)::(nat_lit 66,o66_3)::(nat_lit 68,o68_3)::(nat_lit 69,o69_3)::(nat_lit 71,o71_3)::(nat_lit 72,o72_3)::(nat_lit 73,o73_3)::(nat_lit 74,o74_3 P)::(nat_lit 75,o75_3)::(nat_lit 78,o78_3)::(nat_lit 85,o85_3)::(nat_lit 87,o87_3)::(nat_lit 88,o88_3)::(nat_lit 90,o90_3)::(nat_lit 91,o91_3)::(nat_lit 92,o92_3)::(nat_lit 93,o93_3 P)::(nat_lit 94,o94_3)::(nat_lit 97,o97_3)::(nat_lit 104,o104_3)::(nat_lit 106,o106_3)::(nat_lit 107,o107_3)::(nat_lit 109,o109_3)::(nat_lit 110,o110_3)::(nat_lit 111,o111_3)::(nat_lit 112,o112_3 P)::(nat_lit 113,o113_3)::(nat_lit 116,o116_4)::(nat_lit 123,o123_4)::(nat_lit 125,o125_4)::(nat_lit 126,o126_4)::(nat_lit 128,o128_4)::(nat_lit 129,o129_4)::(nat_lit 130,o130_4)::(nat_lit 131,o131_4 P)::(nat_lit 132,o132_4)::(nat_lit 135,o135_4)::(nat_lit 142,o142_4)::(nat_lit 144,o144_4)::(nat_lit 145,o145_4)::(nat_lit 147,o147_4)::(nat_lit 148,o148_4)::(nat_lit 149,o149_4)::(nat_lit 150,o150_4 P)::(nat_lit 151,o151_4)::(nat_lit 154,o154_4)::(nat_lit 161,o161_4)::(nat_lit 163,o163_4)::(nat_lit 164,o164_4)::(nat_lit 166,o166_4)::(nat_lit 167,o167_4)::(nat_lit 168,o168_4)::(nat_lit 169,o169_4 P)::(nat_lit 170,o170_4)::(nat_lit 173,o173_5)::(nat_lit 180,o180_5)::(nat_lit 182,o182_5)::(nat_lit 183,o183_5)::(nat_lit 185,o185_5)::(nat_lit 186,o186_5)::(nat_lit 187,o187_5)::(nat_lit 188,o188_5 P)::(nat_lit 189,o189_5)::(nat_lit 192,o192_5)::(nat_lit 199,o199_5)::(nat_lit 200,o200_5 P)::(nat_lit 201,o201_5)::(nat_lit 204,o204_5)::(nat_lit 206,o206_5)::(nat_lit 207,o207_5)::(nat_lit 209,o209_5)::(nat_lit 210,o210_5)::(nat_lit 211,o211_5)::(nat_lit 214,o214_5)::(nat_lit 215,o215_5)::(nat_lit 216,o216_5)::(nat_lit 218,o218_5)::(nat_lit 219,o219_5)::(nat_lit 221,o221_5)::(nat_lit 222,o222_5)::(nat_lit 223,o223_5)::(nat_lit 225,o225_5)::(nat_lit 226,o226_5)::(nat_lit 228,o228_5)::(nat_lit 229,o229_5)::(nat_lit 230,o230_5)::(nat_lit 232,o232_5)::(nat_lit 233,o233_5)::(nat_lit 235,o235_5)::(nat_lit 236,o236_5)::(nat_lit 237,o237_5)::(nat_lit 239,o239_5)::(nat_lit 240,o240_5)::(nat_lit 242,o242_5)::(nat_lit 243,o243_5)::(nat_lit 244,o244_5)::(nat_lit 247,o247_5)::(nat_lit 248,o248_5)::(nat_lit 249,o249_5)::(nat_lit 251,o251_5)::(nat_lit 252,o252_5)::(nat_lit 254,o254_5)::(nat_lit 255,o255_5)::(nat_lit 256,o256_5)::(nat_lit 259,o259_5)::(nat_lit 260,o260_5)::(nat_lit 261,o261_5)::(nat_lit 263,o263_5)::(nat_lit 264,o264_5)::(nat_lit 266,o266_5)::(nat_lit 267,o267_5)::(nat_lit 268,o268_5)::(nat_lit 270,o270_5)::(nat_lit 271,o271_5)::(nat_lit 273,o273_5)::(nat_lit 274,o274_5)::(nat_lit 275,o275_5)::(nat_lit 277,o277_5)::(nat_lit 278,o278_5)::(nat_lit 280,o280_5)::(nat_lit 281,o281_5)::(nat_lit 282,o282_5)::(nat_lit 284,o284_5)::(nat_lit 285,o285_5)::(nat_lit 287,o287_5)::(nat_lit 288,o288_5)::(nat_lit 289,o289_6)::(nat_lit 291,o291_6)::(nat_lit 292,o292_6)::(nat_lit 294,o294_6)::(nat_lit 295,o295_6)::(nat_lit 296,o296_6)::(nat_lit 298,o298_6)::(nat_lit 299,o299_6)::(nat_lit 301,o301_6)::(nat_lit 302,o302_6)::(nat_lit 303,o303_6)::(nat_lit 306,o306_6)::(nat_lit 307,o307_6)::(nat_lit 308,o308_6)::(nat_lit 310,o310_6)::(nat_lit 311,o311_6)::(nat_lit 313,o313_6)::(nat_lit 314,o314_6)::[]
noncomputable def f_0 (P:Params) (r:List (Nat×Obj)):List (Nat×Obj):=(2,boot_o_2 P)::(3,o3_6 P)::(4,boot_o_4 P)::(15,o15_2)::(22,o22_2)::(23,o23_2 P)::(24,o24_5)::(25,o25_2)::(28,o28_2)::(35,o35_2)::(36,o36_2 P)::(37,o37_2)::(40,o40_2)::(47,o47_2)::(49,o49_2)::(50,o50_2)::(52,o52_2)::(53,o53_2)::(54,o54_2)::(55,o55_2 P)::(56,o56_2)::(59,o59_3)::(66,o66_3)::(68,o68_3)::r
noncomputable def f_1 (P:Params) (r:List (Nat×Obj)):List (Nat×Obj):=(69,o69_3)::(71,o71_3)::(72,o72_3)::(73,o73_3)::(74,o74_3 P)::(75,o75_3)::(78,o78_3)::(85,o85_3)::(87,o87_3)::(88,o88_3)::(90,o90_3)::(91,o91_3)::(92,o92_3)::(93,o93_3 P)::(94,o94_3)::(97,o97_3)::(104,o104_3)::(106,o106_3)::(107,o107_3)::(109,o109_3)::(110,o110_3)::(111,o111_3)::(112,o112_3 P)::(113,o113_3)::r
noncomputable def f_2 (P:Params) (r:List (Nat×Obj)):List (Nat×Obj):=(116,o116_4)::(123,o123_4)::(125,o125_4)::(126,o126_4)::(128,o128_4)::(129,o129_4)::(130,o130_4)::(131,o131_4 P)::(132,o132_4)::(135,o135_4)::(142,o142_4)::(144,o144_4)::(145,o145_4)::(147,o147_4)::(148,o148_4)::(149,o149_4)::(150,o150_4 P)::(151,o151_4)::(154,o154_4)::(161,o161_4)::(163,o163_4)::(164,o164_4)::(166,o166_4)::(167,o167_4)::r
noncomputable def f_3 (P:Params) (r:List (Nat×Obj)):List (Nat×Obj):=(168,o168_4)::(169,o169_4 P)::(170,o170_4)::(173,o173_5)::(180,o180_5)::(182,o182_5)::(183,o183_5)::(185,o185_5)::(186,o186_5)::(187,o187_5)::(188,o188_5 P)::(189,o189_5)::(192,o192_5)::(199,o199_5)::(200,o200_5 P)::(201,o201_5)::(204,o204_5)::(206,o206_5)::(207,o207_5)::(209,o209_5)::(210,o210_5)::(211,o211_5)::(214,o214_5)::(215,o215_5)::r
noncomputable def f_4 (P:Params) (r:List (Nat×Obj)):List (Nat×Obj):=(216,o216_5)::(218,o218_5)::(219,o219_5)::(221,o221_5)::(222,o222_5)::(223,o223_5)::(225,o225_5)::(226,o226_5)::(228,o228_5)::(229,o229_5)::(230,o230_5)::(232,o232_5)::(233,o233_5)::(235,o235_5)::(236,o236_5)::(237,o237_5)::(239,o239_5)::(240,o240_5)::(242,o242_5)::(243,o243_5)::(244,o244_5)::(247,o247_5)::(248,o248_5)::(249,o249_5)::r
noncomputable def f_5 (P:Params) (r:List (Nat×Obj)):List (Nat×Obj):=(251,o251_5)::(252,o252_5)::(254,o254_5)::(255,o255_5)::(256,o256_5)::(259,o259_5)::(260,o260_5)::(261,o261_5)::(263,o263_5)::(264,o264_5)::(266,o266_5)::(267,o267_5)::(268,o268_5)::(270,o270_5)::(271,o271_5)::(273,o273_5)::(274,o274_5)::(275,o275_5)::(277,o277_5)::(278,o278_5)::(280,o280_5)::(281,o281_5)::(282,o282_5)::(284,o284_5)::r
noncomputable def f_6 (P:Params) (r:List (Nat×Obj)):List (Nat×Obj):=(285,o285_5)::(287,o287_5)::(288,o288_5)::(289,o289_6)::(291,o291_6)::(292,o292_6)::(294,o294_6)::(295,o295_6)::(296,o296_6)::(298,o298_6)::(299,o299_6)::(301,o301_6)::(302,o302_6)::(303,o303_6)::(306,o306_6)::(307,o307_6)::(308,o308_6)::(310,o310_6)::(311,o311_6)::(313,o313_6)::(314,o314_6)::r
noncomputable def K2 (P:Params):Frag:=f_0 P (f_1 P (f_2 P (f_3 P (f_4 P (f_5 P (f_6 P ([])))))))
noncomputable def as:List Addr:=nat_lit 2::nat_lit 3::nat_lit 4::nat_lit 15::nat_lit 22::nat_lit 23::nat_lit 24::nat_lit 25::nat_lit 28::nat_lit 35::nat_lit 36::nat_lit 37::nat_lit 40::nat_lit 47::nat_lit 49::nat_lit 50::nat_lit 52::nat_lit 53::nat_lit 54::nat_lit 55::nat_lit 56::nat_lit 59::nat_lit 66::nat_lit 68::nat_lit 69::nat_lit 71::nat_lit 72::nat_lit 73::nat_lit 74::nat_lit 75::nat_lit 78::nat_lit 85::nat_lit 87::nat_lit 88::nat_lit 90::nat_lit 91::nat_lit 92::nat_lit 93::nat_lit 94::nat_lit 97::nat_lit 104::nat_lit 106::nat_lit 107::nat_lit 109::nat_lit 110::nat_lit 111::nat_lit 112::nat_lit 113::nat_lit 116::nat_lit 123::nat_lit 125::nat_lit 126::nat_lit 128::nat_lit 129::nat_lit 130::nat_lit 131::nat_lit 132::nat_lit 135::nat_lit 142::nat_lit 144::nat_lit 145::nat_lit 147::nat_lit 148::nat_lit 149::nat_lit 150::nat_lit 151::nat_lit 154::nat_lit 161::nat_lit 163::nat_lit 164::nat_lit 166::nat_lit 167::nat_lit 168::nat_lit 169::nat_lit 170::nat_lit 173::nat_lit 180::nat_lit 182::nat_lit 183::nat_lit 185::nat_lit 186::nat_lit 187::nat_lit 188::nat_lit 189::nat_lit 192::nat_lit 199::nat_lit 200::nat_lit 201::nat_lit 204::nat_lit 206::nat_lit 207::nat_lit 209::nat_lit 210::nat_lit 211::nat_lit 214::nat_lit 215::nat_lit 216::nat_lit 218::nat_lit 219::nat_lit 221::nat_lit 222::nat_lit 223::nat_lit 225::nat_lit 226::nat_lit 228::nat_lit 229::nat_lit 230::nat_lit 232::nat_lit 233::nat_lit 235::nat_lit 236::nat_lit 237::nat_lit 239::nat_lit 240::nat_lit 242::nat_lit 243::nat_lit 244::nat_lit 247::nat_lit 248::nat_lit 249::nat_lit 251::nat_lit 252::nat_lit 254::nat_lit 255::nat_lit 256::nat_lit 259::nat_lit 260::nat_lit 261::nat_lit 263::nat_lit 264::nat_lit 266::nat_lit 267::nat_lit 268::nat_lit 270::nat_lit 271::nat_lit 273::nat_lit 274::nat_lit 275::nat_lit 277::nat_lit 278::nat_lit 280::nat_lit 281::nat_lit 282::nat_lit 284::nat_lit 285::nat_lit 287::nat_lit 288::nat_lit 289::nat_lit 291::nat_lit 292::nat_lit 294::nat_lit 295::nat_lit 296::nat_lit 298::nat_lit 299::nat_lit 301::nat_lit 302::nat_lit 303::nat_lit 306::nat_lit 307::nat_lit 308::nat_lit 310::nat_lit 311::nat_lit 313::nat_lit 314::[]
noncomputable def H:Hook:=kHook K as (fun _=>by kernel_rfl)
noncomputable abbrev R:WRecords:=RowW.records (OpenRow.toRowW (OpenLaw.row PySem.Challenge.rw_joinload_k17_told_twice))
noncomputable abbrev Xt (s:Shared):Bool:=xlAt q [] s&&recOk R s
def Size (w:World):Prop:=((boot_heap w.params).isNs mainGlobals&&(⟨[]⟩:Array GenState).size == 0,(boot_heap w.params).objs.size,(boot_heap w.params).nsMap mainGlobals "__annotations__")=(true,11,an)
def LA (w:World):Prop:=(fun os=>staticsOk (importedModules pw.main.body) (boot_heap w.params) (Hf w.params)&&namesBound pw (Hf w.params)&&gensDone (Sf w os)&&laidKept (boot_heap w.params) (Hf w.params))=fun _=>true
def Ls1 (w:World):Prop:=(fun os=>seen ((recsOf q).map (·.name)) (ownsOf q) [] { Sf w os with gens:=#[] })=fun _=>expectedOf q
def Ls2 (w:World):Prop:=(fun os=>(Sf w os).heap.bltView)=fun _=>bltViewBooted
def Ls3 (w:World):Prop:=(fun os=>(Sf w os).heap.keysOk (looseW q []) ((recsOf q).map (·.name)) ((litsOf q).map (·.1)) ((clssOf q (looseW q [])).map (·.name))&&(Sf w os).heap.accountedOkI (importedModules pw.main.body)&&(Sf w os).heap.isNs mainGlobals&&(Sf w os).heap.isNs builtinsNs&&tablesOk q (Sf w os).heap&&Xt (Sf w os)&&(if true then (Sf w os).gens.size == 0 else !leftWithCleanup (Sf w os).gens))=fun _=>true
def Ls4 (w:World):Prop:=(fun os=>tabsOk q (Sf w os))=fun _=>true
def Ls5 (w:World):Prop:=(fun os=>pinSeenD q (drecsOf q) (Sf w os))=fun _=>pinGoodD (drecsOf q)
def Ls6 (w:World):Prop:=(fun os=>plainSeenE q (looseW q []) (Sf w os))=fun _=>plainGoodE q (looseW q [])
def Ls7 (w:World):Prop:=(fun os=>plainSeenD q [] (Sf w os))=fun _=>plainGoodD q []
def Ls8 (w:World):Prop:=(fun os=>wideSeen q (Sf w os))=fun _=>wideGood q
def Ls9 (w:World):Prop:=(fun os=>clsSeenW q [] (Sf w os))=fun _=>clsGoodW q []
def Yk (w:World):Prop:=(fun os=>as.map (Sf w os).heap.get?)=fun _=>(K2 w.params).map fun p=>some p.2
theorem K_is:K=K2:=by kernel_rfl
theorem Pre_r:Pre=Pre:=rfl
theorem Blk_r:Blk=Blk:=rfl
theorem P0_r:P0=P0:=rfl
theorem P1_r:P1=P1:=rfl
theorem P2_r:P2=P2:=rfl
theorem P3_r:P3=P3:=rfl
theorem P4_r:P4=P4:=rfl
theorem Fin_r:Fin=Fin:=rfl
theorem Size_r:Size=Size:=rfl
theorem LA_r:LA=LA:=rfl
theorem Ls1_r:Ls1=Ls1:=rfl
theorem Ls2_r:Ls2=Ls2:=rfl
theorem Ls3_r:Ls3=Ls3:=rfl
theorem Ls4_r:Ls4=Ls4:=rfl
theorem Ls5_r:Ls5=Ls5:=rfl
theorem Ls6_r:Ls6=Ls6:=rfl
theorem Ls7_r:Ls7=Ls7:=rfl
theorem Ls8_r:Ls8=Ls8:=rfl
theorem Ls9_r:Ls9=Ls9:=rfl
theorem Yk_r:Yk=Yk:=rfl
end Hd
name_quick hdPre for Hd.Pre by Hd.Pre_r
name_quick hdBlk for Hd.Blk by Hd.Blk_r
name_quick hdP0 for Hd.P0 by Hd.P0_r
name_quick hdP1 for Hd.P1 by Hd.P1_r
name_quick hdP2 for Hd.P2 by Hd.P2_r
name_quick hdP3 for Hd.P3 by Hd.P3_r
name_quick hdP4 for Hd.P4 by Hd.P4_r
name_quick hdFin for Hd.Fin by Hd.Fin_r
name_quick hdSize for Hd.Size by Hd.Size_r
name_quick hdLA for Hd.LA by Hd.LA_r
name_quick hdLs1 for Hd.Ls1 by Hd.Ls1_r
name_quick hdLs2 for Hd.Ls2 by Hd.Ls2_r
name_quick hdLs3 for Hd.Ls3 by Hd.Ls3_r
name_quick hdLs4 for Hd.Ls4 by Hd.Ls4_r
name_quick hdLs5 for Hd.Ls5 by Hd.Ls5_r
name_quick hdLs6 for Hd.Ls6 by Hd.Ls6_r
name_quick hdLs7 for Hd.Ls7 by Hd.Ls7_r
name_quick hdLs8 for Hd.Ls8 by Hd.Ls8_r
name_quick hdLs9 for Hd.Ls9 by Hd.Ls9_r
name_quick hdYk for Hd.Yk by Hd.Yk_r
namespace Hd
open PySem PySem.W PySem.Calls PyProof.Rows
theorem Pre_h (w:World):Pre w:=by
 rw[show Pre w=PySem.W.Fast.hdPre w from congrFun PySem.W.Fast.hdPre_eq _]
 delta PySem.W.Fast.hdPre PySem.W.Fast.tw7651035101826984186
 kernel_rfl
theorem Blk_h (w:World):Blk w:=by
 rw[show Blk w=PySem.W.Fast.hdBlk w from congrFun PySem.W.Fast.hdBlk_eq _]
 delta PySem.W.Fast.hdBlk PySem.W.Fast.tw10272554187927912860
 kernel_rfl
theorem P0_h (w:World):P0 w:=by
 rw[show P0 w=PySem.W.Fast.hdP0 w from congrFun PySem.W.Fast.hdP0_eq _]
 delta PySem.W.Fast.hdP0 PySem.W.Fast.tw2223480372460268926 PySem.W.Fast.tw16301345103801407739
 kernel_rfl
theorem P1_h (w:World):P1 w:=by
 rw[show P1 w=PySem.W.Fast.hdP1 w from congrFun PySem.W.Fast.hdP1_eq _]
 delta PySem.W.Fast.hdP1 PySem.W.Fast.tw14855786421978465553 PySem.W.Fast.tw16301345103801407739
 kernel_rfl
theorem P2_h (w:World):P2 w:=by
 rw[show P2 w=PySem.W.Fast.hdP2 w from congrFun PySem.W.Fast.hdP2_eq _]
 delta PySem.W.Fast.hdP2 PySem.W.Fast.tw6117723192894798286 PySem.W.Fast.tw16301345103801407739
 kernel_rfl
theorem P3_h (w:World):P3 w:=by
 rw[show P3 w=PySem.W.Fast.hdP3 w from congrFun PySem.W.Fast.hdP3_eq _]
 delta PySem.W.Fast.hdP3 PySem.W.Fast.tw4020557457582994402 PySem.W.Fast.tw16301345103801407739
 kernel_rfl
theorem P4_h (w:World):P4 w:=by
 rw[show P4 w=PySem.W.Fast.hdP4 w from congrFun PySem.W.Fast.hdP4_eq _]
 delta PySem.W.Fast.hdP4 PySem.W.Fast.tw16968994527078285662 PySem.W.Fast.tw16301345103801407739
 kernel_rfl
theorem Fin_h (w:World):Fin w:=by
 rw[show Fin w=PySem.W.Fast.hdFin w from congrFun PySem.W.Fast.hdFin_eq _]
 delta PySem.W.Fast.hdFin PySem.W.Fast.tw4976735305809376593
 kernel_rfl
theorem Size_h (w:World):Size w:=by
 rw[show Size w=PySem.W.Fast.hdSize w from congrFun PySem.W.Fast.hdSize_eq _]
 delta PySem.W.Fast.hdSize PySem.W.Fast.tw14461627914784175761
 kernel_rfl
theorem LA_h (w:World):LA w:=by
 rw[show LA w=PySem.W.Fast.hdLA w from congrFun PySem.W.Fast.hdLA_eq _]
 delta PySem.W.Fast.hdLA PySem.W.Fast.tw11134583137455730433
 kernel_rfl
theorem Ls1_h (w:World):Ls1 w:=by
 rw[show Ls1 w=PySem.W.Fast.hdLs1 w from congrFun PySem.W.Fast.hdLs1_eq _]
 delta PySem.W.Fast.hdLs1 PySem.W.Fast.tw14098396552713008135
 kernel_rfl
theorem Ls2_h (w:World):Ls2 w:=by
 rw[show Ls2 w=PySem.W.Fast.hdLs2 w from congrFun PySem.W.Fast.hdLs2_eq _]
 delta PySem.W.Fast.hdLs2 PySem.W.Fast.tw6547580189001637342
 kernel_rfl
theorem Ls3_h (w:World):Ls3 w:=by
 rw[show Ls3 w=PySem.W.Fast.hdLs3 w from congrFun PySem.W.Fast.hdLs3_eq _]
 delta PySem.W.Fast.hdLs3 PySem.W.Fast.tw10934468223134025866
 kernel_rfl
theorem Ls4_h (w:World):Ls4 w:=by
 rw[show Ls4 w=PySem.W.Fast.hdLs4 w from congrFun PySem.W.Fast.hdLs4_eq _]
 delta PySem.W.Fast.hdLs4 PySem.W.Fast.tw13894289833044730176
 kernel_rfl
theorem Ls5_h (w:World):Ls5 w:=by
 rw[show Ls5 w=PySem.W.Fast.hdLs5 w from congrFun PySem.W.Fast.hdLs5_eq _]
 delta PySem.W.Fast.hdLs5 PySem.W.Fast.tw11162159950934395656
 kernel_rfl
theorem Ls6_h (w:World):Ls6 w:=by
 rw[show Ls6 w=PySem.W.Fast.hdLs6 w from congrFun PySem.W.Fast.hdLs6_eq _]
 delta PySem.W.Fast.hdLs6 PySem.W.Fast.tw9014929701734557122
 kernel_rfl
theorem Ls7_h (w:World):Ls7 w:=by
 rw[show Ls7 w=PySem.W.Fast.hdLs7 w from congrFun PySem.W.Fast.hdLs7_eq _]
 delta PySem.W.Fast.hdLs7 PySem.W.Fast.tw16695146034332369646
 kernel_rfl
theorem Ls8_h (w:World):Ls8 w:=by
 rw[show Ls8 w=PySem.W.Fast.hdLs8 w from congrFun PySem.W.Fast.hdLs8_eq _]
 delta PySem.W.Fast.hdLs8 PySem.W.Fast.tw13045354483572663336
 kernel_rfl
theorem Ls9_h (w:World):Ls9 w:=by
 rw[show Ls9 w=PySem.W.Fast.hdLs9 w from congrFun PySem.W.Fast.hdLs9_eq _]
 delta PySem.W.Fast.hdLs9 PySem.W.Fast.tw9459536174771691377
 kernel_rfl
theorem Yk_h (w:World):Yk w:=by
 rw[show Yk w=PySem.W.Fast.hdYk w from congrFun PySem.W.Fast.hdYk_eq _]
 delta PySem.W.Fast.hdYk PySem.W.Fast.tw3491827284470035837
 kernel_rfl
noncomputable def R4:List Stmt:=L4++[]
noncomputable def R3:List Stmt:=L3++R4
noncomputable def R2:List Stmt:=L2++R3
noncomputable def R1:List Stmt:=L1++R2
noncomputable def R0:List Stmt:=L0++R1
theorem bd_is:bd=R0:=by kernel_rfl
theorem rest_h (w:World) (os:OsState):topRun treeTable pw w 11 an (654+(742+(742+(898+(128+2))))) (S0T w os).abs (restOf R0 en cE ⟨0,0,0,0⟩ B)=some (Sf w os):=
 (piece_app (l:=L0) (segRun_of (congrFun (P0_h w) os)) (piece_app (l:=L1) (segRun_of (congrFun (P1_h w) os)) (piece_app (l:=L2) (segRun_of (congrFun (P2_h w) os)) (piece_app (l:=L3) (segRun_of (congrFun (P3_h w) os)) (piece_app (l:=L4) (segRun_of (congrFun (P4_h w) os)) (congrFun (Fin_h w) os))))))
theorem run_h (w:World) (os:OsState):topRun treeTable pw w 11 an (12+(1+(654+(742+(742+(898+(128+2))))))) (S0 w os) (topStub pw)=some (Sf w os):=
 go_top (congrFun (Pre_h w) os) (piece_block (congrFun (Blk_h w) os) (by
  rw[show restOf bd en cE ⟨0,0,0,0⟩ B=restOf R0 en cE ⟨0,0,0,0⟩ B from congrArg (fun l=>restOf l en cE ⟨0,0,0,0⟩ B) bd_is]
  exact rest_h w os))
theorem Yk_k (w:World) (os:OsState):Hook.obs H (Sf w os)=Hook.val H w:=by
 show as.map (Sf w os).heap.get?=(K w.params).map fun p=>some p.2
 rw[K_is];exact congrFun (Yk_h w) os
theorem left_h:LeftO pw q [] Xt (Hook.obs H) (Hook.val H) 6444:=
 LeftO.of_pieces (H₀:=boot_heap) (H₁:=Hf) (m₀:=11) (ann:=an) (boot_open rfl rfl (fun _=>rfl)) Size_h run_h (by decide +kernel) fun w=>funext fun os=>
  looks_pair (congrFun (LA_h w) os) (looks_pair
   (show openSeen q [] (importedModules pw.main.body) Xt true (Sf w os)=openGood q [] from
    looks_pair (congrFun (Ls1_h w) os) (looks_pair (congrFun (Ls2_h w) os) (looks_pair (congrFun (Ls3_h w) os) (looks_pair (congrFun (Ls4_h w) os) (looks_pair (congrFun (Ls5_h w) os) (looks_pair (congrFun (Ls6_h w) os) (looks_pair (congrFun (Ls7_h w) os) (looks_pair (congrFun (Ls8_h w) os) (congrFun (Ls9_h w) os)))))))))
   (Yk_k w os))
end Hd
open PySem PySem.W PyProof.Rows
set_option maxRecDepth 100000 in
set_option maxHeartbeats 0 in
theorem PySem.Challenge.cw_joinload_k17_told_twice_holds : PySem.Challenge.rw_joinload_k17_told_twice.Holds := by
 w_on;o_law
 refine holds_open (q:=Hd.q) (loose:=[]) (Xt:=Hd.Xt) (XP:=XL Hd.q []) (Yf:=Hook.obs Hd.H) (Ya:=Hook.val Hd.H) (YP:=InK Hd.K) Hd.left_h (Hook.of Hd.H) (Hook.keeps Hd.H) (fun s e=>xl_of s (Bool.and_eq_true_iff.mp e).1) XL.keeps (by rfl) (by rfl) (by rfl) (fun s e=>recFacts_of (Bool.and_eq_true_iff.mp e).2) (by rfl) (by first | assumption | decide +kernel) (by decide +kernel) ⟨rfl,rfl,rfl,rfl,rfl,by decide +kernel⟩ ?hw ?hc
 (case hw=>w_witness2)
 k_fill
 refine My.walk (l:=PySem.Challenge.rw_joinload_k17_told_twice) (K:=Hd.K) (tb_qzq:=205) rfl rfl (fun w h Y=>Y) ?hT ?F
 case hT=>
  intro w h lo mean mg mb KX TP T hT
  simp only[List.mem_cons,List.not_mem_nil,or_false]at hT
  rcases hT with rfl
  ·refine' L2.tab_in (x := "names_of") (y := "names_of") (st:=My.s_qzq) (T:=205) KX TP (by kernel_rfl) _ _ _
   all_goals first | exact⟨_,_,_,_,_,_,_,_,_,by k_is,by k_is,by k_is,by kernel_rfl⟩ | k_is | kernel_rfl | skip
 case F=>
  intro w mg fa h KX G hmg
  refine' My.all_mk (tb_qzq:=205) KX G hmg _ _ _ _ _ _ _ _ _ _ _ _ _ _ _ _ _ _ _ _ _ _ _ _ _ _ _ _ _ _ _ _ _ _ _ _ _ _ _ _ _ _ _ _ _ _ _ _ _ _ _ _ _ _ _ _ _ _ _ _ _ _ _ _ _ _ _ _ _ _ _ _ _ _ _ _ _ _ _ _ _ _ _ _ _ _ _ _ _ _ _ _ _
  all_goals first | exact⟨_,_,_,_,_,_,_,_,_,by k_is,by k_is,by k_is⟩ | exact⟨_,_,_,_,_,_,_,_,_,by k_is,by k_is,by k_is,by kernel_rfl⟩ | exact⟨_,by decide,by decide,by k_is⟩ | k_is | kernel_rfl | kit_is | skip
#print axioms PySem.Challenge.cw_joinload_k17_told_twice_holds
