import PyProof.Rows.All
import Wide.All
import OpenK.AllK
import Wide.FinOn
import Lean
import PyProof.EqAt
import PyProof.EqKinds
import PyProof.TupleCall
import PyProof.StationsW
import PyProof.ExcAttrAll.ValueError
import KE.KIsAll
import PyProof.RulesAs
import PyProof.NsDelKeeps
import PyProof.FString
import PyProof.FString4
import PyProof.Rows.FStr
import PyProof.Rows.FStrParts
import PyProof.StrCalls2
import PyProof.StrLawsRepr
import PyProof.StrLawsJoin
import PyProof.StrLaws
import PyProof.Rows.ReprOcc
import PyProof.ExcInit
import PyProof.InstStoreFacts
import KE.KDictOf
import PyProof.AttrMissHeap
import PyProof.AttrMissSeq
import PyProof.WalksS
import PyProof.Walks
import PyProof.Seq
import PyProof.DictList
import PyProof.DictUpdate
import PyProof.MakeMany
import PyProof.Rows.SetFrom
import PyProof.ZipIter
import PyProof.Rows.TupDisplay
import PyProof.EnumFor
import PyProof.EnumMake
import PyProof.EnumStmt
import PyProof.SeqI3
import PyProof.Rows.SumAny
import KE.KDictIter
import PyProof.DictWalks
import PyProof.StrLawsChain
import PyProof.StrLawsTight
import KE.KIntText
import PyProof.CallType
import PyProof.Rows.CallKwBuiltin
import PyProof.Draws
import PyProof.DefCall
import PyProof.SetKind
import PyProof.DictKinds
import PyProof.CollectWalk
import PyProof.FactsAll.set
import PyProof.DictIter
import PyProof.FactsTree
import PyProof.CollectStr
import KE.KDictLaws
import PyProof.Rows.SortShellK
import PyProof.Rows.SortWalk
import PyProof.Rows.StrNews2
import PySem.Challenge.RW_joinload_k14_the_first_bad_row
set_option genInjectivity false
set_option compiler.extract_closed false
set_option Elab.async false
set_option linter.all false
set_option maxRecDepth 100000
set_option genSizeOfSpec false
abbrev Wf:=PySem.W.Frag
abbrev Vs:=PySem.Value->PySem.Shared->Prop
abbrev Lo:=List (PySem.Addr×PySem.Obj)
abbrev So:=PySem.Str->Option PySem.Value
open PySem.W (instObj methodObj lookIn plainGet hasDictIn findIn handedIn plainGet_of isFn plainOver takerIn makesIn emptyDict keepIn specialIn takesIn mroIn kitOne kia_one kitx_none kitx_bool kitx_int kitx_str kitx_float kitx_list kitx_tuple kitx_dict kitx_own callWith_K cellsFrom_some fnOf codeIn excIn isNs_of_in tail_of_in instIn clsIn looks_mroIn notCls kitAny readsIn findCls nsIn mg_of mg_none_of)
abbrev aQ := @List.length_map
abbrev aT := @PySem.wpAny_bind
abbrev cL := @List.length_append
abbrev fU := @PySem.Heap.get?_push_of_some
abbrev eC := @List.mem_append
abbrev hJ := @List.length_singleton
abbrev dj := @PySem.Heap.lt_size
abbrev cC := @PySem.wpAny_pure
abbrev dy := @Nat.le_trans
abbrev dn := @Nat.le_refl
abbrev jE := @List.mem_append_right
abbrev iL := @List.mem_singleton
abbrev gJ := @List.map_append
abbrev kh := @Nat.lt_of_lt_of_le
abbrev jd := @List.length_cons
abbrev lK := @Bool.false_ne_true
abbrev we := @List.getElem?_eq_some_iff
abbrev t_ := @List.mem_cons_of_mem
abbrev gB := @Nat.zero_le
abbrev vB := @List.mem_append_left
abbrev wu := @List.getLast?_append
abbrev nV := @List.length_take
abbrev A5 := @List.getElem?_eq_getElem
abbrev vc := @List.size_toArray
abbrev ku := @Nat.lt_irrefl
abbrev ji := @List.mem_map
abbrev wX := @List.mem_cons_self
abbrev lL := @List.mem_cons
abbrev yO := @PySem.Heap.get?_push_size
abbrev Ew := @Int.eq_ofNat_of_zero_le
abbrev lE := @Nat.ne_of_lt
abbrev AY := @Array.toList_append
abbrev Cr := @Option.map_eq_some_iff
abbrev A4 := @List.mem_of_getElem?
abbrev iO := @PySem.wpAny_mono
abbrev wc := @List.length_drop
abbrev A1 := @Array.length_toList
abbrev G9 := @List.take_of_length_le
abbrev z5 := @List.getElem?_map
abbrev II := @PySem.Heap.get?_update_other
abbrev Hj := @PySem.Heap.get?_update_self
abbrev A6 := @List.all_eq_true
abbrev Ez := @List.append_assoc
abbrev LO := @Array.getElem?_eq_some_iff
abbrev xE := @List.map_cons
abbrev G6 := @Bool.and_eq_true
abbrev Mj := @List.getElem?_append_right
abbrev zN := @List.map_map
abbrev xj := @PySem.wpAny_field
abbrev IC := @List.mem_flatMap
abbrev I_ := @PySem.wpAny_truthy_bool
abbrev Ho := @List.append_nil
abbrev M3 := @List.getD_eq_getElem?_getD
abbrev G7 := @PySem.wpAny_holding
abbrev Ll := @PySem.wpAny_Call_Name_kw
abbrev Pk := @List.getElem?_append_left
abbrev Lc := @PySem.wpAny_newObj_type
abbrev Pp := @List.dropLast_concat_getLast
abbrev LS := @PySem.wpAny_execs_nil
abbrev Np := @List.mem_of_mem_drop
abbrev Mo := @List.take_length
abbrev Mh := @List.lookup_cons
abbrev Pw := @PySem.wpAny_getItem_str_slice
abbrev Oy := @Int.emod_lt_of_pos
abbrev Oe := @PySem.wpAny_loadPart_at
abbrev Il := @PySem.wpAny_call
abbrev Pe := @List.take_add_one
abbrev NN := @List.nodup_append
abbrev RW := @List.take_append_of_le_length
abbrev PN := @Nat.pow_le_pow_right
abbrev Me := @PySem.wpAny_standAt
namespace L2
open PySem PySem.Spec PyProof.Rows
noncomputable abbrev Key:=Sum Int Str
noncomputable def keyIs:Key->Value->Bool
 |.inl k,v=>Value.isInt k v
 |.inr x,v=>Value.isStrOf x v
noncomputable def keyH(w:World):Key->Int
 |.inl k=>hashInt k
 |.inr x=>hashStr w x
theorem tJ:∀{k:Key}{v:Value},keyIs k v=true->(∃i t,k=Sum.inl i/\v=Value.int i t)\/(∃x t,k=Sum.inr x/\v=Value.str x t)
 |.inl i,v,h=>by
  obtain⟨t,e⟩:=Value.isInt_shape (k:=i) (v:=v) h;exact .inl ⟨i,t,rfl,e⟩
 |.inr x,v,h=>by
  obtain⟨t,e⟩:=Value.isStrOf_shape (x:=x) (v:=v) h;exact .inr ⟨x,t,rfl,e⟩
theorem AF(i:Int)(t:Tok):keyIs (.inl i) (.int i t)=true:=by simp[keyIs,Value.isInt]
theorem iF(x:Str)(t:Tok):keyIs (.inr x) (.str x t)=true:=by simp[keyIs,Value.isStrOf]
theorem LU(a b:Int):decide ((Sum.inl a:Key)=Sum.inl b)=(a == b):=by
 by_cases e:a=b
 ·subst e;simp
 ·have h:¬(Sum.inl a:Key)=Sum.inl b:=λq=>e (Sum.inl.inj q);rw[decide_eq_false h];exact(beq_eq_false_iff_ne.mpr e).symm
theorem LM(a b:Str):decide ((Sum.inr a:Key)=Sum.inr b)=decide (a=b):=by
 by_cases e:a=b
 ·subst e;simp
 ·have h:¬(Sum.inr a:Key)=Sum.inr b:=λq=>e (Sum.inr.inj q);rw[decide_eq_false h,decide_eq_false e]
theorem L9(a:Int)(b:Str):decide ((Sum.inl a:Key)=Sum.inr b)=false:=decide_eq_false (λq=>nomatch q)
theorem LR(a:Str)(b:Int):decide ((Sum.inr a:Key)=Sum.inl b)=false:=decide_eq_false (λq=>nomatch q)
noncomputable def bu(prog:Program)(w:World):PySem.KeyKind prog w Key where
 is:=keyIs
 hash:=keyH w
 inj:=λv a b ha hb=>by
  rcases tJ ha with ⟨i,t,rfl,rfl⟩|⟨x,t,rfl,rfl⟩
  ·rcases tJ hb with ⟨j,u,rfl,e⟩|⟨y,u,rfl,e⟩
   ·injection e with e1 _;rw[e1]
   ·exact nomatch e
  ·rcases tJ hb with ⟨j,u,rfl,e⟩|⟨y,u,rfl,e⟩
   ·exact nomatch e
   ·injection e with e1 _;rw[e1]
 byValue:=λk v h=>by
  rcases tJ h with ⟨i,t,rfl,rfl⟩|⟨x,t,rfl,rfl⟩<;>rfl
 pyHash:=λhv h=>by
  rcases tJ hv with ⟨i,t,rfl,rfl⟩|⟨x,t,rfl,rfl⟩
  ·exact wpAny_pyHash_int h
  ·exact wpAny_pyHash_str h
 eqBool:=λhu hv h=>by
  rcases tJ hu with ⟨i,t,rfl,rfl⟩|⟨x,t,rfl,rfl⟩
  ·rcases tJ hv with ⟨j,u,rfl,rfl⟩|⟨y,u,rfl,rfl⟩
   ·rw[LU]at h;exact wpAny_eqBool_int h
   ·rw[L9]at h;exact SeqAt.EqAt.int_str i t y u _ _ _ _ h
  ·rcases tJ hv with ⟨j,u,rfl,rfl⟩|⟨y,u,rfl,rfl⟩
   ·rw[LR]at h;exact SeqAt.EqAt.str_int x t j u _ _ _ _ h
   ·rw[LM]at h;exact wpAny_eqBool_str h
 «strs»:=λk x t v h=>by
  rcases tJ h with ⟨i,u,rfl,e⟩|⟨y,u,rfl,e⟩
  ·exact nomatch e
  ·injection e with e1 _;subst e1;cases v<;>rfl
theorem uV(prog:Program)(w:World)(i:Int)(t:Tok):(bu prog w).is (.inl i) (.int i t)=true:=AF i t
theorem vy(prog:Program)(w:World)(x:Str)(t:Tok):(bu prog w).is (.inr x) (.str x t)=true:=iF x t
set_option genInjectivity true in
inductive V where
 |aF|bl (b:Bool)|int (i:Int)|str (x:Str)|vC (b:Array UInt8)|G_ (b:UInt64)|ref (a:Addr)|ty (n:String)
 deriving DecidableEq
noncomputable def RelV:V->Value->Prop
 |.aF,u=>u=Value.none
 |.bl b,u=>u=Value.bool b
 |.int i,u=>∃t,u=Value.int i t
 |.str x,u=>∃t,u=Value.str x t
 |.vC b,u=>∃t,u=Value.bytes b t
 |.G_ b,u=>∃t,u=Value.float b t
 |.ref a,u=>u=Value.ref a
 |.ty n,u=>u=Value.type n
noncomputable abbrev Vals:List V->List Value->Prop:=Paired RelV
theorem Vals.length{xs:List V}{us:List Value}(r:Vals xs us):xs.length=us.length:=Paired.length r
theorem Vals.get:∀{xs:List V}{us:List Value}{i:Nat}{x:V},Vals xs us->xs[i]?=some x->∃u,us[i]?=some u/\RelV x u
 |_,_,_,_,.nil,e=>by simp at e
 |_,_,0,_,.cons r _,e=>by simp at e;subst e;exact⟨_,rfl,r⟩
 |_,_,i+1,x,.cons _ t,e=>by
  obtain⟨u,h1,h2⟩:=Vals.get (i:=i) (x:=x) t (by simpa using e);exact⟨u,by simpa using h1,h2⟩
theorem Vals.append:∀{xs ys:List V}{us ws:List Value},Vals xs us->Vals ys ws->Vals (xs++ys) (us++ws)
 |_,_,_,_,.nil,s=>s
 |_,_,_,_,.cons r t,s=>.cons r (Vals.append t s)
theorem Vals.take:∀{xs:List V}{us:List Value}(n:Nat),Vals xs us->Vals (xs.take n) (us.take n)
 |_,_,0,_=>.nil
 |_,_,_+1,.nil=>.nil
 |_,_,n+1,.cons r t=>.cons r (Vals.take n t)
theorem Vals.drop:∀{xs:List V}{us:List Value}(n:Nat),Vals xs us->Vals (xs.drop n) (us.drop n)
 |_,_,0,r=>r
 |_,_,_+1,.nil=>.nil
 |_,_,n+1,.cons _ t=>Vals.drop n t
noncomputable def eB:Option V->Option Value->Prop
 |some v,some u=>RelV v u
 |none,none=>True
 |_,_=>False
noncomputable def KV{κ:Type}:List (κ×V)->List (κ×Value)->Prop:=Paired λ(p:κ×V) (q:κ×Value)=>p.1=q.1/\RelV p.2 q.2
noncomputable def kV:Key->V
 |.inl i=>.int i
 |.inr x=>.str x
set_option genInjectivity true in
inductive HO where
  |lst (xs:List V)
  |tup (xs:List V)
  |dK (kvs:List (Key×V))|dT (kvs:List (List Key×V))
  |set (S:Int->Bool) (n:Nat)
  |ins (C dx:Addr) (fs:List (Str×V))
  |own (x:Addr)
  |xd (fs:List (Str×V))
  |met (f x:Addr)
  |PQ (lo hi:Int)
  |uM (o:Obj) (u:HO)
  |J_ (ps:Array Value)
  |ext (φ:Heap->Prop)
noncomputable abbrev Hp:=Addr->Option HO
noncomputable def upd(H:Hp)(a:Addr)(o:HO):Hp:=λb=>if b=a then some o else H b
theorem aE{H:Hp}{a:Addr}{o:HO}:upd H a o a=some o:=by unfold upd;rw[if_pos rfl]
theorem ae{H:Hp}{a b:Addr}{o:HO}(h:b≠a):upd H a o b=H b:=by unfold upd;rw[if_neg h]
theorem cY{H:Hp}{a:Addr}{o u:HO}:upd (upd H a o) a u=upd H a u:=by
 funext b;unfold upd;split<;>rfl
theorem bS{H:Hp}{a b:Addr}{o u:HO}(h:H a=some o)(h':H b=some u)(d:o≠u):a≠b:=by
 intro e;subst e;rw[h]at h';exact d (Option.some.inj h')
theorem cT{H:Hp}{a b:Addr}{o:HO}(h:H a=some o)(h':H b=none):a≠b:=by
 intro e;subst e;rw[h]at h';cases h'
section
variable(P:Program)(w:World)
noncomputable def a_(H:Hp)(h:Heap)(a:Addr):HO->Prop
 |.lst xs=>xs.length<=sizeLine/\∃(its:List Value) (n:Nat),Vals xs its/\h.get? a=some { cls:=.type "list", data:=.seq its.toArray n }
 |.tup xs=>xs.length<=sizeLine/\∃its:List Value,Vals xs its/\IsTup h a its.toArray
 |.dK kvs=>kvs.length<=sizeLine/\(a == sysModules)=false/\∃vs,KV kvs vs/\h.DictOf (bu P w) a vs
 |.dT kvs=>kvs.length<=sizeLine/\(a == sysModules)=false/\∃xs:List (List Key×Addr×Value),
   Paired (λ(p:List Key×V) (q:List Key×Addr×Value)=>p.1=q.1/\H q.2.1=some (.tup (p.1.map kV))/\RelV p.2 q.2.2) kvs xs/\
   ∃o es ep,h.get? a=some o/\o.ExactDict/\o.data=.dict es ep/\es.toList=xs.map (entryOfKey (tupleKind (bu P w)))/\(xs.map (·.1)).Nodup
 |.set S n=>h.SetOf (intKind P w) a S n
 |.ins C dx fs=>H dx=some (.own a)/\fs.length<=1000/\dx≠a/\h.get? a=some (instObj C dx)/\
   ∃mA,h.Ns1 dx mA/\(∀f,eB (fs.lookup f) (mA f))/\PySem.Within mA (fs.map (·.1))
 |.own _=>∃o,h.get? a=some o
 |.xd fs=>∃mA,h.Ns1 a mA/\∀f,eB (fs.lookup f) (mA f)
 |.PQ lo hi=>∃t u v,h.get? a=some { cls:=.type "range", data:=.fields #[.int lo t,.int hi u,.int 1 v] }
 |.uM o u=>h.get? a=some o/\a_ H h a u
 |.J_ ps=>h.get? a=some { cls:=.none,data:=.fields ps }
 |.met f x=>h.get? a=some (methodObj (.ref f) (.ref x))
 |.ext φ=>φ h/\(∃o,h.get? a=some o)/\∀h1 h2:Heap,φ h1->(∀o,h1.get? a=some o->h2.get? a=some o)->φ h2
def eQ(H:Hp)(h:Heap):Prop:=∀a o,H a=some o->a_ P w H h a o
end
section
variable{P:Program}{w:World}{H H':Hp}{h h':Heap}{a:Addr}{o:HO}
theorem a_.lt(x:a_ P w H h a o):a<h.objs.size:=by
 cases o with
 |lst xs=>obtain⟨_,_,_,_,e⟩:=x;exact dj e
 |tup xs=>obtain⟨_,_,_,p⟩:=x;exact p.lt
 |dK kvs=>obtain⟨_,_,_,_,o,_,_,e,_⟩:=x;exact dj e
 |dT kvs=>obtain⟨_,_,_,_,o,_,_,e,_⟩:=x;exact dj e
 |set S n=>obtain⟨o,_,_,_,e,_⟩:=x;exact dj e
 |ins C dx fs=>obtain⟨_,_,_,e,_⟩:=x;exact dj e
 |own y=>obtain⟨_,e⟩:=x;exact dj e
 |xd fs=>obtain⟨_,⟨_,_,_,e,_⟩,_⟩:=x;exact dj e
 |PQ lo hi=>obtain⟨_,_,_,e⟩:=x;exact dj e
 |uM ob u=>obtain⟨e,_⟩:=x;exact dj e
 |J_ ps=>exact dj (show h.get? a=some _ from x)
 |met f y=>exact dj (show h.get? a=some _ from x)
 |ext φ=>obtain⟨_,⟨_,e⟩,_⟩:=x;exact dj e
theorem Paired.KA{α β:Type}{F G:α->β->Prop}:∀{l₁:List α}{l₂:List β},Paired F l₁ l₂->(∀a b,F a b->G a b)->Paired G l₁ l₂
 |_,_,.nil,_=>.nil
 |_,_,.cons r t,f=>.cons (f _ _ r) (Paired.KA t f)
theorem a_.iH(x:a_ P w H h a o)(k:∀b u,(b=a\/H b=some (.own a))->h.get? b=some u->h'.get? b=some u)
  (ho:∀b,H b=some (.own a)->H' b=some (.own a)) (ht:∀b xs,H b=some (.tup xs)->H' b=some (.tup xs)):a_ P w H' h' a o:=by
 induction o with
 |lst xs=>obtain⟨z,its,n,r,e⟩:=x;exact⟨z,its,n,r,k _ _ (.inl rfl) e⟩
 |tup xs=>obtain⟨z,its,r,ob,e,c⟩:=x;exact⟨z,its,r,ob,k _ _ (.inl rfl) e,c⟩
 |dK kvs=>obtain⟨z,y,vs,r,ob,es,ep,e,c⟩:=x;exact⟨z,y,vs,r,ob,es,ep,k _ _ (.inl rfl) e,c⟩
 |dT kvs=>
  obtain⟨z,y,xs,r,ob,es,ep,e,c⟩:=x;exact⟨z,y,xs,Paired.KA r λp q z=>⟨z.1,ht _ _ z.2.1,z.2.2⟩,ob,es,ep,k _ _ (.inl rfl) e,c⟩
 |set S n=>obtain⟨ob,es,ep,t,e,c⟩:=x;exact⟨ob,es,ep,t,k _ _ (.inl rfl) e,c⟩
 |ins C dx fs=>
  obtain⟨d,z,ne,e,mA,⟨od,es,ep,e2,c⟩,r⟩:=x;exact⟨ho _ d,z,ne,k _ _ (.inl rfl) e,mA,⟨od,es,ep,k _ _ (.inr d) e2,c⟩,r⟩
 |own y=>obtain⟨ob,e⟩:=x;exact⟨ob,k _ _ (.inl rfl) e⟩
 |xd fs=>obtain⟨mA,⟨od,es,ep,e,c⟩,r⟩:=x;exact⟨mA,⟨od,es,ep,k _ _ (.inl rfl) e,c⟩,r⟩
 |PQ lo hi=>obtain⟨t,u,v,e⟩:=x;exact⟨t,u,v,k _ _ (.inl rfl) e⟩
 |uM ob u ih=>obtain⟨e,q⟩:=x;exact⟨k _ _ (.inl rfl) e,ih q⟩
 |J_ ps=>
  have e:h.get? a=some { cls:=.none,data:=.fields ps }:=x;show h'.get? a=some { cls:=.none,data:=.fields ps };exact k a _ (.inl rfl) e
 |met f y=>
  have e:h.get? a=some (methodObj (.ref f) (.ref y)):=x;show h'.get? a=some (methodObj (.ref f) (.ref y));exact k a _ (.inl rfl) e
 |ext φ=>obtain⟨p,⟨o,e⟩,st⟩:=x;exact⟨st _ _ p λo q=>k _ _ (.inl rfl) q,⟨o,k _ _ (.inl rfl) e⟩,st⟩
theorem eQ.lt(x:eQ P w H h)(e:H a=some o):a<h.objs.size:=(x a o e).lt
theorem eQ.fresh(x:eQ P w H h)(e:h.objs.size<=a):H a=none:=by
 cases q:H a with
 |none=>rfl
 |some u=>exact absurd (kh (x.lt q) e) (ku _)
theorem eQ.kept(x:eQ P w H h)(k:∀b u,h.get? b=some u->h'.get? b=some u):eQ P w H h':=λa o e=>
 (x a o e).iH (λb u _ q=>k b u q) (λ_ q=>q) λ_ _ q=>q
theorem eQ.laid(x:eQ P w H h)(k:∀b u,h.get? b=some u->h'.get? b=some u)(hp:h.objs.size<=a)(new:a_ P w (upd H a o) h' a o):eQ P w (upd H a o) h':=λb u e=>by
 have hn:=x.fresh hp;by_cases hb:b=a
 ·subst hb;rw[aE]at e;cases e;exact new
 ·rw[ae hb]at e;exact(x b u e).iH (λc v _ q=>k c v q) (λc q=>by rw[ae (cT q hn)];exact q) λc xs q=>by rw[ae (cT q hn)];exact q
end
def Rd(H:Hp)(a:Addr)(u:HO):Prop:=H a=some u\/∃o,H a=some (.uM o u)
theorem Rd.ok{P:Program}{w:World}{H:Hp}{h:Heap}{a:Addr}{u:HO}(r:Rd H a u)(x:eQ P w H h):a_ P w H h a u:=by
 rcases r with r|⟨o,r⟩
 ·exact x a u r
 ·obtain⟨_,q⟩:=x a _ r;exact q
noncomputable def NQ:Option HO->Prop
 |some (.lst _)=>True
 |some (.dK _)=>True
 |some (.dT _)=>True
 |some (.set _ _)=>True
 |some (.ins _ _ _)=>True
 |some (.ext _)=>True
 |_=>False
section
variable{P:Program}{w:World}{H:Hp}{h h':Heap}{x e:Addr}{o':HO}
theorem eQ.write(ok:eQ P w H h)(mu:NQ (H x))(he:e=x\/H e=some (.own x))(k:∀b u,b≠e->h.get? b=some u->h'.get? b=some u)(heo:∃u,h'.get? e=some u)
  (new:a_ P w (upd H x o') h' x o'):eQ P w (upd H x o') h':=λb u q=>by
 have nown:∀c y,H c=some (.own y)->c≠x:=λc y r z=>by subst z;rw[r]at mu;exact mu
 have ntup:∀c xs,H c=some (.tup xs)->c≠x:=λc xs r z=>by subst z;rw[r]at mu;exact mu
 by_cases hb:b=x
 ·subst hb;rw[aE]at q;cases q;exact new
 ·rw[ae hb]at q;by_cases hbe:b=e
  ·have q':H b=some (.own x):=by
    rcases he with z|z
    ·exact absurd (hbe.trans z) hb
    ·rw[hbe];exact z
   rw[q]at q';cases q';obtain⟨v,hv⟩:=heo;exact⟨v,by rw[hbe];exact hv⟩
  ·refine(ok b u q).iH (λc v hc r=>k c v ?_ r) (λc r=>by rw[ae (nown c b r)];exact r) λc xs r=>by rw[ae (ntup c xs r)];exact r
   rcases hc with rfl|hc
   ·exact hbe
   ·rintro rfl;rcases he with z|z
    ·exact nown c b hc z
    ·rw[hc]at z;cases z;exact hb rfl
end
structure Un(fs ex:List Addr)(H H':Hp)(h h':Heap):Prop where
 keep:∀b o,h.get? b=some o->H b=none->b∉fs->b∉ex->h'.get? b=some o
 slot:∀b o,h.get? b=some o->H b=none->b∈fs->b∉ex->∃sl,h'.get? b=some { o with slots:=sl }
 free:∀b o,h.get? b=some o->H b=none->b∉ex->H' b=none
 there:∀b o,h.get? b=some o->b∉ex->∃o',h'.get? b=some o'
 ij:∀b xs,H b=some (.tup xs)->H' b=some (.tup xs)
 g8:∀b o u,H b=some (.uM o u)->H' b=some (.uM o u)
 ia:∀b ps,H b=some (.J_ ps)->∃more,H' b=some (.J_ (ps++more))
section
variable{fs fs' ex ex':List Addr}{H H1 H2:Hp}{h h1 h2 h':Heap}{a x e:Addr}{o:HO}
theorem Un.any(u:Un fs ex H H1 h h1){b:Addr}{ob:Obj}(q:h.get? b=some ob)(n:H b=none)(hx:b∉ex):∃sl,h1.get? b=some { ob with slots:=sl }:=by
 by_cases hb:b∈fs
 ·exact u.slot b ob q n hb hx
 ·exact⟨ob.slots,u.keep b ob q n hb hx⟩
theorem Un.kept(k:∀b u,h.get? b=some u->h'.get? b=some u):Un fs ex H H h h':=
 ⟨λb ob q _ _ _=>k b ob q,λb ob q _ _ _=>⟨ob.slots,k b ob q⟩,λ_ _ _ n _=>n,λb ob q _=>⟨ob,k b ob q⟩,λ_ _ q=>q,λ_ _ _ q=>q,λ_ ps q=>⟨#[],by rw[q];simp⟩⟩
theorem Un.refl:Un fs ex H H h h:=Un.kept λ_ _ q=>q
theorem Un.laid(k:∀b u,h.get? b=some u->h'.get? b=some u)(hp:h.objs.size<=a)(hn:H a=none):Un fs ex H (upd H a o) h h' where
 keep:=λb u q _ _ _=>k b u q
 slot:=λb u q _ _ _=>⟨u.slots,k b u q⟩
 free:=λb u q n _=>by rw[ae (lE (kh (dj q) hp))];exact n
 there:=λb u q _=>⟨u,k b u q⟩
 ij:=λb xs q=>by rw[ae (cT q hn)];exact q
 g8:=λb u xs q=>by rw[ae (cT q hn)];exact q
 ia:=λb ps q=>⟨#[],by rw[ae (cT q hn),q];simp⟩
theorem Un.write(mu:NQ (H x))(he:e=x\/H e=some (.own x))(k:∀b u,b≠e->h.get? b=some u->h'.get? b=some u)(heo:∃u,h'.get? e=some u):Un fs ex H (upd H x o) h h':=by
 have hx:∀b,H b=none->b≠x:=λb n z=>by subst z;rw[n]at mu;exact mu
 have hb:∀b,H b=none->b≠e:=λb n z=>by
  subst z;rcases he with r|r
  ·exact hx b n r
  ·rw[n]at r;cases r
 have hm:∀b u,H b=some u->¬NQ (some u)->b≠x:=λb u q nm z=>by subst z;rw[q]at mu;exact nm mu
 refine⟨λb u q n _ _=>k b u (hb b n) q,λb u q n _ _=>⟨u.slots,k b u (hb b n) q⟩,λb u q n _=>by rw[ae (hx b n)];exact n,λb u q _=>?_,
  λb xs q=>by rw[ae (hm b _ q λz=>z)];exact q,λb u xs q=>by rw[ae (hm b _ q λz=>z)];exact q,λb ps q=>⟨#[],by rw[ae (hm b _ q λz=>z),q];simp⟩⟩
 by_cases hbe:b=e
 ·subst hbe;exact heo
 ·exact⟨u,k b u hbe q⟩
end
noncomputable def Pz(h:Heap)(H:Hp):List Addr:=(List.range h.objs.size).filter λa=>(H a).isSome
noncomputable def rY(h:Heap)(H:Hp):Heap:=PySem.W.hideAll h (Pz h H)
theorem z3(h:Heap)(H:Hp):(rY h H).objs.size=h.objs.size:=PySem.W.hideAll_size _ _
theorem DO{h:Heap}{H:Hp}{b:Addr}{o:Obj}(e:h.get? b=some o)(n:H b=none):(rY h H).get? b=some o:=
 PySem.W.hideAll_get _ e λhm=>by
  have q:(H b).isSome=true:=(List.mem_filter.mp hm).2;rw[n]at q;simp at q
theorem IE{h:Heap}{H:Hp}{b:Addr}{o:Obj}(e:(rY h H).get? b=some o):h.get? b=some o/\H b=none:=by
 have e':h.get? b=some o:=PySem.W.of_hideAll (Pz h H) e;refine⟨e',?_⟩;cases q:H b with
 |none=>rfl
 |some x=>
  have hm:b∈Pz h H:=List.mem_filter.mpr ⟨List.mem_range.mpr (dj e'),by simp[q]⟩;have z:(rY h H).get? b=none:=PySem.W.hideAll_none (Pz h H) hm;rw[z]at e;cases e
noncomputable def HG(g h:Heap)(L:Addr):Lo:=(List.range h.objs.size).filterMap λa=>if a=L\/(g.get? a).isSome=true then none else (h.get? a).map λo=>(a,o)
noncomputable def rest(g h:Heap)(L d:Addr):Lo:=(HG g h L).filter λp=>decide (p.1≠d)
structure Mod(K:Wf)(mg:So)(base:Heap):Prop where
 Hq:K.In base
 glob:base.Ns mainGlobals mg
 blt:∃mb,base.Ns builtinsNs mb/\∀x:Str,x ≠ "__name__" -> mb x=bootBuiltins x
 nolimit:base.NoLimit
structure Cx where
 prog:Program
 w:World
 K:Wf
 mg:Str->Option Value
 base:Heap
 A:Around
 N:List Str
 s₀:Shared
 H₀:Hp
 env:Env
 outer:List Env
 stack:List Env
 ex:List Addr
 fn:Str->Bool
 calm:Bool
 pn:Lo
 xe:Value->Shared->Prop
noncomputable def hZ(l:List Env):List Addr:=l.filterMap (·.frame)
noncomputable abbrev Cx.fs(X:Cx):List Addr:=hZ X.outer
def Tq(sc:Scope)(x:Str):Prop:=sc.names.lookup x=some .local\/sc.names.lookup x=some .cell\/sc.names.lookup x=some .free
def Loc(sc:Scope)(x:Str):Prop:=sc.names.lookup x=some .local\/sc.names.lookup x=some .cell
def Look(env:Env)(h:Heap)(m:So)(x:Str)(u:Value):Prop:=
 (env.kindOf x=some .local/\m x=some u)\/((env.kindOf x=some .cell\/env.kindOf x=some .free)/\∃c,env.cells.lookup x=some c/\h.IsCell c (some u))
structure Cx.Ok(X:Cx):Prop where
 mod:Mod X.K X.mg X.base
 kind:X.env.scope.kind=.function
 glob:X.env.globals=mainGlobals
 blt:X.env.builtins=builtinsNs
 above:X.s₀.heap.objs.size<=X.env.locals
 inj:∀x y c,X.env.cells.lookup x=some c->X.env.cells.lookup y=some c->x=y
 has:∀x,(X.env.kindOf x=some .cell\/X.env.kindOf x=some .free)->∃c,X.env.cells.lookup x=some c
 KJ:∀x c,X.fn x=true->X.env.cells.lookup x=some c->X.s₀.heap.objs.size<=c
 hd:X.calm=true->X.A.handled=none
 frames:X.A.frames=some X.stack
 Ir:X.stack=X.outer\/(X.stack=X.env::X.outer/\X.env.frame=some X.env.locals)
 Mf:∀b∈X.ex,b≠X.env.locals/\∀x c,X.env.cells.lookup x=some c->c≠b
 bs:∀b o,X.base.get? b=some o->X.s₀.heap.get? b=some o/\X.H₀ b=none
 GK:X.base.objs.size<=X.s₀.heap.objs.size
 wa:∀b o,X.base.get? b=some o->b∉X.ex
 uQ:∀b∈X.ex,b∉X.fs
 h_:X.s₀.heap.FunFrames X.base X.outer
 Ig:∀b∈X.fs,X.H₀ b=none
structure Inv(X:Cx)(pins:Lo)(σ:List (Option V))(H:Hp)(s:Shared):Prop where
 ok:X.Ok
 os:s.os=X.s₀.os
 bare:AllBare s.gens
 base:Un X.fs X.ex X.H₀ H X.s₀.heap s.heap
 loc:∃m,s.heap.Ns X.env.locals m/\∀(i:Nat) (x:Str) (v:V),X.N[i]?=some x->σ[i]?=some (some v)->Tq X.env.scope x->∃u,RelV v u/\Look X.env s.heap m x u
 cell:∀x c,X.env.cells.lookup x=some c->∃v,s.heap.IsCell c v
 free:H X.env.locals=none
 eJ:∀x c,X.env.cells.lookup x=some c->H c=none
 pin:∀p∈X.pn++pins,s.heap.get? p.1=some p.2/\H p.1=none/\p.1≠X.env.locals/\p.1∉X.fs/\∀v,p.2.data≠.cell v
 aN:eQ X.prog X.w H s.heap
 len:σ.length=X.N.length
section
variable{X:Cx}{pins:Lo}{σ:List (Option V)}{H H':Hp}{s:Shared}{h':Heap}
theorem Cx.Ok.Rj(ok:X.Ok){b:Addr}{o:Obj}(e:X.base.get? b=some o):b∉X.fs:=λhb=>by
 have:=(ok.h_.mem hb).1;rw[e]at this;cases this
theorem Inv.bs(I:Inv X pins σ H s):∀b o,X.base.get? b=some o->s.heap.get? b=some o/\H b=none:=λb o e=>
 ⟨I.base.keep b o (I.ok.bs b o e).1 (I.ok.bs b o e).2 (I.ok.Rj e) (I.ok.wa b o e),I.base.free b o (I.ok.bs b o e).1 (I.ok.bs b o e).2 (I.ok.wa b o e)⟩
theorem Inv.bk(I:Inv X pins σ H s):∀b o,X.base.get? b=some o->s.heap.get? b=some o:=λb o e=>(I.bs b o e).1
theorem Inv.mod(I:Inv X pins σ H s):Mod X.K X.mg X.base:=I.ok.mod
theorem Inv.fk(I:Inv X pins σ H s):X.K.In s.heap:=I.ok.mod.Hq.keeps I.bk
theorem Inv.lt(I:Inv X pins σ H s):X.env.locals<s.heap.objs.size:=let ⟨_,hn,_⟩:=I.loc;hn.lt
theorem Inv.sz(I:Inv X pins σ H s):X.s₀.heap.objs.size<=s.heap.objs.size:=dy I.ok.above (Nat.le_of_lt I.lt)
theorem Inv.Nt(I:Inv X pins σ H s){a:Addr}(h:s.heap.objs.size<=a):a∉X.fs:=λhb=>by
 obtain⟨_,o,ho,_⟩:=I.ok.h_.mem hb;exact absurd (kh (dj ho) (dy I.sz h)) (ku _)
theorem Inv.Cn(I:Inv X pins σ H s):∀x c,X.env.cells.lookup x=some c->c≠X.env.locals:=λx c e z=>by
 obtain⟨v,o,ho,hd⟩:=I.cell x c e;obtain⟨m,⟨o',es,ep,ho',hd',_⟩,_⟩:=I.loc;rw[z,ho']at ho;cases ho;rw[hd']at hd;cases hd
theorem Inv.h_(I:Inv X pins σ H s):s.heap.FunFrames X.base X.outer:=by
 have all:∀(l:List Env),(∀b∈hZ l,b∈X.fs)->X.s₀.heap.FunFrames X.base l->s.heap.FunFrames X.base l:=by
  intro l
  induction l with
  |nil=>intro _ _;trivial
  |cons env r ih=>
   intro hs hl;obtain⟨hk,⟨L,o,hf,hn,ho,hd⟩,hr⟩:=hl;have hL:L∈X.fs:=hs L (by unfold hZ;rw[List.filterMap_cons,hf];exact List.mem_cons_self);obtain⟨sl,e⟩:=I.base.slot L o ho (I.ok.Ig L hL) hL λz=>I.ok.uQ L z hL;exact⟨hk,⟨L,_,hf,hn,e,hd⟩,ih (λb hb=>hs b (by unfold hZ;rw[List.filterMap_cons,hf];exact List.mem_cons_of_mem _ hb)) hr⟩
 exact all X.outer (λ_ hb=>hb) I.ok.h_
theorem Inv.stack(I:Inv X pins σ H s):s.heap.FunFrames X.base X.stack:=by
 rcases I.ok.Ir with e|⟨e,hf⟩
 ·rw[e];exact I.h_
 ·rw[e];obtain⟨m,hn,_⟩:=I.loc;refine .cons (by rw[I.ok.kind];decide) hf hn ?_ I.h_;exact Heap.get?_none_of_le (dy I.ok.GK I.ok.above)
theorem Inv.wm(I:Inv X pins σ H s):∀b∈hZ X.stack,b∈X.env.locals::X.fs:=λb hb=>by
 rcases I.ok.Ir with e|⟨e,hf⟩
 ·rw[e]at hb;exact t_ _ hb
 ·rw[e]at hb;unfold hZ at hb;rw[List.filterMap_cons,hf]at hb;exact hb
theorem Inv.ik(I:Inv X pins σ H s):∀b∈hZ X.stack,H b=none:=λb hb=>by
 rcases lL.mp (I.wm b hb) with e|hb
 ·rw[e];exact I.free
 ·obtain⟨_,o,ho,_⟩:=I.ok.h_.mem hb;exact I.base.free b o ho (I.ok.Ig b hb) λz=>I.ok.uQ b z hb
theorem Inv.step{g':Array GenState}{t':Nat}{d':Drawn}{ch:List Addr}(I:Inv X pins σ H s)
  (hch:∀b∈ch,(b∈X.ex\/X.s₀.heap.objs.size<=b)/\b≠X.env.locals/\(∀x c,X.env.cells.lookup x=some c->c≠b)/\∀p∈X.pn++pins,p.1≠b)
  (keep:∀b o,b≠X.env.locals->b∉X.fs->b∉ch->s.heap.get? b=some o->H b=none->h'.get? b=some o)
  (slot:∀b o,b≠X.env.locals->b∈X.fs->b∉ch->s.heap.get? b=some o->H b=none->∃sl,h'.get? b=some { o with slots:=sl }) (free:∀b o,b∉ch->s.heap.get? b=some o->H b=none->H' b=none)
  (there:∀b o,b∉ch->s.heap.get? b=some o->∃o',h'.get? b=some o')
  (ij:∀b xs,H b=some (.tup xs)->H' b=some (.tup xs)) (g8:∀b o u,H b=some (.uM o u)->H' b=some (.uM o u)) (ia:∀b ps,H b=some (.J_ ps)->∃more,H' b=some (.J_ (ps++more)))
  (ns:∀m,s.heap.Ns X.env.locals m->h'.Ns X.env.locals m) (aN:eQ X.prog X.w H' h') (hg:AllBare g'):
  Inv X pins σ H' { s with heap:=h',gens:=g',drawn:=d',toks:=t' }:=by
 have neL:∀b o,X.s₀.heap.get? b=some o->b≠X.env.locals:=λb o e=>lE (kh (dj e) I.ok.above);have neC:∀b o,X.s₀.heap.get? b=some o->b∉X.ex->b∉ch:=λb o e hx hb=>by
  rcases (hch b hb).1 with z|z
  ·exact hx z
  ·exact absurd (kh (dj e) z) (ku _)
 have cellK:∀x c,X.env.cells.lookup x=some c->∀v,s.heap.IsCell c v->h'.IsCell c v:=λx c e v ⟨o,ho,hd⟩=>by
  have nch:c∉ch:=λz=>(hch c z).2.2.1 x c e rfl;by_cases hc:c∈X.fs
  ·obtain⟨sl,q⟩:=slot c o (I.Cn x c e) hc nch ho (I.eJ x c e);exact⟨_,q,hd⟩
  ·exact⟨o,keep c o (I.Cn x c e) hc nch ho (I.eJ x c e),hd⟩
 refine⟨I.ok,I.os,hg,⟨λb o e n hb hx=>?_,λb o e n hb hx=>?_,λb o e n hx=>?_,λb o e hx=>?_,λb xs e=>ij b xs (I.base.ij b xs e),λb o xs e=>g8 b o xs (I.base.g8 b o xs e),λb ps e=>?_⟩,?_,λx c e=>?_,?_,λx c e=>?_,λp hp=>?_,aN,I.len⟩
 ·exact keep b o (neL b o e) hb (neC b o e hx) (I.base.keep b o e n hb hx) (I.base.free b o e n hx)
 ·obtain⟨sl,e1⟩:=I.base.slot b o e n hb hx;obtain⟨sl',e2⟩:=slot b _ (neL b o e) hb (neC b o e hx) e1 (I.base.free b o e n hx);exact⟨sl',e2⟩
 ·obtain⟨o',e1⟩:=I.base.there b o e hx;exact free b o' (neC b o e hx) e1 (I.base.free b o e n hx)
 ·obtain⟨o',e1⟩:=I.base.there b o e hx;exact there b o' (neC b o e hx) e1
 ·obtain⟨m1,e1⟩:=I.base.ia b ps e;obtain⟨m2,e2⟩:=ia b _ e1;exact⟨m1++m2,by rw[e2,Array.append_assoc]⟩
 ·obtain⟨m,hn,hl⟩:=I.loc;refine⟨m,ns m hn,λi x v e1 e2 e3=>?_⟩;obtain⟨u,r,l⟩:=hl i x v e1 e2 e3;refine⟨u,r,?_⟩;rcases l with l|⟨k,c,e,z⟩
  ·exact .inl l
  ·exact .inr ⟨k,c,e,cellK x c e _ z⟩
 ·obtain⟨v,z⟩:=I.cell x c e;exact⟨v,cellK x c e v z⟩
 ·obtain⟨m,⟨o,_,_,ho,_⟩,_⟩:=I.loc;exact free _ o (λz=>(hch _ z).2.1 rfl) ho I.free
 ·obtain⟨v,o,ho,hd⟩:=I.cell x c e;exact free c o (λz=>(hch c z).2.2.1 x c e rfl) ho (I.eJ x c e)
 ·obtain⟨e,n,ne,nf,d⟩:=I.pin p hp;have nch:p.1∉ch:=λz=>(hch p.1 z).2.2.2 p hp rfl;exact⟨keep p.1 p.2 ne nf nch e n,free p.1 p.2 nch e n,ne,nf,d⟩
theorem Inv.un{t':Nat}(I:Inv X pins σ H s)(u:Un X.fs [] H H' s.heap h')(aN:eQ X.prog X.w H' h'):Inv X pins σ H' { s with heap:=h',toks:=t' }:=by
 obtain⟨m,⟨o,es,ep,ho,r⟩,_⟩:=id I.loc;obtain⟨sl,hL⟩:=u.any ho I.free (by simp);exact I.step (g':=s.gens) (d':=s.drawn) (ch:=[]) (λ_ z=>nomatch z) (λb o _ hb _ e n=>u.keep b o e n hb (by simp)) (λb o _ hb _ e n=>u.slot b o e n hb (by simp)) (λb o _ e n=>u.free b o e n (by simp)) (λb o _ e=>u.there b o e (by simp)) u.ij u.g8 u.ia (λm' hm=>by
  obtain⟨o',es',ep',ho',r'⟩:=hm;rw[ho]at ho';cases ho';exact⟨_,es',ep',hL,r'⟩) aN I.bare
theorem Inv.call{g':Array GenState}{t':Nat}{d':Drawn}{ch:List Addr}(I:Inv X pins σ H s)(u:Un (hZ X.stack) ch H H' s.heap h')(aN:eQ X.prog X.w H' h')(hg:AllBare g')
  (hch:∀b∈ch,(b∈X.ex\/X.s₀.heap.objs.size<=b)/\b≠X.env.locals/\(∀x c,X.env.cells.lookup x=some c->c≠b)/\∀p∈X.pn++pins,p.1≠b):
  Inv X pins σ H' { s with heap:=h',gens:=g',drawn:=d',toks:=t' }:=by
 obtain⟨m,⟨o,es,ep,ho,r⟩,_⟩:=id I.loc;obtain⟨sl,hL⟩:=u.any ho I.free λz=>(hch _ z).2.1 rfl;exact I.step (ch:=ch) hch (λb o hL hb hc e n=>u.keep b o e n (λz=>(lL.mp (I.wm b z)).elim hL hb) hc) (λb o _ _ hc e n=>u.any e n hc) (λb o hc e n=>u.free b o e n hc) (λb o hc e=>u.there b o e hc) u.ij u.g8 u.ia (λm' hm=>by
  obtain⟨o',es',ep',ho',r'⟩:=hm;rw[ho]at ho';cases ho';exact⟨_,es',ep',hL,r'⟩) aN hg
theorem Inv.turned{t':Nat}{it:Addr}(I:Inv X pins σ H s)(k:∀b o,b≠it->s.heap.get? b=some o->h'.get? b=some o)(hn:H it=none)(hL:it≠X.env.locals)
  (h1:it∈X.ex\/X.s₀.heap.objs.size<=it) (h2:∀x c,X.env.cells.lookup x=some c->c≠it) (h3:∀p∈X.pn++pins,p.1≠it):Inv X pins σ H { s with heap:=h',toks:=t' }:=by
 have nit:∀b u,H b=some u->b≠it:=λb u e z=>by rw[z,hn]at e;cases e
 refine I.step (g':=s.gens) (d':=s.drawn) (ch:=[it]) (λb hb=>?_) (λb o _ _ hc e _=>k b o (λz=>hc (by simp[z])) e) (λb o _ _ hc e _=>⟨o.slots,k b o (λz=>hc (by simp[z])) e⟩) (λ_ _ _ _ n=>n)
  (λb o hc e=>⟨o,k b o (λz=>hc (by simp[z])) e⟩) (λ_ _ e=>e) (λ_ _ _ e=>e) (λb ps e=>⟨#[],by rw[e];simp⟩) (λm hm=>?_) (λb u e=>?_) I.bare
 ·have e:b=it:=by simpa using hb
  subst e;exact⟨h1,hL,h2,h3⟩
 ·obtain⟨o,es,ep,ho,r⟩:=hm;exact⟨o,es,ep,k _ o (Ne.symm hL) ho,r⟩
 ·refine(I.aN b u e).iH (λc v hc q=>k c v ?_ q) (λ_ q=>q) λ_ _ q=>q;rcases hc with z|z
  ·rw[z];exact nit b u e
  ·exact nit c _ z
theorem Inv.tok(I:Inv X pins σ H s)(t:Nat):Inv X pins σ H { s with toks:=t }:=I.un (h':=s.heap) (t':=t) Un.refl I.aN
theorem Inv.kept{t':Nat}(I:Inv X pins σ H s)(k:∀b u,s.heap.get? b=some u->h'.get? b=some u):Inv X pins σ H { s with heap:=h',toks:=t' }:=I.un (Un.kept k) (I.aN.kept k)
theorem Inv.laid{a:Addr}{o:HO}{t':Nat}(I:Inv X pins σ H s)(k:∀b u,s.heap.get? b=some u->h'.get? b=some u)(hp:s.heap.objs.size<=a)(new:a_ X.prog X.w (upd H a o) h' a o):
  Inv X pins σ (upd H a o) { s with heap:=h',toks:=t' }:=I.un (Un.laid k hp (I.aN.fresh hp)) (I.aN.laid k hp new)
theorem Inv.write{x e:Addr}{o:HO}{t':Nat}(I:Inv X pins σ H s)(mu:NQ (H x))(he:e=x\/H e=some (.own x))(k:∀b u,b≠e->s.heap.get? b=some u->h'.get? b=some u)(heo:∃u,h'.get? e=some u)
  (new:a_ X.prog X.w (upd H x o) h' x o):Inv X pins σ (upd H x o) { s with heap:=h',toks:=t' }:=I.un (Un.write mu he k heo) (I.aN.write mu he k heo new)
theorem Inv.weak{σ':List (Option V)}(I:Inv X pins σ H s)(hl:σ'.length=σ.length)(w:∀(i:Nat) v,σ'[i]?=some (some v)->σ[i]?=some (some v)):Inv X pins σ' H s:=
 ⟨I.ok,I.os,I.bare,I.base,let ⟨m,hn,hl'⟩:=I.loc;⟨m,hn,λi x v e1 e2 e3=>hl' i x v e1 (w i v e2) e3⟩,I.cell,I.free,I.eJ,I.pin,I.aN,hl.trans I.len⟩
theorem Inv.j7{pins':Lo}(I:Inv X pins σ H s)(h:∀p∈pins',s.heap.get? p.1=some p.2/\H p.1=none/\p.1≠X.env.locals/\p.1∉X.fs/\∀v,p.2.data≠.cell v):Inv X pins' σ H s:=
 ⟨I.ok,I.os,I.bare,I.base,I.loc,I.cell,I.free,I.eJ,λp hp=>(eC.mp hp).elim (λz=>I.pin p (vB _ z)) (h p),I.aN,I.len⟩
theorem lB{N:List Str}(hN:N.Nodup){i j:Nat}{x:Str}(a:N[i]?=some x)(b:N[j]?=some x):i=j:=by
 obtain⟨h1,e1⟩:=we.mp a;obtain⟨h2,e2⟩:=we.mp b;exact(List.getElem_inj hN).mp (e1.trans e2.symm)
theorem z_{M:Model}{A:Around}{E:Vs}{i:Nat}{x:Str}{v:V}{u:Value}{Q:Unit->Shared->Prop}(I:Inv X pins σ H s)(hN:X.N.Nodup)(hi:X.N[i]?=some x)(hx:Loc X.env.scope x)(r:RelV v u)
  (h:∀s',Inv X pins (σ.set i (some v)) H s'->(∃a,Heap.SameBut a s.heap s'.heap/\(a=X.env.locals\/X.env.cells.lookup x=some a))->Q () s') (hf:X.fn x=true\/X.env.scope.names.lookup x=some .local:=by first|exact .inl rfl|exact .inr rfl|assumption):wpAny M A (storeName X.env x u) Q E s:=by
 obtain⟨m,hn,hl⟩:=id I.loc;have hcls:(X.env.scope.kind == .class || (X.env.scope.kind == .module&&X.env.locals != X.env.globals))=false:=by rw[I.ok.kind];rfl
 have hiσ:i<σ.length:=by rw[I.len];exact(we.mp hi).1
 have Cn:=I.Cn;have tracked:∀{a:Addr}{h':Heap},(∃o,s.heap.get? a=some o/\H a=none)->Heap.SameBut a s.heap h'->eQ X.prog X.w H h':=λ{a h'} ha hs b ob e=>by
  obtain⟨_,_,hfree⟩:=ha;refine(I.aN b ob e).iH (λc w' hc q=>(hs.2 c ?_).trans q) (λ_ q=>q) λ_ _ q=>q;rintro rfl;rcases hc with rfl|hc
  ·rw[hfree]at e;cases e
  ·rw[hfree]at hc;cases hc
 rcases hx with hk|hk
 ·refine wpAny_storeName_local hk hn (λh' hn' hs=>?_) hcls;obtain⟨oL,_,_,hoL,_⟩:=id hn;refine h _ ⟨I.ok,I.os,I.bare,⟨λb o e n hb hx=>?_,λb o e n hb hx=>?_,I.base.free,λb o e hx=>?_,I.base.ij,I.base.g8,I.base.ia⟩,⟨_,hn',λj y v' e1 e2 e3=>?_⟩,λy c e=>?_,I.free,I.eJ,λp hp=>?_,tracked ⟨oL,hoL,I.free⟩ hs,by simpa using I.len⟩ ⟨_,hs,.inl rfl⟩
  ·exact(hs.2 b (lE (kh (dj e) I.ok.above))).trans (I.base.keep b o e n hb hx)
  ·obtain⟨sl,e1⟩:=I.base.slot b o e n hb hx;exact⟨sl,(hs.2 b (lE (kh (dj e) I.ok.above))).trans e1⟩
  ·obtain⟨o',e1⟩:=I.base.there b o e hx;exact⟨o',(hs.2 b (lE (kh (dj e) I.ok.above))).trans e1⟩
  ·by_cases hj:j=i
   ·subst hj;rw[hi]at e1;cases e1;rw[List.getElem?_set_self hiσ]at e2;cases e2;exact⟨u,r,.inl ⟨hk,by simp⟩⟩
   ·rw[List.getElem?_set_ne (Ne.symm hj)]at e2;obtain⟨u',r',q⟩:=hl j y v' e1 e2 e3;refine⟨u',r',?_⟩;rcases q with ⟨k,e⟩|⟨k,c,e,z⟩
    ·refine .inl ⟨k,?_⟩;have:y≠x:=λe=>hj (lB hN e1 (e▸hi));simp[this,e]
    ·exact .inr ⟨k,c,e,z.sameBut hs (Cn y c e)⟩
  ·obtain⟨w',z⟩:=I.cell y c e;exact⟨w',z.sameBut hs (Cn y c e)⟩
  ·obtain⟨e,n,ne,nf,d⟩:=I.pin p hp;exact⟨(hs.2 p.1 ne).trans e,n,ne,nf,d⟩
 ·have hfn:X.fn x=true:=by
   rcases hf with z|z
   ·exact z
   ·rw[z]at hk;cases hk
  obtain⟨c,hc⟩:=I.ok.has x (.inl hk);obtain⟨w',z⟩:=I.cell x c hc;refine wpAny_storeName_cell I.ok.kind hk hc z (λh' hc' hs=>?_);obtain⟨oc,hoc,hocd⟩:=id z;refine h { s with heap:=h' } ⟨I.ok,I.os,I.bare,⟨λb o e n hb hx=>?_,λb o e n hb hx=>?_,I.base.free,λb o e hx=>?_,I.base.ij,I.base.g8,I.base.ia⟩,⟨m,hn.sameBut hs (Ne.symm (Cn x c hc)),λj y v' e1 e2 e3=>?_⟩,λy c' e=>?_,I.free,I.eJ,λp hp=>?_,tracked ⟨oc,hoc,I.eJ x c hc⟩ hs,by simpa using I.len⟩ ⟨c,hs,.inr hc⟩
  ·exact(hs.2 b (lE (kh (dj e) (I.ok.KJ x c hfn hc)))).trans (I.base.keep b o e n hb hx)
  ·obtain⟨sl,e1⟩:=I.base.slot b o e n hb hx;exact⟨sl,(hs.2 b (lE (kh (dj e) (I.ok.KJ x c hfn hc)))).trans e1⟩
  ·obtain⟨o',e1⟩:=I.base.there b o e hx;exact⟨o',(hs.2 b (lE (kh (dj e) (I.ok.KJ x c hfn hc)))).trans e1⟩
  ·by_cases hj:j=i
   ·subst hj;rw[hi]at e1;cases e1;rw[List.getElem?_set_self hiσ]at e2;cases e2;exact⟨u,r,.inr ⟨.inl hk,c,hc,hc'⟩⟩
   ·rw[List.getElem?_set_ne (Ne.symm hj)]at e2;obtain⟨u',r',q⟩:=hl j y v' e1 e2 e3;refine⟨u',r',?_⟩;rcases q with q|⟨k,c',e,z'⟩
    ·exact .inl q
    ·refine .inr ⟨k,c',e,z'.sameBut hs ?_⟩;rintro rfl;exact hj (lB hN e1 (I.ok.inj _ _ _ e hc▸hi))
  ·by_cases hcc:c'=c
   ·subst hcc;exact⟨_,hc'⟩
   ·obtain⟨w2,z2⟩:=I.cell y c' e;exact⟨w2,z2.sameBut hs hcc⟩
  ·obtain⟨e,n,ne,nf,d⟩:=I.pin p hp;refine⟨(hs.2 p.1 ?_).trans e,n,ne,nf,d⟩;intro q;rw[q,hoc]at e;have q':oc=p.2:=Option.some.inj e;exact d w' (by rw[<-q'];exact hocd)
theorem h8{M:Model}{A:Around}{E:Vs}{i:Nat}{x:Str}{v:V}{u:Value}{Q:Unit->Shared->Prop}(I:Inv X pins σ H s)(hN:X.N.Nodup)(hi:X.N[i]?=some x)(hx:Loc X.env.scope x)(r:RelV v u)
  (h:∀s',Inv X pins (σ.set i (some v)) H s'->Q () s') (hf:X.fn x=true\/X.env.scope.names.lookup x=some .local:=by first|exact .inl rfl|exact .inr rfl|assumption):wpAny M A (storeName X.env x u) Q E s:=
 z_ I hN hi hx r (λs' I' _=>h s' I') hf
theorem Inv.xr{s':Shared}{ch:List Addr}(I:Inv X pins σ H s)(ho:s'.os=s.os)(u:Un (hZ X.stack) ch H H' s.heap s'.heap)(aN:eQ X.prog X.w H' s'.heap)(hg:AllBare s'.gens)
  (hch:∀b∈ch,(b∈X.ex\/X.s₀.heap.objs.size<=b)/\b≠X.env.locals/\(∀x c,X.env.cells.lookup x=some c->c≠b)/\∀p∈X.pn++pins,p.1≠b):Inv X pins σ H' s':=by
 obtain⟨h',g',d',t',o'⟩:=s';have e:o'=s.os:=ho;subst e;exact I.call (g':=g') (t':=t') (d':=d') u aN hg hch
end
noncomputable abbrev XK:=Value->Option Addr->Hp->Prop
noncomputable abbrev St:=List (Option V)
noncomputable abbrev VK:=V->Hp->Prop
noncomputable abbrev TE:=St->Hp->VK->Prop
noncomputable abbrev TT:=St->Hp->(Bool->Hp->Prop)->Prop
noncomputable abbrev TA:=St->Hp->(List V->Hp->Prop)->Prop
structure Ends where
 nx:St->Hp->Prop
 rt:VK
 bk:St->Hp->Prop:=λ_ _=>False
 ct:St->Hp->Prop:=λ_ _=>False
noncomputable abbrev TS:=Ends->St->Hp->Prop
def EP(X:Cx)(pins:Lo)(σ:St)(Q:VK)(u:Value)(s':Shared):Prop:=∃v H',Inv X pins σ H' s'/\RelV v u/\Q v H'
def TP(X:Cx)(pins:Lo)(σ:St)(Q:Bool->Hp->Prop)(b:Bool)(s':Shared):Prop:=∃H',Inv X pins σ H' s'/\Q b H'
def AP(X:Cx)(pins:Lo)(σ:St)(Q:List V->Hp->Prop)(us:List Value)(s':Shared):Prop:=∃vs H',Inv X pins σ H' s'/\Vals vs us/\Q vs H'
def SP(X:Cx)(pins:Lo)(D:Ends)(f:Flow)(s':Shared):Prop:=
 match f with
 |.next=>∃σ' H',Inv X pins σ' H' s'/\D.nx σ' H'
 |.brk=>∃σ' H',Inv X pins σ' H' s'/\D.bk σ' H'
 |.cont=>∃σ' H',Inv X pins σ' H' s'/\D.ct σ' H'
 |.ret u=>∃v σ' H',Inv X pins σ' H' s'/\RelV v u/\D.rt v H'
def PE(X:Cx)(e:Expr)(t:TE):Prop:=
 ∀(pins:Lo) (s:Shared) (σ:St) (H:Hp) (Q:VK),Inv X pins σ H s->t σ H Q->wpAny (model X.prog X.w) X.A (eval e X.env) (EP X pins σ Q) X.xe s
def PT(X:Cx)(e:Expr)(t:TT):Prop:=
 ∀(pins:Lo) (s:Shared) (σ:St) (H:Hp) (Q:Bool->Hp->Prop),Inv X pins σ H s->t σ H Q->wpAny (model X.prog X.w) X.A (isTrue e X.env (eval e X.env)) (TP X pins σ Q) X.xe s
def PW(X:Cx)(e:Expr)(t:TT):Prop:=
 ∀(whole:Sem Value) (pins:Lo) (s:Shared) (σ:St) (H:Hp) (Q:Bool->Hp->Prop),Inv X pins σ H s->t σ H Q->wpAny (model X.prog X.w) X.A (isTrue e X.env whole) (TP X pins σ Q) X.xe s
theorem PW.pt{X:Cx}{e:Expr}{t:TT}(h:PW X e t):PT X e t:=h _
def PA(X:Cx)(es:List Expr)(t:TA):Prop:=
 ∀(pos:Pos) (pins:Lo) (s:Shared) (σ:St) (H:Hp) (Q:List V->Hp->Prop),Inv X pins σ H s->t σ H Q->wpAny (model X.prog X.w) X.A (spliced (backTo pos (starEach es X.env))) (AP X pins σ Q) X.xe s
def PS(X:Cx)(st:Stmt)(t:TS):Prop:=
 ∀(pins:Lo) (s:Shared) (σ:St) (H:Hp) (D:Ends),Inv X pins σ H s->t D σ H->wpAny (model X.prog X.w) X.A (exec st X.env) (SP X pins D) X.xe s
def lV(X:Cx)(st:List Stmt)(t:TS):Prop:=
 ∀(pins:Lo) (s:Shared) (σ:St) (H:Hp) (D:Ends),Inv X pins σ H s->t D σ H->wpAny (model X.prog X.w) X.A (execs st X.env) (SP X pins D) X.xe s
theorem bx{α:Type}{t:Sem α}{Q Q':α->Shared->Prop}{M:Model}{A:Around}{E:Vs}{s:Shared}(h:wpAny M A t Q E s)(hQ:∀a s,Q a s->Q' a s):wpAny M A t Q' E s:=iO h hQ λ_ _ x=>x
section
variable{X:Cx}
noncomputable def PH:List (Option V)->Nat->(V->Prop)->Prop
 |[],_,_=>False
 |o::_,0,Q=>match o with
  |some v=>Q v
  |none=>False
 |_::r,n+1,Q=>PH r n Q
theorem Cq:∀{σ:List (Option V)}{i:Nat}{Q:V->Prop},PH σ i Q->∃v,σ[i]?=some (some v)/\Q v
 |some v::_,0,_,h=>⟨v,rfl,h⟩
 |_::r,n+1,_,h=>Cq (σ:=r) (i:=n) h
def M7(i:Nat):TE:=λσ H Q=>PH σ i λv=>Q v H
def tC(v:V):TE:=λ_ H Q=>Q v H
theorem Kg{i:Nat}{x:Str}{pos:Pos}(hN:X.N[i]?=some x)(hv:Tq X.env.scope x)(hd:(x == ("__debug__" : Str))=false:=by decide)(hcd:(x == ("__classdict__" : Str))=false:=by decide):PE X (.Name x pos) (M7 i):=by
 intro pins s σ H Q I h;obtain⟨v,e,h⟩:=Cq h;obtain⟨m,hn,hl⟩:=I.loc;obtain⟨u,r,l⟩:=hl i x v hN e hv;have fin:EP X pins σ Q u s:=⟨v,H,I,r,h⟩
 rcases l with ⟨hk,hm⟩|⟨hk,c,hc,hcell⟩
 ·exact wpAny_Name (wpAny_loadName_local I.ok.kind hk hn hm fin) hd
 ·rcases hk with hk|hk
  ·exact wpAny_Name (wpAny_loadName_cell I.ok.kind hk hc hcell fin) hd
  ·exact wpAny_Name (wpAny_loadName_free I.ok.kind hk hc hcell fin hcd) hd
theorem ah{i j pos}:PE X (.Constant (.int i) j pos) (tC (.int i)):=λ_ _ _ H _ I h=>wpAny_Constant_int ⟨.int i,H,I.tok _,⟨_,rfl⟩,h⟩
theorem cy{b j pos}:PE X (.Constant (.bool b) j pos) (tC (.bl b)):=λ_ _ _ H _ I h=>Constant_bool ⟨.bl b,H,I,rfl,h⟩
theorem cG{j pos}:PE X (.Constant .none j pos) (tC .aF):=λ_ _ _ H _ I h=>Constant_none ⟨.aF,H,I,rfl,h⟩
theorem af{x j pos}:PE X (.Constant (.str x) j pos) (tC (.str x)):=λ_ _ _ H _ I h=>Calls.Constant_str ⟨.str x,H,I.tok _,⟨_,rfl⟩,h⟩
def Gl(X:Cx)(x:Str):Prop:=X.env.kindOf x=some .globalImplicit
theorem dm{E:Vs}{pins:Lo}{s:Shared}{σ:St}{H:Hp}{x:Str}{u:Value}{pos:Pos}{Q:Vs}(I:Inv X pins σ H s)(hg:Gl X x)(hm:X.mg x=some u)(h:Q u s)
  (hd:(x == ("__debug__" : Str))=false:=by decide):wpAny (model X.prog X.w) X.A (eval (.Name x pos) X.env) Q E s:=
 Calls.Name_function_global I.ok.kind hg (Calls.loadGlobal_global (by rw[I.ok.glob];exact I.mod.glob.keeps I.bk) hm h) hd
theorem iD{E:Vs}{pins:Lo}{s:Shared}{σ:St}{H:Hp}{x:Str}{u:Value}{pos:Pos}{Q:Vs}(I:Inv X pins σ H s)(hg:Gl X x)(hm:X.mg x=none)(hv:bootBuiltins x=some u)(h:Q u s)
  (hn:x ≠ "__name__" := by decide) (hd:(x == ("__debug__" : Str))=false:=by decide):wpAny (model X.prog X.w) X.A (eval (.Name x pos) X.env) Q E s:=by
 obtain⟨mb,h1,h2⟩:=I.mod.blt;exact Calls.Name_function_global I.ok.kind hg (Calls.loadGlobal_builtin (by rw[I.ok.glob];exact I.mod.glob.keeps I.bk) hm (by rw[I.ok.blt];exact h1.keeps I.bk) ((h2 x hn).trans hv) h) hd
theorem cg{x:Str}{v:V}{u:Value}{pos:Pos}(hg:Gl X x)(hm:X.mg x=some u)(r:RelV v u)(hd:(x == ("__debug__" : Str))=false:=by decide):PE X (.Name x pos) (tC v):=
 λ_ _ _ H _ I h=>dm I hg hm ⟨v,H,I,r,h⟩ hd
theorem oW{x:Str}{v:V}{u:Value}{pos:Pos}(hg:Gl X x)(hm:X.mg x=none)(hv:bootBuiltins x=some u)(r:RelV v u)(hn:x ≠ "__name__" := by decide)(hd:(x == ("__debug__" : Str))=false:=by decide):PE X (.Name x pos) (tC v):=
 λ_ _ _ H _ I h=>iD I hg hm hv ⟨v,H,I,r,h⟩ hn hd
variable{a b:Expr}{ta tb:TE}{pos:Pos}
def PC(X:Cx)(op:CmpOp)(a b:Expr)(t:TE):Prop:=
 ∀(pins:Lo) (s:Shared) (σ:St) (H:Hp) (Q:VK),Inv X pins σ H s->t σ H Q->
  wpAny (model X.prog X.w) X.A (eval a X.env) (λv s₁=>wpAny (model X.prog X.w) X.A (eval b X.env) (λu s₂=>wpAny (model X.prog X.w) X.A (compareOp op v u) (EP X pins σ Q) X.xe s₂) X.xe s₁) X.xe s
theorem E1(b:Expr){op:CmpOp}(h:op≠.In)(h2:op≠.NotIn):behindInMarks op b=false:=by
 have e1:(op == CmpOp.In)=false:=by cases op<;>first|rfl|exact absurd rfl h
 have e2:(op == CmpOp.NotIn)=false:=by cases op<;>first|rfl|exact absurd rfl h2
 cases b<;>simp[behindInMarks,e1,e2]
def tB(t:TE):TT:=λσ H Q=>t σ H λx H1=>∃c,x=.bl c/\Q c H1
theorem Ky{op:CmpOp}{t:TE}(h:PC X op a b t)(h1:behindInMarks op b=false:=by first|exact E1 _ (by decide) (by decide)|rfl):PT X (.Compare a [op] [b] pos) (tB t):=by
 intro pins s σ H Q I hw;refine wpAny_isTrue_Compare1 (bx (h pins s σ H _ I hw) λv s1 h1=>bx h1 λu s2 h2=>bx h2 λc s3 ⟨x,H1,I1,r1,q1⟩=>?_) h1;obtain⟨d,rfl,q⟩:=q1;cases r1;exact I_ ⟨H1,I1,q⟩
theorem df{e:Expr}{t:TE}(h:PE X e t)(he:∀whole,isTrue e X.env whole=(do let v <-whole;standAt e.pos;holding [v] (truthy v)):=by intro _;rfl):PT X e (tB t):=by
 intro pins s σ H Q I hw;refine isTrue_plain (bx (h pins s σ H _ I hw) λv s1 ⟨x,H1,I1,r1,q1⟩=>?_) (he _);obtain⟨d,rfl,q⟩:=q1;cases r1;exact I_ ⟨H1,I1,q⟩
variable{tA tB':TT}{rest:List Expr}
def RG(t u:TT):TT:=λσ H Q=>t σ H λc H1=>if c=true then u σ H1 Q else Q false H1
def Uh(t u:TT):TT:=λσ H Q=>t σ H λc H1=>if c=true then Q true H1 else u σ H1 Q
def Qb(t:TT):TT:=λσ H Q=>t σ H λc H1=>Q (!c) H1
theorem j5(ha:PT X a tA):PW X (.BoolOp .And [a] pos) tA:=by
 intro wh pins s σ H Q I h;refine isTrue_and (bx (ha pins s σ H Q I h) λc s1 e=>?_);cases c with
 |true=>exact isTrue_and_nil e
 |false=>exact e
theorem dA(ha:PT X a tA):PW X (.BoolOp .Or [a] pos) tA:=by
 intro wh pins s σ H Q I h;refine isTrue_or (bx (ha pins s σ H Q I h) λc s1 e=>?_);cases c with
 |false=>exact isTrue_or_nil e
 |true=>exact e
theorem lC(ha:PT X a tA)(hb:PW X (.BoolOp .And (b::rest) pos) tB'):PW X (.BoolOp .And (a::b::rest) pos) (RG tA tB'):=by
 intro wh pins s σ H Q I h;refine isTrue_and (bx (ha pins s σ H _ I h) λc s1 ⟨H1,I1,q1⟩=>?_);cases c with
 |true=>exact hb wh pins s1 σ H1 Q I1 q1
 |false=>exact⟨H1,I1,q1⟩
theorem eY(ha:PT X a tA)(hb:PW X (.BoolOp .Or (b::rest) pos) tB'):PW X (.BoolOp .Or (a::b::rest) pos) (Uh tA tB'):=by
 intro wh pins s σ H Q I h;refine isTrue_or (bx (ha pins s σ H _ I h) λc s1 ⟨H1,I1,q1⟩=>?_);cases c with
 |true=>exact⟨H1,I1,q1⟩
 |false=>exact hb wh pins s1 σ H1 Q I1 q1
theorem dZ(ha:PT X a tA):PT X (.UnaryOp .Not a pos) (Qb tA):=by
 intro pins s σ H Q I h;exact isTrue_not (ha pins s σ H (λc H1=>Q (!c) H1) I h)
def Ol(ta tb:TE):TE:=λσ H Q=>ta σ H λx H1=>∃c,x=.bl c/\if c=true then tb σ H1 Q else Q (.bl false) H1
def Ue(ta tb:TE):TE:=λσ H Q=>ta σ H λx H1=>∃c,x=.bl c/\if c=true then Q (.bl true) H1 else tb σ H1 Q
def Nv(ta:TE):TE:=λσ H Q=>ta σ H λx H1=>∃c,x=.bl c/\Q (.bl (!c)) H1
theorem pf{op}{t:TE}(h:PE X a t):PE X (.BoolOp op [a] pos) t:=λpins s σ H Q I hw=>BoolOp_one (h pins s σ H Q I hw)
theorem pU(ha:PE X a ta)(hb:PE X (.BoolOp .And (b::rest) pos) tb):PE X (.BoolOp .And (a::b::rest) pos) (Ol ta tb):=by
 intro pins s σ H Q I h;refine BoolOp_and (bx (ha pins s σ H _ I h) λv s1 ⟨x,H1,I1,r1,q1⟩=>?_);obtain⟨c,rfl,q1⟩:=q1;cases r1;refine I_ ?_;cases c with
 |true=>exact hb pins s1 σ H1 Q I1 q1
 |false=>exact⟨.bl false,H1,I1,rfl,q1⟩
theorem K1(ha:PE X a ta):PE X (.UnaryOp .Not a pos) (Nv ta):=by
 intro pins s σ H Q I h;refine UnaryOp_ (bx (ha pins s σ H _ I h) λv s1 ⟨x,H1,I1,r1,q1⟩=>?_);obtain⟨c,rfl,q1⟩:=q1;cases r1;exact not_of (I_ ⟨.bl (!c),H1,I1,rfl,q1⟩)
def Uk(t:TT)(ta tb:TE):TE:=λσ H Q=>t σ H λc H1=>if c=true then ta σ H1 Q else tb σ H1 Q
theorem kz{c:Expr}(hc:PT X c tA)(ha:PE X a ta)(hb:PE X b tb):PE X (.IfExp c a b pos) (Uk tA ta tb):=by
 intro pins s σ H Q I h;refine wpAny_IfExp (bx (hc pins s σ H _ I h) λd s1 ⟨H1,I1,q1⟩=>?_);cases d with
 |true=>exact ha pins s1 σ H1 Q I1 q1
 |false=>exact hb pins s1 σ H1 Q I1 q1
end
def aC(K:Wf)(H:Hp)(a:Addr)(xs:List V):Prop:=
 Rd H a (.lst xs) \/
  ∃(o:Obj) (its:Array Value) (n:Nat),K.lookup a=some o/\o.cls=.type "list" /\ o.dict=none/\o.data=.seq its n/\its.size<=sizeLine/\Vals xs its.toList
def dH(K:Wf)(H:Hp)(a:Addr)(xs:List V):Prop:=
 Rd H a (.tup xs) \/
  ∃(o:Obj) (its:Array Value) (n:Nat),K.lookup a=some o/\o.cls=.type "tuple" /\ o.data=.seq its n/\its.size<=sizeLine/\Vals xs its.toList
noncomputable def QY:Value->Option V
 |.none=>some .aF
 |.bool b=>some (.bl b)
 |.int i _=>some (.int i)
 |.str x _=>some (.str x)
 |.bytes b _=>some (.vC b)
 |.float b _=>some (.G_ b)
 |.ref a=>some (.ref a)
 |.type n=>some (.ty n)
 |_=>none
theorem RelV.abs{x:V}{u:Value}(r:RelV x u):QY u=some x:=by
 cases x with
 |aF=>cases r;rfl
 |bl _=>cases r;rfl
 |int _=>obtain⟨t,rfl⟩:=r;rfl
 |str _=>obtain⟨t,rfl⟩:=r;rfl
 |vC _=>obtain⟨t,rfl⟩:=r;rfl
 |G_ _=>obtain⟨t,rfl⟩:=r;rfl
 |ref _=>cases r;rfl
 |ty _=>cases r;rfl
theorem RelV.inj{x y:V}{u:Value}(r:RelV x u)(q:RelV y u):x=y:=Option.some.inj (r.abs.symm.trans q.abs)
theorem Vals.inj:∀{xs ys:List V}{us:List Value},Vals xs us->Vals ys us->xs=ys
 |_,_,_,.nil,.nil=>rfl
 |_,_,_,.cons r t,.cons r' t'=>by rw[r.inj r',Vals.inj t t']
section
variable{X:Cx}{pins:Lo}{σ:St}{H:Hp}{s:Shared}{a:Addr}{xs ys:List V}
theorem aC.of{K:Wf}(h:H a=some (.lst xs)):aC K H a xs:=.inl (.inl h)
theorem dH.of{K:Wf}(h:H a=some (.tup xs)):dH K H a xs:=.inl (.inl h)
theorem Inv.list(I:Inv X pins σ H s)(h:aC X.K H a xs):∃its:List Value,Vals xs its/\PlainL s.heap a its.toArray/\xs.length<=sizeLine:=by
 rcases h with h|⟨o,its,n,hk,hc,hd,hs,hz,r⟩
 ·obtain⟨z,its,n,r,e⟩:=h.ok I.aN;exact⟨its,r,⟨_,n,e,rfl,rfl,rfl⟩,z⟩
 ·refine⟨its.toList,r,⟨o,n,I.fk a o hk,hc,hd,by simpa using hs⟩,?_⟩;have e:=r.length;simp only[Array.length_toList]at e;omega
theorem Inv.tuple(I:Inv X pins σ H s)(h:dH X.K H a xs):∃its:List Value,Vals xs its/\IsTup s.heap a its.toArray/\xs.length<=sizeLine:=by
 rcases h with h|⟨o,its,n,hk,hc,hs,hz,r⟩
 ·obtain⟨z,its,r,p⟩:=h.ok I.aN;exact⟨its,r,p,z⟩
 ·refine⟨its.toList,r,⟨o,I.fk a o hk,hc,n,by simpa using hs⟩,?_⟩;have e:=r.length;simp only[Array.length_toList]at e;omega
theorem Inv.gq(I:Inv X pins σ H s)(h:aC X.K H a xs)(h':aC X.K H a ys):xs=ys:=by
 obtain⟨its,r,⟨o,n,e,_,_,d⟩,_⟩:=I.list h;obtain⟨its',r',⟨o',n',e',_,_,d'⟩,_⟩:=I.list h';rw[e]at e';cases e';rw[d]at d';injection d' with d1 _;have:its=its':=by simpa using congrArg Array.toList d1
 subst this;exact r.inj r'
theorem Inv.mF(I:Inv X pins σ H s)(h:dH X.K H a xs)(h':dH X.K H a ys):xs=ys:=by
 obtain⟨its,r,⟨o,e,_,n,d⟩,_⟩:=I.tuple h;obtain⟨its',r',⟨o',e',_,n',d'⟩,_⟩:=I.tuple h';rw[e]at e';cases e';rw[d]at d';injection d' with d1 _;have:its=its':=by simpa using congrArg Array.toList d1
 subst this;exact r.inj r'
end
noncomputable abbrev Cx.gW(X:Cx)(E:Vs):Cx:={ X with xe:=E }
noncomputable abbrev Cx.Mn(X:Cx):Cx:=X.gW λ_ _=>False
theorem Cx.Ok.gW{X:Cx}(ok:X.Ok)(E:Vs):(X.gW E).Ok:=
 ⟨ok.mod,ok.kind,ok.glob,ok.blt,ok.above,ok.inj,ok.has,ok.KJ,ok.hd,ok.frames,ok.Ir,ok.Mf,ok.bs,ok.GK,ok.wa,ok.uQ,ok.h_,ok.Ig⟩
theorem Cx.Ok.dz{X:Cx}{E:Vs}(ok:(X.gW E).Ok):X.Ok:=
 ⟨ok.mod,ok.kind,ok.glob,ok.blt,ok.above,ok.inj,ok.has,ok.KJ,ok.hd,ok.frames,ok.Ir,ok.Mf,ok.bs,ok.GK,ok.wa,ok.uQ,ok.h_,ok.Ig⟩
section
variable{X:Cx}{pins:Lo}{σ:St}{H:Hp}{s:Shared}{E:Vs}
theorem Inv.gW(I:Inv X pins σ H s)(E:Vs):Inv (X.gW E) pins σ H s:=⟨I.ok.gW E,I.os,I.bare,I.base,I.loc,I.cell,I.free,I.eJ,I.pin,I.aN,I.len⟩
theorem Inv.dz(I:Inv (X.gW E) pins σ H s):Inv X pins σ H s:=⟨I.ok.dz,I.os,I.bare,I.base,I.loc,I.cell,I.free,I.eJ,I.pin,I.aN,I.len⟩
theorem SP.dz{D:Ends}{f:Flow}{s':Shared}(h:SP (X.gW E) pins D f s'):SP X pins D f s':=by
 cases f with
 |next=>obtain⟨σ',H',I,q⟩:=h;exact⟨σ',H',I.dz,q⟩
 |brk=>obtain⟨σ',H',I,q⟩:=h;exact⟨σ',H',I.dz,q⟩
 |cont=>obtain⟨σ',H',I,q⟩:=h;exact⟨σ',H',I.dz,q⟩
 |ret u=>obtain⟨v,σ',H',I,r,q⟩:=h;exact⟨v,σ',H',I.dz,r,q⟩
theorem lV.Mn{st:List Stmt}{t:TS}(h:lV X.Mn st t):lV X st t:=λpins s σ H D I hw=>
 iO (h pins s σ H D (I.gW _) hw) (λ_ _ q=>q.dz) λ_ _ z=>False.elim z
end
section
variable{X:Cx}{st:Stmt}{rest:List Stmt}{t u:TS}{e:Expr}{te:TE}{pos:Pos}
def Pg:TS:=λD σ H=>D.nx σ H
def RO(t u:TS):TS:=λD σ H=>t { D with nx:=u D } σ H
theorem bD:lV X [] Pg:=λ_ _ σ H _ I h=>LS ⟨σ,H,I,h⟩
theorem aL(h1:PS X st t)(h2:lV X rest u):lV X (st::rest) (RO t u):=by
 intro pins s σ H D I h;refine wpAny_execs_cons (bx (h1 pins s σ H { D with nx:=u D } I h) λf s1 q=>?_);cases f with
 |next=>
  obtain⟨σ',H',I',q⟩:=q;exact h2 pins s1 σ' H' D I' q
 |ret v=>exact q
 |brk=>exact q
 |cont=>exact q
theorem bE(h1:PS X st t):lV X [st] t:=by
 intro pins s σ H D I h;refine wpAny_execs_cons (bx (h1 pins s σ H D I h) λf s1 q=>?_);cases f with
 |next=>exact LS q
 |ret v=>exact q
 |brk=>exact q
 |cont=>exact q
theorem Inv.quiet{pins:Lo}{σ:St}{H:Hp}{s:Shared}(I:Inv X pins σ H s):interactive X.env=false:=by simp[interactive,I.ok.kind]
def Nr(te:TE):TS:=λD σ H=>te σ H λ_ H1=>D.nx σ H1
theorem bU(he:PE X e te)(hs:swapsWith e none pos.line X.env=pure false:=by rfl):PS X (.Expr e pos) (Nr te):=by
 intro pins s σ H D I h;exact wpAny_Expr_any (bx (he pins s σ H _ I h) λv s1 ⟨x,H1,I1,r1,q1⟩=>⟨σ,H1,I1,q1⟩) I.quiet hs
def Qd(te:TE):TS:=λD σ H=>te σ H D.rt
theorem au(he:PE X e te):PS X (.Return (some e) pos) (Qd te):=by
 intro pins s σ H D I h;exact wpAny_Return_some (bx (he pins s σ H _ I h) λv s1 ⟨x,H1,I1,r1,q1⟩=>⟨x,σ,H1,I1,r1,q1⟩)
def SM:TS:=λD _ H=>D.rt .aF H
def QB(c:TT)(t u:TS):TS:=λD σ H=>c σ H λb H1=>if b=true then t D σ H1 else u D σ H1
theorem aM{c:Expr}{a b:List Stmt}{tc:TT}(hc:PT X c tc)(ha:lV X a t)(hb:lV X b u):PS X (.If c a b pos) (QB tc t u):=by
 intro pins s σ H D I h;refine wpAny_If (bx (hc pins s σ H _ I h) λd s1 ⟨H1,I1,q1⟩=>?_);cases d with
 |true=>exact ha pins s1 σ H1 D I1 q1
 |false=>exact hb pins s1 σ H1 D I1 q1
end
noncomputable abbrev TG:=V->St->Hp->(St->Hp->Prop)->Prop
noncomputable abbrev J9:=List V->St->Hp->(St->Hp->Prop)->Prop
def PG(X:Cx)(target:Expr)(t:TG):Prop:=
 ∀(pins:Lo) (s:Shared) (σ:St) (H:Hp) (v:V) (u:Value) (Q:St->Hp->Prop),Inv X pins σ H s->RelV v u->t v σ H Q->
  wpAny (model X.prog X.w) X.A (assign target X.env u) (λ_ s'=>∃σ' H',Inv X pins σ' H' s'/\Q σ' H') X.xe s
def NA(X:Cx)(ts:List Expr)(t:J9):Prop:=
 ∀(pins:Lo) (s:Shared) (σ:St) (H:Hp) (vs:List V) (us:List Value) (Q:St->Hp->Prop),Inv X pins σ H s->Vals vs us->t vs σ H Q->
  wpAny (model X.prog X.w) X.A (assignInOrder ((assignEach ts X.env).map (·.2)) us) (λ_ s'=>∃σ' H',Inv X pins σ' H' s'/\Q σ' H') X.xe s
noncomputable abbrev Qc:=V->V->V->Hp->(Hp->Prop)->Prop
section
variable{X:Cx}{pos:Pos}
def uH(i:Nat):TG:=λv σ H Q=>Q (σ.set i (some v)) H
theorem HB{i:Nat}{x:Str}(hN:X.N.Nodup)(hi:X.N[i]?=some x)(hx:Loc X.env.scope x)(hf:X.fn x=true\/X.env.scope.names.lookup x=some .local:=by first|exact .inl rfl|exact .inr rfl|assumption):PG X (.Name x pos) (uH i):=by
 intro pins s σ H v u Q I r h;exact wpAny_assign_Name (h8 I hN hi hx r (λs' I'=>⟨_,H,I',h⟩) hf)
noncomputable def Qk:J9:=λvs σ H Q=>vs=[]/\Q σ H
noncomputable def Pl(t:TG)(u:J9):J9:=λvs σ H Q=>∃v r,vs=v::r/\t v σ H λσ' H'=>u r σ' H' Q
theorem fA:NA X [] Qk:=by
 intro pins s σ H vs us Q I r h;obtain⟨e,h⟩:=h;subst e;cases r;exact assignInOrder_nil ⟨σ,H,I,h⟩
theorem fH{e:Expr}{es:List Expr}{t:TG}{u:J9}(h1:PG X e t)(h2:NA X es u)
  (hs:(assignEach (e::es) X.env).map (·.2)=assign e X.env::(assignEach es X.env).map (·.2):=by rfl):NA X (e::es) (Pl t u):=by
 intro pins s σ H vs us Q I r h;obtain⟨v,vr,e1,h⟩:=h;subst e1;cases r with
 |cons r rr=>
  rw[hs];refine assignInOrder_cons (bx (h1 pins s σ H _ _ _ I r h) λ_ s1 ⟨σ1,H1,I1,q1⟩=>?_);exact h2 pins s1 σ1 H1 _ _ Q I1 rr q1
def OS(K:Wf)(n:Nat)(t:J9):TG:=λv σ H Q=>∃a xs,v=.ref a/\dH K H a xs/\xs.length=n/\t xs σ H Q
theorem KD{es:List Expr}{k:Nat}{t:J9}{n:Nat}(hc:X.calm=true)(h:NA X es t)
  (hn:(assignEach es X.env).length=n:=by rfl) (hst:(assignEach es X.env).findIdx? (·.1)=none:=by rfl):PG X (.Tuple es k pos) (OS X.K n t):=by
 intro pins s σ H v u Q I r hw;obtain⟨a,xs,e1,hq,hl,hw⟩:=hw;subst e1;cases r;obtain⟨its,rv,ht,hz⟩:=I.tuple hq;refine assign_Tuple_tuple (I.ok.hd hc) ht (by simp[hn,<-hl,rv.length]) hst λh' hx=>?_;have I1:Inv X pins σ H { s with heap:=h' }:=I.kept (t':=s.toks) λb o e=>hx b o (lE (dj e)) e;exact h pins _ σ H xs _ Q I1 (by simpa using rv) hw
def Uu(to ti:TE)(t:Qc):TG:=λv σ H Q=>to σ H λo H1=>ti σ H1 λi H2=>t o i v H2 λH3=>Q σ H3
def Ip(te:TE)(g:TG):TS:=λD σ H=>te σ H λx H1=>g x σ H1 D.nx
theorem Eb{tg e:Expr}{te:TE}{g:TG}(he:PE X e te)(hg:PG X tg g)(hs:swapsWithSole [tg] e pos.line X.env=pure false:=by rfl)(hw:swappedStores [tg] e X.env=pure none:=by rfl)
  (h1:(assignEach [tg] X.env).map (·.2)=[assign tg X.env]:=by rfl):PS X (.Assign [tg] e pos) (Ip te g):=by
 intro pins s σ H D I h;refine wpAny_Assign_stores (bx (he pins s σ H _ I h) λv s1 ⟨x,H1,I1,r1,q1⟩=>?_) hs hw;rw[h1];exact bx (hg pins s1 σ H1 x v _ I1 r1 q1) λ_ s2 q=>q
theorem bR{i:Nat}{x:Str}{e:Expr}{te:TE}{pos':Pos}(hN:X.N.Nodup)(hi:X.N[i]?=some x)(hx:Loc X.env.scope x)(he:PE X e te)(hs:swapsWith e (some (.Name x pos')) pos.line X.env=pure false:=by rfl)(hf:X.fn x=true\/X.env.scope.names.lookup x=some .local:=by first|exact .inl rfl|exact .inr rfl|assumption):
  PS X (.Assign [.Name x pos'] e pos) (Ip te (uH i)):=by
 intro pins s σ H D I h;refine wpAny_Assign_Name (bx (he pins s σ H _ I h) λv s1 ⟨y,H1,I1,r1,q1⟩=>?_) hs;exact h8 I1 hN hi hx r1 (λs2 I2=>⟨_,H1,I2,q1⟩) hf
end
section
variable{X:Cx}{pos:Pos}
end
structure It where
 go:Nat->Hp->Prop
 z9:Nat->Hp->V->Hp->Prop
 stop:Nat->Hp->Prop
def g9(X:Cx)(pins:Lo)(H:Hp)(b:Addr):Prop:=
 H b=none/\b≠X.env.locals/\b∉X.fs/\(b∈X.ex\/X.s₀.heap.objs.size<=b)/\(∀x c,X.env.cells.lookup x=some c->c≠b)/\∀p∈X.pn++pins,p.1≠b
theorem Inv.Fj{X:Cx}{pins:Lo}{σ:St}{H H':Hp}{s:Shared}{b:Addr}(I:Inv X pins σ H s)(hb:s.heap.objs.size<=b)(hn:H' b=none):g9 X pins H' b:=by
 refine⟨hn,Nat.ne_of_gt (kh I.lt hb),I.Nt hb,.inr (dy I.sz hb),λx c e z=>?_,λp hp z=>?_⟩
 ·obtain⟨v,q⟩:=I.cell x c e;exact absurd (kh q.lt (by rw[z];exact hb)) (ku _)
 ·exact absurd (kh (dj (I.pin p hp).1) (by rw[z];exact hb)) (ku _)
structure Turn(P:Program)(w:World)(K:Wf)(tg:Expr)(J:It)(fp:List Addr)(it:Addr)(tn:Nat->Heap->Prop):Prop where
 mem:it∈fp
 obj:∀i h,tn i h->∀b∈fp,∃o,h.get? b=some o/\∀v,o.data≠.cell v
 keep:∀i h h',tn i h->(∀b∈fp,∀o,h.get? b=some o->h'.get? b=some o)->tn i h'
 item:∀(X:Cx),X.prog=P->X.w=w->X.K=K->X.calm=true->∀(i:Nat) (pins:Lo) (s:Shared) (σ:St) (H:Hp) (E:Vs),Inv X pins σ H s->(∀b∈fp,g9 X pins H b)->tn i s.heap->J.go i H->
  wpAny (model P w) X.A (pyNext (.ref it)) (λr s1=>∃u,r=some u/\
   wpAny (model P w) X.A (letOwnedTupleGo tg (.ref it) u) (λ_ s2=>∃x H',Inv X pins σ H' s2/\RelV x u/\J.z9 i H x H'/\tn (i+1) s2.heap/\∀b∈fp,H' b=none) E s1) E s
 done:∀(X:Cx),X.prog=P->X.w=w->X.K=K->X.calm=true->∀(i:Nat) (pins:Lo) (s:Shared) (σ:St) (H:Hp) (E:Vs),Inv X pins σ H s->(∀b∈fp,g9 X pins H b)->tn i s.heap->J.stop i H->
  wpAny (model P w) X.A (pyNext (.ref it)) (λr s1=>r=none/\Inv X pins σ H s1) E s
 self:∀(A:Around) (i:Nat) (s:Shared) (Q:Vs) (E:Vs),tn i s.heap->Q (.ref it) s->wpAny (model P w) A (pyIter (.ref it)) Q E s
noncomputable abbrev TI:=St->Hp->(It->Hp->Prop)->Prop
def RE(X:Cx)(pins:Lo)(σ:St)(tg:Expr)(R:It->Hp->Prop)(itv:Value)(s2:Shared):Prop:=
 ∃(it:Addr) (fp:List Addr) (tn:Nat->Heap->Prop) (J:It) (H':Hp),itv=.ref it/\Inv X pins σ H' s2/\Turn X.prog X.w X.K tg J fp it tn/\tn 0 s2.heap/\(∀b∈fp,g9 X pins H' b)/\R J H'
def PI(X:Cx)(tg iter:Expr)(wi:TI):Prop:=
 ∀(pins:Lo) (s:Shared) (σ:St) (H:Hp) (R:It->Hp->Prop),Inv X pins σ H s->wi σ H R->
  wpAny (model X.prog X.w) X.A (eval iter X.env) (λv s1=>wpAny (model X.prog X.w) X.A (pyIter v) (RE X pins σ tg R) X.xe s1) X.xe s
theorem Cp{M:Model}{A:Around}{E:Vs}{s:Shared}{tg:Expr}{it:Addr}{u:Value}{o:Obj}{n:String}{vs:Array Value}{Q:Unit->Shared->Prop}(ho:s.heap.get? it=some o)(hc:o.cls=.type n)(hd:o.data=.fields vs)
  (hn:["enumerate", "zip", "dict_itemiterator", "dict_reverseitemiterator", "odict_iterator", "itertools.zip_longest", "itertools.pairwise"].contains n=false) (hQ:Q () s):wpAny M A (letOwnedTupleGo tg (.ref it) u) Q E s:=by
 unfold letOwnedTupleGo;cases tg<;>first
  |exact cC hQ
  | (cases u<;>first
    |exact cC hQ
    | (refine aT (wpAny_load ho ?_)
       rw[hc,hd];show wpAny M A (if (["enumerate", "zip", "dict_itemiterator", "dict_reverseitemiterator", "odict_iterator", "itertools.zip_longest", "itertools.pairwise"].contains n&&vs[0]? == some (rawInt _))=true then _ else _) Q E s;rw[if_neg (by intro h;rw[hn,Bool.false_and]at h;cases h)];exact cC hQ))
noncomputable def D9(K:Wf)(a:Addr):It:=
 ⟨λi H=>∃xs x,aC K H a xs/\xs[i]?=some x,λi H x H'=>H'=H/\∀xs,aC K H a xs->xs[i]?=some x,λi H=>∃xs,aC K H a xs/\xs.length<=i⟩
noncomputable def Sl(K:Wf)(a:Addr):It:=
 ⟨λi H=>∃xs x,dH K H a xs/\xs[i]?=some x,λi H x H'=>H'=H/\∀xs,dH K H a xs->xs[i]?=some x,λi H=>∃xs,dH K H a xs/\xs.length<=i⟩
noncomputable def G8(lo:Int)(n:Nat):It:=⟨λi _=>i<n,λi H x H'=>H'=H/\x=.int (lo+i),λi _=>n<=i⟩
theorem AW{P:Program}{w:World}{K:Wf}{tg:Expr}(a it:Addr):Turn P w K tg (D9 K a) [it] it (λi h=>h.IsListIter it a i) where
 mem:=by simp
 obj:=λi h st b hb=>by
  have e:b=it:=by simpa using hb
  subst e;obtain⟨o,e,c,d⟩:=st;exact⟨o,e,λv z=>by rw[d]at z;cases z⟩
 keep:=λi h h' st k=>st.at λo e=>k it (by simp) o e
 item:=by
  intro X hP hw hK hc i pins s σ H E I hf st hg;subst hP hw hK;obtain⟨xs,x,hq,hx⟩:=hg;obtain⟨its,rv,p,hz⟩:=I.list hq;obtain⟨u,hu,ru⟩:=rv.get hx;obtain⟨f0,f1,f2,f3,f4,f5⟩:=hf it (by simp);refine wpAny_pyNext_list_item st p.isList (x:=u) (by simpa using hu) λh' st' sb=>?_;have I1:Inv X pins σ H { s with heap:=h' }:=I.turned (t':=s.toks) (λb o hb e=>(sb.2 b hb).trans e) f0 f1 f3 f4 f5;obtain⟨o,e,c,d⟩:=id st';exact⟨u,rfl,Cp (s:={ s with heap:=h' }) e c d (by decide) ⟨x,H,I1,ru,⟨rfl,λys hy=>by rw[I.gq hy hq];exact hx⟩,st',λb hb=>(hf b hb).1⟩⟩
 done:=by
  intro X hP hw hK hc i pins s σ H E I hf st hg;subst hP hw hK;obtain⟨xs,hq,hx⟩:=hg;obtain⟨its,rv,p,hz⟩:=I.list hq;obtain⟨f0,f1,f2,f3,f4,f5⟩:=hf it (by simp);have hl:=rv.length;exact wpAny_pyNext_list_end (I.ok.hd hc) st p.isList (by simp;omega) λh' eb=>⟨rfl,I.turned (t':=s.toks) (λb o hb e=>eb b o hb e) f0 f1 f3 f4 f5⟩
 self:=λ_ _ _ _ _ st h=>wpAny_pyIter_listiter st h
theorem vN{P:Program}{w:World}{K:Wf}{tg:Expr}(it:Addr)(lo:Int)(n:Nat):Turn P w K tg (G8 lo n) [it] it (λi h=>IsRangeIter h it (lo+(i:Nat)*1) ((n:Int) - (i:Nat)) 1) where
 mem:=by simp
 obj:=λi h st b hb=>by
  have e:b=it:=by simpa using hb
  subst e;exact⟨_,st,λv z=>by
   have z':Data.fields _=Data.cell v:=z;cases z'⟩
 keep:=λi h h' st k=>k it (by simp) _ st
 item:=by
  intro X hP hw hK hc i pins s σ H E I hf st hg;subst hP hw hK;obtain⟨f0,f1,f2,f3,f4,f5⟩:=hf it (by simp);have W:=Walks.range (prog:=X.prog) (w:=X.w) (I.ok.hd hc) it lo 1 n;refine W.item i s _ _ hg st λv h' tk hv st' kk=>?_;obtain⟨t,rfl⟩:=hv;have I1:Inv X pins σ H { s with heap:=h',toks:=tk }:=I.turned (λb o hb e=>kk b o (by simpa using hb) e) f0 f1 f3 f4 f5;refine⟨_,rfl,Cp (s:={ s with heap:=h',toks:=tk }) (n := "range_iterator") st' rfl rfl (by decide) ⟨.int (lo+i),H,I1,⟨t,?_⟩,⟨rfl,rfl⟩,st',λb hb=>(hf b hb).1⟩⟩;rw[Int.mul_one]
 done:=by
  intro X hP hw hK hc i pins s σ H E I hf st hg;subst hP hw hK;obtain⟨f0,f1,f2,f3,f4,f5⟩:=hf it (by simp);exact wpAny_pyNext_range_end (I.ok.hd hc) st (by have:n<=i:=hg;omega) λh' eb=>⟨rfl,I.turned (t':=s.toks) (λb o hb e=>eb b o hb e) f0 f1 f3 f4 f5⟩
 self:=λ_ _ _ _ _ st h=>wpAny_pyIter_rangeiter st h
section
variable{X:Cx}{tg:Expr}
def vg(K:Wf)(tl:TE):TI:=λσ H R=>tl σ H λx H1=>∃a,x=.ref a/\(∃xs,aC K H1 a xs)/\R (D9 K a) H1
def Na(K:Wf)(tl:TE):TI:=λσ H R=>tl σ H λx H1=>∃a,x=.ref a/\(∃xs,dH K H1 a xs)/\R (Sl K a) H1
theorem Hu{l:Expr}{tl:TE}(hl:PE X l tl):PI X tg l (vg X.K tl):=by
 intro pins s σ H R I h;refine bx (hl pins s σ H _ I h) λv s1 ⟨x,H1,I1,r1,q1⟩=>?_;obtain⟨a,e,⟨xs,hq⟩,q⟩:=q1;subst e;cases r1;obtain⟨its,rv,p,hz⟩:=I1.list hq;refine wpAny_pyIter_list p.isList ?_;refine⟨s1.heap.objs.size,[s1.heap.objs.size],_,_,H1,rfl,I1.kept (t':=s1.toks) λb o e=>fU _ e,AW a _,⟨_,yO _ rfl,rfl,rfl⟩,λb hb=>?_,q⟩;have e:b=s1.heap.objs.size:=by simpa using hb
 subst e;exact I1.Fj (dn _) (I1.aN.fresh (dn _))
theorem C3{pins:Lo}{σ:St}{H:Hp}{s:Shared}{R:It->Hp->Prop}{E:Vs}{lo hi:Int}{t u v:Tok}{tk:Nat}(I:Inv X pins σ H s)(h1 : -(2 ^ 62)<=lo)(h2:lo<2 ^ 62)(h3 : -(2 ^ 62)<=hi)(h4:hi<2 ^ 62)
  (q:R (G8 lo (hi - lo).toNat) H):wpAny (model X.prog X.w) X.A (pyIter (.ref s.heap.objs.size)) (RE X pins σ tg R) E { s with heap:=s.heap.push { cls:=.type "range", data:=.fields #[.int lo t,.int hi u,.int 1 v] },toks:=tk }:=by
 refine wpAny_pyIter_range (IsRange.new ..) (small_one h1 h2 h3 h4) ?_;have I1:Inv X pins σ H { s with heap:=s.heap.push { cls:=.type "range", data:=.fields #[.int lo t,.int hi u,.int 1 v] },toks:=tk }:=I.kept λb o e=>fU _ e;refine⟨(s.heap.push { cls:=.type "range", data:=.fields #[.int lo t,.int hi u,.int 1 v] }).objs.size,[(s.heap.push { cls:=.type "range", data:=.fields #[.int lo t,.int hi u,.int 1 v] }).objs.size],_,_,H,rfl,
  I1.kept (t':=tk) λb o e=>fU _ e,vN _ lo (hi - lo).toNat,?_,λb hb=>?_,q⟩
 ·have e1:lo+((0:Nat):Int)*1=lo:=by simp
  have e2:(((hi - lo).toNat:Nat):Int) - ((0:Nat):Int)=Builtin.Range.rangeSize lo hi 1:=by rw[rangeSize_one];split<;>omega
  show IsRangeIter _ _ (lo+((0:Nat):Int)*1) ((((hi - lo).toNat:Nat):Int) - ((0:Nat):Int)) 1;rw[e1,e2];exact yO _ rfl
 ·have e:b=(s.heap.push { cls:=.type "range", data:=.fields #[.int lo t,.int hi u,.int 1 v] }).objs.size:=by simpa using hb
  subst e;exact I1.Fj (dn _) (I1.aN.fresh (dn _))
def D8(ta:TA):TI:=λσ H R=>ta σ H λvs H1=>∃j:Int,vs=[.int j] /\ -(2 ^ 62)<=j/\j<2 ^ 62/\R (G8 0 j.toNat) H1
def MJ(ta:TA):TI:=λσ H R=>ta σ H λvs H1=>∃i j:Int,vs=[.int i,.int j]/\(-(2 ^ 62)<=i/\i<2 ^ 62 /\ -(2 ^ 62)<=j/\j<2 ^ 62)/\R (G8 i (j - i).toNat) H1
theorem mP{a:Expr}{ta:TA}{p pos:Pos}(hg:Gl X "range")(hm:X.mg "range" = none)(ha:PA X [a] ta)(hs:starEach [a] X.env=[(false,eval a X.env)]:=by rfl):PI X tg (.Call (.Name "range" p) [a] [] pos) (D8 ta):=by
 intro pins s σ H R I h;refine Call_ (iD I hg hm boot_range (PyProof.Rows.callWith_type1 (bx (ha pos pins s σ H _ I h) λus s1 ⟨vs,H1,I1,r1,q1⟩=>?_) hs rfl));obtain⟨j,e,q1,q2,q⟩:=q1;subst e;cases r1 with
 |cons r rr=>
  cases rr;obtain⟨t,rfl⟩:=r;exact call_range_1 (C3 I1 (by omega) (by omega) q1 q2 (by simpa using q))
def lP(wi:TI)(g:TG)(tb:TS):TS:=λD σ H=>wi σ H λJ H1=>∃W:Nat->Nat->St->Hp->Prop,(∃m,W 0 m σ H1)/\∀i m σ H,W i m σ H->
 (J.stop i H/\D.nx σ H)\/(J.go i H/\∃N:St->Hp->Prop,(∀σ' H',N σ' H'->∃m',m'<m/\W (i+1) m' σ' H')/\∀x H',J.z9 i H x H'->g x σ H' λσ2 H2=>tb { D with nx:=N,ct:=N,bk:=D.nx } σ2 H2)
noncomputable def iB(fp:List Addr)(h:Heap):Lo:=fp.filterMap λb=>(h.get? b).map λo=>(b,o)
theorem dg{fp:List Addr}{h:Heap}{b:Addr}{o:Obj}(hb:b∈fp)(e:h.get? b=some o):(b,o)∈iB fp h:=List.mem_filterMap.mpr ⟨b,hb,by rw[e];rfl⟩
theorem zY{fp:List Addr}{h:Heap}{p:Addr×Obj}(hp:p∈iB fp h):p.1∈fp/\h.get? p.1=some p.2:=by
 obtain⟨b,hb,e⟩:=List.mem_filterMap.mp hp;cases q:h.get? b with
 |none=>rw[q]at e;cases e
 |some o=>
  rw[q]at e;have e':(b,o)=p:=Option.some.inj e;subst e';exact⟨hb,q⟩
theorem Inv.pinned{pins:Lo}{σ:St}{H:Hp}{s:Shared}{fp:List Addr}(I:Inv X pins σ H s)(hf:∀b∈fp,g9 X pins H b)(ho:∀b∈fp,∃o,s.heap.get? b=some o/\∀v,o.data≠.cell v):Inv X (pins++iB fp s.heap) σ H s:=
 I.j7 λp hp=>(eC.mp hp).elim (λz=>I.pin p (jE _ z)) λz=>by
  obtain⟨hb,e⟩:=zY z;obtain⟨f0,f1,f2,_⟩:=hf p.1 hb;obtain⟨o,e',d⟩:=ho p.1 hb;rw[e]at e';cases e';exact⟨e,f0,f1,f2,d⟩
theorem Inv.d6{pins pl:Lo}{σ:St}{H:Hp}{s:Shared}(I:Inv X (pins++pl) σ H s):Inv X pins σ H s:=I.j7 λp hp=>I.pin p (jE _ (vB _ hp))
theorem KG{iter:Expr}{body:List Stmt}{wi:TI}{g:TG}{tb:TS}{pos:Pos}(hp:PassesOwn (model X.prog X.w) X.A X.env X.xe)(hc:X.calm=true)(hi:PI X tg iter wi)(hg:PG X tg g)(hb:lV X body tb)
  (hs:∀x,foldedSetIterable iter X.env x=pure x:=by intro _;rfl):PS X (.For tg iter body [] pos) (lP wi g tb):=by
 intro pins s σ H D I h;refine wpAny_For (bx (hi pins s σ H _ I h) λv s1 h1=>bx h1 λitv s2 h2=>?_) hs;obtain⟨it,fp,tn,J,H2,e,I2,T,st2,f2,W,⟨m0,w0⟩,turn⟩:=h2;subst e;have stat:∀{H':Hp},(∀b∈fp,H' b=none)->∀b∈fp,g9 X pins H' b:=λhn b hb=>⟨hn b hb,(f2 b hb).2⟩;refine codeAny_forLoop_any (λn s'=>∃i σ' H',Inv X pins σ' H' s'/\tn i s'.heap/\(∀b∈fp,H' b=none)/\W i n σ' H') ?_ m0 ⟨0,σ,H2,I2,st2,λb hb=>(f2 b hb).1,w0⟩;rintro n s3 ⟨i,σ3,H3,I3,st3,fr3,w3⟩;rcases turn i n σ3 H3 w3 with ⟨stop,qn⟩|⟨go,N,hN,step⟩
 ·refine wpAny_passesOwn hp (bx (T.done X rfl rfl rfl hc i pins s3 σ3 H3 X.xe I3 (stat fr3) st3 stop) λr s4 ⟨hr,I4⟩=>?_);subst hr;exact LS ⟨σ3,H3,I4,qn⟩
 ·refine wpAny_passesOwn hp (bx (T.item X rfl rfl rfl hc i pins s3 σ3 H3 X.xe I3 (stat fr3) st3 go) λr s4 ⟨u,hr,h4⟩=>?_);subst hr;refine wpAny_passesOwn hp (bx h4 λ_ s5 ⟨x,H5,I5,r5,y5,st5,fr5⟩=>?_);have I5':=I5.pinned (stat fr5) (T.obj _ _ st5);refine wpAny_passesOwn hp (bx (hg _ s5 σ3 H5 x u _ I5' r5 (step x H5 y5)) λ_ s6 ⟨σ6,H6,I6,q6⟩=>?_);refine wpAny_passesOwn hp (bx (hb _ s6 σ6 H6 _ I6 q6) λf s7 q7=>?_);have again:∀{σ7:St}{H7:Hp},Inv X (pins++iB fp s5.heap) σ7 H7 s7->N σ7 H7->∃m,m<n/\∃i σ' H',Inv X pins σ' H' s7/\tn i s7.heap/\(∀b∈fp,H' b=none)/\W i m σ' H':=λ{σ7 H7} I7 n7=>by
   obtain⟨m',hm,w7⟩:=hN σ7 H7 n7;refine⟨m',hm,i+1,σ7,H7,I7.d6,T.keep _ _ _ st5 λb hb o e=>(I7.pin (b,o) (jE _ (jE _ (dg hb e)))).1,λb hb=>?_,w7⟩;obtain⟨o,e,d⟩:=T.obj _ _ st5 b hb;exact(I7.pin (b,o) (jE _ (jE _ (dg hb e)))).2.1
  cases f with
  |next=>obtain⟨σ7,H7,I7,n7⟩:=q7;exact again I7 n7
  |cont=>obtain⟨σ7,H7,I7,n7⟩:=q7;exact again I7 n7
  |brk=>obtain⟨σ7,H7,I7,q7⟩:=q7;exact⟨σ7,H7,I7.d6,q7⟩
  |ret v=>obtain⟨x7,σ7,H7,I7,r7,q7⟩:=q7;exact⟨x7,σ7,H7,I7.d6,r7,q7⟩
end
theorem BP{K:Wf}{a:Addr}{xs:List V}{g:TG}{tb:TS}{D:Ends}{σ:St}{H:Hp}(Pv:Nat->St->Hp->Prop)(h0:Pv 0 σ H)(hl:∀i σ H,i<=xs.length->Pv i σ H->aC K H a xs)
  (hs:∀i x σ H,xs[i]?=some x->Pv i σ H->g x σ H λσ2 H2=>tb { D with nx:=Pv (i+1),ct:=Pv (i+1),bk:=D.nx } σ2 H2) (hd:∀σ H,Pv xs.length σ H->D.nx σ H):
  ∃W:Nat->Nat->St->Hp->Prop,(∃m,W 0 m σ H)/\∀i m σ H,W i m σ H->
   ((D9 K a).stop i H/\D.nx σ H)\/((D9 K a).go i H/\∃N:St->Hp->Prop,(∀σ' H',N σ' H'->∃m',m'<m/\W (i+1) m' σ' H')/\∀x H',(D9 K a).z9 i H x H'->g x σ H' λσ2 H2=>tb { D with nx:=N,ct:=N,bk:=D.nx } σ2 H2):=by
 refine⟨λi m σ H=>m=xs.length - i/\i<=xs.length/\Pv i σ H,⟨xs.length,by simp,Nat.zero_le _,h0⟩,?_⟩;rintro i m σ H ⟨rfl,hi,p⟩;have q:=hl i σ H hi p;by_cases hlt:i<xs.length
 ·refine .inr ⟨⟨xs,xs[i],q,by simp[hlt]⟩,Pv (i+1),λσ' H' p'=>⟨xs.length - (i+1),by omega,rfl,hlt,p'⟩,λx H' y=>?_⟩;obtain⟨e,y⟩:=y;subst e;exact hs i x σ _ (y xs q) p
 ·have e:i=xs.length:=by omega
  subst e;exact .inl ⟨⟨xs,q,dn _⟩,hd σ H p⟩
theorem Ak{lo:Int}{n:Nat}{g:TG}{tb:TS}{D:Ends}{σ:St}{H:Hp}(Pv:Nat->St->Hp->Prop)(h0:Pv 0 σ H)
  (hs:∀i σ H,i<n->Pv i σ H->g (.int (lo+i)) σ H λσ2 H2=>tb { D with nx:=Pv (i+1),ct:=Pv (i+1),bk:=D.nx } σ2 H2) (hd:∀σ H,Pv n σ H->D.nx σ H):
  ∃W:Nat->Nat->St->Hp->Prop,(∃m,W 0 m σ H)/\∀i m σ H,W i m σ H->
   ((G8 lo n).stop i H/\D.nx σ H)\/((G8 lo n).go i H/\∃N:St->Hp->Prop,(∀σ' H',N σ' H'->∃m',m'<m/\W (i+1) m' σ' H')/\∀x H',(G8 lo n).z9 i H x H'->g x σ H' λσ2 H2=>tb { D with nx:=N,ct:=N,bk:=D.nx } σ2 H2):=by
 refine⟨λi m σ H=>m=n - i/\i<=n/\Pv i σ H,⟨n,by simp,Nat.zero_le _,h0⟩,?_⟩;rintro i m σ H ⟨rfl,hi,p⟩;by_cases hlt:i<n
 ·refine .inr ⟨hlt,Pv (i+1),λσ' H' p'=>⟨n - (i+1),by omega,rfl,hlt,p'⟩,λx H' y=>?_⟩;obtain⟨e,y⟩:=y;subst e y;exact hs i σ _ hlt p
 ·have e:i=n:=by omega
  subst e;exact .inl ⟨dn _,hd σ H p⟩
noncomputable abbrev R2:=V->V->Hp->VK->Prop
def fQ(X:Cx)(f:Value->Value->Sem Value)(r:R2):Prop:=
 ∀(pins:Lo) (s:Shared) (σ:St) (H:Hp) (x y:V) (v u:Value) (Q:VK),Inv X pins σ H s->RelV x v->RelV y u->r x y H Q->
  wpAny (model X.prog X.w) X.A (f v u) (EP X pins σ Q) X.xe s
def Qi(X:Cx)(f:Value->Sem Value)(r:V->Hp->VK->Prop):Prop:=
 ∀(pins:Lo) (s:Shared) (σ:St) (H:Hp) (x:V) (v:Value) (Q:VK),Inv X pins σ H s->RelV x v->r x H Q->
  wpAny (model X.prog X.w) X.A (f v) (EP X pins σ Q) X.xe s
def dG(X:Cx)(f:Value)(r:List V->Hp->VK->Prop):Prop:=
 ∀(pins:Lo) (s:Shared) (σ:St) (H:Hp) (xs:List V) (us:List Value) (Q:VK),Inv X pins σ H s->Vals xs us->r xs H Q->
  wpAny (model X.prog X.w) X.A (call f us) (EP X pins σ Q) X.xe s
def MT(r:R2)(ta tb:TE):TE:=λσ H Q=>ta σ H λx H1=>tb σ H1 λy H2=>r x y H2 Q
def Ut(r:V->Hp->VK->Prop)(ta:TE):TE:=λσ H Q=>ta σ H λx H1=>r x H1 Q
def rI(C:Int->Int->Prop)(g:Int->Int->V):R2:=λx y H Q=>∃i j,x=.int i/\y=.int j/\C i j/\Q (g i j) H
def Hc(g:Int->Int->V):R2:=λx y H Q=>∃i j,x=.int i/\y=.int j/\Q (g i j) H
noncomputable def rU(g:Int->V):V->Hp->VK->Prop:=λx H Q=>∃i,x=.int i/\Q (g i) H
section
variable{X:Cx}{a b c:Expr}{ta tb tc:TE}{pos:Pos}
theorem KQ(ha:PE X a ta)(hb:PE X b tb){pins:Lo}{s:Shared}{σ:St}{H:Hp}{R:V->V->Hp->Prop}(I:Inv X pins σ H s)
  (h:ta σ H λx H1=>tb σ H1 λy H2=>R x y H2) {Q:Vs}{f:Value->Value->Sem Value}
  (hf:∀v u s2 x y H2,Inv X pins σ H2 s2->RelV x v->RelV y u->R x y H2->wpAny (model X.prog X.w) X.A (f v u) Q X.xe s2):
  wpAny (model X.prog X.w) X.A (eval a X.env) (λv s₁=>wpAny (model X.prog X.w) X.A (eval b X.env) (λu s₂=>wpAny (model X.prog X.w) X.A (f v u) Q X.xe s₂) X.xe s₁) X.xe s:=by
 refine bx (ha pins s σ H _ I h) λv s1 ⟨x,H1,I1,r1,q1⟩=>?_;refine bx (hb pins s1 σ H1 _ I1 q1) λu s2 ⟨y,H2,I2,r2,q2⟩=>?_;exact hf v u s2 x y H2 I2 r1 r2 q2
theorem ag{op:Operator}{r:R2}(ho:fQ X (binaryOp op) r)(ha:PE X a ta)(hb:PE X b tb):PE X (.BinOp a op b pos) (MT r ta tb):=by
 intro pins s σ H Q I h;exact wpAny_BinOp (KQ ha hb I h λv u s2 x y H2 I2 rx ry q=>ho pins s2 σ H2 x y v u Q I2 rx ry q)
theorem vA{op:UnaryOp}{r:V->Hp->VK->Prop}(ho:Qi X (unaryOp op) r)(ha:PE X a ta):PE X (.UnaryOp op a pos) (Ut r ta):=by
 intro pins s σ H Q I h;exact UnaryOp_ (bx (ha pins s σ H _ I h) λv s1 ⟨x,H1,I1,r1,q1⟩=>ho pins s1 σ H1 x v Q I1 r1 q1)
theorem NP{f:Value->Value->Sem Value}{C:Int->Int->Prop}{g:Int->Int->Int}
  (rule:∀(i j:Int) (t u:Tok) (s:Shared) (Q:Vs) (E:Vs),C i j->Q (.int (g i j) s.toks) { s with toks:=s.toks+1 }->wpAny (model X.prog X.w) X.A (f (.int i t) (.int j u)) Q E s):
  fQ X f (rI C λi j=>.int (g i j)):=by
 intro pins s σ H x y v u Q I rx ry h;obtain⟨i,j,rfl,rfl,hc,q⟩:=h;obtain⟨t,rfl⟩:=rx;obtain⟨t',rfl⟩:=ry;exact rule i j t t' s _ _ hc ⟨.int (g i j),H,I.tok _,⟨_,rfl⟩,q⟩
theorem LP{f:Value->Value->Sem Value}{g:Int->Int->Int}
  (rule:∀(i j:Int) (t u:Tok) (s:Shared) (Q:Vs) (E:Vs),Q (.int (g i j) s.toks) { s with toks:=s.toks+1 }->wpAny (model X.prog X.w) X.A (f (.int i t) (.int j u)) Q E s):
  fQ X f (Hc λi j=>.int (g i j)):=by
 intro pins s σ H x y v u Q I rx ry h;obtain⟨i,j,rfl,rfl,q⟩:=h;obtain⟨t,rfl⟩:=rx;obtain⟨t',rfl⟩:=ry;exact rule i j t t' s _ _ ⟨.int (g i j),H,I.tok _,⟨_,rfl⟩,q⟩
theorem LB{f:Value->Value->Sem Value}{g:Int->Int->Bool}
  (rule:∀(i j:Int) (t u:Tok) (s:Shared) (Q:Vs) (E:Vs),Q (.bool (g i j)) s->wpAny (model X.prog X.w) X.A (f (.int i t) (.int j u)) Q E s):
  fQ X f (Hc λi j=>.bl (g i j)):=by
 intro pins s σ H x y v u Q I rx ry h;obtain⟨i,j,rfl,rfl,q⟩:=h;obtain⟨t,rfl⟩:=rx;obtain⟨t',rfl⟩:=ry;exact rule i j t t' s _ _ ⟨.bl (g i j),H,I,rfl,q⟩
def Nu(i j:Int):Prop:=0<j/\j<1073741824
def OV(i j:Int):Prop:=0<=j/\j<=1000000/\i.natAbs<2 ^ 64
def Lx(i j:Int):Prop:=(-(2 ^ 64)<i/\i<2 ^ 64)\/(-(2 ^ 64)<j/\j<2 ^ 64)
theorem Lx.ok{i j:Int}(h:Lx i j):IntMulOk i j:=by
 rcases h with ⟨h1,h2⟩|⟨h1,h2⟩
 ·exact .of_left (intBits_le_64 h1 h2)
 ·exact .of_right (intBits_le_64 h1 h2)
theorem bC:fQ X (binaryOp .Add) (Hc λi j=>.int (i+j)):=LP λ_ _ _ _ _ _ _ q=>add_int q
theorem fK:fQ X (binaryOp .Sub) (Hc λi j=>.int (i - j)):=LP λ_ _ _ _ _ _ _ q=>sub_int q
theorem cX:fQ X (binaryOp .Mult) (rI Lx λi j=>.int (i*j)):=NP λ_ _ _ _ _ _ _ hc q=>mul_int q hc.ok
theorem eA:fQ X (binaryOp .FloorDiv) (rI Nu λi j=>.int (i/j)):=NP λi j _ _ _ _ _ hc q=>by
 have h1:(0:Int)<j:=hc.1;have h2:j<1073741824:=hc.2;exact floordiv_int (by omega) (by rw[Int.fdiv_eq_ediv_of_nonneg i (by omega)];exact q) (.inl (PyProof.noPylong_small (by omega)))
theorem aG:fQ X (binaryOp .Mod) (rI (λ_ j=>0<j) λi j=>.int (i%j)):=NP λi j _ _ _ _ _ hc q=>by
 have h1:(0:Int)<j:=hc;exact mod_int' (by omega) (by rw[Int.fmod_eq_emod_of_nonneg i (by omega)];exact q)
theorem Li:fQ X (binaryOp .Pow) (rI OV λi j=>.int (i ^ j.toNat)):=NP λ_ _ _ _ _ _ _ hc q=>pow_int_small hc.1 hc.2.1 hc.2.2 q
theorem KI:fQ X (binaryOp .LShift) (rI OV λi j=>.int (i*2 ^ j.toNat)):=NP λ_ _ _ _ _ _ _ hc q=>lshift_int_small hc.1 hc.2.1 hc.2.2 q
theorem KP:fQ X (binaryOp .BitAnd) (Hc λi j=>.int (Builtin.bitAnd i j)):=LP λ_ _ _ _ _ _ _ q=>and_int q
theorem Up{f:Value->Sem Value}{g:Int->Int}
  (rule:∀(i:Int) (t:Tok) (s:Shared) (Q:Vs) (E:Vs),Q (.int (g i) s.toks) { s with toks:=s.toks+1 }->wpAny (model X.prog X.w) X.A (f (.int i t)) Q E s):
  Qi X f (rU λi=>.int (g i)):=by
 intro pins s σ H x v Q I rx h;obtain⟨i,rfl,q⟩:=h;obtain⟨t,rfl⟩:=rx;exact rule i t s _ _ ⟨.int (g i),H,I.tok _,⟨_,rfl⟩,q⟩
theorem kW:Qi X (unaryOp .USub) (rU λi=>.int (-i)):=Up λ_ _ _ _ _ q=>neg_int q
end
noncomputable def gG:V->V->Bool
 |.aF,.aF=>true|.aF,.int _=>true|.int _,.aF=>true|.aF,.bl _=>true|.bl _,.aF=>true|.aF,.str _=>true|.str _,.aF=>true
 |.int _,.int _=>true|.bl _,.bl _=>true|.str _,.str _=>true|.vC _,.vC _=>true
 |.int _,.str _=>true|.str _,.int _=>true|.bl _,.str _=>true|.str _,.bl _=>true
 |_,_=>false
theorem Uy:gG .aF .aF=true:=rfl
theorem UB{i:Int}:gG .aF (.int i)=true:=rfl
theorem Ux{i:Int}:gG (.int i) .aF=true:=rfl
theorem Uw{i:Bool}:gG .aF (.bl i)=true:=rfl
theorem Uv{i:Bool}:gG (.bl i) .aF=true:=rfl
theorem UC{i:Str}:gG .aF (.str i)=true:=rfl
theorem UG{i:Str}:gG (.str i) .aF=true:=rfl
theorem Uz{i:Int}{j:Int}:gG (.int i) (.int j)=true:=rfl
theorem UD{i:Bool}{j:Bool}:gG (.bl i) (.bl j)=true:=rfl
theorem UA{i:Str}{j:Str}:gG (.str i) (.str j)=true:=rfl
theorem TU{i:Int}{j:Str}:gG (.int i) (.str j)=true:=rfl
theorem Uj{i:Str}{j:Int}:gG (.str i) (.int j)=true:=rfl
theorem Um{i:Bool}{j:Str}:gG (.bl i) (.str j)=true:=rfl
theorem Tv{i:Str}{j:Bool}:gG (.str i) (.bl j)=true:=rfl
def Ua:R2:=λx y H Q=>gG x y=true/\Q (.bl (decide (x=y))) H
def Tx:R2:=λx y H Q=>gG x y=true/\Q (.bl (!decide (x=y))) H
theorem zq{i j:Int}:decide (V.int i=V.int j)=(i == j):=by
 rw[Bool.eq_iff_iff];simp
theorem Cc{i j:Bool}:decide (V.bl i=V.bl j)=(i == j):=by
 rw[Bool.eq_iff_iff];simp
theorem xB{i j:Str}:decide (V.str i=V.str j)=(i == j):=by
 rw[Bool.eq_iff_iff];simp
theorem yA{i j:Array UInt8}:decide (V.vC i=V.vC j)=(i.toList == j.toList):=by
 rw[Bool.eq_iff_iff];cases i;cases j;simp
section
variable{X:Cx}{a b c:Expr}{ta tb tc:TE}{pos:Pos}
theorem aU{pins:Lo}{σ:St}{H:Hp}{s:Shared}{Q:VK}{k k':Bool}(I:Inv X pins σ H s)(q:Q (.bl k) H)(e:k=k'):EP X pins σ Q (.bool k') s:=by
 subst e;exact⟨.bl k,H,I,rfl,q⟩
theorem ba:fQ X (compareOp .Eq) Ua:=by
 intro pins s σ H x y v u Q I rx ry h;obtain⟨hs,q⟩:=h;cases x with
 |aF=>
  cases rx;cases y with
  |aF=>cases ry;exact PySem.EqNone.eq_none_none (aU I q (by simp))
  |bl j=>cases ry;exact PySem.EqNone.eq_none_bool (aU I q (by simp))
  |int j=>obtain⟨t',rfl⟩:=ry;exact PySem.EqNone.eq_none_int (aU I q (by simp))
  |str j=>obtain⟨t',rfl⟩:=ry;exact PySem.EqNone.eq_none_str (aU I q (by simp))
  |_=>exact absurd (show false=true from hs) lK
 |bl i=>
  cases rx;cases y with
  |aF=>cases ry;exact PySem.EqNone.eq_bool_none (aU I q (by simp))
  |bl j=>cases ry;exact eq_bool (aU I q Cc)
  |str j=>obtain⟨t',rfl⟩:=ry;exact PySem.EqMixed.eq_bool_str (aU I q (by simp))
  |_=>exact absurd (show false=true from hs) lK
 |int i=>
  obtain⟨t,rfl⟩:=rx;cases y with
  |aF=>cases ry;exact PySem.EqNone.eq_int_none (aU I q (by simp))
  |int j=>obtain⟨t',rfl⟩:=ry;exact eq_int (aU I q zq)
  |str j=>obtain⟨t',rfl⟩:=ry;exact PySem.EqMixed.eq_int_str (aU I q (by simp))
  |_=>exact absurd (show false=true from hs) lK
 |str i=>
  obtain⟨t,rfl⟩:=rx;cases y with
  |aF=>cases ry;exact PySem.EqNone.eq_str_none (aU I q (by simp))
  |bl j=>cases ry;exact PySem.EqMixed.eq_str_bool (aU I q (by simp))
  |int j=>obtain⟨t',rfl⟩:=ry;exact PySem.EqMixed.eq_str_int (aU I q (by simp))
  |str j=>obtain⟨t',rfl⟩:=ry;exact eq_str (aU I q xB)
  |_=>exact absurd (show false=true from hs) lK
 |vC i=>
  obtain⟨t,rfl⟩:=rx;cases y with
  |vC j=>obtain⟨t',rfl⟩:=ry;exact PySem.W.eq_bytes (aU I q yA)
  |_=>exact absurd (show false=true from hs) lK
 |_=>cases y<;>exact absurd (show false=true from hs) lK
theorem uY:fQ X (compareOp .NotEq) Tx:=by
 intro pins s σ H x y v u Q I rx ry h;obtain⟨hs,q⟩:=h;cases x with
 |aF=>
  cases rx;cases y with
  |aF=>cases ry;exact PySem.EqNone.ne_none_none (aU I q (by simp))
  |bl j=>cases ry;exact PySem.EqNone.ne_none_bool (aU I q (by simp))
  |int j=>obtain⟨t',rfl⟩:=ry;exact PySem.EqNone.ne_none_int (aU I q (by simp))
  |str j=>obtain⟨t',rfl⟩:=ry;exact PySem.EqNone.ne_none_str (aU I q (by simp))
  |_=>exact absurd (show false=true from hs) lK
 |bl i=>
  cases rx;cases y with
  |aF=>cases ry;exact PySem.EqNone.ne_bool_none (aU I q (by simp))
  |bl j=>cases ry;exact ne_bool (aU I q (congrArg not Cc))
  |str j=>obtain⟨t',rfl⟩:=ry;exact PySem.EqMixed.ne_bool_str (aU I q (by simp))
  |_=>exact absurd (show false=true from hs) lK
 |int i=>
  obtain⟨t,rfl⟩:=rx;cases y with
  |aF=>cases ry;exact PySem.EqNone.ne_int_none (aU I q (by simp))
  |int j=>obtain⟨t',rfl⟩:=ry;exact ne_int (aU I q (congrArg not zq))
  |str j=>obtain⟨t',rfl⟩:=ry;exact PySem.EqMixed.ne_int_str (aU I q (by simp))
  |_=>exact absurd (show false=true from hs) lK
 |str i=>
  obtain⟨t,rfl⟩:=rx;cases y with
  |aF=>cases ry;exact PySem.EqNone.ne_str_none (aU I q (by simp))
  |bl j=>cases ry;exact PySem.EqMixed.ne_str_bool (aU I q (by simp))
  |int j=>obtain⟨t',rfl⟩:=ry;exact PySem.EqMixed.ne_str_int (aU I q (by simp))
  |str j=>obtain⟨t',rfl⟩:=ry;exact ne_str (aU I q (congrArg not xB))
  |_=>exact absurd (show false=true from hs) lK
 |vC i=>
  obtain⟨t,rfl⟩:=rx;cases y with
  |vC j=>obtain⟨t',rfl⟩:=ry;exact PySem.W.ne_bytes (aU I q (congrArg not yA))
  |_=>exact absurd (show false=true from hs) lK
 |_=>cases y<;>exact absurd (show false=true from hs) lK
theorem IX:fQ X (compareOp .Lt) (Hc λi j=>.bl (decide (i<j))):=LB λ_ _ _ _ _ _ _ q=>lt_int q
theorem mi:fQ X (compareOp .LtE) (Hc λi j=>.bl (decide (i<=j))):=LB λ_ _ _ _ _ _ _ q=>le_int q
theorem w_:fQ X (compareOp .Gt) (Hc λi j=>.bl (decide (j<i))):=LB λ_ _ _ _ _ _ _ q=>gt_int q
theorem mw:fQ X (compareOp .In) (λx y H Q=>∃i j,x=.str i/\y=.str j/\Q (.bl (!(Builtin.Str.occurrences j i 0 j.length 1).isEmpty)) H):=by
 intro pins s σ H x y v u Q I rx ry h;obtain⟨i,j,rfl,rfl,q⟩:=h;obtain⟨t,rfl⟩:=rx;obtain⟨t',rfl⟩:=ry;exact in_str (aU I q rfl)
theorem g_:fQ X (compareOp .Is) (λx y H Q=>y=.aF/\Q (.bl (decide (x=.aF))) H):=by
 intro pins s σ H x y v u Q I rx ry h;obtain⟨rfl,q⟩:=h;cases ry;refine is_none_gen (aU I q ?_);cases x<;>first
  | (cases rx;rfl)
  | (obtain⟨t,rfl⟩:=rx;rfl)
theorem oy:fQ X (compareOp .NotIn) (λx y H Q=>∃i j,x=.str i/\y=.str j/\Q (.bl (!(!(Builtin.Str.occurrences j i 0 j.length 1).isEmpty))) H):=by
 intro pins s σ H x y v u Q I rx ry h;obtain⟨i,j,rfl,rfl,q⟩:=h;obtain⟨t,rfl⟩:=rx;obtain⟨t',rfl⟩:=ry;exact notIn_str (aU I q rfl)
theorem fQ.or{f:Value->Value->Sem Value}{r r':R2}(h:fQ X f r)(h':fQ X f r'):fQ X f (λx y H Q=>r x y H Q\/r' x y H Q):=by
 intro pins s σ H x y v u Q I rx ry q;rcases q with q|q
 ·exact h pins s σ H x y v u Q I rx ry q
 ·exact h' pins s σ H x y v u Q I rx ry q
theorem ax(b:Expr){op:CmpOp}(h:op≠.In:=by decide)(h2:op≠.NotIn:=by decide):behindInMarks op b=false:=by
 have e1:(op == CmpOp.In)=false:=by cases op<;>first|rfl|exact absurd rfl h
 have e2:(op == CmpOp.NotIn)=false:=by cases op<;>first|rfl|exact absurd rfl h2
 cases b<;>simp[behindInMarks,e1,e2]
theorem c0{op:CmpOp}{r:R2}(ho:fQ X (compareOp op) r)(ha:PE X a ta)(hb:PE X b tb)(hm:behindInMarks op b=false):PE X (.Compare a [op] [b] pos) (MT r ta tb):=by
 intro pins s σ H Q I h;exact wpAny_Compare1 (KQ ha hb I h λv u s2 x y H2 I2 rx ry q=>ho pins s2 σ H2 x y v u Q I2 rx ry q) hm
def IZ(t:TE):TT:=λσ H Q=>t σ H λx H'=>∃k,x=.bl k/\Q k H'
theorem br{op:CmpOp}{r:R2}(ho:fQ X (compareOp op) r)(ha:PE X a ta)(hb:PE X b tb)(hm:behindInMarks op b=false):PT X (.Compare a [op] [b] pos) (IZ (MT r ta tb)):=by
 intro pins s σ H Q I h;refine wpAny_isTrue_Compare1 (bx (ha pins s σ H _ I h) λv s1 ⟨x,H1,I1,r1,q1⟩=>bx (hb pins s1 σ H1 _ I1 q1) λu s2 ⟨y,H2,I2,r2,q2⟩=>
  bx (ho pins s2 σ H2 x y v u _ I2 r1 r2 q2) λc s3 ⟨z,H3,I3,r3,k,e,q3⟩=>?_) hm
 subst e;cases r3;exact I_ ⟨H3,I3,q3⟩
def KS(r r':R2)(ta tb tc:TE):TE:=λσ H Q=>ta σ H λx H1=>tb σ H1 λy H2=>r x y H2 λz H3=>∃k,z=.bl k/\
 (if k=true then tc σ H3 λw' H4=>r' y w' H4 Q else Q (.bl false) H3)
theorem lJ{op op':CmpOp}{r r':R2}(ho:fQ X (compareOp op) r)(ho':fQ X (compareOp op') r')(ha:PE X a ta)(hb:PE X b tb)(hc:PE X c tc)
  (hm:lastMarks [op,op'] [b,c]=false:=by with_unfolding_all rfl):PT X (.Compare a [op,op'] [b,c] pos) (IZ (KS r r' ta tb tc)):=by
 intro pins s σ H Q I h;refine isTrue_chain (bx (ha pins s σ H _ I h) λv s1 ⟨x,H1,I1,r1,q1⟩=>test_link (bx (hb pins s1 σ H1 _ I1 q1) λu s2 ⟨y,H2,I2,r2,q2⟩=>
  bx (ho pins s2 σ H2 x y v u _ I2 r1 r2 q2) λd s3 ⟨z,H3,I3,r3,k,e,q3⟩=>?_)) hm
 subst e;cases r3;refine I_ ?_;cases k with
 |false=>
  obtain⟨k',e',q'⟩:=q3;cases e';exact ite_ff ⟨H3,I3,q'⟩
 |true=>
  refine ite_tt (test_last (bx (hc pins s3 σ H3 _ I3 q3) λw' s4 ⟨z',H4,I4,r4,q4⟩=>bx (ho' pins s4 σ H4 y z' u w' _ I4 r2 r4 q4) λd' s5 ⟨z2,H5,I5,r5,k2,e2,q5⟩=>?_));subst e2;cases r5;exact I_ ⟨H5,I5,q5⟩
theorem sD:(sizeLine:Nat)<2 ^ 63:=by rw[sizeLine_eq];decide
theorem bW:fQ X (binaryOp .Add) (λx y H Q=>∃i j,x=.str i/\y=.str j/\i.length+j.length<=sizeLine/\Q (.str (i++j)) H):=by
 intro pins s σ H x y v u Q I rx ry h;obtain⟨i,j,rfl,rfl,hz,q⟩:=h;obtain⟨t,rfl⟩:=rx;obtain⟨t',rfl⟩:=ry;exact add_str (λt' tk=>⟨.str (i++j),H,I.tok _,⟨_,rfl⟩,q⟩) hz
theorem vals1{x:V}{us:List Value}(r:Vals [x] us):∃u,us=[u]/\RelV x u:=by
 cases r with
 |cons r1 r2=>cases r2;exact⟨_,rfl,r1⟩
theorem vals2{x y:V}{us:List Value}(r:Vals [x,y] us):∃u w',us=[u,w']/\RelV x u/\RelV y w':=by
 cases r with
 |cons r1 r2=>
  cases r2 with
  |cons r3 r4=>cases r4;exact⟨_,_,rfl,r1,r3⟩
theorem zU(hc:X.calm=true):dG X (.builtin "max") (λxs H Q=>∃i j,xs=[.int i,.int j]/\Q (.int (if j>i then j else i)) H):=by
 intro pins s σ H xs us Q I r h;obtain⟨i,j,rfl,q⟩:=h;obtain⟨u,w',rfl,⟨t,rfl⟩,⟨t',rfl⟩⟩:=vals2 r;refine max_two_ints (I.ok.hd hc) λh' tk k=>⟨_,H,I.kept k,?_,q⟩;by_cases hj:j>i
 ·rw[if_pos hj,if_pos hj];exact⟨_,rfl⟩
 ·rw[if_neg hj,if_neg hj];exact⟨_,rfl⟩
theorem mO:dG X (.type "int") (λxs H Q=>(∃i,xs=[.int i]/\Q (.int i) H)\/∃k,xs=[.bl k]/\Q (.int (if k then 1 else 0)) H):=by
 intro pins s σ H xs us Q I r h;rcases h with ⟨i,rfl,q⟩|⟨k,rfl,q⟩
 ·obtain⟨u,rfl,t,rfl⟩:=vals1 r;exact call_int_int ⟨.int i,H,I,⟨_,rfl⟩,q⟩
 ·obtain⟨u,rfl,r1⟩:=vals1 r;cases r1;exact call_int_bool ⟨.int (if k then 1 else 0),H,I.tok _,⟨_,rfl⟩,q⟩
theorem jj:dG X (.type "str") (λxs H Q=>∃i,xs=[.int i]/\i.natAbs.log2<1920/\Q (.str (toString i)) H):=by
 intro pins s σ H xs us Q I r h;obtain⟨i,rfl,hz,q⟩:=h;obtain⟨u,rfl,t,rfl⟩:=vals1 r;exact PySem.P.str_of_int hz ⟨.str _,H,I.tok _,⟨_,rfl⟩,q⟩
def MZ(K:Wf)(x:V)(H:Hp)(n:Nat):Prop:=
 match x with
 |.str y=>y.length<=sizeLine/\n=y.length
 |.vC y=>y.size<=sizeLine/\n=y.size
 |.ref p=>(∃xs,aC K H p xs/\n=xs.length)\/∃xs,dH K H p xs/\n=xs.length
 |_=>False
theorem GH:dG X (.builtin "len") (λxs H Q=>∃x n,xs=[x]/\MZ X.K x H n/\Q (.int n) H):=by
 intro pins s σ H xs us Q I r h;obtain⟨x,n,rfl,e,q⟩:=h;obtain⟨u,rfl,rx⟩:=vals1 r;have hl:=sD;have hs:sizeLine=16777216:=sizeLine_eq;cases x with
 |str y=>
  obtain⟨t,rfl⟩:=rx;obtain⟨hy,e'⟩:y.length<=sizeLine/\n=y.length:=e;subst e';exact len_str (by omega) ⟨.int _,H,I.tok _,⟨_,rfl⟩,q⟩
 |vC y=>
  obtain⟨t,rfl⟩:=rx;obtain⟨hy,e'⟩:y.size<=sizeLine/\n=y.size:=e;subst e';exact PySem.W.len_bytes (by omega) ⟨.int _,H,I.tok _,⟨_,rfl⟩,q⟩
 |ref p=>
  cases rx;have e':(∃xs,aC X.K H p xs/\n=xs.length)\/∃xs,dH X.K H p xs/\n=xs.length:=e;rcases e' with ⟨xs,hx,e'⟩|⟨xs,hx,e'⟩
  ·subst e';obtain⟨its,r',pl,hz⟩:=I.list hx;have hlen:=r'.length;exact Calls.call_len_list pl.isList (by simp only[List.size_toArray];omega) ⟨.int xs.length,H,I.tok _,⟨_,by simp only[List.size_toArray];rw[hlen]⟩,q⟩
  ·subst e';obtain⟨its,r',pl,hz⟩:=I.tuple hx;have hlen:=r'.length;exact len_tuple pl (by simp only[List.size_toArray];omega) ⟨.int xs.length,H,I.tok _,⟨_,by simp only[List.size_toArray];rw[hlen]⟩,q⟩
 |_=>exact(show False from e).elim
end
structure wy(h:Heap)(x dx C:Addr)(mA:So):Prop where
 obj:h.get? x=some (instObj C dx)
 ns:h.Ns1 dx mA
 ne:dx≠x
theorem my{h:Heap}{dx:Addr}{mA:So}(n:h.Ns1 dx mA):∃od,h.get? dx=some od/\∀name,lookIn name od=some (mA name):=by
 obtain⟨o,es,ep,ho,hd,hk,_,hm⟩:=n;refine⟨o,ho,λname=>?_⟩;have e:=hm name;unfold nsFind findBy at e;rw[<-Array.find?_toList]at e;unfold lookIn;rw[hd];dsimp only;split
 ·rename_i y q;rw[q]at e;exact congrArg some e
 ·rename_i q;rw[q]at e;have a:es.toList.any (·.refKey)=false:=by
   rw[List.any_eq_false];intro y hy;obtain⟨z,t,hkey⟩:=hk y (Array.mem_toList_iff.mp hy);simp[DictEntry.refKey,hkey]
  have a':¬es.toList.any (·.refKey)=true:=by rw[a];exact lK
  rw[if_neg a'];exact congrArg some e
theorem wy.look{h:Heap}{x dx C:Addr}{mA:So}(I:wy h x dx C mA):∃od,PySem.W.InstAt h x (instObj C dx) C (some od)/\∀name,lookIn name od=some (mA name):=
 let ⟨od,ho,hl⟩:=my I.ns
 ⟨od,⟨I.obj,rfl,rfl,ho⟩,hl⟩
section
variable{prog:Program}{w:World}{A:Around}{E:Vs}{s:Shared}{K:Wf}{x dx C f:Addr}{mA:So}{name:Str}{v:Value}
theorem get_map{expr:Bool}{Q:Vs}(X:K.In s.heap)(I:wy s.heap x dx C mA)(hg:plainGet K C name=true)(hh:hasDictIn K C=true)
  (ha:findIn K (.ref C) name=some none) (hv:mA name=some v) (hv':handedIn v=true) (h:Q v { s with toks:=s.toks+1 }):
  wpAny (model prog w) A (getAttr (.ref x) name expr) Q E s:=by
 obtain⟨od,J,hl⟩:=I.look;exact PySem.W.get_value X J (plainGet_of hg).1 (PySem.W.findObj_own hh ha rfl (by rw[hl,hv])) hv' h
theorem Ck{pl:Sem Bool}{Q:Value×List Value->Shared->Prop}(X:K.In s.heap)(I:wy s.heap x dx C mA)(hg:plainGet K C name=true)
  (hf:findIn K (.ref C) name=some (some (.ref f))) (ht:isFn K (.ref f)=true) (hv:mA name=none) (h:Q (.ref f,[.ref x]) s):
  wpAny (model prog w) A (getMethod (.ref x) name pl) Q E s:=by
 obtain⟨od,J,hl⟩:=I.look;exact PySem.W.method_fn X J (plainGet_of hg).1 (plainGet_of hg).2 hf (beq_iff_eq.mp ht) (by show(lookIn name od).map (·.isSome)=some false;rw[hl,hv];rfl) h
theorem IJ{ns:List Str}{Q:Unit->Shared->Prop}(X:K.In s.heap)(I:wy s.heap x dx C mA)
  (hs:findIn K (.ref C) "__setattr__" = some (some (.builtin "object.__setattr__"))) (hp:plainOver K C=true) (ht:takerIn K C name=some none) (hh:hasDictIn K C=true)
  (hw:PySem.Within mA ns) (hsz:ns.length<=sizeLine)
  (h:∀h',wy h' x dx C (λy=>if y=name then some v else mA y)->Heap.SameBut dx s.heap h'->Q () { s with heap:=h',toks:=s.toks+2 }):
  wpAny (model prog w) A (setAttr (.ref x) name v) Q E s:=by
 obtain⟨od,J,hl⟩:=I.look;refine PySem.W.set_plain X J hs (PySem.W.osa_open (s:={ s with toks:=s.toks+1 }) (r:=none) X J hp ht λb=>?_);obtain⟨cd,hc,hd'⟩:=PySem.W.any_some hh;have hx:s.heap.get? x=some ⟨.ref C,some dx,.plain,#[]⟩:=I.obj;refine aT (cC (aT (aT (wpAny_loadPart hx (aT (PySem.W.Looks.here (s:={ s with toks:=s.toks+1 }) (PySem.W.looks_clsIn X hc) ?_))))));rw[hd'];refine cC (a:=some dx) (aT (cC (aT ?_)));refine wpAny_nsSet1 (s:={ s with toks:=s.toks+1 }) I.ns λh' hn2 hs2=>?_;obtain⟨oD,esD,epD,hoD,hdD,hcD⟩:=hn2.count (PySem.Within.cons name v hw);refine aT (wpAny_lookBehind hoD (by rw[hdD];exact pastItsLine_dict (dy hcD (by rw[jd];omega))) ?_);exact cC (h _ ⟨(hs2.2 _ (Ne.symm I.ne)).trans I.obj,hn2,I.ne⟩ hs2)
theorem EH{R:Result->Shared->Prop}{vs:List Value}{kw:List (Str×Value)}(X:K.In s.heap)(hm:makesIn K C=true)
  (hi:findIn K (.ref C) "__init__" = some (some (.ref f))) (hf:PySem.W.typeIn K (.ref f)=some (.type "function"))
  (h:codeAny (model prog w) (A.under (.builtin "type.__call__" ⟨.ref C::vs,kw⟩)) (.call (.ref f) ⟨.ref (s.heap.objs.size+1)::vs,kw⟩) (PySem.W.InitBack (s.heap.objs.size+1) R)
   { s with heap:=(s.heap.push emptyDict).push (instObj C s.heap.objs.size) }):
  codeAny (model prog w) A (.call (.ref C) ⟨vs,kw⟩) R s:=by
 obtain⟨hh,g,d,t,os⟩:=s;exact PySem.W.make_core (PySem.W.makes_of X hm) (PySem.W.looks_findIn X hi) (λself=>PySem.W.bind_fn X self hf) (.inl rfl) h
end
noncomputable def putF(f:Str)(v:V):List (Str×V)->List (Str×V)
 |[]=>[(f,v)]
 | (g,x)::r=>if g=f then (g,v)::r else (g,x)::putF f v r
theorem fV(f g:Str)(v:V):∀fs:List (Str×V),(putF f v fs).lookup g=if g=f then some v else fs.lookup g
 |[]=>by
  show List.lookup g [(f,v)]=_;by_cases h:g=f
  ·have hb:(g == f)=true:=beq_iff_eq.mpr h;simp only[List.lookup,hb,if_pos h]
  ·have hb:(g == f)=false:=beq_eq_false_iff_ne.mpr h;simp only[List.lookup,hb,if_neg h]
 | (k,x)::r=>by
  have ih:=fV f g v r;rw[show putF f v ((k,x)::r)=(if k=f then (k,v)::r else (k,x)::putF f v r) from rfl];by_cases hk:k=f
  ·rw[if_pos hk];by_cases h:g=k
   ·have hb:(g == k)=true:=beq_iff_eq.mpr h;simp only[List.lookup,hb,if_pos (h.trans hk)]
   ·have hb:(g == k)=false:=beq_eq_false_iff_ne.mpr h;simp only[List.lookup,hb,if_neg (λe:g=f=>h (e.trans hk.symm))]
  ·rw[if_neg hk];by_cases h:g=k
   ·have hb:(g == k)=true:=beq_iff_eq.mpr h;simp only[List.lookup,hb,if_neg (λe:g=f=>hk (h.symm.trans e))]
   ·have hb:(g == k)=false:=beq_eq_false_iff_ne.mpr h;simp only[List.lookup,hb];exact ih
theorem e6(f:Str)(v:V):∀fs:List (Str×V),f∈(putF f v fs).map (·.1)/\∀g,g∈fs.map (·.1)->g∈(putF f v fs).map (·.1)
 |[]=>⟨by simp[putF],λg h=>by simp at h⟩
 | (k,x)::r=>by
  obtain⟨i1,i2⟩:=e6 f v r;rw[show putF f v ((k,x)::r)=(if k=f then (k,v)::r else (k,x)::putF f v r) from rfl];by_cases hk:k=f
  ·rw[if_pos hk];subst hk;exact⟨by simp,λg h=>by simpa using h⟩
  ·rw[if_neg hk];refine⟨?_,λg h=>?_⟩
   ·rw[xE];exact t_ _ i1
   ·rw[xE]at h ⊢;rcases lL.mp h with e|e
    ·exact lL.mpr (.inl e)
    ·exact t_ _ (i2 g e)
theorem i_(f:Str)(v:V):∀fs:List (Str×V),(putF f v fs).length<=fs.length+1
 |[]=>by simp[putF]
 | (k,x)::r=>by
  have ih:=i_ f v r;rw[show putF f v ((k,x)::r)=(if k=f then (k,v)::r else (k,x)::putF f v r) from rfl];by_cases hk:k=f
  ·rw[if_pos hk,jd,jd];omega
  ·rw[if_neg hk,jd,jd];omega
theorem eB.some_of{v:V}{o:Option Value}(r:eB (some v) o):∃u,o=some u/\RelV v u:=by
 cases o with
 |none=>exact(show False from r).elim
 |some u=>exact⟨u,rfl,r⟩
theorem eB.none_of{o:Option Value}(r:eB none o):o=none:=by
 cases o with
 |none=>rfl
 |some u=>exact(show False from r).elim
theorem md{v:V}{u:Value}(r:RelV v u):handedIn u=true:=by
 cases v with
 |aF=>cases (show u=Value.none from r);rfl
 |bl b=>cases (show u=Value.bool b from r);rfl
 |int i=>obtain⟨t,e⟩:=(show ∃t,u=Value.int i t from r);cases e;rfl
 |str x=>obtain⟨t,e⟩:=(show ∃t,u=Value.str x t from r);cases e;rfl
 |vC b=>obtain⟨t,e⟩:=(show ∃t,u=Value.bytes b t from r);cases e;rfl
 |G_ b=>obtain⟨t,e⟩:=(show ∃t,u=Value.float b t from r);cases e;rfl
 |ref a=>cases (show u=Value.ref a from r);rfl
 |ty n=>cases (show u=Value.type n from r);rfl
section
variable{P:Program}{w:World}{H H':Hp}{h h':Heap}{a C dx:Addr}{fs fs':List (Str×V)}
theorem ie(aN:eQ P w H h)(e:H a=some (.ins C dx fs)):∃mA,wy h a dx C mA/\(∀f,eB (fs.lookup f) (mA f))/\PySem.Within mA (fs.map (·.1))/\fs.length<=1000/\H dx=some (.own a):=by
 obtain⟨d,z,ne,ob,mA,n,r,q⟩:=(show a_ P w H h a (.ins C dx fs) from aN a _ e)
 exact⟨mA,⟨ob,n,ne⟩,r,q,z,d⟩
end
structure ue(K:Wf)(C:Addr):Prop where
 pg:plainGet K C Str.empty=true
 hd:hasDictIn K C=true
 po:plainOver K C=true
 sa:findIn K (.ref C) "__setattr__" = some (some (.builtin "object.__setattr__"))
theorem ue.get{K:Wf}{C:Addr}(c:ue K C)(f:Str):plainGet K C f=true:=c.pg
def bF(K:Wf)(C:Addr)(f:Str):Prop:=findIn K (.ref C) f=some none
theorem bF.MK{K:Wf}{C:Addr}{f:Str}(n:bF K C f):takerIn K C f=some none:=by
 unfold takerIn;rw[show findIn K (.ref C) f=some none from n];rfl
structure Meth(K:Wf)(C:Addr)(m:Str)(f:Addr):Prop where
 at_:findIn K (.ref C) m=some (some (.ref f))
 fn:isFn K (.ref f)=true
 kp:keepIn K (.ref f)=true
section
variable{X:Cx}{pins:Lo}{σ:St}{H:Hp}{s:Shared}{a C dx:Addr}{fs:List (Str×V)}{f:Str}{v:V}{A:Around}{E:Vs}
theorem wW{b:Bool}{Q:Vs}(I:Inv X pins σ H s)(e:H a=some (.ins C dx fs))(c:ue X.K C)(n:bF X.K C f)(l:fs.lookup f=some v)
  (h:∀u s',Inv X pins σ H s'->RelV v u->Q u s'):wpAny (model X.prog X.w) A (getAttr (.ref a) f b) Q E s:=by
 obtain⟨mA,O,r,_,_,_⟩:=ie I.aN e;obtain⟨u,hu,ru⟩:=eB.some_of (v:=v) (o:=mA f) (by rw[<-l];exact r f);exact get_map I.fk O (c.get f) c.hd n hu (md ru) (h u _ (I.tok _) ru)
theorem wH{m:Str}{g:Addr}{pl:Sem Bool}{Q:Value×List Value->Shared->Prop}(I:Inv X pins σ H s)(e:H a=some (.ins C dx fs))(c:ue X.K C)(k:Meth X.K C m g)(l:fs.lookup m=none)
  (h:Q (.ref g,[.ref a]) s):wpAny (model X.prog X.w) A (getMethod (.ref a) m pl) Q E s:=by
 obtain⟨mA,O,r,_,_,_⟩:=ie I.aN e;have hn:mA m=none:=eB.none_of (by rw[<-l];exact r m);exact Ck I.fk O (c.get m) k.at_ k.fn hn h
theorem v_{y:V}{u:Value}{Q:Unit->Shared->Prop}(I:Inv X pins σ H s)(e:H a=some (.ins C dx fs))(c:ue X.K C)(n:bF X.K C f)(hl:fs.length<1000)(ry:RelV y u)
  (h:∀s',Inv X pins σ (upd H a (.ins C dx (putF f y fs))) s'->Q () s'):wpAny (model X.prog X.w) A (setAttr (.ref a) f u) Q E s:=by
 obtain⟨mA,O,r,wi,_,ho⟩:=ie I.aN e;have hz:(fs.map (·.1)).length<=sizeLine:=by rw[aQ,sizeLine_eq];omega
 refine IJ I.fk O c.sa c.po n.MK c.hd wi hz λh' O' sb=>h _ ?_;have hd:∃o,h'.get? dx=some o:=let ⟨o,_,_,e',_⟩:=O'.ns;⟨o,e'⟩
 refine I.write (x:=a) (e:=dx) (by rw[e];exact True.intro) (.inr ho) (λb q hb z=>(sb.2 b hb).trans z) hd ?_;refine⟨by rw[ae O.ne];exact ho,?_,O.ne,O'.obj,_,O'.ns,λg=>?_,λg hg=>?_⟩
 ·have:=i_ f y fs;omega
 ·show eB ((putF f y fs).lookup g) (if g=f then some u else mA g);rw[fV];by_cases q:g=f
  ·rw[if_pos q,if_pos q];exact ry
  ·rw[if_neg q,if_neg q];exact r g
 ·by_cases q:g=f
  ·rw[q];exact(e6 f y fs).1
  ·refine(e6 f y fs).2 g (wi g λz=>hg ?_);show(if g=f then some u else mA g)=none;rw[if_neg q];exact z
theorem Inv.made(I:Inv X pins σ H s):Inv X pins σ (upd (upd H s.heap.objs.size (.own (s.heap.objs.size+1))) (s.heap.objs.size+1) (.ins C s.heap.objs.size []))
  { s with heap:=(s.heap.push emptyDict).push (instObj C s.heap.objs.size) }:=by
 have e1:(s.heap.push emptyDict).get? s.heap.objs.size=some emptyDict:=yO s.heap rfl;have e2:((s.heap.push emptyDict).push (instObj C s.heap.objs.size)).get? (s.heap.objs.size+1)=some (instObj C s.heap.objs.size):=by
  have:=yO (s.heap.push emptyDict) (o:=instObj C s.heap.objs.size) rfl
  rwa [Heap.size_push]at this
 have e3:(s.heap.push emptyDict).Ns s.heap.objs.size (λ_=>none):=⟨emptyDict,#[],_,e1,rfl,(λe he=>absurd he (by simp)),λ_=>rfl⟩
 have I1:=I.laid (a:=s.heap.objs.size) (o:=.own (s.heap.objs.size+1)) (h':=s.heap.push emptyDict) (t':=s.toks) (λb u q=>fU _ q) (dn _) ⟨_,e1⟩;refine I1.laid (a:=s.heap.objs.size+1) (o:=.ins C s.heap.objs.size []) (t':=s.toks) (λb u q=>fU _ q) (Nat.le_of_eq (Heap.size_push _ _)) ?_;have ne:s.heap.objs.size≠s.heap.objs.size+1:=lE (Nat.lt_succ_self _);refine⟨by rw[ae ne,aE],gB _,ne,e2,λ_=>none,(Heap.Ns1.of_empty e3).at λo q=>fU _ q,λ_=>True.intro,λy hy=>absurd rfl hy⟩
theorem yB{prog:Program}{w:World}{env:Env}{e:Expr}{f:Str}{pos:Pos}{s:Shared}{Q:Vs}(hb:attributeBase e f env (eval e env)=eval e env)
  (h:wpAny (model prog w) A (eval e env) (λo s₁=>wpAny (model prog w) A (getAttr o f true) Q E s₁) E s):wpAny (model prog w) A (eval (.Attribute e f pos) env) Q E s:=
 Attribute_any_ h (by rw[arm_eval_Attribute,hb])
end
def Qh(K:Wf)(ta:TE)(f:Str):TE:=λσ H Q=>ta σ H λx H1=>∃a C dx fs v,x=.ref a/\H1 a=some (.ins C dx fs)/\ue K C/\bF K C f/\fs.lookup f=some v/\Q v H1
def PX(K:Wf)(ta tv:TE)(f:Str):TS:=λD σ H=>tv σ H λy H1=>ta σ H1 λx H2=>∃a C dx fs,x=.ref a/\H2 a=some (.ins C dx fs)/\ue K C/\bF K C f/\fs.length<1000/\
 D.nx σ (upd H2 a (.ins C dx (putF f y fs)))
def Pt(K:Wf)(ta tv:TE)(rd:V->V->Hp->VK->Prop)(f:Str):TS:=λD σ H=>ta σ H λx H1=>∃a C dx fs v,x=.ref a/\H1 a=some (.ins C dx fs)/\ue K C/\bF K C f/\fs.lookup f=some v/\
 tv σ H1 λy H2=>rd v y H2 λz H3=>∃dx' fs',H3 a=some (.ins C dx' fs')/\fs'.length<1000/\D.nx σ (upd H3 a (.ins C dx' (putF f z fs')))
section
variable{X:Cx}{o e value:Expr}{f:Str}{pos pos' tpos:Pos}{ta tv:TE}
theorem cu(he:PE X e ta)(hb:attributeBase e f X.env (eval e X.env)=eval e X.env):PE X (.Attribute e f pos) (Qh X.K ta f):=by
 intro pins s σ H Q I h;refine yB hb (bx (he pins s σ H _ I h) λu s1 ⟨x,H1,I1,rx,a,C,dx,fs,v,ex,ea,c,n,l,q⟩=>?_);subst ex;obtain rfl:u=Value.ref a:=rx;exact wW I1 ea c n l λu' s2 I2 ru=>⟨v,H1,I2,ru,q⟩
theorem dB(ha:PE X o ta)(hv:PE X value tv)(hs:swapsWith value (some (.Attribute o f pos')) pos.line X.env=pure false):PS X (.Assign [.Attribute o f pos'] value pos) (PX X.K ta tv f):=by
 intro pins s σ H D I h;refine plainObj_wpAny_Assign_Attribute (bx (hv pins s σ H _ I h) λu s1 ⟨y,H1,I1,ry,q⟩=>bx (ha pins s1 σ H1 _ I1 q) λov s2 ⟨x,H2,I2,rx,a,C,dx,fs,ex,ea,c,n,l,q2⟩=>?_) hs;subst ex;obtain rfl:ov=Value.ref a:=rx;exact v_ I2 ea c n l ry λs3 I3=>⟨σ,_,I3,q2⟩
end
section
variable{X:Cx}{pins:Lo}{σ:St}{H:Hp}{s:Shared}{A:Around}{E:Vs}{Q:Vs}{c:Value}{b:Bool}
set_option genInjectivity true in
inductive h9 (K:Wf) (H:Hp):V->Value->Prop where
 |aF:h9 K H .aF (.type "NoneType")
 |bl (x:Bool):h9 K H (.bl x) (.type "bool")
 |int (i:Int):h9 K H (.int i) (.type "int")
 |str (x:Str):h9 K H (.str x) (.type "str")
 |G_ (x:UInt64):h9 K H (.G_ x) (.type "float")
 |lst {a:Addr}{xs:List V}(e:H a=some (.lst xs)):h9 K H (.ref a) (.type "list")
 |uM {a:Addr}{o:Obj}{xs:List V}(e:H a=some (.uM o (.lst xs))):h9 K H (.ref a) (.type "list")
 |tup {a:Addr}{xs:List V}(e:H a=some (.tup xs)):h9 K H (.ref a) (.type "tuple")
 |dK {a:Addr}{kvs:List (Key×V)}(e:H a=some (.dK kvs)):h9 K H (.ref a) (.type "dict")
 |dT {a:Addr}{kvs:List (List Key×V)}(e:H a=some (.dT kvs)):h9 K H (.ref a) (.type "dict")
 |ins {a C dx:Addr}{fs:List (Str×V)}(e:H a=some (.ins C dx fs)) (cl:ue K C) (ha:findIn K (.ref C) "__class__" = some (some (.builtin "object.__class__")))
   (hn:specialIn K (.builtin "object.__class__") "__get__" = some (some (.builtin "getset_descriptor.__get__"))) (htk:takesIn K (.builtin "object.__class__")=some true)
   (hm:mroIn K C (.type "object")=some true):h9 K H (.ref a) (.ref C)
theorem ma{x:V}{u t:Value}(I:Inv X pins σ H s)(rx:RelV x u)(ty:h9 X.K H x t)(e:kitOne X.K t c=some b)(h:∀tk,Q (.bool b) { s with toks:=tk }):
  wpAny (model X.prog X.w) A (call (.builtin "isinstance") [u,c]) Q E s:=by
 cases ty with
 |aF=>cases (show u=Value.none from rx);exact kia_one kitx_none I.fk True.intro e (λz=>nomatch z) h
 |bl y=>cases (show u=Value.bool y from rx);exact kia_one kitx_bool I.fk True.intro e (λz=>nomatch z) h
 |int i=>obtain⟨t,q⟩:=(show ∃t,u=Value.int i t from rx);cases q;exact kia_one kitx_int I.fk True.intro e (λz=>nomatch z) h
 |str y=>obtain⟨t,q⟩:=(show ∃t,u=Value.str y t from rx);cases q;exact kia_one kitx_str I.fk True.intro e (λz=>nomatch z) h
 |G_ y=>obtain⟨t,q⟩:=(show ∃t,u=Value.float y t from rx);cases q;exact kia_one kitx_float I.fk True.intro e (λz=>nomatch z) h
 |@lst a xs ea=>
  cases (show u=Value.ref a from rx);obtain⟨_,_,n,_,h1⟩:=(show a_ X.prog X.w H s.heap a (.lst xs) from I.aN a _ ea)
  exact kia_one kitx_list I.fk ⟨_,h1,rfl⟩ e (λz=>nomatch z) h
 |@uM a ob xs ea=>
  cases (show u=Value.ref a from rx);obtain⟨_,_,_,n,_,h1⟩:=(show a_ X.prog X.w H s.heap a (.uM ob (.lst xs)) from I.aN a _ ea)
  exact kia_one kitx_list I.fk ⟨_,h1,rfl⟩ e (λz=>nomatch z) h
 |@tup a xs ea=>
  cases (show u=Value.ref a from rx);obtain⟨_,_,_,p⟩:=(show a_ X.prog X.w H s.heap a (.tup xs) from I.aN a _ ea)
  obtain⟨o,h1,h2,_⟩:=p;exact kia_one kitx_tuple I.fk ⟨o,h1,h2⟩ e (λz=>nomatch z) h
 |@dK a kvs ea=>
  cases (show u=Value.ref a from rx);obtain⟨_,_,vs,_,p⟩:=(show a_ X.prog X.w H s.heap a (.dK kvs) from I.aN a _ ea)
  obtain⟨o,es,ep,h1,h2,_⟩:=p;exact kia_one kitx_dict I.fk ⟨o,h1,h2.1⟩ e (λz=>nomatch z) h
 |@dT a kvs ea=>
  cases (show u=Value.ref a from rx);obtain⟨_,_,xs,_,o,es,ep,h1,h2,_⟩:=(show a_ X.prog X.w H s.heap a (.dT kvs) from I.aN a _ ea)
  exact kia_one kitx_dict I.fk ⟨o,h1,h2.1⟩ e (λz=>nomatch z) h
 |@ins a C dx fs ea cl ha hn htk hm=>
  cases (show u=Value.ref a from rx);obtain⟨mA,O,_⟩:=ie I.aN ea;obtain⟨od,J,_⟩:=O.look;exact kia_one (kitx_own (cl.get _) cl.hd ha hn htk hm) I.fk J e (λz=>nomatch z) h
end
structure cR(k:Nat)(A:Around):Prop where
 hd:A.handled=none
 dp:A.depth+3*k+5<recursionLimit
 un:A.units+16*k+200<cLine
theorem cR.mono{j k:Nat}{A:Around}(r:cR k A)(h:j<=k):cR j A:=⟨r.hd,by have:=r.dp;omega,by have:=r.un;omega⟩
theorem cR.deeper{k:Nat}{A:Around}(r:cR (k+1) A)(env:Env):cR k (A.deeper env):=
 ⟨r.hd,by have:=r.dp;show A.depth+1+3*k+5<_;omega,by have:=r.un;show A.units+3+16*k+200<_;omega⟩
theorem vZ{A:Around}{C:Addr}{us:List Value}{kw:List (Str×Value)}:(A.under (.builtin "type.__call__" ⟨.ref C::us,kw⟩)).depth=A.depth+1:=by
 first|rfl|simp[Around.under,Code.weight,Code.isCreation,Code.isGuard,Code.isCaller,Code.frames,Code.isFrame,guardIds]
theorem vQ{A:Around}{C:Addr}{us:List Value}{kw:List (Str×Value)}:(A.under (.builtin "type.__call__" ⟨.ref C::us,kw⟩)).units=A.units+1:=by
 first|rfl|simp[Around.under,Code.cUnits,Code.frames,Code.isFrame]
theorem cR.make{k:Nat}{A:Around}(r:cR (k+1) A)(C:Addr)(us:List Value)(kw:List (Str×Value)):cR k (A.under (.builtin "type.__call__" ⟨.ref C::us,kw⟩)):=
 ⟨r.hd,by have:=r.dp;rw[vZ];omega,by have:=r.un;rw[vQ];omega⟩
theorem cR.depth{k:Nat}{A:Around}(r:cR k A):A.depth<recursionLimit:=by have:=r.dp;omega
theorem cR.units{k:Nat}{A:Around}(r:cR k A):A.units+64<cLine:=by have:=r.un;omega
def MY:TA:=λ_ H Q=>Q [] H
def O5(ta:TE)(tr:TA):TA:=λσ H Q=>ta σ H λx H1=>tr σ H1 λxs H2=>Q (x::xs) H2
section
variable{X:Cx}{e:Expr}{es:List Expr}{te:TE}{t:TA}{pos:Pos}
theorem aa:PA X [] MY:=λ_ _ _ _ H Q I h=>Calls.spliced_nil ⟨[],H,I,.nil,h⟩
theorem ao(ha:PE X e te)(hr:PA X es t)(hs:starEach (e::es) X.env=(false,eval e X.env)::starEach es X.env:=by rfl):PA X (e::es) (O5 te t):=by
 intro pos pins s σ H Q I h;rw[hs];show wpAny _ _ (spliced ((false,eval e X.env)::backTo pos (starEach es X.env))) _ _ s;refine Calls.spliced_cons (bx (ha pins s σ H _ I h) λu s1 ⟨x,H1,I1,r1,q1⟩=>?_);exact bx (hr pos pins s1 σ H1 _ I1 q1) λus s2 ⟨xs,H2,I2,r2,q2⟩=>⟨x::xs,H2,I2,.cons r1 r2,q2⟩
def QX(t:TA):TE:=λσ H Q=>t σ H λxs H1=>xs.length<=sizeLine/\∀p,H1 p=none->Q (.ref p) (upd H1 p (.tup xs))
def Qm(t:TA):TE:=λσ H Q=>t σ H λxs H1=>xs.length<=sizeLine/\∀p,H1 p=none->Q (.ref p) (upd H1 p (.lst xs))
theorem bM{x1}(h:PA X es t):PE X (.Tuple es x1 pos) (QX t):=by
 intro pins s σ H Q I hq;refine wpAny_Tuple_spliced (bx (h pos pins s σ H _ I hq) λus s1 ⟨xs,H1,I1,r,z,q⟩=>⟨by rw[<-r.length];exact z,?_⟩);have hf:H1 s1.heap.objs.size=none:=I1.aN.fresh (dn _);refine⟨.ref s1.heap.objs.size,upd H1 s1.heap.objs.size (.tup xs),I1.laid (t':=s1.toks) (λb u e=>fU _ e) (dn _) ?_,rfl,q _ hf⟩;exact⟨z,us,r,⟨_,yO _ rfl,rfl,_,rfl⟩⟩
theorem aw(h:PA X es t):PE X (.List es pos) (Qm t):=by
 intro pins s σ H Q I hq;refine wpAny_List_spliced (bx (h pos pins s σ H _ I hq) λus s1 ⟨xs,H1,I1,r,z,q⟩=>⟨by rw[<-r.length];exact z,?_⟩);have hf:H1 s1.heap.objs.size=none:=I1.aN.fresh (dn _);refine⟨.ref s1.heap.objs.size,upd H1 s1.heap.objs.size (.lst xs),I1.laid (t':=s1.toks) (λb u e=>fU _ e) (dn _) ?_,rfl,q _ hf⟩;exact⟨z,us,0,r,yO _ rfl⟩
end
noncomputable abbrev Sp:=List V->Hp->VK->XK->Prop
noncomputable abbrev A3:=List Env->Hp->Shared->XK->Value->Shared->Prop
structure wz(P:Program)(w:World)(K:Wf)(mg:So)(base:Heap)(A:Around)(outer:List Env)(s:Shared)(H:Hp):Prop where
 frames:A.frames=some outer
 mod:Mod K mg base
 bs:∀b o,base.get? b=some o->s.heap.get? b=some o/\H b=none
 GK:base.objs.size<=s.heap.objs.size
 h_:s.heap.FunFrames base outer
 Ig:∀b∈hZ outer,H b=none
 aN:eQ P w H s.heap
 bare:AllBare s.gens
def CE(outer:List Env)(P:Program)(w:World)(H:Hp)(s:Shared)(Q:VK)(u:Value)(s':Shared):Prop:=
 ∃v H',s'.os=s.os/\AllBare s'.gens/\Un (hZ outer) [] H H' s.heap s'.heap/\eQ P w H' s'.heap/\RelV v u/\Q v H'
def CR(CX:A3)(outer:List Env)(P:Program)(w:World)(H:Hp)(s:Shared)(Q:VK)(E:XK)(r:Result)(s':Shared):Prop:=
 match r with
 |.ok (.ret u)=>CE outer P w H s Q u s'
 |.ok _=>False
 |.error e=>CX outer H s E e s'
structure bo(P:Program)(w:World)(K:Wf)(mg:So)(base:Heap)(CX:A3)(k:Nat)(f:Addr)(fd:FuncData)(ps:List Str)(sp:Sp):Prop where
 len:∀vs H Q E,sp vs H Q E->vs.length=ps.length
 run:∀(A:Around) (outer:List Env) (s:Shared) (H:Hp) (args:Args) (us:List Value) (vs:List V) (Q:VK) (E:XK),cR k A->wz P w K mg base A outer s H->BindsTo s fd args (ps.zip us)->Vals vs us->sp vs H Q E->
  codeAny (model P w) A (.call (.ref f) args) (CR CX outer P w H s Q E) s
theorem wz.make{P:Program}{w:World}{K:Wf}{mg:So}{base:Heap}{A:Around}{outer:List Env}{s:Shared}{H:Hp}(e:wz P w K mg base A outer s H)(C:Addr)(us:List Value)(kw:List (Str×Value)):
  wz P w K mg base (A.under (.builtin "type.__call__" ⟨.ref C::us,kw⟩)) outer s H:=⟨by first|exact e.frames|(simpa [Around.under,Code.envs,Code.isFrame,pushEnvs] using e.frames),e.mod,e.bs,e.GK,e.h_,e.Ig,e.aN,e.bare⟩
section
variable{X:Cx}{pins:Lo}{σ:St}{H:Hp}{s s':Shared}
theorem Inv.Iz(I:Inv X pins σ H s):wz X.prog X.w X.K X.mg X.base X.A X.stack s H:=
 ⟨I.ok.frames,I.ok.mod,I.bs,dy I.ok.GK I.sz,I.stack,I.ik,I.aN,I.bare⟩
theorem Inv.after{Q:VK}{u:Value}(I:Inv X pins σ H s)(h:CE X.stack X.prog X.w H s Q u s'):EP X pins σ Q u s':=by
 obtain⟨v,H',os,bare,un,aN,r,q⟩:=h;obtain⟨hh,g,d,t,os'⟩:=s';obtain rfl:os'=s.os:=os;exact⟨v,H',I.call (h':=hh) (g':=g) (d':=d) (t':=t) (ch:=[]) un aN bare (λb z=>absurd z (by simp)),r,q⟩
end
def Jq(sp:Sp)(dvs:List V)(E:XK)(t:TA):TE:=λσ H Q=>t σ H λvs H1=>sp (vs++dvs) H1 Q E
def Mw(C:Addr)(m:Str)(sp:Sp)(dvs:List V)(E:XK)(ta:TE)(t:TA):TE:=λσ H Q=>ta σ H λx H1=>∃a dx fs,x=.ref a/\H1 a=some (.ins C dx fs)/\fs.lookup m=none/\
 t σ H1 λvs H2=>sp (x::(vs++dvs)) H2 Q E
def JU(C:Addr)(sp:Sp)(dvs:List V)(E:XK)(t:TA):TE:=λσ H Q=>t σ H λvs H1=>∀x dx,H1 x=none->H1 dx=none->dx≠x->
 sp (.ref x::(vs++dvs)) (upd (upd H1 dx (.own x)) x (.ins C dx [])) (λv H2=>v=.aF/\Q (.ref x) H2) E
def Binds(K:Wf)(fd:FuncData)(ps:List Str)(ds:List Value):Prop:=
 ∀(s:Shared) (us:List Value),K.In s.heap->(us++ds).length=ps.length->BindsTo s fd ⟨us,[]⟩ (ps.zip (us++ds))
theorem Binds.all{K:Wf}{fd:FuncData}{ps:List Str}(h:∀us:List Value,us.length=ps.length->bindArgs fd ⟨us,[]⟩=pure (ps.zip us)):Binds K fd ps []:=λs us _ hl=>by
 rw[Ho]at hl ⊢;exact .of_eq (h us hl)
def Passes(CX:A3)(X:Cx)(E:XK):Prop:=∀(pins:Lo) (σ:St) (H:Hp) (s:Shared) (e:Value) (s':Shared),Inv X pins σ H s->CX X.stack H s E e s'->X.xe e s'
section
variable{X:Cx}{CX:A3}{k:Nat}{f C:Addr}{fd:FuncData}{ps:List Str}{sp:Sp}{dvs:List V}{ds:List Value}{E:XK}{x m:Str}{p pos apos:Pos}{e o:Expr}{es:List Expr}{ta:TE}{t:TA}
theorem CO{pins:Lo}{σ:St}{H:Hp}{s:Shared}{Q:VK}{us:List Value}{vs:List V}(F:bo X.prog X.w X.K X.mg X.base CX k f fd ps sp)(hr:cR k X.A)(hb:Binds X.K fd ps ds)(hd:Vals dvs ds)(hx:Passes CX X E)
  (I:Inv X pins σ H s) (r:Vals vs us) (h:sp (vs++dvs) H Q E):wpAny (model X.prog X.w) X.A (call (.ref f) us) (EP X pins σ Q) X.xe s:=by
 have r2:Vals (vs++dvs) (us++ds):=r.append hd;have hl:(us++ds).length=ps.length:=by rw[<-r2.length];exact F.len _ _ _ _ h
 refine Il (codeAny_mono (F.run X.A X.stack s H ⟨us,[]⟩ (us++ds) (vs++dvs) Q E hr I.Iz (hb s us I.fk hl) r2 h) λr s' hq=>?_);cases r with
 |error e=>exact hx pins σ H s e s' I hq
 |ok fl=>
  cases fl with
  |ret u=>exact I.after hq
  |next=>exact False.elim hq
  |brk=>exact False.elim hq
  |cont=>exact False.elim hq
theorem pG(F:bo X.prog X.w X.K X.mg X.base CX k f fd ps sp)(hr:cR k X.A)(hg:Gl X x)(hm:X.mg x=some (.ref f))(hk:keepIn X.K (.ref f)=true)(hb:Binds X.K fd ps ds)(hd:Vals dvs ds)(hx:Passes CX X E)
  (ha:PA X (e::es) t) (hdb:(x == ("__debug__" : Str))=false:=by decide) (he:starEach (e::es) X.env=(false,eval e X.env)::starEach es X.env:=by rfl) (hpl:(backTo pos (starEach es X.env)).any (·.1)=false:=by rfl):
  PE X (.Call (.Name x p) (e::es) [] pos) (Jq sp dvs E t):=by
 intro pins s σ H Q I h;refine Ll (dm I hg hm ?_ hdb);refine callWith_K (h₀:=X.base) I.ok.mod.Hq hk (bx (ha pos pins s σ H _ I h) λus s1 ⟨vs,H1,I1,r,q⟩=>⟨I1.fk,?_⟩) he hpl;exact CO F hr hb hd hx I1 r q
theorem gz{pl:Sem Bool}(he:PE X o ta)(c:ue X.K C)(hm:Meth X.K C m f)(F:bo X.prog X.w X.K X.mg X.base CX k f fd ps sp)(hr:cR k X.A)(hb:Binds X.K fd ps ds)(hd:Vals dvs ds)(hx:Passes CX X E)(ha:PA X (e::es) t)
  (hst:starEach (e::es) X.env=(false,eval e X.env)::starEach es X.env:=by rfl) (hpl:(backTo pos (starEach es X.env)).any (·.1)=false:=by rfl)
  (ht:eval (.Call (.Attribute o m apos) (e::es) [] pos) X.env=(do
   let ov <-eval o X.env
   standAt apos.atName
   let (f,first) <-holding [ov] (getMethod ov m pl)
   callWith pos f first (backTo pos (starEach (e::es) X.env)) (backToKw pos (keywordEach [] X.env))):=by rfl):
  PE X (.Call (.Attribute o m apos) (e::es) [] pos) (Mw C m sp dvs E ta t):=by
 intro pins s σ H Q I h;refine PySem.W.methodCall_KW (pl:=pl) (bx (he pins s σ H _ I h) λu s1 ⟨x,H1,I1,rx,a,dx,fs,ex,ea,l,q⟩=>?_) ht;subst ex;obtain rfl:u=Value.ref a:=rx;refine wH I1 ea c hm l ?_;refine callWith_K (first:=[.ref a]) (h₀:=X.base) I.ok.mod.Hq hm.kp (bx (ha pos pins s1 σ H1 _ I1 q) λus s2 ⟨vs,H2,I2,r,q2⟩=>⟨I2.fk,?_⟩) hst hpl;exact CO (us:=.ref a::us) (vs:=.ref a::vs) F hr hb hd hx I2 (.cons rfl r) q2
structure Mk(K:Wf)(C f:Addr):Prop where
 makes:makesIn K C=true
 init:findIn K (.ref C) "__init__" = some (some (.ref f))
 fn:isFn K (.ref f)=true
 kp:keepIn K (.ref C)=true
theorem vx{pins:Lo}{σ:St}{H:Hp}{s:Shared}{Q:VK}{us:List Value}{vs:List V}(M:Mk X.K C f)(F:bo X.prog X.w X.K X.mg X.base CX k f fd ps sp)(hr:cR (k+1) X.A)(hb:Binds X.K fd ps ds)(hd:Vals dvs ds)
  (hx:Passes CX X E) (I:Inv X pins σ H s) (r:Vals vs us)
  (h:∀x dx,H x=none->H dx=none->dx≠x->sp (.ref x::(vs++dvs)) (upd (upd H dx (.own x)) x (.ins C dx [])) (λv H2=>v=.aF/\Q (.ref x) H2) E):
  wpAny (model X.prog X.w) X.A (call (.ref C) us) (EP X pins σ Q) X.xe s:=by
 have hq:=h (s.heap.objs.size+1) s.heap.objs.size (I.aN.fresh (Nat.le_succ _)) (I.aN.fresh (dn _)) (lE (Nat.lt_succ_self _));have I2:=Inv.made (C:=C) I;have r2:Vals (V.ref (s.heap.objs.size+1)::(vs++dvs)) (Value.ref (s.heap.objs.size+1)::(us++ds)):=.cons rfl (r.append hd);have hl:(Value.ref (s.heap.objs.size+1)::us++ds).length=ps.length:=by
  have e:=r2.length;rw[F.len _ _ _ _ hq]at e;exact e.symm
 refine Il (EH (f:=f) I.fk M.makes M.init (beq_iff_eq.mp M.fn) (codeAny_mono (F.run _ X.stack _ _ ⟨Value.ref (s.heap.objs.size+1)::us,[]⟩ (Value.ref (s.heap.objs.size+1)::(us++ds)) _ _ E (hr.make C us [])
  (I2.Iz.make C us []) (hb _ (Value.ref (s.heap.objs.size+1)::us) I2.fk hl) r2 hq) λr s' hq'=>?_))
 cases r with
 |error e=>exact hx pins σ _ _ e s' I2 hq'
 |ok fl=>
  cases fl with
  |ret u=>
   obtain⟨v,H',I3,rv,ev,q3⟩:=I2.after hq';subst ev;exact⟨rv,⟨V.ref (s.heap.objs.size+1),H',I3,rfl,q3⟩⟩
  |next=>exact False.elim hq'
  |brk=>exact False.elim hq'
  |cont=>exact False.elim hq'
theorem hV(M:Mk X.K C f)(F:bo X.prog X.w X.K X.mg X.base CX k f fd ps sp)(hr:cR (k+1) X.A)(hg:Gl X x)(hm:X.mg x=some (.ref C))(hb:Binds X.K fd ps ds)(hd:Vals dvs ds)(hx:Passes CX X E)
  (ha:PA X (e::es) t) (hdb:(x == ("__debug__" : Str))=false:=by decide) (he:starEach (e::es) X.env=(false,eval e X.env)::starEach es X.env:=by rfl) (hpl:(backTo pos (starEach es X.env)).any (·.1)=false:=by rfl):
  PE X (.Call (.Name x p) (e::es) [] pos) (JU C sp dvs E t):=by
 intro pins s σ H Q I h;refine Ll (dm I hg hm ?_ hdb);refine callWith_K (h₀:=X.base) I.ok.mod.Hq M.kp (bx (ha pos pins s σ H _ I h) λus s1 ⟨vs,H1,I1,r,q⟩=>⟨I1.fk,?_⟩) he hpl;exact vx M F hr hb hd hx I1 r q
theorem Gq(M:Mk X.K C f)(F:bo X.prog X.w X.K X.mg X.base CX k f fd ps sp)(hr:cR (k+1) X.A)(hg:Gl X x)(hm:X.mg x=some (.ref C))(hb:Binds X.K fd ps ds)(hd:Vals dvs ds)(hx:Passes CX X E)
  (hdb:(x == ("__debug__" : Str))=false:=by decide):PE X (.Call (.Name x p) [] [] pos) (JU C sp dvs E MY):=by
 intro pins s σ H Q I h;refine Ll (dm I hg hm ?_ hdb);exact PySem.W.callWith_K0 I.fk M.kp (vx (us:=[]) M F hr hb hd hx I .nil h)
end
section
variable{X:Cx}{CX:A3}{k:Nat}{f C:Addr}{fd:FuncData}{ps ks:List Str}{sp:Sp}{E:XK}{x m:Str}{p pos apos kpos:Pos}{e o:Expr}{es:List Expr}{kws:List Keyword}{te ta:TE}{t tk:TA}{nm:Option Str}
variable{g:List Value->List Value->List Value}{gV:List V->List V->List V}
end
structure aB(N P:List Str)(sc:Scope):Prop where
 kind:sc.kind=.function
 co:sc.isCoroutine=false
 gen:sc.isGenerator=false
 nd:N.Nodup
 pre:N.take P.length=P
 par:∀x∈P,sc.names.lookup x=some .local\/sc.names.lookup x=some .cell
 KU:∀y∈sc.names,y.2≠.free
theorem l_{kindOf:Str->Option NameKind}{x:Str}:∀{binds:List (Str×Value)}{m:So},(∀v,(x,v)∉binds)->bindL kindOf binds m x=m x
 |[],_,_=>rfl
 | (n,v)::r,m,h=>by
  unfold bindL;rw[l_ λw hw=>h w (t_ _ hw)];split
  ·have:x≠n:=by rintro rfl;exact h v wX
   simp[this]
  ·rfl
theorem mD{kindOf:Str->Option NameKind}{x:Str}:∀{binds:List (Str×Value)}{m:So},(∀v,(x,v)∉binds)->bindC kindOf binds m x=m x
 |[],_,_=>rfl
 | (n,v)::r,m,h=>by
  unfold bindC;rw[mD λw hw=>h w (t_ _ hw)];split
  ·rfl
  ·have:x≠n:=by rintro rfl;exact h v wX
   simp[this]
theorem l9{kindOf:Str->Option NameKind}{x:Str}{v:Value}:∀{P:List Str}{vs:List Value}{i:Nat}{m:So},P.Nodup->P[i]?=some x->vs[i]?=some v->kindOf x=some .local->
  bindL kindOf (P.zip vs) m x=some v
 |[],_,_,_,_,h,_,_=>by simp at h
 |_::_,[],_,_,_,_,h,_=>by simp at h
 |p::P,w::vs,0,m,nd,h1,h2,hk=>by
  simp at h1 h2;subst h1;subst h2;show bindL kindOf ((p,w)::P.zip vs) m p=_;unfold bindL;rw[l_ λv hv=>(List.nodup_cons.mp nd).1 (List.of_mem_zip hv).1,if_pos hk];simp
 |p::P,w::vs,i+1,m,nd,h1,h2,hk=>by
  show bindL kindOf ((p,w)::P.zip vs) m x=_;unfold bindL;exact l9 (i:=i) (List.nodup_cons.mp nd).2 (by simpa using h1) (by simpa using h2) hk
theorem mM{kindOf:Str->Option NameKind}{x:Str}{v:Value}:∀{P:List Str}{vs:List Value}{i:Nat}{m:So},P.Nodup->P[i]?=some x->vs[i]?=some v->kindOf x≠some .local->
  bindC kindOf (P.zip vs) m x=some v
 |[],_,_,_,_,h,_,_=>by simp at h
 |_::_,[],_,_,_,_,h,_=>by simp at h
 |p::P,w::vs,0,m,nd,h1,h2,hk=>by
  simp at h1 h2;subst h1;subst h2;show bindC kindOf ((p,w)::P.zip vs) m p=_;unfold bindC;rw[mD λv hv=>(List.nodup_cons.mp nd).1 (List.of_mem_zip hv).1,if_neg hk];simp
 |p::P,w::vs,i+1,m,nd,h1,h2,hk=>by
  show bindC kindOf ((p,w)::P.zip vs) m x=_;unfold bindC;exact mM (i:=i) (List.nodup_cons.mp nd).2 (by simpa using h1) (by simpa using h2) hk
noncomputable def start(N:List Str)(vs:List V):St:=vs.map some++List.replicate (N.length - vs.length) none
noncomputable def kT(CX:A3)(P:Program)(w:World)(K:Wf)(mg:So)(base:Heap)(N:List Str)(qual:Str)(scope:Scope)(f:Addr)(cd:Value)(A:Around)(outer:List Env)(s:Shared)(H:Hp)(E:XK):Cx where
 prog:=P
 w:=w
 K:=K
 mg:=mg
 base:=base
 A:=A.deeper (envOfC qual scope s.heap.objs.size f cd)
 N:=N
 s₀:=s
 H₀:=H
 env:=envOfC qual scope s.heap.objs.size f cd
 outer:=outer
 stack:=envOfC qual scope s.heap.objs.size f cd::outer
 ex:=[]
 calm:=true
 fn:=λ_=>true
 pn:=[]
 xe:=λe s'=>wpAny (model P w) (A.deeper (envOfC qual scope s.heap.objs.size f cd)) (leaving (envOfC qual scope s.heap.objs.size f cd) e) (λ_ s''=>CX outer H s E e s'') (λe' s''=>CX outer H s E e' s'') s'
theorem u9{sc:Scope}{n:Nat}{x:Str}(h:sc.names.lookup x=some .cell):∃c,(cellsFrom n sc.names []).lookup x=some c:=by
 have q:=cellsFrom_some sc.names n [] (.inl h);exact Option.isSome_iff_exists.mp q
theorem Ay{CX:A3}{P:Program}{w:World}{K:Wf}{mg:So}{base:Heap}{N ps:List Str}{qual:Str}{scope:Scope}{f:Addr}{cd:Value}{A:Around}{outer:List Env}{s s1:Shared}{H:Hp}{E:XK}{us:List Value}{vs:List V}
  (S:aB N ps scope) (hd:A.handled=none) (e0:wz P w K mg base A outer s H) (hl:vs.length=ps.length) (r:Vals vs us)
  (x:InCallC s s.heap.objs.size (bindL (envOfC qual scope s.heap.objs.size f cd).kindOf (ps.zip us) λ_=>none) (cellsFrom (s.heap.objs.size+1) scope.names []) (bindC (envOfC qual scope s.heap.objs.size f cd).kindOf (ps.zip us) λ_=>none) s1):
  Inv (kT CX P w K mg base N qual scope f cd A outer s H E) [] (start N vs) H s1:=by
 have hpl:ps.length<=N.length:=by have:=congrArg List.length S.pre;rw[nV]at this;omega
 obtain⟨h1,tk,rfl,hk⟩:=x.done;have noA:∀b:Addr,b∉(kT CX P w K mg base N qual scope f cd A outer s H E).ex:=λb z=>absurd (show b∈([]:List Addr) from z) (by simp);refine⟨⟨e0.mod,S.kind,rfl,rfl,dn _,λy z c h1 h2=>?_,λy hy=>?_,λy c _ h=>?_,λ_=>hd,Around.frames_deeper e0.frames,.inr ⟨rfl,rfl⟩,λb z=>absurd z (noA b),e0.bs,e0.GK,λb _ _=>noA b,λb z=>absurd z (noA b),e0.h_,e0.Ig⟩,
  rfl,e0.bare,Un.kept hk,⟨_,x.toInCall.ns,λi y v h1 h2 h3=>?_⟩,λy c h=>⟨_,x.cell y c h⟩,e0.aN.fresh (dn _),λy c h=>?_,λp hp=>absurd (show p∈([]:Lo) from hp) (by simp),e0.aN.kept hk,?_⟩
 ·exact name_of_addr x.apart (PySem.mem_of_lookup h1) (PySem.mem_of_lookup h2)
 ·have hy:scope.names.lookup y=some .cell\/scope.names.lookup y=some .free:=hy;rcases hy with hy|hy
  ·exact u9 hy
  ·exact absurd rfl (S.KU _ (PySem.mem_of_lookup hy))
 ·exact Nat.le_of_lt (x.above y c (PySem.mem_of_lookup h))
 ·have hi:i<vs.length:=by
   unfold start at h2;by_cases hi:i<vs.length
   ·exact hi
   ·rw[Mj (by simpa using hi)]at h2;rw[List.getElem?_replicate]at h2;split at h2<;>cases h2
  have ha:vs[i]?=some v:=by
   unfold start at h2;rw[Pk (by simpa using hi),List.getElem?_map]at h2;cases e:vs[i]? with
   |none=>rw[e]at h2;cases h2
   |some a=>rw[e]at h2;cases h2;rfl
  obtain⟨u,hu,rv⟩:=r.get ha;have hp:ps[i]?=some y:=by
   rw[<-S.pre,List.getElem?_take_of_lt (by omega)];exact h1
  have ndP:ps.Nodup:=by rw[<-S.pre];exact S.nd.sublist (List.take_sublist _ _)
  refine⟨u,rv,?_⟩;rcases S.par y (A4 hp) with k|k
  ·exact .inl ⟨k,l9 ndP hp hu k⟩
  ·obtain⟨c,e⟩:=u9 (n:=s.heap.objs.size+1) k;refine .inr ⟨.inl k,c,e,?_⟩;have q:=x.cell y c e;rw[mM ndP hp hu (by show scope.names.lookup y≠_;rw[k];decide)]at q;exact q
 ·exact e0.aN.fresh (Nat.le_of_lt (x.above y c (PySem.mem_of_lookup h)))
 ·unfold start;show _=N.length;rw[cL,aQ,List.length_replicate];omega
theorem J3{CX:A3}{P:Program}{w:World}{K:Wf}{mg:So}{base:Heap}{k:Nat}{f:Addr}{name qual:Str}{params:Arguments}{body:List Stmt}{scope:Scope}{dV kV doc pm cdv ct oc:Value}{an od:Option Addr}
  {osl:Array (Option Value)}{N ps:List Str}{sp:Sp}(lk:K.lookup f=some ⟨oc,od,.func (fnOf name qual params body scope dV kV doc pm an cdv ct),osl⟩) (hcd:codeIn K cdv qual=true) (S:aB N ps scope)
  (len:∀vs H Q E,sp vs H Q E->vs.length=ps.length)
  (hbody:∀(A:Around) (outer:List Env) (s:Shared) (H:Hp) (vs:List V) (Q:VK) (E:XK),cR k (A.deeper (envOfC qual scope s.heap.objs.size f cdv))->sp vs H Q E->
   ∃t,lV (kT CX P w K mg base N qual scope f cdv A outer s H E) body t/\t { nx:=λ_ H'=>Q .aF H',rt:=Q } (start N vs) H):
  bo P w K mg base CX (k+1) f (fnOf name qual params body scope dV kV doc pm an cdv ct) ps sp:=by
 refine⟨len,λA outer s H args us vs Q E hr e0 hb r hsp=>?_⟩;have hl:=len _ _ _ _ hsp;have KX:K.In s.heap:=e0.mod.Hq.keeps λb o e=>(e0.bs b o e).1;have lim:s.heap.NoLimit:=e0.mod.nolimit.keeps λb o e=>(e0.bs b o e).1;have hkind:∀y∈ps.zip us,scope.names.lookup y.1=some .local\/(scope.names.lookup y.1=some .cell/\((cellsFrom (s.heap.objs.size+1) scope.names []).lookup y.1).isSome=true):=λ⟨n,v⟩ hy=>by
  rcases S.par n (List.of_mem_zip hy).1 with q|q
  ·exact .inl q
  ·exact .inr ⟨q,cellsFrom_some _ _ _ (.inl q)⟩
 refine codeAny_call_function hr.depth (KX _ _ lk) rfl S.co S.gen rfl (PySem.W.codeRec_of KX hcd) (hb _ _ _ _ ?_);refine wpAny_newFunctionEnv_cells S.kind hkind λenv he s1 x=>?_;subst he;refine⟨lim.keeps x.toInCall.keep,codeAny_func ?_⟩;obtain⟨t,ht,hq⟩:=hbody A outer s H vs Q E (hr.deeper _) hsp;have I:Inv (kT CX P w K mg base N qual scope f cdv A outer s H E) [] (start N vs) H s1:=Ay S hr.hd e0 hl r x;refine iO (ht [] s1 (start N vs) H _ I hq) (λfl s' hs=>?_) λe s' hs=>hs;have fin:∀{σ':St}{H':Hp}{v:V}{u:Value},Inv (kT CX P w K mg base N qual scope f cdv A outer s H E) [] σ' H' s'->RelV v u->Q v H'->CE outer P w H s Q u s':=
  λ{σ' H' v u} J rv q=>⟨v,H',J.os,J.bare,J.base,J.aN,rv,q⟩
 cases fl with
 |ret u=>
  obtain⟨v,σ',H',J,rv,q⟩:=hs;exact fin J rv q
 |next=>
  obtain⟨σ',H',J,q⟩:=hs;exact fin (v:=V.aF) (u:=Value.none) J rfl q
 |brk=>
  obtain⟨_,_,_,q⟩:=hs;exact False.elim q
 |cont=>
  obtain⟨_,_,_,q⟩:=hs;exact False.elim q
section
variable{X:Cx}{x:Str}{p pos:Pos}{e:Expr}{es:List Expr}{t:TA}{id T:String}{r:List V->Hp->VK->Prop}
def SQ(r:List V->Hp->VK->Prop)(t:TA):TE:=λσ H Q=>t σ H λvs H1=>r vs H1 Q
theorem dh(hc:dG X (.builtin id) r)(hg:Gl X x)(hm:X.mg x=none)(hv:bootBuiltins x=some (.builtin id))(ha:PA X (e::es) t)(hn:x ≠ "__name__" := by decide)(hdb:(x == ("__debug__" : Str))=false:=by decide)
  (he:starEach (e::es) X.env=(false,eval e X.env)::starEach es X.env:=by rfl) (hpl:(backTo pos (starEach es X.env)).any (·.1)=false:=by rfl):PE X (.Call (.Name x p) (e::es) [] pos) (SQ r t):=by
 intro pins s σ H Q I h;refine Ll (iD I hg hm hv ?_ hn hdb);exact PyProof.Rows.callWith_builtin1 (bx (ha pos pins s σ H _ I h) λus s1 ⟨vs,H1,I1,r1,q1⟩=>hc pins s1 σ H1 vs us Q I1 r1 q1) he hpl
theorem gY(hc:dG X (.type T) r)(hg:Gl X x)(hm:X.mg x=none)(hv:bootBuiltins x=some (.type T))(ha:PA X (e::es) t)(hn:x ≠ "__name__" := by decide)(hdb:(x == ("__debug__" : Str))=false:=by decide)
  (he:starEach (e::es) X.env=(false,eval e X.env)::starEach es X.env:=by rfl) (hpl:(backTo pos (starEach es X.env)).any (·.1)=false:=by rfl):PE X (.Call (.Name x p) (e::es) [] pos) (SQ r t):=by
 intro pins s σ H Q I h;refine Ll (iD I hg hm hv ?_ hn hdb);exact PyProof.Rows.callWith_type1 (bx (ha pos pins s σ H _ I h) λus s1 ⟨vs,H1,I1,r1,q1⟩=>hc pins s1 σ H1 vs us Q I1 r1 q1) he hpl
end
end L2
namespace HT
open PySem PyProof.Rows
section
open PySem.SeqAt
open PySem.AutoSeq1 (wpAny_loadPart')
open PySem.MeetsSeq PySem.MeetsSeq2 PySem.MeetsSeq3
end
section
variable{prog:Program}{w:World}{A:Around}{E:Vs}{s:Shared}
theorem cat_tup{t b:Addr}{vs ws:List Value}{Q:Vs}(ht:IsTup s.heap t vs.toArray)(hb:IsTup s.heap b ws.toArray)(hv:vs≠[])
  (h1:ws=[]->Q (.ref t) s) (h2:ws≠[]->Q (.ref s.heap.objs.size) { s with heap:=s.heap.push { cls:=.type "tuple", data:=.seq (vs++ws).toArray } })
  (hsz:vs.length+ws.length<=sizeLine):wpAny (model prog w) A (binaryOp .Add (.ref t) (.ref b)) Q E s:=by
 obtain⟨⟨cls,dd,data,sl⟩,ho,hc,n,hd⟩:=id ht;obtain⟨⟨cls2,dd2,data2,sl2⟩,ho2,hc2,n2,hd2⟩:=id hb;simp only at hc hd hc2 hd2;subst hc hd hc2 hd2;have e:vs.toArray++ws.toArray=(vs++ws).toArray:=by simp
 by_cases hw:ws=[]
 ·exact concat_meets ⟨_,ho,rfl⟩ ⟨_,ho2,rfl⟩ noFill_tuple_add seq_tuple_add PySem.F.slot_tuple_add PySem.F.entry_tuple_add (PySem.F.args_tuple_add_2 _ _)
   (tuple_addW1 t b vs.toArray ws.toArray n n2 dd dd2 sl sl2 (by simpa using hv) (by simp[hw])) ⟨ho,ho2,h1 hw⟩
 ·refine concat_meets ⟨_,ho,rfl⟩ ⟨_,ho2,rfl⟩ noFill_tuple_add seq_tuple_add PySem.F.slot_tuple_add PySem.F.entry_tuple_add (PySem.F.args_tuple_add_2 _ _)
   (tuple_addW2 t b vs.toArray ws.toArray n n2 dd dd2 sl sl2 (by simpa using hv) (by simpa using hw) (by rw[List.size_toArray,List.size_toArray];exact hsz)) ⟨ho,ho2,?_⟩
  rw[e];exact h2 hw
noncomputable def sIx(n d:Nat):Option Int->Nat
 |none=>d
 |some v=>if v<0 then (v+(n:Int)).toNat else min v.toNat n
theorem sIx_nat(n d k:Nat):sIx n d (some (k:Int))=min k n:=by
 show(if (k:Int)<0 then ((k:Int)+(n:Int)).toNat else min (k:Int).toNat n)=min k n;rw[if_neg (by omega),Int.toNat_natCast]
theorem sIx_le(n d:Nat)(hd:d<=n)(o:Option Int):sIx n d o<=n:=by
 cases o with
 |none=>exact hd
 |some v=>
  show(if v<0 then (v+(n:Int)).toNat else min v.toNat n)<=n;by_cases hv:v<0
  ·rw[if_pos hv];omega
  ·rw[if_neg hv];exact Nat.min_le_right _ _
theorem clip_eq(v:Int)(n d:Nat):(if v<0 then max (v+(n:Int)) 0 else min v (n:Int))=((sIx n d (some v):Nat):Int):=by
 show(if v<0 then max (v+(n:Int)) 0 else min v (n:Int))=(((if v<0 then (v+(n:Int)).toNat else min v.toNat n):Nat):Int);by_cases hv:v<0
 ·simp only[if_pos hv];omega
 ·simp only[if_neg hv];omega
theorem adjust_gen(lo hi:Option Int)(n:Nat):Builtin.Slice.sliceAdjust lo hi 1 (n:Int)=(((sIx n 0 lo:Nat):Int),((sIx n n hi:Nat):Int)):=by
 have h1:¬((1:Int)<0):=by omega
 unfold Builtin.Slice.sliceAdjust;simp only[h1,if_false];refine Prod.ext ?_ ?_
 ·cases lo with
  |none=>rfl
  |some v=>exact clip_eq v n 0
 ·cases hi with
  |none=>rfl
  |some v=>exact clip_eq v n n
theorem places_gen(i j:Nat):Builtin.Slice.slicePlaces (i:Int) (j:Int) 1=j - i:=by
 unfold Builtin.Slice.slicePlaces;have h1:(1:Int)>0:=by omega
 simp only[h1,if_true,Int.ediv_one];split<;>omega
theorem slicePart_{v:Value}{o:Option Int}{Q:Option Int->Shared->Prop}(p:IsPart v o)(h:Q o s):wpAny (model prog w) A (Builtin.Slice.slicePartIndex v) Q E s:=by
 cases p with
 |none=>exact slicePart_none h
 |int i t=>exact slicePart_int h
theorem sliceApplied_gen{sl:Addr}{vl vu:Value}{lo hi:Option Int}{n:Nat}{Q:Int×Int×Nat->Shared->Prop}(hs:s.heap.IsSliceOf sl vl vu .none)(pl:IsPart vl lo)(pu:IsPart vu hi)
  (h:Q (((sIx n 0 lo:Nat):Int),1,sIx n n hi - sIx n 0 lo) s):wpAny (model prog w) A (Builtin.Slice.sliceApplied (.ref sl) (pure (n:Int))) Q E s:=by
 obtain⟨os,hos,hcs,hds⟩:=id hs;unfold Builtin.Slice.sliceApplied Builtin.Slice.sliceFields;refine aT (aT (xj hos hds (x:=vl) rfl (aT (xj hos hds (x:=vu) rfl (aT (xj hos hds (x:=.none) rfl (cC ?_)))))));refine aT (slicePart_none ?_);show wpAny _ _ (if ((1:Int) == 0)=true then _ else _) _ _ s;rw[if_neg (by decide)];refine aT (slicePart_ pl (aT (slicePart_ pu (aT (cC ?_)))));show wpAny _ _ (match Builtin.Slice.sliceAdjust lo hi 1 (n:Int) with | (lo,hi)=>pure (lo,(1:Int),Builtin.Slice.slicePlaces lo hi 1)) _ _ s;rw[adjust_gen lo hi n];show wpAny _ _ (pure (((sIx n 0 lo:Nat):Int),(1:Int),Builtin.Slice.slicePlaces ((sIx n 0 lo:Nat):Int) ((sIx n n hi:Nat):Int) 1)) _ _ s;rw[places_gen];exact cC h
theorem pick_gen(xs:Array Value)(i k:Nat):((List.range k).filterMap λ(m:Nat)=>xs[((i:Int)+(m:Int)*1).toNat]?).toArray=((xs.toList.drop i).take k).toArray:=by
 have e:(λ(m:Nat)=>xs[((i:Int)+(m:Int)*1).toNat]?)=λm=>xs[i+m]?:=by
  funext m;have:((i:Int)+(m:Int)*1).toNat=i+m:=by omega
  rw[this]
 rw[e];have:=pick_run xs i k;rw[List.filterMap_map]at this;have e2:((λx=>xs[x]?) ∘ λx=>i+x)=λm=>xs[i+m]?:=rfl;rw[e2]at this;rw[this]
theorem getItem_tuple_cut{t sl:Addr}{items:Array Value}{vl vu:Value}{lo hi:Option Int}{Q:Vs}(ht:IsTup s.heap t items)(hs:s.heap.IsSliceOf sl vl vu .none)(pl:IsPart vl lo)(pu:IsPart vu hi)
  (hw:¬(sIx items.size 0 lo=0/\sIx items.size items.size hi=items.size))
  (h:Q (.ref s.heap.objs.size) { s with heap:=s.heap.push { cls:=.type "tuple", data:=.seq ((items.toList.drop (sIx items.size 0 lo)).take (sIx items.size items.size hi - sIx items.size 0 lo)).toArray } })
  (hsz:items.size<=sizeLine):wpAny (model prog w) A (getItem (.ref t) (.ref sl)) Q E s:=by
 have htake:sizeOk (.seq ((items.toList.drop (sIx items.size 0 lo)).take (sIx items.size items.size hi - sIx items.size 0 lo)).toArray):=by
  show((items.toList.drop (sIx items.size 0 lo)).take (sIx items.size items.size hi - sIx items.size 0 lo)).toArray.size<=sizeLine;rw[vc,nV,wc,A1];omega
 have hj:sIx items.size items.size hi<=items.size:=sIx_le _ _ (dn _) hi;obtain⟨os,hos,hcs,hds⟩:=id hs;have hTs:s.TypeIs (.ref sl) "slice" := ⟨os,hos,hcs⟩
 unfold getItem
 try with_reducible refine G7 ?_
 first|refine aT (cC ?_)|skip
 refine aT (wpAny_sequenceKey ht.typeIs (by decide) ?_);refine aT (wpAny_callSpecial?_slot (name:=Str.ofString "__getitem__") ht.typeIs PyProof.Rows.slot_tuple_getitem
  (wpAny_call_entry PyProof.Rows.slot_tuple_getitem ht.typeIs entry_tuple_getitem ?_ (args_tuple_getitem _ _)))
 show wpAny _ _ (Builtin.Tuple.tupleItemsOf (.ref t) >>= _) _ _ s;refine aT (tupleItemsOf_ ht ?_);refine aT (wpAny_typeOf hTs ?_);rw[if_pos (by decide)];refine aT (sliceApplied_gen hs pl pu ?_);have hno:¬((((sIx items.size 0 lo:Nat):Int) == 0&&(1:Int) == 1&&(sIx items.size items.size hi - sIx items.size 0 lo) == items.size)=true):=by
  intro q;rw[G6,G6]at q;have q1:((sIx items.size 0 lo:Nat):Int)=0:=eq_of_beq q.1.1;have q2:sIx items.size items.size hi - sIx items.size 0 lo=items.size:=eq_of_beq q.2;exact hw ⟨by omega,by omega⟩
 show wpAny _ _ (if (((sIx items.size 0 lo:Nat):Int) == 0&&(1:Int) == 1&&(sIx items.size items.size hi - sIx items.size 0 lo) == items.size)=true then _ else _) _ _ s;rw[if_neg hno,pick_gen]
 first
  |exact aT (m:=Builtin.Tuple.tupleExact _) (Lc (cC ⟨_,rfl,cC h⟩) htake)
  |exact aT (m:=Builtin.Tuple.tupleExact _) (Lc (aT (cC (cC ⟨_,rfl,cC h⟩))) htake)
  |exact aT (aT (m:=Builtin.Tuple.tupleExact _) (Lc (cC (cC ⟨_,rfl,cC h⟩)) htake))
  |exact aT (aT (m:=Builtin.Tuple.tupleExact _) (Lc (cC ⟨_,rfl,cC h⟩) htake))
end
end HT
namespace L2
open PySem PySem.Spec PyProof.Rows
noncomputable abbrev TO:=St->Hp->(Option Int->Hp->Prop)->Prop
def PO(X:Cx)(e:Option Expr)(t:TO):Prop:=
 ∀(pins:Lo) (s:Shared) (σ:St) (H:Hp) (Q:Option Int->Hp->Prop),Inv X pins σ H s->t σ H Q->
  wpAny (model X.prog X.w) X.A (evalPart e X.env) (λu s'=>∃o H',Inv X pins σ H' s'/\IsPart u o/\Q o H') X.xe s
noncomputable def Hk:TO:=λ_ H Q=>Q none H
noncomputable def Od(t:TE):TO:=λσ H Q=>t σ H λx H1=>∃i,x=.int i/\Q (some i) H1
section
variable{X:Cx}{e:Expr}{te:TE}{lo hi:Option Expr}{tl th:TO}{pos p2:Pos}
theorem d8:PO X none Hk:=by
 intro pins s σ H Q I h;rw[evalPart_none];exact cC ⟨none,H,I,.none,h⟩
theorem dD(h:PE X e te):PO X (some e) (Od te):=by
 intro pins s σ H Q I hw;rw[evalPart_some];refine bx (h pins s σ H _ I hw) λu s1 ⟨x,H1,I1,r1,q1⟩=>?_;obtain⟨i,rfl,q⟩:=q1;obtain⟨t,rfl⟩:=r1;exact⟨some i,H1,I1,.int i t,q⟩
def Cv(X:Cx)(r:V->Option Int->Option Int->Hp->VK->Prop):Prop:=
 ∀(pins:Lo) (s:Shared) (σ:St) (H:Hp) (x:V) (v vl vu:Value) (lo hi:Option Int) (sl:Addr) (Q:VK),Inv X pins σ H s->RelV x v->s.heap.IsSliceOf sl vl vu .none->IsPart vl lo->IsPart vu hi->r x lo hi H Q->
  ∃T id,typeLookup (.type T) "__getitem__" = pure (some (.builtin id))/\s.TypeIs v T/\wpAny (model X.prog X.w) X.A (getItem v (.ref sl)) (EP X pins σ Q) X.xe s
theorem Cv.or{r r':V->Option Int->Option Int->Hp->VK->Prop}(h:Cv X r)(h':Cv X r'):Cv X (λx lo hi H Q=>r x lo hi H Q\/r' x lo hi H Q):=by
 intro pins s σ H x v vl vu lo hi sl Q I rx hs pl pu q;rcases q with q|q
 ·exact h pins s σ H x v vl vu lo hi sl Q I rx hs pl pu q
 ·exact h' pins s σ H x v vl vu lo hi sl Q I rx hs pl pu q
def Tu(r:V->Option Int->Option Int->Hp->VK->Prop)(te:TE)(tl th:TO):TE:=λσ H Q=>te σ H λx H1=>tl σ H1 λl H2=>th σ H2 λu H3=>r x l u H3 Q
theorem dR{r:V->Option Int->Option Int->Hp->VK->Prop}(hr:Cv X r)(he:PE X e te)(hl:PO X lo tl)(hu:PO X hi th):PE X (.Subscript e (.Slice lo hi none p2) pos) (Tu r te tl th):=by
 intro pins s σ H Q I h;refine Subscript_ (bx (he pins s σ H _ I h) λv s1 ⟨x,H1,I1,r1,q1⟩=>?_);refine wpAny_Slice (bx (hl pins s1 σ H1 _ I1 q1) λvl s2 ⟨l,H2,I2,pl,q2⟩=>bx (hu pins s2 σ H2 _ I2 q2) λvu s3 ⟨u,H3,I3,pu,q3⟩=>?_);rw[evalPart_none];refine cC ?_;have I4:Inv X pins σ H3 { s3 with heap:=s3.heap.push { cls:=.type "slice", data:=.fields #[vl,vu,.none] } }:=I3.kept (t':=s3.toks) λb ob q=>fU _ q;obtain⟨T,id,hT,ht,hg⟩:=hr pins { s3 with heap:=s3.heap.push { cls:=.type "slice", data:=.fields #[vl,vu,.none] } } σ H3 x v vl vu l u s3.heap.objs.size Q I4 r1 (Heap.IsSliceOf.new ..) pl pu q3;show wpAny (model X.prog X.w) X.A (subscriptTail e (.Slice lo hi none p2) v (.ref s3.heap.objs.size)) (EP X pins σ Q) X.xe { s3 with heap:=s3.heap.push { cls:=.type "slice", data:=.fields #[vl,vu,.none] } };exact tail_any (ops:=[.ref s3.heap.objs.size,v]) ht hT hg (by with_unfolding_all rfl)
noncomputable def dC(xs:List V)(lo hi:Option Int):List V:=(xs.drop (HT.sIx xs.length 0 lo)).take (HT.sIx xs.length xs.length hi - HT.sIx xs.length 0 lo)
theorem zP(xs:List V)(lo hi:Option Int):(dC xs lo hi).length<=xs.length:=by
 unfold dC;rw[nV,wc];omega
noncomputable def LV(K:Wf):V->Option Int->Option Int->Hp->VK->Prop:=λx lo hi H Q=>∃a xs,x=.ref a/\dH K H a xs/\
 ¬(HT.sIx xs.length 0 lo=0/\HT.sIx xs.length xs.length hi=xs.length)/\∀p,H p=none->Q (.ref p) (upd H p (.tup (dC xs lo hi)))
theorem KR:Cv X (LV X.K):=by
 intro pins s σ H x v vl vu lo hi sl Q I rx hs pl pu h;obtain⟨a,xs,rfl,hx,hw,q⟩:=h;cases rx;obtain⟨its,r,ht,hz⟩:=I.tuple hx;have hlen:its.toArray.size=xs.length:=by rw[vc];exact r.length.symm
 refine⟨"tuple", _,PyProof.Rows.slot_tuple_getitem.lookup,ht.typeIs,?_⟩;refine HT.getItem_tuple_cut ht hs pl pu (by rw[hlen];exact hw) ?_ (by rw[hlen];exact hz);rw[hlen];refine⟨.ref s.heap.objs.size,_,I.laid (t':=s.toks) (o:=.tup (dC xs lo hi)) (λb ob q=>fU _ q) (dn _) ?_,rfl,q _ (I.aN.fresh (dn _))⟩;exact⟨dy (zP xs lo hi) hz,_,(r.drop (HT.sIx xs.length 0 lo)).take (HT.sIx xs.length xs.length hi - HT.sIx xs.length 0 lo),IsTup.new _ _⟩
def Dk(K:Wf):R2:=λx y H Q=>∃a b xs ys,x=.ref a/\y=.ref b/\dH K H a xs/\dH K H b ys/\xs≠[]/\xs.length+ys.length<=sizeLine/\
 (ys=[]->Q (.ref a) H)/\(ys≠[]->∀p,H p=none->Q (.ref p) (upd H p (.tup (xs++ys))))
theorem Vals.ni{xs:List V}{us:List Value}(r:Vals xs us):us=[]↔xs=[]:=by
 cases r with
 |nil=>simp
 |cons _ _=>simp
theorem Ic:fQ X (binaryOp .Add) (Dk X.K):=by
 intro pins s σ H x y v u Q I rx ry h;obtain⟨a,b,xs,ys,rfl,rfl,ha,hb,hx,hz,q1,q2⟩:=h;cases rx;cases ry;obtain⟨its,r1,p1,_⟩:=I.tuple ha;obtain⟨its2,r2,p2,_⟩:=I.tuple hb;refine HT.cat_tup p1 p2 (λz=>hx (r1.ni.mp z)) (λz=>⟨.ref a,H,I,rfl,q1 (r2.ni.mp z)⟩) (λz=>?_) (by rw[<-r1.length,<-r2.length];exact hz);refine⟨.ref s.heap.objs.size,_,I.laid (t':=s.toks) (o:=.tup (xs++ys)) (λb ob q=>fU _ q) (dn _) ?_,rfl,q2 (λw=>z (r2.ni.mpr w)) _ (I.aN.fresh (dn _))⟩;exact⟨by rw[cL];exact hz,_,r1.append r2,IsTup.new _ _⟩
end
noncomputable def A7(n:Nat)(i:Int):Option Nat:=if 0<=i then (if i<n then some i.toNat else none) else if -(n:Int)<=i then some (i+n).toNat else none
noncomputable def hG{α:Type}(xs:List α)(i:Int):Option α:=(A7 xs.length i).bind λj=>xs[j]?
theorem IF{n:Nat}{i:Int}{j:Nat}(h:A7 n i=some j):seqIndex? i n=some j/\j<n /\ -(n:Int)<=i/\i<n:=by
 unfold A7 at h;by_cases h0:0<=i
 ·rw[if_pos h0]at h;by_cases h1:i<n
  ·rw[if_pos h1]at h;have e:i.toNat=j:=Option.some.inj h;exact⟨by rw[seqIndex_of h0 h1,e],by omega,by omega,h1⟩
  ·rw[if_neg h1]at h;cases h
 ·rw[if_neg h0]at h;by_cases h1 : -(n:Int)<=i
  ·rw[if_pos h1]at h;have e:(i+n).toNat=j:=Option.some.inj h;exact⟨by rw[seqIndex_neg (by omega) h1,e],by omega,h1,by omega⟩
  ·rw[if_neg h1]at h;cases h
theorem jz{α:Type}{xs:List α}{i:Int}{v:α}(h:hG xs i=some v):∃j,seqIndex? i xs.length=some j/\xs[j]?=some v/\j<xs.length /\ -(xs.length:Int)<=i/\i<xs.length:=by
 unfold hG at h;cases e:A7 xs.length i with
 |none=>rw[e]at h;cases h
 |some j=>
  rw[e]at h;obtain⟨h1,h2,h3,h4⟩:=IF e;exact⟨j,h1,h,h2,h3,h4⟩
theorem j3{α:Type}{xs:List α}{j:Nat}{v:α}(h:xs[j]?=some v):hG xs (j:Int)=some v:=by
 have hj:j<xs.length:=(we.mp h).1;have e:A7 xs.length (j:Int)=some j:=by
  unfold A7;rw[if_pos (by omega),if_pos (by omega)];simp
 unfold hG;rw[e];exact h
theorem uP{α:Type}(xs:List α)(v:α):hG (xs++[v]) (-1)=some v:=by
 have hl:(xs++[v]).length=xs.length+1:=by simp
 have e:A7 (xs++[v]).length (-1)=some xs.length:=by
  unfold A7;rw[hl,if_neg (by decide),if_pos (by omega)];congr 1;omega
 unfold hG;rw[e];show(xs++[v])[xs.length]?=some v;simp
def HN(b:Expr):Prop:=∀o i,subscripted b false o i=operate [o,i] (getItem o i)
def Mm(X:Cx)(r:R2):Prop:=
 ∀(value slice:Expr) (pins:Lo) (s:Shared) (σ:St) (H:Hp) (x y:V) (v u:Value) (Q:VK),Inv X pins σ H s->RelV x v->RelV y u->r x y H Q->
  subscripted slice false v u=operate [v,u] (getItem v u)->wpAny (model X.prog X.w) X.A (subscriptTail value slice v u) (EP X pins σ Q) X.xe s
def Sz(X:Cx)(id:String)(r:V->List V->Hp->VK->Prop):Prop:=
 ∀(pins:Lo) (s:Shared) (σ:St) (H:Hp) (x:V) (xs:List V) (v:Value) (us:List Value) (Q:VK),Inv X pins σ H s->RelV x v->Vals xs us->r x xs H Q->
  wpAny (model X.prog X.w) X.A (call (.builtin id) (v::us)) (EP X pins σ Q) X.xe s
section
variable{X:Cx}{a b:Expr}{ta tb:TE}{pos:Pos}
theorem bH{r:R2}(hr:Mm X r)(ha:PE X a ta)(hb:PE X b tb)(hs:HN b):PE X (.Subscript a b pos) (MT r ta tb):=by
 intro pins s σ H Q I h;exact Subscript_ (KQ ha hb I h λv u s2 x y H2 I2 rx ry q=>hr a b pins s2 σ H2 x y v u Q I2 rx ry q (hs _ _))
def MR(K:Wf):R2:=λx y H Q=>∃p xs i v,x=.ref p/\y=.int i/\aC K H p xs/\hG xs i=some v/\Q v H
def LX(K:Wf):R2:=λx y H Q=>∃p xs i v,x=.ref p/\y=.int i/\dH K H p xs/\hG xs i=some v/\Q v H
def QJ:R2:=λx y H Q=>∃z i c,x=.str z/\y=.int i/\z.length<=sizeLine/\hG z.cps.toList i=some c/\Q (.str ⟨#[c]⟩) H
theorem Ia:Mm X (MR X.K):=by
 intro value slice pins s σ H x y v u Q I rx ry h hs;obtain⟨p,xs,i,z,rfl,rfl,hq,he,q⟩:=h;cases rx;obtain⟨t,rfl⟩:=ry;obtain⟨its,r,pl,hz⟩:=I.list hq;obtain⟨j,h1,h2,h3,h4,h5⟩:=jz he;obtain⟨w,ew,rw'⟩:=r.get h2;have hl:=r.length;have hn:=sD;have fin:EP X pins σ Q w s:=⟨z,H,I,rw',q⟩
 by_cases h0:0<=i
 ·have hj:i.toNat=j:=by
   rw[seqIndex_of h0 h5]at h1;exact Option.some.inj h1
  exact item_listR pl.isList h0 (by omega) (by rw[hj];simpa using ew) fin hs
 ·have hj:(i+(its.toArray.size:Int)).toNat=j:=by
   rw[seqIndex_neg (by omega) h4]at h1;rw[vc,<-hl];exact Option.some.inj h1
  exact subscriptTail_builtinR (x:=w) pl.isList.typeIs slot_list_getitem.lookup
   (wpAny_getItem_list_neg (Q:=λr s'=>r=w/\EP X pins σ Q r s') pl.isList (by omega) (by rw[vc]<;>omega) (by omega) (by rw[hj];simpa using ew) ⟨rfl,fin⟩) hs
theorem K_:Mm X (LX X.K):=by
 intro value slice pins s σ H x y v u Q I rx ry h hs;obtain⟨p,xs,i,z,rfl,rfl,hq,he,q⟩:=h;cases rx;obtain⟨t,rfl⟩:=ry;obtain⟨its,r,pl,hz⟩:=I.tuple hq;obtain⟨j,h1,h2,h3,h4,h5⟩:=jz he;obtain⟨w,ew,rw'⟩:=r.get h2;have hl:=r.length;have hn:=sD;have fin:EP X pins σ Q w s:=⟨z,H,I,rw',q⟩
 exact subscriptTail_builtinR (x:=w) pl.typeIs slot_tuple_getitem.lookup
  (getItem_tuple (j:=j) (Q:=λr s'=>r=w/\EP X pins σ Q r s') pl (by omega) (by omega) (by rw[vc,<-hl];exact h1) (by simpa using ew) ⟨rfl,fin⟩) hs
theorem v7:Mm X QJ:=by
 intro value slice pins s σ H x y v u Q I rx ry h hs;obtain⟨z,i,c,rfl,rfl,hz,he,q⟩:=h;obtain⟨t,rfl⟩:=rx;obtain⟨t',rfl⟩:=ry;obtain⟨j,h1,h2,h3,h4,h5⟩:=jz he;have hl:z.cps.toList.length=z.length:=by simp[Str.length]
 rw[hl]at h1 h4 h5;have hn:=sD;exact tail_any (typeIs_str s z t) slot_str_getitem.lookup (getItem_str (c:=c) (by
  have e1:decide (i < -(2 ^ 63:Int))=false:=decide_eq_false (by omega);have e2:decide (i≥2 ^ 63)=false:=decide_eq_false (by omega);rw[e1,e2,Bool.or_false]) (by rw[h1];simpa using h2) ⟨.str ⟨#[c]⟩,H,I.tok _,⟨_,rfl⟩,q⟩) hs
noncomputable def Sw:V->V->V->Hp->(Hp->Prop)->Prop:=λo i v H Q=>∃p xs k j,o=.ref p/\i=.int k/\H p=some (.lst xs)/\A7 xs.length k=some j/\Q (upd H p (.lst (xs.set j v)))
theorem qV(lo hi:Option Int)(n:Nat):(sliceBounds lo hi none n).1=((HT.sIx n 0 lo:Nat):Int)/\(sliceBounds lo hi none n).2.1=((HT.sIx n n hi:Nat):Int)/\(sliceBounds lo hi none n).2.2=1:=by
 refine⟨?_,?_,rfl⟩
 ·cases lo with
  |none=>simp[sliceBounds,HT.sIx]
  |some i=>
   simp only[sliceBounds,HT.sIx,Option.getD_none,show(1:Int)>0 by decide,if_true];by_cases h:i<0
   ·simp only[h,if_true]<;>omega
   ·simp only[h,if_false]<;>omega
 ·cases hi with
  |none=>simp[sliceBounds,HT.sIx]
  |some i=>
   simp only[sliceBounds,HT.sIx,Option.getD_none,show(1:Int)>0 by decide,if_true];by_cases h:i<0
   ·simp only[h,if_true]<;>omega
   ·simp only[h,if_false]<;>omega
theorem lQ(its:List Value)(lo hi:Option Int):slicePick its.toArray lo hi none=((its.drop (HT.sIx its.length 0 lo)).take (HT.sIx its.length its.length hi - HT.sIx its.length 0 lo)).toArray:=by
 obtain⟨h1,h2,h3⟩:=qV lo hi its.toArray.size;unfold slicePick;rw[h1,h2,h3];simp only[sliceRange_one,pick_run,List.size_toArray]<;>rfl
noncomputable def HM(K:Wf):V->Option Int->Option Int->Hp->VK->Prop:=λx lo hi H Q=>∃a xs,x=.ref a/\aC K H a xs/\∀p,H p=none->Q (.ref p) (upd H p (.lst (dC xs lo hi)))
theorem yn:Cv X (HM X.K):=by
 intro pins s σ H x v vl vu lo hi sl Q I rx hs pl pu h;obtain⟨a,xs,rfl,hx,q⟩:=h;cases rx;obtain⟨its,r,ht,hz⟩:=I.list hx;have hlen:=r.length;refine⟨"list", _,slot_list_getitem.lookup,ht.isList.typeIs,?_⟩;refine wpAny_getItem_list_slice ht.isList hs pl pu .none (by simp) ?_ (by rw[List.size_toArray]<;>omega);rw[lQ,<-hlen];refine⟨.ref s.heap.objs.size,_,I.laid (t':=s.toks) (o:=.lst (dC xs lo hi)) (λb ob q=>fU _ q) (dn _) ?_,rfl,q _ (I.aN.fresh (dn _))⟩;exact⟨dy (zP xs lo hi) hz,_,0,(r.drop (HT.sIx xs.length 0 lo)).take (HT.sIx xs.length xs.length hi - HT.sIx xs.length 0 lo),yO _ rfl⟩
noncomputable def gM:V->Bool
 |.aF=>true
 |.bl _=>true
 |.int _=>true
 |.str _=>true
 |_=>false
noncomputable def E4:V->V->Bool
 |.aF,.aF=>true
 |.bl a,.bl b=>a == b
 |.bl a,.int b=>(if a then 1 else 0) == b
 |.int a,.bl b=>a == (if b then 1 else 0)
 |.int a,.int b=>a == b
 |.str a,.str b=>a == b
 |_,_=>false
theorem LQ{A:Around}{s:Shared}{y x:V}{u v:Value}(ry:RelV y u)(rx:RelV x v)(fy:gM y=true)(fx:gM x=true):SeqAt.EqAt A s u v (E4 y x):=by
 cases y with
 |aF=>
  cases ry;cases x with
  |aF=>cases rx;exact SeqAt.EqAt.same _
  |bl b=>cases rx;exact SeqAt.EqAt.none_bool b
  |int b=>obtain⟨t,rfl⟩:=rx;exact SeqAt.EqAt.none_int b t
  |str b=>obtain⟨t,rfl⟩:=rx;exact SeqAt.EqAt.none_str b t
  |_=>exact absurd (show false=true from fx) lK
 |bl a=>
  cases ry;cases x with
  |aF=>cases rx;exact SeqAt.EqAt.bool_none a
  |bl b=>cases rx;exact SeqAt.EqAt.bool_bool a b
  |int b=>obtain⟨t,rfl⟩:=rx;exact SeqAt.EqAt.bool_int a b t
  |str b=>obtain⟨t,rfl⟩:=rx;exact SeqAt.EqAt.bool_str a b t
  |_=>exact absurd (show false=true from fx) lK
 |int a=>
  obtain⟨t',rfl⟩:=ry;cases x with
  |aF=>cases rx;exact SeqAt.EqAt.int_none a t'
  |bl b=>cases rx;exact SeqAt.EqAt.int_bool a t' b
  |int b=>obtain⟨t,rfl⟩:=rx;exact SeqAt.EqAt.int_int a t' b t
  |str b=>obtain⟨t,rfl⟩:=rx;exact SeqAt.EqAt.int_str a t' b t
  |_=>exact absurd (show false=true from fx) lK
 |str a=>
  obtain⟨t',rfl⟩:=ry;cases x with
  |aF=>cases rx;exact SeqAt.EqAt.str_none a t'
  |bl b=>cases rx;exact SeqAt.EqAt.str_bool a t' b
  |int b=>obtain⟨t,rfl⟩:=rx;exact SeqAt.EqAt.str_int a t' b t
  |str b=>obtain⟨t,rfl⟩:=rx;exact SeqAt.EqAt.str_str a t' b t
  |_=>exact absurd (show false=true from fx) lK
 |_=>exact absurd (show false=true from fy) lK
noncomputable def Hl(x:V)(u:Value):Bool:=match u with
 |.none=>E4 .aF x
 |.bool b=>E4 (.bl b) x
 |.int i _=>E4 (.int i) x
 |.str z _=>E4 (.str z) x
 |_=>false
theorem Ga{x y:V}{u:Value}(r:RelV y u)(f:gM y=true):Hl x u=E4 y x:=by
 cases y with
 |aF=>cases r;rfl
 |bl b=>cases r;rfl
 |int i=>obtain⟨t,rfl⟩:=r;rfl
 |str z=>obtain⟨t,rfl⟩:=r;rfl
 |_=>exact absurd (show false=true from f) lK
theorem sf{x:V}:∀{xs:List V}{us:List Value},Vals xs us->xs.all gM=true->us.any (Hl x)=xs.any λy=>E4 y x
 |_,_,.nil,_=>rfl
 |y::xs,u::us,.cons r t,f=>by
  rw[List.all_cons,G6]at f;rw[List.any_cons,List.any_cons,Ga r f.1,sf t f.2]
theorem lF{A:Around}{s:Shared}{x:V}{v:Value}(rx:RelV x v)(fx:gM x=true):∀{xs:List V}{us:List Value},Vals xs us->xs.all gM=true->∀u∈us,SeqAt.EqAt A s u v (Hl x u)
 |_,_,.nil,_=>λu hu=>by cases hu
 |y::xs,u::us,.cons r t,f=>λu' hu=>by
  rw[List.all_cons,G6]at f;rcases lL.mp hu with rfl|hu
  ·rw[Ga r f.1];exact LQ r rx f.1 fx
  ·exact lF rx fx t f.2 u' hu
noncomputable def Ks(x:V)(xs:List V):Bool:=xs.any λy=>E4 y x
def Sy(K:Wf)(neg:Bool):R2:=λx y H Q=>∃p xs,y=.ref p/\(aC K H p xs\/dH K H p xs)/\gM x=true/\xs.all gM=true/\Q (.bl (if neg then !Ks x xs else Ks x xs)) H
theorem AM:fQ X (compareOp .In) (Sy X.K false):=by
 intro pins s σ H x y v u Q I rx ry h;obtain⟨p,xs,rfl,hq,fx,fs,q⟩:=h;cases ry;rcases hq with hq|hq
 ·obtain⟨its,r,pl,hz⟩:=I.list hq;refine SeqAt.in_listAt (Hl x) pl.isList (λw hw=>lF rx fx r fs w (by simpa using hw)) ⟨.bl _,H,I,rfl,?_⟩;rw[show its.toArray.any (Hl x)=its.any (Hl x) by simp,sf r fs];exact q
 ·obtain⟨its,r,pl,hz⟩:=I.tuple hq;refine SeqAt.in_tupleAt (Hl x) pl (λw hw=>lF rx fx r fs w (by simpa using hw)) ⟨.bl _,H,I,rfl,?_⟩;rw[show its.toArray.any (Hl x)=its.any (Hl x) by simp,sf r fs];exact q
def Rw(K:Wf)(T:String)(x:V)(H:Hp):Prop:=match x with
 |.str _=>T = "str"
 |.int _=>T = "int"
 |.ref p=>(T = "list" /\ ∃xs,aC K H p xs)\/(T = "tuple" /\ ∃o,K.lookup p=some o/\o.cls=.type "tuple" /\ o.dict=none) \/
   (T = "dict" /\ ((∃kvs,H p=some (.dK kvs))\/∃kvs,H p=some (.dT kvs)))\/(T = "set" /\ ∃S n,H p=some (.set S n))
 |_=>False
theorem Kv{pins:Lo}{σ:St}{H:Hp}{s:Shared}{T:String}{x:V}{v:Value}(I:Inv X pins σ H s)(r:RelV x v)(ty:Rw X.K T x H):
  s.TypeIs v T/\∀a,v=.ref a->∃ob,s.heap.get? a=some ob/\ob.dict=none:=by
 cases x with
 |str z=>
  obtain⟨t,rfl⟩:=r;cases (show T = "str" from ty);exact⟨typeIs_str s z t,λ_ e=>nomatch e⟩
 |int i=>
  obtain⟨t,rfl⟩:=r;cases (show T = "int" from ty);exact⟨typeIs_int s i t,λ_ e=>nomatch e⟩
 |ref p=>
  cases r;rcases ty with ⟨rfl,xs,hq⟩|⟨rfl,o,hk,hc,hd⟩|⟨rfl,hk⟩|⟨rfl,S,n,hk⟩
  ·obtain⟨its,_,pl,_⟩:=I.list hq;refine⟨pl.isList.typeIs,λa e=>?_⟩;cases e;obtain⟨o,n,e,c,hd,_⟩:=pl;exact⟨o,e,hd⟩
  ·refine⟨⟨o,I.fk p o hk,hc⟩,λa e=>?_⟩;cases e;exact⟨o,I.fk _ o hk,hd⟩
  ·have z:∃o,s.heap.get? p=some o/\o.ExactDict:=by
    rcases hk with ⟨kvs,hk⟩|⟨kvs,hk⟩
    ·obtain⟨_,_,_,_,o,_,_,e,ex,_⟩:=I.aN p _ hk;exact⟨o,e,ex⟩
    ·obtain⟨_,_,_,_,o,_,_,e,ex,_⟩:=I.aN p _ hk;exact⟨o,e,ex⟩
   obtain⟨o,e,ex⟩:=z;refine⟨⟨o,e,ex.1⟩,λa e2=>?_⟩;cases e2;exact⟨o,e,ex.2.1⟩
  ·obtain⟨o,_,_,_,e,ex,_⟩:=I.aN p _ hk;refine⟨⟨o,e,ex.1⟩,λa e2=>?_⟩;cases e2;exact⟨o,e,ex.2.1⟩
 |_=>exact False.elim ty
def TB(K:Wf)(T:String)(r:V->List V->Hp->VK->Prop)(to:TE):TE:=λσ H Q=>to σ H λx H1=>Rw K T x H1/\r x [] H1 Q
def Td(K:Wf)(T:String)(r:V->List V->Hp->VK->Prop)(to:TE)(t:TA):TE:=λσ H Q=>to σ H λx H1=>Rw K T x H1/\t σ H1 λxs H2=>r x xs H2 Q
variable{o e:Expr}{es:List Expr}{to:TE}{t:TA}{name:Str}{apos cpos:Pos}{T id:String}{r:V->List V->Hp->VK->Prop}
theorem eU(pa:PlainAttrs T)(slot:Slot T name id)(hty:typeOf (.builtin id)=pure (.type "method_descriptor"))(hm:Sz X id r)(ho:PE X o to)(ha:PA X (e::es) t)
  (hbase:attributeBase o name X.env (eval o X.env)=eval o X.env:=by rfl)
  (hfew:((backTo cpos (starEach (e::es) X.env)).all (λx=>!x.1)&&(backToKw cpos (keywordEach [] X.env)).all (λx=>x.1.isSome)
   && decide ((e::es).length+([]:List Keyword).length+(if ([]:List Keyword).isEmpty then 0 else 1)<30))=true:=by rfl)
  (hline:(apos.endLine == cpos.line)=true:=by rfl) (hs:starEach (e::es) X.env=(false,eval e X.env)::starEach es X.env:=by rfl) (hplain:(backTo cpos (starEach es X.env)).any (·.1)=false:=by rfl):
  PE X (.Call (.Attribute o name apos) (e::es) [] cpos) (Td X.K T r to t):=by
 intro pins s σ H Q I h;refine wpAny_Call_method_late hbase hfew hline rfl (bx (ho pins s σ H _ I h) λv s1 ⟨x,H1,I1,r1,ty,q1⟩=>?_);obtain⟨h1,h2⟩:=Kv I1 r1 ty;refine⟨T,id,pa,slot,hty,h1,h2,?_⟩;have hA:=ha cpos pins s1 σ H1 _ I1 q1;rw[hs]at hA ⊢;refine Calls.callWith_builtin (by show(false || (backTo cpos (starEach es X.env)).any (·.1))=false;rw[hplain]<;>rfl) (Calls.evalArgs_plain ?_);exact bx hA λus s2 ⟨vs,H2,I2,r2,q2⟩=>hm pins s2 σ H2 x vs v us Q I2 r1 r2 q2
/- xs.append(e),list.index on a module's tuple .. are Sz facts of 06m -/
end
def J6(X:Cx)(id:String)(r:V->List V->Hp->VK->Prop):Prop:=
 ∀(pins:Lo) (s:Shared) (σ:St) (H:Hp) (x:V) (xs:List V) (v:Value) (us:List Value) (Q:VK),Inv X pins σ H s->RelV x v->Vals xs us->r x xs H Q->
  wpAny (model X.prog X.w) X.A (call (.builtin id) (v::us)) (EP X pins σ Q) X.xe s
theorem Vals.one:∀{x:V}{us:List Value},Vals [x] us->∃u,us=[u]/\RelV x u
 |_,_,.cons r .nil=>⟨_,rfl,r⟩
section
variable{X:Cx}{pins:Lo}{σ:St}{H:Hp}{s:Shared}{l b:Addr}{xs ys zs:List V}
theorem Inv.OZ{its its':List Value}{n:Nat}{f:Array Value->Array Value}{t':Nat}(I:Inv X pins σ H s)(hH:H l=some (.lst xs))
  (e:s.heap.get? l=some { cls:=.type "list", data:=.seq its.toArray n }) (hf:f its.toArray=its'.toArray) (hv:Vals ys its') (hz:ys.length<=sizeLine):
  Inv X pins σ (upd H l (.lst ys)) { s with heap:=s.heap.update l (Obj.mapSeq f),toks:=t' }:=by
 have q:=PySem.IsL.update e f;rw[hf]at q;refine I.write (x:=l) (e:=l) (by rw[hH];exact trivial) (.inl rfl) (λb' u hb hu=>(II s.heap (Obj.mapSeq f) (Ne.symm hb)).trans hu) ⟨_,q⟩ ?_;exact⟨hz,its',_,hv,q⟩
theorem Inv.HP{its:List Value}{t':Nat}(I:Inv X pins σ H s)(hv:Vals ys its)(hz:ys.length<=sizeLine):
  Inv X pins σ (upd H s.heap.objs.size (.lst ys)) { s with heap:=s.heap.push { cls:=.type "list", data:=.seq its.toArray },toks:=t' }:=
 I.laid (λ_ _ q=>fU _ q) (dn _) ⟨hz,its,0,hv,yO _ rfl⟩
theorem Inv.fresh(I:Inv X pins σ H s):H s.heap.objs.size=none:=I.aN.fresh (dn _)
theorem Inv.Lr(I:Inv X pins σ H s)(hH:H l=some (.lst xs)):xs.length<=sizeLine/\∃(its:List Value) (n:Nat),Vals xs its/\xs.length=its.length/\s.heap.get? l=some { cls:=.type "list", data:=.seq its.toArray n }:=by
 obtain⟨z,its,n,r,e⟩:=I.aN l _ hH;exact⟨z,its,n,r,r.length,e⟩
theorem BQ{n:Nat}(h:n<=sizeLine):Builtin.List.listTooLong n=false:=by
 unfold Builtin.List.listTooLong;exact decide_eq_false (by omega)
end
section
variable{X:Cx}
noncomputable def xR:V->List V->Hp->VK->Prop:=λx vs H Q=>∃l xs y,x=.ref l/\vs=[y]/\H l=some (.lst xs)/\xs.length<sizeLine/\Q .aF (upd H l (.lst (xs++[y])))
theorem mG:J6 X "list.append" xR:=by
 intro pins s σ H x vs v us Q I rx rv h;obtain⟨l,xs,y,rfl,rfl,hH,hz,q⟩:=h;cases rx;obtain⟨u,rfl,ru⟩:=rv.one;obtain⟨z,its,n,r,hl,e⟩:=I.Lr hH;refine call_meets F.slot_list_append ⟨_,e,rfl⟩ F.entry_list_append (F.args_list_append_2 _ _) (PySem.list_append l its.toArray n u (by rw[vc];omega)) ⟨e,?_⟩;refine⟨.aF,_,I.OZ (its':=its++[u]) hH e (by simp) (r.append (.cons ru .nil)) ?_,rfl,q⟩;rw[cL,hJ];omega
noncomputable def IG:V->List V->Hp->VK->Prop:=λx vs H Q=>∃l b xs zs,x=.ref l/\vs=[.ref b]/\H l=some (.lst xs)/\H b=some (.lst zs)/\xs.length+zs.length<=sizeLine/\Q .aF (upd H l (.lst (xs++zs)))
theorem gF:J6 X "list.extend" IG:=by
 intro pins s σ H x vs v us Q I rx rv h;obtain⟨l,b,xs,zs,rfl,rfl,hH,hB,hz,q⟩:=h;cases rx;obtain⟨u,rfl,ru⟩:=rv.one;cases ru;obtain⟨z,its,n,r,hl,e⟩:=I.Lr hH;obtain⟨z2,its2,n2,r2,hl2,e2⟩:=I.Lr hB;have hsz:its.toArray.size+its2.toArray.size<=sizeLine:=by rw[vc,vc];omega
 have hlong:¬(!its.toArray.isEmpty&&Builtin.List.listTooLong (its.toArray.size+its2.toArray.size))=true:=by
  rw[BQ hsz,Bool.and_false];exact lK
 refine call_meets F.slot_list_extend ⟨_,e,rfl⟩ F.entry_list_extend (F.args_list_extend_2 _ _)
  (AutoSeq1.list_extend_list_list_0 l its.toArray n b its2.toArray n2 hlong (by rw[vc];omega) (by omega)) ⟨e,e2,?_⟩
 refine⟨.aF,_,I.OZ (its':=its++its2) hH e (by simp) (r.append r2) ?_,rfl,q⟩;rw[cL];omega
noncomputable def Sb:V->List V->Hp->VK->Prop:=λx vs H Q=>∃l xs,x=.ref l/\vs=[]/\H l=some (.lst xs)/\Q .aF (upd H l (.lst []))
end
section
variable{prog:Program}{w:World}{A:Around}{E:Vs}{s:Shared}
set_option maxRecDepth 100000 in
end
section
variable{X:Cx}
end
section
variable{κ:Type} [DecidableEq κ]
noncomputable def aS(kvs:List (κ×V))(k:κ):Option V:=(kvs.find? λkv=>decide (kv.1=k)).map (·.2)
noncomputable def putK(kvs:List (κ×V))(k:κ)(v:V):List (κ×V):=
 if (kvs.any λkv=>decide (kv.1=k))=true then kvs.map (λkv=>if kv.1=k then (kv.1,v) else kv) else kvs++[(k,v)]
theorem cA{p:κ×V}{r:List (κ×V)}{k:κ}(e:p.1=k):aS (p::r) k=some p.2:=by simp[aS,List.find?_cons,e]
theorem cv{p:κ×V}{r:List (κ×V)}{k:κ}(e:¬p.1=k):aS (p::r) k=aS r k:=by simp[aS,List.find?_cons,e]
theorem iq(k:κ):∀kvs:List (κ×V),(kvs.any λkv=>decide (kv.1=k))=(aS kvs k).isSome
 |[]=>rfl
 |p::r=>by
  rw[List.any_cons];by_cases e:p.1=k
  ·simp only[cA e,decide_eq_true e,Bool.true_or,Option.isSome_some]
  ·rw[cv e,decide_eq_false e,Bool.false_or];exact iq k r
theorem uZ(k j:κ)(y:V):∀kvs:List (κ×V),aS (kvs.map λkv=>if kv.1=k then (kv.1,y) else kv) j=(aS kvs j).map λx=>if j=k then y else x
 |[]=>rfl
 |p::r=>by
  have ih:=uZ k j y r;rw[xE];by_cases h:p.1=k
  ·rw[if_pos h];by_cases e:p.1=j
   ·rw[cA (p:=(p.1,y)) e,cA e,Option.map_some,if_pos (e.symm.trans h)]
   ·rw[cv (p:=(p.1,y)) e,cv e,ih]
  ·rw[if_neg h];by_cases e:p.1=j
   ·rw[cA (p:=p) e,cA e,Option.map_some,if_neg (λz=>h (e.trans z))]
   ·rw[cv (p:=p) e,cv e,ih]
theorem mx(k j:κ)(y:V):∀kvs:List (κ×V),aS kvs k=none->aS (kvs++[(k,y)]) j=if j=k then some y else aS kvs j
 |[],_=>by
  by_cases e:k=j
  ·rw[if_pos e.symm];exact cA (p:=(k,y)) e
  ·rw[if_neg (λz=>e z.symm)];exact cv (p:=(k,y)) e
 |p::r,hn=>by
  rw[List.cons_append];have hk:¬p.1=k:=λz=>by rw[cA z]at hn;cases hn
  rw[cv hk]at hn;have ih:=mx k j y r hn;by_cases e:p.1=j
  ·rw[cA e,cA e,if_neg (λz=>hk (e.trans z))]
  ·rw[cv e,cv e,ih]
theorem iy(kvs:List (κ×V))(k j:κ)(y:V):aS (putK kvs k y) j=if j=k then some y else aS kvs j:=by
 unfold putK;by_cases a:(kvs.any λkv=>decide (kv.1=k))=true
 ·rw[if_pos a,uZ];rw[iq]at a;by_cases e:j=k
  ·obtain⟨x,hx⟩:=Option.isSome_iff_exists.mp a;rw[if_pos e,e,hx,Option.map_some,if_pos rfl]
  ·rw[if_neg e];cases aS kvs j with
   |none=>rfl
   |some x=>rw[Option.map_some,if_neg e]
 ·rw[if_neg a];refine mx k j y kvs ?_;rw[iq]at a;cases q:aS kvs k with
  |none=>rfl
  |some x=>rw[q]at a;exact(a rfl).elim
theorem cP(kvs:List (κ×V))(k:κ)(v:V):(putK kvs k v).length<=kvs.length+1:=by
 unfold putK;split
 ·rw[aQ];omega
 ·rw[cL,jd,List.length_nil];omega
theorem eB.iI{o:Option V}{u:Option Value}(r:eB o u):o.isSome=u.isSome:=by
 cases o with
 |none=>cases u with
  |none=>rfl
  |some _=>exact(show False from r).elim
 |some _=>cases u with
  |none=>exact(show False from r).elim
  |some _=>rfl
theorem eB.getD{o:Option V}{u:Option Value}{d:V}{d':Value}(r:eB o u)(rd:RelV d d'):RelV (o.getD d) (u.getD d'):=by
 cases o with
 |none=>cases u with
  |none=>exact rd
  |some _=>exact(show False from r).elim
 |some _=>cases u with
  |none=>exact(show False from r).elim
  |some _=>exact r
theorem KV.val{kvs:List (κ×V)}{vs:List (κ×Value)}(r:KV kvs vs)(k:κ):eB (aS kvs k) (valueAt vs k):=by
 unfold KV at r
 induction r with
 |nil=>exact True.intro
 |@cons p q ps qs h t ih=>
  obtain⟨h1,h2⟩:=h;by_cases e:p.1=k
  ·have e':q.1=k:=h1.symm.trans e;have b:valueAt (q::qs) k=some q.2:=by simp[valueAt,List.find?_cons,e']
   rw[cA e,b];exact h2
  ·have e':¬q.1=k:=λz=>e (h1.trans z);have b:valueAt (q::qs) k=valueAt qs k:=by simp[valueAt,List.find?_cons,e']
   rw[cv e,b];exact ih
theorem KV.any{kvs:List (κ×V)}{vs:List (κ×Value)}(r:KV kvs vs)(k:κ):(kvs.any λkv=>decide (kv.1=k))=vs.any λkv=>decide (kv.1=k):=by
 unfold KV at r
 induction r with
 |nil=>rfl
 |cons h t ih=>rw[List.any_cons,List.any_cons,ih,h.1]
theorem KV.KY{kvs:List (κ×V)}{vs:List (κ×Value)}(r:KV kvs vs)(k:κ){y:V}{u:Value}(ry:RelV y u):
  KV (kvs.map λkv=>if kv.1=k then (kv.1,y) else kv) (vs.map λkv=>if kv.1=k then (kv.1,u) else kv):=by
 unfold KV at r ⊢
 induction r with
 |nil=>exact .nil
 |@cons p q ps qs h t ih=>
  rw[xE,xE];refine .cons ?_ ih;obtain⟨h1,h2⟩:=h;by_cases e:p.1=k
  ·rw[if_pos e,if_pos (h1.symm.trans e)];exact⟨h1,ry⟩
  ·rw[if_neg e,if_neg (λz=>e (h1.trans z))];exact⟨h1,h2⟩
theorem KV.put{kvs:List (κ×V)}{vs:List (κ×Value)}(r:KV kvs vs)(k:κ){y:V}{u:Value}(ry:RelV y u):KV (putK kvs k y) (stored vs k u):=by
 unfold putK stored;rw[r.any k];by_cases e:(vs.any λkv=>decide (kv.1=k))=true
 ·rw[if_pos e,if_pos e];exact r.KY k ry
 ·rw[if_neg e,if_neg e];exact Paired.snoc r ⟨rfl,ry⟩
theorem KV.length{kvs:List (κ×V)}{vs:List (κ×Value)}(r:KV kvs vs):kvs.length=vs.length:=Paired.length r
end
theorem mB{P:Program}{w:World}{k:Key}{u:Value}(r:RelV (kV k) u):(bu P w).is k u=true:=by
 cases k with
 |inl i=>obtain⟨t,e⟩:=(show ∃t,u=Value.int i t from r);subst e;exact uV P w i t
 |inr x=>obtain⟨t,e⟩:=(show ∃t,u=Value.str x t from r);subst e;exact vy P w x t
theorem mI{P:Program}{w:World}:∀{ks:List Key}{us:List Value},Vals (ks.map kV) us->ItemsAre (bu P w) ks us
 |[],_,r=>by rw[List.map_nil]at r;cases r;exact .nil
 |k::ks,_,r=>by
  rw[xE]at r;cases r with
  |cons h t=>exact .cons (mB h) (mI t)
noncomputable abbrev KT(H:Hp):List (List Key×V)->List (List Key×Addr×Value)->Prop:=Paired λp q=>p.1=q.1/\H q.2.1=some (.tup (p.1.map kV))/\RelV p.2 q.2.2
theorem KT.val{H:Hp}{kvs:List (List Key×V)}{xs:List (List Key×Addr×Value)}(r:KT H kvs xs)(k:List Key):eB (aS kvs k) ((atKey xs k).map (·.2)):=by
 induction r with
 |nil=>exact True.intro
 |@cons p q ps qs h t ih=>
  obtain⟨h1,_,h2⟩:=h;by_cases e:p.1=k
  ·have e':q.1=k:=h1.symm.trans e;have b:atKey (q::qs) k=some q.2:=by simp[atKey,List.find?_cons,e']
   rw[cA e,b];exact h2
  ·have e':¬q.1=k:=λz=>e (h1.trans z);have b:atKey (q::qs) k=atKey qs k:=by simp[atKey,List.find?_cons,e']
   rw[cv e,b];exact ih
theorem KT.KY{H:Hp}{kvs:List (List Key×V)}{xs:List (List Key×Addr×Value)}(r:KT H kvs xs)(k:List Key){y:V}{u:Value}(ry:RelV y u):
  KT H (kvs.map λkv=>if kv.1=k then (kv.1,y) else kv) (xs.map (putAt k u)):=by
 induction r with
 |nil=>exact .nil
 |@cons p q ps qs h t ih=>
  rw[xE,xE];refine .cons ?_ ih;obtain⟨h1,h2,h3⟩:=h;unfold putAt;by_cases e:p.1=k
  ·rw[if_pos e,if_pos (h1.symm.trans e)];exact⟨h1,h2,ry⟩
  ·rw[if_neg e,if_neg (λz=>e (h1.trans z))];exact⟨h1,h2,h3⟩
theorem KT.put{H:Hp}{kvs:List (List Key×V)}{xs:List (List Key×Addr×Value)}(r:KT H kvs xs)(k:List Key){b:Addr}{y:V}{u:Value}(hb:H b=some (.tup (k.map kV)))(ry:RelV y u):
  KT H (putK kvs k y) (storedH xs k b u):=by
 have e:(kvs.any λkv=>decide (kv.1=k))=(atKey xs k).isSome:=by
  rw[iq,(r.val k).iI,Option.isSome_map]
 unfold putK storedH;rw[e];by_cases q:(atKey xs k).isSome=true
 ·rw[if_pos q,if_pos q];exact r.KY k ry
 ·rw[if_neg q,if_neg q];exact Paired.snoc r ⟨rfl,hb,ry⟩
theorem KT.keeps{H H':Hp}{kvs:List (List Key×V)}{xs:List (List Key×Addr×Value)}(r:KT H kvs xs)(ht:∀b ys,H b=some (.tup ys)->H' b=some (.tup ys)):KT H' kvs xs:=
 Paired.KA r λ_ _ z=>⟨z.1,ht _ _ z.2.1,z.2.2⟩
section
variable{P:Program}{w:World}{H:Hp}{h:Heap}{a:Addr}
theorem Jt{u:HO}(ok:eQ P w H h)(e:Rd H a u):a_ P w H h a u:=e.ok ok
theorem xy{kvs:List (Key×V)}(ok:eQ P w H h)(e:Rd H a (.dK kvs)):kvs.length<=sizeLine/\(a == sysModules)=false/\∃vs,KV kvs vs/\h.DictOf (bu P w) a vs:=
 show a_ P w H h a (.dK kvs) from Jt ok e
theorem JF{kvs:List (Key×V)}(ok:eQ P w H h)(e:H a=some (.dK kvs)):kvs.length<=sizeLine/\(a == sysModules)=false/\∃vs,KV kvs vs/\h.DictOf (bu P w) a vs:=xy ok (.inl e)
theorem k8{ks:List Key}(ok:eQ P w H h)(e:H a=some (.tup (ks.map kV))):(tupleKind (bu P w)).is h ks a:=by
 obtain⟨_,its,r,o,h1,h2,n,h3⟩:=(show a_ P w H h a (.tup (ks.map kV)) from ok a _ e)
 exact⟨o,its.toArray,n,h1,h2,h3,by simpa using mI r⟩
theorem y1{kvs:List (List Key×V)}(ok:eQ P w H h)(e:Rd H a (.dT kvs)):kvs.length<=sizeLine/\(a == sysModules)=false/\
  ∃xs,KT H kvs xs/\h.DictOfH (tupleKind (bu P w)) a xs:=by
 obtain⟨z,y,xs,r,o,es,ep,h1,h2,h3,h4,h5⟩:=(show a_ P w H h a (.dT kvs) from Jt ok e)
 refine⟨z,y,xs,r,o,es,ep,h1,h2,h3,h4,λx hx=>?_,h5⟩;have all:∀{l:List (List Key×V)}{m:List (List Key×Addr×Value)},KT H l m->∀x∈m,(tupleKind (bu P w)).is h x.1 x.2.1:=by
  intro l m q
  induction q with
  |nil=>intro x hx;exact nomatch hx
  |@cons p q ps qs hq t ih=>
   intro x hx;rcases lL.mp hx with e|hx
   ·subst e;exact k8 ok (by rw[<-hq.1];exact hq.2.1)
   ·exact ih x hx
 exact all r x hx
theorem Jy{kvs:List (List Key×V)}(ok:eQ P w H h)(e:H a=some (.dT kvs)):kvs.length<=sizeLine/\(a == sysModules)=false/\
  ∃xs,KT H kvs xs/\h.DictOfH (tupleKind (bu P w)) a xs:=y1 ok (.inl e)
end
def fR(H:Hp)(a:Addr)(y:V)(r:Option V):Prop:=
 (∃kvs k,Rd H a (.dK kvs)/\y=kV k/\r=aS kvs k)\/∃kvs k b,Rd H a (.dT kvs)/\y=.ref b/\H b=some (.tup (k.map kV))/\r=aS kvs k
def jh(H:Hp)(a:Addr)(y v:V)(H':Hp):Prop:=
 (∃kvs k,H a=some (.dK kvs)/\y=kV k/\kvs.length<sizeLine/\H'=upd H a (.dK (putK kvs k v))) \/
 ∃kvs k b,H a=some (.dT kvs)/\y=.ref b/\H b=some (.tup (k.map kV))/\kvs.length<sizeLine/\H'=upd H a (.dT (putK kvs k v))
theorem fR.k{H:Hp}{a:Addr}{kvs:List (Key×V)}{k:Key}(e:H a=some (.dK kvs)):fR H a (kV k) (aS kvs k):=.inl ⟨kvs,k,.inl e,rfl,rfl⟩
theorem fR.t{H:Hp}{a b:Addr}{kvs:List (List Key×V)}{k:List Key}(e:H a=some (.dT kvs))(eb:H b=some (.tup (k.map kV))):fR H a (.ref b) (aS kvs k):=.inr ⟨kvs,k,b,.inl e,rfl,eb,rfl⟩
theorem jh.k{H:Hp}{a:Addr}{kvs:List (Key×V)}{k:Key}{v:V}(e:H a=some (.dK kvs))(hl:kvs.length<sizeLine):jh H a (kV k) v (upd H a (.dK (putK kvs k v))):=.inl ⟨kvs,k,e,rfl,hl,rfl⟩
theorem jh.t{H:Hp}{a b:Addr}{kvs:List (List Key×V)}{k:List Key}{v:V}(e:H a=some (.dT kvs))(eb:H b=some (.tup (k.map kV)))(hl:kvs.length<sizeLine):
  jh H a (.ref b) v (upd H a (.dT (putK kvs k v))):=.inr ⟨kvs,k,b,e,rfl,eb,hl,rfl⟩
section
variable{X:Cx}{pins:Lo}{σ:St}{H:Hp}{s:Shared}{a:Addr}{y v:V}{u r:Value}{o:Option V}{A:Around}{E:Vs}
theorem Inv.big(I:Inv X pins σ H s):sysModules<s.heap.objs.size:=by
 have h:mainGlobals<s.heap.objs.size:=(I.mod.glob.keeps I.bk).lt;exact Nat.lt_trans (by decide) h
theorem Rc{Q:Vs}(hu:A.units+1<cLine)(I:Inv X pins σ H s)(g:fR H a y o)(ry:RelV y u)(h:∀s',Inv X pins σ H s'->Q (.bool o.isSome) s'):
  wpAny (model X.prog X.w) A (compareOp .In u (.ref a)) Q E s:=by
 rcases g with ⟨kvs,k,e,ey,l⟩|⟨kvs,k,b,e,ey,eb,l⟩
 ·subst ey;obtain⟨z,hd,vs,rel,dd⟩:=xy I.aN e;refine wpAny_in_of (mB ry) hd dd.mapOf ?_;rw[<-(rel.val k).iI,<-l];exact h _ (I.tok _)
 ·subst ey;cases (show u=Value.ref b from ry);obtain⟨z,hd,xs,rel,dd⟩:=y1 I.aN e;refine wpAny_in_heap (tupleKind_room_in1 hu) (k8 I.aN eb) hd dd ?_;have q:=(rel.val k).iI;rw[Option.isSome_map]at q;rw[<-q,<-l];exact h _ (I.tok _)
theorem j8{h':Heap}{t':Nat}{ob:HO}(I:Inv X pins σ H s)(mu:NQ (H a))(hs:Heap.SameBut a s.heap h')(he:∃q,h'.get? a=some q)(new:a_ X.prog X.w (upd H a ob) h' a ob):
  Inv X pins σ (upd H a ob) { s with heap:=h',toks:=t' }:=
 I.write (x:=a) (e:=a) mu (.inl rfl) (λb q hb z=>(hs.2 b hb).trans z) he new
theorem FK{P:Program}{w:World}{H':Hp}{h':Heap}{kvs:List (Key×V)}{vs:List (Key×Value)}(z:kvs.length<=sizeLine)(hd:(a == sysModules)=false)(rel:KV kvs vs)(dd:h'.DictOf (bu P w) a vs):
  a_ P w H' h' a (.dK kvs):=⟨z,hd,vs,rel,dd⟩
theorem Az{H':Hp}{Q:Unit->Shared->Prop}(hu:A.units+1<cLine)(I:Inv X pins σ H s)(g:jh H a y v H')(ry:RelV y u)(rv:RelV v r)(h:∀s',Inv X pins σ H' s'->Q () s'):
  wpAny (model X.prog X.w) A (setItem (.ref a) u r) Q E s:=by
 rcases g with ⟨kvs,k,e,ey,l,eH⟩|⟨kvs,k,b,e,ey,eb,l,eH⟩
 ·subst ey eH;obtain⟨z,hd,vs,rel,dd⟩:=JF I.aN e;have hz:vs.length<=sizeLine:=by rw[<-rel.length];exact z
  have hl:(putK kvs k v).length<=sizeLine:=by have:=cP kvs k v;omega
  refine wpAny_setItem_pairs (hsz:=hz) (mB ry) dd λh' dd' hs=>h _ ?_;have he:∃q,h'.get? a=some q:=let ⟨q,_,_,hq,_⟩:=dd';⟨q,hq⟩
  exact j8 I (by rw[e];exact True.intro) hs he (FK hl hd (rel.put k rv) dd')
 ·subst ey eH;cases (show u=Value.ref b from ry);obtain⟨z,hd,xs,rel,dd⟩:=Jy I.aN e;have hz:xs.length<=sizeLine:=by rw[<-Paired.length rel];exact z
  have hl:(putK kvs k v).length<=sizeLine:=by have:=cP kvs k v;omega
  refine wpAny_setItem_heap (hsz:=hz) (tupleKind_room_in1 hu) (k8 I.aN eb) dd λh' dd' hs=>h _ ?_;obtain⟨q,es,ep,hq,h2,h3,h4,_,h5⟩:=dd';refine j8 I (by rw[e];exact True.intro) hs ⟨q,hq⟩ ⟨hl,hd,_,(rel.put k eb rv).keeps λc ys ec=>?_,q,es,ep,hq,h2,h3,h4,h5⟩;rw[ae (bS ec e (λz=>nomatch z))];exact ec
end
section
variable{X:Cx}{pins:Lo}{σ:St}{H:Hp}{s:Shared}{a:Addr}{kvs:List (Key×V)}{k:Key}{u:Value}{A:Around}{E:Vs}
end
def SJ(td ty:TE):TE:=λσ H Q=>td σ H λx H1=>ty σ H1 λy H2=>∃a v,x=.ref a/\fR H2 a y (some v)/\Q v H2
def QQ(ty td:TE):TE:=λσ H Q=>ty σ H λy H1=>td σ H1 λx H2=>∃a o,x=.ref a/\fR H2 a y o/\Q (.bl o.isSome) H2
def PD(ty td:TE):TE:=λσ H Q=>ty σ H λy H1=>td σ H1 λx H2=>∃a o,x=.ref a/\fR H2 a y o/\Q (.bl (!o.isSome)) H2
def Nn(td ty tv:TE):TS:=λD σ H=>tv σ H λv H1=>td σ H1 λx H2=>ty σ H2 λy H3=>∃a H4,x=.ref a/\jh H3 a y v H4/\D.nx σ H4
section
variable{X:Cx}{o i e value:Expr}{pos pos' tpos:Pos}{td ty tv:TE}
theorem Kp(hu:X.A.units+1<cLine)(hi:PE X i ty)(ho:PE X o td):PC X .In i o (QQ ty td):=by
 intro pins s σ H Q I h;refine bx (hi pins s σ H _ I h) λiv s1 ⟨y,H1,I1,ry,q1⟩=>bx (ho pins s1 σ H1 _ I1 q1) λu s2 ⟨x,H2,I2,rx,a,ov,ex,g,q2⟩=>?_;subst ex;obtain rfl:u=Value.ref a:=rx;exact Rc hu I2 g ry λs3 I3=>⟨.bl ov.isSome,H2,I3,rfl,q2⟩
theorem yl(hu:X.A.units+1<cLine)(ho:PE X o td)(hi:PE X i ty)(hv:PE X value tv)(hs:swapsWith value (some (.Subscript o i pos')) pos.line X.env=pure false):
  PS X (.Assign [.Subscript o i pos'] value pos) (Nn td ty tv):=by
 intro pins s σ H D I h;refine wpAny_Assign_Subscript (bx (hv pins s σ H _ I h) λr s1 ⟨v,H1,I1,rv,q1⟩=>bx (ho pins s1 σ H1 _ I1 q1) λu s2 ⟨x,H2,I2,rx,q2⟩=>bx (hi pins s2 σ H2 _ I2 q2) λiv s3 ⟨y,H3,I3,ry,a,H4,ex,g,q3⟩=>?_) hs;subst ex;obtain rfl:u=Value.ref a:=rx;exact Az hu I3 g ry rv λs4 I4=>⟨σ,H4,I4,q3⟩
end
theorem EK{P:Program}{w:World}{H:Hp}(h:Heap)(hb:sysModules<h.objs.size):a_ P w H (h.push { cls:=.type "dict", data:=.dict #[] }) h.objs.size (.dK []):=
 ⟨gB _,beq_eq_false_iff_ne.mpr (Ne.symm (lE hb)),[],.nil,Heap.DictOf.new h⟩
theorem DG{P:Program}{w:World}{H:Hp}(h:Heap)(hb:sysModules<h.objs.size):a_ P w H (h.push { cls:=.type "dict", data:=.dict #[] }) h.objs.size (.dT []):=
 ⟨gB _,beq_eq_false_iff_ne.mpr (Ne.symm (lE hb)),[],.nil,_,#[],0,yO _ rfl,⟨rfl,rfl,rfl⟩,rfl,rfl,List.nodup_nil⟩
def K6:TE:=λ_ H Q=>∀p,H p=none->Q (.ref p) (upd H p (.dK []))
def Kf:TE:=λ_ H Q=>∀p,H p=none->Q (.ref p) (upd H p (.dT []))
section
variable{X:Cx}{pos:Pos}
theorem uv:PE X (.Dict [] [] pos) K6:=λpins s σ H Q I h=>
 wpAny_Dict_empty ⟨.ref s.heap.objs.size,_,I.laid (a:=s.heap.objs.size) (o:=.dK []) (t':=s.toks) (λ_ _ q=>fU _ q) (dn _) (EK s.heap I.big),rfl,h _ (I.aN.fresh (dn _))⟩
theorem F5:PE X (.Dict [] [] pos) Kf:=λpins s σ H Q I h=>
 wpAny_Dict_empty ⟨.ref s.heap.objs.size,_,I.laid (a:=s.heap.objs.size) (o:=.dT []) (t':=s.toks) (λ_ _ q=>fU _ q) (dn _) (DG s.heap I.big),rfl,h _ (I.aN.fresh (dn _))⟩
end
structure M1(X:Cx)(o:Expr)(m:Str)(apos:Pos)(e:Expr)(cpos:Pos):Prop where
 base:attributeBase o m X.env (eval o X.env)=eval o X.env
 iz:((backTo cpos (starEach [e] X.env)).all (λx=>!x.1)&&(backToKw cpos (keywordEach [] X.env)).all (λx=>x.1.isSome)
  && decide (([e]:List Expr).length+([]:List Keyword).length+(if ([]:List Keyword).isEmpty then 0 else 1)<30))=true
 line:(apos.endLine == cpos.line)=true
 trees:backTo cpos (starEach [e] X.env)=[(false,eval e X.env)]
structure M2(X:Cx)(o:Expr)(m:Str)(apos:Pos)(e f:Expr)(cpos:Pos):Prop where
 base:attributeBase o m X.env (eval o X.env)=eval o X.env
 iz:((backTo cpos (starEach [e,f] X.env)).all (λx=>!x.1)&&(backToKw cpos (keywordEach [] X.env)).all (λx=>x.1.isSome)
  && decide (([e,f]:List Expr).length+([]:List Keyword).length+(if ([]:List Keyword).isEmpty then 0 else 1)<30))=true
 line:(apos.endLine == cpos.line)=true
 trees:backTo cpos (starEach [e,f] X.env)=[(false,eval e X.env),(false,eval f X.env)]
def Pq(H:Hp)(a:Addr):Prop:=(∃kvs,Rd H a (.dK kvs))\/∃kvs,Rd H a (.dT kvs)
theorem Bb{X:Cx}{pins:Lo}{σ:St}{H:Hp}{s:Shared}{a:Addr}(I:Inv X pins σ H s)(d:Pq H a):
  s.TypeIs (.ref a) "dict" /\ (∀b,Value.ref a=.ref b->∃ob,s.heap.get? b=some ob/\ob.dict=none)/\(a == sysModules)=false:=by
 rcases d with ⟨kvs,e⟩|⟨kvs,e⟩
 ·obtain⟨_,hd,vs,_,dd⟩:=xy I.aN e;refine⟨dd.typeIs,λb q=>?_,hd⟩;cases q;obtain⟨ob,_,_,h1,h2,_⟩:=dd;exact⟨ob,h1,h2.2.1⟩
 ·obtain⟨_,hd,xs,_,dd⟩:=y1 I.aN e;refine⟨dd.typeIs,λb q=>?_,hd⟩;cases q;obtain⟨ob,_,_,h1,h2,_⟩:=dd;exact⟨ob,h1,h2.2.1⟩
section
variable{X:Cx}{pins:Lo}{σ:St}{H:Hp}{s:Shared}{a:Addr}{y d:V}{u r:Value}{o:Option V}{A:Around}{E:Vs}
theorem Lw{Q:Vs}(hu:A.units+1<cLine)(I:Inv X pins σ H s)(g:fR H a y o)(ry:RelV y u)(rd:RelV d r)(h:∀w' s',Inv X pins σ H s'->RelV (o.getD d) w'->Q w' s'):
  wpAny (model X.prog X.w) A (call (.builtin "dict.get") [.ref a,u,r]) Q E s:=by
 rcases g with ⟨kvs,k,e,ey,l⟩|⟨kvs,k,b,e,ey,eb,l⟩
 ·subst ey;obtain⟨z,hd,vs,rel,dd⟩:=xy I.aN e;refine call_meetsIn PySem.F.slot_dict_get dd.typeIs PySem.F.entry_dict_get (PySem.F.args_dict_get_3 _ _ _) (meets_dict_get_default (bu X.prog X.w) a (mB ry) hd r) ⟨_,dd.mapOf,h _ _ (I.tok _) ?_⟩;rw[l];exact(rel.val k).getD rd
 ·subst ey;cases (show u=Value.ref b from ry);obtain⟨z,hd,xs,rel,dd⟩:=y1 I.aN e;refine call_meetsIn PySem.F.slot_dict_get dd.typeIs PySem.F.entry_dict_get (PySem.F.args_dict_get_3 _ _ _) (meetsH_dict_get_default (tupleKind (bu X.prog X.w)) a b hd r) ⟨tupleKind_room_in1 hu,k,xs,k8 I.aN eb,dd,h _ _ (I.tok _) ?_⟩;rw[l];exact(rel.val k).getD rd
end
def Rx(td ty:TE):TE:=λσ H Q=>td σ H λx H1=>∃a,x=.ref a/\Pq H1 a/\ty σ H1 λy H2=>∃o,fR H2 a y o/\Q (o.getD .aF) H2
def KZ(td ty tx:TE):TE:=λσ H Q=>td σ H λx H1=>∃a,x=.ref a/\Pq H1 a/\ty σ H1 λy H2=>tx σ H2 λz H3=>∃o,fR H3 a y o/\Q (o.getD z) H3
section
variable{X:Cx}{o e f:Expr}{apos cpos:Pos}{td ty tx:TE}
theorem kO(hu:X.A.units+1<cLine)(ho:PE X o td)(he:PE X e ty)(hf:PE X f tx)(m:M2 X o "get" apos e f cpos):PE X (.Call (.Attribute o "get" apos) [e,f] [] cpos) (KZ td ty tx):=by
 intro pins s σ H Q I h;refine wpAny_Call_method m.base m.iz m.line PySem.F.plainAttrs_dict PySem.F.slot_dict_get PySem.F.type_dict_get (bx (ho pins s σ H _ I h) λu s1 ⟨x,H1,I1,rx,a,ex,d,q1⟩=>?_);subst ex;obtain rfl:u=Value.ref a:=rx;obtain⟨t1,t2,_⟩:=Bb I1 d;refine⟨t1,t2,?_⟩;rw[m.trees];refine Calls.callWith_builtin rfl (Calls.evalArgs_plain (Calls.spliced_cons (bx (he pins s1 σ H1 _ I1 q1) λiv s2 ⟨y,H2,I2,ry,q2⟩=>
  Calls.spliced_cons (bx (hf pins s2 σ H2 _ I2 q2) λfv s3 ⟨z,H3,I3,rz,ov,g,q3⟩=>Calls.spliced_nil ?_))))
 exact Lw hu I3 g ry rz λw' s4 I4 rw'=>⟨_,H3,I4,rw',q3⟩
end
section
variable{X:Cx}{pins:Lo}{σ:St}{H:Hp}{s:Shared}{a:Addr}{kvs:List (Key×V)}{A:Around}{E:Vs}
end
section
variable{X:Cx}{pins:Lo}{σ:St}{H:Hp}{s:Shared}{a:Addr}{y:V}{u:Value}{A:Around}{E:Vs}
end
end L2
namespace Att
open PySem PySem.W PySem.Calls PyProof.Rows
theorem ints_of_wellAll{P:Params}{h:Heap}:∀(ns:List Int) (vs:List Value),WellAll P h vs (ns.map WData.int)->IntsAre vs ns:=by
 intro ns
 induction ns with
 |nil=>
  intro vs w;rw[List.map_nil]at w;cases w;exact .nil
 |cons n ns ih=>
  intro vs w;rw[xE]at w;cases w with
  |cons a b=>
   cases a;exact .cons _ _ (ih _ b)
theorem script_of{l:OpenLaw}{n:Nat}(hn:l.most=some n){P:Params}{h:Heap}{args:List WData}{vals:List Value}
  (hpre:l.row.toRowW.claim.pre args=true) (hwl:WellAll P h vals args):
  ∃a vs ns,vals=[Value.ref a]/\args=[WData.list (ns.map WData.int)]/\h.get? a=some { cls:=.type "list", data:=.seq vs.toArray }/\IntsAre vs ns/\ns.length<=n:=by
 have hsh:WShape.hasAll [] args [.list .int]=true:=(pre_splitW hpre).1;have hc:l.pre.holds [] { args:=args }=true:=(pre_splitW hpre).2;obtain⟨d,r,rfl,h1,h2⟩:=hasAllW_cons hsh;obtain rfl:=hasAllW_nil h2;obtain⟨xs,rfl,h3⟩:=hasW_list h1;obtain⟨ns,rfl⟩:=items_int h3;have hlen:ns.length<=n:=by
  unfold OpenLaw.pre at hc;have h4:(WTm.not (.lt (.lit (.int (n:Int))) (.len (.arg 0)))).holds [] { args:=[.list (ns.map .int)] }=true:=by
   have h4:=(holds_andW hc).1;rw[hn]at h4;exact h4
  have h5:=condW_of h4 (w_not (w_lt w_lit (w_len_list (w_arg rfl))));rw[aQ]at h5;refine Nat.le_of_not_lt λq=>?_;have q':(n:Int)<((ns.length:Nat):Int):=by omega
  first
   | (rw[decide_eq_true q']at h5;exact absurd h5 (by decide))
   | (simp at h5;omega)
 cases hwl with
 |cons w1 w2=>
  cases w2;cases w1 with
  |list ho hall=>exact⟨_,_,ns,rfl,rfl,ho,ints_of_wellAll ns _ hall,hlen⟩
theorem post_true(l:OpenLaw)(args:List WData):l.row.toRowW.claim.post args (.bool true) args=true:=
 postW_of (r:=l.row.toRowW) (X:=(true == true))
  (show WShape.has [] (.bool true) .bool=true by first|rfl|decide|simp[WShape.has,WShape.arms,WShape.armsAll])
  (show(WTm.eq .res (.lit (.bool true))).value [] { args:=args,res:=some (.bool true),after:=args }=some (.bool (true == true)) from w_eq_bool (w_res rfl) w_lit) rfl
theorem attach_call{l:OpenLaw}{n:Nat}{q:Program}{loose:List Str}{XP:(Str->Option Value)->Heap->Prop}{YP:World->Heap->Prop}{d:DefRec}
  (hn:l.most=some n) (hdf:d.params.defaults=[])
  (call:∀(w:World) (s₀ s₁:Shared) (mg mb:So) (fa:Addr) (o:Obj) (pm cd doc:Value) (a:Addr) (vs:List Value) (ns:List Int),
   Ground q loose [] XP w s₀ mg mb s₁.heap->YP w s₁.heap->
   s₁.heap.get? fa=some o->o.data=.func (docDef d.name d.params d.body d.scope pm cd doc)->s₁.heap.CodeRec cd d.name->mg d.name=some (.ref fa)->
   s₁.heap.get? a=some { cls:=.type "list", data:=.seq vs.toArray }->IntsAre vs ns->ns.length<=n->s₁.gens=#[]->
   codeAny (model l.prog w) callerA (.call (.ref fa) ⟨[.ref a],[]⟩) (λr s'=>r=.ok (.ret (.bool true))/\OldK s₁.heap s'.heap/\s'.os=s₁.os/\AllBare s'.gens) s₁):
  WalkO q loose XP YP l.row.toRowW d [] (λf vs=>PySem.call f vs):=by
 intro w s₀ s₁ mg mb G Y fa o pm cd doc dV kV ho hd hcd hD hmg hg args vals as hpre hlay hrd hwl hlo;obtain rfl:dV=.none:=Dflts.none hD hdf;obtain rfl:kV=.none:=Dflts.noKw hD;obtain⟨a,vs,ns,rfl,rfl,hobj,hints,hlen⟩:=script_of hn hpre hwl;refine enter_call (codeAny_mono (call w s₀ s₁ mg mb fa o pm cd doc a vs ns G Y ho (fd_plain hd) hcd hmg hobj hints hlen hg) λr s' hq=>?_);obtain⟨rfl,h2,h3,h4⟩:=hq;exact⟨.inl ⟨.bool true,.bool true,[],rfl,λ_=>rfl,.bool true,post_true l _,λ_=>⟨List.Pairwise.nil,λ_ hm=>(nomatch hm)⟩⟩,h2,h3,h4⟩
section
variable{prog:Program}{w:World}{A:Around}{E:Vs}{s:Shared}{K:Frag}
noncomputable def ledger(h:Heap)(L d:Addr):Lo:=(List.range h.objs.size).filterMap λa=>if a=L\/a=d then none else (h.get? a).map λo=>(a,o)
end
end Att
namespace L2
open PySem PySem.Spec PyProof.Rows
theorem mU:∀{vs:List Value}{ns:List Int},IntsAre vs ns->Vals (ns.map V.int) vs
 |_,_,.nil=>.nil
 |_,_,.cons n t h=>.cons ⟨t,rfl⟩ (mU h)
def La(H:Hp):Prop:=∀b,H b=none\/∃o xs,H b=some (.uM o (.lst xs))
theorem F8{P:Program}{w:World}{K:Wf}{mg mb:So}{CX:A3}{k:Nat}{fa a:Addr}{fd:FuncData}{x:Str}{sp:Sp}{s₁:Shared}{vs:List Value}{ns:List Int}
  (KX:K.In s₁.heap) (hns:s₁.heap.Ns mainGlobals mg) (hb:s₁.heap.Ns builtinsNs mb) (hbb:∀x:Str,x ≠ "__name__" -> mb x=bootBuiltins x) (hlim:s₁.heap.NoLimit) (hg:s₁.gens=#[])
  (ha:s₁.heap.get? a=some { cls:=.type "list", data:=.seq vs.toArray }) (hi:IntsAre vs ns) (hl:ns.length<=sizeLine) (hr:cR k callerA)
  (F:∀base:Heap,K.In base->base.Ns mainGlobals mg->bo P w K mg base CX k fa fd [x] sp) (hbind:∀(s:Shared) (u:Value),BindsTo s fd ⟨[u],[]⟩ [(x,u)])
  (hsp:∀H:Hp,La H->aC K H a (ns.map V.int)->sp [.ref a] H (λv _=>v=.bl true) λ_ _ _=>False)
  (hCX:∀H e s',CX [] H s₁ (λ_ _ _=>False) e s'->False):
  codeAny (model P w) callerA (.call (.ref fa) ⟨[.ref a],[]⟩) (λr s'=>r=.ok (.ret (.bool true))/\OldK s₁.heap s'.heap/\s'.os=s₁.os/\AllBare s'.gens) s₁:=by
 have rv:=mU hi;have lenV:=hi.length;have core:∀H:Hp,La H->aC K H a (ns.map V.int)->eQ P w H s₁.heap->(∀b,H b≠none->b=a)->(H a≠none->K.lookup a=none)->
   codeAny (model P w) callerA (.call (.ref fa) ⟨[.ref a],[]⟩) (λr s'=>r=.ok (.ret (.bool true))/\OldK s₁.heap s'.heap/\s'.os=s₁.os/\AllBare s'.gens) s₁:=by
  intro H hO hS aN hA hK;have base_of:∀{b:Addr}{o:Obj},s₁.heap.get? b=some o->H b=none->(rY s₁.heap H).get? b=some o:=λe n=>DO e n;have noA:∀{b:Addr}{o:Obj}{es:Array DictEntry}{ep:Nat},s₁.heap.get? b=some o->o.data=.dict es ep->H b=none:=λ{b o es ep} e d=>by
   cases q:H b with
   |none=>rfl
   |some u=>
    have e':b=a:=hA b (by rw[q];simp);subst e';rw[ha]at e;cases e;have d':Data.seq vs.toArray _=Data.dict es ep:=d;cases d'
  have nsK:∀{b:Addr}{m:So},s₁.heap.Ns b m->(rY s₁.heap H).Ns b m:=λ{b m} ⟨o,es,ep,e,d,r⟩=>⟨o,es,ep,base_of e (noA e d),d,r⟩;have hKb:K.In (rY s₁.heap H):=λb o e=>base_of (KX b o e) (by
   cases q:H b with
   |none=>rfl
   |some u=>
    have e':b=a:=hA b (by rw[q];simp);subst e';rw[hK (by rw[q];simp)]at e;cases e)
  have hM:Mod K mg (rY s₁.heap H):=⟨hKb,nsK hns,⟨mb,nsK hb,hbb⟩,let ⟨mc,h1,h2⟩:=hlim;⟨mc,nsK h1,h2⟩⟩
  have e0:wz P w K mg (rY s₁.heap H) callerA [] s₁ H:=⟨rfl,hM,λb o e=>IE e,Nat.le_of_eq (z3 _ _),trivial,λb hb=>absurd (show b∈([]:List Addr) from hb) (by simp),aN,.of_eq hg⟩
  refine codeAny_mono ((F _ hKb (nsK hns)).run callerA [] s₁ H ⟨[.ref a],[]⟩ [.ref a] [.ref a] _ _ hr e0 (hbind s₁ (.ref a)) (.cons rfl .nil) (hsp H hO hS)) λr s' h=>?_;cases r with
  |error e=>exact(hCX H e s' h).elim
  |ok fl=>
   cases fl with
   |next=>exact False.elim h
   |brk=>exact False.elim h
   |cont=>exact False.elim h
   |ret u=>
    obtain⟨v,H',os,bare,un,hok',r',q⟩:=h;have q':v=.bl true:=q;subst q';obtain rfl:u=Value.bool true:=r';refine⟨rfl,OldK.of_keep λb o e=>?_,os,bare⟩;cases q:H b with
    |none=>exact un.keep b o e q (by intro z;exact absurd (show b∈([]:List Addr) from z) (by simp)) (by simp)
    |some u=>
     rcases hO b with z|⟨ob,xs,z⟩
     ·rw[q]at z;cases z
     ·have z2:=un.g8 b ob _ z;obtain⟨e1,_⟩:=aN b _ z;obtain⟨e2,_⟩:=hok' b _ z2;rw[e]at e1;cases e1;exact e2
 cases hk:K.lookup a with
 |some o=>
  have e:=KX a o hk;rw[ha]at e;cases e;refine core (λ_=>none) (λ_=>.inl rfl) (.inr ⟨_,vs.toArray,_,hk,rfl,rfl,rfl,by rw[vc,lenV];exact hl,by simpa using rv⟩) (λb u z=>by have z':(none:Option HO)=some u:=z;cases z') (λb z=>absurd rfl z) λz=>absurd rfl z
 |none=>
  refine core (λb=>if b=a then some (.uM { cls:=.type "list", data:=.seq vs.toArray } (.lst (ns.map V.int))) else none) (λb=>?_) (.inl (.inr ⟨{ cls:=.type "list", data:=.seq vs.toArray },if_pos rfl⟩)) (λb u z=>?_) (λb z=>?_) λ_=>hk
  ·by_cases hb:b=a
   ·exact .inr ⟨_,_,if_pos hb⟩
   ·exact .inl (if_neg hb)
  ·by_cases hb:b=a
   ·have z':=(if_pos hb).symm.trans z;cases z';subst hb;exact⟨ha,by rw[aQ];exact hl,vs,_,rv,ha⟩
   ·have z':=(if_neg hb).symm.trans z;cases z'
  ·by_cases hb:b=a
   ·exact hb
   ·exact absurd (if_neg hb) z
theorem Hs{l:PySem.W.OpenLaw}{n k:Nat}{q:Program}{loose:List Str}{XP:(Str->Option Value)->Heap->Prop}{YP:World->Heap->Prop}{d:DefRec}{K:Params->Wf}{CX:World->A3}{sp:World->Sp}{x:Str}
  (hn:l.most=some n) (hn2:n<=sizeLine) (hdf:d.params.defaults=[]) (hr:cR k callerA)
  (hY:∀(w:World) (h:Heap),YP w h->(K w.params).In h)
  (F:∀(w:World) (mg:So) (fa:Addr) (h:Heap),(K w.params).In h->h.Ns mainGlobals mg->mg d.name=some (.ref fa)->
   ∃fd:FuncData,(∀(s:Shared) (u:Value),BindsTo s fd ⟨[u],[]⟩ [(x,u)])/\
    ∀base:Heap,(K w.params).In base->base.Ns mainGlobals mg->bo l.prog w (K w.params) mg base (CX w) k fa fd [x] (sp w))
  (hsp:∀(w:World) (H:Hp) (a:Addr) (ns:List Int),ns.length<=n->La H->aC (K w.params) H a (ns.map V.int)->sp w [.ref a] H (λv _=>v=.bl true) λ_ _ _=>False)
  (hCX:∀(w:World) (H:Hp) (s:Shared) (e:Value) (s':Shared),CX w [] H s (λ_ _ _=>False) e s'->False):
  PySem.W.WalkO q loose XP YP l.row.toRowW d [] (λf vs=>PySem.call f vs):=by
 refine Att.attach_call hn hdf λw s₀ s₁ mg mb fa o pm cd doc a vs ns G Y ho hd hcd hmg hobj hints hlen hg=>?_;have KX:=hY w _ Y;obtain⟨fd,hb,hF⟩:=F w mg fa _ KX G.T.g hmg;exact F8 KX G.T.g G.T.b G.T.builtins G.T.nolimit hg hobj hints (dy hlen hn2) hr hF hb (λH hO hS=>hsp w H a ns hlen hO hS) λH e s'=>hCX w H s₁ e s'
noncomputable def inClass(s:Stmt)(j:Nat):Stmt:=match s with
 |.ClassDef _ _ _ body _ _ _ _ _ _ _=>body.getD j (.Pass ⟨0,0,0,0⟩)
 |_=>.Pass ⟨0,0,0,0⟩
noncomputable def gA(s:Stmt):Arguments:=match s with
 |.FunctionDef _ a _ _ _ _ _ _ _ _=>a
 |_=>{ posonlyargs:=[],args:=[],vararg:=none,kwonlyargs:=[],kw_defaults:=[],kwarg:=none,defaults:=[] }
noncomputable def eE(s:Stmt):List Stmt:=match s with
 |.FunctionDef _ _ b _ _ _ _ _ _ _=>b
 |_=>[]
noncomputable def av(s:Stmt):Scope:=match s with
 |.FunctionDef _ _ _ _ _ _ sc _ _ _=>sc
 |_=>{ kind:=.function,names:=[],isGenerator:=false,isCoroutine:=false }
noncomputable abbrev eI:A3:=λ_ _ _ _ _ _=>False
noncomputable abbrev E0:XK:=λ_ _ _=>False
theorem eW{X:Cx}:Passes eI X E0:=λ_ _ _ _ _ _ _ h=>h.elim
structure eu(K:Wf)(x qual:Str)(st:Stmt)(f:Addr)(fd:FuncData):Prop where
 ex:∃(oc:Value) (od:Option Addr) (kV doc pm:Value) (an:Option Addr) (cdv ct:Value) (osl:Array (Option Value)),
  fd=fnOf x qual (gA st) (eE st) (av st) .none kV doc pm an cdv ct/\K.lookup f=some ⟨oc,od,.func fd,osl⟩/\codeIn K cdv qual=true
 kp:keepIn K (.ref f)=true
section
variable{P:Program}{w:World}{K:Wf}{mg:So}{base:Heap}
theorem eu.ok{x qual:Str}{st:Stmt}{f:Addr}{fd:FuncData}{N ps:List Str}{k:Nat}{sp:Sp}(F:eu K x qual st f fd)(S:aB N ps (av st))(len:∀vs H Q E,sp vs H Q E->vs.length=ps.length)
  (hbody:∀(cdv:Value) (A:Around) (outer:List Env) (s:Shared) (H:Hp) (vs:List V) (Q:VK) (E:XK),cR k (A.deeper (envOfC qual (av st) s.heap.objs.size f cdv))->sp vs H Q E->
   ∃t,lV (kT eI P w K mg base N qual (av st) f cdv A outer s H E).Mn (eE st) t/\t { nx:=λ_ H'=>Q .aF H',rt:=Q } (start N vs) H):bo P w K mg base eI (k+1) f fd ps sp:=by
 obtain⟨oc,od,kV,doc,pm,an,cdv,ct,osl,rfl,lk,hcd⟩:=F.ex;refine J3 lk hcd S len λA outer s H vs Q E hr hsp=>?_;obtain⟨t,h,q⟩:=hbody cdv A outer s H vs Q E hr hsp;exact⟨t,h.Mn,q⟩
theorem eu.binds{x qual:Str}{st:Stmt}{f:Addr}{fd:FuncData}{ps:List Str}(F:eu K x qual st f fd)
  (h:∀(kV doc pm:Value) (an:Option Addr) (cdv ct:Value) (us:List Value),us.length=ps.length->bindArgs (fnOf x qual (gA st) (eE st) (av st) .none kV doc pm an cdv ct) ⟨us,[]⟩=pure (ps.zip us)):Binds K fd ps []:=by
 obtain⟨oc,od,kV,doc,pm,an,cdv,ct,osl,rfl,lk,hcd⟩:=F.ex;exact .all (h kV doc pm an cdv ct)
theorem Dq{x qual:Str}{st:Stmt}{f:Addr}{oc:Value}{od an:Option Addr}{osl:Array (Option Value)}{kV doc pm cdv ct:Value}(l:K.lookup f=some ⟨oc,od,.func (fnOf x qual (gA st) (eE st) (av st) .none kV doc pm an cdv ct),osl⟩)
  (c:codeIn K cdv qual=true) (k:keepIn K (.ref f)=true):eu K x qual st f (fnOf x qual (gA st) (eE st) (av st) .none kV doc pm an cdv ct):=⟨⟨oc,od,kV,doc,pm,an,cdv,ct,osl,rfl,l,c⟩,k⟩
end
theorem lD{A:Around}{k:Nat}(hr:cR k A):A.units+1<cLine:=Nat.lt_of_le_of_lt (Nat.add_le_add_left (by decide:1<=64) _) hr.units
section
variable{X:Cx}
noncomputable def visB(sc:Scope)(x:Str):Bool:=match sc.names.lookup x with
 |some .local=>true
 |some .cell=>true
 |some .free=>true
 |_=>false
noncomputable def varB(N:List Str)(sc:Scope)(i:Nat)(x:Str):Bool:=match N[i]? with
 |some y=>decide (y=x)&&(visB sc x&&(!(x == ("__debug__" : Str)) && !(x == ("__classdict__" : Str))))
 |none=>false
theorem pv(i:Nat){x:Str}{pos:Pos}(h:varB X.N X.env.scope i x=true:=by kernel_rfl):PE X (.Name x pos) (M7 i):=by
 unfold varB at h;split at h
 ·rename_i y hy;rw[G6,G6,G6]at h;obtain⟨h1,h2,h3,h4⟩:=h;refine Kg (hy.trans (congrArg some (of_decide_eq_true h1))) ?_ (by simpa using h3) (by simpa using h4);unfold visB at h2;split at h2
  ·rename_i e;exact .inl e
  ·rename_i e;exact .inr (.inl e)
  ·rename_i e;exact .inr (.inr e)
  ·cases h2
 ·cases h
end
theorem HY{A B:Prop}(h:B):if false=true then A else B:=by
 rw[if_neg lK];exact h
theorem Lh{A B:Prop}(h:A):if true=true then A else B:=by
 rw[if_pos rfl];exact h
theorem cS{c A B:Prop} [Decidable c](h1:c->A)(h2:¬c->B):if c then A else B:=by
 by_cases h:c
 ·rw[if_pos h];exact h1 h
 ·rw[if_neg h];exact h2 h
def aA(H H':Hp):Prop:=∀b o,H b=some o->H' b=some o
theorem aA.refl(H:Hp):aA H H:=λ_ _ h=>h
theorem aA.trans{H H1 H2:Hp}(a:aA H H1)(b:aA H1 H2):aA H H2:=λc o h=>b c o (a c o h)
theorem aA.seq{K:Wf}{H H':Hp}{a:Addr}{xs:List V}(e:aA H H')(h:aC K H a xs):aC K H' a xs:=by
 rcases h with (h|⟨o,h⟩)|h
 ·exact .inl (.inl (e _ _ h))
 ·exact .inl (.inr ⟨o,e _ _ h⟩)
 ·exact .inr h
section
variable{X:Cx}
end
section
variable{κ:Type} [DecidableEq κ]
end
noncomputable def jk(env:Env):List (Str×NameKind)->List (Str×Addr)->List (Str×Addr)
 |[],acc=>acc
 | (n,k)::r,acc=>jk env r (if (k == NameKind.free)=true then (n,(env.cells.lookup n).getD 0)::acc else acc)
theorem zB{env:Env}:∀(ns:List (Str×NameKind)) (acc:List (Str×Addr)),(∀x∈ns,x.2=.free->∃c,env.cells.lookup x.1=some c)->
  (∀x c,acc.lookup x=some c->env.cells.lookup x=some c)->∀x c,(jk env ns acc).lookup x=some c->env.cells.lookup x=some c
 |[],acc,_,ha=>ha
 | (n,k)::r,acc,hn,ha=>by
  refine zB r _ (λx hx=>hn x (t_ _ hx)) ?_;intro x c e;by_cases hk:(k == NameKind.free)=true
  ·rw[if_pos hk]at e;have hk':k=.free:=by simpa using hk
   obtain⟨c',ec⟩:=hn (n,k) wX hk';rw[Mh]at e;cases hx:x == n with
   |true=>
    rw[hx]at e;have:x=n:=by simpa using hx
    subst this;have ec':List.lookup x env.cells=some c':=ec;rw[ec']at e;simp at e;rw[<-e];exact ec'
   |false=>rw[hx]at e;exact ha x c e
  ·rw[if_neg hk]at e;exact ha x c e
theorem mh{env:Env}:∀(ns:List (Str×NameKind)) (acc:List (Str×Addr)) (x:Str),(∃c,acc.lookup x=some c)->∃c,(jk env ns acc).lookup x=some c
 |[],acc,x,h=>h
 | (n,k)::r,acc,x,h=>by
  refine mh r _ x ?_;by_cases hk:(k == NameKind.free)=true
  ·rw[if_pos hk,Mh];cases hx:x == n with
   |true=>exact⟨_,rfl⟩
   |false=>exact h
  ·rw[if_neg hk];exact h
theorem kB{env:Env}:∀(ns:List (Str×NameKind)) (acc:List (Str×Addr)) (x:Str),(x,NameKind.free)∈ns->∃c,(jk env ns acc).lookup x=some c
 |[],acc,x,h=>absurd h (by simp)
 | (n,k)::r,acc,x,h=>by
  rcases lL.mp h with e|e
  ·injection e with e1 e2;subst e1 e2;refine mh r _ x ⟨(env.cells.lookup x).getD 0,?_⟩;rw[if_pos (by decide)];simp
  ·exact kB r _ x e
theorem gK{scope:Scope}{env:Env}(h:∀x∈scope.names,x.2=.free->∃c,env.cells.lookup x.1=some c):closureFor scope env=pure (jk env scope.names []):=by
 have key:∀(ns:List (Str×NameKind)) (acc:List (Str×Addr)),(∀x∈ns,x.2=.free->∃c,env.cells.lookup x.1=some c)->
   (do let r <-forIn (m:=Sem) ns acc (λx r=>if (x.2 == NameKind.free)=true then do let c <-cellOf env x.1;pure (ForInStep.yield ((x.1,c)::r)) else pure (ForInStep.yield r));pure r:Sem (List (Str×Addr)))=pure (jk env ns acc):=by
  intro ns
  induction ns with
  |nil=>intro acc _;rfl
  |cons y r ih=>
   intro acc hy;obtain⟨n,k⟩:=y;rw[List.forIn_cons];by_cases hk:(k == NameKind.free)=true
   ·have hk':k=.free:=by simpa using hk
    obtain⟨c,ec⟩:=hy (n,k) wX hk';have ec':List.lookup n env.cells=some c:=ec;have e1:cellOf env n=pure c:=by unfold cellOf;rw[ec']
    simp only[hk,if_true,e1];have:=ih ((n,c)::acc) λx hx=>hy x (t_ _ hx);show _=pure (jk env r (if (k == NameKind.free)=true then (n,(List.lookup n env.cells).getD 0)::acc else acc));rw[if_pos hk,ec'];exact this
   ·simp only[hk];have:=ih acc λx hx=>hy x (t_ _ hx);show _=pure (jk env r (if (k == NameKind.free)=true then (n,(List.lookup n env.cells).getD 0)::acc else acc));rw[if_neg hk];exact this
 simp only[closureFor];rw[key scope.names [] h];rfl
section
variable{prog:Program}{w:World}{A:Around}{R:Result->Shared->Prop}{s:Shared}
theorem qp{elt target iter:Expr}{ifs:List Expr}{scope:Scope}{pos:Pos}{it acc:Value}{env:Env}(I:Nat->Shared->Prop)
  (turn:∀n s,I n s->wpAny (model prog w) A (pyNext it) (λr s₁=>match r with
   |none=>R (.ok .next) s₁
   |some v=>wpAny (model prog w) A (letOwnedTupleGo target it v) (λ_ s₁'=>wpAny (model prog w) A (assign target env v) (λ_ s₂=>
     wpAny (model prog w) A (forIn ifs true λc r=>if r=true then do let ok <-isTrue c env (eval c env);pure (ForInStep.yield ok) else pure (ForInStep.yield r)) (λok s₃=>
      if ok=true then wpAny (model prog w) A (eval elt env) (λx s₄=>
       wpAny (model prog w) A (call (.builtin "list.append") [acc,x]) (λ_ s₅=>∃m,m<n/\I m s₅) (λ_ _=>False) s₄) (λ_ _=>False) s₃
      else ∃m,m<n/\I m s₃) (λ_ _=>False) s₂) (λ_ _=>False) s₁') (λ_ _=>False) s₁) (λ_ _=>False) s)
  (n:Nat) (h:I n s):
  codeAny (model prog w) A (.compLoop (.ListComp elt [⟨target,iter,ifs,0⟩] scope pos) 0 it acc env) R s:=by
 refine codeAny_loop rfl I (λn s hI=>?_) n h;show wpAny _ A ((compTurn (.ListComp elt [⟨target,iter,ifs,0⟩] scope pos) 0 it acc env).onRaise (λx=>do noteFrame x env;theTreesLotGoes x)) _ _ s;refine wpAny_noted ?_;rw[compTurn_list];refine aT (Me (aT (iO (turn n s hI) (λr s₁ h₁=>?_) λ_ _ h'=>h'.elim)));cases r with
 |none=>exact cC h₁
 |some v=>
  refine aT (iO h₁ (λ_ s₁' h₁'=>?_) λ_ _ h'=>h'.elim);refine aT (iO h₁' (λ_ s₂ h₂=>aT (iO h₂ (λok s₃ h₃=>?_) λ_ _ h'=>h'.elim)) λ_ _ h'=>h'.elim);cases ok with
  |false=>exact cC ⟨rfl,h₃⟩
  |true=>
   exact aT (aT (iO h₃ (λx s₄ h₄=>aT (iO h₄ (λ_ s₅ h₅=>cC (cC ⟨rfl,h₅⟩)) λ_ _ h'=>h'.elim)) λ_ _ h'=>h'.elim))
end
noncomputable def zM(X:Cx)(N':List Str)(scope:Scope)(fp:List Addr)(s:Shared)(H:Hp):Cx:=
 { X with N:=N',s₀:=s,H₀:=H,env:=compEnvC scope (jk X.env scope.names []) s.heap.objs.size X.env,outer:=X.stack,stack:=X.stack,ex:=fp,fn:=λ_=>false,xe:=λ_ _=>False }
def OI(X:Cx)(ifs:List Expr)(t:TT):Prop:=
 ∀(pins:Lo) (s:Shared) (σ:St) (H:Hp) (Q:Bool->Hp->Prop),Inv X pins σ H s->t σ H Q->
  wpAny (model X.prog X.w) X.A (forIn ifs true λc r=>if r=true then do let ok <-isTrue c X.env (eval c X.env);pure (ForInStep.yield ok) else pure (ForInStep.yield r)) (TP X pins σ Q) X.xe s
def QT:TT:=λ_ H Q=>Q true H
theorem oK{X:Cx}:OI X [] QT:=λ_ _ _ H _ I h=>wpAny_tests_nil ⟨H,I,h⟩
theorem Hx{X:Cx}{c:Expr}{t:TT}(h:PT X c t):OI X [c] t:=λpins s σ H Q I q=>wpAny_tests_one (h pins s σ H Q I q)
set_option genInjectivity true in
inductive Ext:St->St->Prop
 |nil:Ext [] []
 |no {σ τ:St}{a:Option V}:Ext σ τ->Ext (none::σ) (a::τ)
 |yes {σ τ:St}{v:V}:Ext σ τ->Ext (some v::σ) (some v::τ)
theorem Ext.len:∀{σ τ:St},Ext σ τ->σ.length=τ.length
 |_,_,.nil=>rfl
 |_,_,.no h=>by simp[h.len]
 |_,_,.yes h=>by simp[h.len]
theorem Ext.get:∀{σ τ:St},Ext σ τ->∀(i:Nat) (v:V),σ[i]?=some (some v)->τ[i]?=some (some v)
 |_,_,.nil,i,v,e=>e
 |_,_,.no h,0,v,e=>by simp at e
 |_,_,.no h,i+1,v,e=>by simpa using h.get i v (by simpa using e)
 |_,_,.yes h,0,v,e=>by simpa using e
 |_,_,.yes h,i+1,v,e=>by simpa using h.get i v (by simpa using e)
noncomputable def eG(k:Nat)(fm:List Nat)(σ:St):St:=List.replicate k none++fm.map λj=>(σ[j]?).join
def mK(k:Nat)(fm:List Nat)(wi:TI)(g:TG)(tt:TT)(te:TE):TE:=λσ H Q=>wi σ H λJ H1=>∀D,H1 D=none->∃W:Nat->Nat->List V->Hp->Prop,
 (∃m,W 0 m [] (upd H1 D (.lst [])))/\∀i m ys H2,W i m ys H2->H2 D=some (.lst ys)/\ys.length<sizeLine/\((J.stop i H2/\Q (.ref D) H2)\/(J.go i H2/\∃N:List V->Hp->Prop,(∀ys' H',N ys' H'->∃m',m'<m/\W (i+1) m' ys' H')/\∀x H3,J.z9 i H2 x H3->
  g x (eG k fm σ) H3 λσ3 H4=>Ext (eG k fm σ) σ3/\tt σ3 H4 λb H5=>if b=true then te σ3 H5 λy H6=>H6 D=some (.lst ys)/\N (ys++[y]) (upd H6 D (.lst (ys++[y]))) else N ys H5))
theorem Un.tail{fs ex:List Addr}{H H':Hp}{h h1 h2:Heap}{C:Addr}(u:Un fs ex H H' h h1)(k:∀b o,b≠C->h1.get? b=some o->h2.get? b=some o)(hC:h.get? C=none):Un fs ex H H' h h2:=by
 have ne:∀b o,h.get? b=some o->b≠C:=λb o e z=>by rw[z,hC]at e;cases e
 exact⟨λb o e n hf hx=>k b o (ne b o e) (u.keep b o e n hf hx),λb o e n hf hx=>let ⟨sl,q⟩:=u.slot b o e n hf hx;⟨sl,k b _ (ne b o e) q⟩,u.free,
  λb o e hx=>let ⟨o',q⟩:=u.there b o e hx;⟨o',k b _ (ne b o e) q⟩,u.ij,u.g8,u.ia⟩
theorem eQ.tail{P:Program}{w:World}{H:Hp}{h1 h2:Heap}{C:Addr}(ok:eQ P w H h1)(k:∀b o,b≠C->h1.get? b=some o->h2.get? b=some o)(hC:H C=none):eQ P w H h2:=λa o e=>by
 have ne:∀b u,H b=some u->b≠C:=λb u q z=>by rw[z,hC]at q;cases q
 refine(ok a o e).iH (λb u hb q=>k b u ?_ q) (λ_ q=>q) λ_ _ q=>q;rcases hb with z|z
 ·rw[z];exact ne a o e
 ·exact ne b _ z
theorem c5{env:Env}:∀{names:List (Str×NameKind)}{x:Str}{k:NameKind},
  (names.map λ(n,k)=>if (k == NameKind.free&&env.scope.kind == .function&&env.kindOf n == some .cell) then (n,NameKind.cell) else (n,k)).lookup x=some k->∃k',names.lookup x=some k'/\(k=k'\/(k'=.free/\k=.cell))
 |[],_,_,h=>by simp at h
 | (n,k0)::r,x,k,h=>by
  have ih:=@c5 env r x k;have h:List.lookup x ((if (k0 == NameKind.free&&env.scope.kind == .function&&env.kindOf n == some .cell)=true then (n,NameKind.cell) else (n,k0))::(r.map λ(n,k)=>if (k == NameKind.free&&env.scope.kind == .function&&env.kindOf n == some .cell) then (n,NameKind.cell) else (n,k)))=some k:=h;by_cases hc:(k0 == NameKind.free&&env.scope.kind == .function&&env.kindOf n == some .cell)=true
  ·rw[if_pos hc,Mh]at h;have k0f:k0=.free:=by
    simp only[Bool.and_eq_true]at hc;simpa using hc.1.1
   rw[Mh];cases hx:x == n with
   |true=>rw[hx]at h;injection h with h;exact⟨k0,rfl,.inr ⟨k0f,h.symm⟩⟩
   |false=>rw[hx]at h;exact ih h
  ·rw[if_neg hc,Mh]at h;rw[Mh];cases hx:x == n with
   |true=>rw[hx]at h;injection h with h;exact⟨k0,rfl,.inl h.symm⟩
   |false=>rw[hx]at h;exact ih h
structure gm(X:Cx)(N':List Str)(k:Nat)(fm:List Nat)(scope:Scope):Prop where
 kind:scope.kind=.function
 v9:∀y∈scope.names,y.2≠.cell
 names:∀y∈scope.names,y.2=.local->scope.names.lookup y.1=some .local
 free:∀y∈scope.names,y.2=.free->X.env.kindOf y.1=some .cell\/X.env.kindOf y.1=some .free
 len:N'.length=k+fm.length
 slots:∀i x,k<=i->N'[i]?=some x->scope.names.lookup x=some .free/\∃j,fm[i - k]?=some j/\X.N[j]?=some x
section
variable{X:Cx}{pins:Lo}{σ:St}{H:Hp}{s:Shared}
theorem Inv.block{N':List Str}{k:Nat}{fm:List Nat}{scope:Scope}{fp:List Addr}{h':Heap}{tk:Nat}(B:gm X N' k fm scope)(I:Inv X pins σ H s)(hf:∀b∈fp,g9 X pins H b)(ho:∀b∈fp,∃o,s.heap.get? b=some o)
  (ns:h'.Ns s.heap.objs.size (λ_=>none)) (kp:∀b o,s.heap.get? b=some o->h'.get? b=some o):Inv (zM X N' scope fp s H) [] (eG k fm σ) H { s with heap:=h',toks:=tk }:=by
 have hfree:∀x∈scope.names,x.2=.free->∃c,X.env.cells.lookup x.1=some c:=λx hx hk=>I.ok.has x.1 (B.free x hx hk);have hcl:∀x c,(jk X.env scope.names []).lookup x=some c->X.env.cells.lookup x=some c:=zB scope.names [] hfree λx c e=>by simp at e
 have Ir:∀b∈hZ X.stack,b∈X.env.locals::X.fs:=I.wm;have hC:H s.heap.objs.size=none:=I.aN.fresh (dn _);have ok:(zM X N' scope fp s H).Ok:={
  mod:=I.ok.mod
  kind:=B.kind
  glob:=I.ok.glob
  blt:=I.ok.blt
  above:=dn _
  inj:=λx y c h1 h2=>I.ok.inj x y c (hcl x c h1) (hcl y c h2)
  has:=λx hx=>by
   have hx:(relabel scope X.env).names.lookup x=some .cell\/(relabel scope X.env).names.lookup x=some .free:=hx;have:scope.names.lookup x=some .free:=by
    rcases hx with e|e
    ·obtain⟨k',e1,e2⟩:=c5 e;rcases e2 with e2|⟨e2,_⟩
     ·subst e2;exact absurd rfl (B.v9 _ (PySem.mem_of_lookup e1))
     ·rw[e1,e2]
    ·obtain⟨k',e1,e2⟩:=c5 e;rcases e2 with e2|⟨e2,e3⟩
     ·rw[e1,e2]
     ·rw[e1,e2]
   exact kB scope.names [] x (PySem.mem_of_lookup this)
  KJ:=λx c e=>by cases e
  hd:=I.ok.hd
  frames:=I.ok.frames
  Ir:=.inl rfl
  Mf:=λb hb=>⟨λz=>by
    obtain⟨o,e⟩:=ho b hb;have hlt:=dj e;rw[z]at hlt;exact ku _ hlt,λx c e=>(hf b hb).2.2.2.2.1 x c (hcl x c e)⟩
  bs:=I.bs
  GK:=dy I.ok.GK I.sz
  wa:=λb o e hb=>by
   rcases (hf b hb).2.2.2.1 with z|z
   ·exact I.ok.wa b o e z
   ·exact absurd (kh (dj e) (dy I.ok.GK z)) (ku _)
  uQ:=λb hb z=>(lL.mp (Ir b z)).elim (hf b hb).2.1 (hf b hb).2.2.1
  h_:=I.stack
  Ig:=I.ik }
 refine⟨ok,rfl,I.bare,Un.kept kp,⟨_,ns,λi x v h1 h2 h3=>?_⟩,λx c e=>?_,hC,λx c e=>I.eJ x c (hcl x c e),λp hp=>?_,I.aN.kept kp,?_⟩
 ·have hk:k<=i:=by
   refine Nat.le_of_not_lt λz=>?_;unfold eG at h2;rw[Pk (by simpa using z),List.getElem?_replicate,if_pos z]at h2;cases h2
  obtain⟨e1,j,e2,e3⟩:=B.slots i x hk h1;have e4:σ[j]?=some (some v):=by
   unfold eG at h2;rw[Mj (by simpa using hk),List.length_replicate,List.getElem?_map,e2]at h2;have h2:some (σ[j]?).join=some (some v):=h2;injection h2 with h2;cases e:σ[j]? with
   |none=>rw[e]at h2;cases h2
   |some o=>rw[e]at h2;rw[show o=some v from h2]
  have kf:=B.free (x,.free) (PySem.mem_of_lookup e1) rfl;obtain⟨m,hn,hl⟩:=I.loc;obtain⟨u,ru,lk⟩:=hl j x v e3 e4 (.inr kf);refine⟨u,ru,.inr ⟨?_,?_⟩⟩
  ·have h3:(relabel scope X.env).names.lookup x=some .local\/(relabel scope X.env).names.lookup x=some .cell\/(relabel scope X.env).names.lookup x=some .free:=h3;rcases h3 with z|z
   ·obtain⟨k',q1,q2⟩:=c5 z;rw[e1]at q1;injection q1 with q1;subst q1;rcases q2 with q2|⟨_,q2⟩<;>cases q2
   ·exact z
  ·obtain⟨c,hc⟩:=kB (env:=X.env) scope.names [] x (PySem.mem_of_lookup e1);refine⟨c,hc,?_⟩;rcases lk with ⟨z,_⟩|⟨_,c',ec,ic⟩
   ·rcases kf with y|y<;>(rw[z]at y;cases y)
   ·rw[hcl x c hc]at ec;injection ec with ec;subst ec;exact ic.keeps kp
 ·obtain⟨v,q⟩:=I.cell x c (hcl x c e);exact⟨v,q.keeps kp⟩
 ·obtain⟨p1,p2,p3,p4,p5⟩:=I.pin p ((eC.mp hp).elim (λz=>vB _ z) λz=>absurd z (by simp));refine⟨kp _ _ p1,p2,λz=>?_,λz=>(lL.mp (Ir _ z)).elim p3 p4,p5⟩;have hlt:=dj p1;rw[z]at hlt;exact ku _ hlt
 ·show(eG k fm σ).length=N'.length;unfold eG;rw[cL,List.length_replicate,aQ,B.len]
theorem uK{X:Cx}{elt iter tg:Expr}{ifs:List Expr}{scope:Scope}{pos:Pos}{g:TG}{tt:TT}{te:TE}{J:It}{fp:List Addr}{it D:Addr}{tn:Nat->Heap->Prop}{σ0:St}{H3:Hp}{s4:Shared}{Q:VK}{R:Result->Shared->Prop}{W:Nat->Nat->List V->Hp->Prop}{m0:Nat}
  (hx:X.xe=λ_ _=>False) (hc:X.calm=true) (T:Turn X.prog X.w X.K tg J fp it tn) (stat:∀{H':Hp},(∀b∈fp,H' b=none)->∀b∈fp,g9 X [] H' b) (hg:PG X tg g) (ht:OI X ifs tt) (he:PE X elt te)
  (turn:∀i m ys H2,W i m ys H2->H2 D=some (.lst ys)/\ys.length<sizeLine/\((J.stop i H2/\Q (.ref D) H2)\/(J.go i H2/\∃N:List V->Hp->Prop,(∀ys' H',N ys' H'->∃m',m'<m/\W (i+1) m' ys' H')/\∀x H3,J.z9 i H2 x H3->
   g x σ0 H3 λσ3 H4=>Ext σ0 σ3/\tt σ3 H4 λb H5=>if b=true then te σ3 H5 λy H6=>H6 D=some (.lst ys)/\N (ys++[y]) (upd H6 D (.lst (ys++[y]))) else N ys H5)))
  (I4:Inv X [] σ0 H3 s4) (st4:tn 0 s4.heap) (fr4:∀b∈fp,H3 b=none) (w4:W 0 m0 [] H3)
  (hR:∀H' s',Inv X [] σ0 H' s'->Q (.ref D) H'->R (.ok .next) s'):
  codeAny (model X.prog X.w) X.A (.compLoop (.ListComp elt [⟨tg,iter,ifs,0⟩] scope pos) 0 (.ref it) (.ref D) X.env) R s4:=by
 refine qp (λn s'=>∃i ys H',Inv X [] σ0 H' s'/\tn i s'.heap/\(∀b∈fp,H' b=none)/\W i n ys H') ?_ m0 ⟨0,[],H3,I4,st4,fr4,w4⟩;rintro n s5 ⟨i,ys,H5,I5,st5,fr5,w5⟩;obtain⟨hD,hl,cs⟩:=turn i n ys H5 w5;rcases cs with ⟨stop,q⟩|⟨go,N,hN,step⟩
 ·refine bx (T.done X rfl rfl rfl hc i [] s5 σ0 H5 _ I5 (stat fr5) st5 stop) λr s6 ⟨hr,I6⟩=>?_;subst hr;exact hR H5 s6 I6 q
 ·refine bx (T.item X rfl rfl rfl hc i [] s5 σ0 H5 _ I5 (stat fr5) st5 go) λr s6 ⟨u,hr,h6⟩=>?_;subst hr;refine bx h6 λ_ s7 ⟨x,H7,I7,r7,y7,st7,fr7⟩=>?_;have I7':=I7.pinned (stat fr7) (T.obj _ _ st7);have again:∀{σ':St}{H':Hp}{s':Shared},Ext σ0 σ'->Inv X ([]++iB fp s7.heap) σ' H' s'->Inv X [] σ0 H' s'/\tn (i+1) s'.heap/\∀b∈fp,H' b=none:=λ{σ' H' s'} ex I'=>by
   refine⟨I'.d6.weak ex.len ex.get,T.keep _ _ _ st7 λb hb o e=>(I'.pin (b,o) (jE _ (jE _ (dg hb e)))).1,λb hb=>?_⟩;obtain⟨o,e,d⟩:=T.obj _ _ st7 b hb;exact(I'.pin (b,o) (jE _ (jE _ (dg hb e)))).2.1
  have w8:=hg _ s7 σ0 H7 x u _ I7' r7 (step x H7 y7);rw[hx]at w8;refine bx w8 λ_ s8 ⟨σ8,H8,I8,ex8,q8⟩=>?_;have w9:=ht _ s8 σ8 H8 _ I8 q8;rw[hx]at w9;refine bx w9 λok s9 ⟨H9,I9,q9⟩=>?_;cases ok with
  |false=>
   obtain⟨m',hm,w'⟩:=hN _ _ q9;obtain⟨a1,a2,a3⟩:=again ex8 I9;exact⟨m',hm,i+1,ys,H9,a1,a2,a3,w'⟩
  |true=>
   have w10:=he _ s9 σ8 H9 _ I9 q9;rw[hx]at w10;refine bx w10 λy s10 ⟨yv,H10,I10,r10,hD10,n10⟩=>?_;obtain⟨m',hm,w'⟩:=hN _ _ n10;have w11:=mG (X:=X) _ s10 σ8 H10 (.ref D) [yv] (.ref D) [y] (λv H'=>v=.aF/\H'=upd H10 D (.lst (ys++[yv]))) I10 rfl (.cons r10 .nil) ⟨D,ys,yv,rfl,rfl,hD10,hl,rfl,rfl⟩;rw[hx]at w11;refine bx w11 λ_ s11 ⟨_,H11,I11,_,_,e11⟩=>?_;subst e11;obtain⟨a1,a2,a3⟩:=again ex8 I11;exact⟨m',hm,i+1,_,_,a1,a2,a3,w'⟩
theorem qh{elt iter tg:Expr}{ifs:List Expr}{scope:Scope}{pos:Pos}{N':List Str}{k:Nat}{fm:List Nat}{wi:TI}{g:TG}{tt:TT}{te:TE}(B:gm X N' k fm scope)(hc:X.calm=true)(hi:PI X tg iter wi)
  (hb:∀fp s H,PG (zM X N' scope fp s H) tg g/\OI (zM X N' scope fp s H) ifs tt/\PE (zM X N' scope fp s H) elt te)
  (hs:∀x,foldedSetIterable iter X.env x=pure x:=by intro _;rfl):PE X (.ListComp elt [⟨tg,iter,ifs,0⟩] scope pos) (mK k fm wi g tt te):=by
 intro pins s σ H Q I h;have hfree:∀x∈scope.names,x.2=.free->∃c,X.env.cells.lookup x.1=some c:=λx hx hk=>I.ok.has x.1 (B.free x hx hk);rw[eval_ListComp];refine wpAny_comprehension_free (use:=none) rfl hs (gK hfree) B.kind B.names (bx (hi pins s σ H _ I h) λv s1 h1=>bx h1 λitv s2 h2=>?_);obtain⟨it,fp,tn,J,H2,e,I2,T,st2,f2,h2⟩:=h2;subst e;obtain⟨W,⟨m0,w0⟩,turn⟩:=h2 s2.heap.objs.size I2.fresh;refine Lc (wpAny_newFunctionEnv B.v9 (by intro y hy;simp at hy) (λh4 hns4 hsb4=>?_) B.kind);have I3:=I2.HP (its:=[]) (ys:=[]) (t':=s2.toks) .nil (gB _);have hf3:∀b∈fp,g9 X pins (upd H2 s2.heap.objs.size (.lst [])) b:=λb hb=>by
  obtain⟨o,e,_⟩:=T.obj _ _ st2 b hb;refine⟨?_,(f2 b hb).2⟩;rw[ae (λz=>ku _ (z▸dj e))];exact(f2 b hb).1
 have ho3:∀b∈fp,∃o,(s2.heap.push { cls:=.type "list", data:=.seq ([]:List Value).toArray }).get? b=some o:=λb hb=>by
  obtain⟨o,e,_⟩:=T.obj _ _ st2 b hb;exact⟨o,fU _ e⟩
 have kp4:∀b o,(s2.heap.push { cls:=.type "list", data:=.seq ([]:List Value).toArray }).get? b=some o->h4.get? b=some o:=λb o e=>
  hsb4.extBut b o (λz=>ku _ (z▸dj e)) (fU _ e)
 have I4:=I3.block (fp:=fp) (h':=h4) (tk:=s2.toks+([]:List (Str×Value)).length) B hf3 ho3 hns4 kp4;generalize hs3:({ s2 with heap:=s2.heap.push { cls:=.type "list", data:=.seq ([]:List Value).toArray },toks:=s2.toks }:Shared)=s3 at *;obtain⟨hg,ht,he⟩:=hb fp s3 (upd H2 s2.heap.objs.size (.lst []));have st4:tn 0 h4:=T.keep _ _ _ st2 λb hb o e=>kp4 b o (fU _ e);have stat:∀{H':Hp},(∀b∈fp,H' b=none)->∀b∈fp,g9 (zM X N' scope fp s3 (upd H2 s2.heap.objs.size (.lst []))) [] H' b:=λ{H'} hn b hb=>by
  obtain⟨f0,f1,f3,f4,f5,f6⟩:=hf3 b hb;obtain⟨g1,g2⟩:=I4.ok.Mf b hb;exact⟨hn b hb,g1,I4.ok.uQ b hb,.inl hb,g2,λp hp=>f6 p ((eC.mp hp).elim (λz=>vB _ z) λz=>absurd z (by simp))⟩
 have loop:codeAny (model X.prog X.w) X.A (.compLoop (.ListComp elt [⟨tg,iter,ifs,0⟩] scope pos) 0 (.ref it) (.ref s2.heap.objs.size) (compEnvC scope (jk X.env scope.names []) s3.heap.objs.size X.env))
   (compPost (model X.prog X.w) X.A X.xe none (EP X pins σ Q) (.ref s2.heap.objs.size) s3.heap.objs.size) { s3 with heap:=h4,toks:=s2.toks+([]:List (Str×Value)).length }:=by
  refine uK (X:=zM X N' scope fp s3 (upd H2 s2.heap.objs.size (.lst []))) (D:=s2.heap.objs.size) (Q:=Q) (W:=W) (m0:=m0) rfl hc T stat hg ht he turn I4 st4 (λb hb=>(hf3 b hb).1) w0 ?_;intro H' s' I' q;obtain⟨m,hn,_⟩:=I'.loc;refine⟨m,hn,λh'' hs''=>?_⟩;have hC:s3.heap.get? s3.heap.objs.size=none:=by
   cases e:s3.heap.get? s3.heap.objs.size with
   |none=>rfl
   |some o=>exact absurd (dj e) (ku _)
  have u:Un (hZ X.stack) fp (upd H2 s2.heap.objs.size (.lst [])) H' s3.heap h'':=Un.tail I'.base (λb o hb e=>hs''.extBut b o hb e) hC;refine⟨.ref s2.heap.objs.size,H',?_,rfl,q⟩;refine I3.xr (s':={ s' with heap:=h'' }) (ch:=fp) I'.os u (I'.aN.tail (λb o hb e=>hs''.extBut b o hb e) I'.free) I'.bare λb hb=>?_;obtain⟨f0,f1,f3,f4,f5,f6⟩:=hf3 b hb;exact⟨f4,f1,f5,f6⟩
 subst hs3;exact codeAny_compStart_list loop (T.self X.A 0 _ _ _ st4 loop)
end
noncomputable def JM(z:Str):It:=⟨λi _=>i<z.cps.size,λi H x H'=>H'=H/\∃c,z.cps[i]?=some c/\x=.str ⟨#[c]⟩,λi _=>z.cps.size<=i⟩
theorem GZ{P:Program}{w:World}{K:Wf}{tg:Expr}(it:Addr)(z:Str)(t:Tok)(n:String)(hn:n = "str_ascii_iterator" \/ n = "str_iterator"):
  Turn P w K tg (JM z) [it] it (λi h=>h.IsStrIter it n z t i) where
 mem:=by simp
 obj:=λi h st b hb=>by
  have e:b=it:=by simpa using hb
  subst e;obtain⟨o,ho,_,hd⟩:=st;exact⟨o,ho,λv z=>by rw[hd]at z;cases z⟩
 keep:=λi h h' st k=>let ⟨o,ho,r⟩:=st;⟨o,k it (by simp) o ho,r⟩
 item:=by
  intro X hP hw hK hc i pins s σ H E I hf st hg;subst hP hw hK;obtain⟨f0,f1,f2,f3,f4,f5⟩:=hf it (by simp);have main:∀(W:Walks X.prog X.w X.A it [it] [it] z.cps.size (SignAt z) (λi h=>h.IsStrIter it n z t i)),
   wpAny (model X.prog X.w) X.A (pyNext (.ref it)) (λr s1=>∃u,r=some u/\
    wpAny (model X.prog X.w) X.A (letOwnedTupleGo tg (.ref it) u) (λ_ s2=>∃x H',Inv X pins σ H' s2/\RelV x u/\(JM z).z9 i H x H'/\s2.heap.IsStrIter it n z t (i+1)/\∀b∈[it],H' b=none) E s1) E s:=by
   intro W;refine W.item i s _ _ hg st λv h' tk hv st' kk=>?_;obtain⟨c,u,hcx,rfl⟩:=hv;have I1:Inv X pins σ H { s with heap:=h',toks:=tk }:=I.turned (λb o hb e=>kk b o (by simpa using hb) e) f0 f1 f3 f4 f5;obtain⟨o,ho,hcl,hd⟩:=id st';refine⟨_,rfl,Cp (s:={ s with heap:=h',toks:=tk }) (n:=n) ho hcl hd (by rcases hn with e|e<;>subst e<;>decide) ⟨.str ⟨#[c]⟩,H,I1,⟨u,rfl⟩,⟨rfl,c,hcx,rfl⟩,st',λb hb=>(hf b hb).1⟩⟩
  rcases hn with e|e
  ·subst e;exact main (Walks.strAscii (I.ok.hd hc) it z t)
  ·subst e;exact main (Walks.strWide (I.ok.hd hc) it z t)
 done:=by
  intro X hP hw hK hc i pins s σ H E I hf st hg;subst hP hw hK;obtain⟨f0,f1,f2,f3,f4,f5⟩:=hf it (by simp);have hi:z.cps[i]?=none:=Array.getElem?_eq_none hg;rcases hn with e|e
  ·subst e;exact wpAny_pyNext_ascii_end (I.ok.hd hc) st hi λh' he'=>⟨rfl,I.turned (t':=s.toks) (λb o hb e=>he' b o hb e) f0 f1 f3 f4 f5⟩
  ·subst e;exact wpAny_pyNext_wide_end (I.ok.hd hc) st hi λh' he'=>⟨rfl,I.turned (t':=s.toks) (λb o hb e=>he' b o hb e) f0 f1 f3 f4 f5⟩
 self:=λ_ _ _ _ _ st h=>by
  rcases hn with e|e
  ·subst e;exact wpAny_pyIter_striter_ascii st h
  ·subst e;exact wpAny_pyIter_striter_wide st h
section
variable{X:Cx}{tg:Expr}
def LG(tl:TE):TI:=λσ H R=>tl σ H λx H1=>∃z,x=.str z/\R (JM z) H1
theorem CN{l:Expr}{tl:TE}(hl:PE X l tl):PI X tg l (LG tl):=by
 intro pins s σ H R I h;refine bx (hl pins s σ H _ I h) λv s1 ⟨x,H1,I1,r,z,ez,q⟩=>?_;subst ez;obtain⟨t,rfl⟩:=r;have fin:∀(n:String) (hn:n = "str_ascii_iterator" \/ n = "str_iterator"),RE X pins σ tg R (.ref s1.heap.objs.size) { s1 with heap:=s1.heap.push { cls:=.type n,data:=.fields #[.str z t,.int 0 0] } }:=λn hn=>
  ⟨s1.heap.objs.size,[s1.heap.objs.size],_,_,H1,rfl,I1.kept (t':=s1.toks) λb o e=>fU _ e,GZ _ z t n hn,⟨_,yO _ rfl,rfl,rfl⟩,λb hb=>by
   have e:b=s1.heap.objs.size:=by simpa using hb
   subst e;exact I1.Fj (dn _) (I1.aN.fresh (dn _)),q⟩
 cases ha:z.cps.all (·<128)
 ·exact wpAny_pyIter_wide ha (fin _ (.inr rfl))
 ·exact wpAny_pyIter_ascii ha (fin _ (.inl rfl))
end
section
variable{X:Cx}
noncomputable def Kd:V->Option Int->Option Int->Hp->VK->Prop:=λx lo hi H Q=>∃z,x=.str z/\z.length<=sizeLine/\Q (.str (Txt.slice z lo hi)) H
theorem iA:Cv X Kd:=by
 intro pins s σ H x v vl vu lo hi sl Q I rx hs pl pu h;obtain⟨z,rfl,hz,q⟩:=h;obtain⟨t,rfl⟩:=rx;refine⟨"str", _,F.slot_str_getitem.lookup,typeIs_str _ _ _,?_⟩;have fin:∀t' k,EP X pins σ Q (.str (Txt.slice z lo hi) t') { s with toks:=k }:=λt' k=>⟨.str (Txt.slice z lo hi),H,I.tok k,⟨t',rfl⟩,q⟩;obtain⟨o,ho,hc,hd⟩:=hs;cases pl with
 |none=>
  cases pu with
  |none=>exact Pw (l:=none) (u:=none) (st:=none) ⟨o,ho,hc,hd⟩ rfl (post_val_or_str ⟨dy (Txt.slice_le z _ _) hz,λt' k=>fin t' k⟩)
  |int j uj=>exact Pw (l:=none) (u:=some (j,uj)) (st:=none) ⟨o,ho,hc,hd⟩ rfl (post_val_or_str ⟨dy (Txt.slice_le z _ _) hz,λt' k=>fin t' k⟩)
 |int i ui=>
  cases pu with
  |none=>exact Pw (l:=some (i,ui)) (u:=none) (st:=none) ⟨o,ho,hc,hd⟩ rfl (post_val_or_str ⟨dy (Txt.slice_le z _ _) hz,λt' k=>fin t' k⟩)
  |int j uj=>exact Pw (l:=some (i,ui)) (u:=some (j,uj)) (st:=none) ⟨o,ho,hc,hd⟩ rfl (post_val_or_str ⟨dy (Txt.slice_le z _ _) hz,λt' k=>fin t' k⟩)
noncomputable def Nj(K:Wf):List V->Hp->VK->Prop:=λxs H Q=>∃(a:Addr) (bs:List Bool),xs=[.ref a]/\aC K H a (bs.map V.bl)/\Q (.bl (bs.all id)) H
theorem Vals.KL{bs:List Bool}{us:List Value}(r:Vals (bs.map V.bl) us){i:Nat}{v:Value}(h:us[i]?=some v):∃b,bs[i]?=some b/\v=.bool b:=by
 have hi:i<us.length:=(we.mp h).1;have hl:=r.length;rw[aQ]at hl;have hb:bs[i]?=some bs[i]:=A5 (by omega);obtain⟨u,hu,ru⟩:=r.get (i:=i) (x:=.bl bs[i]) (by rw[z5,hb];rfl);rw[h]at hu;cases hu;exact⟨_,hb,ru⟩
theorem Bl(hc:X.calm=true):dG X (.builtin "all") (Nj X.K):=by
 intro pins s σ H xs us Q I r h;obtain⟨a,bs,rfl,hs,q⟩:=h;obtain⟨u,rfl,ru⟩:=vals1 r;cases ru;obtain⟨its,rv,p,hz⟩:=I.list hs;have hne:a≠s.heap.objs.size:=λz=>by
  obtain⟨o,n,e,_⟩:=p;exact ku _ (z▸dj e)
 have hh:(X.A.in1).handled=none:=I.ok.hd hc;refine call_all_walk (wpAny_pyIter_list p.isList ?_);refine⟨s.heap.objs.size,_,_,_,_,_,λi=>(bs[i]?).getD true,rfl,Walks.list hh s.heap.objs.size a hne its.toArray,⟨⟨_,yO _ rfl,rfl,rfl⟩,?_⟩,?_,?_⟩
 ·obtain⟨o,n,e,e1,e2,e3⟩:=p;exact⟨o,fU _ e,e1,n,e3⟩
 ·intro i v s' Q' E' hP hQ;obtain⟨b,hb,rfl⟩:=rv.KL (i:=i) (v:=v) (by simpa using hP);have hQ:Q' ((bs[i]?).getD true) s':=hQ;rw[hb]at hQ;exact I_ hQ
 ·intro h' tk kk;have e1:(List.range its.toArray.size).all (λi=>(bs[i]?).getD true)=bs.all id:=by
   have hl:=rv.length;rw[aQ]at hl;rw[vc,<-hl,Bool.eq_iff_iff,A6,A6];constructor
   ·intro hall b hb;obtain⟨i,hi,e⟩:=List.getElem_of_mem hb;have:=hall i (by simpa using hi);rw[A5 hi]at this;rw[<-e];exact this
   ·intro hall i hi;have hi':i<bs.length:=by simpa using hi
    show(bs[i]?).getD true=true;rw[A5 hi'];exact hall _ (List.getElem_mem hi')
  rw[e1];refine⟨.bl (bs.all id),H,?_,rfl,q⟩;exact I.kept λb o e=>kk b o (by simpa using λz=>Nat.lt_irrefl _ (z▸Heap.lt_size e)) (Heap.get?_push_of_some _ e)
noncomputable def NM(K:Wf):List V->Hp->VK->Prop:=λxs H Q=>∃x n t b,xs=[x,.ty n]/\h9 K H x t/\kitOne K t (.type n)=some b/\Q (.bl b) H
theorem GP:dG X (.builtin "isinstance") (NM X.K):=by
 intro pins s σ H xs us Q I r h;obtain⟨x,n,t,b,rfl,ty,e,q⟩:=h;obtain⟨u,u2,rfl,ru,ru2⟩:=vals2 r;cases ru2;exact ma I ru ty e λtk=>⟨.bl b,H,I.tok tk,rfl,q⟩
def xW(K:Wf):R2:=λx y H Q=>∃l b xs zs,x=.ref l/\y=.ref b/\aC K H l xs/\aC K H b zs/\xs.length+zs.length<=sizeLine/\∀p,H p=none->Q (.ref p) (upd H p (.lst (xs++zs)))
theorem xg:fQ X (binaryOp .Add) (xW X.K):=by
 intro pins s σ H x y v u Q I rx ry h;obtain⟨l,b,xs,zs,rfl,rfl,hH,hB,hz,q⟩:=h;cases rx;cases ry;obtain⟨vs,r,p,z⟩:=I.list hH;obtain⟨ws,r2,p2,z2⟩:=I.list hB;have l1:=r.length;have l2:=r2.length;obtain⟨⟨cls,dd,data,sl⟩,n,ho,hc,hdd,hd⟩:=p;obtain⟨⟨cls2,dd2,data2,sl2⟩,n2,ho2,hc2,hdd2,hd2⟩:=p2;simp only at hc hd hc2 hd2;subst hc hd hc2 hd2;have e:vs.toArray++ws.toArray=(vs++ws).toArray:=by simp
 refine concat_meets ⟨_,ho,rfl⟩ ⟨_,ho2,rfl⟩ noFill_list_add seq_list_add PySem.F.slot_list_add PySem.F.entry_list_add (PySem.F.args_list_add_2 _ _) (list_addW l b vs.toArray ws.toArray n n2 dd dd2 sl sl2 (by simp;omega)) ⟨ho,ho2,?_⟩;rw[e];exact⟨.ref _,_,I.HP (t':=s.toks) (r.append r2) (by rw[cL];omega),rfl,q _ I.fresh⟩
end
set_option genInjectivity true in
inductive Slots (X:Cx) (scope:Scope):List Str->List Nat->Prop
 |nil:Slots X scope [] []
 |cons {x:Str}{j:Nat}{xs:List Str}{js:List Nat}(h1:scope.names.lookup x=some .free) (h2:X.env.kindOf x=some .cell\/X.env.kindOf x=some .free) (h3:X.N[j]?=some x) (r:Slots X scope xs js):Slots X scope (x::xs) (j::js)
theorem Slots.len{X:Cx}{scope:Scope}:∀{xs:List Str}{js:List Nat},Slots X scope xs js->xs.length=js.length
 |_,_,.nil=>rfl
 |_,_,.cons _ _ _ r=>by simp[r.len]
theorem Slots.kind{X:Cx}{scope:Scope}:∀{xs:List Str}{js:List Nat},Slots X scope xs js->∀x∈xs,X.env.kindOf x=some .cell\/X.env.kindOf x=some .free
 |_,_,.nil,x,h=>absurd h (by simp)
 |_,_,.cons _ h2 _ r,x,h=>by
  rcases lL.mp h with e|e
  ·subst e;exact h2
  ·exact r.kind x e
theorem Slots.get{X:Cx}{scope:Scope}:∀{xs:List Str}{js:List Nat},Slots X scope xs js->∀(i:Nat) (x:Str),xs[i]?=some x->scope.names.lookup x=some .free/\∃j,js[i]?=some j/\X.N[j]?=some x
 |_,_,.nil,i,x,h=>by simp at h
 |_,_,.cons h1 _ h3 r,0,x,h=>by
  simp only[List.getElem?_cons_zero,Option.some.injEq]at h;subst h;exact⟨h1,_,by simp,h3⟩
 |_,_,.cons _ _ _ r,i+1,x,h=>by simpa using r.get i x (by simpa using h)
theorem Kq{X:Cx}{own fr:List Str}{fm:List Nat}{scope:Scope}(kind:scope.kind=.function)(h1:∀y∈scope.names,y.2≠.cell)(h2:∀y∈scope.names,y.2=.local->scope.names.lookup y.1=some .local)
  (h3:∀y∈scope.names,y.2=.free->y.1∈fr) (S:Slots X scope fr fm):gm X (own++fr) own.length fm scope:=
 ⟨kind,h1,h2,λy hy hk=>S.kind y.1 (h3 y hy hk),by rw[cL,S.len],λi x hi h=>by
  rw[Mj hi]at h;exact S.get _ x h⟩
section
variable{X:Cx}
theorem HK:fQ X (binaryOp .Add) (λx y H Q=>Hc (λi j=>.int (i+j)) x y H Q\/(∃i j,x=.str i/\y=.str j/\i.length+j.length<=sizeLine/\Q (.str (i++j)) H)\/xW X.K x y H Q\/Dk X.K x y H Q):=
 bC.or (bW.or (xg.or Ic))
theorem Lk:Cv X (λx lo hi H Q=>HM X.K x lo hi H Q\/LV X.K x lo hi H Q\/Kd x lo hi H Q):=yn.or (KR.or iA)
end
theorem F6{z:Str}{g:TG}{tt:TT}{te:TE}{σ0:St}{H:Hp}{D:Addr}{Q:VK}(hz:z.cps.size<sizeLine)(Pv:Nat->List V->Hp->Prop)(h0:Pv 0 [] (upd H D (.lst [])))
  (hl:∀i ys H,i<=z.cps.size->Pv i ys H->H D=some (.lst ys)/\ys.length<=i)
  (hs:∀i c ys H,z.cps[i]?=some c->Pv i ys H->g (.str ⟨#[c]⟩) σ0 H λσ3 H4=>Ext σ0 σ3/\tt σ3 H4 λb H5=>if b=true then te σ3 H5 λy H6=>H6 D=some (.lst ys)/\Pv (i+1) (ys++[y]) (upd H6 D (.lst (ys++[y]))) else Pv (i+1) ys H5)
  (hd:∀ys H,Pv z.cps.size ys H->Q (.ref D) H):
  ∃W:Nat->Nat->List V->Hp->Prop,(∃m,W 0 m [] (upd H D (.lst [])))/\∀i m ys H2,W i m ys H2->H2 D=some (.lst ys)/\ys.length<sizeLine/\(((JM z).stop i H2/\Q (.ref D) H2)\/((JM z).go i H2/\∃N:List V->Hp->Prop,(∀ys' H',N ys' H'->∃m',m'<m/\W (i+1) m' ys' H')/\∀x H3,(JM z).z9 i H2 x H3->
   g x σ0 H3 λσ3 H4=>Ext σ0 σ3/\tt σ3 H4 λb H5=>if b=true then te σ3 H5 λy H6=>H6 D=some (.lst ys)/\N (ys++[y]) (upd H6 D (.lst (ys++[y]))) else N ys H5)):=by
 refine⟨λi m ys H=>m=z.cps.size - i/\i<=z.cps.size/\Pv i ys H,⟨z.cps.size,by simp,Nat.zero_le _,h0⟩,?_⟩;rintro i m ys H2 ⟨rfl,hi,p⟩;obtain⟨l1,l2⟩:=hl i ys H2 hi p;refine⟨l1,by omega,?_⟩;by_cases hlt:i<z.cps.size
 ·refine .inr ⟨hlt,Pv (i+1),λys' H' p'=>⟨_,(by omega:z.cps.size - (i+1)<z.cps.size - i),rfl,hlt,p'⟩,λx H3 y=>?_⟩;obtain⟨e,c,hc,ex⟩:=y;subst e ex;exact hs i c ys _ hc p
 ·have e:i=z.cps.size:=by omega
  subst e;exact .inl ⟨dn _,hd ys H2 p⟩
theorem Ao{K:Wf}{a:Addr}{xs:List V}{g:TG}{tt:TT}{te:TE}{σ0:St}{H:Hp}{D:Addr}{Q:VK}(hz:xs.length<sizeLine)(Pv:Nat->List V->Hp->Prop)(h0:Pv 0 [] (upd H D (.lst [])))
  (hl:∀i ys H,i<=xs.length->Pv i ys H->aC K H a xs/\H D=some (.lst ys)/\ys.length<=i)
  (hs:∀i x ys H,xs[i]?=some x->Pv i ys H->g x σ0 H λσ3 H4=>Ext σ0 σ3/\tt σ3 H4 λb H5=>if b=true then te σ3 H5 λy H6=>H6 D=some (.lst ys)/\Pv (i+1) (ys++[y]) (upd H6 D (.lst (ys++[y]))) else Pv (i+1) ys H5)
  (hd:∀ys H,Pv xs.length ys H->Q (.ref D) H):
  ∃W:Nat->Nat->List V->Hp->Prop,(∃m,W 0 m [] (upd H D (.lst [])))/\∀i m ys H2,W i m ys H2->H2 D=some (.lst ys)/\ys.length<sizeLine/\(((D9 K a).stop i H2/\Q (.ref D) H2)\/((D9 K a).go i H2/\∃N:List V->Hp->Prop,(∀ys' H',N ys' H'->∃m',m'<m/\W (i+1) m' ys' H')/\∀x H3,(D9 K a).z9 i H2 x H3->
   g x σ0 H3 λσ3 H4=>Ext σ0 σ3/\tt σ3 H4 λb H5=>if b=true then te σ3 H5 λy H6=>H6 D=some (.lst ys)/\N (ys++[y]) (upd H6 D (.lst (ys++[y]))) else N ys H5)):=by
 refine⟨λi m ys H=>m=xs.length - i/\i<=xs.length/\Pv i ys H,⟨xs.length,by simp,Nat.zero_le _,h0⟩,?_⟩;rintro i m ys H2 ⟨rfl,hi,p⟩;obtain⟨l0,l1,l2⟩:=hl i ys H2 hi p;refine⟨l1,by omega,?_⟩;by_cases hlt:i<xs.length
 ·refine .inr ⟨⟨xs,xs[i],l0,by simp[hlt]⟩,Pv (i+1),λys' H' p'=>⟨_,(by omega:xs.length - (i+1)<xs.length - i),rfl,hlt,p'⟩,λx H3 y=>?_⟩;obtain⟨e,y⟩:=y;subst e;exact hs i x ys _ (y xs l0) p
 ·have e:i=xs.length:=by omega
  subst e;exact .inl ⟨⟨xs,l0,dn _⟩,hd ys H2 p⟩
def wD(g:TG)(tb:TS)(D:Ends)(σ:St)(J:It)(H1:Hp):Prop:=∃W:Nat->Nat->St->Hp->Prop,(∃m,W 0 m σ H1)/\∀i m σ H,W i m σ H->
 (J.stop i H/\D.nx σ H)\/(J.go i H/\∃N:St->Hp->Prop,(∀σ' H',N σ' H'->∃m',m'<m/\W (i+1) m' σ' H')/\∀x H',J.z9 i H x H'->g x σ H' λσ2 H2=>tb { D with nx:=N,ct:=N,bk:=D.nx } σ2 H2)
def zZ(K:Wf)(g:TG)(tb:TS)(D:Ends)(σ:St):VK:=λx H1=>∃a,x=.ref a/\(∃xs,aC K H1 a xs)/\wD g tb D σ (D9 K a) H1
def Qr(K:Wf)(g:TG)(tb:TS)(D:Ends)(σ:St):VK:=λx H1=>∃a,x=.ref a/\(∃xs,dH K H1 a xs)/\wD g tb D σ (Sl K a) H1
def QK(g:TG)(tb:TS)(D:Ends)(σ:St):VK:=λx H1=>∃z,x=.str z/\wD g tb D σ (JM z) H1
noncomputable def DV(g:TG)(tb:TS)(D:Ends)(σ:St):List V->Hp->Prop:=λvs H1=>∃j:Int,vs=[.int j] /\ -(2 ^ 62)<=j/\j<2 ^ 62/\wD g tb D σ (G8 0 j.toNat) H1
noncomputable def Mz(g:TG)(tb:TS)(D:Ends)(σ:St):List V->Hp->Prop:=λvs H1=>∃i j:Int,vs=[.int i,.int j]/\(-(2 ^ 62)<=i/\i<2 ^ 62 /\ -(2 ^ 62)<=j/\j<2 ^ 62)/\wD g tb D σ (G8 i (j - i).toNat) H1
section
variable{K:Wf}{te:TE}{ta:TA}{g:TG}{tb:TS}{D:Ends}{σ:St}{H:Hp}
theorem Mi:lP (vg K te) g tb D σ H=te σ H (zZ K g tb D σ):=rfl
theorem OJ:lP (Na K te) g tb D σ H=te σ H (Qr K g tb D σ):=rfl
theorem Oo:lP (LG te) g tb D σ H=te σ H (QK g tb D σ):=rfl
theorem Ms:lP (D8 ta) g tb D σ H=ta σ H (DV g tb D σ):=rfl
theorem Mq:lP (MJ ta) g tb D σ H=ta σ H (Mz g tb D σ):=rfl
theorem zZ.of{a:Addr}{xs:List V}(Pv:Nat->St->Hp->Prop)(h0:Pv 0 σ H)(hl:∀i σ H,i<=xs.length->Pv i σ H->aC K H a xs)
  (hs:∀i x σ H,xs[i]?=some x->Pv i σ H->g x σ H λσ2 H2=>tb { D with nx:=Pv (i+1),ct:=Pv (i+1),bk:=D.nx } σ2 H2) (hd:∀σ H,Pv xs.length σ H->D.nx σ H):zZ K g tb D σ (.ref a) H:=
 ⟨a,rfl,⟨xs,hl 0 _ _ (gB _) h0⟩,BP Pv h0 hl hs hd⟩
theorem DV.of{n:Int}(h1:n<2 ^ 62)(h2 : -(2 ^ 62)<=n)(Pv:Nat->St->Hp->Prop)(h0:Pv 0 σ H)
  (hs:∀i σ H,i<n.toNat->Pv i σ H->g (.int (i:Int)) σ H λσ2 H2=>tb { D with nx:=Pv (i+1),ct:=Pv (i+1),bk:=D.nx } σ2 H2) (hd:∀σ H,Pv n.toNat σ H->D.nx σ H):DV g tb D σ [.int n] H:=
 ⟨n,rfl,h2,h1,Ak (n:=n.toNat) Pv h0 (λi σ H hi p=>by
  have e:(0:Int)+(i:Int)=i:=by omega
  rw[e];exact hs i σ H hi p) hd⟩
end
def zF(g:TG)(tt:TT)(te:TE)(σ0:St)(Q:VK)(J:It)(H1:Hp):Prop:=∀DD,H1 DD=none->∃W:Nat->Nat->List V->Hp->Prop,
 (∃m,W 0 m [] (upd H1 DD (.lst [])))/\∀i m ys H2,W i m ys H2->H2 DD=some (.lst ys)/\ys.length<sizeLine/\((J.stop i H2/\Q (.ref DD) H2)\/(J.go i H2/\∃N:List V->Hp->Prop,(∀ys' H',N ys' H'->∃m',m'<m/\W (i+1) m' ys' H')/\∀x H3,J.z9 i H2 x H3->
  g x σ0 H3 λσ3 H4=>Ext σ0 σ3/\tt σ3 H4 λb H5=>if b=true then te σ3 H5 λy H6=>H6 DD=some (.lst ys)/\N (ys++[y]) (upd H6 DD (.lst (ys++[y]))) else N ys H5))
def uo(K:Wf)(g:TG)(tt:TT)(te:TE)(σ0:St)(Q:VK):VK:=λx H1=>∃a,x=.ref a/\(∃xs,aC K H1 a xs)/\zF g tt te σ0 Q (D9 K a) H1
def OD(K:Wf)(g:TG)(tt:TT)(te:TE)(σ0:St)(Q:VK):VK:=λx H1=>∃a,x=.ref a/\(∃xs,dH K H1 a xs)/\zF g tt te σ0 Q (Sl K a) H1
def mr(g:TG)(tt:TT)(te:TE)(σ0:St)(Q:VK):VK:=λx H1=>∃z,x=.str z/\zF g tt te σ0 Q (JM z) H1
noncomputable def Nm(g:TG)(tt:TT)(te:TE)(σ0:St)(Q:VK):List V->Hp->Prop:=λvs H1=>∃j:Int,vs=[.int j] /\ -(2 ^ 62)<=j/\j<2 ^ 62/\zF g tt te σ0 Q (G8 0 j.toNat) H1
section
variable{K:Wf}{k:Nat}{fm:List Nat}{tl te:TE}{ta:TA}{g:TG}{tt:TT}{σ σ0:St}{H H1:Hp}{Q:VK}
theorem LK:mK k fm (vg K tl) g tt te σ H Q=tl σ H (uo K g tt te (eG k fm σ) Q):=rfl
theorem Ml:mK k fm (Na K tl) g tt te σ H Q=tl σ H (OD K g tt te (eG k fm σ) Q):=rfl
theorem Mp:mK k fm (LG tl) g tt te σ H Q=tl σ H (mr g tt te (eG k fm σ) Q):=rfl
theorem LN:mK k fm (D8 ta) g tt te σ H Q=ta σ H (Nm g tt te (eG k fm σ) Q):=rfl
theorem uo.of{a:Addr}{xs:List V}(hz:xs.length<sizeLine)(hx:aC K H1 a xs)(Pv:Addr->Nat->List V->Hp->Prop)(h0:∀D,H1 D=none->Pv D 0 [] (upd H1 D (.lst [])))
  (hl:∀D i ys H',H1 D=none->i<=xs.length->Pv D i ys H'->aC K H' a xs/\H' D=some (.lst ys)/\ys.length<=i)
  (hs:∀D i x ys H',H1 D=none->xs[i]?=some x->Pv D i ys H'->g x σ0 H' λσ3 H4=>Ext σ0 σ3/\tt σ3 H4 λb H5=>if b=true then te σ3 H5 λy H6=>H6 D=some (.lst ys)/\Pv D (i+1) (ys++[y]) (upd H6 D (.lst (ys++[y]))) else Pv D (i+1) ys H5)
  (hd:∀D ys H',H1 D=none->Pv D xs.length ys H'->Q (.ref D) H'):uo K g tt te σ0 Q (.ref a) H1:=
 ⟨a,rfl,⟨xs,hx⟩,λD hD=>Ao hz (Pv D) (h0 D hD) (λi ys H'=>hl D i ys H' hD) (λi x ys H'=>hs D i x ys H' hD) λys H'=>hd D ys H' hD⟩
theorem mr.of{z:Str}(hz:z.cps.size<sizeLine)(Pv:Addr->Nat->List V->Hp->Prop)(h0:∀D,H1 D=none->Pv D 0 [] (upd H1 D (.lst [])))
  (hl:∀D i ys H',H1 D=none->i<=z.cps.size->Pv D i ys H'->H' D=some (.lst ys)/\ys.length<=i)
  (hs:∀D i c ys H',H1 D=none->z.cps[i]?=some c->Pv D i ys H'->g (.str ⟨#[c]⟩) σ0 H' λσ3 H4=>Ext σ0 σ3/\tt σ3 H4 λb H5=>if b=true then te σ3 H5 λy H6=>H6 D=some (.lst ys)/\Pv D (i+1) (ys++[y]) (upd H6 D (.lst (ys++[y]))) else Pv D (i+1) ys H5)
  (hd:∀D ys H',H1 D=none->Pv D z.cps.size ys H'->Q (.ref D) H'):mr g tt te σ0 Q (.str z) H1:=
 ⟨z,rfl,λD hD=>F6 hz (Pv D) (h0 D hD) (λi ys H'=>hl D i ys H' hD) (λi c ys H'=>hs D i c ys H' hD) λys H'=>hd D ys H' hD⟩
end
set_option genInjectivity true in
inductive D where
 |aF|bl (b:Bool)|int (i:Int)|str (z:Str)|lst (xs:List D)|tup (xs:List D)
mutual
noncomputable def Rep(K:Wf)(H:Hp):D->V->Prop
 |.aF,v=>v=.aF
 |.bl b,v=>v=.bl b
 |.int i,v=>v=.int i
 |.str z,v=>v=.str z
 |.lst ds,v=>∃a xs,v=.ref a/\aC K H a xs/\RepL K H ds xs
 |.tup ds,v=>∃a xs,v=.ref a/\dH K H a xs/\RepL K H ds xs
noncomputable def RepL(K:Wf)(H:Hp):List D->List V->Prop
 |[],xs=>xs=[]
 |d::ds,xs=>∃y ys,xs=y::ys/\Rep K H d y/\RepL K H ds ys
end
mutual
noncomputable def deq:D->D->Bool
 |.aF,.aF=>true
 |.bl a,.bl b=>a == b
 |.bl a,.int b=>(if a then 1 else 0) == b
 |.int a,.bl b=>a == (if b then 1 else 0)
 |.int a,.int b=>a == b
 |.str a,.str b=>a == b
 |.lst a,.lst b=>deqL a b
 |.tup a,.tup b=>deqL a b
 |_,_=>false
noncomputable def deqL:List D->List D->Bool
 |[],[]=>true
 |a::as,b::bs=>deq a b&&deqL as bs
 |_,_=>false
end
mutual
noncomputable def dep:D->Nat
 |.lst ds=>depL ds+1
 |.tup ds=>depL ds+1
 |_=>0
noncomputable def depL:List D->Nat
 |[]=>0
 |d::ds=>max (dep d) (depL ds)
end
mutual
theorem kG:∀d:D,deq d d=true
 |.aF=>rfl
 |.bl a=>by simp[deq]
 |.int a=>by simp[deq]
 |.str a=>by simp[deq]
 |.lst a=>by simp only[deq];exact gD a
 |.tup a=>by simp only[deq];exact gD a
theorem gD:∀ds:List D,deqL ds ds=true
 |[]=>rfl
 |d::ds=>by simp only[deqL,kG d,gD ds,Bool.and_self]
end
theorem RepL.len{K:Wf}{H:Hp}:∀{ds:List D}{xs:List V},RepL K H ds xs->ds.length=xs.length
 |[],xs,h=>by simp only[RepL]at h;subst h;rfl
 |d::ds,xs,h=>by
  simp only[RepL]at h;obtain⟨y,ys,rfl,_,r⟩:=h;simp[r.len]
noncomputable def eAt(ds es:List D)(j:Nat):Bool:=match ds[j]?,es[j]? with
 |some d,some e=>deq d e
 |_,_=>true
theorem jZ:∀(ds es:List D),((List.range (min ds.length es.length)).all (eAt ds es)&&ds.length == es.length)=deqL ds es
 |[],[]=>by simp[deqL]
 |[],e::es=>by simp[deqL]
 |d::ds,[]=>by simp[deqL]
 |d::ds,e::es=>by
  have ih:=jZ ds es;have h1:min (d::ds).length (e::es).length=min ds.length es.length+1:=by simp only[List.length_cons];omega
  rw[h1,List.range_succ_eq_map,List.all_cons,List.all_map];have h2:(eAt (d::ds) (e::es) ∘ Nat.succ)=eAt ds es:=by funext j;simp[eAt]
  have h3:eAt (d::ds) (e::es) 0=deq d e:=by simp[eAt]
  rw[h2,h3];simp only[deqL,<-ih,List.length_cons,Bool.and_assoc];congr 2;simp
section
variable{X:Cx}{pins:Lo}{σ:St}{H:Hp}{s:Shared}
mutual
theorem Hi(I:Inv X pins σ H s):∀(d e:D) (x:V),Rep X.K H d x->Rep X.K H e x->d=e
 |d,e,x,hd,he=>by
  cases d with
  |aF=>
   simp only[Rep]at hd;subst hd;cases e<;>simp only[Rep]at he<;>first|rfl|(obtain⟨a,xs,z,_⟩:=he;cases z;done)|(cases he;done)
  |bl b=>
   simp only[Rep]at hd;subst hd;cases e<;>simp only[Rep]at he<;>first|(obtain⟨a,xs,z,_⟩:=he;cases z;done)|(cases he;rfl)|(cases he;done)
  |int b=>
   simp only[Rep]at hd;subst hd;cases e<;>simp only[Rep]at he<;>first|(obtain⟨a,xs,z,_⟩:=he;cases z;done)|(cases he;rfl)|(cases he;done)
  |str b=>
   simp only[Rep]at hd;subst hd;cases e<;>simp only[Rep]at he<;>first|(obtain⟨a,xs,z,_⟩:=he;cases z;done)|(cases he;rfl)|(cases he;done)
  |lst ds=>
   simp only[Rep]at hd;obtain⟨a,xs,rfl,hx,r⟩:=hd;cases e with
   |lst es=>
    simp only[Rep]at he;obtain⟨a',xs',z,hx',r'⟩:=he;cases z;have:=I.gq hx hx';subst this;rw[gi I ds es xs r r']
   |tup es=>
    simp only[Rep]at he;obtain⟨a',xs',z,hx',r'⟩:=he;cases z
    exfalso
    obtain⟨_,_,p,_⟩:=I.list hx;obtain⟨_,_,q,_⟩:=I.tuple hx';obtain⟨o,n,e1,e2,_⟩:=p;obtain⟨o',e1',e2',_⟩:=q;rw[e1]at e1';cases e1';rw[e2]at e2';exact absurd e2' (by decide)
   |_=>simp only[Rep]at he;cases he
  |tup ds=>
   simp only[Rep]at hd;obtain⟨a,xs,rfl,hx,r⟩:=hd;cases e with
   |tup es=>
    simp only[Rep]at he;obtain⟨a',xs',z,hx',r'⟩:=he;cases z;have:=I.mF hx hx';subst this;rw[gi I ds es xs r r']
   |lst es=>
    simp only[Rep]at he;obtain⟨a',xs',z,hx',r'⟩:=he;cases z
    exfalso
    obtain⟨_,_,p,_⟩:=I.list hx';obtain⟨_,_,q,_⟩:=I.tuple hx;obtain⟨o,n,e1,e2,_⟩:=p;obtain⟨o',e1',e2',_⟩:=q;rw[e1]at e1';cases e1';rw[e2]at e2';exact absurd e2' (by decide)
   |_=>simp only[Rep]at he;cases he
theorem gi(I:Inv X pins σ H s):∀(ds es:List D) (xs:List V),RepL X.K H ds xs->RepL X.K H es xs->ds=es
 |[],es,xs,hd,he=>by
  simp only[RepL]at hd;subst hd;cases es with
  |nil=>rfl
  |cons e es=>simp only[RepL]at he;obtain⟨y,ys,z,_⟩:=he;cases z
 |d::ds,es,xs,hd,he=>by
  simp only[RepL]at hd;obtain⟨y,ys,rfl,r,rs⟩:=hd;cases es with
  |nil=>simp only[RepL]at he;cases he
  |cons e es=>
   simp only[RepL]at he;obtain⟨y',ys',z,r',rs'⟩:=he;cases z;rw[Hi I d e y r r',gi I ds es ys rs rs']
end
theorem ir{h:Heap}{a:Addr}{its:Array Value}(p:IsTup h a its):h.IsTuple a its:=by
 obtain⟨o,e,c,n,d⟩:=p;exact⟨o,e,c,n,d⟩
mutual
theorem HJ(I:Inv X pins σ H s):∀(d e:D) (x y:V) (u v:Value) (A:Around),A.units+dep d<cLine->Rep X.K H d x->Rep X.K H e y->RelV x u->RelV y v->SeqAt.EqAt A s u v (deq d e)
 |.aF,e,x,y,u,v,A,hu,hd,he,rx,ry=>by
  have hu:A.units<cLine:=by omega
  simp only[Rep]at hd;subst hd;cases rx;cases e<;>simp only[Rep]at he
  ·subst he;cases ry;exact SeqAt.EqAt.same _
  ·subst he;cases ry;exact SeqAt.EqAt.none_bool _
  ·subst he;obtain⟨t,rfl⟩:=ry;exact SeqAt.EqAt.none_int _ _
  ·subst he;obtain⟨t,rfl⟩:=ry;exact SeqAt.EqAt.none_str _ _
  ·obtain⟨a,xs,rfl,hx,_⟩:=he;cases ry;obtain⟨_,_,p,_⟩:=I.list hx;exact SeqAt.EqAt.none_list p.isList hu
  ·obtain⟨a,xs,rfl,hx,_⟩:=he;cases ry;obtain⟨_,_,p,_⟩:=I.tuple hx;exact SeqAt.EqAt.none_tuple (ir p) hu
 |.bl b,e,x,y,u,v,A,hu,hd,he,rx,ry=>by
  have hu:A.units<cLine:=by omega
  simp only[Rep]at hd;subst hd;cases rx;cases e<;>simp only[Rep]at he
  ·subst he;cases ry;exact SeqAt.EqAt.bool_none _
  ·subst he;cases ry;exact SeqAt.EqAt.bool_bool _ _
  ·subst he;obtain⟨t,rfl⟩:=ry;exact SeqAt.EqAt.bool_int _ _ _
  ·subst he;obtain⟨t,rfl⟩:=ry;exact SeqAt.EqAt.bool_str _ _ _
  ·obtain⟨a,xs,rfl,hx,_⟩:=he;cases ry;obtain⟨_,_,p,_⟩:=I.list hx;exact SeqAt.EqAt.bool_list _ p.isList hu
  ·obtain⟨a,xs,rfl,hx,_⟩:=he;cases ry;obtain⟨_,_,p,_⟩:=I.tuple hx;exact SeqAt.EqAt.bool_tuple _ (ir p) hu
 |.int b,e,x,y,u,v,A,hu,hd,he,rx,ry=>by
  have hu:A.units<cLine:=by omega
  simp only[Rep]at hd;subst hd;obtain⟨t0,rfl⟩:=rx;cases e<;>simp only[Rep]at he
  ·subst he;cases ry;exact SeqAt.EqAt.int_none _ _
  ·subst he;cases ry;exact SeqAt.EqAt.int_bool _ _ _
  ·subst he;obtain⟨t,rfl⟩:=ry;exact SeqAt.EqAt.int_int _ _ _ _
  ·subst he;obtain⟨t,rfl⟩:=ry;exact SeqAt.EqAt.int_str _ _ _ _
  ·obtain⟨a,xs,rfl,hx,_⟩:=he;cases ry;obtain⟨_,_,p,_⟩:=I.list hx;exact SeqAt.EqAt.int_list _ _ p.isList hu
  ·obtain⟨a,xs,rfl,hx,_⟩:=he;cases ry;obtain⟨_,_,p,_⟩:=I.tuple hx;exact SeqAt.EqAt.int_tuple _ _ (ir p) hu
 |.str b,e,x,y,u,v,A,hu,hd,he,rx,ry=>by
  have hu:A.units<cLine:=by omega
  simp only[Rep]at hd;subst hd;obtain⟨t0,rfl⟩:=rx;cases e<;>simp only[Rep]at he
  ·subst he;cases ry;exact SeqAt.EqAt.str_none _ _
  ·subst he;cases ry;exact SeqAt.EqAt.str_bool _ _ _
  ·subst he;obtain⟨t,rfl⟩:=ry;exact SeqAt.EqAt.str_int _ _ _ _
  ·subst he;obtain⟨t,rfl⟩:=ry;exact SeqAt.EqAt.str_str _ _ _ _
  ·obtain⟨a,xs,rfl,hx,_⟩:=he;cases ry;obtain⟨_,_,p,_⟩:=I.list hx;exact SeqAt.EqAt.str_list _ _ p.isList hu
  ·obtain⟨a,xs,rfl,hx,_⟩:=he;cases ry;obtain⟨_,_,p,_⟩:=I.tuple hx;exact SeqAt.EqAt.str_tuple _ _ (ir p) hu
 |.lst ds,e,x,y,u,v,A,hu,hd,he,rx,ry=>by
  have hu0:A.units<cLine:=by omega
  simp only[dep]at hu;simp only[Rep]at hd;obtain⟨a,xs,rfl,hx,r⟩:=hd;cases rx;obtain⟨its,rv,p,hz⟩:=I.list hx;cases e<;>simp only[Rep]at he
  ·subst he;cases ry;exact SeqAt.EqAt.list_none p.isList hu0
  ·subst he;cases ry;exact SeqAt.EqAt.list_bool _ p.isList hu0
  ·subst he;obtain⟨t,rfl⟩:=ry;exact SeqAt.EqAt.list_int _ _ p.isList hu0
  ·subst he;obtain⟨t,rfl⟩:=ry;exact SeqAt.EqAt.list_str _ _ p.isList hu0
  ·rename_i es;obtain⟨b,ys,rfl,hy,r'⟩:=he;cases ry;obtain⟨its',rv',p',hz'⟩:=I.list hy;by_cases hab:a=b
   ·subst hab;have:=I.gq hx hy;subst this;rw[gi I ds es xs r r',kG];exact SeqAt.EqAt.same _
   ·have l1:=r.len;have l2:=rv.length;have l3:=r'.len;have l4:=rv'.length;have key:=jZ ds es;simp only[deq];rw[<-key];by_cases hl:its.length=its'.length
    ·have:=SeqAt.EqAt.of_refs hab (SeqAt.RcAt.lists (e:=eAt ds es) p.isList p'.isList (by simpa using hl) hu0 (λj h1 h2=>by
      have q:=fX I ds es xs ys its its' A.in1 (by show A.units+1+depL ds<cLine;omega) r r' rv rv' j (by simpa using h1) (by simpa using h2);simpa using q))
     have e1:its.toArray.size=min ds.length es.length:=by rw[vc];omega
     rw[e1]at this;have e2:(ds.length == es.length)=true:=by simp;omega
     rw[e2,Bool.and_true];exact this
    ·have e2:(ds.length == es.length)=false:=by simp;omega
     rw[e2,Bool.and_false];exact SeqAt.EqAt.of_refs hab (SeqAt.RcAt.lists_lengths p.isList p'.isList (by simpa using hl) hu0)
  ·obtain⟨b,ys,rfl,hy,r'⟩:=he;cases ry;obtain⟨_,_,q,_⟩:=I.tuple hy;exact SeqAt.EqAt.list_tuple p.isList (ir q) hu0
 |.tup ds,e,x,y,u,v,A,hu,hd,he,rx,ry=>by
  have hu0:A.units<cLine:=by omega
  simp only[dep]at hu;simp only[Rep]at hd;obtain⟨a,xs,rfl,hx,r⟩:=hd;cases rx;obtain⟨its,rv,p,hz⟩:=I.tuple hx;cases e<;>simp only[Rep]at he
  ·subst he;cases ry;exact SeqAt.EqAt.tuple_none (ir p) hu0
  ·subst he;cases ry;exact SeqAt.EqAt.tuple_bool _ (ir p) hu0
  ·subst he;obtain⟨t,rfl⟩:=ry;exact SeqAt.EqAt.tuple_int _ _ (ir p) hu0
  ·subst he;obtain⟨t,rfl⟩:=ry;exact SeqAt.EqAt.tuple_str _ _ (ir p) hu0
  ·obtain⟨b,ys,rfl,hy,r'⟩:=he;cases ry;obtain⟨_,_,q,_⟩:=I.list hy;exact SeqAt.EqAt.tuple_list (ir p) q.isList hu0
  ·rename_i es;obtain⟨b,ys,rfl,hy,r'⟩:=he;cases ry;obtain⟨its',rv',p',hz'⟩:=I.tuple hy;by_cases hab:a=b
   ·subst hab;have:=I.mF hx hy;subst this;rw[gi I ds es xs r r',kG];exact SeqAt.EqAt.same _
   ·have l1:=r.len;have l2:=rv.length;have l3:=r'.len;have l4:=rv'.length;have key:=jZ ds es;simp only[deq];rw[<-key];have:=SeqAt.EqAt.of_refs hab (SeqAt.RcAt.tuples (e:=eAt ds es) (ir p) (ir p') hu0 (λj h1 h2=>by
      have q:=fX I ds es xs ys its its' A.in1 (by show A.units+1+depL ds<cLine;omega) r r' rv rv' j (by simpa using h1) (by simpa using h2);simpa using q))
    have e1:its.toArray.size=ds.length:=by rw[vc];omega
    have e2:its'.toArray.size=es.length:=by rw[vc];omega
    rw[e1,e2]at this;exact this
theorem fX(I:Inv X pins σ H s):∀(ds es:List D) (xs ys:List V) (us vs:List Value) (A:Around),A.units+depL ds<cLine->RepL X.K H ds xs->RepL X.K H es ys->Vals xs us->Vals ys vs->
  ∀(j:Nat) (h1:j<us.length) (h2:j<vs.length),SeqAt.EqAt A s us[j] vs[j] (eAt ds es j)
 |[],es,xs,ys,us,vs,A,hu,hd,he,rx,ry,j,h1,h2=>by
  simp only[RepL]at hd;subst hd;cases rx;exact absurd h1 (by simp)
 |d::ds,es,xs,ys,us,vs,A,hu,hd,he,rx,ry,j,h1,h2=>by
  simp only[depL]at hu;simp only[RepL]at hd;obtain⟨x,xs',rfl,rd,rds⟩:=hd;cases rx with
  |cons r0 rr=>
   cases es with
   |nil=>
    simp only[RepL]at he;subst he;cases ry;exact absurd h2 (by simp)
   |cons e es=>
    simp only[RepL]at he;obtain⟨y,ys',rfl,re,res⟩:=he;cases ry with
    |cons q0 qr=>
     cases j with
     |zero=>
      have:eAt (d::ds) (e::es) 0=deq d e:=by simp[eAt]
      rw[this];exact HJ I d e x y _ _ A (by omega) rd re r0 q0
     |succ j=>
      have:eAt (d::ds) (e::es) (j+1)=eAt ds es j:=by simp[eAt]
      rw[this];exact fX I ds es xs' ys' _ _ A (by omega) rds res rr qr j (by simpa using h1) (by simpa using h2)
end
def Iw(K:Wf):R2:=λx y H Q=>∃ds es,((Rep K H (.lst ds) x/\Rep K H (.lst es) y)\/(Rep K H (.tup ds) x/\Rep K H (.tup es) y))/\depL ds<=20/\Q (.bl (deqL ds es)) H
theorem Ln(hu:X.A.units+64<cLine):fQ X (compareOp .Eq) (Iw X.K):=by
 intro pins s σ H x y v u Q I rx ry h;obtain⟨ds,es,h,hdep,q⟩:=h;have hu0:X.A.units<cLine:=by omega
 have hin:X.A.in1.units+depL ds<cLine:=by show X.A.units+1+depL ds<cLine;omega
 have key:=jZ ds es;rcases h with ⟨h1,h2⟩|⟨h1,h2⟩
 ·simp only[Rep]at h1 h2;obtain⟨a,xs,rfl,hx,r⟩:=h1;obtain⟨b,ys,rfl,hy,r'⟩:=h2;cases rx;cases ry;obtain⟨its,rv,p,hz⟩:=I.list hx;obtain⟨its',rv',p',hz'⟩:=I.list hy;have l1:=r.len;have l2:=rv.length;have l3:=r'.len;have l4:=rv'.length;by_cases hl:its.length=its'.length
  ·refine SeqAt.eq_listAt (e:=eAt ds es) p.isList p'.isList (by simpa using hl) hu0 (λj h1 h2=>?_) ?_
   ·have q:=fX I ds es xs ys its its' X.A.in1 hin r r' rv rv' j (by simpa using h1) (by simpa using h2);simpa using q
   ·have e1:its.toArray.size=min ds.length es.length:=by rw[vc];omega
    have e2:(ds.length == es.length)=true:=by simp;omega
    rw[e2,Bool.and_true]at key;rw[e1,key];exact⟨.bl (deqL ds es),H,I,rfl,q⟩
  ·have e2:(ds.length == es.length)=false:=by simp;omega
   rw[e2,Bool.and_false]at key;rw[<-key]at q;exact SeqAt.eq_list_lengthsAt p.isList p'.isList (by simpa using hl) hu0 ⟨.bl false,H,I,rfl,q⟩
 ·simp only[Rep]at h1 h2;obtain⟨a,xs,rfl,hx,r⟩:=h1;obtain⟨b,ys,rfl,hy,r'⟩:=h2;cases rx;cases ry;obtain⟨its,rv,p,hz⟩:=I.tuple hx;obtain⟨its',rv',p',hz'⟩:=I.tuple hy;have l1:=r.len;have l2:=rv.length;have l3:=r'.len;have l4:=rv'.length;refine SeqAt.eq_tupleAt (e:=eAt ds es) (ir p) (ir p') hu0 (λj h1 h2=>?_) ?_
  ·have q:=fX I ds es xs ys its its' X.A.in1 hin r r' rv rv' j (by simpa using h1) (by simpa using h2);simpa using q
  ·have e1:its.toArray.size=ds.length:=by rw[vc];omega
   have e2:its'.toArray.size=es.length:=by rw[vc];omega
   rw[e1,e2,key];exact⟨.bl (deqL ds es),H,I,rfl,q⟩
theorem RepL.ints{K:Wf}{H:Hp}:∀ns:List Int,RepL K H (ns.map D.int) (ns.map V.int)
 |[]=>by simp only[List.map_nil,RepL]
 |n::ns=>by simp only[List.map_cons,RepL];exact⟨_,_,rfl,by simp only[Rep],RepL.ints ns⟩
end
section
variable{X:Cx}{K:Wf}
theorem dv(e:X.K=K):Mm X (MR K):=e▸Ia
theorem HE(e:X.K=K):Mm X (LX K):=e▸K_
theorem fS(e:X.K=K):Cv X (HM K):=e▸yn
theorem Iv(e:X.K=K):Cv X (λx lo hi H Q=>HM K x lo hi H Q\/LV K x lo hi H Q\/Kd x lo hi H Q):=e▸Lk
theorem cM(e:X.K=K):fQ X (binaryOp .Add) (xW K):=e▸xg
theorem uU(e:X.K=K):fQ X (binaryOp .Add) (λx y H Q=>Hc (λi j=>.int (i+j)) x y H Q\/(∃i j,x=.str i/\y=.str j/\i.length+j.length<=sizeLine/\Q (.str (i++j)) H)\/xW K x y H Q\/Dk K x y H Q):=e▸HK
theorem xS(e:X.K=K):fQ X (compareOp .In) (Sy K false):=e▸AM
theorem pY(hu:X.A.units+64<cLine)(e:X.K=K):fQ X (compareOp .Eq) (Iw K):=e▸Ln hu
theorem e7(e:X.K=K):dG X (.builtin "len") (λxs H Q=>∃x n,xs=[x]/\MZ K x H n/\Q (.int n) H):=e▸GH
theorem mf(hc:X.calm=true)(e:X.K=K):dG X (.builtin "all") (Nj K):=e▸Bl hc
theorem mH(e:X.K=K):dG X (.builtin "isinstance") (NM K):=e▸GP
theorem gh{tg l:Expr}{tl:TE}(e:X.K=K)(hl:PE X l tl):PI X tg l (vg K tl):=e▸Hu hl
theorem fi{es:List Expr}{k:Nat}{t:J9}{n:Nat}{pos:Pos}(e:X.K=K)(hc:X.calm=true)(h:NA X es t)
  (hn:(assignEach es X.env).length=n:=by rfl) (hst:(assignEach es X.env).findIdx? (·.1)=none:=by rfl):PG X (.Tuple es k pos) (OS K n t):=e▸KD hc h hn hst
end
section
variable{X:Cx}
noncomputable def HV:V->List V->Hp->VK->Prop:=λx vs H Q=>∃z y,x=.str z/\vs=[.str y]/\Q (.bl (Txt.startswith z y)) H
theorem Aa:J6 X "str.startswith" HV:=by
 intro pins s σ H x vs v us Q I rx rv h;obtain⟨z,y,rfl,rfl,q⟩:=h;obtain⟨t,rfl⟩:=rx;obtain⟨u,rfl,ru⟩:=rv.one;obtain⟨t',rfl⟩:=ru;exact SC.startswith ⟨.bl (Txt.startswith z y),H,I,rfl,q⟩
noncomputable def QU:V->List V->Hp->VK->Prop:=λx vs H Q=>∃z y i,x=.str z/\vs=[.str y]/\(∃rest,Builtin.Str.occurrences z y 0 z.length 1=i::rest)/\Q (.int (i:Nat)) H
theorem AA:dG X (.type "int") (λxs H Q=>∃z n,xs=[.str z]/\PySem.intText? z=some n/\z.length<=640/\Q (.int n) H):=by
 intro pins s σ H xs us Q I r h;obtain⟨z,n,rfl,hn,hl,q⟩:=h;obtain⟨u,rfl,ru⟩:=vals1 r;obtain⟨t,rfl⟩:=ru;exact PySem.W.KIN.call_text hn hl ⟨.int n,H,I.tok _,⟨_,rfl⟩,q⟩
end
def eM(h:Heap)(e:Addr)(cls:Value)(dx:Option Addr)(fl:Value)(T:Addr):Prop:=
 ∃oe vs oT ts,h.get? e=some oe/\oe.cls=cls/\oe.dict=dx/\oe.data=.fields vs/\vs[1]?=some (.ref T)/\T≠e/\h.get? T=some oT/\oT.data=.fields ts/\ts[3]?=some fl
structure eR(fs:List Addr)(e T0:Addr)(cls:Value)(dx:Option Addr)(fl:Value)(h h':Heap):Prop where
 keep:∀b o,b∉fs->b≠e->b≠T0->h.get? b=some o->h'.get? b=some o
 slot:∀b o,b∈fs->b≠e->b≠T0->h.get? b=some o->∃sl,h'.get? b=some { o with slots:=sl }
 there:∀b o,h.get? b=some o->∃o',h'.get? b=some o'
 exc:∃T,h.objs.size<=T/\eM h' e cls dx fl T
section
variable{M:Model}{A:Around}{E:Vs}{s:Shared}
theorem gR(f:Array Value->Array Value)(o:Obj):(Obj.mapFields f o).dict=o.dict:=by
 obtain⟨c,d,da,sl⟩:=o;cases da<;>rfl
theorem mL{base:Heap}{env:Env}{outer:List Env}{L e T0:Addr}{oe:Obj}{vs:Array Value}{head:Value}{hadNext:Bool}{Q:Unit->Shared->Prop}
  (hfr:A.frames=some (env::outer)) (hl:s.heap.FunFrames base (env::outer)) (hf:env.frame=some L)
  (he:s.heap.get? e=some oe) (hd:oe.data=.fields vs) (hsz:1<vs.size)
  (h:∀h',eR (hZ (env::outer)) e T0 oe.cls oe.dict (rawInt L) s.heap h'->Q () { s with heap:=h' }):
  wpAny M A (do let a <-frameOf env;let pl <-entryPlaceOf L hadNext;let b <-EntryCells.newEntry head a .none (rawInt L) .none pl;setField (.ref e) 1 b) Q E s:=by
 have hene:e∉(env::outer).filterMap (·.frame):=λhm=>by
  obtain⟨_,o,ho,hnf⟩:=hl.mem hm;rw[he]at ho;injection ho with ho;subst ho;exact hnf vs hd
 refine aT (wpAny_frameOf_fun hfr hl hf λh₁ hs₁=>?_);refine aT (wpAny_entryPlaceOf λpl hpl=>?_);unfold EntryCells.newEntry newFields;refine aT (Lc ?_ (hpl.sizeOk5 _ _ _ _ _));have he₁:h₁.get? e=some oe:=(hs₁.2.1 e hene).trans he;have he₂:=fU (h:=h₁) { cls:=.type "traceback", dict:=none,data:=.fields ([head,.ref L,.none,rawInt L,.none]++(if pl.isEmpty then List.replicate 6 Value.none else pl)).toArray } he₁;refine wpAny_setField he₂ hd hsz (h _ ?_);have hTe:h₁.objs.size≠e:=Nat.ne_of_gt (dj he₁);have hd₃:=Obj.data_mapFields hd (·.setIfInBounds 1 (Value.ref h₁.objs.size));have he₃:=Hj (Obj.mapFields (·.setIfInBounds 1 (Value.ref h₁.objs.size))) he₂ (Obj.isFreed_of_fields hd₃);have hT₃:=(II (h₁.push { cls:=.type "traceback", dict:=none,data:=.fields ([head,.ref L,.none,rawInt L,.none]++(if pl.isEmpty then List.replicate 6 Value.none else pl)).toArray })
  (Obj.mapFields (·.setIfInBounds 1 (Value.ref h₁.objs.size))) (Ne.symm hTe)).trans (yO h₁ rfl)
 have keep:∀b o,b≠e->h₁.get? b=some o->
   ((h₁.push { cls:=.type "traceback", dict:=none,data:=.fields ([head,.ref L,.none,rawInt L,.none]++(if pl.isEmpty then List.replicate 6 Value.none else pl)).toArray }).update e (Obj.mapFields (·.setIfInBounds 1 (Value.ref h₁.objs.size)))).get? b=some o:=
  λb o hbe hb=>by
   rw[II _ _ (Ne.symm hbe)];exact fU _ hb
 have new:s.heap.objs.size<=h₁.objs.size:=Nat.le_of_eq hs₁.1.symm;refine⟨λb o hb hbe _ hbo=>keep b o hbe ((hs₁.2.1 b hb).trans hbo),λb o _ hbe _ hbo=>?_,λb o hbo=>?_,h₁.objs.size,new,_,_,_,_,he₃,Obj.cls_mapFields _ _,gR _ _,hd₃,by simp[hsz],hTe,hT₃,rfl,?_⟩
 ·obtain⟨sl,hs⟩:=hs₁.2.2 b o hbo;exact⟨sl,keep b _ hbe hs⟩
 ·by_cases hbe:b=e
  ·subst hbe;exact⟨_,he₃⟩
  ·obtain⟨sl,hs⟩:=hs₁.2.2 b o hbo;exact⟨_,keep b _ hbe hs⟩
 ·first|(simp;done)|(rcases hpl with rfl|⟨_,_,_,_,_,_,_,rfl⟩<;>simp)
def wI(h:Heap)(e:Addr)(cls:Value)(dx:Option Addr):Prop:=∃oe vs,h.get? e=some oe/\oe.cls=cls/\oe.dict=dx/\oe.data=.fields vs/\vs[1]?=some .none
theorem uy{base:Heap}{env:Env}{outer:List Env}{L e:Addr}{cls:Value}{dx:Option Addr}{Q:Unit->Shared->Prop}
  (hfr:A.frames=some (env::outer)) (hl:s.heap.FunFrames base (env::outer)) (hf:env.frame=some L) (hx:wI s.heap e cls dx)
  (h:∀h',eR (hZ (env::outer)) e e cls dx (rawInt L) s.heap h'->Q () { s with heap:=h' }):wpAny M A (noteFrame (.ref e) env) Q E s:=by
 obtain⟨oe,vs,he,hc,hdx,hd,h1⟩:=hx;subst hc hdx;unfold noteFrame;simp only[hf];refine aT (xj he hd h1 ?_);rw[if_neg (by decide)];exact mL hfr hl hf he hd (LO.mp h1).1 h
theorem iK{base:Heap}{env:Env}{outer:List Env}{L e T:Addr}{cls:Value}{dx:Option Addr}{Q:Unit->Shared->Prop}
  (hfr:A.frames=some (env::outer)) (hl:s.heap.FunFrames base (env::outer)) (hf:env.frame=some L) (hx:eM s.heap e cls dx .none T)
  (h:∀h',eR (hZ (env::outer)) e T cls dx (rawInt L) s.heap h'->Q () { s with heap:=h' }):wpAny M A (noteFrame (.ref e) env) Q E s:=by
 obtain⟨oe,vs,oT,ts,he,hc,hdx,hd,h1,hTe,hT,hdT,h3⟩:=hx;subst hc hdx;unfold noteFrame;simp only[hf];refine aT (xj he hd h1 ?_);rw[if_pos (show(Value.ref T != Value.none)=true from by simp)];refine aT (xj hT hdT h3 ?_);rw[if_neg (show ¬((Value.none == rawInt L)=true) from by simp[rawInt])];refine aT (wpAny_setField hT hdT (LO.mp h3).1 ?_);have other:∀b,b≠T->(s.heap.update T (Obj.mapFields (·.setIfInBounds 3 Value.none))).get? b=s.heap.get? b:=λb hb=>II _ _ (Ne.symm hb);have noRecord:∀b o,s.heap.get? b=some o->(∀vs,o.data≠.fields vs)->b≠T:=λb o hb hnf q=>by
  rw[q,hT]at hb;injection hb with hb;subst hb;exact hnf ts hdT
 have hT':=Hj (Obj.mapFields (·.setIfInBounds 3 Value.none)) hT (Obj.isFreed_of_fields (Obj.data_mapFields hdT _));refine mL (T0:=T) hfr (hl.of_keeps λb o hb hnf=>⟨o,(other b (noRecord b o hb hnf)).trans hb,rfl⟩) hf ((other e (Ne.symm hTe)).trans he) hd (LO.mp h1).1 λh' x=>h h' ?_;refine⟨λb o hb hbe hbT hbo=>x.keep b o hb hbe hbT ((other b hbT).trans hbo),λb o hb hbe hbT hbo=>x.slot b o hb hbe hbT ((other b hbT).trans hbo),λb o hbo=>?_,?_⟩
 ·by_cases hb:b=T
  ·subst hb;exact x.there b _ hT'
  ·exact x.there b o ((other b hb).trans hbo)
 ·obtain⟨T',hn,y⟩:=x.exc;exact⟨T',by rw[Heap.size_update]at hn;exact hn,y⟩
theorem wU{env:Env}{L e T:Addr}{cls:Value}{dx:Option Addr}{Q:Unit->Shared->Prop}(hf:env.frame=some L)(hx:eM s.heap e cls dx (rawInt L) T)(h:Q () s):
  wpAny M A (noteFrame (.ref e) env) Q E s:=by
 obtain⟨oe,vs,oT,ts,he,hc,hdx,hd,h1,hTe,hT,hdT,h3⟩:=hx;unfold noteFrame;simp only[hf];refine aT (xj he hd h1 ?_);rw[if_pos (show(Value.ref T != Value.none)=true from by simp)];refine aT (xj hT hdT h3 ?_);rw[if_pos (show(rawInt L == rawInt L)=true from by simp)];exact cC h
theorem c9{e T:Addr}{cls:Value}{dx:Option Addr}{fl:Value}{Q:Unit->Shared->Prop}(hx:eM s.heap e cls dx fl T)
  (h:∀h',(∀b o,b≠T->s.heap.get? b=some o->h'.get? b=some o)->(∃o,h'.get? T=some o)->eM h' e cls dx .none T->Q () { s with heap:=h' }):wpAny M A (setFlight (.ref e) none) Q E s:=by
 obtain⟨oe,vs,oT,ts,he,hc,hdx,hd,h1,hTe,hT,hdT,h3⟩:=hx;unfold setFlight;refine aT (xj he hd h1 ?_);rw[if_pos (show(Value.ref T != Value.none)=true from by simp)];have hs:=(LO.mp h3).1;refine wpAny_setField hT hdT hs (h _ (λb o hb hbo=>?_) ?_ ?_)
 ·rw[II _ _ (Ne.symm hb)];exact hbo
 ·exact⟨_,Hj _ hT (Obj.isFreed_of_fields (Obj.data_mapFields hdT _))⟩
 ·refine⟨oe,vs,_,_,?_,hc,hdx,hd,h1,hTe,Hj _ hT (Obj.isFreed_of_fields (Obj.data_mapFields hdT _)),Obj.data_mapFields hdT _,?_⟩
  ·rw[II _ _ hTe];exact he
  ·simp[hs]
theorem eR.off{fs:List Addr}{e T0 T:Addr}{cls:Value}{dx:Option Addr}{fl:Value}{h h1 h2:Heap}(x:eR fs e T0 cls dx fl h h1)(hT:h.objs.size<=T)(k:∀b o,b≠T->h1.get? b=some o->h2.get? b=some o)
  (hT2:∃o,h2.get? T=some o) (y:eM h2 e cls dx .none T):eR fs e T0 cls dx .none h h2:=by
 have ne:∀b o,h.get? b=some o->b≠T:=λb o e z=>by
  have:=dj e;rw[z]at this;exact absurd (kh this hT) (ku _)
 refine⟨λb o hb hbe hb0 hbo=>k b o (ne b o hbo) (x.keep b o hb hbe hb0 hbo),λb o hb hbe hb0 hbo=>?_,λb o hbo=>?_,T,hT,y⟩
 ·obtain⟨sl,q⟩:=x.slot b o hb hbe hb0 hbo;exact⟨sl,k b _ (ne b o hbo) q⟩
 ·obtain⟨o',q⟩:=x.there b o hbo;exact⟨o',k b _ (ne b o hbo) q⟩
theorem leave_new{base:Heap}{env:Env}{outer:List Env}{L e:Addr}{cls:Value}{dx:Option Addr}{Q:Unit->Shared->Prop}
  (hfr:A.frames=some (env::outer)) (hl:s.heap.FunFrames base (env::outer)) (hf:env.frame=some L) (hx:wI s.heap e cls dx)
  (h:∀h',eR (hZ (env::outer)) e e cls dx .none s.heap h'->Q () { s with heap:=h' }):wpAny M A (leaving env (.ref e)) Q E s:=by
 unfold leaving;refine aT (uy hfr hl hf hx λh1 x=>?_);obtain⟨T,hT,y⟩:=x.exc;exact c9 (s:={ s with heap:=h1 }) y λh2 k hT2 z=>h h2 (x.off hT k hT2 z)
theorem vU{base:Heap}{env:Env}{outer:List Env}{L e T0:Addr}{cls:Value}{dx:Option Addr}{Q:Unit->Shared->Prop}
  (hfr:A.frames=some (env::outer)) (hl:s.heap.FunFrames base (env::outer)) (hf:env.frame=some L) (hx:eM s.heap e cls dx .none T0)
  (h:∀h',eR (hZ (env::outer)) e T0 cls dx .none s.heap h'->Q () { s with heap:=h' }):wpAny M A (leaving env (.ref e)) Q E s:=by
 unfold leaving;refine aT (iK hfr hl hf hx λh1 x=>?_);obtain⟨T,hT,y⟩:=x.exc;exact c9 (s:={ s with heap:=h1 }) y λh2 k hT2 z=>h h2 (x.off hT k hT2 z)
end
noncomputable def An(P:Program)(w:World):A3:=λouter H s E e s'=>∃(a T:Addr) (cls:Value) (dx:Option Addr) (H':Hp),e=.ref a/\s'.os=s.os/\AllBare s'.gens/\Un (hZ outer) [] H H' s.heap s'.heap/\eQ P w H' s'.heap/\
 s.heap.get? a=none/\s.heap.get? T=none/\H' a=none/\H' T=none/\eM s'.heap a cls dx .none T/\E cls dx H'
def ExcAt(X:Cx)(H:Hp)(h:Heap)(a:Addr)(cls:Value)(dx:Option Addr):Prop:=
 X.s₀.heap.get? a=none/\H a=none/\(wI h a cls dx\/∃T,X.s₀.heap.get? T=none/\H T=none/\eM h a cls dx .none T)
def Xe(X:Cx)(E:XK):Prop:=∀(pins:Lo) (σ:St) (H:Hp) (s:Shared) (a:Addr) (cls:Value) (dx:Option Addr),Inv X pins σ H s->ExcAt X H s.heap a cls dx->E cls dx H->X.xe (.ref a) s
theorem eQ.tracked{P:Program}{w:World}{H:Hp}{h h':Heap}(ok:eQ P w H h)(k:∀b o u,H b=some u->h.get? b=some o->h'.get? b=some o):eQ P w H h':=λa o e=>
 (ok a o e).iH (λb u hb q=>by
  rcases hb with z|z
  ·subst z;exact k b u o e q
  ·exact k b u _ z q) (λ_ q=>q) λ_ _ q=>q
theorem Un.left{X:Cx}{pins:Lo}{σ:St}{H:Hp}{s:Shared}{a T0:Addr}{cls:Value}{dx:Option Addr}{h':Heap}(I:Inv X pins σ H s)(hex:X.ex=[])(hst:X.stack=X.env::X.outer)(hfr:X.env.frame=some X.env.locals)
  (ha:X.s₀.heap.get? a=none) (hT:X.s₀.heap.get? T0=none) (x:eR (hZ (X.env::X.outer)) a T0 cls dx .none s.heap h'):Un X.fs [] X.H₀ H X.s₀.heap h':=by
 have hfs:hZ (X.env::X.outer)=X.env.locals::X.fs:=by simp[hZ,hfr]
 have nl:∀b o,X.s₀.heap.get? b=some o->b≠X.env.locals:=λb o e z=>by
  have:=dj e;rw[z]at this;exact absurd (kh this I.ok.above) (ku _)
 have na:∀b o,X.s₀.heap.get? b=some o->b≠a:=λb o e z=>by rw[z,ha]at e;cases e
 have nT:∀b o,X.s₀.heap.get? b=some o->b≠T0:=λb o e z=>by rw[z,hT]at e;cases e
 have nx:∀b:Addr,b∉X.ex:=λb=>by rw[hex];simp
 have B:=I.base;have nfs:∀b o,X.s₀.heap.get? b=some o->b∉X.fs->b∉hZ (X.env::X.outer):=λb o e hb z=>by
  rw[hfs]at z;rcases lL.mp z with q|q
  ·exact nl b o e q
  ·exact hb q
 refine⟨λb o e n hb _=>x.keep b o (nfs b o e hb) (na b o e) (nT b o e) (B.keep b o e n hb (nx b)),λb o e n hb _=>?_,λb o e n _=>B.free b o e n (nx b),λb o e _=>?_,B.ij,B.g8,B.ia⟩
 ·obtain⟨sl,q⟩:=B.slot b o e n hb (nx b);obtain⟨sl2,q2⟩:=x.slot b _ (by rw[hfs];exact t_ _ hb) (na b o e) (nT b o e) q;exact⟨sl2,q2⟩
 ·obtain⟨o',q⟩:=B.there b o e (nx b);exact x.there b o' q
theorem M9{P:Program}{w:World}{K:Wf}{mg:So}{base:Heap}{N:List Str}{qual:Str}{scope:Scope}{f:Addr}{cd:Value}{A:Around}{outer:List Env}{s₀:Shared}{H₀:Hp}{E₀:XK}:
  Xe (kT (An P w) P w K mg base N qual scope f cd A outer s₀ H₀ E₀) E₀:=by
 intro pins σ H s a cls dx I hx hE;obtain⟨ha,hHa,hx⟩:=hx;have hfr:(envOfC qual scope s₀.heap.objs.size f cd).frame=some s₀.heap.objs.size:=rfl;have fin:∀(T0:Addr) (h':Heap),s₀.heap.get? T0=none->H T0=none->eR (hZ (envOfC qual scope s₀.heap.objs.size f cd::outer)) a T0 cls dx .none s.heap h'->An P w outer H₀ s₀ E₀ (.ref a) { s with heap:=h' }:=by
  intro T0 h' hT0 hHT0 x;obtain⟨T,hT,y⟩:=x.exc;have hTn:s₀.heap.get? T=none:=by
   cases q:s₀.heap.get? T with
   |none=>rfl
   |some o=>exact absurd (kh (dj q) (dy I.sz hT)) (ku _)
  refine⟨a,T,cls,dx,H,rfl,I.os,I.bare,Un.left I rfl rfl rfl ha hT0 x,?_,ha,hTn,hHa,I.aN.fresh hT,y,hE⟩;refine I.aN.tracked λb o u hb q=>x.keep b o (λz=>?_) (λz=>by rw[z,hHa]at hb;cases hb) (λz=>by rw[z,hHT0]at hb;cases hb) q;have:=I.ik b z;rw[this]at hb;cases hb
 rcases hx with hx|⟨T0,hT0,hHT0,hx⟩
 ·exact leave_new (base:=base) I.ok.frames I.stack hfr hx λh' x=>fin a h' ha hHa x
 ·exact vU (base:=base) I.ok.frames I.stack hfr hx λh' x=>fin T0 h' hT0 hHT0 x
theorem a_.there{P:Program}{w:World}{H:Hp}{h:Heap}{a:Addr}{o:HO}(x:a_ P w H h a o):∃ob,h.get? a=some ob:=by
 cases o with
 |lst xs=>obtain⟨_,_,_,_,e⟩:=x;exact⟨_,e⟩
 |tup xs=>obtain⟨_,_,_,o,e,_⟩:=x;exact⟨_,e⟩
 |dK kvs=>obtain⟨_,_,_,_,o,_,_,e,_⟩:=x;exact⟨_,e⟩
 |dT kvs=>obtain⟨_,_,_,_,o,_,_,e,_⟩:=x;exact⟨_,e⟩
 |set S n=>obtain⟨o,_,_,_,e,_⟩:=x;exact⟨_,e⟩
 |ins C dx fs=>obtain⟨_,_,_,e,_⟩:=x;exact⟨_,e⟩
 |own y=>obtain⟨_,e⟩:=x;exact⟨_,e⟩
 |xd fs=>obtain⟨_,⟨_,_,_,e,_⟩,_⟩:=x;exact⟨_,e⟩
 |PQ lo hi=>obtain⟨_,_,_,e⟩:=x;exact⟨_,e⟩
 |uM ob u=>obtain⟨e,_⟩:=x;exact⟨_,e⟩
 |J_ ps=>exact⟨_,(show h.get? a=some _ from x)⟩
 |met f y=>exact⟨_,(show h.get? a=some _ from x)⟩
 |ext φ=>obtain⟨_,⟨_,e⟩,_⟩:=x;exact⟨_,e⟩
theorem eQ.none_of{P:Program}{w:World}{H:Hp}{h:Heap}{a:Addr}(ok:eQ P w H h)(e:h.get? a=none):H a=none:=by
 cases q:H a with
 |none=>rfl
 |some u=>
  obtain⟨o,z⟩:=(ok a u q).there;rw[e]at z;cases z
theorem IA{K:Wf}{h:Heap}{C:Addr}{bmB:List Value}{newId:String}(X:K.In h)(q:excIn K C bmB newId=true):
  ∃bm N nm q bs hdct sn sub ab col dd k0 k1 k2 k3 k5 mN,h.get? C=some (excClassObj nm q C N bs bm hdct sn sub ab col dd k0 k1 k2 k3 k5 newId)/\h.Ns N mN/\mN "__init__" = none/\OwnTail h bmB bm:=by
 unfold excIn at q;split at q
 ·rename_i dd cd sl ho;split at q
  ·rename_i C' bm k0 k1 k2 k3 n k5 hm hs;simp only[Bool.and_eq_true,beq_iff_eq,Bool.not_eq_true']at q;obtain⟨⟨⟨⟨⟨rfl,rfl⟩,hdel⟩,ht⟩,aN⟩,hni⟩:=q;obtain⟨nm,bs,mro,ns,qn,hd,sn,sub,ab,col,del⟩:=cd;dsimp only at hm hdel aN hni;subst hm hdel;have hsl:sl=#[k0,k1,k2,k3,some (.builtin n),k5]:=by
    obtain⟨l⟩:=sl;simp only at hs;rw[hs]
   subst hsl;exact⟨bm,ns,nm,qn,bs,hd,sn,sub,ab,col,dd,k0,k1,k2,k3,k5,_,X _ _ ho,.of_isNs (isNs_of_in X aN),PySem.W.nsMap_none_of_in X aN hni,tail_of_in X ht⟩
  ·cases q
 ·cases q
section
variable{X:Cx}
def Kc(C:Addr)(E:XK)(t:TA):TS:=λ_ σ H=>t σ H λvs H1=>vs.length<=sizeLine/\E (.ref C) none H1
theorem GO{x:Str}{C:Addr}{bmB:List Value}{B newId initId:String}{e₀:Expr}{rest:List Expr}{np cpos pos:Pos}{t:TA}{E:XK}(hg:Gl X x)(hm:X.mg x=some (.ref C))(q:excIn X.K C bmB newId=true)
  (FB:ExcBaseFacts B newId initId bmB) (hc:X.calm=true) (hX:Xe X E) (ha:PA X (e₀::rest) t) (hex:X.ex=[]:=by rfl)
  (he:starEach (e₀::rest) X.env=(false,eval e₀ X.env)::starEach rest X.env:=by rfl) (hplain:(backTo cpos (starEach rest X.env)).any (·.1)=false:=by rfl) (hdb:(x == ("__debug__" : Str))=false:=by decide):
  PS X (.Raise (some (.Call (.Name x np) (e₀::rest) [] cpos)) none pos) (Kc C E t):=by
 intro pins s σ H D I h;obtain⟨tl,N,nm,qn,bs,hdct,sn,sub,ab,col,dd,k0,k1,k2,k3,k5,mN,hC,hN,hni,T⟩:=IA I.ok.mod.Hq q;refine wpAny_Raise_call_subT (C:=C) (nm:=nm) (q:=qn) (N:=N) (bs:=bs) (bm:=tl) (hdct:=hdct) (sn:=sn) (sub:=sub) (ab:=ab) (col:=col) (dd:=dd) (k0:=k0) (k1:=k1) (k2:=k2) (k3:=k3) (k5:=k5)
  FB (mN:=mN) (T.hasType FB.hasBase) (I.ok.hd hc) (by rw[he];show(false || (backTo cpos (starEach rest X.env)).any (·.1))=false;rw[hplain];rfl) hni (dm I hg hm ⟨rfl,?_⟩ hdb)
 have h1:=ha cpos pins s σ H _ I h;rw[he]at h1 ⊢;refine Calls.evalArgs_plain (iO h1 (λus s2 h2=>?_) λ_ _ y=>y);obtain⟨vs,H2,I2,rv,hz,hE⟩:=h2;refine⟨rfl,by rw[<-rv.length];exact hz,I2.bk _ _ hC,hN.keeps I2.bk,T.keeps I2.bk,λh' e me=>?_⟩;have I3:Inv X pins σ H2 { s2 with heap:=h' }:=I2.kept (t':=s2.toks) me.keeps;obtain⟨t',hx,_,_⟩:=me.there;refine hX pins σ H2 _ e (.ref C) none I3 ⟨?_,I2.aN.none_of me.new,.inl ⟨_,_,hx,rfl,rfl,rfl,rfl⟩⟩ hE;cases qq:X.s₀.heap.get? e with
 |none=>rfl
 |some o=>
  obtain⟨o',q'⟩:=I2.base.there e o qq (by rw[hex];simp);rw[me.new]at q';cases q'
end
end L2
namespace L2
open PySem PySem.Spec PyProof.Rows PySem.W
structure qS(K:Frag)(C:Addr):Prop where
 ga:findIn K (.ref C) "__getattribute__" = some (some (.builtin "BaseException.__getattribute__"))
 gn:findIn K (.ref C) "__getattr__" = some none
 cl:findIn K (.ref C) "__class__" = some (some (.builtin "object.__class__"))
 sg:specialIn K (.builtin "object.__class__") "__get__" = some (some (.builtin "getset_descriptor.__get__"))
 tk:takesIn K (.builtin "object.__class__")=some true
 mo:mroIn K C (.type "object")=some true
 mb:mroIn K C (.type "BaseException")=some true
section
variable{prog:Program}{w:World}{A:Around}{E:Vs}{s:Shared}{K:Frag}{x C:Addr}{ox:Obj}{od:Option Obj}{name:Str}
theorem jS{K:Frag}{C:Addr}{b:Value}{r:Bool}(e:mroIn K C b=some r):∃cd,clsIn K C=some cd:=by
 obtain⟨cd,a,_⟩:=Option.bind_eq_some_iff.mp e;exact⟨cd,a⟩
theorem Iy{M:Model}{nameV:Value}{Q:Unit->Shared->Prop}(X:K.In s.heap)(c:qS K C)(I:InstAt s.heap x ox C od)(q:Q () s):wpAny M A (checkBuiltinCall "BaseException.__getattribute__" ⟨[.ref x,nameV],[]⟩) Q E s:=
 @check_slot M A E s "BaseException.__getattribute__" "BaseException" "__getattribute__" (.ref x) [nameV] [] Q (by decide +kernel) (by decide +kernel) ((I.type).andThen (looks_mroIn X c.mb)) (F.args_bexc_ga _ _) q
theorem lU{v:Value}{tk:Tok}{Q:Fin->Shared->Prop}(X:K.In s.heap)(I:InstAt s.heap x ox C od)(hf:findObj K C od name=some (.value v))(h:Q (.done (.ret v)) s):
  wpAny (model prog w) A (Builtin.«object.__getattribute__» ⟨[.ref x,.str name tk],[]⟩) Q E s:=by
 have L0:=I.type (M:=model prog w);have L1:=looks_find (M:=model prog w) X I hf;unfold Builtin.«object.__getattribute__»;refine aT (cC ?_);refine aT (cC ?_);refine aT (L0.here (aT (L1.here ?_)));exact cC h
theorem lT{tk:Tok}{Q:Fin->Shared->Prop}(X:K.In s.heap)(c:qS K C)(I:InstAt s.heap x ox C od)(h:Q (.done (.ret (.ref C))) s):
  wpAny (model prog w) A (Builtin.«object.__getattribute__» ⟨[.ref x,.str "__class__" tk],[]⟩) Q E s:=by
 obtain⟨cd,hc⟩:=jS c.mo;have hf:findObj K C od "__class__" = some (.bind (.builtin "getset_descriptor.__get__") (.builtin "object.__class__")):=by
  unfold findObj;rw[hc,c.cl];simp only[Option.bind_some];rw[c.sg];simp only[Option.bind_some];rw[c.tk];rfl
 have L0:=I.type (M:=model prog w);have L1:=looks_find (M:=model prog w) X I hf;unfold Builtin.«object.__getattribute__»;refine aT (cC ?_);refine aT (cC ?_);refine aT (L0.here (aT (L1.here ?_)));show wpAny _ _ (holding [_] (call _ [_,.ref x,.ref C]) >>= ret) _ _ _;exact aT (G7 (Il (class_get X I c.mo (cC h))))
theorem AH(self:Value):bindSpecial (.builtin "BaseException.__getattribute__") self=pure (.builtin "BaseException.__getattribute__", [self]):=F.attr_ValueError.ga.bind self
theorem wF:plainId "BaseException.__getattribute__" = true:=F.attr_ValueError.ga.plain
theorem Mt{v nameV:Value}{fill expr:Bool}{Q:Vs}(X:K.In s.heap)(c:qS K C)(I:InstAt s.heap x ox C od)
  (he:∀(A:Around) (E:Vs) (Q:Fin->Shared->Prop),Q (.done (.ret v)) s->wpAny (model prog w) A (Builtin.«object.__getattribute__» ⟨[.ref x,nameV],[]⟩) Q E s)
  (hv:handedIn v=true) (h:Q v s):wpAny (model prog w) A (getAttrBy (.ref x) nameV fill expr) Q E s:=by
 have L0:=I.type (M:=model prog w);have L1:=looks_findIn (M:=model prog w) X c.ga;have L2:=looks_findIn (M:=model prog w) X c.gn;unfold getAttrBy;refine G7 (aT (L0.here (aT (L1.here ?_))));have hne:(onTheHeap (Value.ref C)&&Value.builtin "BaseException.__getattribute__" == Value.builtin "object.__getattribute__")=false:=by
  show(true&&_)=false;decide +kernel
 show wpAny _ _ (if (onTheHeap (Value.ref C)&&Value.builtin "BaseException.__getattribute__" == Value.builtin "object.__getattribute__")=true then _ else getAttrByItsOwn _ _ _ _ _ _) _ _ _;rw[hne,if_neg lK];unfold getAttrByItsOwn;refine aT ?_;show wpAny _ _ (typeLookup (.ref C) "__getattr__") _ _ _;refine L2.here ?_;refine aT (wpAny_attempt (G7 ?_));have hcg:callGetattribute (.ref x) nameV (.builtin "BaseException.__getattribute__") expr=boundAndCalled (.builtin "BaseException.__getattribute__") (.ref x) nameV:=by
  unfold callGetattribute;rw[if_neg (by cases expr<;>decide)]
 rw[hcg];unfold boundAndCalled;rw[AH];refine aT (cC ?_);refine Il (codeAny_call_builtin wF F.entry_bexc_ga (Iy X c I (he _ _ _ ?_)));show wpAny _ _ (handedOut v) _ _ _;rw[handedOut_of hv];exact cC h
theorem Hr{Q:Option Value->Shared->Prop}(X:K.In s.heap)(c:qS K C)(I:InstAt s.heap x ox C od)(h:Q (some (.ref C)) { s with toks:=s.toks+1 }):wpAny (model prog w) A (getAttr? (.ref x) "__class__") Q E s:=by
 unfold getAttr? getAttrBy?;refine aT (wpAny_mkText (aT (wpAny_attempt ?_)));exact Mt (s:={ s with toks:=s.toks+1 }) X c I (λA E Q q=>lT (s:={ s with toks:=s.toks+1 }) X c I q) rfl (cC h)
theorem Kb{v:Value}{expr:Bool}{Q:Vs}(X:K.In s.heap)(c:qS K C)(I:InstAt s.heap x ox C od)(hf:findObj K C od name=some (.value v))(hv:handedIn v=true)
  (h:Q v { s with toks:=s.toks+1 }):wpAny (model prog w) A (getAttr (.ref x) name expr) Q E s:=by
 unfold getAttr;refine aT (wpAny_mkText ?_);exact Mt (s:={ s with toks:=s.toks+1 }) X c I (λA E Q q=>lU (s:={ s with toks:=s.toks+1 }) X I hf q) hv h
theorem vz{ox:Obj}{od:Option Obj}(c:qS K C):KitX K (.ref x) (.ref C) (λh=>InstAt h x ox C od) where
 ty:=λ_ _ _ I=>I.type
 it:=λ_ _ X _=>by
  obtain⟨cdD,hcD⟩:=jS c.mo;unfold clsIn at hcD;split at hcD
  ·rename_i c' d' cd' sl' ho;intro A' Q' E' s' k q;unfold isType loadHead;exact aT (wpAny_loadPart (k _ _ (X _ _ ho)) (cC q))
  ·cases hcD
 ne:=λh tp dd its n sl X htp=>by
  obtain⟨cdD,hcD⟩:=jS c.mo;refine Bool.eq_false_iff.mpr λq=>?_;have e:C=tp:=Value.ref.inj (beq_iff_eq.mp q);subst e;unfold clsIn at hcD;split at hcD
  ·rename_i c' d' cd' sl' ho;have z:=(X _ _ ho).symm.trans htp;cases z
  ·cases hcD
 ca:=λX I k=>Hr X c I k
end
end L2
namespace L2
open PySem PySem.Spec PyProof.Rows
structure Catch(K:Wf)(B C:Addr):Prop where
 ty:instIn K (.ref B) (.type "tuple")=some false
 bb:mroIn K B (.type "BaseException")=some true
 sub:mroIn K C (.ref B)=some true
theorem zV{K:Wf}{M:Model}{h:Heap}{C:Addr}{cd:ClassData}(X:K.In h)(hc:clsIn K C=some cd):PySem.W.Looks M h (isType (.ref C)) true:=by
 unfold clsIn at hc;split at hc
 ·rename_i c' d' cd' sl' ho;intro A' Q' E' s' k q;unfold isType loadHead;exact aT (wpAny_loadPart (k _ _ (X _ _ ho)) (cC q))
 ·cases hc
theorem gO{K:Wf}{M:Model}{A:Around}{E:Vs}{s:Shared}{a B C:Addr}{ox:Obj}{od:Option Obj}{Q:Bool->Shared->Prop}(X:K.In s.heap)(I:PySem.W.InstAt s.heap a ox C od)(c:Catch K B C)(h:Q true s):
  wpAny M A (excMatches (.ref a) (.ref B)) Q E s:=by
 obtain⟨cd,hcd⟩:=jS c.bb;have L0:=PySem.W.looks_instIn (M:=M) X c.ty;have L1:=zV (M:=M) X hcd;have L2:=looks_mroIn (M:=M) X c.bb;have L3:=I.type (M:=M);have L4:=looks_mroIn (M:=M) X c.sub;unfold excMatches;refine aT (L0.here ?_);simp only[Bool.false_eq_true,if_false];refine aT (cC ?_);rw[List.forIn_cons];refine aT (aT (aT ?_));unfold isExcClass;refine aT (L1.here ?_);simp only[if_true];refine L2.here ?_;simp only[Bool.not_true,Bool.false_eq_true,if_false];refine cC ?_;simp only[List.forIn_nil];refine cC ?_;refine aT (L3.here ?_);rw[List.forIn_cons];refine aT (aT (aT (L4.here ?_)));simp only[if_true];exact cC (cC (cC h))
noncomputable abbrev Cx.hand(X:Cx)(a:Addr):Cx:={ X with A:=X.A.mark (some (.ref a)),calm:=false,xe:=λ_ _=>False }
theorem Cx.Ok.hand{X:Cx}(ok:X.Ok)(a:Addr):(X.hand a).Ok:=
 ⟨ok.mod,ok.kind,ok.glob,ok.blt,ok.above,ok.inj,ok.has,ok.KJ,(λz=>by cases z),ok.frames,ok.Ir,ok.Mf,ok.bs,ok.GK,ok.wa,ok.uQ,ok.h_,ok.Ig⟩
section
variable{X:Cx}{pins:Lo}{σ:St}{H:Hp}{s:Shared}{a:Addr}
theorem Inv.hand(I:Inv X pins σ H s)(a:Addr):Inv (X.hand a) pins σ H s:=⟨I.ok.hand a,I.os,I.bare,I.base,I.loc,I.cell,I.free,I.eJ,I.pin,I.aN,I.len⟩
theorem Inv.eN(ok:X.Ok)(I:Inv (X.hand a) pins σ H s):Inv X pins σ H s:=⟨ok,I.os,I.bare,I.base,I.loc,I.cell,I.free,I.eJ,I.pin,I.aN,I.len⟩
theorem SP.eN(ok:X.Ok){D:Ends}{f:Flow}{s':Shared}(h:SP (X.hand a) pins D f s'):SP X pins D f s':=by
 cases f with
 |next=>obtain⟨σ',H',I,q⟩:=h;exact⟨σ',H',I.eN ok,q⟩
 |brk=>obtain⟨σ',H',I,q⟩:=h;exact⟨σ',H',I.eN ok,q⟩
 |cont=>obtain⟨σ',H',I,q⟩:=h;exact⟨σ',H',I.eN ok,q⟩
 |ret u=>obtain⟨v,σ',H',I,r,q⟩:=h;exact⟨v,σ',H',I.eN ok,r,q⟩
end
noncomputable def XO(a C:Addr)(dx:Option Addr):HO:=.ext λh=>∃ob vs,h.get? a=some ob/\ob.cls=.ref C/\ob.dict=dx/\ob.data=.fields vs
theorem XO.ok{P:Program}{w:World}{H:Hp}{h:Heap}{a C:Addr}{dx:Option Addr}{fl:Value}{T:Addr}(x:eM h a (.ref C) dx fl T):a_ P w H h a (XO a C dx):=by
 obtain⟨oe,vs,oT,ts,he,hc,hdx,hd,_⟩:=x;exact⟨⟨oe,vs,he,hc,hdx,hd⟩,⟨oe,he⟩,λh1 h2 ⟨ob,ws,q,r⟩ k=>⟨ob,ws,k _ q,r⟩⟩
noncomputable abbrev XS:=St->XK
def XP(X:Cx)(pins:Lo)(E:XS)(e:Value)(s':Shared):Prop:=∃σ H s,Inv X pins σ H s/\An X.prog X.w X.stack H s (E σ) e s'
noncomputable abbrev F0:=St->Hp->VK->XK->Prop
noncomputable abbrev A2:=Ends->XS->St->Hp->Prop
def Tc(X:Cx)(e:Expr)(t:F0):Prop:=∀(pins:Lo) (s:Shared) (σ:St) (H:Hp) (Q:VK) (E:XS),Inv X pins σ H s->t σ H Q (E σ)->
 wpAny (model X.prog X.w) X.A (eval e X.env) (EP X pins σ Q) (XP X pins E) s
def S8(X:Cx)(st:Stmt)(t:A2):Prop:=∀(pins:Lo) (s:Shared) (σ:St) (H:Hp) (D:Ends) (E:XS),Inv X pins σ H s->t D E σ H->
 wpAny (model X.prog X.w) X.A (exec st X.env) (SP X pins D) (XP X pins E) s
def Cg(X:Cx)(st:List Stmt)(t:A2):Prop:=∀(pins:Lo) (s:Shared) (σ:St) (H:Hp) (D:Ends) (E:XS),Inv X pins σ H s->t D E σ H->
 wpAny (model X.prog X.w) X.A (execs st X.env) (SP X pins D) (XP X pins E) s
section
variable{X:Cx}{k:Nat}{f C:Addr}{fd:FuncData}{ps:List Str}{sp:Sp}{dvs:List V}{ds:List Value}{x m:Str}{p pos apos:Pos}{e o:Expr}{es:List Expr}{ta:TE}{t:TA}
theorem RD{pins:Lo}{σ:St}{H:Hp}{s:Shared}{Q:VK}{E:XS}{us:List Value}{vs:List V}(F:bo X.prog X.w X.K X.mg X.base (An X.prog X.w) k f fd ps sp)(hr:cR k X.A)(hb:Binds X.K fd ps ds)(hd:Vals dvs ds)
  (I:Inv X pins σ H s) (r:Vals vs us) (h:sp (vs++dvs) H Q (E σ)):wpAny (model X.prog X.w) X.A (call (.ref f) us) (EP X pins σ Q) (XP X pins E) s:=by
 have r2:Vals (vs++dvs) (us++ds):=r.append hd;have hl:(us++ds).length=ps.length:=by rw[<-r2.length];exact F.len _ _ _ _ h
 refine Il (codeAny_mono (F.run X.A X.stack s H ⟨us,[]⟩ (us++ds) (vs++dvs) Q (E σ) hr I.Iz (hb s us I.fk hl) r2 h) λr s' hq=>?_);cases r with
 |error e=>exact⟨σ,H,s,I,hq⟩
 |ok fl=>
  cases fl with
  |ret u=>exact I.after hq
  |next=>exact False.elim hq
  |brk=>exact False.elim hq
  |cont=>exact False.elim hq
noncomputable def Ng(sp:Sp)(dvs:List V)(t:TA):F0:=λσ H Q E=>t σ H λvs H1=>sp (vs++dvs) H1 Q E
noncomputable def S6(C:Addr)(m:Str)(sp:Sp)(dvs:List V)(ta:TE)(t:TA):F0:=λσ H Q E=>ta σ H λx H1=>∃a dx fs,x=.ref a/\H1 a=some (.ins C dx fs)/\fs.lookup m=none/\
 t σ H1 λvs H2=>sp (x::(vs++dvs)) H2 Q E
theorem Ss{α:Type}{t:Sem α}{Q:α->Shared->Prop}{M:Model}{A:Around}{E:Vs}{s:Shared}(h:wpAny M A t Q (λ_ _=>False) s):wpAny M A t Q E s:=iO h (λ_ _ q=>q) λ_ _ z=>False.elim z
theorem vd(F:bo X.prog X.w X.K X.mg X.base (An X.prog X.w) k f fd ps sp)(hr:cR k X.A)(hg:Gl X x)(hm:X.mg x=some (.ref f))(hk:keepIn X.K (.ref f)=true)(hb:Binds X.K fd ps ds)(hd:Vals dvs ds)
  (ha:PA X.Mn (e::es) t) (hdb:(x == ("__debug__" : Str))=false:=by decide) (he:starEach (e::es) X.env=(false,eval e X.env)::starEach es X.env:=by rfl) (hpl:(backTo pos (starEach es X.env)).any (·.1)=false:=by rfl):
  Tc X (.Call (.Name x p) (e::es) [] pos) (Ng sp dvs t):=by
 intro pins s σ H Q E I h;refine Ll (dm I hg hm ?_ hdb);refine callWith_K (h₀:=X.base) I.ok.mod.Hq hk (Ss (bx (ha pos pins s σ H _ (I.gW _) h) λus s1 ⟨vs,H1,I1,r,q⟩=>⟨I1.fk,?_⟩)) he hpl;exact RD F hr hb hd I1.dz r q
end
section
variable{X:Cx}{st:Stmt}{rest:List Stmt}{t:TS}{tx ux:A2}{e:Expr}{te:F0}{pos:Pos}
noncomputable def Ov(te:F0):A2:=λD E σ H=>te σ H (λ_ H1=>D.nx σ H1) (E σ)
theorem vi(he:Tc X e te)(hs:swapsWith e none pos.line X.env=pure false:=by rfl):S8 X (.Expr e pos) (Ov te):=by
 intro pins s σ H D E I h;exact wpAny_Expr_any (bx (he pins s σ H _ E I h) λv s1 ⟨x,H1,I1,r1,q1⟩=>⟨σ,H1,I1,q1⟩) I.quiet hs
noncomputable def Ub(i:Nat)(te:F0):A2:=λD E σ H=>te σ H (λv H1=>D.nx (σ.set i (some v)) H1) (E σ)
noncomputable def Us(te:F0):A2:=λD E σ H=>te σ H D.rt (E σ)
noncomputable def UE(t:TS):A2:=λD _ σ H=>t D σ H
noncomputable def Tz(t u:A2):A2:=λD E σ H=>t { D with nx:=u D E } E σ H
theorem uE(h1:S8 X st tx):Cg X [st] tx:=by
 intro pins s σ H D E I h;refine wpAny_execs_cons (bx (h1 pins s σ H D E I h) λf s1 q=>?_);cases f with
 |next=>exact LS q
 |ret v=>exact q
 |brk=>exact q
 |cont=>exact q
end
structure gI(X:Cx)(H:Hp)(s:Shared)(a T:Addr)(cls:Value)(dx:Option Addr)(H':Hp)(s':Shared):Prop where
 os:s'.os=s.os
 bare:AllBare s'.gens
 un:Un (hZ X.stack) [] H H' s.heap s'.heap
 aN:eQ X.prog X.w H' s'.heap
 fa:s.heap.get? a=none
 fT:s.heap.get? T=none
 na:H' a=none
 nT:H' T=none
 ex:eM s'.heap a cls dx .none T
section
variable{X:Cx}{pins:Lo}{σ:St}{H H':Hp}{s s':Shared}{a T:Addr}{cls:Value}{dx:Option Addr}{M:Model}{A:Around}{E:Vs}
theorem gI.inv(L:gI X H s a T cls dx H' s')(I:Inv X pins σ H s):Inv X pins σ H' s':=I.xr (ch:=[]) L.os L.un L.aN L.bare λb hb=>absurd hb (by simp)
theorem gI.left{h':Heap}(L:gI X H s a T cls dx H' s')(I:Inv X pins σ H s)(x:eR (hZ X.stack) a T cls dx .none s'.heap h'):∃T',gI X H s a T' cls dx H' { s' with heap:=h' }:=by
 have J:=L.inv I;have na:∀b o,s.heap.get? b=some o->b≠a:=λb o e z=>by rw[z,L.fa]at e;cases e
 have nT:∀b o,s.heap.get? b=some o->b≠T:=λb o e z=>by rw[z,L.fT]at e;cases e
 obtain⟨T',hT,y⟩:=x.exc;have hT':s.heap.get? T'=none:=by
  cases q:s.heap.get? T' with
  |none=>rfl
  |some o=>
   obtain⟨o',q'⟩:=L.un.there T' o q (by simp);exact absurd (kh (dj q') hT) (ku _)
 refine⟨T',L.os,L.bare,⟨λb o e n hb hx=>x.keep b o hb (na b o e) (nT b o e) (L.un.keep b o e n hb hx),λb o e n hb hx=>?_,L.un.free,λb o e hx=>?_,L.un.ij,L.un.g8,L.un.ia⟩,?_,L.fa,hT',L.na,L.aN.fresh hT,y⟩
 ·obtain⟨sl,q⟩:=L.un.slot b o e n hb hx;obtain⟨sl2,q2⟩:=x.slot b _ hb (na b o e) (nT b o e) q;exact⟨sl2,q2⟩
 ·obtain⟨o',q⟩:=L.un.there b o e hx;exact x.there b o' q
 ·refine L.aN.tracked λb o u hb q=>x.keep b o (λz=>?_) (λz=>by rw[z,L.na]at hb;cases hb) (λz=>by rw[z,L.nT]at hb;cases hb) q;have:=J.ik b z;rw[this]at hb;cases hb
theorem gI.off{h':Heap}(L:gI X H s a T cls dx H' s')(k:∀b o,b≠T->s'.heap.get? b=some o->h'.get? b=some o)(hT:∃o,h'.get? T=some o)(y:eM h' a cls dx .none T):gI X H s a T cls dx H' { s' with heap:=h' }:=by
 have nT:∀b o,s.heap.get? b=some o->b≠T:=λb o e z=>by rw[z,L.fT]at e;cases e
 refine⟨L.os,L.bare,⟨λb o e n hb hx=>k b o (nT b o e) (L.un.keep b o e n hb hx),λb o e n hb hx=>?_,L.un.free,λb o e hx=>?_,L.un.ij,L.un.g8,L.un.ia⟩,?_,L.fa,L.fT,L.na,L.nT,y⟩
 ·obtain⟨sl,q⟩:=L.un.slot b o e n hb hx;exact⟨sl,k b _ (nT b o e) q⟩
 ·obtain⟨o',q⟩:=L.un.there b o e hx;exact⟨o',k b o' (nT b o e) q⟩
 ·exact L.aN.tracked λb o u hb q=>k b o (λz=>by rw[z,L.nT]at hb;cases hb) q
theorem gI.Nc{C:Addr}(L:gI X H s a T (.ref C) dx H' s')(I:Inv X pins σ H s):Inv X pins σ (upd H' a (XO a C dx)) s':=by
 have na:∀b o,s.heap.get? b=some o->b≠a:=λb o e z=>by rw[z,L.fa]at e;cases e
 have up:∀b u,H' b=some u->upd H' a (XO a C dx) b=some u:=λb u q=>by rw[ae (cT q L.na)];exact q
 refine I.xr (ch:=[]) L.os ⟨L.un.keep,L.un.slot,λb o e n hx=>?_,L.un.there,λb xs q=>up b _ (L.un.ij b xs q),λb o u q=>up b _ (L.un.g8 b o u q),λb ps q=>?_⟩ (λb u q=>?_) L.bare λb hb=>absurd hb (by simp)
 ·rw[ae (na b o e)];exact L.un.free b o e n hx
 ·obtain⟨m,z⟩:=L.un.ia b ps q;exact⟨m,up b _ z⟩
 ·by_cases hb:b=a
  ·subst hb;rw[aE]at q;cases q;exact XO.ok L.ex
  ·rw[ae hb]at q;exact(L.aN b u q).iH (λc v _ q=>q) (λc q=>up c _ q) λc xs q=>up c _ q
def AK(dx:Option Addr)(H:Hp):Prop:=dx=none\/∃d fs,dx=some d/\H d=some (.xd fs)
theorem gI.inst{C:Addr}(L:gI X H s a T (.ref C) dx H' s')(hd:AK dx H'):∃ox od,PySem.W.InstAt s'.heap a ox C od:=by
 obtain⟨oe,vs,oT,ts,he,hc,hdx,hdt,_⟩:=L.ex;rcases hd with e|⟨d,fs,e,hd⟩
 ·refine⟨oe,none,he,hc,?_,?_⟩
  ·unfold notCls;rw[hdt]
  ·rw[hdx,e];trivial
 ·obtain⟨o,q⟩:=(L.aN d _ hd).there;refine⟨oe,some o,he,hc,?_,?_⟩
  ·unfold notCls;rw[hdt]
  ·rw[hdx,e];exact q
theorem l7{R:Shared->Prop}(hst:X.stack=X.env::X.outer)(hfr:X.env.frame=some X.env.locals)(L:gI X H s a T cls dx H' s')(I:Inv X pins σ H s)
  (h:∀T' s3,gI X H s a T' cls dx H' s3->R s3):wpAny M X.A (noteFrame (.ref a) X.env) (λ_ s2=>wpAny M X.A (setFlight (.ref a) none) (λ_ s3=>R s3) E s2) E s':=by
 have J:=L.inv I;refine iK (base:=X.base) (by rw[J.ok.frames,hst]) (by rw[<-hst];exact J.stack) hfr L.ex λh1 x=>?_;obtain⟨T1,hT,y⟩:=x.exc;refine c9 (s:={ s' with heap:=h1 }) y λh2 k hT2 z=>?_;obtain⟨T2,L2⟩:=L.left (h':=h2) I (by rw[hst];exact x.off hT k hT2 z);exact h T2 _ L2
theorem gC{i:Nat}{n:Str}{pos:Pos}{Q:Unit->Shared->Prop}(I:Inv X pins σ H s)(hN:X.N.Nodup)(hi:X.N[i]?=some n)(hk:X.env.scope.names.lookup n=some .local)(h:∀s',Inv X pins (σ.set i none) H s'->Q () s'):
  wpAny M A (do bindName X.env n .none;unbindBehindTheSuite X.env n pos) Q E s:=by
 obtain⟨m,hn,hl⟩:=id I.loc;have hcls:(X.env.scope.kind == .class || (X.env.scope.kind == .module&&X.env.locals != X.env.globals))=false:=by rw[I.ok.kind];rfl
 have hiσ:i<σ.length:=by rw[I.len];exact(we.mp hi).1
 have Cn:=I.Cn;refine wpAny_nameGoes_keeps hk hn hcls λh' v hn' hs=>?_;obtain⟨oL,_,_,hoL,_⟩:=id hn;refine h _ ⟨I.ok,I.os,I.bare,⟨λb o e n hb hx=>?_,λb o e n hb hx=>?_,I.base.free,λb o e hx=>?_,I.base.ij,I.base.g8,I.base.ia⟩,⟨_,hn',λj y v' e1 e2 e3=>?_⟩,λy c e=>?_,I.free,I.eJ,λp hp=>?_,λb ob e=>?_,by simpa using I.len⟩
 ·exact(hs.2 b (lE (kh (dj e) I.ok.above))).trans (I.base.keep b o e n hb hx)
 ·obtain⟨sl,e1⟩:=I.base.slot b o e n hb hx;exact⟨sl,(hs.2 b (lE (kh (dj e) I.ok.above))).trans e1⟩
 ·obtain⟨o',e1⟩:=I.base.there b o e hx;exact⟨o',(hs.2 b (lE (kh (dj e) I.ok.above))).trans e1⟩
 ·by_cases hj:j=i
  ·subst hj;rw[List.getElem?_set_self hiσ]at e2;cases e2
  ·rw[List.getElem?_set_ne (Ne.symm hj)]at e2;obtain⟨u',r',q⟩:=hl j y v' e1 e2 e3;refine⟨u',r',?_⟩;rcases q with ⟨k,e⟩|⟨k,c,e,z⟩
   ·refine .inl ⟨k,?_⟩;have:y≠n:=λe=>hj (lB hN e1 (e▸hi));simp[this,e]
   ·exact .inr ⟨k,c,e,z.sameBut hs (Cn y c e)⟩
 ·obtain⟨w',z⟩:=I.cell y c e;exact⟨w',z.sameBut hs (Cn y c e)⟩
 ·obtain⟨e,n,ne,nf,d⟩:=I.pin p hp;exact⟨(hs.2 p.1 ne).trans e,n,ne,nf,d⟩
 ·refine(I.aN b ob e).iH (λc w' hc q=>(hs.2 c ?_).trans q) (λ_ q=>q) λ_ _ q=>q;rintro rfl;have fr:=I.free;rcases hc with rfl|hc
  ·rw[fr]at e;cases e
  ·rw[fr]at hc;cases hc
end
noncomputable def Sx(i:Nat)(D:Ends):Ends:={ nx:=λσ H=>D.nx (σ.set i none) H,rt:=D.rt,bk:=λσ H=>D.bk (σ.set i none) H,ct:=λσ H=>D.ct (σ.set i none) H }
def Cm(K:Wf)(B:Addr)(i:Nat)(tb:A2)(th:TS):TS:=λD σ H=>
 tb D (λσ' cls dx H'=>∃C,cls=.ref C/\Catch K B C/\AK dx H'/\∀a,H' a=none->th (Sx i D) (σ'.set i (some (.ref a))) (upd H' a (XO a C dx))) σ H
def J7(K:Wf)(B:Addr)(tb:A2)(th:TS):TS:=λD σ H=>
 tb D (λσ' cls dx H'=>∃C,cls=.ref C/\Catch K B C/\AK dx H'/\th D σ' H') σ H
section
variable{X:Cx}{body suite:List Stmt}{b₀:Stmt}{x n:Str}{B:Addr}{i:Nat}{np hpos pos:Pos}{tb:A2}{th:TS}
theorem Ek(hst:X.stack=X.env::X.outer)(hfr:X.env.frame=some X.env.locals)(hN:X.N.Nodup)(hi:X.N[i]?=some n)(hlo:X.env.scope.names.lookup n=some .local)(hg:Gl X x)(hm:X.mg x=some (.ref B))(hb:Cg X body tb)
  (hs:∀a,lV (X.hand a) (b₀::suite) th) (hd:(x == ("__debug__" : Str))=false:=by decide):PS X (.Try body [.ExceptHandler (some (.Name x np)) (some n) (b₀::suite) hpos] [] [] pos) (Cm X.K B i tb th):=by
 intro pins s σ H D I h;refine wpAny_Try_except (iO (hb pins s σ H D _ I h) (λf s1 q=>?_) λe s1 hx=>?_)
 ·cases f with
  |next=>exact LS q
  |ret v=>exact q
  |brk=>exact q
  |cont=>exact q
 ·obtain⟨σ1,H1,s2,I1,a,T,cls,dx,H',rfl,ho,hg',u,aN,ha,hT,hHa,hHT,y,C,rfl,hcat,hdx,hth⟩:=hx;have L:gI X H1 s2 a T (.ref C) dx H' s1:=⟨ho,hg',u,aN,ha,hT,hHa,hHT,y⟩
  refine l7 hst hfr L I1 λT3 s3 L3=>?_;have J:=L3.inv I1;obtain⟨ox,od,ins⟩:=L3.inst hdx;refine wpAny_handleBy_cons (codeAny_handlers_test (dm (X:=X.hand a) (J.hand a) hg hm ?_ hd)) (by intro q;cases q);refine gO J.fk ins hcat ?_;refine codeAny_handlers_suite_as ?_;refine c9 L3.ex λh4 k4 hT4 y4=>?_;have J4:=(L3.off k4 hT4 y4).Nc I1;refine h8 (X:=X.hand a) (J4.hand a) hN hi (.inl hlo) (v:=.ref a) rfl (λs5 I5=>?_) (.inr hlo);refine Ss (bx (hs a pins s5 _ _ (Sx i D) I5 (hth a hHa)) λf s6 q=>?_);have ok:=I.ok;cases f with
  |next=>
   obtain⟨σ',H2,I6,q⟩:=q;exact gC (I6.eN ok) hN hi hlo λs7 I7=>⟨_,H2,I7,q⟩
  |brk=>
   obtain⟨σ',H2,I6,q⟩:=q;exact gC (I6.eN ok) hN hi hlo λs7 I7=>⟨_,H2,I7,q⟩
  |cont=>
   obtain⟨σ',H2,I6,q⟩:=q;exact gC (I6.eN ok) hN hi hlo λs7 I7=>⟨_,H2,I7,q⟩
  |ret v=>
   obtain⟨v',σ',H2,I6,r,q⟩:=q;exact gC (I6.eN ok) hN hi hlo λs7 I7=>⟨v',_,H2,I7,r,q⟩
theorem HQ(hst:X.stack=X.env::X.outer)(hfr:X.env.frame=some X.env.locals)(hg:Gl X x)(hm:X.mg x=some (.ref B))(hb:Cg X body tb)
  (hs:∀a,lV (X.hand a) (b₀::suite) th) (hd:(x == ("__debug__" : Str))=false:=by decide):PS X (.Try body [.ExceptHandler (some (.Name x np)) none (b₀::suite) hpos] [] [] pos) (J7 X.K B tb th):=by
 intro pins s σ H D I h;refine wpAny_Try_except (iO (hb pins s σ H D _ I h) (λf s1 q=>?_) λe s1 hx=>?_)
 ·cases f with
  |next=>exact LS q
  |ret v=>exact q
  |brk=>exact q
  |cont=>exact q
 ·obtain⟨σ1,H1,s2,I1,a,T,cls,dx,H',rfl,ho,hg',u,aN,ha,hT,hHa,hHT,y,C,rfl,hcat,hdx,hth⟩:=hx;have L:gI X H1 s2 a T (.ref C) dx H' s1:=⟨ho,hg',u,aN,ha,hT,hHa,hHT,y⟩
  refine l7 hst hfr L I1 λT3 s3 L3=>?_;have J:=L3.inv I1;obtain⟨ox,od,ins⟩:=L3.inst hdx;refine wpAny_handleBy_cons (codeAny_handlers_test (dm (X:=X.hand a) (J.hand a) hg hm ?_ hd)) (by intro q;cases q);refine gO J.fk ins hcat ?_;refine codeAny_handlers_suite ?_;refine c9 L3.ex λh4 k4 hT4 y4=>?_;have J4:=(L3.off k4 hT4 y4).inv I1;refine Ss (bx (hs a pins _ _ _ D (J4.hand a) hth) λf s6 q=>?_);exact q.eN I.ok
theorem AX{K:Wf}(e:X.K=K)(hst:X.stack=X.env::X.outer)(hfr:X.env.frame=some X.env.locals)(hN:X.N.Nodup)(hi:X.N[i]?=some n)(hlo:X.env.scope.names.lookup n=some .local)(hg:Gl X x)(hm:X.mg x=some (.ref B))(hb:Cg X body tb)
  (hs:∀a,lV (X.hand a) (b₀::suite) th) (hd:(x == ("__debug__" : Str))=false:=by decide):PS X (.Try body [.ExceptHandler (some (.Name x np)) (some n) (b₀::suite) hpos] [] [] pos) (Cm K B i tb th):=e▸Ek hst hfr hN hi hlo hg hm hb hs hd
theorem Di{K:Wf}(e:X.K=K)(hst:X.stack=X.env::X.outer)(hfr:X.env.frame=some X.env.locals)(hg:Gl X x)(hm:X.mg x=some (.ref B))(hb:Cg X body tb)
  (hs:∀a,lV (X.hand a) (b₀::suite) th) (hd:(x == ("__debug__" : Str))=false:=by decide):PS X (.Try body [.ExceptHandler (some (.Name x np)) none (b₀::suite) hpos] [] [] pos) (J7 K B tb th):=e▸HQ hst hfr hg hm hb hs hd
end
section
variable{X:Cx}
def Sg(z:Str):Prop:=∀c∈z.cps.toList,c<16 ^ 8
def O_(t:TE):TE:=λσ H Q=>t σ H λx H1=>∃z,x=.str z/\(reprText z).length<=sizeLine/\Q (.str (reprText z)) H1
theorem HX{e:Expr}{t:TE}{pos:Pos}(he:PE X e t):PE X (.FormattedValue e 114 none pos) (O_ t):=by
 intro pins s σ H Q I h;refine wpAny_FormattedValue_repr (bx (he pins s σ H _ I h) λv s1 ⟨x,H1,I1,r1,z,ez,hz,q⟩=>?_);subst ez;obtain⟨t',rfl⟩:=r1;refine pyReprObj_str ?_ hz;exact formatField_str (λt'' tk=>⟨.str (reprText z),H1,I1.tok tk,⟨t'',rfl⟩,q⟩) hz
def Qx(t:TE):TE:=λσ H Q=>t σ H λx H1=>(∃z,x=.str z/\z.length<=sizeLine/\Q (.str z) H1)\/∃i:Int,x=.int i/\i.natAbs.log2<1920/\Q (.str (toString i)) H1
theorem dY{e:Expr}{t:TE}{pos:Pos}(he:PE X e t):PE X (.FormattedValue e (-1) none pos) (Qx t):=by
 intro pins s σ H Q I h;refine FormattedValue_plain (bx (he pins s σ H _ I h) λv s1 ⟨x,H1,I1,r1,q⟩=>?_);rcases q with ⟨z,rfl,hz,q⟩|⟨i,rfl,hi,q⟩
 ·obtain⟨t',rfl⟩:=r1;exact formatField_str (λt'' tk=>⟨.str z,H1,I1.tok tk,⟨t'',rfl⟩,q⟩) hz
 ·obtain⟨t',rfl⟩:=r1;exact formatField_int_small hi ⟨.str (toString i),H1,I1.tok _,⟨_,rfl⟩,q⟩
noncomputable abbrev TJ:=Str->St->Hp->VK->Prop
def PJ(X:Cx)(es:List Expr)(t:TJ):Prop:=∀(acc:Str) (pins:Lo) (s:Shared) (σ:St) (H:Hp) (Q:VK),Inv X pins σ H s->t acc σ H Q->
 wpAny (model X.prog X.w) X.A (joinParts acc (evalEach es X.env)) (EP X pins σ Q) X.xe s
noncomputable def PY:TJ:=λacc _ H Q=>acc.length<=sizeLine/\Q (.str acc) H
noncomputable def Pn(t:TE)(u:TJ):TJ:=λacc σ H Q=>t σ H λx H1=>∃y,x=.str y/\(acc++y).length<=sizeLine/\u (acc++y) σ H1 Q
theorem gZ:PJ X [] PY:=λacc pins s σ H Q I h=>joinParts_nilE (joinParts_nil ⟨.str acc,H,I.tok _,⟨_,rfl⟩,h.2⟩ h.1)
theorem eD{e:Expr}{es:List Expr}{t:TE}{u:TJ}(he:PE X e t)(hr:PJ X es u):PJ X (e::es) (Pn t u):=by
 intro acc pins s σ H Q I h;refine joinParts_consE (joinParts_cons (bx (he pins s σ H _ I h) λv s1 ⟨x,H1,I1,r1,y,ey,hy,q⟩=>?_));subst ey;obtain⟨t',rfl⟩:=r1;exact⟨hy,hr (acc++y) pins s1 σ H1 Q I1 q⟩
def Iu(t:TJ):TE:=λσ H Q=>t Str.empty σ H Q
theorem c_{v₁ v₂:Expr}{rest:List Expr}{pos:Pos}{t:TJ}(h:PJ X (v₁::v₂::rest) t):PE X (.JoinedStr (v₁::v₂::rest) pos) (Iu t):=
 λpins s σ H Q I hw=>JoinedStr_many (h Str.empty pins s σ H Q I hw)
theorem yX:∀{zs:List Str}{us:List Value},Vals (zs.map V.str) us->∃l:List (Str×Tok),us=strValues l/\l.map (·.1)=zs
 |[],_,.nil=>⟨[],rfl,rfl⟩
 |z::zs,_,.cons ⟨t,e⟩ r=>by
  obtain⟨l,h1,h2⟩:=yX r;subst e;exact⟨(z,t)::l,by rw[h1];rfl,by simp[h2]⟩
noncomputable def rJoin(K:Wf):V->List V->Hp->VK->Prop:=λx vs H Q=>∃z a zs,x=.str z/\vs=[.ref a]/\aC K H a (zs.map V.str)/\JoinOk z zs=true/\Q (.str (Txt.join z zs)) H
theorem IK:J6 X "str.join" (rJoin X.K):=by
 intro pins s σ H x vs v us Q I rx rv h;obtain⟨z,a,zs,rfl,rfl,hS,aN,q⟩:=h;obtain⟨t,rfl⟩:=rx;obtain⟨u,rfl,ru⟩:=rv.one;cases ru;obtain⟨its,r,p,_⟩:=I.list hS;obtain⟨l,e1,e2⟩:=yX r;subst e1;refine SC.join (l:=l) p.isList e2 aN λt' k=>⟨.str (Txt.join z zs),H,I.tok k,⟨t',rfl⟩,q⟩
theorem lA{K:Wf}(e:X.K=K):J6 X "str.join" (rJoin K):=e▸IK
def PR(K:Wf)(H:Hp)(x:V)(t:Value):Prop:=h9 K H x t\/∃a C dx,x=.ref a/\t=.ref C/\H a=some (XO a C dx)/\AK dx H/\qS K C
noncomputable def PK:V->Value
 |.ref a=>.ref a
 |.ty n=>.type n
 |_=>.none
noncomputable def IB:V->Bool
 |.ref _=>true
 |.ty _=>true
 |_=>false
theorem yZ{pins:Lo}{σ:St}{H:Hp}{s:Shared}{a C:Addr}{dx:Option Addr}(I:Inv X pins σ H s)(e:H a=some (XO a C dx))(hd:AK dx H):∃ox od,PySem.W.InstAt s.heap a ox C od:=by
 obtain⟨⟨ob,vs,he,hc,hdx,hdt⟩,_⟩:=I.aN a _ e;rcases hd with e|⟨d,fs,e,hd⟩
 ·refine⟨ob,none,he,hc,?_,?_⟩
  ·unfold notCls;rw[hdt]
  ·rw[hdx,e];trivial
 ·obtain⟨o,q⟩:=(I.aN d _ hd).there;refine⟨ob,some o,he,hc,?_,?_⟩
  ·unfold notCls;rw[hdt]
  ·rw[hdx,e];exact q
noncomputable def OE(K:Wf):List V->Hp->VK->Prop:=λxs H Q=>∃x c t b,xs=[x,c]/\IB c=true/\PR K H x t/\kitOne K t (PK c)=some b/\Q (.bl b) H
theorem yC{c:V}{u:Value}(h:IB c=true)(r:RelV c u):u=PK c:=by
 cases c<;>first|exact r|cases h
theorem FX:dG X (.builtin "isinstance") (OE X.K):=by
 intro pins s σ H xs us Q I r h;obtain⟨x,c,t,b,rfl,hc,ty,e,q⟩:=h;obtain⟨u,u2,rfl,ru,ru2⟩:=vals2 r;have e2:=yC hc ru2;subst e2;rcases ty with ty|⟨a,C,dx,rfl,rfl,ha,hd,xc⟩
 ·exact ma I ru ty e λtk=>⟨.bl b,H,I.tok tk,rfl,q⟩
 ·cases ru;obtain⟨ox,od,J⟩:=yZ I ha hd;exact kia_one (vz xc) I.fk J e (λz=>nomatch z) λtk=>⟨.bl b,H,I.tok tk,rfl,q⟩
theorem yd:∀{cs:List V}{us:List Value},cs.all IB=true->Vals cs us->us=cs.map PK
 |[],_,_,.nil=>rfl
 |c::cs,_,h,.cons r rs=>by
  simp only[List.all_cons,Bool.and_eq_true]at h;rw[yC h.1 r,yd h.2 rs];rfl
noncomputable def Nw(K:Wf):List V->Hp->VK->Prop:=λxs H Q=>∃x tp cs t b,xs=[x,.ref tp]/\H tp=some (.tup cs)/\cs.all IB=true/\PR K H x t/\kitAny K t (cs.map PK)=some b/\Q (.bl b) H
theorem H_{pins:Lo}{σ:St}{H:Hp}{s:Shared}{x:V}{u t:Value}(I:Inv X pins σ H s)(rx:RelV x u)(ty:PR X.K H x t):∃φ,PySem.W.KitX X.K u t φ/\φ s.heap/\u≠.builtin "__main__.__loader__#opaque" := by
 rcases ty with ty|⟨a,C,dx,rfl,rfl,ha,hd,xc⟩
 ·cases ty with
  |aF=>cases (show u=Value.none from rx);exact⟨_,kitx_none,True.intro,λz=>nomatch z⟩
  |bl y=>cases (show u=Value.bool y from rx);exact⟨_,kitx_bool,True.intro,λz=>nomatch z⟩
  |int i=>obtain⟨t,q⟩:=(show ∃t,u=Value.int i t from rx);cases q;exact⟨_,kitx_int,True.intro,λz=>nomatch z⟩
  |str y=>obtain⟨t,q⟩:=(show ∃t,u=Value.str y t from rx);cases q;exact⟨_,kitx_str,True.intro,λz=>nomatch z⟩
  |G_ y=>obtain⟨t,q⟩:=(show ∃t,u=Value.float y t from rx);cases q;exact⟨_,kitx_float,True.intro,λz=>nomatch z⟩
  |@lst a xs ea=>
   cases (show u=Value.ref a from rx);obtain⟨_,_,n,_,h1⟩:=(show a_ X.prog X.w H s.heap a (.lst xs) from I.aN a _ ea)
   exact⟨_,kitx_list,⟨_,h1,rfl⟩,λz=>nomatch z⟩
  |@uM a ob xs ea=>
   cases (show u=Value.ref a from rx);obtain⟨_,_,_,n,_,h1⟩:=(show a_ X.prog X.w H s.heap a (.uM ob (.lst xs)) from I.aN a _ ea)
   exact⟨_,kitx_list,⟨_,h1,rfl⟩,λz=>nomatch z⟩
  |@tup a xs ea=>
   cases (show u=Value.ref a from rx);obtain⟨_,_,_,p⟩:=(show a_ X.prog X.w H s.heap a (.tup xs) from I.aN a _ ea)
   obtain⟨o,h1,h2,_⟩:=p;exact⟨_,kitx_tuple,⟨o,h1,h2⟩,λz=>nomatch z⟩
  |@dK a kvs ea=>
   cases (show u=Value.ref a from rx);obtain⟨_,_,vs,_,p⟩:=(show a_ X.prog X.w H s.heap a (.dK kvs) from I.aN a _ ea)
   obtain⟨o,es,ep,h1,h2,_⟩:=p;exact⟨_,kitx_dict,⟨o,h1,h2.1⟩,λz=>nomatch z⟩
  |@dT a kvs ea=>
   cases (show u=Value.ref a from rx);obtain⟨_,_,xs,_,o,es,ep,h1,h2,_⟩:=(show a_ X.prog X.w H s.heap a (.dT kvs) from I.aN a _ ea)
   exact⟨_,kitx_dict,⟨o,h1,h2.1⟩,λz=>nomatch z⟩
  |@ins a C dx fs ea cl ha hn htk hm=>
   cases (show u=Value.ref a from rx);obtain⟨mA,O,_⟩:=ie I.aN ea;obtain⟨od,J,_⟩:=O.look;exact⟨_,kitx_own (cl.get _) cl.hd ha hn htk hm,J,λz=>nomatch z⟩
 ·cases (show u=Value.ref a from rx);obtain⟨ox,od,J⟩:=yZ I ha hd;exact⟨_,vz xc,J,λz=>nomatch z⟩
theorem DW:dG X (.builtin "isinstance") (Nw X.K):=by
 intro pins s σ H xs us Q I r h;obtain⟨x,tp,cs,t,b,rfl,htp,hc,ty,e,q⟩:=h;obtain⟨u,u2,rfl,ru,ru2⟩:=vals2 r;cases ru2;obtain⟨φ,Z,p,hx⟩:=H_ I ru ty;obtain⟨_,its,rv,o,ho,hcl,n,hdt⟩:=I.aN tp _ htp;have e2:=yd hc rv;subst e2;obtain⟨oc,od,oda,osl⟩:=o;dsimp only at hcl hdt;subst hcl hdt;exact PySem.W.kia_tup Z I.fk p ho e hx λtk=>⟨.bl b,H,I.tok tk,rfl,q⟩
theorem lZ{K:Wf}(e:X.K=K):dG X (.builtin "isinstance") (OE K):=e▸FX
theorem AD{K:Wf}(e:X.K=K):dG X (.builtin "isinstance") (Nw K):=e▸DW
end
section
variable{P:Program}{w:World}{K:Wf}{mg:So}{base:Heap}
theorem eu.To{x qual:Str}{st:Stmt}{f:Addr}{fd:FuncData}{N ps:List Str}{k:Nat}{sp:Sp}(F:eu K x qual st f fd)(S:aB N ps (av st))(len:∀vs H Q E,sp vs H Q E->vs.length=ps.length)
  (hbody:∀(cdv:Value) (A:Around) (outer:List Env) (s:Shared) (H:Hp) (vs:List V) (Q:VK) (E:XK),cR k (A.deeper (envOfC qual (av st) s.heap.objs.size f cdv))->sp vs H Q E->
   ∃t,lV (kT (An P w) P w K mg base N qual (av st) f cdv A outer s H E) (eE st) t/\t { nx:=λ_ H'=>Q .aF H',rt:=Q } (start N vs) H):bo P w K mg base (An P w) (k+1) f fd ps sp:=by
 obtain⟨oc,od,kV,doc,pm,an,cdv,ct,osl,rfl,lk,hcd⟩:=F.ex;refine J3 lk hcd S len λA outer s H vs Q E hr hsp=>?_;obtain⟨t,h,q⟩:=hbody cdv A outer s H vs Q E hr hsp;exact⟨t,h,q⟩
end
theorem C4{X:Cx}:Passes (An X.prog X.w) X E0:=λ_ _ _ _ _ _ _ h=>by
 obtain⟨_,_,_,_,_,_,_,_,_,_,_,_,_,_,_,z⟩:=h;exact z.elim
theorem b_(sep:Str)(ts:List Str):Txt.join sep ts=Str.join sep ts:=StrLaws.glued_eq_join sep ts
theorem Kj{ts:List Str}{B:Nat}:(∀t∈ts,t.length<=B)->(ts.map (·.length)).sum<=ts.length*B:=by
 induction ts with
 |nil=>intro _;simp
 |cons a r ih=>
  intro h;have h1:=h a (wX ..);have h2:=ih λt ht=>h t (t_ _ ht);simp only[List.map_cons,List.sum_cons,List.length_cons];rw[Nat.add_mul];omega
theorem join_le{sep:Str}{ts:List Str}{B:Nat}(h:∀t∈ts,t.length<=B):(Txt.join sep ts).length<=ts.length*B+ts.length*sep.length:=by
 rw[b_];exact dy (StrLaws.join_length_le sep ts) (Nat.add_le_add_right (Kj h) _)
theorem joinOk_of{sep:Str}{ts:List Str}{B:Nat}(h:∀t∈ts,t.length<=B)(hz:ts.length*B+ts.length*sep.length<=16777216):JoinOk sep ts=true:=by
 unfold JoinOk;rw[StrLaws.joinFits h hz];rfl
theorem Hy{z:Str}{n:Nat}(h:Sg z)(hz:z.length<=n):(reprText z).length<=10*n+2:=dy (StrLaws.reprText_len z h) (by omega)
structure aW where
 a:Addr
 at_:Int
 rule:Str
 name:Str
 add:Int
 soft:Bool
structure bT where
 t:Addr
 lw:Addr
 lf:Addr
 kind:Str
 step:Int
 words:List Int
 fills:List aW
structure aX where
 a:Addr
 name:Str
 sort:Str
 st:Int
 off:Int
structure a7 where
 t:Addr
 ls:Addr
 ln:Addr
 name:Str
 az:List bT
 aK:List aX
noncomputable abbrev aW.v(f:aW):V:=.ref f.a
noncomputable abbrev bT.v(s:bT):V:=.ref s.t
noncomputable abbrev aX.v(n:aX):V:=.ref n.a
noncomputable abbrev a7.v(p:a7):V:=.ref p.t
def aW.At(H:Hp)(f:aW):Prop:=H f.a=some (.tup [.int f.at_,.str f.rule,.str f.name,.int f.add,.bl f.soft])
def aX.At(H:Hp)(n:aX):Prop:=H n.a=some (.tup [.str n.name,.str n.sort,.int n.st,.int n.off])
structure bT.At(H:Hp)(s:bT):Prop where
 top:H s.t=some (.tup [.str s.kind,.int s.step,.ref s.lw,.ref s.lf])
 wd:H s.lw=some (.lst (s.words.map V.int))
 fl:H s.lf=some (.lst (s.fills.map aW.v))
 fs:∀f∈s.fills,f.At H
structure a7.At(H:Hp)(p:a7):Prop where
 top:H p.t=some (.tup [.str p.name,.ref p.ls,.ref p.ln])
 sl:H p.ls=some (.lst (p.az.map bT.v))
 nl:H p.ln=some (.lst (p.aK.map aX.v))
 ss:∀s∈p.az,s.At H
 ns:∀n∈p.aK,n.At H
noncomputable def bT.lists(s:bT):List Addr:=[s.lw,s.lf]
noncomputable def a7.lists(p:a7):List Addr:=p.ls::p.ln::p.az.flatMap bT.lists
noncomputable def dr(ps:List a7):List Addr:=ps.flatMap a7.lists
structure I0(H:Hp)(L:Addr)(ps:List a7):Prop where
 top:H L=some (.lst (ps.map a7.v))
 at_:∀p∈ps,p.At H
 nd:(L::dr ps).Nodup
theorem aW.At.mono{H H':Hp}{f:aW}(h:f.At H)(e:aA H H'):f.At H':=e _ _ h
theorem aX.At.mono{H H':Hp}{n:aX}(h:n.At H)(e:aA H H'):n.At H':=e _ _ h
theorem bT.At.mono{H H':Hp}{s:bT}(h:s.At H)(e:aA H H'):s.At H':=⟨e _ _ h.top,e _ _ h.wd,e _ _ h.fl,λf hf=>(h.fs f hf).mono e⟩
theorem a7.At.mono{H H':Hp}{p:a7}(h:p.At H)(e:aA H H'):p.At H':=⟨e _ _ h.top,e _ _ h.sl,e _ _ h.nl,λs hs=>(h.ss s hs).mono e,λn hn=>(h.ns n hn).mono e⟩
def lM(H H':Hp)(l:Addr):Prop:=(∃xs,H l=some (.lst xs))/\∀b o,H b=some o->b≠l->H' b=some o
theorem lM.upd{H:Hp}{l:Addr}{xs:List V}{o:HO}(h:H l=some (.lst xs)):lM H (L2.upd H l o) l:=⟨⟨xs,h⟩,λb u e n=>by rw[ae n];exact e⟩
theorem lM.tup{H H':Hp}{l a:Addr}{xs:List V}(b:lM H H' l)(h:H a=some (.tup xs)):H' a=some (.tup xs):=by
 obtain⟨ys,hl⟩:=b.1;exact b.2 _ _ h λe=>by rw[e,hl]at h;cases h
theorem aW.At.but{H H':Hp}{l:Addr}{f:aW}(h:f.At H)(b:lM H H' l):f.At H':=b.tup h
theorem aX.At.but{H H':Hp}{l:Addr}{n:aX}(h:n.At H)(b:lM H H' l):n.At H':=b.tup h
theorem bT.At.but{H H':Hp}{l:Addr}{s:bT}(h:s.At H)(b:lM H H' l)(n:l∉s.lists):s.At H':=
 ⟨b.tup h.top,b.2 _ _ h.wd λe=>n (by simp[bT.lists,e]),b.2 _ _ h.fl λe=>n (by simp[bT.lists,e]),λf hf=>(h.fs f hf).but b⟩
theorem a7.At.but{H H':Hp}{l:Addr}{p:a7}(h:p.At H)(b:lM H H' l)(n:l∉p.lists):p.At H':=
 ⟨b.tup h.top,b.2 _ _ h.sl λe=>n (by simp[a7.lists,e]),b.2 _ _ h.nl λe=>n (by simp[a7.lists,e]),
  λs hs=>(h.ss s hs).but b λz=>n (by simp only[a7.lists,List.mem_cons];exact .inr (.inr (List.mem_flatMap.mpr ⟨s,hs,z⟩))),λm hm=>(h.ns m hm).but b⟩
theorem bT.At.list{H:Hp}{s:bT}(h:s.At H){b:Addr}(hb:b∈s.lists):∃xs,H b=some (.lst xs):=by
 simp only[bT.lists,List.mem_cons,List.not_mem_nil,or_false]at hb;rcases hb with e|e
 ·rw[e];exact⟨_,h.wd⟩
 ·rw[e];exact⟨_,h.fl⟩
theorem a7.At.list{H:Hp}{p:a7}(h:p.At H){b:Addr}(hb:b∈p.lists):∃xs,H b=some (.lst xs):=by
 simp only[a7.lists,List.mem_cons]at hb;rcases hb with e|e|e
 ·rw[e];exact⟨_,h.sl⟩
 ·rw[e];exact⟨_,h.nl⟩
 ·obtain⟨s,hs,z⟩:=IC.mp e;exact(h.ss s hs).list z
theorem dI(ps:List a7)(p:a7):dr (ps++[p])=dr ps++p.lists:=by simp[dr,List.flatMap_append]
theorem I0.apart{H:Hp}{L:Addr}{ps:List a7}{p:a7}(h:I0 H L (ps++[p])):(∀q∈ps,∀b∈p.lists,b∉q.lists)/\p.lists.Nodup/\L∉p.lists/\∀q∈ps,L∉q.lists:=by
 have n:=h.nd;rw[dI]at n;obtain⟨n1,n2⟩:=List.nodup_cons.mp n;obtain⟨n3,n4,n5⟩:=NN.mp n2;refine⟨λq hq b hb z=>n5 b (IC.mpr ⟨q,hq,z⟩) b hb rfl,n4,λz=>n1 (jE _ z),λq hq z=>n1 (vB _ (IC.mpr ⟨q,hq,z⟩))⟩
theorem I0.last{H:Hp}{L l:Addr}{ps:List a7}{p p':a7}{o:HO}(h:I0 H L (ps++[p]))(hl:l∈p.lists)(ht:p'.t=p.t)(hp:p'.At (upd H l o))(hn:(L::dr (ps++[p'])).Nodup):I0 (upd H l o) L (ps++[p']):=by
 obtain⟨a1,a2,a3,a4⟩:=h.apart;obtain⟨xs,hx⟩:=(h.at_ p (by simp)).list hl;have b:lM H (upd H l o) l:=lM.upd hx;refine⟨?_,λq hq=>?_,hn⟩
 ·rw[b.2 _ _ h.top λe=>a3 (by rw[e];exact hl)];simp[a7.v,ht]
 ·rcases eC.mp hq with z|z
  ·exact(h.at_ q (vB _ z)).but b (a1 q z l hl)
  ·rw[iL.mp z];exact hp
theorem I0.g7{H:Hp}{L t lw lf:Addr}{kind:Str}{step:Int}{ps:List a7}{p:a7}(h:I0 H L (ps++[p]))(h1:H t=some (.tup [.str kind,.int step,.ref lw,.ref lf]))(h2:H lw=some (.lst []))(h3:H lf=some (.lst []))
  (n1:lw≠lf) (n2:lw∉L::dr (ps++[p])) (n3:lf∉L::dr (ps++[p])):
  I0 (upd H p.ls (.lst (p.az.map bT.v++[.ref t]))) L (ps++[{ p with az:=p.az++[⟨t,lw,lf,kind,step,[],[]⟩] }]):=by
 have hp:=h.at_ p (by simp);obtain⟨a1,a2,a3,a4⟩:=h.apart;have b:lM H (upd H p.ls (.lst (p.az.map bT.v++[.ref t]))) p.ls:=lM.upd hp.sl;have in1:∀x,x∈p.lists->x∈L::dr (ps++[p]):=λx hx=>t_ _ (by rw[dI];exact jE _ hx);have hls:p.ls∈p.lists:=by simp[a7.lists]
 have nd:p.ls≠p.ln/\p.ls∉p.az.flatMap bT.lists:=by
  have:=a2;simp only[a7.lists,List.nodup_cons,List.mem_cons,not_or]at this;exact this.1
 refine h.last hls rfl ⟨b.tup hp.top,by rw[aE];simp,b.2 _ _ hp.nl (Ne.symm nd.1),λs hs=>?_,λn hn=>(hp.ns n hn).but b⟩ ?_
 ·rcases eC.mp hs with z|z
  ·exact(hp.ss s z).but b λq=>nd.2 (IC.mpr ⟨s,z,q⟩)
  ·have e:=iL.mp z;subst e;exact⟨b.tup h1,b.2 _ _ h2 λ(e:lw=p.ls)=>n2 (in1 _ (e▸hls)),b.2 _ _ h3 λ(e:lf=p.ls)=>n3 (in1 _ (e▸hls)),λf hf=>absurd hf (by simp)⟩
 ·have e:L::dr (ps++[{ p with az:=p.az++[⟨t,lw,lf,kind,step,[],[]⟩] }])=(L::dr (ps++[p]))++[lw,lf]:=by
   rw[dI,dI];simp[a7.lists,bT.lists,List.flatMap_append]
  rw[e];refine NN.mpr ⟨h.nd,by simp[n1],λx hx y hy e=>?_⟩;subst e;simp only[List.mem_cons,List.not_mem_nil,or_false]at hy;rcases hy with e|e
  ·subst e;exact n2 hx
  ·subst e;exact n3 hx
noncomputable def aW.d(f:aW):D:=.tup [.int f.at_,.str f.rule,.str f.name,.int f.add,.bl f.soft]
noncomputable def bT.d(s:bT):D:=.tup [.str s.kind,.int s.step,.lst (s.words.map D.int),.lst (s.fills.map aW.d)]
noncomputable def aX.d(n:aX):D:=.tup [.str n.name,.str n.sort,.int n.st,.int n.off]
noncomputable def a7.d(p:a7):D:=.tup [.str p.name,.lst (p.az.map bT.d),.lst (p.aK.map aX.d)]
theorem RepL.map{K:Wf}{H:Hp}{α:Type}{f:α->D}{g:α->V}:∀{xs:List α},(∀x∈xs,Rep K H (f x) (g x))->RepL K H (xs.map f) (xs.map g)
 |[],_=>by simp[RepL]
 |x::xs,h=>by
  simp only[List.map_cons,RepL];exact⟨_,_,rfl,h x (wX ..),RepL.map λy hy=>h y (t_ _ hy)⟩
theorem aW.At.rep{K:Wf}{H:Hp}{f:aW}(h:f.At H):Rep K H f.d f.v:=by
 simp only[aW.d,Rep];exact⟨_,_,rfl,dH.of h,by simp[RepL,Rep]⟩
theorem aX.At.rep{K:Wf}{H:Hp}{n:aX}(h:n.At H):Rep K H n.d n.v:=by
 simp only[aX.d,Rep];exact⟨_,_,rfl,dH.of h,by simp[RepL,Rep]⟩
theorem bT.At.rep{K:Wf}{H:Hp}{s:bT}(h:s.At H):Rep K H s.d s.v:=by
 simp only[bT.d,Rep];refine⟨_,_,rfl,dH.of h.top,?_⟩;simp only[RepL,Rep];exact⟨_,_,rfl,rfl,_,_,rfl,rfl,_,_,rfl,⟨_,_,rfl,aC.of h.wd,RepL.ints _⟩,_,_,rfl,⟨_,_,rfl,aC.of h.fl,RepL.map λf hf=>(h.fs f hf).rep⟩,rfl⟩
theorem a7.At.rep{K:Wf}{H:Hp}{p:a7}(h:p.At H):Rep K H p.d p.v:=by
 simp only[a7.d,Rep];refine⟨_,_,rfl,dH.of h.top,?_⟩;simp only[RepL,Rep];exact⟨_,_,rfl,rfl,_,_,rfl,⟨_,_,rfl,aC.of h.sl,RepL.map λs hs=>(h.ss s hs).rep⟩,_,_,rfl,⟨_,_,rfl,aC.of h.nl,RepL.map λn hn=>(h.ns n hn).rep⟩,rfl⟩
theorem e9{α:Type}{f:α->D}{n:Nat}:∀{xs:List α},(∀x∈xs,dep (f x)<=n)->depL (xs.map f)<=n
 |[],_=>by simp[depL]
 |x::xs,h=>by
  simp only[List.map_cons,depL];exact Nat.max_le.mpr ⟨h x (wX ..),e9 λy hy=>h y (t_ _ hy)⟩
theorem FT(f:aW):dep f.d<=1:=by simp[aW.d,dep,depL]
theorem E8(n:aX):dep n.d<=1:=by simp[aX.d,dep,depL]
theorem EY(s:bT):dep s.d<=3:=by
 have h1:depL (s.words.map D.int)<=0:=e9 λx _=>by simp[dep]
 have h2:depL (s.fills.map aW.d)<=1:=e9 λx _=>FT x;simp only[bT.d,dep,depL];omega
theorem Lq(p:a7):dep p.d<=5:=by
 have h1:depL (p.az.map bT.d)<=3:=e9 λx _=>EY x;have h2:depL (p.aK.map aX.d)<=1:=e9 λx _=>E8 x;simp only[a7.d,dep,depL];omega
theorem uO(ds:List D):deqL ds []=decide (ds=[]):=by cases ds<;>simp[deqL]
end L2
namespace L2
open PySem PySem.Spec PyProof.Rows PySem.W
noncomputable abbrev VE:List Value:=[.type "ValueError", .type "Exception", .type "BaseException", .type "object"]
noncomputable def ownInit(K:Frag)(C fI:Addr):Bool:=
 match K.lookup C with
 |none=>false
 |some ob=>
  match ob.cls,ob.data,ob.slots.toList with
  |.type "type", .cls cd,[_,_,_,_,some (.builtin n),_]=>
   (match cd.mro with
    |.ref C'::bm=>C' == C&&(n == "ValueError.__new__" && (!cd.hasDel&&(tailIn K VE bm&&(nsOkIn K cd.ns&&(cd.hasDict&&nsIn K cd.ns "__init__" == some (some (.ref fI)))))))
    |_=>false)
  |_,_,_=>false
theorem Ki{K:Frag}{h:Heap}{N:Addr}{m:So}{n:Str}{v:Value}(X:K.In h)(G:h.Ns N m)(e:nsIn K N n=some (some v)):m n=some v:=by
 obtain⟨o,es,ep,ho,hd,_,hf⟩:=G;unfold nsIn at e;split at e
 ·rename_i c d es' n' sl q;have z:=X _ _ q;rw[ho]at z;cases z;cases hd;split at e
  ·rename_i en he;cases e;rw[<-hf];unfold nsFind findBy;rw[<-Array.find?_toList,he];rfl
  ·split at e<;>cases e
 ·cases e
theorem uw{K:Frag}{h:Heap}{C fI:Addr}(X:K.In h)(q:ownInit K C fI=true):
  ∃bm N nm q bs sn sub ab col dd k0 k1 k2 k3 k5 mN,h.get? C=some (excClassObj nm q C N bs bm true sn sub ab col dd k0 k1 k2 k3 k5 "ValueError.__new__")/\h.Ns N mN/\mN "__init__" = some (.ref fI)/\OwnTail h VE bm:=by
 unfold ownInit at q;split at q
 ·cases q
 ·rename_i ob ho;split at q
  ·rename_i cd _ _ _ _ n _ hc hd hs;split at q
   ·rename_i C' bm hm;simp only[Bool.and_eq_true,beq_iff_eq,Bool.not_eq_true']at q;obtain⟨rfl,rfl,hdel,ht,aN,hdi,hni⟩:=q;obtain⟨oc,odi,oda,osl⟩:=ob;dsimp only at hc hd hs;subst hc hd;obtain⟨nm,bs,mro,ns,qn,hdd,sn,sub,ab,col,del⟩:=cd;dsimp only at hm hdel aN hni hdi;subst hm hdel hdi;obtain⟨l⟩:=osl;simp only at hs;subst hs;refine⟨bm,ns,nm,qn,bs,sn,sub,ab,col,odi,_,_,_,_,_,_,X _ _ ho,.of_isNs (isNs_of_in X aN),?_,tail_of_in X ht⟩;exact Ki X (.of_isNs (isNs_of_in X aN)) hni
   ·cases q
  ·cases q
section
variable{prog:Program}{w:World}{A:Around}{E:Vs}{h:Heap}{g:Array GenState}{d:Drawn}{t:Nat}{os:OsState}
variable{nm q:Str}{C N:Addr}{bs bm bmB:List Value}{hdct:Bool}{sn:List Str}{sub:List Value}{ab:Bool}{col:Option Bool}{dd:Option Addr}{k0 k1 k2 k3 k5:Option Value}{B newId initId:String}
theorem kX(F:ExcBaseFacts B newId initId bmB)(T:OwnTail h bmB bm){mN:So}{rest:List Value}{fI:Addr}{oI:Obj}{Q:Fin->Shared->Prop}
  (hC:h.get? C=some (excClassObj nm q C N bs bm hdct sn sub ab col dd k0 k1 k2 k3 k5 newId)) (hn:h.Ns N mN) (hi:mN "__init__" = some (.ref fI))
  (hfI:h.get? fI=some oI) (hfc:oI.cls=.type "function")
  (hq:∀h' e,h.objs.size<=e->Heap.MadeExcOf h h' e (.ref C) rest->
   wpAny (model prog w) A (call (.ref fI) (.ref e::rest)) (λr s'=>r=.none/\Q (.done (.ret (.ref e))) s') E ⟨h',g,d,t,os⟩) (hrest:rest.length<=sizeLine):
  wpAny (model prog w) A (Builtin.«type.__call__» ⟨.ref C::rest,[]⟩) Q E ⟨h,g,d,t,os⟩:=by
 repeat (first|with_reducible refine Oe hC ?_|with_reducible refine wpAny_madeBy_exc hC ?_|wp_step)
 refine codeAny_call_builtin_code (Code.quiet_builtin _ F.quiet) (wpAny_check_new_subT F T hC ?_);refine codeAny_exc_new_subT F T hC ?_ hrest;show wpAny _ _ _ _ _ _;have up:∀b o,h.get? b=some o->((h.push { cls:=.type "tuple", data:=.seq rest.toArray }).push { cls:=.ref C,data:=.fields #[.ref h.objs.size,.none,.none,.none,.bool false,.none] }).get? b=some o:=
  λb o e=>fU _ (fU _ e)
 have hC₁:=up _ _ hC;have hfI₁:=up _ _ hfI;have hn₁:=hn.keeps up;have hget:((h.push { cls:=.type "tuple", data:=.seq rest.toArray }).push
   { cls:=.ref C,data:=.fields #[.ref h.objs.size,.none,.none,.none,.bool false,.none] }).get? (h.objs.size+1)=some
   { cls:=.ref C,data:=.fields #[.ref h.objs.size,.none,.none,.none,.bool false,.none] }:=by heap_get
 have hcC:(Value.ref C::bm).contains (.ref C)=true:=by simp
 unfold isInstance
 repeat (first|with_reducible refine Oe hget ?_|(with_reducible refine wpAny_isSubtype_exc hC₁ ?_;rw[hcC])|wp_step)
 show wpAny _ _ (typeLookup (.ref C) _) _ _ _;refine wpAny_typeLookup_tail hC₁ hn₁ (T.keeps up) F.mroIs F.init.lookup ?_;rw[hi];refine G7 (aT ?_);unfold bindSpecial;refine aT (wpAny_typeOf (T := "function") ⟨_,hfI₁,hfc⟩ ?_);rw[if_pos (by decide)];refine cC (aT (iO (hq _ (h.objs.size+1) (Nat.le_succ _) ⟨up,Heap.get?_none_of_le (Nat.le_succ _),h.objs.size,hget,Heap.get?_none_of_le (dn _),?_⟩) (λr s' hr=>?_) λ_ _ x=>x))
 ·exact fU _ (Heap.get?_push_at rfl rfl)
 ·obtain⟨rfl,hQ⟩:=hr
  wp_walk
  exact hQ
theorem Aw(F:ExcBaseFacts B newId initId bmB)(T:OwnTail h bmB bm){mN:So}{rest:List Value}{fI:Addr}{oI:Obj}{Q:Vs}
  (hC:h.get? C=some (excClassObj nm q C N bs bm hdct sn sub ab col dd k0 k1 k2 k3 k5 newId)) (hn:h.Ns N mN) (hi:mN "__init__" = some (.ref fI))
  (hfI:h.get? fI=some oI) (hfc:oI.cls=.type "function")
  (hq:∀h' e,h.objs.size<=e->Heap.MadeExcOf h h' e (.ref C) rest->
   wpAny (model prog w) (A.under (.builtin "type.__call__" ⟨.ref C::rest,[]⟩)) (call (.ref fI) (.ref e::rest)) (λr s'=>r=.none/\Q (.ref e) s') E ⟨h',g,d,t,os⟩) (hrest:rest.length<=sizeLine):
  wpAny (model prog w) A (call (.ref C) rest) Q E ⟨h,g,d,t,os⟩:=by
 have f1:=tc_lookup;have f2:=tc_bind (.ref C);have hT:(⟨h,g,d,t,os⟩:Shared).TypeIs (.ref C) "type" := ⟨_,hC,rfl⟩
 refine Il (codeAny_of_tree ?_);show wpAny _ _ (callAny (.ref C) _) _ _ _
 repeat (any_goals (first|assumption|with_reducible refine Oe hC ?_|wp_step))
 refine⟨rfl,?_⟩;refine codeAny_call_builtin_at (Code.quiet_builtin _ (by decide +kernel)) entry_typeCall (wpAny_check_type_call_sub hC (kX (hrest:=hrest) F T hC hn hi hfI hfc λh' e hz hm=>?_));exact hq h' e hz hm
theorem Am(F:ExcBaseFacts B newId initId bmB)(T:OwnTail h bmB bm){e:Addr}{oe:Obj}{vs:Array Value}{v0:Value}{rest:List Value}{Q:Vs}
  (hC:h.get? C=some (excClassObj nm q C N bs bm hdct sn sub ab col dd k0 k1 k2 k3 k5 newId)) (he:h.get? e=some oe) (hcls:oe.cls=.ref C) (hd:oe.data=.fields vs) (h0:vs[0]?=some v0)
  (hq:∀h' T,(∀b o,b≠e->h.get? b=some o->h'.get? b=some o)->h'.get? e=some { oe with data:=.fields (vs.setIfInBounds 0 T) }->Q .none ⟨h',g,d,t,os⟩) (hrest:rest.length<=sizeLine):
  wpAny (model prog w) A (call (.builtin initId) (.ref e::rest)) Q E ⟨h,g,d,t,os⟩:=by
 refine Il (codeAny_call_builtin F.init.plain F.initEntry (wpAny_check_init_subT F T hC he hcls ?_));have he1:=fU { cls:=.type "tuple", data:=.seq rest.toArray } he;have hsz:=(LO.mp h0).1;unfold Builtin.«BaseException.__init__»
 repeat (first|with_reducible refine xj he1 hd h0 ?_|with_reducible refine wpAny_setField he1 hd hsz ?_|wp_step)
 have hd3:(Obj.mapFields (·.setIfInBounds 0 (Value.ref h.objs.size)) oe).data=.fields (vs.setIfInBounds 0 (Value.ref h.objs.size)):=Obj.data_mapFields hd _;have e3:=Hj (Obj.mapFields (·.setIfInBounds 0 (Value.ref h.objs.size))) he1 (Obj.isFreed_of_fields hd3);have e4:Obj.mapFields (·.setIfInBounds 0 (Value.ref h.objs.size)) oe={ oe with data:=.fields (vs.setIfInBounds 0 (Value.ref h.objs.size)) }:=by
  obtain⟨oc,od,oda,osl⟩:=oe;dsimp only at hd;subst hd;rfl
 rw[e4]at e3;have fin:=hq _ (.ref h.objs.size) (λb o hb ho=>by rw[II _ _ (Ne.symm hb)];exact fU _ ho) e3;cases v0<;>repeat (first|exact fin|(unfold letGo;done)|with_reducible exact wpAny_holding (wpAny_point (wpAny_pure ?_))|wp_step)
end
noncomputable def kc:List Value->Bool
 |.ref _::r=>kc r
 |l=>l == VE
noncomputable def l8(K:Frag)(C:Addr):Bool:=(clsIn K C).any λcd=>cd.hasDict&&kc cd.mro
theorem kn(self:Value):∀{l:List Value},kc l=true->refuseLoop self "__setattr__" l=pure ()
 |.ref c::r,e=>by rw[refuseLoop_ref];exact kn self (l:=r) e
 |[],e=>by cases (show([]:List Value)=VE from beq_iff_eq.mp e)
 |.type n::r,e=>by rw[show(Value.type n::r)=VE from beq_iff_eq.mp e];exact PySem.F.store_ValueError.passes self
 |.none::r,e=>nomatch (show(Value.none::r)=VE from beq_iff_eq.mp e)
 |.bool b::r,e=>nomatch (show(Value.bool b::r)=VE from beq_iff_eq.mp e)
 |.int b t::r,e=>nomatch (show(Value.int b t::r)=VE from beq_iff_eq.mp e)
 |.str b t::r,e=>nomatch (show(Value.str b t::r)=VE from beq_iff_eq.mp e)
 |.bytes b t::r,e=>nomatch (show(Value.bytes b t::r)=VE from beq_iff_eq.mp e)
 |.float b t::r,e=>nomatch (show(Value.float b t::r)=VE from beq_iff_eq.mp e)
 |.builtin b::r,e=>nomatch (show(Value.builtin b::r)=VE from beq_iff_eq.mp e)
theorem yh:∀{l:List Value},kc l=true->l.contains (.type "object")=true
 |.ref c::r,e=>by rw[List.contains_cons,yh (l:=r) e,Bool.or_true]
 |[],e=>by cases (show([]:List Value)=VE from beq_iff_eq.mp e)
 |.type n::r,e=>by rw[show(Value.type n::r)=VE from beq_iff_eq.mp e];decide
 |.none::r,e=>nomatch (show(Value.none::r)=VE from beq_iff_eq.mp e)
section
variable{prog:Program}{w:World}{A:Around}{E:Vs}{s:Shared}{K:Frag}{x C:Addr}{R:Result->Shared->Prop}
theorem xF{ox:Obj}{od:Option Obj}{name:Str}{tk:Tok}{v:Value}(X:K.In s.heap)(I:InstAt s.heap x ox C od)(hp:l8 K C=true)(hf:findIn K (.ref C) name=some none)
  (h:wpAny (model prog w) A.in1 (Builtin.ObjectAttr.storeInOwnDict (.ref x) (.ref C) (.str name tk) name v false)
   (λfin s'=>match fin with | .done f=>R (.ok f) s' | .again c'=>c'.quiet=true/\codeAny (model prog w) A c' R s') (λe s'=>R (.error e) s') s):
  codeAny (model prog w) A (.call (.builtin "object.__setattr__") ⟨[.ref x,.str name tk,v],[]⟩) R s:=by
 have SF:=PySem.F.store_object;obtain⟨cd,hc,ho⟩:=any_some hp;rw[G6]at ho;obtain⟨_,ho⟩:=ho;have ne:cd.mro.isEmpty=false:=by cases q:cd.mro with|nil=>rw[q]at ho;cases ho|cons _ _=>rfl
 have sub:Looks (model prog w) s.heap (isInstance (.ref x) (.type "object")) true:=I.type.andThen (looks_mroIn X (by unfold mroIn;rw[hc,Option.bind_some,if_neg (by rw[ne];decide),yh ho]));refine codeAny_call_builtin SF.slot.plain SF.entry (@check_slot (model prog w) _ _ s "object.__setattr__" "object" "__setattr__" (.ref x) [.str name tk,v] [] _ SF.kind SF.split sub (SF.args (.ref x) (.str name tk) v) ?_);have hm:Looks (model prog w) s.heap (mroOf (.ref C)) cd.mro:=(looks_clsIn X hc).andThen .now;rw[osa_eq,refuse_eq];refine aT (aT (I.type.here (aT (hm.here ?_))));rw[kn _ ho];refine cC (aT (I.type.here (aT ((looks_findIn X hf).here (aT (cC ?_))))));exact h
theorem EX{ox:Obj}{vs:Array Value}{name:Str}{v:Value}{Q:Unit->Shared->Prop}(X:K.In s.heap)(hx:s.heap.get? x=some ox)(hcl:ox.cls=.ref C)(hdn:ox.dict=none)(hda:ox.data=.fields vs)(hp:l8 K C=true)
  (hs:findIn K (.ref C) "__setattr__" = some (some (.builtin "object.__setattr__"))) (hf:findIn K (.ref C) name=some none)
  (h:∀h' tk,h'.get? x=some { ox with dict:=some s.heap.objs.size }->h'.Ns1 s.heap.objs.size (λy=>if y=name then some v else none)->(∀b o,b≠x->s.heap.get? b=some o->h'.get? b=some o)->Q () { s with heap:=h',toks:=tk }):
  wpAny (model prog w) A (setAttr (.ref x) name v) Q E s:=by
 obtain⟨hh,g,d,t,os⟩:=s;have J:InstAt hh x ox C none:=⟨hx,hcl,by unfold notCls;rw[hda],by rw[hdn];trivial⟩
 refine set_plain X J hs (xF (s:=⟨hh,g,d,t+1,os⟩) X J hp hf ?_);obtain⟨cd,hc,ho⟩:=any_some hp;rw[G6]at ho;refine aT (cC (aT (aT (wpAny_loadPart hx ?_))));rw[hcl];refine aT (Looks.here (s:=⟨hh,g,d,t+1,os⟩) (looks_clsIn X hc) ?_);rw[ho.1,hdn,hda];rw[if_neg (by decide)];dsimp only;rw[if_neg (by simp[typeHasDict])];have hx₁:(hh.push { cls:=.type "dict", data:=.dict #[] }).get? x=some ox:=fU _ hx;have hxs:x≠hh.objs.size:=lE (dj hx);refine aT (wpAny_alloc' ?_);refine aT (wpAny_update' hx₁ ?_);refine cC ?_;have hgd:((hh.push { cls:=.type "dict", data:=.dict #[] }).update x λo=>{ cls:=o.cls,dict:=some hh.objs.size,data:=o.data,slots:=o.slots }).get? hh.objs.size
   = some { cls:=.type "dict", data:=.dict #[] }:=(Heap.get?_update_ne _ _ _ _ hxs.symm).trans (Heap.get?_push_at rfl rfl)
 have hnd:((hh.push { cls:=.type "dict", data:=.dict #[] }).update x λo=>{ cls:=o.cls,dict:=some hh.objs.size,data:=o.data,slots:=o.slots }).Ns hh.objs.size (λ_=>none):=
  ⟨_,#[],_,hgd,rfl,λe he=>absurd he (by simp),λ_=>rfl⟩
 show wpAny _ _ (Builtin.ObjectAttr.storeInDict hh.objs.size (.str name t) name v) _ _ _;unfold Builtin.ObjectAttr.storeInDict Builtin.ObjectAttr.newKeyGuard;refine aT (cC (aT (wpAny_nsSet1 (Heap.Ns1.of_empty hnd) λh' hn' hs=>?_)));obtain⟨oD,esD,epD,hoD,hdD,hcD⟩:=hn'.count (Within.cons name v Within.nil);refine aT (wpAny_lookBehind hoD (by rw[hdD];exact pastItsLine_dict (dy hcD (by rw[jd,List.length_nil,sizeLine_eq];omega))) ?_);refine cC (h h' _ ?_ hn' λb o hb hbo=>?_)
 ·refine(hs.2 x hxs).trans (Hj _ hx₁ ?_);obtain⟨oc,od,odt,osl⟩:=ox;dsimp only at hda;subst hda;rfl
 ·exact(hs.2 b (lE (dj hbo))).trans ((Heap.get?_update_ne _ _ _ _ hb).trans (fU _ hbo))
theorem Dg{ox:Obj}{dx:Addr}{mA:So}{vs:Array Value}{name:Str}{v:Value}{ns:List Str}{Q:Unit->Shared->Prop}(X:K.In s.heap)(hx:s.heap.get? x=some ox)(hcl:ox.cls=.ref C)(hdn:ox.dict=some dx)(hda:ox.data=.fields vs)
  (hns:s.heap.Ns1 dx mA) (hp:l8 K C=true) (hs:findIn K (.ref C) "__setattr__" = some (some (.builtin "object.__setattr__"))) (hf:findIn K (.ref C) name=some none) (hw:Within mA ns) (hsz:ns.length<=sizeLine)
  (h:∀h' tk,h'.Ns1 dx (λy=>if y=name then some v else mA y)->Heap.SameBut dx s.heap h'->Q () { s with heap:=h',toks:=tk }):
  wpAny (model prog w) A (setAttr (.ref x) name v) Q E s:=by
 obtain⟨hh,g,d,t,os⟩:=s;obtain⟨oD,_,_,hoD,_⟩:=id hns;have J:InstAt hh x ox C (some oD):=⟨hx,hcl,by unfold notCls;rw[hda],by rw[hdn];exact hoD⟩
 refine set_plain X J hs (xF (s:=⟨hh,g,d,t+1,os⟩) X J hp hf ?_);obtain⟨cd,hc,ho⟩:=any_some hp;rw[G6]at ho;refine aT (cC (aT (aT (wpAny_loadPart hx ?_))));rw[hcl];refine aT (Looks.here (s:=⟨hh,g,d,t+1,os⟩) (looks_clsIn X hc) ?_);rw[ho.1,hdn];rw[if_neg (by decide)];refine cC ?_;show wpAny _ _ (Builtin.ObjectAttr.storeInDict dx (.str name t) name v) _ _ _;unfold Builtin.ObjectAttr.storeInDict Builtin.ObjectAttr.newKeyGuard;refine aT (cC (aT (wpAny_nsSet1 hns λh' hn' hs=>?_)));obtain⟨oD,esD,epD,hoD,hdD,hcD⟩:=hn'.count (Within.cons name v hw);refine aT (wpAny_lookBehind hoD (by rw[hdD];exact pastItsLine_dict (dy hcD (by rw[jd];omega))) ?_);exact cC (h h' _ hn' hs)
end
end L2
namespace L2
open PySem PySem.Spec PyProof.Rows PySem.W
section
variable{M:Model}{A:Around}{E:Vs}{env:Env}
variable{nm q:Str}{C N:Addr}{bs bm:List Value}{hdct:Bool}{sn:List Str}{sub:List Value}{ab:Bool}{col:Option Bool}{dd:Option Addr}{k0 k1 k2 k3 k5:Option Value}{newId:String}
theorem vI{s:Shared}{x:Sem Value}{Q:Flow->Shared->Prop}(hbase:bm.contains (.type "BaseException")=true)(hh:A.handled=none)
  (h:wpAny M A x (λv s₁=>∃e oe vs,v=.ref e/\s₁.heap.get? C=some (excClassObj nm q C N bs bm hdct sn sub ab col dd k0 k1 k2 k3 k5 newId)/\
   s₁.heap.get? e=some oe/\oe.cls=.ref C/\oe.data=.fields vs/\vs[1]?=some .none/\E (.ref e) s₁) E s):
  wpAny M A (raiseStmt env (some x) none) Q E s:=by
 have hcB:(Value.ref C::bm).contains (.type "BaseException")=true:=by rw[List.contains_cons,hbase,Bool.or_true]
 unfold raiseStmt;refine aT (iO h (λv s₁ h₁=>?_) λ_ _ x=>x);obtain⟨e,oe,vs,rfl,hC,he,hcls,hd,h1,hE⟩:=h₁;obtain⟨hp,g,d,tk,os⟩:=s₁;obtain⟨oc,odi,oda,osl⟩:=oe;dsimp only at hcls hd;subst hcls hd
 repeat (first|with_reducible refine Oe he ?_|with_reducible refine Oe hC ?_|(with_reducible refine wpAny_isSubtype_exc hC ?_;rw[hcB])|with_reducible refine xj he rfl h1 ?_|wp_step)
 exact wpAny_raiseNew_none hh hE
end
section
variable{prog:Program}{w:World}{A:Around}{E:Vs}{s:Shared}{env:Env}
variable{nm q:Str}{C N:Addr}{bs bm bmB:List Value}{hdct:Bool}{sn:List Str}{sub:List Value}{ab:Bool}{col:Option Bool}{dd:Option Addr}{k0 k1 k2 k3 k5:Option Value}{B newId initId:String}
theorem wB(F:ExcBaseFacts B newId initId bmB){mN:So}{x:Str}{np cpos pos:Pos}{args:List Expr}{fI:Addr}{oI:Obj}{Q:Flow->Shared->Prop}
  (hbase:bm.contains (.type "BaseException")=true) (hh:A.handled=none) (hplain:(backTo cpos (starEach args env)).any (·.1)=false) (hi:mN "__init__" = some (.ref fI)) (hfc:oI.cls=.type "function")
  (h:wpAny (model prog w) A (eval (.Name x np) env) (λf s₁=>f=.ref C/\wpAny (model prog w) A (evalArgs (.ref C) true (backTo cpos (starEach args env)) [])
   (λa s₂=>a.kw=[]/\a.pos.length<=sizeLine/\s₂.heap.get? C=some (excClassObj nm q C N bs bm hdct sn sub ab col dd k0 k1 k2 k3 k5 newId)/\s₂.heap.Ns N mN/\OwnTail s₂.heap bmB bm/\s₂.heap.get? fI=some oI/\
    ∀h' e,s₂.heap.objs.size<=e->Heap.MadeExcOf s₂.heap h' e (.ref C) a.pos->
     wpAny (model prog w) (A.under (.builtin "type.__call__" ⟨.ref C::a.pos,[]⟩)) (call (.ref fI) (.ref e::a.pos)) (λr s'=>r=.none/\∃oe vs,s'.heap.get? C=some (excClassObj nm q C N bs bm hdct sn sub ab col dd k0 k1 k2 k3 k5 newId)/\
      s'.heap.get? e=some oe/\oe.cls=.ref C/\oe.data=.fields vs/\vs[1]?=some .none/\E (.ref e) s') E { s₂ with heap:=h' }) E s₁) E s):
  wpAny (model prog w) A (exec (.Raise (some (.Call (.Name x np) args [] cpos)) none pos) env) Q E s:=by
 rw[arm_exec_Raise];refine aT (Me (vI (C:=C) (nm:=nm) (q:=q) (N:=N) (bs:=bs) (bm:=bm) (hdct:=hdct) (sn:=sn) (sub:=sub) (ab:=ab) (col:=col) (dd:=dd) (k0:=k0) (k1:=k1) (k2:=k2) (k3:=k3) (k5:=k5) (newId:=newId) hbase hh
  (aT (iO (wpAny_Call_ofName (iO h (λf s₁ h₁=>?_) λ_ _ x=>x)) (λv s₃ h₃=>aT (Me (cC h₃))) λ_ _ x=>x))))
 obtain⟨rfl,h₁⟩:=h₁;unfold callWith;refine aT (G7 (iO h₁ (λa s₂ h₂=>aT (Me ?_)) λ_ _ x=>x));obtain⟨apos,akw⟩:=a;obtain⟨hkw,hlen,hC,hn,T,hfI,h₂⟩:=h₂;obtain rfl:akw=[]:=hkw;obtain⟨hp,g,d,tk,os⟩:=s₂;simp only[hplain];refine aT (wpAny_keeperOf_exc hC ?_);refine aT (Aw (hrest:=hlen) F T hC hn hi hfI hfc λh' e hz hm=>iO (h₂ h' e hz hm) (λr s' hr=>⟨hr.1,aT (G7 (wpAny_point (cC ?_)))⟩) λ_ _ x=>x);obtain⟨_,oe,vs,k1,k2,k3,k4,k5,k6⟩:=hr;exact⟨e,oe,vs,rfl,k1,k2,k3,k4,k5,k6⟩
end
noncomputable def XN(a C:Addr)(dx:Option Addr):HO:=.ext λh=>∃ob vs v0,h.get? a=some ob/\ob.cls=.ref C/\ob.dict=dx/\ob.data=.fields vs/\vs[0]?=some v0/\vs[1]?=some .none
noncomputable def XD(d:Addr)(fs:List (Str×V)):HO:=.ext λh=>∃mA,h.Ns1 d mA/\(∀f,eB (fs.lookup f) (mA f))/\PySem.Within mA (fs.map (·.1))
noncomputable def del(H:Hp)(a:Addr):Hp:=λb=>if b=a then none else H b
theorem fE{H:Hp}{a b:Addr}(h:b≠a):del H a b=H b:=by unfold del;rw[if_neg h]
theorem ib{H:Hp}{a:Addr}:del H a a=none:=by unfold del;rw[if_pos rfl]
theorem XN.get{P:Program}{w:World}{H:Hp}{h:Heap}{a C:Addr}{dx:Option Addr}(ok:eQ P w H h)(e:H a=some (XN a C dx)):∃ob vs v0,h.get? a=some ob/\ob.cls=.ref C/\ob.dict=dx/\ob.data=.fields vs/\vs[0]?=some v0/\vs[1]?=some .none:=(ok a _ e).1
theorem XD.get{P:Program}{w:World}{H:Hp}{h:Heap}{d:Addr}{fs:List (Str×V)}(ok:eQ P w H h)(e:H d=some (XD d fs)):∃mA,h.Ns1 d mA/\(∀f,eB (fs.lookup f) (mA f))/\PySem.Within mA (fs.map (·.1)):=(ok d _ e).1
theorem XN.ok{P:Program}{w:World}{H:Hp}{h:Heap}{a C:Addr}{dx:Option Addr}(x:∃ob vs v0,h.get? a=some ob/\ob.cls=.ref C/\ob.dict=dx/\ob.data=.fields vs/\vs[0]?=some v0/\vs[1]?=some .none):a_ P w H h a (XN a C dx):=by
 obtain⟨ob,vs,v0,he,r⟩:=x;exact⟨⟨ob,vs,v0,he,r⟩,⟨ob,he⟩,λh1 h2 ⟨ob,ws,v0,q,r⟩ k=>⟨ob,ws,v0,k _ q,r⟩⟩
theorem XD.ok{P:Program}{w:World}{H:Hp}{h:Heap}{d:Addr}{fs:List (Str×V)}(x:∃mA,h.Ns1 d mA/\(∀f,eB (fs.lookup f) (mA f))/\PySem.Within mA (fs.map (·.1))):a_ P w H h d (XD d fs):=by
 obtain⟨mA,n,r⟩:=x;obtain⟨o,_,_,e,_⟩:=id n;exact⟨⟨mA,n,r⟩,⟨o,e⟩,λh1 h2 ⟨mA,n,r⟩ k=>⟨mA,n.at k,r⟩⟩
section
variable{X:Cx}{pins:Lo}{σ:St}{H:Hp}{s:Shared}{a C:Addr}{φ:Heap->Prop}
theorem Inv.x9(I:Inv X pins σ H s)(e:H a=some (.ext φ)):Inv X pins σ (del H a) s:=by
 have ne:∀b u,H b=some u->(∀ψ,u≠.ext ψ)->b≠a:=λb u q n z=>by rw[z,e]at q;exact n φ (Option.some.inj q).symm
 refine I.un (h':=s.heap) (t':=s.toks) ⟨λb o q _ _ _=>q,λb o q _ _ _=>⟨o.slots,q⟩,λb o q n _=>?_,λb o q _=>⟨o,q⟩,λb xs q=>?_,λb o u q=>?_,λb ps q=>⟨#[],?_⟩⟩ λb u q=>?_
 ·by_cases hb:b=a
  ·rw[hb];exact ib
  ·rw[fE hb];exact n
 ·rw[fE (ne b _ q (by intro ψ z;cases z))];exact q
 ·rw[fE (ne b _ q (by intro ψ z;cases z))];exact q
 ·rw[fE (ne b _ q (by intro ψ z;cases z)),q];simp
 ·by_cases hb:b=a
  ·rw[hb,ib]at q;cases q
  ·rw[fE hb]at q;exact(I.aN b u q).iH (λ_ _ _ z=>z) (λc z=>by rw[fE (ne c _ z (by intro ψ z;cases z))];exact z) λc xs z=>by rw[fE (ne c _ z (by intro ψ z;cases z))];exact z
theorem Inv.Dp{d:Addr}{fs:List (Str×V)}(I:Inv X pins σ H s)(e:H d=some (XD d fs)):Inv X pins σ (upd H d (.xd fs)) s:=by
 obtain⟨mA,n,r,_⟩:=XD.get I.aN e;obtain⟨o,_,_,q,_⟩:=id n;exact I.write (h':=s.heap) (t':=s.toks) (x:=d) (e:=d) (by rw[e];exact True.intro) (.inl rfl) (λ_ _ _ z=>z) ⟨o,q⟩ ⟨mA,n,r⟩
end
end L2
namespace L2
open PySem PySem.Spec PyProof.Rows PySem.W
structure Hw(K:Frag)(C f:Addr):Prop where
 S7:ownInit K C f=true
 ei:l8 K C=true
 sa:findIn K (.ref C) "__setattr__" = some (some (.builtin "object.__setattr__"))
 fn:isFn K (.ref f)=true
structure Jd(K:Frag)(B:Addr):Prop where
 rd:readsIn K B (.type "type")=true
 fc:findCls K (.ref B) (.type "type") "__init__" = some (.val (.builtin "ValueError.__init__"))
 ga:specialIn K (.ref B) "__getattribute__" = some (some (.builtin "type.__getattribute__"))
theorem iG{H:Hp}{a:Addr}{o:HO}(e:H a=some o):upd H a o=H:=by
 funext b;by_cases hb:b=a
 ·subst hb;rw[aE,e]
 ·rw[ae hb]
def Hz(C:Addr)(sp:Sp)(E:XK)(t:TA):TS:=λ_ σ H=>t σ H λvs H1=>vs.length<=sizeLine/\∀x,H1 x=none->sp (.ref x::vs) (upd H1 x (XN x C none)) (λv H2=>v=.aF/\
 ((H2 x=some (XN x C none)/\E (.ref C) none (del H2 x))\/∃d fs,d≠x/\H2 x=some (XN x C (some d))/\H2 d=some (XD d fs)/\E (.ref C) (some d) (del (upd H2 d (.xd fs)) x))) E0
def Kk(K:Frag)(t:TA):TE:=λσ H Q=>t σ H λvs H1=>∃a C dx rest f,vs=.ref a::rest/\H1 a=some (XN a C dx)/\Hw K C f/\rest.length<=sizeLine/\Q .aF H1
def MW(K:Frag)(ta tv:TE)(f:Str):TS:=λD σ H=>tv σ H λy H1=>ta σ H1 λx H2=>∃a C fI dx,x=.ref a/\H2 a=some (XN a C dx)/\Hw K C fI/\bF K C f/\
 ((dx=none/\∀d,H2 d=none->D.nx σ (upd (upd H2 d (XD d [(f,y)])) a (XN a C (some d))))\/∃d fs,dx=some d/\H2 d=some (XD d fs)/\fs.length<1000/\D.nx σ (upd H2 d (XD d (putF f y fs))))
def N5(K:Frag)(ta:TE)(f:Str):TE:=λσ H Q=>ta σ H λx H1=>∃a C d fs v,x=.ref a/\H1 a=some (XO a C (some d))/\H1 d=some (.xd fs)/\qS K C/\hasDictIn K C=true/\bF K C f/\fs.lookup f=some v/\Q v H1
section
variable{X:Cx}{x f:Str}{B C fI:Addr}{k:Nat}{fd:FuncData}{ps:List Str}{sp:Sp}{E:XK}{e o value:Expr}{es:List Expr}{p np apos cpos pos pos':Pos}{t:TA}{ta tv:TE}
theorem z7(F:bo X.prog X.w X.K X.mg X.base eI k fI fd ps sp)(hr:cR (k+1) X.A)(hb:Binds X.K fd ps [])(M:Hw X.K C fI)(hg:Gl X x)(hm:X.mg x=some (.ref C))(hc:X.calm=true)(hX:Xe X E)(ha:PA X (e::es) t)(hex:X.ex=[]:=by rfl)
  (he:starEach (e::es) X.env=(false,eval e X.env)::starEach es X.env:=by rfl) (hplain:(backTo cpos (starEach es X.env)).any (·.1)=false:=by rfl) (hdb:(x == ("__debug__" : Str))=false:=by decide):
  PS X (.Raise (some (.Call (.Name x np) (e::es) [] cpos)) none pos) (Hz C sp E t):=by
 intro pins s σ H D I h;obtain⟨tl,N,nm,qn,bs,sn,sub,ab,col,dd,k0,k1,k2,k3,k5,mN,hC,hN,hni,T⟩:=uw I.ok.mod.Hq M.S7;obtain⟨oI,hoI,hfc⟩:∃oI,X.K.lookup fI=some oI/\oI.cls=.type "function" := Cr.mp (beq_iff_eq.mp M.fn);have hfI:=I.ok.mod.Hq _ _ hoI;refine wB (C:=C) (nm:=nm) (q:=qn) (N:=N) (bs:=bs) (bm:=tl) (hdct:=true) (sn:=sn) (sub:=sub) (ab:=ab) (col:=col) (dd:=dd) (k0:=k0) (k1:=k1) (k2:=k2) (k3:=k3) (k5:=k5) (fI:=fI) (oI:=oI)
  PySem.F.excBase_ValueError (mN:=mN) (T.hasType PySem.F.excBase_ValueError.hasBase) (I.ok.hd hc) (by rw[he];show(false || (backTo cpos (starEach es X.env)).any (·.1))=false;rw[hplain];rfl) hni hfc (dm I hg hm ⟨rfl,?_⟩ hdb)
 have h1:=ha cpos pins s σ H _ I h;rw[he]at h1 ⊢;refine Calls.evalArgs_plain (iO h1 (λus s2 h2=>?_) λ_ _ y=>y);obtain⟨vs,H2,I2,rv,hz,hE⟩:=h2;refine⟨rfl,by rw[<-rv.length];exact hz,I2.bk _ _ hC,hN.keeps I2.bk,T.keeps I2.bk,I2.bk _ _ hfI,λh' e hsz me=>?_⟩;obtain⟨t',hx,_,_⟩:=me.there;have I3:Inv X pins σ (upd H2 e (XN e C none)) { s2 with heap:=h' }:=I2.laid (t':=s2.toks) me.keeps hsz (XN.ok ⟨_,_,_,hx,rfl,rfl,rfl,rfl,rfl⟩);have hq:=hE e (I2.aN.fresh hsz);have r2:Vals (V.ref e::vs) (Value.ref e::us):=.cons rfl rv;have hl:(Value.ref e::us++[]).length=ps.length:=by
  have z:=r2.length;rw[F.len _ _ _ _ hq]at z;rw[Ho];exact z.symm
 have hbb:=hb { s2 with heap:=h' } (Value.ref e::us) I3.fk hl;rw[Ho]at hbb;have hs0:X.s₀.heap.get? e=none:=by
  cases qq:X.s₀.heap.get? e with
  |none=>rfl
  |some o=>
   obtain⟨o',q'⟩:=I2.base.there e o qq (by rw[hex];simp);rw[me.new]at q';cases q'
 refine Il (codeAny_mono (F.run _ X.stack _ _ ⟨Value.ref e::us,[]⟩ (Value.ref e::us) _ _ E0 (hr.make C us []) (I3.Iz.make C us []) hbb r2 hq) λr s' hq'=>?_);cases r with
 |error e=>exact False.elim hq'
 |ok fl=>
  cases fl with
  |ret u=>
   obtain⟨v,H',I4,rv',ev,alt⟩:=I3.after hq';subst ev;rcases alt with ⟨e1,hE⟩|⟨d,fs,dne,e1,e2,hE⟩
   ·obtain⟨ob,ws,v0,g1,g2,g3,g4,g5,g6⟩:=XN.get I4.aN e1;exact⟨rv',ob,ws,I4.bk _ _ hC,g1,g2,g4,g6,hX pins σ _ _ e (.ref C) none (I4.x9 e1) ⟨hs0,ib,.inl ⟨ob,ws,g1,g2,g3,g4,g6⟩⟩ hE⟩
   ·obtain⟨ob,ws,v0,g1,g2,g3,g4,g5,g6⟩:=XN.get I4.aN e1;have I5:=I4.Dp e2;have e3:upd H' d (.xd fs) e=some (XN e C (some d)):=by rw[ae (Ne.symm dne)];exact e1
    exact⟨rv',ob,ws,I4.bk _ _ hC,g1,g2,g4,g6,hX pins σ _ _ e (.ref C) (some d) (I5.x9 e3) ⟨hs0,ib,.inl ⟨ob,ws,g1,g2,g3,g4,g6⟩⟩ hE⟩
  |next=>exact False.elim hq'
  |brk=>exact False.elim hq'
  |cont=>exact False.elim hq'
theorem Dv{pl:Sem Bool}(hg:Gl X x)(hm:X.mg x=some (.ref B))(b:Jd X.K B)(ha:PA X (e::es) t)(hdb:(x == ("__debug__" : Str))=false:=by decide)
  (hst:starEach (e::es) X.env=(false,eval e X.env)::starEach es X.env:=by rfl) (hpl:(backTo pos (starEach es X.env)).any (·.1)=false:=by rfl)
  (ht:eval (.Call (.Attribute (.Name x p) "__init__" apos) (e::es) [] pos) X.env=(do
   let ov <-eval (.Name x p) X.env
   standAt apos.atName
   let (f,first) <-holding [ov] (getMethod ov "__init__" pl)
   callWith pos f first (backTo pos (starEach (e::es) X.env)) (backToKw pos (keywordEach [] X.env))):=by rfl):
  PE X (.Call (.Attribute (.Name x p) "__init__" apos) (e::es) [] pos) (Kk X.K t):=by
 intro pins s σ H Q I h;refine methodCall_KW (pl:=pl) (dm I hg hm ?_ hdb) ht;refine method_cls I.fk b.ga (cls_value I.fk b.rd b.fc (by rfl) ?_);refine callWith_builtin1 (bx (ha pos pins _ σ H _ (I.tok (s.toks+1)) h) λus s1 ⟨vs,H1,I2,r,q⟩=>?_) hst hpl;obtain⟨a,C,dx,rest,f,rfl,e1,M,hz,q⟩:=q;cases r with
 |cons ra rr=>
  rename_i u us _;obtain rfl:u=Value.ref a:=ra;obtain⟨tl,N,nm,qn,bs,sn,sub,ab,col,dd,k0,k1,k2,k3,k5,mN,hC,hN,hni,T⟩:=uw I2.fk M.S7;obtain⟨ob,ws,v0,g1,g2,g3,g4,g5,g6⟩:=XN.get I2.aN e1;obtain⟨hh,g,d,tk,os⟩:=s1;have h0:=(LO.mp g5).1;refine Am PySem.F.excBase_ValueError T hC g1 g2 g4 g5 (λh' T' kk e'=>?_) (by rw[<-rr.length];exact hz);have I3:=I2.write (h':=h') (t':=tk) (x:=a) (e:=a) (o:=XN a C dx) (by rw[e1];exact True.intro) (.inl rfl) kk ⟨_,e'⟩
   (XN.ok ⟨_,ws.setIfInBounds 0 T',T',e',g2,g3,rfl,by simp[h0],by rw[Array.getElem?_setIfInBounds_ne (by decide)];exact g6⟩)
  rw[iG e1]at I3;exact⟨.aF,H1,I3,rfl,q⟩
theorem Hg(ha:PE X o ta)(hv:PE X value tv)(hs:swapsWith value (some (.Attribute o f pos')) pos.line X.env=pure false):PS X (.Assign [.Attribute o f pos'] value pos) (MW X.K ta tv f):=by
 intro pins s σ H D I h;refine plainObj_wpAny_Assign_Attribute (bx (hv pins s σ H _ I h) λu s1 hz=>?_) hs;obtain⟨y,H1,I1,ry,q⟩:=hz;refine bx (ha pins s1 σ H1 _ I1 q) λov s2 hz=>?_;obtain⟨x,H2,I2,rx,a,C,fI,dx,ex,ea,M,n,q2⟩:=hz;subst ex;obtain rfl:ov=Value.ref a:=rx;obtain⟨ob,ws,v0,g1,g2,g3,g4,g5,g6⟩:=XN.get I2.aN ea;rcases q2 with ⟨rfl,q2⟩|⟨d,fs,rfl,ed,hl,q2⟩
 ·refine EX I2.fk g1 g2 g3 g4 M.ei M.sa n λh' tk k1 k2 k3=>?_;have hne:s2.heap.objs.size≠a:=Ne.symm (lE (dj g1));have hn:=I2.aN.fresh (dn s2.heap.objs.size);refine⟨σ,_,?_,q2 s2.heap.objs.size hn⟩;have na:∀b u,H2 b=some u->(∀ψ,u≠.ext ψ)->b≠a:=λb u q nx z=>by rw[z,ea]at q;exact nx _ (Option.some.inj q).symm
  have nd:∀b u,H2 b=some u->b≠s2.heap.objs.size:=λb u q=>cT q hn;have n0:∀b,H2 b=none->b≠a:=λb q z=>by rw[z,ea]at q;cases q
  have up:∀b,b≠a->b≠s2.heap.objs.size->upd (upd H2 s2.heap.objs.size (XD s2.heap.objs.size [(f,y)])) a (XN a C (some s2.heap.objs.size)) b=H2 b:=λb z1 z2=>by rw[ae z1,ae z2]
  refine I2.un (h':=h') (t':=tk) ⟨λb o q m _ _=>k3 b o (n0 b m) q,λb o q m _ _=>⟨o.slots,k3 b o (n0 b m) q⟩,λb o q m _=>?_,λb o q _=>?_,λb xs q=>?_,λb o u q=>?_,λb ps q=>⟨#[],?_⟩⟩ λb u q=>?_
  ·rw[up b (n0 b m) (lE (dj q))];exact m
  ·by_cases hb:b=a
   ·rw[hb];exact⟨_,k1⟩
   ·exact⟨o,k3 b o hb q⟩
  ·rw[up b (na b _ q (by intro ψ z;cases z)) (nd b _ q)];exact q
  ·rw[up b (na b _ q (by intro ψ z;cases z)) (nd b _ q)];exact q
  ·rw[up b (na b _ q (by intro ψ z;cases z)) (nd b _ q),q];simp
  ·by_cases hb:b=a
   ·subst hb;rw[aE]at q;cases q;exact XN.ok ⟨_,ws,v0,k1,g2,rfl,g4,g5,g6⟩
   ·by_cases hd:b=s2.heap.objs.size
    ·subst hd;rw[ae hb,aE]at q;cases q;refine XD.ok ⟨_,k2,λg=>?_,λg hg=>?_⟩
     ·by_cases z:g=f
      ·rw[if_pos z,z];simp[List.lookup];exact ry
      ·have zb:(g == f)=false:=beq_eq_false_iff_ne.mpr z;rw[if_neg z];simp only[List.lookup,zb];trivial
     ·by_cases z:g=f
      ·rw[z];simp
      ·exact absurd (if_neg z) hg
    ·rw[up b hb hd]at q;refine(I2.aN b u q).iH (λc v hc z=>k3 c v ?_ z) (λc z=>by rw[up c (na c _ z (by intro ψ z;cases z)) (nd c _ z)];exact z) λc xs z=>by rw[up c (na c _ z (by intro ψ z;cases z)) (nd c _ z)];exact z
     rcases hc with z|z
     ·rw[z];exact hb
     ·exact na c _ z (by intro ψ z;cases z)
 ·obtain⟨mA,n1,r,wi⟩:=XD.get I2.aN ed;have hz:(fs.map (·.1)).length<=sizeLine:=by rw[aQ,sizeLine_eq];omega
  refine Dg I2.fk g1 g2 g3 g4 n1 M.ei M.sa n wi hz λh' tk k1 sb=>?_;refine⟨σ,_,?_,q2⟩;obtain⟨od,_,_,hod,_⟩:=id k1;refine I2.write (x:=d) (e:=d) (by rw[ed];exact True.intro) (.inl rfl) (λb q hb z=>(sb.2 b hb).trans z) ⟨od,hod⟩ (XD.ok ⟨_,k1,λg=>?_,λg hg=>?_⟩)
  ·show eB ((putF f y fs).lookup g) (if g=f then some u else mA g);rw[fV];by_cases q:g=f
   ·rw[if_pos q,if_pos q];exact ry
   ·rw[if_neg q,if_neg q];exact r g
  ·by_cases q:g=f
   ·rw[q];exact(e6 f y fs).1
   ·refine(e6 f y fs).2 g (wi g λz=>hg ?_);show(if g=f then some u else mA g)=none;rw[if_neg q];exact z
theorem y_(he:PE X o ta)(hb:attributeBase o f X.env (eval o X.env)=eval o X.env):PE X (.Attribute o f pos) (N5 X.K ta f):=by
 intro pins s σ H Q I h;refine yB hb (bx (he pins s σ H _ I h) λu s1 hz=>?_);obtain⟨x,H1,I1,rx,a,C,d,fs,v,ex,ea,ed,c,hd,n,l,q⟩:=hz;subst ex;obtain rfl:u=Value.ref a:=rx;obtain⟨⟨ob,ws,g1,g2,g3,g4⟩,_⟩:=(I1.aN a _ ea)
 obtain⟨mA,n1,r⟩:=(show ∃mA,s1.heap.Ns1 d mA/\∀f,eB (fs.lookup f) (mA f) from I1.aN d _ ed)
 obtain⟨od,ho,hl⟩:=my n1;obtain⟨u,hu,ru⟩:=eB.some_of (v:=v) (o:=mA f) (by rw[<-l];exact r f);have J:InstAt s1.heap a ob C (some od):=⟨g1,g2,by unfold notCls;rw[g4],by rw[g3];exact ho⟩
 exact Kb I1.fk c J (findObj_own hd n rfl (by rw[hl,hu])) (md ru) ⟨v,H1,I1.tok _,ru,q⟩
end
end L2
namespace L2
open PySem PySem.Spec PyProof.Rows
section
variable{X:Cx}
theorem cJ{b:List Stmt}{t u:TS}(h:lV X b t)(w:∀D σ H,u D σ H->t D σ H):lV X b u:=λpins s σ H D I q=>h pins s σ H D I (w D σ H q)
theorem hU{e:Expr}{t u:TE}(h:PE X e t)(w:∀σ H Q,u σ H Q->t σ H Q):PE X e u:=λpins s σ H Q I q=>h pins s σ H Q I (w σ H Q q)
end
section
variable{X:Cx}
theorem He{elt iter tg:Expr}{ifs:List Expr}{scope:Scope}{pos spos py:Pos}{y:Str}{i:Nat}{N':List Str}{k:Nat}{fm:List Nat}{wi:TI}{g:TG}{tt:TT}{te:TE}(hN:X.N.Nodup)(hi':X.N[i]?=some y)(hy:Loc X.env.scope y)(B:gm X N' k fm scope)(hc:X.calm=true)(hi:PI X tg iter wi)
  (hb:∀fp s H,PG (zM X N' scope fp s H) tg g/\OI (zM X N' scope fp s H) ifs tt/\PE (zM X N' scope fp s H) elt te)
  (hsw:swapsWith (.ListComp elt [⟨tg,iter,ifs,0⟩] scope pos) (some (.Name y py)) spos.line X.env=pure true:=by rfl)
  (hs:∀x,foldedSetIterable iter X.env x=pure x:=by intro _;rfl) (hfn:X.fn y=true\/X.env.scope.names.lookup y=some .local:=by first|exact .inl rfl|exact .inr rfl|assumption):
  PS X (.Assign [.Name y py] (.ListComp elt [⟨tg,iter,ifs,0⟩] scope pos) spos) (Ip (mK k fm wi g tt te) (uH i)):=by
 intro pins s σ H DD I h;have hfree:∀x∈scope.names,x.2=.free->∃c,X.env.cells.lookup x.1=some c:=λx hx hk=>I.ok.has x.1 (B.free x hx hk);rw[exec_Assign_Name_used _ _ _ _ hsw];refine aT (Me (aT ?_));show wpAny _ X.A (do let _ <-comprehension (.ListComp elt [⟨tg,iter,ifs,0⟩] scope pos) scope X.env _ (newList []) false (eval iter X.env) (some (assign (.Name y py) X.env))) _ _ s;refine aT (iO (wpAny_comprehension_free (use:=some (assign (.Name y py) X.env)) (Q:=λ_ s'=>SP X pins DD .next s') rfl hs (gK hfree) B.kind B.names (bx (hi pins s σ H _ I h) λv s1 h1=>bx h1 λitv s2 h2=>?_)) (λ_ s' hq=>cC (cC hq)) λ_ _ e=>e);obtain⟨it,fp,tn,J,H2,e,I2,T,st2,f2,h2⟩:=h2;subst e;obtain⟨W,⟨m0,w0⟩,turn⟩:=h2 s2.heap.objs.size I2.fresh;refine Lc (wpAny_newFunctionEnv B.v9 (by intro y hy;simp at hy) (λh4 hns4 hsb4=>?_) B.kind);have I3:=I2.HP (its:=[]) (ys:=[]) (t':=s2.toks) .nil (gB _);have hf3:∀b∈fp,g9 X pins (upd H2 s2.heap.objs.size (.lst [])) b:=λb hb=>by
  obtain⟨o,e,_⟩:=T.obj _ _ st2 b hb;refine⟨?_,(f2 b hb).2⟩;rw[ae (λz=>ku _ (z▸dj e))];exact(f2 b hb).1
 have ho3:∀b∈fp,∃o,(s2.heap.push { cls:=.type "list", data:=.seq ([]:List Value).toArray }).get? b=some o:=λb hb=>by
  obtain⟨o,e,_⟩:=T.obj _ _ st2 b hb;exact⟨o,fU _ e⟩
 have kp4:∀b o,(s2.heap.push { cls:=.type "list", data:=.seq ([]:List Value).toArray }).get? b=some o->h4.get? b=some o:=λb o e=>
  hsb4.extBut b o (λz=>ku _ (z▸dj e)) (fU _ e)
 have I4:=I3.block (fp:=fp) (h':=h4) (tk:=s2.toks+([]:List (Str×Value)).length) B hf3 ho3 hns4 kp4;generalize hs3:({ s2 with heap:=s2.heap.push { cls:=.type "list", data:=.seq ([]:List Value).toArray },toks:=s2.toks }:Shared)=s3 at *;obtain⟨hg,ht,he⟩:=hb fp s3 (upd H2 s2.heap.objs.size (.lst []));have st4:tn 0 h4:=T.keep _ _ _ st2 λb hb o e=>kp4 b o (fU _ e);have stat:∀{H':Hp},(∀b∈fp,H' b=none)->∀b∈fp,g9 (zM X N' scope fp s3 (upd H2 s2.heap.objs.size (.lst []))) [] H' b:=λ{H'} hn b hb=>by
  obtain⟨f0,f1,f3,f4,f5,f6⟩:=hf3 b hb;obtain⟨g1,g2⟩:=I4.ok.Mf b hb;exact⟨hn b hb,g1,I4.ok.uQ b hb,.inl hb,g2,λp hp=>f6 p ((eC.mp hp).elim (λz=>vB _ z) λz=>absurd z (by simp))⟩
 have loop:codeAny (model X.prog X.w) X.A (.compLoop (.ListComp elt [⟨tg,iter,ifs,0⟩] scope pos) 0 (.ref it) (.ref s2.heap.objs.size) (compEnvC scope (jk X.env scope.names []) s3.heap.objs.size X.env))
   (compPost (model X.prog X.w) X.A X.xe (some (assign (.Name y py) X.env)) (λ_ s'=>SP X pins DD .next s') (.ref s2.heap.objs.size) s3.heap.objs.size) { s3 with heap:=h4,toks:=s2.toks+([]:List (Str×Value)).length }:=by
  refine uK (X:=zM X N' scope fp s3 (upd H2 s2.heap.objs.size (.lst []))) (D:=s2.heap.objs.size) (Q:=λv H'=>DD.nx (σ.set i (some v)) H') (W:=W) (m0:=m0) rfl hc T stat hg ht he turn I4 st4 (λb hb=>(hf3 b hb).1) w0 ?_;intro H' s' I' q;obtain⟨m,hn,_⟩:=I'.loc;have hCn:s3.heap.get? s3.heap.objs.size=none:=by
   cases e:s3.heap.get? s3.heap.objs.size with
   |none=>rfl
   |some o=>exact absurd (dj e) (ku _)
  have J:∀h'':Heap,(∀b o,b≠s3.heap.objs.size->s'.heap.get? b=some o->h''.get? b=some o)->Inv X pins σ H' { s' with heap:=h'' }:=λh'' hk=>by
   have u:Un (hZ X.stack) fp (upd H2 s2.heap.objs.size (.lst [])) H' s3.heap h'':=Un.tail I'.base hk hCn;refine I3.xr (s':={ s' with heap:=h'' }) (ch:=fp) I'.os u (I'.aN.tail hk I'.free) I'.bare λb hb=>?_;obtain⟨f0,f1,f3,f4,f5,f6⟩:=hf3 b hb;exact⟨f4,f1,f5,f6⟩
  have J1:Inv X pins σ H' s':=J s'.heap λ_ _ _ e=>e;obtain⟨oC,es,ep,hoC,hdC,rC⟩:=hn;have hCf:H' s3.heap.objs.size=none:=I'.free;have hCL:s3.heap.objs.size≠X.env.locals:=Ne.symm (lE I3.lt);have hCfs:=I3.Nt (dn _);have J2:Inv X (pins++[(s3.heap.objs.size,oC)]) σ H' s':=J1.j7 λp hp=>by
   rcases eC.mp hp with z|z
   ·exact J1.pin p (jE _ z)
   ·rw[iL.mp z];exact⟨hoC,hCf,hCL,hCfs,λv e=>by rw[hdC]at e;cases e⟩
  show wpAny _ X.A (assign (.Name y py) X.env (.ref s2.heap.objs.size)) _ _ _;refine wpAny_assign_Name (h8 J2 hN hi' hy (v:=.ref s2.heap.objs.size) rfl (λs5 I5=>?_) hfn);have hC5:=(I5.pin (s3.heap.objs.size,oC) (jE _ (jE _ (iL.mpr rfl)))).1;refine⟨m,⟨oC,es,ep,hC5,hdC,rC⟩,λh'' hs''=>?_⟩;have I6:Inv X pins (σ.set i (some (.ref s2.heap.objs.size))) H' s5:=I5.j7 λp hp=>I5.pin p (jE _ (vB _ hp));refine⟨_,H',I6.turned (t':=s5.toks) (it:=s3.heap.objs.size) (λb o hb e=>hs''.extBut b o hb e) hCf hCL (.inr I3.sz) (λx c e z=>?_) (λp hp z=>?_),q⟩
  ·obtain⟨v,o,ho,_⟩:=I3.cell x c e;rw[z]at ho;exact absurd (dj ho) (ku _)
  ·have z':=(I3.pin p hp).1;rw[z]at z';exact absurd (dj z') (ku _)
 subst hs3;exact codeAny_compStart_list loop (T.self X.A 0 _ _ _ st4 loop)
end
section
variable{prog:Program}{w:World}{K:Type} [DecidableEq K]{knd:KeyKind prog w K}{A:Around}{E:Vs}{s:Shared}
end
section
variable{X:Cx}
def PF(K:Wf):R2:=λx y H Q=>∃p q kvs,x=.ref p/\y=.ref q/\H p=some (.dK kvs)/\H q=some (.dK kvs)/\(∀kv∈kvs,∃d,Rep K H d kv.2/\dep d<=20)/\Q (.bl true) H
noncomputable def Py:List V->Hp->VK->Prop:=λxs H Q=>∃p kvs,xs=[.ref p]/\H p=some (.dK kvs)/\∀q,H q=none->Q (.ref q) (upd H q (.dK kvs))
noncomputable def QL(x:V)(xs:List V):Nat:=xs.countP λy=>E4 y x
noncomputable def RF(K:Wf):V->List V->Hp->VK->Prop:=λx vs H Q=>∃p xs y,x=.ref p/\vs=[y]/\aC K H p xs/\gM y=true/\xs.all gM=true/\Q (.int (QL y xs:Nat)) H
end
section
variable{M:Model}{A:Around}{E:Vs}{s:Shared}
end
section
variable{prog:Program}{w:World}{A:Around}{R:Result->Shared->Prop}{s:Shared}
end
section
variable{X:Cx}
def KH(E:XK)(k:Nat)(fm:List Nat)(wi:TI)(g:TG)(tt:TT)(te:F0):TE:=λσ H Q=>wi σ H λJ H1=>∀D,H1 D=none->∃W:Nat->Nat->List V->Hp->Prop,
 (∃m,W 0 m [] (upd H1 D (.lst [])))/\∀i m ys H2,W i m ys H2->H2 D=some (.lst ys)/\ys.length<sizeLine/\((J.stop i H2/\Q (.ref D) H2)\/(J.go i H2/\∃N:List V->Hp->Prop,(∀ys' H',N ys' H'->∃m',m'<m/\W (i+1) m' ys' H')/\∀x H3,J.z9 i H2 x H3->
  g x (eG k fm σ) H3 λσ3 H4=>Ext (eG k fm σ) σ3/\tt σ3 H4 λb H5=>if b=true then te σ3 H5 (λy H6=>H6 D=some (.lst ys)/\N (ys++[y]) (upd H6 D (.lst (ys++[y])))) E else N ys H5))
end
def LZ(E:XK)(g:TG)(tt:TT)(te:F0)(σ0:St)(Q:VK)(J:It)(H1:Hp):Prop:=∀DD,H1 DD=none->∃W:Nat->Nat->List V->Hp->Prop,
 (∃m,W 0 m [] (upd H1 DD (.lst [])))/\∀i m ys H2,W i m ys H2->H2 DD=some (.lst ys)/\ys.length<sizeLine/\((J.stop i H2/\Q (.ref DD) H2)\/(J.go i H2/\∃N:List V->Hp->Prop,(∀ys' H',N ys' H'->∃m',m'<m/\W (i+1) m' ys' H')/\∀x H3,J.z9 i H2 x H3->
  g x σ0 H3 λσ3 H4=>Ext σ0 σ3/\tt σ3 H4 λb H5=>if b=true then te σ3 H5 (λy H6=>H6 DD=some (.lst ys)/\N (ys++[y]) (upd H6 DD (.lst (ys++[y])))) E else N ys H5))
def Lg(K:Wf)(E:XK)(g:TG)(tt:TT)(te:F0)(σ0:St)(Q:VK):VK:=λx H1=>∃a,x=.ref a/\(∃xs,aC K H1 a xs)/\LZ E g tt te σ0 Q (D9 K a) H1
section
variable{K:Wf}{k:Nat}{fm:List Nat}{tl:TE}{te:F0}{g:TG}{tt:TT}{σ σ0:St}{H H1:Hp}{Q:VK}{E:XK}
theorem JD:KH E k fm (vg K tl) g tt te σ H Q=tl σ H (Lg K E g tt te (eG k fm σ) Q):=rfl
end
section
variable{M:Model}{A:Around}{E:Vs}{s:Shared}
end
section
variable{X:Cx}
noncomputable def Px:V->List V->Hp->VK->Prop:=λx vs H Q=>∃l kvs,x=.ref l/\vs=[]/\H l=some (.dK kvs)/\Q .aF (upd H l (.dK []))
end
section
variable{X:Cx}
end
end L2
namespace L2
open PySem
section
variable{prog:Program}{w:World}{A:Around}{E:Vs}{s:Shared}
set_option maxHeartbeats 3200000 in
set_option maxHeartbeats 3200000 in
set_option maxHeartbeats 3200000 in
end
section
open PyProof.Rows PySem.Spec
variable{X:Cx}
end
end L2
namespace L2
open PySem PySem.Spec PyProof.Rows
section
variable{X:Cx}{pins:Lo}{σ:List (Option V)}{H H':Hp}{s:Shared}{h':Heap}
theorem Inv.zp{t':Nat}{fp:List Addr}(I:Inv X pins σ H s)(k:∀b o,b∉fp->s.heap.get? b=some o->h'.get? b=some o)(hf:∀b∈fp,g9 X pins H b):Inv X pins σ H { s with heap:=h',toks:=t' }:=by
 have nit:∀b u,H b=some u->b∉fp:=λb u e z=>by rw[(hf b z).1]at e;cases e
 have hL:X.env.locals∉fp:=λz=>(hf _ z).2.1 rfl;refine I.step (g':=s.gens) (d':=s.drawn) (ch:=fp) (λb hb=>?_) (λb o _ _ hc e _=>k b o hc e) (λb o _ _ hc e _=>⟨o.slots,k b o hc e⟩) (λ_ _ _ _ n=>n)
  (λb o hc e=>⟨o,k b o hc e⟩) (λ_ _ e=>e) (λ_ _ _ e=>e) (λb ps e=>⟨#[],by rw[e];simp⟩) (λm hm=>?_) (λb u e=>?_) I.bare
 ·obtain⟨_,a1,_,a2,a3,a4⟩:=hf b hb;exact⟨a2,a1,a3,a4⟩
 ·obtain⟨o,es,ep,ho,r⟩:=hm;exact⟨o,es,ep,k _ o hL ho,r⟩
 ·refine(I.aN b u e).iH (λc v hc q=>k c v ?_ q) (λ_ q=>q) λ_ _ q=>q;rcases hc with z|z
  ·rw[z];exact nit b u e
  ·exact nit c _ z
theorem Inv.xN{t':Nat}{fp:List Addr}{q:Addr}{xs:List V}(I:Inv X pins σ H s)(k:∀b o,b∉fp->s.heap.get? b=some o->h'.get? b=some o)(hf:∀b∈fp,g9 X pins H b)(hq:s.heap.objs.size<=q)(new:a_ X.prog X.w (upd H q (.tup xs)) h' q (.tup xs)):
  Inv X pins σ (upd H q (.tup xs)) { s with heap:=h',toks:=t' }:=by
 have nit:∀b u,H b=some u->b∉fp:=λb u e z=>by rw[(hf b z).1]at e;cases e
 have hL:X.env.locals∉fp:=λz=>(hf _ z).2.1 rfl;have fq:H q=none:=I.aN.fresh hq;have ne:∀b u,H b=some u->b≠q:=λb u e z=>by rw[z,fq]at e;cases e
 have ne':∀b (o:Obj),s.heap.get? b=some o->b≠q:=λb o e z=>absurd (dj e) (by rw[z];exact Nat.not_lt.mpr hq);refine I.step (g':=s.gens) (d':=s.drawn) (ch:=fp) (λb hb=>?_) (λb o _ _ hc e _=>k b o hc e) (λb o _ _ hc e _=>⟨o.slots,k b o hc e⟩) (λb o _ e n=>by rw[ae (ne' b o e)];exact n)
  (λb o hc e=>⟨o,k b o hc e⟩) (λb _ e=>by rw[ae (ne b _ e)];exact e) (λb _ _ e=>by rw[ae (ne b _ e)];exact e) (λb ps e=>⟨#[],by rw[ae (ne b _ e),e];simp⟩) (λm hm=>?_) (λb u e=>?_) I.bare
 ·obtain⟨_,a1,_,a2,a3,a4⟩:=hf b hb;exact⟨a2,a1,a3,a4⟩
 ·obtain⟨o,es,ep,ho,r⟩:=hm;exact⟨o,es,ep,k _ o hL ho,r⟩
 ·by_cases z:b=q
  ·subst z;rw[aE]at e;cases e;exact new
  ·rw[ae z]at e;refine(I.aN b u e).iH (λc v hc q=>k c v ?_ q) (λc q=>?_) λc o q=>?_
   ·rcases hc with z|z
    ·rw[z];exact nit b u e
    ·exact nit c _ z
   ·rw[ae (ne c _ q)];exact q
   ·rw[ae (ne c _ q)];exact q
end
section
variable{X:Cx}
end
section
variable{K:Wf}{k:Nat}{fm:List Nat}{te:TE}{ta:TA}{g:TG}{tt:TT}{σ σ0:St}{H H1:Hp}{Q:VK}
end
noncomputable def QI(K:Wf)(a:Addr):It:=
 ⟨λi H=>∃ xs x, aC K H a xs /\ xs[i]? = some x,
  λi H v H'=>∃q x,v=.ref q/\H q=none/\(∀xs,aC K H a xs->xs[i]?=some x)/\H'=upd H q (.tup [.int i,x]),
  λi H=>∃xs,aC K H a xs/\xs.length<=i⟩
def Te(e it l:Addr)(i:Nat)(h:Heap):Prop:=(∃old,IsEnum h e it i old)/\h.IsListIter it l i
theorem Af{P:Program}{w:World}{K:Wf}{elts:List Expr}{x1}{pos:Pos}{e it:Addr}(l:Addr)(f:e≠it):Turn P w K (.Tuple elts x1 pos) (QI K l) [e,it] e (Te e it l) where
 mem:=by simp
 obj:=λi h st b hb=>by
  obtain⟨⟨old,t1⟩,⟨o4,t4,c4,d4⟩⟩:=st;simp only[List.mem_cons,List.not_mem_nil,or_false]at hb;rcases hb with rfl|rfl
  ·exact⟨_,t1,λv q=>by cases q⟩
  ·exact⟨_,t4,λv q=>by rw[d4]at q;cases q⟩
 keep:=λi h h' st k=>by
  obtain⟨⟨old,t1⟩,t4⟩:=st;exact⟨⟨old,k e (by simp) _ t1⟩,t4.at λo q=>k it (by simp) o q⟩
 item:=by
  intro X hP hw hK hc i pins s σ H E I hf st hg;subst hP hw hK;obtain⟨xs,x,q1,hx⟩:=hg;obtain⟨its1,rv1,p1,_⟩:=I.list q1;obtain⟨u,hu,ru⟩:=rv1.get hx;obtain⟨⟨old,t1⟩,t4⟩:=id st;have lt:∀b∈[e,it],b<s.heap.objs.size:=λb hb=>by
   simp only[List.mem_cons,List.not_mem_nil,or_false]at hb;rcases hb with rfl|rfl
   ·exact dj t1
   ·obtain⟨_,q,_⟩:=t4;exact dj q
  refine wpAny_pyNext_enum_item t1 t4 p1.isList (x:=u) (by simpa using hu) f λh' z' i1' pr sz kp=>⟨.ref s.heap.objs.size,rfl,?_⟩;refine wpAny_letOwnedTupleGo_enum z' λh'' z'' sb=>?_;have nz:s.heap.objs.size≠e:=Nat.ne_of_gt (lt e (by simp));have kk:∀b o,b∉[e,it]->s.heap.get? b=some o->h''.get? b=some o:=λb o nb q=>by
   simp only[List.mem_cons,List.not_mem_nil,or_false,not_or]at nb;exact(sb.2 b nb.1).trans (kp b o nb.1 nb.2 q)
  have new:IsTup h'' s.heap.objs.size #[.int i s.toks,u]:=⟨_,(sb.2 _ nz).trans pr,rfl,0,rfl⟩
  refine⟨.ref s.heap.objs.size,_,I.xN (q:=s.heap.objs.size) (xs:=[.int i,x]) (t':=s.toks+1) kk hf (dn _) ⟨by rw[sizeLine_eq];exact(by decide:(2:Nat)<=16777216),[_,u],.cons ⟨_,rfl⟩ (.cons ru .nil),new⟩,rfl,⟨_,x,rfl,I.aN.fresh (dn _),λzs hz=>by rw[I.gq hz q1];exact hx,rfl⟩,?_,λb hb=>?_⟩
  ·exact ⟨⟨_, by have : ((i + 1 : Nat) : Int) = (i : Int) + 1 := by push_cast; rfl
                 rw[this];exact z''⟩,i1'.at λo q=>(sb.2 _ (Ne.symm f)).trans q⟩
  ·rw[ae (lE (lt b hb))];exact(hf b hb).1
 done:=by
  intro X hP hw hK hc i pins s σ H E I hf st hg;subst hP hw hK;obtain⟨xs,q1,hx⟩:=hg;obtain⟨its1,rv1,p1,_⟩:=I.list q1;obtain⟨⟨old,t1⟩,t4⟩:=id st;have e1:=rv1.length;refine wpAny_pyNext_enum_end (I.ok.hd hc) t1 t4 p1.isList (by simp;omega) λh' kp=>⟨rfl,I.zp (t':=s.toks) (λb o nb q=>?_) hf⟩;simp only[List.mem_cons,List.not_mem_nil,or_false,not_or]at nb;exact kp b o nb.2 q
 self:=λ_ _ _ _ _ st h=>by
  obtain⟨⟨old,t1⟩,_⟩:=st;exact wpAny_pyIter_enum t1 h
section
variable{X:Cx}
theorem boot_enumerate:bootBuiltins "enumerate" = some (.type "enumerate"):=by decide +kernel
def Ja(K:Wf)(ta:TA):TI:=λσ H R=>ta σ H λvs H1=>∃a xs,vs=[.ref a]/\aC K H1 a xs/\R (QI K a) H1
theorem yI{K:Wf}(eK:X.K=K){elts:List Expr}{x1}{tp:Pos}{a:Expr}{ta:TA}{p pos:Pos}(hg:Gl X "enumerate")(hm:X.mg "enumerate" = none)(ha:PA X [a] ta)(hs:starEach [a] X.env=[(false,eval a X.env)]:=by rfl):
  PI X (.Tuple elts x1 tp) (.Call (.Name "enumerate" p) [a] [] pos) (Ja K ta):=by
 subst eK;intro pins s σ H R I h;refine Call_ (iD I hg hm boot_enumerate (PyProof.Rows.callWith_type1 (bx (ha pos pins s σ H _ I h) λus s1 ⟨vs,H1,I1,r1,q1⟩=>?_) (by rw[hs];rfl) (by rfl)));obtain⟨l1,xs,e,h1,q⟩:=q1;subst e;cases r1 with
 |cons r rr=>
  cases rr;cases r;obtain⟨its1,rv1,p1,_⟩:=I1.list h1;refine call_enumerate_list p1.isList λh' z j1 sz kp=>?_;have I2:=I1.kept (h':=h') (t':=s1.toks) kp;refine wpAny_pyIter_enum z ?_;refine⟨_,_,_,_,H1,rfl,I2,Af l1 (Nat.succ_ne_self _),⟨⟨_,z⟩,j1⟩,λb hb=>?_,q⟩;have lb:s1.heap.objs.size<=b:=by
   simp only[List.mem_cons,List.not_mem_nil,or_false]at hb;rcases hb with rfl|rfl
   ·exact Nat.le_add_right _ 1
   ·exact dn _
  exact I1.Fj lb (I1.aN.fresh lb)
end
noncomputable def DK(K:Wf)(g:TG)(tb:TS)(D:Ends)(σ:St):List V->Hp->Prop:=λvs H1=>∃a xs,vs=[.ref a]/\aC K H1 a xs/\wD g tb D σ (QI K a) H1
section
variable{K:Wf}{te:TE}{ta:TA}{g:TG}{tb:TS}{D:Ends}{σ:St}{H:Hp}
theorem Mg:lP (Ja K ta) g tb D σ H=ta σ H (DK K g tb D σ):=rfl
theorem DK.of{a:Addr}{xs:List V}(Pv:Nat->St->Hp->Prop)(h0:Pv 0 σ H)(hl:∀i σ H,i<=xs.length->Pv i σ H->aC K H a xs)
  (hs:∀i x σ H q,xs[i]?=some x->Pv i σ H->H q=none->g (.ref q) σ (upd H q (.tup [.int i,x])) λσ2 H2=>tb { D with nx:=Pv (i+1),ct:=Pv (i+1),bk:=D.nx } σ2 H2) (hd:∀σ H,Pv xs.length σ H->D.nx σ H):DK K g tb D σ [.ref a] H:=by
 refine⟨a,xs,rfl,hl 0 _ _ (gB _) h0,λi m σ H=>m=xs.length - i/\i<=xs.length/\Pv i σ H,⟨xs.length,by simp,Nat.zero_le _,h0⟩,?_⟩;rintro i m σ H ⟨rfl,hi,p⟩;have q:=hl i σ H hi p;by_cases hlt:i<xs.length
 ·refine .inr ⟨⟨xs,xs[i],q,by simp[hlt]⟩,Pv (i+1),λσ' H' p'=>⟨xs.length - (i+1),by omega,rfl,hlt,p'⟩,λx H' y=>?_⟩;obtain⟨b,u,rfl,nb,y,rfl⟩:=y;exact hs i u σ H b (y xs q) p nb
 ·have e:i=xs.length:=by omega
  subst e;exact .inl ⟨⟨xs,q,dn _⟩,hd σ H p⟩
end
section
variable{X:Cx}
end
section
variable{te:TE}{g:TG}{tb:TS}{D:Ends}{σ:St}{H:Hp}
end
theorem mm:∀l:List (Str×Tok),Vals ((l.map (·.1)).map V.str) (strValues l)
 |[]=>.nil
 |p::r=>.cons ⟨p.2,rfl⟩ (mm r)
theorem ud(sep:Str):∀ps:List Str,(ps.length - 1)*sep.length<=(Str.join sep ps).length
 |[]=>by simp
 |[x]=>by simp
 |x::y::r=>by
  have h:=ud sep (y::r);show _<=(x++sep++Str.join sep (y::r)).length;rw[Str.length_append,Str.length_append];simp only[List.length_cons,Nat.add_sub_cancel]at h ⊢;rw[Nat.succ_mul];omega
theorem split_len(x y:Str)(hy:1<=y.length):(Txt.split x y).length<=x.length+1:=by
 have h:=ud y (Txt.split x y);rw[StrLaws.join_split]at h;have:(Txt.split x y).length - 1<=((Txt.split x y).length - 1)*y.length:=Nat.le_mul_of_pos_right _ hy;omega
section
variable{X:Cx}
noncomputable def Lz:V->List V->Hp->VK->Prop:=λx vs H Q=>∃z y,x=.str z/\vs=[.str y]/\1<=y.length/\z.length<sizeLine/\∀l,H l=none->Q (.ref l) (upd H l (.lst ((Txt.split z y).map V.str)))
theorem uG:J6 X "str.split" Lz:=by
 intro pins s σ H x vs v us Q I rx rv h;obtain⟨z,y,rfl,rfl,hy1,hz,q⟩:=h;obtain⟨t,rfl⟩:=rx;obtain⟨u,rfl,ru⟩:=rv.one;obtain⟨u,rfl⟩:=ru;have hy:(y.length == 0)=false:=by simp;omega
 have hlen:=split_len z y hy1;have fin:∀(l:List (Str×Tok)) (k:Nat),l.map (·.1)=Txt.split z y->EP X pins σ Q (.ref s.heap.objs.size) { s with heap:=s.heap.push { cls:=.type "list", data:=.seq (strValues l).toArray },toks:=k }:=λl k e=>by
  have hv:=mm l;rw[e]at hv;exact⟨.ref s.heap.objs.size,_,I.HP hv (by rw[aQ];omega),rfl,q _ I.fresh⟩
 cases h1:(decide (z.length<y.length) || decide (Builtin.Str.strKind z<Builtin.Str.strKind y))
 ·cases hf:(Builtin.Str.occurrences z y 0 z.length (z.length+1)).isEmpty
  ·have es:Txt.split z y=Builtin.Str.partsBetween z (Builtin.Str.occurrences z y 0 z.length (z.length+1)) y.length:=(if_neg (ne_true_of_eq_false h1)).trans (if_neg (ne_true_of_eq_false hf));refine call_meets F.slot_str_split (typeIs_str _ _ _) F.entry_str_split (F.args_str_split_2 _ _) (meets_str_split_sep z y t u h1 hy hf (by omega) (by rw[<-es];omega)) ?_;show wants _ _ _ { s with toks:=_,heap:=s.heap.push { cls:=.type "list", data:=.seq (strsFrom s.toks (Builtin.Str.partsBetween z (Builtin.Str.occurrences z y 0 z.length (z.length+1)) y.length)).toArray } };rw[strsFrom_eq];exact fin (numbered s.toks _) _ ((numbered_texts _ _).trans es.symm)
  ·exact call_meets F.slot_str_split (typeIs_str _ _ _) F.entry_str_split (F.args_str_split_2 _ _) (meets_str_split_not_found z y t u h1 hy hf)
    (fin [(z,t)] s.toks ((if_neg (ne_true_of_eq_false h1)).trans (if_pos hf)).symm)
 ·exact call_meets F.slot_str_split (typeIs_str _ _ _) F.entry_str_split (F.args_str_split_2 _ _) (meets_str_split_cannot_occur z y t u h1)
   (fin [(z,t)] s.toks (if_pos h1).symm)
end
theorem y8{c:Nat}:∀{a b u v:List Nat},c∉a->c∉b->a++c::u=b++c::v->a=b/\u=v
 |[],[],_,_,_,_,h=>⟨rfl,(List.cons.inj h).2⟩
 |[],x::b,_,_,_,hb,h=>absurd (by rw[(List.cons.inj h).1];exact wX) hb
 |x::a,[],_,_,ha,_,h=>absurd (by rw[<-(List.cons.inj h).1];exact wX) ha
 |x::a,y::b,_,_,ha,hb,h=>by
  have h:=List.cons.inj h;obtain⟨e1,e2⟩:=y8 (λz=>ha (t_ _ z)) (λz=>hb (t_ _ z)) h.2;exact⟨by rw[h.1,e1],e2⟩
theorem gE{x y:Str}(h:x.cps.toList=y.cps.toList):x=y:=
 PySem.Str.ext' (Array.toList_inj.mp h)
theorem ix(c:Nat)(x y:Str)(r:List Str):(Str.join ⟨#[c]⟩ (x::y::r)).cps.toList=x.cps.toList++c::(Str.join ⟨#[c]⟩ (y::r)).cps.toList:=by
 show(x.cps++#[c]++(Str.join ⟨#[c]⟩ (y::r)).cps).toList=_;simp
theorem uk{c:Nat}:∀{ps qs:List Str},ps≠[]->qs≠[]->(∀p∈ps,c∉p.cps.toList)->(∀p∈qs,c∉p.cps.toList)->Str.join ⟨#[c]⟩ ps=Str.join ⟨#[c]⟩ qs->ps=qs
 |[],_,h,_,_,_,_=>absurd rfl h
 |_,[],_,h,_,_,_=>absurd rfl h
 |[x],[y],_,_,_,_,h=>by rw[show x=y from h]
 |[x],y::z::r,_,_,hp,_,h=>by
  have e:(Str.join ⟨#[c]⟩ [x]).cps.toList=(Str.join ⟨#[c]⟩ (y::z::r)).cps.toList:=by rw[h]
  rw[ix]at e;exact absurd (by rw[show x.cps.toList=_ from e];simp) (hp x List.mem_cons_self)
 |x::z::r,[y],_,_,_,hq,h=>by
  have e:(Str.join ⟨#[c]⟩ (x::z::r)).cps.toList=(Str.join ⟨#[c]⟩ [y]).cps.toList:=by rw[h]
  rw[ix]at e;exact absurd (by rw[<-show _=y.cps.toList from e];simp) (hq y List.mem_cons_self)
 |x::x2::r,y::y2::q,_,_,hp,hq,h=>by
  have e:(Str.join ⟨#[c]⟩ (x::x2::r)).cps.toList=(Str.join ⟨#[c]⟩ (y::y2::q)).cps.toList:=by rw[h]
  rw[ix,ix]at e;obtain⟨e1,e2⟩:=y8 (hp x wX) (hq y wX) e;rw[gE e1,uk (ps:=x2::r) (qs:=y2::q) (by simp) (by simp) (λp h=>hp p (List.mem_cons_of_mem _ h)) (λp h=>hq p (List.mem_cons_of_mem _ h)) (gE e2)]
theorem fO{c:Nat}{ps:List Str}(hn:ps≠[])(h:∀p∈ps,c∉p.cps.toList):Txt.split (Txt.join ⟨#[c]⟩ ps) ⟨#[c]⟩=ps:=by
 show Txt.split (Builtin.Str.glued ⟨#[c]⟩ ps) ⟨#[c]⟩=ps;rw[StrLaws.glued_eq_join];refine uk ?_ hn (StrLaws.split_free _ c) h (StrLaws.join_split _ _);intro e;unfold Txt.split at e;split at e
 ·cases e
 ·split at e
  ·cases e
  ·unfold Builtin.Str.partsBetween at e;simp at e
noncomputable def z6(j i:Str):Bool := !(Builtin.Str.occurrences j i 0 j.length 1).isEmpty
noncomputable abbrev dig(c:Nat):Bool:=z6 "0123456789" ⟨#[c]⟩
noncomputable def aY(z:Str):List Nat:=if Txt.startswith z "-" then z.cps.toList.drop 1 else z.cps.toList
noncomputable def e_(cs:List Nat):Nat:=cs.foldl (λacc c=>acc*10+(c - 48)) 0
noncomputable def cx(z:Str)(lo hi:Int):V:=
 if (aY z).length=0\/10<(aY z).length\/(aY z).all dig=false\/((aY z).take 1=[48]/\z≠Str.ofString "0") then .aF
 else if lo<=(if Txt.startswith z "-" then -((e_ (aY z):Nat):Int) else ((e_ (aY z):Nat):Int))/\(if Txt.startswith z "-" then -((e_ (aY z):Nat):Int) else ((e_ (aY z):Nat):Int))<=hi
 then .int (if Txt.startswith z "-" then -((e_ (aY z):Nat):Int) else ((e_ (aY z):Nat):Int)) else .aF
theorem De{x y:Str}{lim:Nat}(h:∀i,i+y.length<=x.length->Builtin.Str.subAt x y i=false):Builtin.Str.occurrences x y 0 x.length lim=[]:=PySem.W.occ_nil_of_no x y lim h
theorem gX(z:Str):z.cps.toList.length=z.length:=A1
theorem wQ{a b:Str}(h:a.cps.toList=b.cps.toList):a=b:=PyProof.Rows.ext_toList h
theorem w6{z:Str}(h:z.length=0):z.cps.toList=[]:=List.eq_nil_of_length_eq_zero (by rw[gX];exact h)
theorem Cw(z:Str):(Txt.slice z (some 1) none).cps.toList=z.cps.toList.drop 1:=by
 by_cases h:1<=z.length
 ·have e:=PyProof.Rows.slice_from_eq (x:=z) (i:=1) (b:=(z.length:Int)) (by decide) (by omega) rfl;rw[e];show List.take ((z.length:Int) - 1).toNat (List.drop 1 z.cps.toList)=_;exact G9 (by rw[wc,gX];omega)
 ·have h1:=Txt.slice_le z (some 1) none;rw[w6 (z:=Txt.slice z (some 1) none) (by omega),w6 (z:=z) (by omega)];rfl
theorem AJ:(Str.ofString "0").cps.toList=[48]:=by decide +kernel
theorem gU(z:Str):Txt.startswith z (Str.ofString "-")=decide (z.cps.toList.take 1=[45]):=by
 unfold Txt.startswith Builtin.Str.subAt;have hl:(Str.ofString "-").length=1:=by decide +kernel
 have hc:(Str.ofString "-").cps=#[45]:=by decide +kernel
 rw[hl,hc];have e:z.cps.extract 0 (0+1)=(z.cps.toList.take 1).toArray:=by
  refine Array.ext' ?_;rw[Array.toList_extract];rfl
 rw[e];have e2:((z.cps.toList.take 1).toArray == #[45])=decide (z.cps.toList.take 1=[45]):=by
  by_cases h:z.cps.toList.take 1=[45]
  ·rw[h];rfl
  ·rw[decide_eq_false h];refine beq_eq_false_iff_ne.mpr λq=>h ?_;have:=congrArg Array.toList q;simpa using this
 rw[e2];by_cases h:z.cps.toList.take 1=[45]
 ·have:1<=z.length:=by
   have q:=congrArg List.length h;rw[nV,gX]at q;simp at q;omega
  rw[decide_eq_true h];simp;omega
 ·rw[decide_eq_false h];simp
theorem Ac(c:Nat)(h:48<=c/\c<=57):Builtin.Str.occurrences (Str.ofString "0123456789") ⟨#[c]⟩ 0 (Str.ofString "0123456789").length 1=[c - 48]:=by
 have:c=48\/c=49\/c=50\/c=51\/c=52\/c=53\/c=54\/c=55\/c=56\/c=57:=by omega
 rcases this with e|e|e|e|e|e|e|e|e|e<;>subst e<;>decide +kernel
theorem z4(c:Nat)(h:¬(48<=c/\c<=57)):Builtin.Str.occurrences (Str.ofString "0123456789") ⟨#[c]⟩ 0 (Str.ofString "0123456789").length 1=[]:=by
 refine De λi hi=>?_;have hl:(Str.ofString "0123456789").length=10:=by decide +kernel
 have h1:(⟨#[c]⟩:Str).length=1:=rfl;rw[hl,h1]at hi;have hx:(Str.ofString "0123456789").cps=#[48,49,50,51,52,53,54,55,56,57]:=by decide +kernel
 unfold Builtin.Str.subAt;rw[hx,h1];have:i=0\/i=1\/i=2\/i=3\/i=4\/i=5\/i=6\/i=7\/i=8\/i=9:=by omega
 refine beq_eq_false_iff_ne.mpr λq=>h ?_;rcases this with e|e|e|e|e|e|e|e|e|e<;>subst e<;>(
  have q2:=congrArg Array.toList q;simp at q2;omega)
theorem zx(c:Nat):dig c=decide (48<=c/\c<=57):=by
 unfold dig z6;by_cases h:48<=c/\c<=57
 ·rw[Ac c h,decide_eq_true h];rfl
 ·rw[z4 c h,decide_eq_false h];rfl
theorem HU{cs:List Nat}(h:cs.all dig=true):PySem.NumText.AllDigits cs:=λc hc=>by
 have:=A6.mp h c hc;rw[zx]at this;exact of_decide_eq_true this
theorem sign_zero(x:Nat):decide ((⟨#[x]⟩:Str)=Str.ofString "0")=decide (x=48):=by
 by_cases h:x=48
 ·subst h;decide +kernel
 ·rw[decide_eq_false h,decide_eq_false];intro q;have:=congrArg (λs:Str=>s.cps.toList) q;rw[AJ]at this;simp at this;exact h this
theorem vt{cs:List Nat}(h:cs≠[]):∃x,hG cs 0=some x/\cs.take 1=[x]:=by
 cases cs with
 |nil=>exact absurd rfl h
 |cons c r=>exact⟨c,j3 (j:=0) (by simp),by simp⟩
theorem signsOf(t:String):(Str.ofString t).cps.toList=List.map Char.toNat t.toList:=by
 open PySem PySem.W PyProof.Rows in exact signs_ofString t
theorem mR{z:Str}{lo hi:Int}(h:aY z=[]):cx z lo hi=.aF:=by unfold cx;rw[if_pos (Or.inl (by rw[h];rfl))]
theorem gy{z:Str}{lo hi:Int}(h:10<(aY z).length):cx z lo hi=.aF:=by unfold cx;rw[if_pos (Or.inr (Or.inl h))]
theorem mC{z:Str}{lo hi:Int}(h:(aY z).all dig=false):cx z lo hi=.aF:=by unfold cx;rw[if_pos (Or.inr (Or.inr (Or.inl h)))]
theorem iJ{z:Str}{lo hi:Int}(h:(aY z).take 1=[48])(h':z≠Str.ofString "0"):cx z lo hi=.aF:=by unfold cx;rw[if_pos (Or.inr (Or.inr (Or.inr ⟨h,h'⟩)))]
noncomputable def dP(z:Str):Int:=if Txt.startswith z "-" then -((e_ (aY z):Nat):Int) else ((e_ (aY z):Nat):Int)
theorem k7{z:Str}{lo hi:Int}(h1:aY z≠[])(h2:(aY z).length<=10)(h3:(aY z).all dig=true)(h4:¬((aY z).take 1=[48]/\z≠Str.ofString "0")):
  cx z lo hi=if lo<=dP z/\dP z<=hi then .int (dP z) else .aF:=by
 unfold cx;rw[if_neg]
 ·rfl
 ·rintro (h|h|h|h)
  ·exact h1 (List.eq_nil_of_length_eq_zero h)
  ·omega
  ·rw[h3]at h;cases h
  ·exact h4 h
theorem A0(cs:List Nat)(c:Nat):e_ (cs++[c])=e_ cs*10+(c - 48):=by
 unfold e_;rw[List.foldl_append];rfl
theorem kL{l:List Nat}{i:Nat}{c:Nat}(h:l[i]?=some c):l.take (i+1)=l.take i++[c]:=by
 rw[List.take_succ,h];rfl
theorem getL{z:Str}{i c:Nat}(h:z.cps[i]?=some c):z.cps.toList[i]?=some c:=by rw[Array.getElem?_toList];exact h
theorem take_all(z:Str):z.cps.toList.take z.cps.size=z.cps.toList:=G9 (Nat.le_of_eq A1)
theorem AL{x:Str}(h:PySem.NumText.AllDigits x.cps.toList)(h1:x.cps.toList≠[])(h2:x.length<=4300):PySem.intText? x=some ((e_ x.cps.toList:Nat):Int):=by
 open PySem PySem.W PySem.NumText in exact intText_digits h h1 h2
theorem int_text{z:Str}(hz:z.length<=600)(hne:aY z≠[])(hv:(aY z).all dig=true):PySem.intText? z=some (dP z):=by
 have ha:=HU hv;unfold dP;cases hs:Txt.startswith z "-" with
 |true=>
  have ht:z.cps.toList.take 1=[45]:=by
   have:=gU z;rw[show Txt.startswith z (Str.ofString "-")=true from hs]at this;exact of_decide_eq_true this.symm
  have hf:aY z=z.cps.toList.drop 1:=by unfold aY;rw[hs,if_pos rfl]
  have hx:z.cps.toList=45::aY z:=by
   have:=List.take_append_drop 1 z.cps.toList;rw[ht,<-hf]at this;exact this.symm
  have:=PySem.intText_neg hx ha hne (by omega);rw[if_pos rfl];exact this
 |false=>
  have hf:aY z=z.cps.toList:=by unfold aY;rw[hs,if_neg (by decide)]
  rw[hf]at ha hne;have:=AL ha hne (by omega);rw[if_neg (by decide),hf];exact this
theorem jY{z:Str}{lo hi:Int}{H:Hp}{Q:VK}(hne:aY z≠[])(hle:(aY z).length<=10)(hv:(aY z).all dig=true)(hq:¬((aY z).take 1=[48]/\z≠Str.ofString "0"))(k:Q (cx z lo hi) H):
  if decide (lo<=dP z)=true then if decide (dP z<=hi)=true then Q (V.int (dP z)) H else Q V.aF H else Q V.aF H:=by
 rw[k7 hne hle hv hq]at k;refine cS (λa=>cS (λb=>?_) (λb=>?_)) (λa=>?_)
 ·rw[if_pos ⟨of_decide_eq_true a,of_decide_eq_true b⟩]at k;exact k
 ·have b:¬dP z<=hi:=of_decide_eq_false (by simpa using b);rw[if_neg (λq=>b q.2)]at k;exact k
 ·have a:¬lo<=dP z:=of_decide_eq_false (by simpa using a);rw[if_neg (λq=>a q.1)]at k;exact k
theorem CZ{z:Str}{lo hi:Int}(h:cx z lo hi≠.aF):∃n,cx z lo hi=.int n:=by
 have e:cx z lo hi=if (aY z).length=0\/10<(aY z).length\/(aY z).all dig=false\/((aY z).take 1=[48]/\z≠Str.ofString "0") then .aF
  else if lo<=dP z/\dP z<=hi then .int (dP z) else .aF:=rfl
 rw[e]at h ⊢;by_cases c1:(aY z).length=0\/10<(aY z).length\/(aY z).all dig=false\/((aY z).take 1=[48]/\z≠Str.ofString "0")
 ·rw[if_pos c1]at h;exact absurd rfl h
 ·rw[if_neg c1]at h ⊢;by_cases c2:lo<=dP z/\dP z<=hi
  ·rw[if_pos c2];exact⟨_,rfl⟩
  ·rw[if_neg c2]at h;exact absurd rfl h
theorem kR{z:Str}(h:z.cps.toList.take 1≠[45]):aY z=z.cps.toList/\dP z=((e_ z.cps.toList:Nat):Int):=by
 have e:Txt.startswith z "-" = false:=by
  have:=gU z;rw[decide_eq_false h]at this;exact this
 have e1:aY z=z.cps.toList:=by unfold aY;rw[e,if_neg (by decide)]
 exact⟨e1,by unfold dP;rw[e,if_neg (by decide),e1]⟩
theorem vb{z:Str}{cs:List Nat}(h:z.cps.toList=45::cs):aY z=cs/\dP z = -((e_ cs:Nat):Int):=by
 have e:Txt.startswith z "-" = true:=by
  have:=gU z;rw[h]at this;exact this
 have e1:aY z=cs:=by unfold aY;rw[e,if_pos rfl,h];rfl
 exact⟨e1,by unfold dP;rw[e,if_pos rfl,e1]⟩
noncomputable def jf(m:Nat):List Nat:=(Nat.toDigits 10 m).map Char.toNat
theorem pM(m:Nat):e_ (jf m)=m:=PySem.W.KIN.val_back m
theorem rV(m:Nat):jf m≠[]:=λe=>Nat.toDigits_ne_nil (List.map_eq_nil_iff.mp e)
theorem jV{m c:Nat}(h:c∈jf m):48<=c/\c<=57:=by
 obtain⟨ch,hch,e⟩:=ji.mp h;have r:=digit_range (Nat.isDigit_of_mem_toDigits (by decide) (by decide) hch);rw[<-e];exact r
theorem ym(m:Nat):(jf m).all dig=true:=A6.mpr λc hc=>by rw[zx];exact decide_eq_true (jV hc)
theorem yj{m:Nat}(h:m<10 ^ 10):(jf m).length<=10:=by
 unfold jf;rw[aQ];exact(Nat.length_toDigits_le_iff (b:=10) (k:=10) (by decide) (by decide)).mpr h
theorem l6{m:Nat}(h:0<m):(jf m).take 1≠[48]:=by
 induction m using Nat.strongRecOn with
 |_ m ih=>
  by_cases h10:m<10
  ·have:∀d:Nat,d<10->0<d->([Nat.digitChar d].map Char.toNat).take 1≠[48]:=by decide
   unfold jf;rw[Nat.toDigits_of_lt_base h10];exact this m h10 h
  ·have e:jf m=jf (m/10)++[(Nat.digitChar (m%10)).toNat]:=by
    unfold jf;rw[Nat.toDigits_of_base_le (by decide) (by omega),gJ];rfl
   have q:=ih (m/10) (by omega) (by omega);rw[e,RW (by have:=List.length_pos_iff.mpr (rV (m/10));omega)];exact q
theorem kg(m:Nat):(Str.ofString (toString (m:Int))).cps.toList=jf m:=PySem.W.KIN.signs_num m
theorem p8(m:Nat):(Str.ofString (toString (Int.negSucc m))).cps.toList=45::jf (m+1):=by
 rw[signsOf];show("-" ++ Nat.repr (m+1)).toList.map Char.toNat=_;rw[String.toList_append,gJ,Nat.toList_repr];rfl
theorem eT{n lo hi:Int}(h1 : -9999999999<=n)(h2:n<=9999999999):cx (Str.ofString (toString n)) lo hi=if lo<=n/\n<=hi then .int n else .aF:=by
 cases n with
 |ofNat m=>
  have em:(Str.ofString (toString (Int.ofNat m))).cps.toList=jf m:=kg m;have h2':(m:Int)<=9999999999:=h2;have hm:m<10 ^ 10:=by omega
  obtain⟨e1,e2⟩:=kR (z:=Str.ofString (toString (Int.ofNat m))) (by
   rw[em];cases hd:jf m with
   |nil=>simp
   |cons c r=>
    intro e;have:c=45:=by simpa using e
    have:=jV (m:=m) (c:=c) (by rw[hd];exact wX);omega)
  rw[em]at e1 e2;rw[pM]at e2;rw[k7 (by rw[e1];exact rV m) (by rw[e1];exact yj hm) (by rw[e1];exact ym m) (by
   rw[e1];rintro⟨z1,z2⟩;by_cases z:0<m
   ·exact l6 z z1
   ·have:m=0:=by omega
    rw[this]at z2;exact z2 rfl),e2]
  rfl
 |negSucc m=>
  have em:=p8 m;have hm:m+1<10 ^ 10:=by omega
  obtain⟨e1,e2⟩:=vb em;rw[pM]at e2;have e3:dP (Str.ofString (toString (Int.negSucc m)))=Int.negSucc m:=by rw[e2];rfl
  rw[k7 (by rw[e1];exact rV _) (by rw[e1];exact yj hm) (by rw[e1];exact ym _) (by
   rw[e1];rintro⟨z1,_⟩;exact l6 (Nat.succ_pos m) z1),e3]
section
variable{M:Model}{A:Around}{E:Vs}{s:Shared}{env:Env}
theorem je{pos:Pos}{T:String}{first:List Value}{args:List (Bool×Sem Value)}{kws:List (Option Str×Sem Value)}{Q:Vs}
  (hp:args.any (·.1)=false) (hk:kws.any (·.1.isNone)=false)
  (h:wpAny M A (evalArgs (.type T) true args kws) (λa s₁=>wpAny M A (call (.type T) (first++a.pos) a.kw) Q E s₁) E s):
  wpAny M A (callWith pos (.type T) first args kws) Q E s:=by
 unfold callWith;refine aT (G7 (iO h (λa s₁ h₁=>aT (Me ?_)) λ_ _ x=>x));simp only[hp,hk,Bool.or_false];refine aT (cC ?_);exact aT (iO h₁ (λr s₂ hr=>aT (G7 (wpAny_point (cC hr)))) λ_ _ x=>x)
end
section
variable{prog:Program}{w:World}{A:Around}{E:Vs}{s:Shared}
theorem zR{T newId:String}{self:Value}{rest:List Value}{kw:List (Str×Value)}(hl:typeLookup (.type T) "__init__" = pure (some (.builtin "object.__init__")))
  (hm:Bind.madeBy (.type T)=pure (some newId)) (hne:(some newId != some "object.__new__")=true) (a:Value):
  Meets (Builtin.«object.__init__» ⟨self::a::rest,kw⟩) (λ_ R s=>s.TypeIs self T/\R (.ok (.ret .none)) s):=by
 refine Meets.of_wp λprog w A R s hs=>?_;obtain⟨hT,hq⟩:=hs
 repeat (any_goals (first|assumption|wp_step))
 exact⟨_,rfl,hq⟩
theorem kP{T newId:String}{Bn:Builtin}{a:Value}{args:List Value}{kw:List (Str×Value)}{S:PySem.Spec}{Q:Vs}(ft:TypeCalled T newId "object.__init__")
  (hne:(some newId != some "object.__new__")=true) (hct:checkTypeCall T ⟨a::args,kw⟩=pure ()) (hcn:checkBuiltinCall newId ⟨.type T::a::args,kw⟩=pure ())
  (aN:∀obj,argsOk "object.__init__" ⟨obj::a::args,kw⟩) (entryN:entryFor table newId=some Bn) (g:Meets (Bn ⟨.type T::a::args,kw⟩) S)
  (h:S A.in1 (wants (λobj s₁=>s₁.TypeIs obj T/\Q obj s₁) E) s):wpAny (model prog w) A (call (.type T) (a::args) kw) Q E s:=by
 obtain⟨c,tl,hmro⟩:=ft.mro;have hmade:=ft.made;have hsub:=ft.sub;refine Il (codeAny_of_tree ?_);show wpAny _ _ (callAny (.type T) _) _ _ _;refine cC ⟨Code.quiet_builtin _ (by decide +kernel),codeAny_builtin F.entry_type_call ?_⟩;rw[Around.under_plain (weight_type_call_type T (a::args) kw) (units_type_call_type T (a::args) kw)];have h1:=ft.notType;have h2:=ft.canCreate
 repeat (any_goals (first|assumption|wp_step))
 refine codeAny_mono (codeAny_call_builtin ft.plain entryN (wpAny_of_eq hcn (g prog w A.in1 _ s h))) λr s₁ hr=>?_;cases r with
 |error e=>exact hr
 |ok fl=>
  cases fl with
  |ret obj=>
   obtain⟨hT,hq⟩:=hr;have hli:=ft.init.lookup;have hbi:=ft.init.bind obj
   repeat (any_goals (first|assumption|wp_step))
   refine codeAny_mono (codeAny_call_builtin ft.init.plain F.entry_object_init (ft.init.check _ _ _ _ _ _ _ _ hT (aN obj) ((zR (kw:=kw) (rest:=args) ft.init.lookup ft.made hne a) prog w A.in1 (wants (λr s₂=>r=.none/\Q obj s₂) E) s₁ ⟨hT,rfl,hq⟩))) λr₂ s₂ hr₂=>?_;cases r₂ with
   |error e=>exact hr₂
   |ok fl₂=>
    cases fl₂ with
    |ret r=>
     obtain⟨rfl,hq⟩:=hr₂
     repeat (any_goals (first|assumption|wp_step))
    |_=>exact hr₂.elim
  |_=>exact hr.elim
theorem kS(a b:Value):checkTypeCall "enumerate" ⟨[a],[("start", b)]⟩=pure ():=by kernel_rfl
theorem lW(a b:Value):checkBuiltinCall "enumerate.__new__" ⟨[.type "enumerate", a],[("start", b)]⟩=pure ():=by kernel_rfl
theorem uB(l:Addr)(items:Array Value)(n:Nat)(dct:Option Addr)(sl:Array (Option Value))(t:Tok):
  Meets (Builtin.«enumerate.__new__» ⟨[.type "enumerate", .ref l],[("start", .int 1 t)]⟩) (λ_ R s=>s.heap.get? l=some { cls:=.type "list", dict:=dct,data:=.seq items n,slots:=sl }/\
   R (.ok (.ret (.ref (s.heap.push { cls:=.type "list_iterator", data:=.fields #[.ref l,.int 0 0] }).objs.size)))
    { s with heap:=(s.heap.push { cls:=.type "list_iterator", data:=.fields #[.ref l,.int 0 0] }).push { cls:=.type "enumerate", data:=.fields #[.none,.bool false,.ref s.heap.objs.size,rawInt 1,.none,.none] } }):=
 .of_wp λprog w A R s h=>by
  obtain⟨hp,g,d,tk,os⟩:=s;obtain⟨hl,h⟩:=h;have hsub:=sub_enumerate;have hL:Heap.IsList (Shared.heap ⟨hp,g,d,tk,os⟩) l items:=⟨_,hl,rfl,n,rfl⟩
  wp_walk using AutoSeq1.wpAny_loadPart' hl
  refine wpAny_stack_any λst=>cC ?_;split
  ·rename_i c _ _ _ _ _;cases (c == Value.type "enumerate")
   ·wp_walk using AutoSeq1.wpAny_loadPart' hl,wpAny_pyIter_list hL
    exact⟨_,rfl,h⟩
   ·wp_walk using AutoSeq1.wpAny_loadPart' hl,wpAny_pyIter_list hL
    exact⟨_,rfl,h⟩
  ·wp_walk using AutoSeq1.wpAny_loadPart' hl,wpAny_pyIter_list hL
   exact⟨_,rfl,h⟩
end
section
variable{prog:Program}{w:World}{A:Around}{E:Vs}{s:Shared}
theorem lS(a b c:Value):argsOk "object.__init__" ⟨[a,b],[("start", c)]⟩:=by
 unfold argsOk;rw[signature?_of (id := "object.__init__") (n:=['_','_','t','i','n','i','_','_']) (o:=['t','c','e','j','b','o']) (by kernel_rfl) F.owner_object];kernel_rfl
theorem wR{l:Addr}{items:Array Value}{t:Tok}{Q:Vs}(hL:s.heap.IsList l items)
  (h:∀h',IsEnum h' (s.heap.objs.size+1) s.heap.objs.size 1 .none->h'.IsListIter s.heap.objs.size l 0->(∀b o,s.heap.get? b=some o->h'.get? b=some o)->Q (.ref (s.heap.objs.size+1)) { s with heap:=h' }):
  wpAny (model prog w) A (call (.type "enumerate") [.ref l] [("start", .int 1 t)]) Q E s:=by
 obtain⟨⟨c,dct,dt,sl⟩,hl,hc,n,hd⟩:=hL;replace hc:c=.type "list" := hc;replace hd:dt=.seq items n:=hd;subst hc hd;refine kP F.called_enumerate (by decide) (kS _ _) (lW _ _) (λobj=>lS obj _ _) F.entry_enumerate_new (uB l items n dct sl t) ⟨hl,?_⟩;have hz:(s.heap.push { cls:=.type "list_iterator", data:=.fields #[.ref l,.int 0 0] }).objs.size=s.heap.objs.size+1:=Heap.size_push ..;show _/\_;rw[hz];have he:IsEnum ((s.heap.push { cls:=.type "list_iterator", data:=.fields #[.ref l,.int 0 0] }).push
   { cls:=.type "enumerate", data:=.fields #[.none,.bool false,.ref s.heap.objs.size,rawInt 1,.none,.none] }) (s.heap.objs.size+1) s.heap.objs.size 1 .none:=by
  have:=yO (s.heap.push { cls:=.type "list_iterator", data:=.fields #[.ref l,.int 0 0] })
   (o:={ cls:=.type "enumerate", data:=.fields #[.none,.bool false,.ref s.heap.objs.size,rawInt 1,.none,.none] }) rfl
  rw[hz]at this;exact this
 exact⟨⟨_,he,rfl⟩,h _ he ⟨_,fU _ (yO _ rfl),rfl,rfl⟩ λb o x=>fU _ (fU _ x)⟩
theorem uJ{it:Addr}{fp:List Addr}{n:Nat}{Pv:Nat->Value->Prop}{St:Nat->Heap->Prop}(D:Draws prog w A it fp n Pv St):
  Draws prog w A it fp (n+1) (λk x=>∃j,k=j+1/\Pv j x) (λk h=>∃j,k=j+1/\St j h) where
 live:=λi h ⟨j,_,st⟩=>D.live j h st
 frame:=λi h h' ⟨j,e,st⟩ k=>⟨j,e,D.frame j h h' st k⟩
 item:=λi s Q E hi ⟨j,e,st⟩ k=>by
  subst e;exact D.item j s Q E (by omega) st λx h' tk p st' sb=>k x h' tk ⟨j,rfl,p⟩ ⟨j+1,rfl,st'⟩ sb
 done:=λs Q E ⟨j,e,st⟩ k=>by
  have e:n=j:=by omega
  subst e;exact D.done s Q E st k
end
section
variable{prog:Program}{w:World}{A:Around}{E:Vs}{s:Shared}
theorem fj{e it l:Addr}{i:Nat}{k:Int}{items:Array Value}{old:Value}{Q:Option Value->Shared->Prop}(hh:A.handled=none)
  (he:IsEnum s.heap e it k old) (hit:s.heap.IsListIter it l i) (hl:s.heap.IsList l items) (hx:items[i]?=none)
  (hQ:∀h',Heap.ExtBut it s.heap h'->Q none { s with heap:=h' }):wpAny (model prog w) A (pyNext (.ref e)) Q E s:=by
 have hT:s.TypeIs (.ref e) "enumerate" := ⟨_,he,rfl⟩
 unfold pyNext;refine aT (wpAny_attempt (wpAny_callSpecial?_slot (name:=Str.ofString "__next__") hT F.slot_enumerate_next
  (wpAny_call_entry F.slot_enumerate_next hT F.entry_enumerate_next ?_ (F.args_enumerate_next_1 _))))
 show wpAny _ _ (field (.ref e) 2 >>= _) _ _ _;refine aT (xj he rfl (x:=.ref it) rfl ?_);refine aT (wpAny_nextOf_list_end hh hit hl hx λh' x he' hx'=>?_);obtain⟨o,ho,hc⟩:=hx';refine aT (wpAny_isInstance (T := "StopIteration") (b:=true) ⟨o,ho,hc⟩ isSubtype_stop ?_);exact cC (hQ _ he')
end
noncomputable def LY(K:Wf)(a:Addr):It:=
 ⟨λi H=>∃ xs x, aC K H a xs /\ xs[i]? = some x,
  λi H v H'=>∃q x,v=.ref q/\H q=none/\(∀xs,aC K H a xs->xs[i]?=some x)/\H'=upd H q (.tup [.int ((i+1:Nat):Int),x]),
  λi H=>∃xs,aC K H a xs/\xs.length<=i⟩
def Ul(e it l:Addr)(i:Nat)(h:Heap):Prop:=(∃old,IsEnum h e it ((i+1:Nat):Int) old)/\h.IsListIter it l i
theorem vD{P:Program}{w:World}{K:Wf}{elts:List Expr}{x1}{pos:Pos}{e it:Addr}(l:Addr)(f:e≠it):Turn P w K (.Tuple elts x1 pos) (LY K l) [e,it] e (Ul e it l) where
 mem:=by simp
 obj:=λi h st b hb=>by
  obtain⟨⟨old,t1⟩,⟨o4,t4,c4,d4⟩⟩:=st;simp only[List.mem_cons,List.not_mem_nil,or_false]at hb;rcases hb with rfl|rfl
  ·exact⟨_,t1,λv q=>by cases q⟩
  ·exact⟨_,t4,λv q=>by rw[d4]at q;cases q⟩
 keep:=λi h h' st k=>by
  obtain⟨⟨old,t1⟩,t4⟩:=st;exact⟨⟨old,k e (by simp) _ t1⟩,t4.at λo q=>k it (by simp) o q⟩
 item:=by
  intro X hP hw hK hc i pins s σ H E I hf st hg;subst hP hw hK;obtain⟨xs,x,q1,hx⟩:=hg;obtain⟨its1,rv1,p1,_⟩:=I.list q1;obtain⟨u,hu,ru⟩:=rv1.get hx;obtain⟨⟨old,t1⟩,t4⟩:=id st;have lt:∀b∈[e,it],b<s.heap.objs.size:=λb hb=>by
   simp only[List.mem_cons,List.not_mem_nil,or_false]at hb;rcases hb with rfl|rfl
   ·exact dj t1
   ·obtain⟨_,q,_⟩:=t4;exact dj q
  have nl:l≠it:=by
   rintro rfl;obtain⟨o,a1,a2,_⟩:=p1.isList;obtain⟨o',b1,b2,_⟩:=t4;rw[a1]at b1;cases b1;rw[a2]at b2;exact absurd (Value.type.inj b2) (by decide)
  have ne:e≠l:=by
   rintro rfl;obtain⟨o,a1,a2,_⟩:=p1.isList;rw[show s.heap.get? e=_ from t1]at a1;cases a1;exact absurd (Value.type.inj a2) (by decide)
  have D:=uJ (Draws.list (prog:=X.prog) (w:=X.w) (A:=X.A.in1) (I.ok.hd hc) it l nl its1.toArray);refine wpAny_pyNext_enum_itemD D t1 ⟨i,rfl,t4,p1.isList⟩ (by have:=(we.mp hu).1;simp;omega) f (by simp[f,ne]) λx' h' tk hP z' i1' pr sz kp=>?_;obtain⟨j,ej,hP⟩:=hP;have ej:i=j:=by omega
  subst ej;obtain⟨j2,ej2,i1',_⟩:=i1';have ej2:i+1=j2:=by omega
  subst ej2;have ex:x'=u:=by
   have:its1.toArray[i]?=some u:=by simpa using hu
   rw[this]at hP;exact(Option.some.inj hP).symm
  subst ex;refine⟨.ref s.heap.objs.size,rfl,?_⟩;refine wpAny_letOwnedTupleGo_enum z' λh'' z'' sb=>?_;have nz:s.heap.objs.size≠e:=Nat.ne_of_gt (lt e (by simp));have kk:∀b o,b∉[e,it]->s.heap.get? b=some o->h''.get? b=some o:=λb o nb q=>by
   simp only[List.mem_cons,List.not_mem_nil,or_false,not_or]at nb;exact(sb.2 b nb.1).trans (kp b o nb.1 nb.2 q)
  have new:IsTup h'' s.heap.objs.size #[.int ((i+1:Nat):Int) tk,x']:=⟨_,(sb.2 _ nz).trans pr,rfl,0,rfl⟩
  refine⟨.ref s.heap.objs.size,_,I.xN (q:=s.heap.objs.size) (xs:=[.int ((i+1:Nat):Int),x]) (t':=tk+1) kk hf (dn _) ⟨by rw[sizeLine_eq];exact(by decide:(2:Nat)<=16777216),[_,x'],.cons ⟨_,rfl⟩ (.cons ru .nil),new⟩,rfl,⟨_,x,rfl,I.aN.fresh (dn _),λzs hz=>by rw[I.gq hz q1];exact hx,rfl⟩,?_,λb hb=>?_⟩
  ·exact ⟨⟨_, by have : ((i + 1 + 1 : Nat) : Int) = ((i + 1 : Nat) : Int) + 1 := by push_cast; rfl
                 rw[this];exact z''⟩,i1'.at λo q=>(sb.2 _ (Ne.symm f)).trans q⟩
  ·rw[ae (lE (lt b hb))];exact(hf b hb).1
 done:=by
  intro X hP hw hK hc i pins s σ H E I hf st hg;subst hP hw hK;obtain⟨xs,q1,hx⟩:=hg;obtain⟨its1,rv1,p1,_⟩:=I.list q1;obtain⟨⟨old,t1⟩,t4⟩:=id st;have e1:=rv1.length;refine fj (I.ok.hd hc) t1 t4 p1.isList (by simp;omega) λh' kp=>⟨rfl,I.zp (t':=s.toks) (λb o nb q=>?_) hf⟩;simp only[List.mem_cons,List.not_mem_nil,or_false,not_or]at nb;exact kp b o nb.2 q
 self:=λ_ _ _ _ _ st h=>by
  obtain⟨⟨old,t1⟩,_⟩:=st;exact wpAny_pyIter_enum t1 h
section
variable{X:Cx}
def Dy(K:Wf)(ta:TA):TI:=λσ H R=>ta σ H λvs H1=>∃a xs,vs=[.ref a]/\aC K H1 a xs/\R (LY K a) H1
theorem B3{K:Wf}(eK:X.K=K){elts:List Expr}{x1}{tp:Pos}{a:Expr}{ta:TA}{p pos kp cp:Pos}{j}(hg:Gl X "enumerate")(hm:X.mg "enumerate" = none)(ha:PA X [a] ta)(hs:starEach [a] X.env=[(false,eval a X.env)]:=by rfl):
  PI X (.Tuple elts x1 tp) (.Call (.Name "enumerate" p) [a] [⟨some "start", .Constant (.int 1) j cp,kp⟩] pos) (Dy K ta):=by
 subst eK;intro pins s σ H R I h;refine Ll (iD I hg hm boot_enumerate (je (by rw[hs];rfl) rfl ?_));have key:=ha pos pins s σ H _ I h;rw[hs]at key ⊢;refine evalArgs_kwB (rest:=[]) rfl (bx key λus s1 q0=>?_);obtain⟨vs,H1,I1,r1,q1⟩:=q0;obtain⟨l1,xs,e,h1,q⟩:=q1;subst e;cases r1 with
 |cons r rr=>
  cases rr;cases r;refine kws_cons (wpAny_Constant_int (kws_nil ?_));obtain⟨its1,rv1,p1,_⟩:=I1.list h1;refine wR p1.isList λh' z j1 kp=>?_;have I2:=I1.kept (h':=h') (t':=s1.toks+1) kp;refine wpAny_pyIter_enum z ?_;refine⟨_,_,_,_,H1,rfl,I2,vD l1 (Nat.succ_ne_self _),⟨⟨_,z⟩,j1⟩,λb hb=>?_,q⟩;have lb:s1.heap.objs.size<=b:=by
   simp only[List.mem_cons,List.not_mem_nil,or_false]at hb;rcases hb with rfl|rfl
   ·exact Nat.le_add_right _ 1
   ·exact dn _
  exact I1.Fj lb (I1.aN.fresh lb)
end
noncomputable def xl(K:Wf)(g:TG)(tb:TS)(D:Ends)(σ:St):List V->Hp->Prop:=λvs H1=>∃a xs,vs=[.ref a]/\aC K H1 a xs/\wD g tb D σ (LY K a) H1
section
variable{K:Wf}{te:TE}{ta:TA}{g:TG}{tb:TS}{D:Ends}{σ:St}{H:Hp}
theorem LH:lP (Dy K ta) g tb D σ H=ta σ H (xl K g tb D σ):=rfl
theorem xl.of{a:Addr}{xs:List V}(Pv:Nat->St->Hp->Prop)(h0:Pv 0 σ H)(hl:∀i σ H,i<=xs.length->Pv i σ H->aC K H a xs)
  (hs:∀i x σ H q,xs[i]?=some x->Pv i σ H->H q=none->g (.ref q) σ (upd H q (.tup [.int ((i+1:Nat):Int),x])) λσ2 H2=>tb { D with nx:=Pv (i+1),ct:=Pv (i+1),bk:=D.nx } σ2 H2) (hd:∀σ H,Pv xs.length σ H->D.nx σ H):xl K g tb D σ [.ref a] H:=by
 refine⟨a,xs,rfl,hl 0 _ _ (gB _) h0,λi m σ H=>m=xs.length - i/\i<=xs.length/\Pv i σ H,⟨xs.length,by simp,Nat.zero_le _,h0⟩,?_⟩;rintro i m σ H ⟨rfl,hi,p⟩;have q:=hl i σ H hi p;by_cases hlt:i<xs.length
 ·refine .inr ⟨⟨xs,xs[i],q,by simp[hlt]⟩,Pv (i+1),λσ' H' p'=>⟨xs.length - (i+1),by omega,rfl,hlt,p'⟩,λx H' y=>?_⟩;obtain⟨b,u,rfl,nb,y,rfl⟩:=y;exact hs i u σ H b (y xs q) p nb
 ·have e:i=xs.length:=by omega
  subst e;exact .inl ⟨⟨xs,q,dn _⟩,hd σ H p⟩
end
noncomputable def Po(w:World)(e:Str×Tok×Value):DictEntry:=⟨hashStr w e.1,.str e.1 e.2.1,e.2.2⟩
def zj(w:World)(K:Wf)(a:Addr)(kvs:List (Key×V)):Prop:=
 (a == sysModules)=false/\∃(es:List (Str×Tok×Value)) (ep:Nat),K.lookup a=some ⟨.type "dict", none,.dict (es.map (Po w)).toArray ep,#[]⟩/\(es.map (·.1)).Nodup/\
  KV kvs (es.map λe=>((Sum.inr e.1:Key),e.2.2))
theorem mn(P:Program)(w:World):∀es:List (Str×Tok×Value),Pairs (bu P w) (es.map (Po w)) (es.map λe=>((Sum.inr e.1:Key),e.2.2))
 |[]=>.nil
 |e::r=>.cons (iF e.1 e.2.1) rfl (mn P w r)
theorem zj.dict{X:Cx}{pins:Lo}{σ:St}{H:Hp}{s:Shared}{a:Addr}{kvs:List (Key×V)}(I:Inv X pins σ H s)(h:zj X.w X.K a kvs):
  ∃vs,KV kvs vs/\s.heap.DictOf (bu X.prog X.w) a vs:=by
 obtain⟨_,es,ep,hk,nd,rel⟩:=h;refine⟨_,rel,_,_,_,I.fk a _ hk,⟨rfl,rfl,rfl⟩,rfl,λe he=>?_,?_,?_⟩
 ·obtain⟨q,hq,rfl⟩:=ji.mp (Array.mem_toList_iff.mpr he);exact⟨.inr q.1,iF q.1 q.2.1,rfl⟩
 ·exact mn _ _ es
 ·rw[zN];have:=List.Pairwise.map (S:=λx y:Key=>x≠y) (λx:Str=>(Sum.inr x:Key)) (λx y z=>λq=>z (Sum.inr.inj q)) nd;rw[zN]at this;exact this
section
variable{X:Cx}{o e:Expr}{ty:TE}{a:Addr}{kvs:List (Key×V)}{apos cpos:Pos}
def ML(kvs:List (Key×V))(ty:TE):TE:=λσ H Q=>ty σ H λy H2=>∃k,y=kV k/\Q ((aS kvs k).getD .aF) H2
theorem Ib(ho:PE X o (tC (.ref a)))(hk:zj X.w X.K a kvs)(he:PE X e ty)(m:M1 X o "get" apos e cpos):PE X (.Call (.Attribute o "get" apos) [e] [] cpos) (ML kvs ty):=by
 intro pins s σ H Q I h;refine wpAny_Call_method m.base m.iz m.line PySem.F.plainAttrs_dict PySem.F.slot_dict_get PySem.F.type_dict_get (bx (ho pins s σ H (λv H'=>v=.ref a/\H'=H) I ⟨rfl,rfl⟩) λu s1 q0=>?_);obtain⟨x,H1,I1,rx,rfl,rfl⟩:=q0;obtain rfl:u=Value.ref a:=rx;obtain⟨vs,rel,dd⟩:=hk.dict I1;refine⟨dd.typeIs,λb q=>?_,?_⟩
 ·cases q;obtain⟨ob,_,_,h1,h2,_⟩:=dd;exact⟨ob,h1,h2.2.1⟩
 rw[m.trees];refine Calls.callWith_builtin rfl (Calls.evalArgs_plain (Calls.spliced_cons (bx (he pins s1 σ _ _ I1 h) λiv s2 q0=>Calls.spliced_nil ?_)));obtain⟨y,H2,I2,ry,k,rfl,q2⟩:=q0;obtain⟨vs,rel,dd⟩:=hk.dict I2;refine call_meetsIn PySem.F.slot_dict_get dd.typeIs PySem.F.entry_dict_get (PySem.F.args_dict_get_2 _ _) (meets_dict_get (bu X.prog X.w) a (mB ry) hk.1) ⟨_,dd.mapOf,⟨_,H2,I2.tok _,?_,q2⟩⟩;exact(rel.val k).getD rfl
end
section
variable{K:Wf}{te:TE}{g:TG}{tt:TT}{σ0:St}{H1:Hp}{Q:VK}
end
section
variable{M:Model}{A:Around}{E:Vs}{s:Shared}
theorem uC{e T L:Addr}{cls:Value}{dx:Option Addr}{fl:Value}{Q:Unit->Shared->Prop}(hx:eM s.heap e cls dx fl T)
  (h:∀h',(∀b o,b≠T->s.heap.get? b=some o->h'.get? b=some o)->(∃o,h'.get? T=some o)->eM h' e cls dx (rawInt L) T->Q () { s with heap:=h' }):wpAny M A (setFlight (.ref e) (some L)) Q E s:=by
 obtain⟨oe,vs,oT,ts,he,hc,hdx,hd,h1,hTe,hT,hdT,h3⟩:=hx;unfold setFlight;refine aT (xj he hd h1 ?_);rw[if_pos (show(Value.ref T != Value.none)=true from by simp)];have hs:=(LO.mp h3).1;refine wpAny_setField hT hdT hs (h _ (λb o hb hbo=>?_) ?_ ?_)
 ·rw[II _ _ (Ne.symm hb)];exact hbo
 ·exact⟨_,Hj _ hT (Obj.isFreed_of_fields (Obj.data_mapFields hdT _))⟩
 ·refine⟨oe,vs,_,_,?_,hc,hdx,hd,h1,hTe,Hj _ hT (Obj.isFreed_of_fields (Obj.data_mapFields hdT _)),Obj.data_mapFields hdT _,?_⟩
  ·rw[II _ _ hTe];exact he
  ·simp[hs]
end
noncomputable def P_(X:Cx)(E:XK):Value->Shared->Prop:=λe s'=>∃(pins:Lo) (σ:St) (H:Hp) (a:Addr) (cls:Value) (dx:Option Addr),e=.ref a/\Inv X pins σ H s'/\ExcAt X H s'.heap a cls dx/\E cls dx H
theorem HW{X:Cx}{E:XK}:Xe (X.gW (P_ X E)) E:=λpins σ H s a cls dx I hx hE=>⟨pins,σ,H,a,cls,dx,rfl,I.dz,hx,hE⟩
def JO(X:Cx)(E:XK):Prop:=∀e s',P_ X E e s'->notedBy (model X.prog X.w) X.A X.env (cameBackBy (model X.prog X.w) X.A X.env X.xe) e s'
theorem ET{P:Program}{w:World}{K:Wf}{mg:So}{base:Heap}{N:List Str}{qual:Str}{scope:Scope}{f:Addr}{cd:Value}{A:Around}{outer:List Env}{s₀:Shared}{H₀:Hp}{E₀:XK}:
  JO (kT (An P w) P w K mg base N qual scope f cd A outer s₀ H₀ E₀) E₀:=by
 rintro e s ⟨pins,σ,H,a,cls,dx,rfl,I,⟨ha,hHa,hx⟩,hE⟩;have hfr:(envOfC qual scope s₀.heap.objs.size f cd).frame=some s₀.heap.objs.size:=rfl;have fin:∀(T0:Addr) (h':Heap),s₀.heap.get? T0=none->H T0=none->eR (hZ (envOfC qual scope s₀.heap.objs.size f cd::outer)) a T0 cls dx .none s.heap h'->An P w outer H₀ s₀ E₀ (.ref a) { s with heap:=h' }:=by
  intro T0 h' hT0 hHT0 x;obtain⟨T,hT,y⟩:=x.exc;have hTn:s₀.heap.get? T=none:=by
   cases q:s₀.heap.get? T with
   |none=>rfl
   |some o=>exact absurd (kh (dj q) (dy I.sz hT)) (ku _)
  refine⟨a,T,cls,dx,H,rfl,I.os,I.bare,Un.left I rfl rfl rfl ha hT0 x,?_,ha,hTn,hHa,I.aN.fresh hT,y,hE⟩;refine I.aN.tracked λb o u hb q=>x.keep b o (λz=>?_) (λz=>by rw[z,hHa]at hb;cases hb) (λz=>by rw[z,hHT0]at hb;cases hb) q;have:=I.ik b z;rw[this]at hb;cases hb
 have back:∀(T0:Addr) (h1:Heap),s₀.heap.get? T0=none->H T0=none->eR (hZ (envOfC qual scope s₀.heap.objs.size f cd::outer)) a T0 cls dx (rawInt s₀.heap.objs.size) s.heap h1->
   cameBackBy (model P w) (A.deeper (envOfC qual scope s₀.heap.objs.size f cd)) (envOfC qual scope s₀.heap.objs.size f cd) (kT (An P w) P w K mg base N qual scope f cd A outer s₀ H₀ E₀).xe (.ref a) { s with heap:=h1 }:=by
  intro T0 h1 hT0 hHT0 x;obtain⟨T,hT,y⟩:=x.exc;unfold cameBackBy;obtain⟨oe,vs,oT,ts,he,hc,hdx,hd,hv1,hTe,hT',hdT,h3⟩:=id y;refine aT (xj (s:={ s with heap:=h1 }) he hd hv1 ?_);rw[if_neg (by simp)];refine uC (s:={ s with heap:=h1 }) y λh2 k hT2 y2=>?_;show wpAny _ _ (leaving (envOfC qual scope s₀.heap.objs.size f cd) (.ref a)) _ _ _;unfold leaving;refine aT (wU (s:={ s with heap:=h2 }) hfr y2 (c9 (s:={ s with heap:=h2 }) y2 λh3 k3 hT3 y3=>?_));exact fin T0 h3 hT0 hHT0 (x.off hT (λb o hb e=>k3 b o hb (k b o hb e)) hT3 y3)
 rcases hx with hx|⟨T0,hT0,hHT0,hx⟩
 ·exact uy (base:=base) I.ok.frames I.stack hfr hx λh' x=>back a h' ha hHa x
 ·exact iK (base:=base) I.ok.frames I.stack hfr hx λh' x=>back T0 h' hT0 hHT0 x
section
variable{X:Cx}{tg:Expr}{E:XK}
theorem Ht{iter:Expr}{body:List Stmt}{wi:TI}{g:TG}{tb:TS}{pos:Pos}(hp:JO X E)(hc:X.calm=true)(hi:PI X tg iter wi)(hg:PG X.Mn tg g)(hb:lV (X.gW (P_ X E)) body tb)
  (hs:∀x,foldedSetIterable iter X.env x=pure x:=by intro _;rfl):PS X (.For tg iter body [] pos) (lP wi g tb):=by
 intro pins s σ H D I h;have ff:∀{α:Type}{m:Sem α}{Q Q':α->Shared->Prop}{F:Vs}{s:Shared},wpAny (model X.prog X.w) X.A m Q (λ_ _=>False) s->(∀a s',Q a s'->Q' a s')->wpAny (model X.prog X.w) X.A m Q' F s:=λh k=>iO h k λ_ _ z=>z.elim;refine wpAny_For (bx (hi pins s σ H _ I h) λv s1 h1=>bx h1 λitv s2 h2=>?_) hs;obtain⟨it,fp,tn,J,H2,e,I2,T,st2,f2,W,⟨m0,w0⟩,turn⟩:=h2;subst e;have stat:∀{H':Hp},(∀b∈fp,H' b=none)->∀b∈fp,g9 X pins H' b:=λhn b hb=>⟨hn b hb,(f2 b hb).2⟩;refine codeAny_forLoop_any (λn s'=>∃i σ' H',Inv X pins σ' H' s'/\tn i s'.heap/\(∀b∈fp,H' b=none)/\W i n σ' H') ?_ m0 ⟨0,σ,H2,I2,st2,λb hb=>(f2 b hb).1,w0⟩;rintro n s3 ⟨i,σ3,H3,I3,st3,fr3,w3⟩;rcases turn i n σ3 H3 w3 with ⟨stop,qn⟩|⟨go,N,hN,step⟩
 ·refine ff (T.done X rfl rfl rfl hc i pins s3 σ3 H3 (λ_ _=>False) I3 (stat fr3) st3 stop) λr s4 ⟨hr,I4⟩=>?_;subst hr;exact LS ⟨σ3,H3,I4,qn⟩
 ·refine ff (T.item X rfl rfl rfl hc i pins s3 σ3 H3 (λ_ _=>False) I3 (stat fr3) st3 go) λr s4 ⟨u,hr,h4⟩=>?_;subst hr;refine ff h4 λ_ s5 ⟨x,H5,I5,r5,y5,st5,fr5⟩=>?_;have I5':=I5.pinned (stat fr5) (T.obj _ _ st5);refine ff (hg _ s5 σ3 H5 x u _ (I5'.gW _) r5 (step x H5 y5)) λ_ s6 ⟨σ6,H6,I6,q6⟩=>?_;refine iO (hb _ s6 σ6 H6 _ (I6.dz.gW _) q6) (λf s7 q7=>?_) λe s' z=>hp e s' z;have q7:=q7.dz;have again:∀{σ7:St}{H7:Hp},Inv X (pins++iB fp s5.heap) σ7 H7 s7->N σ7 H7->∃m,m<n/\∃i σ' H',Inv X pins σ' H' s7/\tn i s7.heap/\(∀b∈fp,H' b=none)/\W i m σ' H':=λ{σ7 H7} I7 n7=>by
   obtain⟨m',hm,w7⟩:=hN σ7 H7 n7;refine⟨m',hm,i+1,σ7,H7,I7.d6,T.keep _ _ _ st5 λb hb o e=>(I7.pin (b,o) (jE _ (jE _ (dg hb e)))).1,λb hb=>?_,w7⟩;obtain⟨o,e,d⟩:=T.obj _ _ st5 b hb;exact(I7.pin (b,o) (jE _ (jE _ (dg hb e)))).2.1
  cases f with
  |next=>obtain⟨σ7,H7,I7,n7⟩:=q7;exact again I7 n7
  |cont=>obtain⟨σ7,H7,I7,n7⟩:=q7;exact again I7 n7
  |brk=>obtain⟨σ7,H7,I7,q7⟩:=q7;exact⟨σ7,H7,I7.d6,q7⟩
  |ret v=>obtain⟨x7,σ7,H7,I7,r7,q7⟩:=q7;exact⟨x7,σ7,H7,I7.d6,r7,q7⟩
end
end L2
namespace L2
open PySem
section
variable{prog:Program}{w:World}{A:Around}{E:Vs}{s:Shared}{a:Addr}{L:List Str}
end
end L2
namespace L2
open PySem
section
variable{prog:Program}{w:World}{A:Around}{E:Vs}{s:Shared}{it a:Addr}{i n ep slot next:Nat}{es:Array (Int×Value)}{t:SetTable}{Q:Option Value->Shared->Prop}{x:Value}
end
end L2
namespace L2
open PySem
section
variable{prog:Program}{w:World}{A:Around}{E:Vs}{s:Shared}{I a:Addr}{n ep:Nat}{es:Array (Int×Value)}{t:SetTable}
end
end L2
namespace L2
open PySem
section
variable{prog:Program}{w:World}{A:Around}{E:Vs}{s:Shared}{a:Addr}{L:List Str}
end
end L2
namespace L2
open PySem PySem.Spec
section
variable{prog:Program}{w:World}{A:Around}{E:Vs}
set_option maxHeartbeats 3200000 in
end
section
open PyProof.Rows
variable{X:Cx}
end
end L2
namespace L2
open PySem PySem.Spec PyProof.Rows
section
variable{X:Cx}
noncomputable def Lv:V->List V->Hp->VK->Prop:=λx vs H Q=>∃(z:Str) (n:Int),x=.str z/\vs=[.int n]/\0<=n/\n<=1000/\Q (.str (Txt.zfill z n)) H
theorem Bp:J6 X "str.zfill" Lv:=by
 intro pins s σ H x vs v us Q I rx rv h;obtain⟨z,n,rfl,rfl,h0,h1,q⟩:=h;obtain⟨t,rfl⟩:=rx;obtain⟨u,rfl,ru⟩:=rv.one;obtain⟨t',rfl⟩:=ru;have hp:PadOk n=true:=by
  unfold PadOk fitsSsize Builtin.Str.tooLong;rw[show sizeLine=16777216 from sizeLine_eq];simp;omega
 exact call_gives F.slot_str_zfill (typeIs_str _ _ _) F.entry_str_zfill (F.args_str_zfill_2 _ _) (gives_str_zfill z n t t' (PadOk.parts hp).1 (PadOk.parts hp).2) (post_val_or_made (fits_zfilled (PadOk.parts hp).2) λt2 k=>⟨.str (Txt.zfill z n),H,I.tok _,⟨_,rfl⟩,q⟩)
end
structure Pr(H:Hp)(p:a7):Prop where
 sl:H p.ls=some (.lst (p.az.map bT.v))
 nl:H p.ln=some (.lst (p.aK.map aX.v))
 ss:∀s∈p.az,s.At H
 ns:∀n∈p.aK,n.At H
 nd:p.lists.Nodup
theorem Pr.mono{H H':Hp}{p:a7}(h:Pr H p)(e:aA H H'):Pr H' p:=⟨e _ _ h.sl,e _ _ h.nl,λs hs=>(h.ss s hs).mono e,λn hn=>(h.ns n hn).mono e,h.nd⟩
theorem Pr.list{H:Hp}{p:a7}(h:Pr H p){b:Addr}(hb:b∈p.lists):∃xs,H b=some (.lst xs):=by
 simp only[a7.lists,List.mem_cons]at hb;rcases hb with rfl|rfl|hb
 ·exact⟨_,h.sl⟩
 ·exact⟨_,h.nl⟩
 ·obtain⟨s,hs,hb⟩:=IC.mp hb;exact(h.ss s hs).list hb
theorem Pr.fresh{H:Hp}{p:a7}(h:Pr H p){b:Addr}(hb:H b=none):b∉p.lists:=λz=>by
 obtain⟨xs,e⟩:=h.list z;rw[hb]at e;cases e
theorem Pr.but{H H':Hp}{p:a7}{l:Addr}(h:Pr H p)(b:lM H H' l)(n:l∉p.lists):Pr H' p:=by
 simp only[a7.lists,List.mem_cons,not_or]at n;exact⟨b.2 _ _ h.sl (Ne.symm n.1),b.2 _ _ h.nl (Ne.symm n.2.1),λs hs=>(h.ss s hs).but b λq=>n.2.2 (IC.mpr ⟨s,hs,q⟩),λm hm=>(h.ns m hm).but b,h.nd⟩
theorem Pr.start{H:Hp}{t ls ln:Addr}{nm:Str}(h1:H ls=some (.lst []))(h2:H ln=some (.lst []))(n:ls≠ln):Pr H ⟨t,ls,ln,nm,[],[]⟩:=
 ⟨h1,h2,λs hs=>(nomatch hs),λs hs=>(nomatch hs),by simp[a7.lists,n]⟩
theorem Pr.g7{H:Hp}{t lw lf:Addr}{kind:Str}{step:Int}{p:a7}(h:Pr H p)(h1:H t=some (.tup [.str kind,.int step,.ref lw,.ref lf]))(h2:H lw=some (.lst []))(h3:H lf=some (.lst []))
  (n1:lw≠lf) (n2:lw∉p.lists) (n3:lf∉p.lists):Pr (upd H p.ls (.lst (p.az.map bT.v++[.ref t]))) { p with az:=p.az++[⟨t,lw,lf,kind,step,[],[]⟩] }:=by
 have b:lM H (upd H p.ls (.lst (p.az.map bT.v++[.ref t]))) p.ls:=lM.upd h.sl;have hls:p.ls∈p.lists:=by simp[a7.lists]
 have nd:p.ls≠p.ln/\p.ls∉p.az.flatMap bT.lists:=by
  have:=h.nd;simp only[a7.lists,List.nodup_cons,List.mem_cons,not_or]at this;exact this.1
 refine⟨by rw[aE];simp,b.2 _ _ h.nl (Ne.symm nd.1),λs hs=>?_,λn hn=>(h.ns n hn).but b,?_⟩
 ·rcases eC.mp hs with z|z
  ·exact(h.ss s z).but b λq=>nd.2 (IC.mpr ⟨s,z,q⟩)
  ·have e:=iL.mp z;subst e;exact⟨b.tup h1,b.2 _ _ h2 λ(e:lw=p.ls)=>n2 (e▸hls),b.2 _ _ h3 λ(e:lf=p.ls)=>n3 (e▸hls),λf hf=>(nomatch hf)⟩
 ·have e:a7.lists { p with az:=p.az++[⟨t,lw,lf,kind,step,[],[]⟩] }=p.lists++[lw,lf]:=by simp[a7.lists,bT.lists,List.flatMap_append]
  rw[e];refine NN.mpr ⟨h.nd,by simp[n1],λx hx y hy e=>?_⟩;subst e;simp only[List.mem_cons,List.not_mem_nil,or_false]at hy;rcases hy with e|e
  ·subst e;exact n2 hx
  ·subst e;exact n3 hx
theorem Pr.xo{H:Hp}{p:a7}{n:aX}(h:Pr H p)(h1:n.At H):Pr (upd H p.ln (.lst (p.aK.map aX.v++[n.v]))) { p with aK:=p.aK++[n] }:=by
 have b:lM H (upd H p.ln (.lst (p.aK.map aX.v++[n.v]))) p.ln:=lM.upd h.nl;have nd:p.ls≠p.ln/\p.ln∉p.az.flatMap bT.lists:=by
  have:=h.nd;simp only[a7.lists,List.nodup_cons,List.mem_cons,not_or]at this;exact⟨this.1.1,this.2.1⟩
 refine⟨b.2 _ _ h.sl nd.1,by rw[aE];simp,λs hs=>(h.ss s hs).but b λq=>nd.2 (List.mem_flatMap.mpr ⟨s,hs,q⟩),λm hm=>?_,h.nd⟩;rcases eC.mp hm with z|z
 ·exact(h.ns m z).but b
 ·rw[iL.mp z];exact h1.but b
theorem Pr.gc{H:Hp}{p:a7}{ss:List bT}{s:bT}(h:Pr H p)(e:p.az=ss++[s]):s.lw∈p.lists/\s.lf∈p.lists/\s.lw≠s.lf/\(∀b∈s.lists,b≠p.ls/\b≠p.ln/\∀r∈ss,b∉r.lists):=by
 have a2:=h.nd;have hs:s∈p.az:=by rw[e];simp
 have m:∀b∈s.lists,b∈p.az.flatMap bT.lists:=λb hb=>IC.mpr ⟨s,hs,hb⟩;have m':∀b∈s.lists,b∈p.lists:=λb hb=>by simp only[a7.lists,List.mem_cons];exact .inr (.inr (m b hb))
 simp only[a7.lists,List.nodup_cons,List.mem_cons,not_or]at a2;obtain⟨⟨_,b1⟩,b2,b3⟩:=a2;rw[e,List.flatMap_append]at b3;obtain⟨_,c2,c3⟩:=NN.mp b3;have c2':s.lists.Nodup:=by simpa using c2
 refine⟨m' _ (by simp[bT.lists]),m' _ (by simp[bT.lists]),?_,λb hb=>⟨λz=>b1 (z▸m b hb),λz=>b2 (z▸m b hb),λr hr z=>c3 b (List.mem_flatMap.mpr ⟨r,hr,z⟩) b (by simpa using hb) rfl⟩⟩;simpa [bT.lists] using c2'
theorem Pr.yp{H:Hp}{p:a7}{ss:List bT}{s:bT}{f:aW}(h:Pr H p)(e:p.az=ss++[s])(h1:f.At H):Pr (upd H s.lf (.lst (s.fills.map aW.v++[f.v]))) { p with az:=ss++[{ s with fills:=s.fills++[f] }] }:=by
 obtain⟨m1,m2,n1,n2⟩:=h.gc e;have hs:s.At H:=h.ss s (by rw[e];simp);have b:lM H (upd H s.lf (.lst (s.fills.map aW.v++[f.v]))) s.lf:=lM.upd hs.fl;obtain⟨q1,q2,q3⟩:=n2 s.lf (by simp[bT.lists]);refine⟨?_,b.2 _ _ h.nl (Ne.symm q2),λr hr=>?_,λn hn=>(h.ns n hn).but b,?_⟩
 ·rw[b.2 _ _ h.sl (Ne.symm q1),e];simp[bT.v]
 ·rcases eC.mp hr with z|z
  ·exact(h.ss r (by rw[e];exact vB _ z)).but b (q3 r z)
  ·have er:=iL.mp z;subst er;refine⟨b.tup hs.top,b.2 _ _ hs.wd n1,by rw[aE];simp,λg hg=>?_⟩;rcases eC.mp hg with y|y
   ·exact(hs.fs g y).but b
   ·rw[iL.mp y];exact h1.but b
 ·have:=h.nd;simp only[a7.lists,e,List.flatMap_append]at this ⊢;exact this
theorem Pr.xP{H:Hp}{p:a7}{ss:List bT}{s:bT}{i:Int}(h:Pr H p)(e:p.az=ss++[s]):Pr (upd H s.lw (.lst (s.words.map V.int++[.int i]))) { p with az:=ss++[{ s with words:=s.words++[i] }] }:=by
 obtain⟨m1,m2,n1,n2⟩:=h.gc e;have hs:s.At H:=h.ss s (by rw[e];simp);have b:lM H (upd H s.lw (.lst (s.words.map V.int++[.int i]))) s.lw:=lM.upd hs.wd;obtain⟨q1,q2,q3⟩:=n2 s.lw (by simp[bT.lists]);refine⟨?_,b.2 _ _ h.nl (Ne.symm q2),λr hr=>?_,λn hn=>(h.ns n hn).but b,?_⟩
 ·rw[b.2 _ _ h.sl (Ne.symm q1),e];simp[bT.v]
 ·rcases eC.mp hr with z|z
  ·exact(h.ss r (by rw[e];exact vB _ z)).but b (q3 r z)
  ·have er:=iL.mp z;subst er;exact⟨b.tup hs.top,by rw[aE];simp,b.2 _ _ hs.fl (Ne.symm n1),λg hg=>(hs.fs g hg).but b⟩
 ·have:=h.nd;simp only[a7.lists,e,List.flatMap_append]at this ⊢;exact this
section
variable{prog:Program}{w:World}{K:Type} [DecidableEq K]{knd:HeapKind prog w K}{A:Around}{E:Vs}{s:Shared}
theorem grown{d a:Addr}{o:Obj}{es:Array DictEntry}{ep:Nat}{xs:List (K×Addr×Value)}{k:K}{v:Value}{h:Heap}(ho:h.get? d=some o)(hd:o.data=.dict es ep)(hc:o.ExactDict)
  (he:es.toList=xs.map (entryOfKey knd)) (his:∀x∈xs,knd.is h x.1 x.2.1) (hn:(xs.map (·.1)).Nodup) (hkey:knd.is h k a) (hno:∀(j:Nat) (p:Addr×Value),xs[j]?≠some (k,p)):
  (h.update d (Obj.mapDictKeys λl=>l.push ⟨knd.hash k,.ref a,v⟩)).DictOfH knd d (storedH xs k a v):=by
 have e:storedH xs k a v=xs++[(k,a,v)]:=storedH_new (atKey_none_of_get hno) a v;have keep:∀{c:K}{b:Addr},knd.is h c b->knd.is (h.update d (Obj.mapDictKeys λl=>l.push ⟨knd.hash k,.ref a,v⟩)) c b:=λq=>knd.keeps q ho hd (Heap.SameBut.update ..);have dat:=Obj.data_mapDictKeys hd λl=>l.push ⟨knd.hash k,.ref a,v⟩;refine e▸⟨_,es.push ⟨knd.hash k,.ref a,v⟩,ep+1,Hj _ ho (Obj.isFreed_of_dict dat),hc.mapDictKeys _,dat,?_,?_,?_⟩
 ·rw[Array.toList_push,he,gJ];rfl
 ·exact λx hx=>(eC.mp hx).elim (λq=>keep (his x q)) λq=>by cases iL.mp q;exact keep hkey
 ·rw[gJ];refine NN.mpr ⟨hn,by simp,λx hx y hy q=>not_mem_keys_of_get hno ?_⟩;have ey:y=k:=by simpa using hy
  rw[<-ey,<-q];exact hx
theorem vk{d a:Addr}{xs:List (K×Addr×Value)}{k:K}{v:Value}{Q:Vs}(hu:knd.room A)(hkey:knd.is s.heap k a)(hm:s.heap.DictOfH knd d xs)(hsz:xs.length<=sizeLine)
  (there:∀u,(atKey xs k).map (·.2)=some u->Q u { s with toks:=s.toks+knd.draws k })
  (new:(atKey xs k).map (·.2)=none->∀h',h'.DictOfH knd d (storedH xs k a v)->Heap.SameBut d s.heap h'->Q v { s with heap:=h',toks:=s.toks+knd.draws k }):
  wpAny (model prog w) A (dictSetDefault d (.ref a) v) Q E s:=by
 obtain⟨o,es,ep,ho,hc,hd,he,his,hn⟩:=hm;have hes:es.size<=sizeLine:=by rw[size_of_entries he];exact hsz
 have none_of:∀hno:(∀(j:Nat) (p:Addr×Value),xs[j]?≠some (k,p)),(atKey xs k).map (·.2)=none:=λhno=>by rw[atKey_none_of_get hno];rfl
 exact G7 (aT (knd.pyHash hu hkey (aT (wpAny_dictFind_heap (s:={ s with toks:=s.toks+knd.draws k }) hu hkey ho hd he his hn
  (λhno=>aT (wpAny_rule (aT (wpAny_updateDictKeys (hz:=hes) (s:={ s with toks:=s.toks+knd.draws k }) ho hd (cC (new (none_of hno) _ (grown ho hd hc he his hn hkey hno) (Heap.SameBut.update ..)))))))
  λj p hj=>aT (wpAny_dictEntries (s:={ s with toks:=s.toks+knd.draws k }) ho hd (by
   rw[entry_at he j,hj];exact aT (wpAny_rule (cC (there p.2 (by rw[atKey_of_get hn hj];rfl))))))))))
theorem ED(knd:HeapKind prog w K){d:Addr}(a:Addr)(hd:(d == sysModules)=false)(x:Value):
  MeetsIn prog w (Builtin.«dict.setdefault» ⟨[.ref d,.ref a,x],[]⟩) λA R s=>knd.room A.in1/\∃k xs,knd.is s.heap k a/\s.heap.DictOfH knd d xs/\xs.length<=sizeLine/\
   (∀v,(atKey xs k).map (·.2)=some v->R (.ok (.ret v)) { s with toks:=s.toks+knd.draws k })/\
   ((atKey xs k).map (·.2)=none->∀h',h'.DictOfH knd d (storedH xs k a x)->Heap.SameBut d s.heap h'->R (.ok (.ret x)) { s with heap:=h',toks:=s.toks+knd.draws k }):=by
 refine .of_wp ?_;rintro A R s ⟨hu,k,xs,hkey,hm,hz,there,new⟩;have main:=vk (v:=x) (E:=λe s'=>R (.error e) s') (Q:=λv s'=>R (.ok (.ret v)) s') hu hkey hm hz there new;refine aT (aT (wpAny_notOrdered_dict hm.typeIs (cC ?_)));simp only[hd,Bool.false_eq_true,if_false];exact aT (iO main (λv s' q=>cC ⟨v,rfl,q⟩) λ_ _ q=>q)
end
section
variable{X:Cx}{pins:Lo}{σ:St}{H:Hp}{s:Shared}{a:Addr}{y d:V}{u r:Value}{o:Option V}{A:Around}{E:Vs}
theorem Dw{H':Hp}{Q:Vs}(hu:A.units+1<cLine)(I:Inv X pins σ H s)(g:fR H a y o)(p:jh H a y d H')(ry:RelV y u)(rd:RelV d r)
  (h1:∀v w' s',o=some v->Inv X pins σ H s'->RelV v w'->Q w' s') (h2:∀w' s',o=none->Inv X pins σ H' s'->RelV d w'->Q w' s'):
  wpAny (model X.prog X.w) A (call (.builtin "dict.setdefault") [.ref a,u,r]) Q E s:=by
 rcases p with ⟨kvs,k,e,ey,l,eH⟩|⟨kvs,k,b,e,ey,eb,l,eH⟩
 ·subst ey eH;obtain⟨z,hd,vs,rel,dd⟩:=JF I.aN e;have go:o=aS kvs k:=by
   rcases g with ⟨kvs',k',e',ey',l'⟩|⟨kvs',k',b,e',ey',eb',l'⟩
   ·have ek:k'=k:=by cases k<;>cases k'<;>simp_all [kV]
    rcases e' with e'|⟨ob,e'⟩
    ·rw[e]at e';cases e';rw[l',ek]
    ·rw[e]at e';cases e'
   ·cases k<;>cases ey'
  have hz:vs.length<=sizeLine:=by rw[<-rel.length];exact z
  have hl:(putK kvs k d).length<=sizeLine:=by have:=cP kvs k d;omega
  refine call_meetsIn PySem.F.slot_dict_setdefault dd.typeIs PySem.F.entry_dict_setdefault (PySem.F.args_dict_setdefault_3 _ _ _) (kt_meets_setdefault (bu X.prog X.w) a (mB ry) hd r) ⟨vs,dd,hz,λv hv=>?_,λhn h' dd' hs=>?_⟩
  ·have q:=rel.val k;rw[hv]at q;cases ho:aS kvs k with
   |none=>rw[ho]at q;exact q.elim
   |some v'=>rw[ho]at q;exact h1 v' v _ (by rw[go,ho]) (I.tok _) q
  ·have q:=rel.val k;rw[hn]at q;have ho:aS kvs k=none:=by
    cases ho:aS kvs k with
    |none=>rfl
    |some v'=>rw[ho]at q;exact q.elim
   have he:∃q,h'.get? a=some q:=let ⟨q,_,_,hq,_⟩:=dd';⟨q,hq⟩
   exact h2 r _ (by rw[go,ho]) (j8 I (by rw[e];exact True.intro) hs he (FK hl hd (rel.put k rd) dd')) rd
 ·subst ey eH;cases (show u=Value.ref b from ry);obtain⟨z,hd,xs,rel,dd⟩:=Jy I.aN e;have go:o=aS kvs k:=by
   rcases g with ⟨kvs',k',e',ey',l'⟩|⟨kvs',k',b',e',ey',eb',l'⟩
   ·cases k'<;>cases ey'
   ·cases ey';have ek:k'=k:=by
     rw[eb]at eb';injection eb' with eb';injection eb' with eb';exact(List.map_inj_right (f:=kV) (by intro x y q;cases x<;>cases y<;>simp_all [kV])).mp eb'.symm
    rcases e' with e'|⟨ob,e'⟩
    ·rw[e]at e';cases e';rw[l',ek]
    ·rw[e]at e';cases e'
  have hz:xs.length<=sizeLine:=by rw[<-Paired.length rel];exact z
  have hl:(putK kvs k d).length<=sizeLine:=by have:=cP kvs k d;omega
  refine call_meetsIn PySem.F.slot_dict_setdefault dd.typeIs PySem.F.entry_dict_setdefault (PySem.F.args_dict_setdefault_3 _ _ _) (ED (tupleKind (bu X.prog X.w)) b hd r) ⟨tupleKind_room_in1 hu,k,xs,k8 I.aN eb,dd,hz,λv hv=>?_,λhn h' dd' hs=>?_⟩
  ·have q:=rel.val k;rw[hv]at q;cases ho:aS kvs k with
   |none=>rw[ho]at q;exact q.elim
   |some v'=>rw[ho]at q;exact h1 v' v _ (by rw[go,ho]) (I.tok _) q
  ·have q:=rel.val k;rw[hn]at q;have ho:aS kvs k=none:=by
    cases ho:aS kvs k with
    |none=>rfl
    |some v'=>rw[ho]at q;exact q.elim
   obtain⟨qo,es,ep,hq,g2,g3,g4,_,g5⟩:=dd';refine h2 r _ (by rw[go,ho]) (j8 I (by rw[e];exact True.intro) hs ⟨qo,hq⟩ ⟨hl,hd,_,(rel.put k eb rd).keeps λc ys ec=>?_,qo,es,ep,hq,g2,g3,g4,g5⟩) rd;rw[ae (bS ec e (λz=>nomatch z))];exact ec
end
def Si(td ty tx:TE):TE:=λσ H Q=>td σ H λx H1=>∃a,x=.ref a/\Pq H1 a/\ty σ H1 λy H2=>tx σ H2 λz H3=>∃o H4,fR H3 a y o/\jh H3 a y z H4/\(∀v,o=some v->Q v H3)/\(o=none->Q z H4)
section
variable{X:Cx}{o e f:Expr}{apos cpos:Pos}{td ty tx:TE}
theorem K9(hu:X.A.units+1<cLine)(ho:PE X o td)(he:PE X e ty)(hf:PE X f tx)(m:M2 X o "setdefault" apos e f cpos):PE X (.Call (.Attribute o "setdefault" apos) [e,f] [] cpos) (Si td ty tx):=by
 intro pins s σ H Q I h;refine wpAny_Call_method m.base m.iz m.line PySem.F.plainAttrs_dict PySem.F.slot_dict_setdefault PySem.F.type_dict_setdefault (bx (ho pins s σ H _ I h) λu s1 ⟨x,H1,I1,rx,a,ex,d,q1⟩=>?_);subst ex;obtain rfl:u=Value.ref a:=rx;obtain⟨t1,t2,_⟩:=Bb I1 d;refine⟨t1,t2,?_⟩;rw[m.trees];refine Calls.callWith_builtin rfl (Calls.evalArgs_plain (Calls.spliced_cons (bx (he pins s1 σ H1 _ I1 q1) λiv s2 ⟨y,H2,I2,ry,q2⟩=>
  Calls.spliced_cons (bx (hf pins s2 σ H2 _ I2 q2) λfv s3 ⟨z,H3,I3,rz,ov,H4,g,p,q3,q4⟩=>Calls.spliced_nil ?_))))
 exact Dw hu I3 g p ry rz (λv w' s4 e4 I4 rw'=>⟨v,H3,I4,rw',q3 v e4⟩) (λw' s4 e4 I4 rw'=>⟨z,H4,I4,rw',q4 e4⟩)
end
section
variable{prog:Program}{w:World}{A:Around}{E:Vs}{s:Shared}{kd:SortKind}{r:Keyed->Nat}{base:Array Keyed}
noncomputable def rk(r:Keyed->Nat)(xs:Array Keyed)(i:Nat):Nat:=(xs[i]?.map r).getD 0
structure QD(kd:SortKind)(base:Array Keyed)(st:SortSt):Prop where
 pm:(arrOf st).Perm base
 kd:kindOf st=kd
 ok:failedOf st=none
 pn:pendingOf st=#[]
theorem QD.len{st:SortSt}(h:QD kd base st):(arrOf st).size=base.size:=h.pm.size_eq
def RV(prog:Program)(w:World)(A:Around)(E:Vs)(s:Shared)(kd:SortKind)(r:Keyed->Nat)(base:Array Keyed):Prop:=
 ∀x∈base.toList,∀y∈base.toList,∀Q:Bool->Shared->Prop,Q (decide (r x<r y)) s->wpAny (model prog w) A (keyLt' kd x.1 y.1) Q (λ_ _=>False) s
theorem asked{st:SortSt}{i j:Nat}{Q:Option Bool->SortSt->Prop}(ask:RV prog w A E s kd r base)(S:QD kd base st)(hi:i<base.size)(hj:j<base.size)
  (q:Q (some (decide (rk r (arrOf st) i<rk r (arrOf st) j))) st):wpS (model prog w) A E s (ltAt' i j) Q st:=by
 have li:i<(arrOf st).size:=by rw[S.len];exact hi
 have lj:j<(arrOf st).size:=by rw[S.len];exact hj
 have ei:(arrOf st)[i]?=some (arrOf st)[i]:=getElem?_pos _ i li;have ej:(arrOf st)[j]?=some (arrOf st)[j]:=getElem?_pos _ j lj;have mem:∀{k:Nat}(h:k<(arrOf st).size),(arrOf st)[k]∈base.toList:=λ{k} h=>(Array.perm_iff_toList_perm.mp S.pm).mem_iff.mp (Array.getElem_mem_toList h);unfold rk at q;rw[ei,ej]at q;rw[ltAt'_eq];refine wpS_bind (wpS_get ?_);dsimp only;rw[elem'_eq,elem'_eq,ei,ej];refine wpS_bind (wpS_pure (wpS_bind (wpS_pure ?_)));rw[lt'_eq];refine wpS_bind (wpS_get (wpS_bind (wpS_lift (wpAny_attempt ?_))));rw[S.kd];exact iO (ask _ (mem li) _ (mem lj) (λb s'=>b=decide (r (arrOf st)[i]<r (arrOf st)[j])/\s'=s) ⟨rfl,rfl⟩) (λb s' ⟨e1,e2⟩=>⟨e2,by subst e1;exact wpS_pure q⟩) λ_ _ z=>z.elim
end
section
variable{prog:Program}{w:World}{A:Around}{E:Vs}{s:Shared}
end
section
variable{prog:Program}{w:World}{A:Around}{E:Vs}{s:Shared}
end
section
variable{X:Cx}
end
section
variable{X:Cx}
noncomputable def NF:V->List V->Hp->VK->Prop:=λx vs H Q=>∃z y:Str,x=.str z/\vs=[.str y]/\1<=y.length/\z.length<=sizeLine/\
 ∀t,H t=none->Q (.ref t) (upd H t (.tup [.str (Txt.partition z y).1,.str (Txt.partition z y).2.1,.str (Txt.partition z y).2.2]))
theorem ID:J6 X "str.partition" NF:=by
 intro pins s σ H x vs v us Q I rx rv h;obtain⟨z,y,rfl,rfl,hy,hz,q⟩:=h;obtain⟨t,rfl⟩:=rx;obtain⟨u,rfl,ru⟩:=rv.one;obtain⟨u,rfl⟩:=ru;have q0:=q _ I.fresh;have fin:∀(a b c:Str) (ta tb tc:Tok) (k:Nat),Txt.partition z y=(a,b,c)->EP X pins σ Q (.ref s.heap.objs.size) { s with toks:=k,heap:=s.heap.push { cls:=.type "tuple", data:=.seq [.str a ta,.str b tb,.str c tc].toArray } }:=λa b c ta tb tc k e=>by
  rw[e]at q0;have r:Vals [V.str a,V.str b,V.str c] [.str a ta,.str b tb,.str c tc]:=.cons ⟨ta,rfl⟩ (.cons ⟨tb,rfl⟩ (.cons ⟨tc,rfl⟩ .nil));exact⟨.ref s.heap.objs.size,_,I.laid (t':=k) (λb o e=>fU _ e) (dn _) (show a_ X.prog X.w _ _ _ (.tup [V.str a,V.str b,V.str c]) from ⟨by rw[sizeLine_eq];simp,_,r,IsTup.new _ _⟩),rfl,q0⟩
 refine call_meets F.slot_str_partition (typeIs_str _ _ _) F.entry_str_partition (F.args_str_partition_2 _ _) (meets_str_partition z y t u (by simp;omega) hz) ?_;show wants _ _ _ (match Builtin.Str.occurrences z y 0 z.length 1 with | i::_=>_ | []=>_);have e:Txt.partition z y=(match Builtin.Str.occurrences z y 0 z.length 1 with | i::_=>(Builtin.Str.strSub z 0 i,y,Builtin.Str.strSub z (i+y.length) z.length) | []=>(z,Str.empty,Str.empty)):=rfl;revert e;cases Builtin.Str.occurrences z y 0 z.length 1 with
 |nil=>intro e;exact fin _ _ _ _ _ _ _ e
 |cons i r=>intro e;exact fin _ _ _ _ _ _ _ e
end
theorem BZ{a b:Str}{c:Nat}(ha:c∉a.cps.toList)(hb:c∉b.cps.toList):Txt.partition (a++(⟨#[c]⟩:Str)++b) ⟨#[c]⟩=(a,⟨#[c]⟩,b):=by
 have el:(a++(⟨#[c]⟩:Str)++b).cps.toList=a.cps.toList++c::b.cps.toList:=by
  show(a.cps++#[c]++b.cps).toList=_;simp
 have len:(a++(⟨#[c]⟩:Str)++b).length=a.length+1+b.length:=by rw[Str.length_append,Str.length_append];rfl
 generalize hx:a++(⟨#[c]⟩:Str)++b=x at el len;have one:∀i,x.cps.toList[i]?=some c->i=a.length:=λi hi=>by
  rw[el]at hi;have la:a.cps.toList.length=a.length:=by rw[A1];rfl
  rcases Nat.lt_trichotomy i a.cps.toList.length with z|z|z
  ·rw[Pk z]at hi;exact absurd (A4 hi) ha
  ·omega
  ·rw[Mj (by omega)]at hi;obtain⟨j,hj⟩:∃j,i - a.cps.toList.length=j+1:=⟨i - a.cps.toList.length - 1,by omega⟩
   rw[hj,List.getElem?_cons_succ]at hi;exact absurd (A4 hi) hb
 unfold Txt.partition;have f:=StrLaws.found_one x c;have hm:c∈x.cps.toList:=by rw[el];simp
 rw[decide_eq_true hm]at f;obtain⟨g,ch⟩:=StrLaws.occ_chain x ⟨#[c]⟩ 1;revert f ch;cases Builtin.Str.occurrences x ⟨#[c]⟩ 0 x.length 1 with
 |nil=>intro f;cases f
 |cons i r=>
  intro f ch;have hi:=one i ((StrLaws.subAt_one x c i).mp ch.2.1);subst hi;have la:a.cps.toList.length=a.length:=by rw[A1];rfl
  have lb:b.cps.toList.length=b.length:=by rw[A1];rfl
  have e1:Builtin.Str.strSub x 0 a.length=a:=gE (by rw[StrLaws.strSub_toList,el,List.drop_zero,Nat.sub_zero,<-la,List.take_left]);have e2:Builtin.Str.strSub x (a.length+(⟨#[c]⟩:Str).length) x.length=b:=gE (by
   rw[StrLaws.strSub_toList,el,len,<-la];show List.take _ (List.drop (a.cps.toList.length+1) _)=_;rw[List.drop_append,List.drop_eq_nil_of_le (by omega),Nat.add_sub_cancel_left,List.nil_append];show List.take _ (b.cps.toList)=_;exact G9 (by show _<=_ - (a.cps.toList.length+1);omega))
  show(_,_,_)=_;rw[e1,e2]
end L2
set_option maxHeartbeats 0
set_option pp.deepTerms true
set_option pp.maxSteps 100000
namespace L2
open PySem PySem.Spec PyProof.Rows
section
variable{X:Cx}
theorem tx(K:Wf){a:Expr}{ta:TE}{n:Int}{j:Nat}{p pos:Pos}(ha:PE X a ta)(e:X.K=K:=by rfl):PE X (.Subscript a (.Constant (.int n) j p) pos) (MT (LX K) ta (tC (.int n))):=bH (HE e) ha ah (λ_ _=>rfl)
theorem pn(i:Nat){x:Str}{pos:Pos}(hN:X.N.Nodup)(hi:X.N[i]?=some x:=by rfl)(hx:Loc X.env.scope x:=by first|exact Or.inl rfl|exact Or.inr rfl)(hf:X.fn x=true\/X.env.scope.names.lookup x=some .local:=by first|exact .inl rfl|exact .inr rfl|assumption):PG X (.Name x pos) (uH i):=HB hN hi hx hf
theorem pS(i:Nat){x:Str}{e:Expr}{te:TE}{pos pos':Pos}(hN:X.N.Nodup)(he:PE X e te)(hi:X.N[i]?=some x:=by rfl)(hx:Loc X.env.scope x:=by first|exact Or.inl rfl|exact Or.inr rfl)(hs:swapsWith e (some (.Name x pos')) pos.line X.env=pure false:=by rfl)(hf:X.fn x=true\/X.env.scope.names.lookup x=some .local:=by first|exact .inl rfl|exact .inr rfl|assumption):PS X (.Assign [.Name x pos'] e pos) (Ip te (uH i)):=bR hN hi hx he hs hf
theorem pC{k n:Nat}{f:Addr}{fd:FuncData}{ps:List Str}{sp:Sp}{x:Str}{e:Expr}{es:List Expr}{t:TA}{p pos:Pos}(F:bo X.prog X.w X.K X.mg X.base eI k f fd ps sp)(hr:cR n X.A)(hm:X.mg x=some (.ref f))(hk:keepIn X.K (.ref f)=true)(hb:Binds X.K fd ps [])(ha:PA X (e::es) t)(hl:k<=n:=by decide)(hg:Gl X x:=by rfl)(hdb:(x == ("__debug__" : Str))=false:=by decide)(he:starEach (e::es) X.env=(false,eval e X.env)::starEach es X.env:=by rfl)(hpl:(backTo pos (starEach es X.env)).any (·.1)=false:=by rfl):PE X (.Call (.Name x p) (e::es) [] pos) (Jq sp [] E0 t):=pG F (hr.mono hl) hg hm hk hb .nil eW ha hdb he hpl
theorem Ih(own:List Str){scope:Scope}(kind:scope.kind=.function:=by rfl)(h1:∀y∈scope.names,y.2≠.cell:=by decide +kernel)(h2:∀y∈scope.names,y.2=.local->scope.names.lookup y.1=some .local:=by decide +kernel)(h3:∀y∈scope.names,y.2=.free->y.1∈([]:List Str):=by decide +kernel):gm X (own++[]) own.length [] scope:=Kq kind h1 h2 h3 .nil
theorem ee{o e:Expr}{es:List Expr}{to:TE}{t:TA}{apos cpos:Pos}(ho:PE X o to)(ha:PA X (e::es) t)(hbase:attributeBase o "append" X.env (eval o X.env)=eval o X.env:=by rfl)(hfew:((backTo cpos (starEach (e::es) X.env)).all (λx=>!x.1)&&(backToKw cpos (keywordEach [] X.env)).all (λx=>x.1.isSome)&&decide ((e::es).length+([]:List Keyword).length+(if ([]:List Keyword).isEmpty then 0 else 1)<30))=true:=by rfl)(hline:(apos.endLine == cpos.line)=true:=by rfl)(hs:starEach (e::es) X.env=(false,eval e X.env)::starEach es X.env:=by rfl)(hp:(backTo cpos (starEach es X.env)).any (·.1)=false:=by rfl):PE X (.Call (.Attribute o "append" apos) (e::es) [] cpos) (Td X.K "list" xR to t):=eU PySem.F.plainAttrs_list PySem.F.slot_list_append PySem.F.type_list_append mG ho ha hbase hfew hline hs hp
theorem pF{tg iter:Expr}{body:List Stmt}{wi:TI}{g:TG}{tb:TS}{pos:Pos}(hi:PI X tg iter wi)(hg:PG X tg g)(hb:lV X body tb)(hc:X.calm=true:=by rfl)(hs:∀x,foldedSetIterable iter X.env x=pure x:=by intro _;rfl)(hn:PassesOwn (model X.prog X.w) X.A X.env X.xe:=by exact PassesOwn.never):PS X (.For tg iter body [] pos) (lP wi g tb):=KG hn hc hi hg hb hs
end
end L2
namespace My
open PySem PySem.Spec PyProof.Rows L2
set_option hygiene false in
local macro_rules | `(tactic| walk_at "0") => `(tactic| obtain ⟨p, dx, nm0, ls, ln, lw, lf, td, bw⟩ := R)
set_option hygiene false in
local macro_rules | `(tactic| walk_at "1") => `(tactic| have es : S.az = ss.map sC ++ [sC s] := by rw [← h.az, e, gJ]; rfl)
set_option hygiene false in
local macro_rules | `(tactic| walk_at "2") => `(tactic| obtain ⟨rfl, rfl⟩ := List.cons.inj er)
set_option hygiene false in
local macro_rules | `(tactic| walk_at "3") => `(tactic| obtain ⟨ss, s, es, elw, elf, sa, eS⟩ := hR.last (show S.az ≠ [] from tk.2.1))
set_option hygiene false in
local macro_rules | `(tactic| walk_at "4") => `(tactic| have cs := hR.n1.2.2 s (by rw [es]; simp))
set_option hygiene false in
local macro_rules | `(tactic| walk_at "5") => `(tactic| rw [elw, if_neg (by simp)])
set_option hygiene false in
local macro_rules | `(tactic| walk_at "6") => `(tactic| obtain ⟨ss, s, es, elw, elf, sa, eS⟩ := hR.last (show S.az ≠ [] from hs))
set_option hygiene false in
local macro_rules | `(tactic| walk_at "7") => `(tactic| have w1 : (Str.ofString " ").length = 1 := by decide +kernel)
set_option hygiene false in
local macro_rules | `(tactic| walk_at "8") => `(tactic| obtain ⟨xs, x, rfl⟩ : ∃ xs x, az = xs ++ [x] := ⟨az.dropLast, az.getLast t0, (Pp t0).symm⟩)
set_option hygiene false in
local macro_rules | `(tactic| walk_at "9") => `(tactic| have hn := (ub hnm).1)
set_option hygiene false in
local macro_rules | `(tactic| walk_at "10") => `(tactic| have ln := (ub hnm).2)
set_option hygiene false in
local macro_rules | `(tactic| walk_at "11") => `(tactic| have hg := Hh hnm)
set_option hygiene false in
local macro_rules | `(tactic| walk_at "12") => `(tactic| rintro D σ H ⟨H0, n, far, nm, p, zs, rfl, f0, f1, hnm, O⟩)
set_option hygiene false in
local macro_rules | `(tactic| walk_at "13") => `(tactic| rintro D σ H ⟨H0, n, nm, p, zs, rfl, hnm, O⟩)
set_option hygiene false in
local macro_rules | `(tactic| walk_at "14") => `(tactic| obtain ⟨i, rfl⟩ := Ew a0)
set_option hygiene false in
local macro_rules | `(tactic| walk_at "15") => `(tactic| have hi : i ≤ rows.length := by omega)
set_option hygiene false in
local macro_rules | `(tactic| walk_at "16") => `(tactic| rintro D σ H ⟨H0, p, rows, way, at_, n, nm, s1, s2, b7, rfl, hp, hR, a0, a1, n0, n1, hnm, hc, sm, k⟩)
set_option hygiene false in
local macro_rules | `(tactic| walk_at "17") => `(tactic| have ml : (bY rows).length ≤ 130 := by unfold bY; rw [List.length_map]; exact rl)
set_option hygiene false in
local macro_rules | `(tactic| walk_at "18") => `(tactic| have go : oS false D [some (V.ref p), some (V.int way), some (V.int i), some (V.int n), some (V.str nm), some (V.str (ak (m6 s1 nm))), some (V.str (ak (AE s2 nm))), b7] H := ⟨H0, p, rows, way, i, n, nm, s1, s2, b7, rfl, hp, hR, a0, a1, n0, n1, hnm, (fun z => by cases z), sm, k⟩)
set_option hygiene false in
local macro_rules | `(tactic| walk_at "19") => `(tactic| have cl := dy (zP (bY rows) none (some (i : Int))) ml)
local macro_rules | `(tactic| walk_at "o") => `(tactic| first | exact Or.inl rfl | exact Or.inr rfl)
local macro_rules | `(tactic| walk_at "s") => `(tactic| (rw [sizeLine_eq]; decide))
local macro_rules | `(tactic| walk_at "p") => `(tactic| first | exact Or.inl rfl | exact Or.inr (Or.inl rfl) | exact Or.inr (Or.inr rfl))
local macro_rules | `(tactic| walk_at "q") => `(tactic| first | exact .inl rfl | exact .inr rfl | assumption)
local macro_rules | `(tactic| walk_at "n") => `(tactic| exact of_decide_eq_true (by kernel_rfl))
local macro_rules | `(tactic| walk_at "F") => `(tactic| exact ⟨rfl, rfl, rfl, by decide +kernel, rfl, by decide +kernel, by decide +kernel⟩)
noncomputable def top(i:Nat):Stmt:=PySem.Challenge.pw_joinload_k14_the_first_bad_row.main.body.getD i (.Pass ⟨0,0,0,0⟩)
noncomputable abbrev G4:Stmt:=inClass (top 4) 0
noncomputable abbrev Gi:Stmt:=top 20
noncomputable abbrev EV:Stmt:=inClass (top 21) 0
noncomputable abbrev C7:Stmt:=top 33
noncomputable abbrev CV:Stmt:=top 34
noncomputable abbrev CA:Stmt:=top 35
noncomputable abbrev A8:Stmt:=top 36
noncomputable abbrev CT:Stmt:=top 37
noncomputable abbrev D5:Stmt:=inClass (top 38) 0
noncomputable abbrev C8:Stmt:=inClass (top 38) 1
noncomputable abbrev Gr:Stmt:=inClass (top 38) 2
noncomputable abbrev DI:Stmt:=inClass (top 38) 3
noncomputable abbrev BC:Stmt:=inClass (top 38) 4
noncomputable abbrev Bv:Stmt:=inClass (top 38) 5
noncomputable abbrev BO:Stmt:=inClass (top 38) 6
noncomputable abbrev Fo:Stmt:=top 39
noncomputable abbrev DY:Stmt:=top 40
noncomputable abbrev Bw:Stmt:=top 41
noncomputable abbrev B_:Stmt:=top 42
noncomputable abbrev Ci:Stmt:=top 44
noncomputable abbrev Fn:Stmt:=top 45
noncomputable abbrev Bs:Stmt:=top 46
noncomputable abbrev D1:Stmt:=top 47
noncomputable abbrev G3:Stmt:=top 48
noncomputable abbrev DZ:Stmt:=top 49
noncomputable abbrev Dt:Stmt:=top 50
noncomputable abbrev ES:Stmt:=top 51
noncomputable abbrev Ba:Stmt:=top 52
noncomputable abbrev Ee:Stmt:=top 53
noncomputable abbrev Gj:Stmt:=top 54
noncomputable abbrev Bu:Stmt:=top 55
noncomputable abbrev GJ:Stmt:=top 56
noncomputable abbrev BX:Stmt:=top 57
noncomputable abbrev Co:Stmt:=top 58
noncomputable abbrev Bm:Stmt:=top 59
noncomputable abbrev DU:Stmt:=top 60
noncomputable abbrev ER:Stmt:=top 61
noncomputable abbrev GV:Stmt:=top 62
theorem lR:bootBuiltins "ValueError" = some (.type "ValueError"):=by decide +kernel
theorem CY:bootBuiltins "all" = some (.builtin "all"):=by decide +kernel
theorem HD:bootBuiltins "bool" = some (.type "bool"):=by decide +kernel
theorem rj:bootBuiltins "int" = some (.type "int"):=by decide +kernel
theorem cI:bootBuiltins "isinstance" = some (.builtin "isinstance"):=by decide +kernel
theorem bZ:bootBuiltins "len" = some (.builtin "len"):=by decide +kernel
theorem LW:bootBuiltins "max" = some (.builtin "max"):=by decide +kernel
theorem dE:bootBuiltins "str" = some (.type "str"):=by decide +kernel
theorem qN{i:Int}{t:Tok}:RelV (.int i) (.int i t):=⟨t,rfl⟩
theorem Ko{n:String}:RelV (.ty n) (.type n):=rfl
theorem Mb{x:Str}{t:Tok}:RelV (.str x) (.str x t):=⟨t,rfl⟩
structure Ad where
 JV:Addr
 qb:FuncData
 N9:Addr
 sd:FuncData
 HA:Addr
 qU:FuncData
 NC:Addr
 oA:FuncData
 Oz:Addr
 pZ:FuncData
 OK:Addr
 tK:FuncData
 NG:Addr
 sX:FuncData
 Pj:Addr
 p9:FuncData
 MP:Addr
 tj:FuncData
 N0:Addr
 rE:FuncData
 Of:Addr
 qW:FuncData
 MD:Addr
 m7:FuncData
 Mv:Addr
 pT:FuncData
 M4:Addr
 tL:FuncData
 Nq:Addr
 tE:FuncData
 NW:Addr
 sP:FuncData
 Pb:Addr
 n6:FuncData
 N7:Addr
 mW:FuncData
 Ow:Addr
 om:FuncData
 Oc:Addr
 nO:FuncData
 MO:Addr
 tN:FuncData
 MV:Addr
 nW:FuncData
 NU:Addr
 qy:FuncData
 MG:Addr
 qO:FuncData
 OF:Addr
 ot:FuncData
 MA:Addr
 rD:FuncData
 Og:Addr
 tG:FuncData
 Oq:Addr
 pJ:FuncData
 Ny:Addr
 m9:FuncData
 Nd:Addr
 o2:FuncData
 NR:Addr
 sk:FuncData
 NX:Addr
 o5:FuncData
 MU:Addr
 tZ:FuncData
 Nh:Addr
 mZ:FuncData
 MF:Addr
 qZ:FuncData
 NO:Addr
 rN:FuncData
 N6:Addr
 t7:FuncData
 Oa:Addr
 og:FuncData
 uF:Tok
 h7:Addr
 va:Tok
 vj:Tok
 gP:Addr
 iu:Addr
 kD:Addr
 lG:Addr
 gQ:Addr
 uL:Addr
 bI:Addr
 dF:Addr
 vf:Addr
 uz:Addr
 bt:Addr
 vh:Addr
 kH:Addr
 uI:Addr
 uN:Addr
 uA:Addr
 kJ:Addr
structure Txt(w:World)(K:Wf)(mg:So)(A:Ad):Prop where
 J0:keepIn K (.ref A.JV)=true
 By:Binds K A.qb ["self", "row"] []
 y9:eu K "__init__" "NoPiece.__init__" G4 A.JV A.qb
 JG:mg "rule_of" = some (.ref A.N9)
 Ft:keepIn K (.ref A.N9)=true
 C5:Binds K A.sd ["title"] []
 yN:eu K "rule_of" "rule_of" Gi A.N9 A.sd
 JK:keepIn K (.ref A.HA)=true
 kU:Binds K A.qU ["self", "title"] []
 zi:eu K "__init__" "Rule.__init__" EV A.HA A.qU
 yD:mg "is_name" = some (.ref A.NC)
 u3:keepIn K (.ref A.NC)=true
 vw:Binds K A.oA ["text"] []
 xI:eu K "is_name" "is_name" C7 A.NC A.oA
 xm:mg "number_of" = some (.ref A.Oz)
 vq:keepIn K (.ref A.Oz)=true
 uD:Binds K A.pZ ["text", "least", "most"] []
 yy:eu K "number_of" "number_of" CV A.Oz A.pZ
 JE:mg "step_in" = some (.ref A.OK)
 GQ:keepIn K (.ref A.OK)=true
 EC:Binds K A.tK ["text"] []
 xA:eu K "step_in" "step_in" CA A.OK A.tK
 J5:mg "is_title" = some (.ref A.NG)
 Gk:keepIn K (.ref A.NG)=true
 FR:Binds K A.sX ["text"] []
 yJ:eu K "is_title" "is_title" A8 A.NG A.sX
 xU:mg "read_piece" = some (.ref A.Pj)
 uu:keepIn K (.ref A.Pj)=true
 uT:Binds K A.p9 ["text"] []
 yK:eu K "read_piece" "read_piece" CT A.Pj A.p9
 JC:keepIn K (.ref A.MP)=true
 Br:Binds K A.tj ["self"] []
 zz:eu K "__init__" "Reading.__init__" D5 A.MP A.tj
 FA:keepIn K (.ref A.N0)=true
 Gn:Binds K A.rE ["self", "parts"] []
 ya:eu K "takes" "Reading.takes" C8 A.N0 A.rE
 Em:keepIn K (.ref A.Of)=true
 G2:Binds K A.qW ["self", "name"] []
 zJ:eu K "takes_piece" "Reading.takes_piece" Gr A.Of A.qW
 FV:keepIn K (.ref A.MD)=true
 Fw:Binds K A.m7 ["self", "kind", "text"] []
 zK:eu K "takes_stretch" "Reading.takes_stretch" DI A.MD A.m7
 Es:keepIn K (.ref A.Mv)=true
 Ct:Binds K A.pT ["self", "text"] []
 y6:eu K "takes_word" "Reading.takes_word" BC A.Mv A.pT
 Gd:keepIn K (.ref A.M4)=true
 CI:Binds K A.tL ["self", "soft", "rule", "name", "text"] []
 zo:eu K "takes_fill" "Reading.takes_fill" Bv A.M4 A.tL
 DQ:keepIn K (.ref A.Nq)=true
 EG:Binds K A.tE ["self", "sort", "name"] []
 xi:eu K "takes_told" "Reading.takes_told" BO A.Nq A.tE
 Jj:mg "shown_piece" = some (.ref A.NW)
 F1:keepIn K (.ref A.NW)=true
 DL:Binds K A.sP ["piece"] []
 xD:eu K "shown_piece" "shown_piece" Fo A.NW A.sP
 Jm:mg "name_rows" = some (.ref A.Pb)
 GI:keepIn K (.ref A.Pb)=true
 C_:Binds K A.n6 ["names"] []
 xp:eu K "name_rows" "name_rows" DY A.Pb A.n6
 Jl:mg "stretch_rows" = some (.ref A.N7)
 F_:keepIn K (.ref A.N7)=true
 BA:Binds K A.mW ["number", "stretch", "names"] []
 zg:eu K "stretch_rows" "stretch_rows" Bw A.N7 A.mW
 JQ:mg "fill_rows" = some (.ref A.Ow)
 BM:keepIn K (.ref A.Ow)=true
 Fe:Binds K A.om ["fills"] []
 xC:eu K "fill_rows" "fill_rows" B_ A.Ow A.om
 JX:mg "_law_whole" = some (.ref A.Oc)
 BU:keepIn K (.ref A.Oc)=true
 FL:Binds K A.nO ["_law_found"] []
 yH:eu K "_law_whole" "_law_whole" Ci A.Oc A.nO
 mS:mg "_law_cell_at" = some (.ref A.MO)
 lh:keepIn K (.ref A.MO)=true
 kN:Binds K A.tN ["_law_script", "_law_k"] []
 xk:eu K "_law_cell_at" "_law_cell_at" Fn A.MO A.tN
 vo:mg "_law_name_by" = some (.ref A.MV)
 mq:keepIn K (.ref A.MV)=true
 mE:Binds K A.nW ["_law_cell", "_law_k"] []
 xa:eu K "_law_name_by" "_law_name_by" Bs A.MV A.nW
 JR:mg "_law_add_by" = some (.ref A.NU)
 GN:keepIn K (.ref A.NU)=true
 GB:Binds K A.qy ["_law_number"] []
 yP:eu K "_law_add_by" "_law_add_by" D1 A.NU A.qy
 JW:mg "_law_fill_by" = some (.ref A.MG)
 Bf:keepIn K (.ref A.MG)=true
 Ex:Binds K A.qO ["_law_number", "_law_at", "_law_names_by"] []
 xb:eu K "_law_fill_by" "_law_fill_by" G3 A.MG A.qO
 JZ:mg "_law_fill_row" = some (.ref A.OF)
 Bg:keepIn K (.ref A.OF)=true
 BD:Binds K A.ot ["_law_fill"] []
 xH:eu K "_law_fill_row" "_law_fill_row" DZ A.OF A.ot
 EO:mg "_law_word_by" = some (.ref A.MA)
 ye:keepIn K (.ref A.MA)=true
 yr:Binds K A.rD ["_law_cell"] []
 zm:eu K "_law_word_by" "_law_word_by" Dt A.MA A.rD
 IP:mg "_law_put" = some (.ref A.Og)
 BS:keepIn K (.ref A.Og)=true
 Fz:Binds K A.tG ["_law_cell", "_law_names_by", "_law_stretches", "_law_told"] []
 za:eu K "_law_put" "_law_put" ES A.Og A.tG
 JJ:mg "_law_built" = some (.ref A.Oq)
 D3:keepIn K (.ref A.Oq)=true
 Bh:Binds K A.pJ ["_law_script"] []
 x_:eu K "_law_built" "_law_built" Ba A.Oq A.pJ
 JP:mg "_law_bad_number" = some (.ref A.Ny)
 GC:keepIn K (.ref A.Ny)=true
 Gz:Binds K A.m9 ["_law_number", "_law_name"] []
 yW:eu K "_law_bad_number" "_law_bad_number" Ee A.Ny A.m9
 Js:mg "_law_bad_name" = some (.ref A.Nd)
 CD:keepIn K (.ref A.Nd)=true
 BH:Binds K A.o2 ["_law_number", "_law_name"] []
 yf:eu K "_law_bad_name" "_law_bad_name" Gj A.Nd A.o2
 EE:mg "_law_odd_row" = some (.ref A.NR)
 xM:keepIn K (.ref A.NR)=true
 yL:Binds K A.sk ["_law_number", "_law_name"] []
 xT:eu K "_law_odd_row" "_law_odd_row" Bu A.NR A.sk
 JS:mg "_law_odd_first" = some (.ref A.NX)
 BW:keepIn K (.ref A.NX)=true
 Gx:Binds K A.o5 ["_law_number", "_law_name"] []
 yg:eu K "_law_odd_first" "_law_odd_first" GJ A.NX A.o5
 Jx:mg "_law_told_ahead" = some (.ref A.MU)
 D2:keepIn K (.ref A.MU)=true
 Ge:Binds K A.tZ ["_law_rows", "_law_at", "_law_number"] []
 yq:eu K "_law_told_ahead" "_law_told_ahead" BX A.MU A.tZ
 JL:mg "_law_spoiled" = some (.ref A.Nh)
 Dj:keepIn K (.ref A.Nh)=true
 Gv:Binds K A.mZ ["_law_rows", "_law_way", "_law_at", "_law_number"] []
 yQ:eu K "_law_spoiled" "_law_spoiled" Co A.Nh A.mZ
 Jf:mg "_law_told_of" = some (.ref A.MF)
 GS:keepIn K (.ref A.MF)=true
 Gw:Binds K A.qZ ["_law_text"] []
 zH:eu K "_law_told_of" "_law_told_of" Bm A.MF A.qZ
 Jc:mg "_law_refused" = some (.ref A.NO)
 DS:keepIn K (.ref A.NO)=true
 Be:Binds K A.rN ["_law_told", "_law_due"] []
 xf:eu K "_law_refused" "_law_refused" DU A.NO A.rN
 IW:mg "_law_holds" = some (.ref A.N6)
 CU:keepIn K (.ref A.N6)=true
 DX:Binds K A.t7 ["_law_rows", "_law_cell", "_law_other"] []
 yt:eu K "_law_holds" "_law_holds" ER A.N6 A.t7
 O7:mg "law" = some (.ref A.Oa)
 FN:keepIn K (.ref A.Oa)=true
 Jr:Binds K A.og ["_law_script"] []
 yS:eu K "law" "law" GV A.Oa A.og
 xY:mg "FIGURES" = some (.str "0123456789" A.uF)
 xn:mg "HOW_MANY_PARTS" = some (.ref A.h7)
 IY:zj w K A.h7 [(Sum.inr "piece", V.int 2),(Sum.inr "code", V.int 2),(Sum.inr "data", V.int 2),(Sum.inr "word", V.int 2),(Sum.inr "fill", V.int 4),(Sum.inr "soft", V.int 4),(Sum.inr "tell", V.int 2),(Sum.inr "weak", V.int 2),(Sum.inr "own", V.int 2)]
 zu:mg "LETTERS" = some (.str "abcdefghijklmnopqrstuvwxyz" A.va)
 zh:mg "NAME_SIGNS" = some (.str "abcdefghijklmnopqrstuvwxyz0123456789_" A.vj)
 dM:mg "ValueError" = none
 ur:mg "all" = none
 ro:mg "bool" = none
 cQ:mg "enumerate" = none
 ky:mg "int" = none
 bQ:mg "isinstance" = none
 cF:mg "len" = none
 yc:mg "max" = none
 hW:mg "range" = none
 dW:mg "str" = none
 yU:mg "High" = some (.ref A.gP)
 x8:ue K A.gP
 wA:mg "JoinError" = some (.ref A.iu)
 zw:mg "Lost" = some (.ref A.kD)
 Fv:mg "Low" = some (.ref A.lG)
 DB:ue K A.lG
 xZ:mg "Near" = some (.ref A.gQ)
 yw:ue K A.gQ
 B9:mg "NoBase" = some (.ref A.uL)
 wx:mg "NoPiece" = some (.ref A.bI)
 nR:mg "NoRule" = some (.ref A.dF)
 Bq:mg "NoSense" = some (.ref A.vf)
 GL:mg "NoWhole" = some (.ref A.uz)
 D6:mg "Reading" = some (.ref A.bt)
 aD:ue K A.bt
 Cs:mg "SameName" = some (.ref A.vh)
 B8:mg "Split" = some (.ref A.kH)
 BG:ue K A.kH
 F9:mg "TooFar" = some (.ref A.uI)
 D4:mg "Twice" = some (.ref A.uN)
 Bc:mg "Unmet" = some (.ref A.uA)
 BF:mg "Whole" = some (.ref A.kJ)
 Ei:ue K A.kJ
 kj:mroIn K A.dF (.ref A.dF)=some true
 Ie:hasDictIn K A.bI=true
 K4:kitOne K (.ref A.bI) (.ref A.bI)=some true
 Km:kitOne K (.ref A.bI) (.type "ValueError")=some true
 ka:kitAny K (.ref A.bI) [.ref A.kD,.ref A.uL,.ref A.dF,.ref A.vf,.ref A.uz,.ref A.vh,.ref A.uI,.ref A.uN,.ref A.uA]=some false
 mj:mroIn K A.bI (.ref A.iu)=some true
 Dn:findIn K (.ref A.dF) "__getattribute__" = some (some (.builtin "BaseException.__getattribute__"))
 BJ:findIn K (.ref A.dF) "__getattr__" = some none
 CL:findIn K (.ref A.dF) "__class__" = some (some (.builtin "object.__class__"))
 E_:mroIn K A.dF (.type "object")=some true
 Ec:mroIn K A.dF (.type "BaseException")=some true
 vR:findIn K (.ref A.bI) "__getattribute__" = some (some (.builtin "BaseException.__getattribute__"))
 v3:findIn K (.ref A.bI) "__getattr__" = some none
 wb:findIn K (.ref A.bI) "__class__" = some (some (.builtin "object.__class__"))
 vO:mroIn K A.bI (.type "object")=some true
 vK:mroIn K A.bI (.type "BaseException")=some true
 Fs:specialIn K (.builtin "object.__class__") "__get__" = some (some (.builtin "getset_descriptor.__get__"))
 Ed:takesIn K (.builtin "object.__class__")=some true
 wJ:excIn K A.dF [.type "ValueError", .type "Exception", .type "BaseException", .type "object"] "ValueError.__new__" = true
 wt:ownInit K A.bI A.JV=true
 vG:l8 K A.bI=true
 wk:findIn K (.ref A.bI) "__setattr__" = some (some (.builtin "object.__setattr__"))
 vH:readsIn K A.iu (.type "type")=true
 wj:findCls K (.ref A.iu) (.type "type") "__init__" = some (.val (.builtin "ValueError.__init__"))
 v8:specialIn K (.ref A.iu) "__getattribute__" = some (some (.builtin "type.__getattribute__"))
 vE:instIn K (.ref A.iu) (.type "tuple")=some false
 vL:mroIn K A.iu (.type "BaseException")=some true
 vW:instIn K (.ref A.dF) (.type "tuple")=some false
 v5:mroIn K A.dF (.type "BaseException")=some true
 sY:Hw K A.bI A.JV
 FZ:Jd K A.iu
 yu:Mk K A.gP A.HA
 Bx:Mk K A.lG A.HA
 zv:Mk K A.gQ A.HA
 Dz:Mk K A.bt A.MP
 FY:Mk K A.kH A.HA
 DT:Mk K A.kJ A.HA
 E6:Meth K A.bt "takes" A.N0
 Ef:Meth K A.bt "takes_fill" A.M4
 EF:Meth K A.bt "takes_piece" A.Of
 FP:Meth K A.bt "takes_stretch" A.MD
 CP:Meth K A.bt "takes_told" A.Nq
 F2:Meth K A.bt "takes_word" A.Mv
 d7:bF K A.bI "row"
 cO:bF K A.bt "name"
 bA:bF K A.bt "stretches"
 cU:bF K A.bt "names"
 ar:bF K A.bt "last_words"
 a8:bF K A.bt "last_fills"
 du:bF K A.bt "told"
 bB:bF K A.bt "behind_word"
 fe:bF K A.kJ "title"
 eO:bF K A.gP "title"
 fu:bF K A.lG "title"
 eP:bF K A.gQ "title"
 dJ:bF K A.kH "title"
theorem K3:aB ["self", "row"] ["self", "row"] (av G4):=by walk_at "F"
theorem Ma:aB ["title"] ["title"] (av Gi):=by walk_at "F"
theorem Lm:aB ["self", "title"] ["self", "title"] (av EV):=by walk_at "F"
theorem K7:aB ["text"] ["text"] (av C7):=by walk_at "F"
theorem vJ:aB ["text", "least", "most", "figures", "number"] ["text", "least", "most"] (av CV):=by walk_at "F"
theorem FI:aB ["text", "step"] ["text"] (av CA):=by walk_at "F"
theorem K8:aB ["text"] ["text"] (av A8):=by walk_at "F"
theorem sF:aB ["text", "reading", "number", "row"] ["text"] (av CT):=by walk_at "F"
theorem Lp:aB ["self"] ["self"] (av D5):=by walk_at "F"
theorem vV:aB ["self", "parts", "head", "behind_word"] ["self", "parts"] (av C8):=by walk_at "F"
theorem LL:aB ["self", "name"] ["self", "name"] (av Gr):=by walk_at "F"
theorem Ds:aB ["self", "kind", "text", "step"] ["self", "kind", "text"] (av DI):=by walk_at "F"
theorem D_:aB ["self", "text", "word"] ["self", "text"] (av BC):=by walk_at "F"
theorem DR:aB ["self", "soft", "rule", "name", "text", "add"] ["self", "soft", "rule", "name", "text"] (av Bv):=by walk_at "F"
theorem Lu:aB ["self", "sort", "name"] ["self", "sort", "name"] (av BO):=by walk_at "F"
theorem iE:aB ["piece", "name", "names", "rows", "number", "stretch"] ["piece"] (av Fo):=by walk_at "F"
theorem iN:aB ["names", "rows", "name", "sort", "stretch", "offset"] ["names"] (av DY):=by walk_at "F"
theorem f9:aB ["number", "stretch", "names", "kind", "step", "words", "fills", "rows", "at", "word"] ["number", "stretch", "names"] (av Bw):=by walk_at "F"
theorem gj:aB ["fills", "rows", "at", "rule", "name", "add", "soft", "head"] ["fills"] (av B_):=by walk_at "F"
theorem Le:aB ["_law_found"] ["_law_found"] (av Ci):=by walk_at "F"
theorem K0:aB ["_law_script", "_law_k"] ["_law_script", "_law_k"] (av Fn):=by walk_at "F"
theorem gu:aB ["_law_cell", "_law_k", "_law_signs", "_law_base", "_law_j", "_law_at", "_law_figures"] ["_law_cell", "_law_k"] (av Bs):=by walk_at "F"
theorem Lj:aB ["_law_number"] ["_law_number"] (av D1):=by walk_at "F"
theorem vX:aB ["_law_number", "_law_at", "_law_names_by", "_law_rule", "_law_soft"] ["_law_number", "_law_at", "_law_names_by"] (av G3):=by walk_at "F"
theorem LD:aB ["_law_fill"] ["_law_fill"] (av DZ):=by walk_at "F"
theorem Lf:aB ["_law_cell"] ["_law_cell"] (av Dt):=by walk_at "F"
theorem gw:aB ["_law_cell", "_law_names_by", "_law_stretches", "_law_told", "_law_number", "_law_kind", "_law_step", "_law_stretch", "_law_name", "_law_sort", "_law_rows"] ["_law_cell", "_law_names_by", "_law_stretches", "_law_told"] (av ES):=by walk_at "F"
theorem gk:aB ["_law_script", "_law_names_by", "_law_title", "_law_stretches", "_law_told", "_law_rows", "_law_cell"] ["_law_script"] (av Ba):=by walk_at "F"
theorem eo:aB ["_law_number", "_law_name", "_law_far", "_law_odd", "_law_some"] ["_law_number", "_law_name"] (av Ee):=by walk_at "F"
theorem gg:aB ["_law_number", "_law_name", "_law_long", "_law_some"] ["_law_number", "_law_name"] (av Gj):=by walk_at "F"
theorem LJ:aB ["_law_number", "_law_name"] ["_law_number", "_law_name"] (av Bu):=by walk_at "F"
theorem o_:aB ["_law_number", "_law_name", "_law_some"] ["_law_number", "_law_name"] (av GJ):=by walk_at "F"
theorem CF:aB ["_law_rows", "_law_at", "_law_number", "_law_some"] ["_law_rows", "_law_at", "_law_number"] (av BX):=by walk_at "F"
theorem kI:aB ["_law_rows", "_law_way", "_law_at", "_law_number", "_law_name", "_law_fill", "_law_more", "_law_again"] ["_law_rows", "_law_way", "_law_at", "_law_number"] (av Co):=by walk_at "F"
theorem oP:aB ["_law_text", "_law_told", "e"] ["_law_text"] (av Bm):=by walk_at "F"
theorem Ke:aB ["_law_told", "_law_due"] ["_law_told", "_law_due"] (av DU):=by walk_at "F"
theorem iC:aB ["_law_rows", "_law_cell", "_law_other", "_law_number", "_law_bad", "_law_due", "_law_behind"] ["_law_rows", "_law_cell", "_law_other"] (av ER):=by walk_at "F"
theorem lp:aB ["_law_script", "_law_rows", "_law_piece", "_law_text", "_law_k"] ["_law_script"] (av GV):=by walk_at "F"
theorem cK{CX P w K mg base N qual scope f cd Ar outer s H E}:(kT CX P w K mg base N qual scope f cd Ar outer s H E).K=K:=rfl
theorem bK{X:Cx}{N':List Str}{scope:Scope}{fp:List Addr}{s:Shared}{H:Hp}:(zM X N' scope fp s H).K=X.K:=rfl
theorem aH(a b:Str):(a++b).length=a.length+b.length:=Array.size_append
theorem vP{α:Type}{xs:List α}{i:Int}(h1 : -(xs.length:Int)<=i)(h2:i<xs.length):∃v,hG xs i=some v/\v∈xs:=by
 unfold hG A7;by_cases h0:0<=i
 ·have hl:i.toNat<xs.length:=by omega
  refine⟨xs[i.toNat],?_,List.getElem_mem hl⟩;rw[if_pos h0,if_pos h2];show xs[i.toNat]?=_;rw[A5 hl]
 ·have hl:(i+xs.length).toNat<xs.length:=by omega
  refine⟨xs[(i+xs.length).toNat],?_,List.getElem_mem hl⟩;rw[if_neg h0,if_pos h1];show xs[(i+xs.length).toNat]?=_;rw[A5 hl]
def RC(A:Ad)(C:Addr):Prop:=C=A.kJ\/C=A.gP\/C=A.lG\/C=A.gQ\/C=A.kH
noncomputable def mQ(A:Ad)(z:Str):Option Addr:=if z=Str.ofString "whole" then some A.kJ else if z=Str.ofString "high" then some A.gP else if z=Str.ofString "low" then some A.lG else if z=Str.ofString "near" then some A.gQ else if z=Str.ofString "split" then some A.kH else none
def wK(z:Str):Prop:=z=Str.ofString "whole" \/ z=Str.ofString "high" \/ z=Str.ofString "low" \/ z=Str.ofString "near" \/ z=Str.ofString "split"
def Kh(C:Addr)(z:Str)(H:Hp)(p:Addr):Prop:=∃dx,H p=some (.ins C dx [("title", .str z)])
def Io(A:Ad):Sp:=λvs H Q _=>∃(p dx C:Addr) (x:V),vs=[.ref p,x]/\H p=some (.ins C dx [])/\RC A C/\Q .aF (upd H p (.ins C dx [("title", x)]))
def HZ(A:Ad):Sp:=λvs H Q E=>∃z:Str,vs=[.str z]/\z.length<=600/\Sg z/\(∀C,mQ A z=some C->∀p H',aA H H'->Kh C z H' p->Q (.ref p) H')/\(mQ A z=none->E (.ref A.dF) none H)
noncomputable def z6(j i:Str):Bool := !(Builtin.Str.occurrences j i 0 j.length 1).isEmpty
noncomputable def isNm(z:Str):Bool:=decide (1<=z.length)&&decide (z.length<=16)&&(z.cps.toList.take 1).all (λc=>z6 "abcdefghijklmnopqrstuvwxyz" ⟨#[c]⟩)&&z.cps.toList.all (λc=>z6 "abcdefghijklmnopqrstuvwxyz0123456789_" ⟨#[c]⟩)
def NT:Sp:=λvs H Q _=>∃z:Str,vs=[.str z]/\z.length<=600/\∀H',aA H H'->Q (.bl (isNm z)) H'
def KC:Sp:=λvs H Q _=>∃(z:Str) (lo hi:Int),vs=[.str z,.int lo,.int hi]/\z.length<=600/\∀H',aA H H'->Q (cx z lo hi) H'
noncomputable def c7(z:Str):V:=match cx z 1 65536 with | .int n=>if Builtin.bitAnd n (n - 1)=0 then .int n else .aF | _=>.aF
def GY:Sp:=λvs H Q _=>∃z:Str,vs=[.str z]/\z.length<=600/\∀H',aA H H'->Q (c7 z) H'
noncomputable def nS(n:Int):Str:=Str.ofString (toString n)
instance (z:Str):Decidable (wK z):=by unfold wK;exact inferInstance
def vY:Sp:=λvs H Q _=>∃z:Str,vs=[.str z]/\z.length<=600/\Sg z/\∀H',aA H H'->Q (.bl (decide (wK z))) H'
structure Pd where
 p:Addr
 dx:Addr
 nm:V
 ls:Addr
 ln:Addr
 lw:V
 lf:V
 td:Addr
 bw:Bool
noncomputable def Pd.fs(R:Pd):List (Str×V):=[("name", R.nm),("stretches", .ref R.ls),("names", .ref R.ln),("last_words", R.lw),("last_fills", R.lf),("told", .ref R.td),("behind_word", .bl R.bw)]
def A9(A:Ad):Sp:=λvs H Q _=>∃p dx:Addr,vs=[.ref p]/\H p=some (.ins A.bt dx [])/\
 ∀a b d H',a≠b->H a=none->H b=none->H d=none->(∀x o,x≠p->H x=some o->H' x=some o)->H' a=some (.lst [])->H' b=some (.lst [])->H' d=some (.dK [])->
  H' p=some (.ins A.bt dx (Pd.fs ⟨p,dx,.aF,a,b,.aF,.aF,d,false⟩))->Q .aF H'
def zS(A:Ad):Sp:=λvs H Q _=>∃(R:Pd) (z:Str),vs=[.ref R.p,.str z]/\H R.p=some (.ins A.bt R.dx R.fs)/\z.length<=600/\
 ((isNm z=true/\∀H',(∀x o,x≠R.p->H x=some o->H' x=some o)->H' R.p=some (.ins A.bt R.dx (Pd.fs { R with nm:=.str z }))->Q (.bl true) H')\/(isNm z=false/\∀H',aA H H'->Q (.bl false) H'))
def Lb(A:Ad):Sp:=λvs H Q _=>∃(R:Pd) (kd z:Str) (xs:List V),vs=[.ref R.p,.str kd,.str z]/\H R.p=some (.ins A.bt R.dx R.fs)/\H R.ls=some (.lst xs)/\xs.length<=1000/\z.length<=600/\
 ((∃n,c7 z=.int n/\∀lw lf t H',lw≠lf->H lw=none->H lf=none->H t=none->(∀x o,x≠R.p->x≠R.ls->H x=some o->H' x=some o)->H' lw=some (.lst [])->H' lf=some (.lst [])->H' t=some (.tup [.str kd,.int n,.ref lw,.ref lf])->H' R.ls=some (.lst (xs++[.ref t]))->
  H' R.p=some (.ins A.bt R.dx (Pd.fs { R with lw:=.ref lw,lf:=.ref lf }))->Q (.bl true) H')\/(c7 z=.aF/\∀H',aA H H'->Q (.bl false) H'))
def BE(A:Ad):Sp:=λvs H Q _=>∃(R:Pd) (z:Str) (l:Addr) (ws:List V),vs=[.ref R.p,.str z]/\H R.p=some (.ins A.bt R.dx R.fs)/\R.lw=.ref l/\H l=some (.lst ws)/\ws.length<=1000/\z.length<=600/\
 ((∃n,cx z 0 4294967295=.int n/\∀H',(∀x o,x≠l->H x=some o->H' x=some o)->H' l=some (.lst (ws++[.int n]))->Q (.bl true) H')\/(cx z 0 4294967295=.aF/\∀H',aA H H'->Q (.bl false) H'))
def fL(soft:Bool)(r:Str):Prop:=soft=true/\(r=Str.ofString "near" \/ r=Str.ofString "split")
def Ej(A:Ad):Sp:=λvs H Q _=>∃(R:Pd) (soft:Bool) (r nm z:Str) (l l2:Addr) (ws gs:List V),vs=[.ref R.p,.bl soft,.str r,.str nm,.str z]/\H R.p=some (.ins A.bt R.dx R.fs)/\R.lw=.ref l/\H l=some (.lst ws)/\R.lf=.ref l2/\H l2=some (.lst gs)/\ws.length<=1000/\gs.length<=1000/\z.length<=600/\nm.length<=600/\r.length<=600/\Sg r/\
 ((∃ n, cx z (-2147483648) 2147483647 = .int n /\ wK r /\ isNm nm = true /\ ¬ fL soft r /\ ∀ t H', H t = none -> (∀ x o, x ≠ l2 -> H x = some o -> H' x = some o) -> H' t = some (.tup [.int ((ws.length : Int) - 1), .str r, .str nm, .int n, .bl soft]) -> H' l2 = some (.lst (gs ++ [.ref t])) -> Q (.bl true) H') \/
  ((cx z (-2147483648) 2147483647=.aF\/¬wK r\/isNm nm=false\/fL soft r)/\∀H',aA H H'->Q (.bl false) H'))
def EU(A:Ad):Sp:=λvs H Q _=>∃(R:Pd) (sort nm:Str) (l:Addr) (ws xs ns:List V) (kvs:List (Key×V)),vs=[.ref R.p,.str sort,.str nm]/\H R.p=some (.ins A.bt R.dx R.fs)/\R.lw=.ref l/\H l=some (.lst ws)/\H R.ls=some (.lst xs)/\H R.ln=some (.lst ns)/\H R.td=some (.dK kvs)/\ns.length<=1000/\kvs.length<=1000/\nm.length<=600/\
 ((aS kvs (.inr nm) = none /\ isNm nm = true /\ ∀ t H', H t = none -> (∀ x o, x ≠ R.ln -> x ≠ R.td -> H x = some o -> H' x = some o) -> H' R.td = some (.dK (putK kvs (.inr nm) (.bl true))) -> H' t = some (.tup [.str nm, .str sort, .int ((xs.length : Int) - 1), .int (ws.length : Int)]) -> H' R.ln = some (.lst (ns ++ [.ref t])) -> Q (.bl true) H') \/
  (((aS kvs (.inr nm)).isSome=true\/isNm nm=false)/\∀H',aA H H'->Q (.bl false) H'))
noncomputable abbrev fW:=Int×Str×Str×Int×Bool
noncomputable abbrev lO:=Str×Int×List Int×List fW
noncomputable abbrev cq:=Str×Str×Int×Int
noncomputable def fC(f:aW):fW:=(f.at_,f.rule,f.name,f.add,f.soft)
noncomputable def sC(s:bT):lO:=(s.kind,s.step,s.words,s.fills.map fC)
noncomputable def nC(n:aX):cq:=(n.name,n.sort,n.st,n.off)
set_option genInjectivity true in
inductive aq where
 |aV (nm:Str)
 |st (kd:Str) (s:Int)
 |word (n:Int)
 |fill (soft:Bool) (r nm:Str) (add:Int)
 |told (sort nm:Str)
noncomputable def aq.parts:aq->List Str
 |.aV nm=>["piece", nm]
 |.st kd s=>[kd,nS s]
 |.word n=>["word", nS n]
 |.fill soft r nm add=>[if soft=true then "soft" else "fill", r,nm,nS add]
 |.told sort nm=>[sort,nm]
structure RP where
 nm:Option Str
 az:List lO
 aK:List cq
 bw:Bool
noncomputable def cj{α:Type}(f:α->α):List α->List α
 |[]=>[]
 |[x]=>[f x]
 |x::r=>x::cj f r
noncomputable def bV(n:Int)(x:lO):lO:=(x.1,x.2.1,x.2.2.1++[n],x.2.2.2)
noncomputable def cW(soft:Bool)(r nm:Str)(add:Int)(x:lO):lO:=(x.1,x.2.1,x.2.2.1,x.2.2.2++[((x.2.2.1.length:Int) - 1,r,nm,add,soft)])
noncomputable def cw(S:RP):Int:=match S.az.getLast? with | none=>0 | some x=>(x.2.2.1.length:Int)
noncomputable def RP.next(S:RP):aq->RP
 |.aV nm=>{ S with nm:=some nm,bw:=false }
 |.st kd s=>{ S with az:=S.az++[(kd,s,[],[])],bw:=false }
 |.word n=>{ S with az:=cj (bV n) S.az,bw:=true }
 |.fill soft r nm add=>{ S with az:=cj (cW soft r nm add) S.az,bw:=false }
 |.told sort nm=>{ S with aK:=S.aK++[(nm,sort,(S.az.length:Int) - 1,cw S)],bw:=false }
structure Pd.Ok(A:Ad)(H0 H:Hp)(R:Pd)(q:a7)(S:RP)(m:Nat):Prop where
 sm:aA H0 H
 f:H0 R.p=none/\H0 R.td=none
 fl:∀b∈q.lists,H0 b=none
 top:H R.p=some (.ins A.bt R.dx R.fs)
 nm:R.nm=match S.nm with | none=>.aF | some z=>.str z
 ql:q.ls=R.ls/\q.ln=R.ln
 pr:Pr H q
 az:q.az.map sC=S.az
 aK:q.aK.map nC=S.aK
 lw:R.lw=match q.az.getLast? with | none=>.aF | some s=>.ref s.lw
 lf:R.lf=match q.az.getLast? with | none=>.aF | some s=>.ref s.lf
 td:H R.td=some (.dK (S.aK.map λn=>(Sum.inr n.1,V.bl true)))
 bw:R.bw=S.bw
 n1:q.az.length<=m/\q.aK.length<=m/\∀s∈q.az,s.words.length<=m/\s.fills.length<=m
def bN(z:Str):Prop:=z=Str.ofString "tell" \/ z=Str.ofString "weak" \/ z=Str.ofString "own"
def e8(z:Str):Prop:=z=Str.ofString "code" \/ z=Str.ofString "data"
noncomputable def RP.dw(S:RP):aq->Prop
 |.aV nm=>S.nm=none/\isNm nm=true
 |.st kd s=>S.nm≠none/\e8 kd/\c7 (nS s)=.int s
 |.word n=>S.nm≠none/\S.az≠[]/\0<=n/\n<=4294967295
 |.fill soft r nm add=>S.nm≠none/\S.az≠[]/\S.bw=true/\wK r/\isNm nm=true/\¬fL soft r /\ -2147483648<=add/\add<=2147483647
 |.told sort nm=>S.nm≠none/\S.az≠[]/\bN sort/\isNm nm=true/\nm∉S.aK.map (·.1)
noncomputable def dO:List (Key×V):=[(Sum.inr (Str.ofString "piece"),V.int 2),(Sum.inr (Str.ofString "code"),V.int 2),(Sum.inr (Str.ofString "data"),V.int 2),(Sum.inr (Str.ofString "word"),V.int 2),(Sum.inr (Str.ofString "fill"),V.int 4),(Sum.inr (Str.ofString "soft"),V.int 4),(Sum.inr (Str.ofString "tell"),V.int 2),(Sum.inr (Str.ofString "weak"),V.int 2),(Sum.inr (Str.ofString "own"),V.int 2)]
set_option genInjectivity true in
inductive dN (S:RP):List Str->Prop where
 |len {h:Str}{r:List Str}:(aS dO (.inr h)).getD .aF≠V.int ((h::r).length:Int)->dN S (h::r)
 |first {h:Str}{r:List Str}:¬(h=Str.ofString "piece" ↔ S.nm=none)->dN S (h::r)
 |aV {a:Str}:isNm a=false->dN S [Str.ofString "piece", a]
 |st {k a:Str}:e8 k->c7 a=.aF->dN S [k,a]
 |empty {h:Str}{r:List Str}:S.az=[]->¬e8 h->h≠Str.ofString "piece" -> dN S (h::r)
 |word {a:Str}:cx a 0 4294967295=.aF->dN S [Str.ofString "word", a]
 |fill {h a b c:Str}:(h=Str.ofString "fill" \/ h=Str.ofString "soft")->(S.bw=false\/cx c (-2147483648) 2147483647=.aF\/¬wK a\/isNm b=false\/fL (decide (h=Str.ofString "soft")) a)->dN S [h,a,b,c]
 |told {h a:Str}:bN h->(a∈S.aK.map (·.1)\/isNm a=false)->dN S [h,a]
def Th(A:Ad)(H0:Hp)(R:Pd)(S:RP)(m:Nat)(ps:List Str)(Q:VK):Prop:=
 (∃r:aq,ps=r.parts/\S.dw r/\∀(R':Pd) (q':a7) (H':Hp),R'.p=R.p->Pd.Ok A H0 H' R' q' (S.next r) (m+1)->Q (.bl true) H')\/(dN S ps/\∀H',aA H0 H'->Q (.bl false) H')
def zO(A:Ad):Sp:=λvs H Q _=>∃(H0:Hp) (R:Pd) (q:a7) (l:Addr) (h:Str) (ps:List Str) (S:RP) (m:Nat),vs=[.ref R.p,.ref l]/\H l=some (.lst ((h::ps).map V.str))/\Pd.Ok A H0 H R q S m/\m<=400/\(∀p∈h::ps,p.length<=600/\Sg p)/\Th A H0 R S m (h::ps) Q
def kA(A:Ad):TS:=λD σ H=>∃(H0:Hp) (R:Pd) (q:a7) (l:Addr) (h:Str) (ps:List Str) (S:RP) (m:Nat),σ=[some (.ref R.p),some (.ref l),some (.str h),some (.bl S.bw)]/\H l=some (.lst ((h::ps).map V.str))/\Pd.Ok A H0 H R q { S with bw:=decide (h=Str.ofString "word") } m/\m<=400/\(∀p∈h::ps,p.length<=600/\Sg p)/\(aS dO (.inr h)).getD .aF=.int ((h::ps).length:Int)/\(h=Str.ofString "piece" ↔ S.nm=none)/\Th A H0 R S m (h::ps) D.rt
def xh(p:Int):Prop := -(10 ^ 70)<=p/\p<=10 ^ 70
noncomputable def PM(p:Int):HO:=.xd [("row", .int p)]
def Aq(A:Ad):Sp:=λvs H Q _=>∃(a:Addr) (p:Int),vs=[.ref a,.int p]/\H a=some (XN a A.bI none)/\xh p/\
 ∀d H',H d=none->d≠a->(∀b o,b≠a->H b=some o->H' b=some o)->H' a=some (XN a A.bI (some d))->H' d=some (XD d [("row", .int p)])->Q .aF H'
noncomputable def ak(r:aq):Str:=Txt.join (Str.ofString " ") r.parts
noncomputable def lN:RP:=⟨none,[],[],false⟩
noncomputable def bO(rows:List aq)(i:Nat):RP:=(rows.take i).foldl RP.next lN
def ua(p:Str):Prop:=p.length<=241/\10∉p.cps.toList/\32∉p.cps.toList/\Sg p
def aq.Small(r:aq):Prop:=∀p∈r.parts,ua p
structure gb(ts:List Str)(good:List aq)(b:Str)(rest:List Str):Prop where
 eq:ts=good.map ak++b::rest
 small:∀r∈good,r.Small
 takes:∀(i:Nat) (r:aq),good[i]?=some r->(bO good i).dw r
 bad:dN (bO good good.length) (Txt.split b (Str.ofString " "))
 nl:∀t∈ts,10∉t.cps.toList
 len:∀t∈ts,t.length<=1000
 n:ts.length<=300
 bl:∀p∈Txt.split b (Str.ofString " "),p.length<=600/\Sg p
def Gp(A:Ad):Sp:=λvs H Q E=>(∃rows:List aq,vs=[.str (Txt.join (Str.ofString "\n") (rows.map ak))]/\rows≠[]/\rows.length<=300/\(∀r∈rows,r.Small)/\(∀(i:Nat) (r:aq),rows[i]?=some r->(bO rows i).dw r)/\
 ∀(t:Addr) (R:Pd) (q:a7) (H':Hp),aA H H'->H' t=some (.tup [R.nm,.ref R.ls,.ref R.ln])->Pd.Ok A H H' R q (bO rows rows.length) rows.length->Q (.ref t) H') \/
 ∃(ts:List Str) (good:List aq) (b:Str) (rest:List Str),vs=[.str (Txt.join (Str.ofString "\n") ts)]/\gb ts good b rest/\
 ∀d H',aA H H'->H' d=some (PM ((good.length:Int)+1))->E (.ref A.bI) (some d) H'
def DF:Sp:=λvs H Q _=>∃n:Int,vs=[.int n]/\Q (.bl true) H
def Ax(K:Wf):Sp:=λvs H Q _=>∃(a:Addr) (ns:List Int) (k:Int),vs=[.ref a,.int k]/\aC K H a (ns.map V.int)/\0<=k/\∀m:Int,Q (.int m) H
def CB:Sp:=λvs H Q _=>∃c:Int,vs=[.int c]/\∀(m:Int) (H':Hp),aA H H' -> -2147483648<=m->m<=2147483647->Q (.int m) H'
noncomputable def cm(c:Int):Int:=if c/8%5=0 then (if c/40%2=0 then 0 else 4294967295) else c*48271%4294967296
def vT:Sp:=λvs H Q _=>∃c:Int,vs=[.int c]/\∀H',aA H H'->Q (.int (cm c)) H'
def Dx:Sp:=λvs H Q _=>∃c k:Int,vs=[.int c,.int k]/\∀(z:Str) (H':Hp),aA H H'->isNm z=true->Q (.str z) H'
structure u7(f:aW):Prop where
 rule:wK f.rule
 name:isNm f.name=true
 lo : -2147483648<=f.add
 hi:f.add<=2147483647
 soft:¬fL f.soft f.rule
def Ag:Sp:=λvs H Q _=>∃n at_ nb:Int,vs=[.int n,.int at_,.int nb]/\∀(f:aW) (H':Hp),aA H H'->f.At H'->H f.a=none->f.at_=at_->u7 f->Q f.v H'
def wY:Sp:=λvs H Q _=>∃f:aW,vs=[f.v]/\f.At H/\u7 f/\∀H',aA H H'->Q (.str (ak (.fill f.soft f.rule f.name f.add))) H'
noncomputable def RP.bj:RP->List aq->Prop
 |_,[]=>True
 |S,r::rs=>S.dw r/\RP.bj (S.next r) rs
structure PB(H:Hp)(q:a7)(S:RP)(m:Nat):Prop where
 pr:Pr H q
 az:q.az.map sC=S.az
 aK:q.aK.map nC=S.aK
 nm:S.nm=some q.name
 n1:q.az.length<=m/\q.aK.length<=m/\∀s∈q.az,s.words.length<=m/\s.fills.length<=m
structure N2(H:Hp)(q:a7)(S:RP)(m:Nat)(H':Hp)(q':a7)(l:Addr)(rows:List aq):Prop where
 ids:q'.ls=q.ls/\q'.ln=q.ln/\q'.t=q.t/\q'.name=q.name
 fr:∀x o,x∉q.lists->H x=some o->H' x=some o
 nw:∀x∈q'.lists,x∈q.lists\/H x=none
 top:H' l=some (.lst (rows.map λr=>V.str (ak r)))
 fl:H l=none
 nl:l∉q'.lists
 n2:rows.length<=2
 tk:S.bj rows
 pb:PB H' q' (rows.foldl RP.next S) (m+1)
def Ij:Sp:=λvs H Q _=>∃(c nb:Int) (q:a7) (S:RP) (m:Nat),vs=[.int c,.int nb,.ref q.ls,.ref q.ln]/\PB H q S m/\m<=400/\
 ∀(q':a7) (l:Addr) (rows:List aq) (H':Hp),N2 H q S m H' q' l rows->Q (.ref l) H'
def PL(H:Hp)(q:a7)(S:RP)(m:Nat)(Q:VK):Prop:=∀(q':a7) (l:Addr) (rows:List aq) (H':Hp),N2 H q S m H' q' l rows->Q (.ref l) H'
def TX:TS:=λD σ H=>∃(c nb n:Int) (q:a7) (S:RP) (m:Nat) (H0:Hp) (b5 b6 b7 b8 b9 b10:Option V),σ=[some (.int c),some (.int nb),some (.ref q.ls),some (.ref q.ln),some (.int n),b5,b6,b7,b8,b9,b10]/\aA H0 H/\PB H0 q S m/\m<=400/\PL H0 q S m D.rt
def TL:TS:=λD σ H=>∃(c nb n:Int) (q:a7) (S:RP) (m:Nat) (H0:Hp) (b5 b6 b7 b8 b9 b10:Option V),σ=[some (.int c),some (.int nb),some (.ref q.ls),some (.ref q.ln),some (.int n),b5,b6,b7,b8,b9,b10]/\aA H0 H/\PB H0 q S m/\m<=400/\q.az≠[]/\PL H0 q S m D.rt
def SS:TS:=λD σ H=>∃(c nb n:Int) (q:a7) (S:RP) (m:Nat) (H0:Hp) (ss:List bT) (s:bT) (b5 b6 b8 b9 b10:Option V),σ=[some (.int c),some (.int nb),some (.ref q.ls),some (.ref q.ln),some (.int n),b5,b6,some (.ref s.t),b8,b9,b10]/\aA H0 H/\PB H0 q S m/\m<=400/\q.az=ss++[s]/\PL H0 q S m D.rt
def TY:TS:=λD σ H=>∃(c nb n:Int) (q:a7) (S:RP) (m:Nat) (H0:Hp) (ss:List bT) (s:bT) (l:Addr) (fs:List aW) (rows:List aq) (b5 b6 b8 b9:Option V),σ=[some (.int c),some (.int nb),some (.ref q.ls),some (.ref q.ln),some (.int n),b5,b6,some (.ref s.t),b8,b9,some (.ref l)]/\
 q.az=ss++[s]/\PB H0 q S m/\m<=400/\Pr H { q with az:=ss++[{ s with fills:=s.fills++fs }] }/\(∀x o,x≠s.lf->H0 x=some o->H x=some o)/\H l=some (.lst (rows.map λr=>V.str (ak r)))/\H0 l=none/\
 ((fs=[]/\rows=[.word (cm c)])\/∃f,fs=[f]/\u7 f/\f.at_=(s.words.length:Int)/\rows=[.word (cm c),.fill f.soft f.rule f.name f.add])/\PL H0 q S m D.rt
structure gS(H H':Hp)(pr:Addr)(q:a7)(rows:List aq):Prop where
 sm:aA H H'
 RU:H' pr=some (.lst (rows.map λr=>V.str (ak r)))
 at_:q.At H'
 nd:q.lists.Nodup
 fl:∀b∈q.lists,H b=none
 ne:rows≠[]
 len:rows.length<=130
 tk:lN.bj rows
 run:∃bw,bO rows rows.length=⟨some q.name,q.az.map sC,q.aK.map nC,bw⟩
 n1:q.az.length<=100/\q.aK.length<=100/\∀s∈q.az,s.words.length<=100/\s.fills.length<=100
 hd:∃z r,rows=.aV z::r
def Ai(K:Wf):Sp:=λvs H Q _=>∃(a:Addr) (ns:List Int),vs=[.ref a]/\aC K H a (ns.map V.int)/\ns.length<=63/\∀(t pr:Addr) (q:a7) (rows:List aq) (H':Hp),H' t=some (.tup [.ref pr,.ref q.t])->gS H H' pr q rows->Q (.ref t) H'
structure Rr(H0 H:Hp)(p q:a7):Prop where
 at_:p.At H
 d:p.d=q.d
 nd:p.lists.Nodup
 fl:∀b∈p.lists,H0 b=none
 n1:p.az.length<=400
 n2:p.aK.length<=400
 n3:∀s∈p.az,s.words.length<=400/\s.fills.length<=400
 len:p.az.length=q.az.length
noncomputable def bq(ns:List cq)(a b:Int):List aq:=(ns.filter λn=>decide (n.2.2.1=a)&&decide (n.2.2.2=b)).map λn=>.told n.2.1 n.1
noncomputable def c6(fs:List fW)(a:Int):List aq:=fs.foldl (λacc f=>if f.1=a then [.fill f.2.2.2.2 f.2.1 f.2.2.1 f.2.2.2.1] else acc) []
noncomputable def bL(ns:List cq)(i:Int)(x:lO)(j:Nat):List aq:=(List.range j).flatMap λk:Nat=>bq ns i (k:Int)++.word (x.2.2.1.getD k 0)::c6 x.2.2.2 (k:Int)
noncomputable def bJ(ns:List cq)(i:Int)(x:lO):List aq:=.st x.1 x.2.1::(bL ns i x x.2.2.1.length++bq ns i (x.2.2.1.length:Int))
noncomputable def aR(ns:List cq):Int->List lO->List aq
 |_,[]=>[]
 |i,x::r=>bJ ns i x++aR ns (i+1) r
noncomputable def gv(nm:Str)(az:List lO)(ns:List cq):List aq:=.aV nm::aR ns 0 az
structure Mr(pre:List aq)(S:RP):Prop where
 rows:pre=aR S.aK 0 S.az
 n1:∀n∈S.aK,n.2.2.1<(S.az.length:Int)
 n2:∀n∈S.aK,n.2.2.1=(S.az.length:Int) - 1->n.2.2.2<=cw S
 f1:∀x∈S.az.getLast?,∀f∈x.2.2.2,f.1<(x.2.2.1.length:Int)
 bw:S.bw=true->(∀n∈S.aK,n.2.2.1=(S.az.length:Int) - 1->n.2.2.2<cw S)/\∀x∈S.az.getLast?,1<=x.2.2.1.length/\∀f∈x.2.2.2,f.1<(x.2.2.1.length:Int) - 1
def HC(H:Hp)(o:Option V)(rs:List aq):Prop:=(o=none/\rs=[])\/∃l,o=some (.ref l)/\H l=some (.lst (rs.map λr=>V.str (ak r)))
def Rt(H:Hp)(kvs:List (List Key×V))(ns:List cq):Prop:=∀a b:Int,HC H (aS kvs [.inl a,.inl b]) (bq ns a b)
def QR(H:Hp)(kvs:List (Key×V))(fs:List fW):Prop:=∀a:Int,HC H (aS kvs (.inl a)) (c6 fs a)
def yT(n:aX):Prop:=isNm n.name=true/\bN n.sort
structure Rb(s:bT):Prop where
 kind:e8 s.kind
 s1:1<=s.step
 s2:s.step<=65536
 wd:∀u∈s.words,0<=u/\u<=4294967295
 fl:∀f∈s.fills,u7 f
structure PU(H:Hp)(p:a7):Prop where
 at_:p.At H
 nm:isNm p.name=true
 ss:∀s∈p.az,Rb s
 ns:∀n∈p.aK,yT n
 len:(gv p.name (p.az.map sC) (p.aK.map nC)).length<=300
 n1:p.az.length<=400/\p.aK.length<=400/\∀s∈p.az,s.words.length<=400/\s.fills.length<=400
noncomputable def GX(p:a7):Str:=Txt.join (Str.ofString "\n") ((gv p.name (p.az.map sC) (p.aK.map nC)).map ak)
def Ah:Sp:=λvs H Q _=>∃(b:Addr) (ns:List aX),vs=[.ref b]/\H b=some (.lst (ns.map aX.v))/\(∀n∈ns,n.At H/\yT n)/\ns.length<=400/\∀d kvs H',aA H H'->H' d=some (.dT kvs)->Rt H' kvs (ns.map nC)->Q (.ref d) H'
def AO:Sp:=λvs H Q _=>∃(b:Addr) (fs:List aW),vs=[.ref b]/\H b=some (.lst (fs.map aW.v))/\(∀f∈fs,f.At H/\u7 f)/\fs.length<=400/\∀d kvs H',aA H H'->H' d=some (.dK kvs)->QR H' kvs (fs.map fC)->Q (.ref d) H'
def AG:Sp:=λvs H Q _=>∃(i:Int) (s:bT) (d:Addr) (kvs:List (List Key×V)) (ns:List cq),vs=[.int i,s.v,.ref d]/\s.At H/\Rb s/\H d=some (.dT kvs)/\Rt H kvs ns/\s.fills.length<=400/\s.words.length<=400/\(bJ ns i (sC s)).length<=300/\
 ∀l H',aA H H'->H l=none->H' l=some (.lst ((bJ ns i (sC s)).map λr=>V.str (ak r)))->Q (.ref l) H'
def Aj:Sp:=λvs H Q _=>∃p:a7,vs=[p.v]/\PU H p/\∀H',aA H H'->Q (.str (GX p)) H'
def Tj:TE:=λσ H Q=>∃so z:Str,σ[3]?=some (some (.str so))/\σ[2]?=some (some (.str z))/\so.length<=600/\z.length<=600/\Q (.str (ak (.told so z))) H
def Tp:TE:=λσ H Q=>∃(hd r z:Str) (n:Int),σ[7]?=some (some (.str hd))/\σ[3]?=some (some (.str r))/\σ[4]?=some (some (.str z))/\σ[5]?=some (some (.int n))/\hd.length<=300/\r.length<=300/\z.length<=300/\xh n/\Q (.str (hd++Str.ofString " " ++ r++Str.ofString " " ++ z++Str.ofString " " ++ nS n)) H
def Ti:TE:=λσ H Q=>∃(kd:Str) (n:Int),σ[3]?=some (some (.str kd))/\σ[4]?=some (some (.int n))/\kd.length<=300/\xh n/\Q (.str (ak (.st kd n))) H
def SE:TE:=λσ H Q=>∃n:Int,σ[9]?=some (some (.int n))/\xh n/\Q (.str (ak (.word n))) H
def S_:TE:=λσ H Q=>∃z:Str,σ[1]?=some (some (.str z))/\z.length<=300/\Q (.str (ak (.aV z))) H
structure As(S:RP):Prop where
 nm:∀z,S.nm=some z->isNm z=true
 st:∀x∈S.az,e8 x.1/\(1<=x.2.1/\x.2.1<=65536)/\(∀u∈x.2.2.1,0<=u/\u<=4294967295)/\∀f∈x.2.2.2,wK f.2.1/\isNm f.2.2.1=true /\ -2147483648<=f.2.2.2.1/\f.2.2.2.1<=2147483647/\¬fL f.2.2.2.2 f.2.1
 ns:∀n∈S.aK,isNm n.1=true/\bN n.2.1
def fD(B:List Str->Prop)(z:Str):Prop:=z.length<=1000/\10∉z.cps.toList/\(∀p∈Txt.split z (Str.ofString " "),p.length<=600/\Sg p)/\B (Txt.split z (Str.ofString " "))
noncomputable abbrev Ab(z:Str):Prop:=fD (λps=>∀S:RP,dN S ps) z
noncomputable abbrev M5(z:Str):Prop:=fD (dN lN) z
def AQ:Sp:=λvs H Q _=>∃(n:Int) (nm:Str),vs=[.int n,.str nm]/\0<=n/\n<=2147483647/\isNm nm=true/\∀z H',aA H H'->Ab z->Q (.str z) H'
def wg:Sp:=λvs H Q _=>∃(n:Int) (nm:Str),vs=[.int n,.str nm]/\0<=n/\n<=2147483647/\isNm nm=true/\∀z H',aA H H'->Ab z->Q (.str z) H'
def AR:Sp:=λvs H Q _=>∃(n:Int) (nm:Str),vs=[.int n,.str nm]/\0<=n/\n<=2147483647/\isNm nm=true/\∀z H',aA H H'->Ab z->Q (.str z) H'
def zX:Sp:=λvs H Q _=>∃(n:Int) (nm:Str),vs=[.int n,.str nm]/\0<=n/\n<=2147483647/\isNm nm=true/\∀z H',aA H H'->M5 z->Q (.str z) H'
def z8(B:List Str->Prop)(N:Nat)(H0 H:Hp)(Q:VK)(p:Addr)(zs:List Str):Prop:=H p=some (.lst (zs.map V.str))/\zs≠[]/\zs.length<=N/\(∀z∈zs,fD B z)/\aA H0 H/\∀z H',aA H0 H'->fD B z->Q (.str z) H'
def oN(N:Nat):TS:=λD σ H=>∃(H0:Hp) (n far:Int) (nm:Str) (p:Addr) (zs:List Str),σ=[some (.int n),some (.str nm),some (.int far),some (.str (nS (3+2*(far%32000)))),some (.ref p)]/\0<=far/\far<10 ^ 30/\isNm nm=true/\z8 (λps=>∀S:RP,dN S ps) N H0 H D.rt p zs
def oM(N:Nat):TS:=λD σ H=>∃(H0:Hp) (n:Int) (nm:Str) (p:Addr) (zs:List Str),σ=[some (.int n),some (.str nm),some (.str (nm++Str.ofString "abcdefghijklmnopq")),some (.ref p)]/\isNm nm=true/\z8 (λps=>∀S:RP,dN S ps) N H0 H D.rt p zs
def oF(N:Nat):TS:=λD σ H=>∃(H0:Hp) (n:Int) (nm:Str) (p:Addr) (zs:List Str),σ=[some (.int n),some (.str nm),some (.ref p)]/\isNm nm=true/\z8 (dN lN) N H0 H D.rt p zs
noncomputable def bY(rows:List aq):List V:=rows.map λr=>V.str (ak r)
def Fh:Sp:=λvs H Q _=>∃(p:Addr) (rows:List aq) (at_ n:Int),vs=[.ref p,.int at_,.int n]/\H p=some (.lst (bY rows))/\lN.bj rows/\rows.length<=130/\0<=at_/\at_<=rows.length/\(∀H',aA H H'->Q .aF H')/\
 ∀(so nm:Str) (H':Hp),aA H H'->bN so->isNm nm=true->nm∈(bO rows at_.toNat).aK.map (·.1)->Q (.str (ak (.told so nm))) H'
def Ap(A:Ad):Sp:=λvs H Q _=>∃(ts:List Str) (good:List aq) (b:Str) (rest:List Str),vs=[.str (Txt.join (Str.ofString "\n") ts)]/\gb ts good b rest/\∀a d H',aA H H'->H' a=some (XO a A.bI (some d))->H' d=some (PM ((good.length:Int)+1))->Q (.ref a) H'
def vM(A:Ad):Sp:=λvs H Q _=>∃(a d:Addr) (n:Int),vs=[.ref a,.int n]/\H a=some (XO a A.bI (some d))/\H d=some (PM n)/\∀H',aA H H'->Q (.bl true) H'
def Rh(H0:Hp)(Q:VK):Prop:=(∀(q l:Addr) (H':Hp),aA H0 H'->H' q=some (.tup [.ref l,.int 0])->Q (.ref q) H')/\
 ∀(q l:Addr) (ts:List Str) (good:List aq) (b:Str) (rest:List Str) (H':Hp),aA H0 H'->H' q=some (.tup [.ref l,.int ((good.length:Int)+1)])->H' l=some (.lst (ts.map V.str))->gb ts good b rest->ts.length<=200->Q (.ref q) H'
structure fP(rows:List aq):Prop where
 tk:lN.bj rows
 len:rows.length<=130
 hd:∃z r,rows=.aV z::r
def FE:Sp:=λvs H Q _=>∃(p:Addr) (rows:List aq) (way at_ n:Int),vs=[.ref p,.int way,.int at_,.int n]/\H p=some (.lst (bY rows))/\fP rows/\0<=at_/\at_<=rows.length/\0<=n/\n<=2147483647/\Rh H Q
noncomputable def m6(soft:Bool)(nm:Str):aq:=.fill soft (Str.ofString "whole") nm 0
noncomputable def AE(soft:Bool)(nm:Str):aq:=.fill soft (Str.ofString "high") nm 1
def oS(c:Bool):TS:=λD σ H=>∃(H0:Hp) (p:Addr) (rows:List aq) (way at_ n:Int) (nm:Str) (s1 s2:Bool) (b7:Option V),σ=[some (.ref p),some (.int way),some (.int at_),some (.int n),some (.str nm),some (.str (ak (m6 s1 nm))),some (.str (ak (AE s2 nm))),b7]/\H p=some (.lst (bY rows))/\fP rows/\0<=at_/\at_<=rows.length/\0<=n/\n<=2147483647/\isNm nm=true/\(c=true->way=2->0<at_->(bO rows at_.toNat).bw=false)/\aA H0 H/\Rh H0 D.rt
def BY:Sp:=λvs H Q _=>∃(p:Addr) (rows:List aq) (c o:Int),vs=[.ref p,.int c,.int o]/\H p=some (.lst (bY rows))/\fP rows/\∀H',aA H H'->Q (.bl true) H'
def oH:TS:=λD σ H=>∃(H0:Hp) (b0 b1 b2 b3 b6:Option V) (l:Addr) (ts:List Str) (good:List aq) (b:Str) (rest:List Str),σ=[b0,b1,b2,b3,some (.ref l),some (.int ((good.length:Int)+1)),b6]/\H l=some (.lst (ts.map V.str))/\gb ts good b rest/\ts.length<=201/\aA H0 H/\∀H',aA H0 H'->D.rt (.bl true) H'
def tH(K:Wf):Sp:=λvs H Q _=>∃(a:Addr) (ns:List Int),vs=[.ref a]/\aC K H a (ns.map V.int)/\ns.length<=63/\∀H',Q (.bl true) H'
def Ta:Array Lean.Ident:=("RO Ip uH tC MT Ut M7 PH Qd QB Uh RG Qb IZ tB KS SQ O5 MY Jq Tu Hk Od Pg Nr Qm QX QT Nv Ol Ue L2.start List.set List.map List.length List.replicate List.cons_append List.nil_append List.append_nil cK bK Hc rI rU QJ MR LX SM HM Sy Dk OS Pl Qk Hz Kk SJ Rx KZ QQ PD Nn K6 Py PF RF JD Ng MW N5 Kd Ua Tx Uy UB Ux Uw Uv UC UG Uz UD UA TU Uj Um Tv xW NM MZ Nj Mi OJ Oo Ms Mq LK Ml Mp LN eG Td xR HV QU Uk JU Mw PX Qh O_ Qx PY Pn Iu rJoin OE Nw Kc Cm J7 Sx S6 Ov Ub Us UE Tz List.getElem?_cons_zero List.getElem?_cons_succ Option.some.injEq V.int.injEq V.str.injEq V.bl.injEq V.ref.injEq V.ty.injEq List.cons.injEq exists_eq_left' exists_eq_left exists_eq' and_assoc if_true if_false Bool.not_false Bool.not_true Bool.not_not Bool.false_eq_true exists_and_left and_true true_and List.set_cons_zero List.set_cons_succ Option.join_some false_and or_false false_or exists_false Io HZ NT KC GY vY A9 zS Lb BE Ej EU zO Aq Gp DF Ax CB vT Dx Ag wY Ij Ai Ah AO AG Aj DF AQ wg AR zX Fh Ap vM FE BY LH Lz ML Sb Px TB LV Pt IG Mg Uu Sw Lv Si Kf NF Ends.nx Nat.reduceSub Nat.reduceAdd".splitOn " ").toArray.map λs=>Lean.mkIdent s.toName
local macro_rules | `(tactic| walk_at "rdd") => do
 let a<-Ta.mapM λx=>`(Lean.Parser.Tactic.simpLemma| $x:ident)
 `(tactic| try dsimp only [$a,*])
local macro_rules | `(tactic| walk_at "rd") => do
 let a<-Ta.mapM λx=>`(Lean.Parser.Tactic.simpLemma| $x:ident)
 let a:=a.push (<-`(Lean.Parser.Tactic.simpLemma| reduceCtorEq))
 `(tactic| (walk_at "rdd";try simp only [$a,*]))
theorem Hm{n:Int}(h:∃k:Nat,n=2 ^ k)(h2:n<=65536):Builtin.bitAnd n (n - 1)=0:=by
 obtain⟨k,rfl⟩:=h;have hk:k<17:=by
  rcases Nat.lt_or_ge k 17 with z|z
  ·exact z
  ·have h3:(2:Nat) ^ 17<=2 ^ k:=PN (by decide) z;have h4:((2 ^ k:Nat):Int)=(2:Int) ^ k:=by push_cast;rfl
   omega
 have key:∀k:Nat,k<17->Builtin.bitAnd ((2:Int) ^ k) ((2:Int) ^ k - 1)=0:=by decide +kernel
 exact key k hk
section
variable{P:Program}{w:World}{K:Wf}{mg:So}{base:Heap}{A:Ad}
theorem JH(T:Txt w K mg A){C:Addr}(h:RC A C):ue K C/\bF K C "title" := by
 rcases h with e|e|e|e|e<;>subst e
 ·exact⟨T.Ei,T.fe⟩
 ·exact⟨T.x8,T.eO⟩
 ·exact⟨T.DB,T.fu⟩
 ·exact⟨T.yw,T.eP⟩
 ·exact⟨T.BG,T.dJ⟩
theorem u5(T:Txt w K mg A):bo P w K mg base eI 1 A.HA A.qU ["self", "title"] (Io A):=by
 refine T.zi.ok Lm (λvs H Q E h=>?_) (λcdv Ar outer s H vs Q E hr h=>?_)
 ·obtain⟨p,dx,C,x,rfl,_⟩:=h;rfl
 ·obtain⟨p,dx,C,x,rfl,hp,hC,k⟩:=h;refine⟨_,(bE (dB (pv 0) (pv 1) rfl)),?_⟩;walk_at "rd";exact⟨C,dx,[],hp,(JH T hC).1,(JH T hC).2,by decide,k⟩
theorem N4(T:Txt w K mg A):bo P w K mg base (An P w) 4 A.N9 A.sd ["title"] (HZ A):=by
 refine T.yN.To Ma (λvs H Q E h=>?_) (λcdv Ar outer s H vs Q E hr h=>?_)
 ·obtain⟨z,rfl,_⟩:=h;rfl
 ·obtain⟨z,rfl,hz,hs,k,ke⟩:=h;refine⟨_,(aL (aM (br ba (pv 0) af (ax _)) (bE (au (hV T.DT (u5 T) (hr.mono (by decide)) rfl T.BF T.kU .nil eW (ao (pv 0) aa)))) bD) (aL (aM (br ba (pv 0) af (ax _)) (bE (au (hV T.yu (u5 T) (hr.mono (by decide)) rfl T.yU T.kU .nil eW (ao (pv 0) aa)))) bD) (aL (aM (br ba (pv 0) af (ax _)) (bE (au (hV T.Bx (u5 T) (hr.mono (by decide)) rfl T.Fv T.kU .nil eW (ao (pv 0) aa)))) bD) (aL (aM (br ba (pv 0) af (ax _)) (bE (au (hV T.zv (u5 T) (hr.mono (by decide)) rfl T.xZ T.kU .nil eW (ao (pv 0) aa)))) bD) (aL (aM (br ba (pv 0) af (ax _)) (bE (au (hV T.FY (u5 T) (hr.mono (by decide)) rfl T.B8 T.kU .nil eW (ao (pv 0) aa)))) bD) (bE (GO rfl T.nR T.wJ PySem.F.excBase_ValueError rfl M9 (ao (c_ (eD af (eD (HX (pv 0)) gZ))) aa)))))))),?_⟩;walk_at "rd";have go:∀C,RC A C->mQ A z=some C->∀(x dx:Addr),H x=none->H dx=none->dx≠x->
    ∃x_1 x_2,upd (upd H dx (HO.own x)) x (HO.ins C dx []) x=some (HO.ins x_2 x_1 [])/\RC A x_2/\Q (V.ref x) (upd (upd (upd H dx (HO.own x)) x (HO.ins C dx [])) x (HO.ins x_2 x_1 [(Str.ofString "title", V.str z)])):=by
   intro C hC hc x dx hx hd hne;refine⟨dx,C,aE,hC,k C hc x _ (λb o e=>?_) ⟨dx,aE⟩⟩;rw[ae (cT e hx),ae (cT e hx),ae (cT e hd)];exact e
  unfold mQ at go ke;refine cS (λh=>?_) (λh=>?_)
  ·have h:=of_decide_eq_true h;exact go _ (.inl rfl) (by rw[if_pos h])
  have h1:¬z=Str.ofString "whole" := by simpa using h
  refine cS (λh=>?_) (λh=>?_)
  ·have h:=of_decide_eq_true h;exact go _ (.inr (.inl rfl)) (by rw[if_neg h1,if_pos h])
  have h2:¬z=Str.ofString "high" := by simpa using h
  refine cS (λh=>?_) (λh=>?_)
  ·have h:=of_decide_eq_true h;exact go _ (.inr (.inr (.inl rfl))) (by rw[if_neg h1,if_neg h2,if_pos h])
  have h3:¬z=Str.ofString "low" := by simpa using h
  refine cS (λh=>?_) (λh=>?_)
  ·have h:=of_decide_eq_true h;exact go _ (.inr (.inr (.inr (.inl rfl)))) (by rw[if_neg h1,if_neg h2,if_neg h3,if_pos h])
  have h4:¬z=Str.ofString "near" := by simpa using h
  refine cS (λh=>?_) (λh=>?_)
  ·have h:=of_decide_eq_true h;exact go _ (.inr (.inr (.inr (.inr rfl)))) (by rw[if_neg h1,if_neg h2,if_neg h3,if_neg h4,if_pos h])
  have h5:¬z=Str.ofString "split" := by simpa using h
  rw[if_neg h1,if_neg h2,if_neg h3,if_neg h4,if_neg h5]at ke;have l1:(Str.empty++Str.ofString "no rule is called ").length=18:=by decide +kernel
  have l2:=Hy hs hz;have l3:=aH (Str.empty++Str.ofString "no rule is called ") (reprText z);have l4:=sizeLine_eq;exact⟨by omega,by omega,by omega,by omega,by omega,ke rfl⟩
theorem take_snoc{l:List Nat}{i:Nat}{c:Nat}(h:l[i]?=some c):l.take (i+1)=l.take i++[c]:=by
 rw[List.take_succ,h];rfl
theorem getL{z:Str}{i c:Nat}(h:z.cps[i]?=some c):z.cps.toList[i]?=some c:=by rw[Array.getElem?_toList];exact h
noncomputable abbrev Av(c:Nat):Bool:=z6 "abcdefghijklmnopqrstuvwxyz0123456789_" ⟨#[c]⟩
theorem uh{z:Str}{x:Nat}(h:hG z.cps.toList 0=some x):z.cps.toList.take 1=[x]:=by
 obtain⟨j,h1,h2,h3,_⟩:=jz h;have:j=0:=by
  unfold hG A7 at h;have e:seqIndex? 0 z.cps.toList.length=some j:=h1;unfold seqIndex? at e;simp at e;omega
 subst this;rw[List.take_one,List.head?_eq_getElem?,h2];rfl
theorem N8{z:Str}(h:1<=z.length):∃x,hG z.cps.toList 0=some x:=by
 have hl:z.cps.toList.length=z.length:=A1;obtain⟨v,hv,_⟩:=vP (xs:=z.cps.toList) (i:=0) (by omega) (by omega);exact⟨v,hv⟩
theorem EI{z:Str}(h:¬1<=z.length):isNm z=false:=by unfold isNm;rw[decide_eq_false h];simp
theorem qI{z:Str}(h:¬z.length<=16):isNm z=false:=by unfold isNm;rw[decide_eq_false h];simp
theorem CQ{z:Str}{x:Nat}(hx:hG z.cps.toList 0=some x)(h:z6 "abcdefghijklmnopqrstuvwxyz" ⟨#[x]⟩=false):isNm z=false:=by
 unfold isNm;rw[uh hx];simp[h]
theorem HS{z:Str}{x:Nat}(h1:1<=z.length)(h2:z.length<=16)(hx:hG z.cps.toList 0=some x)(h:z6 "abcdefghijklmnopqrstuvwxyz" ⟨#[x]⟩=true):isNm z=z.cps.toList.all Av:=by
 unfold isNm;rw[uh hx,decide_eq_true h1,decide_eq_true h2];simp[h]
theorem BL(T:Txt w K mg A):bo P w K mg base eI 1 A.NC A.oA ["text"] NT:=by
 refine T.xI.ok K7 (λvs H Q E h=>?_) (λcdv Ar outer s H vs Q E hr h=>?_)
 ·obtain⟨z,rfl,_⟩:=h;rfl
 ·obtain⟨z,rfl,hz,k⟩:=h;refine⟨_,(aL (aM (PW.pt (eY (dZ (lJ mi mi ah (dh (e7 (K:=K) rfl) (by rfl) T.cF bZ (ao (pv 0) aa)) ah)) (dA (br oy (bH v7 (pv 0) ah (λ_ _=>rfl)) (cg rfl T.zu Mb) (by with_unfolding_all rfl))))) (bE (au cy)) bD) (bE (au (dh (mf rfl (K:=K) rfl) (by rfl) T.ur CY (ao (qh (Ih ["sign"]) rfl (CN (pv 0)) (λ_ _ _=>⟨(pn 0 (by walk_at "n")),oK,(c0 mw (pv 0) (cg rfl T.zh Mb) (by with_unfolding_all rfl))⟩)) aa))))),?_⟩;walk_at "rd";have hsz:z.length<=sizeLine:=by rw[sizeLine_eq];omega
  refine⟨hsz,cS (λh=>cS (λh2=>?_) (λh2=>?_)) (λh=>?_)⟩
  ·have:=k H (aA.refl H);rw[qI (by
    have h2:decide ((z.length:Int)<=16)=false:=by simpa using h2
    have:=of_decide_eq_false h2;omega)]at this
   exact this
  ·have h1:1<=z.length:=by have:=of_decide_eq_true h;omega
   have h3:z.length<=16:=by
    have h2:decide ((z.length:Int)<=16)=true:=by simpa using h2
    have:=of_decide_eq_true h2;omega
   obtain⟨x,hx⟩:=N8 h1;refine⟨hsz,x,hx,cS (λh4=>?_) (λh4=>?_)⟩
   ·have:=k H (aA.refl H);rw[CQ hx (by unfold z6;rw[h4];rfl)]at this;exact this
   ·rw[HS h1 h3 hx (by unfold z6;simpa using h4)]at k;refine mr.of (by rw[sizeLine_eq];have:z.length=z.cps.size:=rfl;omega) (λD i ys H'=>ys=(z.cps.toList.take i).map (λc=>V.bl (Av c))/\H'=upd H D (.lst ys)) (λD hD=>⟨rfl,rfl⟩) ?_ ?_ ?_
    ·rintro D i ys H' hD hi ⟨rfl,rfl⟩;exact⟨aE,by rw[aQ,nV];omega⟩
    ·rintro D i c ys H' hD hc ⟨rfl,rfl⟩;walk_at "rd";refine⟨.no .nil,aE,?_,cY⟩;rw[take_snoc (getL hc),gJ];rfl
    ·rintro D ys H' hD ⟨rfl,rfl⟩;refine⟨D,rfl,z.cps.toList.map Av,aC.of ?_,?_⟩
     ·rw[aE,G9 (Nat.le_of_eq A1),zN];rfl
     ·rw[List.all_map];exact k _ λb o e=>by rw[ae (cT e hD)];exact e
  ·have:=k H (aA.refl H);rw[EI (by
    have h:decide (1<=(z.length:Int))=false:=by simpa using h
    have:=of_decide_eq_false h;omega)]at this
   exact this
theorem cV{H0 H:Hp}{L:Addr}{o:HO}(h:H0 L=none)(e:aA H0 H):aA H0 (upd H L o):=λb u q=>by rw[ae (cT q h)];exact e b u q
theorem aO{H:Hp}{p:Addr}{o:HO}(h:H p=none):aA H (upd H p o):=λb u e=>by rw[ae (cT e h)];exact e
theorem Fx(T:Txt w K mg A):bo P w K mg base eI 1 A.Oz A.pZ ["text", "least", "most"] KC:=by
 refine T.yy.ok vJ (λvs H Q E h=>?_) (λcdv Ar outer s H vs Q E hr h=>?_)
 ·obtain⟨z,lo,hi,rfl,_⟩:=h;rfl
 ·obtain⟨z,lo,hi,rfl,hz,k⟩:=h;refine⟨_,(aL (pS 3 vJ.nd (kz (df (eU PySem.F.plainAttrs_str PySem.F.slot_str_startswith PySem.F.type_str_startswith Aa (pv 0) (ao af aa))) (dR iA (pv 0) (dD ah) d8) (pv 0))) (aL (aM (PW.pt (eY (dZ (lJ mi mi ah (dh (e7 (K:=K) rfl) (by rfl) T.cF bZ (ao (pv 3) aa)) ah)) (dA (dZ (df (dh (mf rfl (K:=K) rfl) (by rfl) T.ur CY (ao (qh (Ih ["sign"]) rfl (CN (pv 3)) (λ_ _ _=>⟨(pn 0 (by walk_at "n")),oK,(c0 mw (pv 0) (cg rfl T.xY Mb) (by with_unfolding_all rfl))⟩)) aa))))))) (bE (au cG)) bD) (aL (aM (PW.pt (lC (br ba (bH v7 (pv 3) ah (λ_ _=>rfl)) af (ax _)) (j5 (br uY (pv 0) af (ax _))))) (bE (au cG)) bD) (aL (pS 4 vJ.nd (gY AA (by rfl) T.ky rj (ao (pv 0) aa))) (bE (au (kz (lJ mi mi (pv 1) (pv 4) (pv 2)) (pv 4) cG))))))),?_⟩;walk_at "rd";have lz:z.length<=sizeLine:=by rw[sizeLine_eq];omega
  refine⟨rfl,cS (λhn=>⟨lz,?_⟩) (λhn=>?_)⟩
  ·have hfig:(Txt.slice z (some 1) none).cps.toList=aY z:=by unfold aY;rw[if_pos hn,Cw]
   have hyl:=Txt.slice_le z (some 1) none;generalize Txt.slice z (some 1) none=y at *;have lY:y.length<=sizeLine:=by rw[sizeLine_eq];omega
   refine⟨lY,cS (λh=>cS (λh2=>?_) (λh2=>?_)) (λh=>?_)⟩
   ·have h2:decide ((y.length:Int)<=10)=false:=by simpa using h2
    have h2:=of_decide_eq_false h2;have:=k H (aA.refl H);rw[gy (by rw[<-hfig,gX];omega)]at this;exact this
   ·have h2:decide ((y.length:Int)<=10)=true:=by simpa using h2
    have h2:=of_decide_eq_true h2;have h:=of_decide_eq_true h;have hne:aY z≠[]:=λq=>by
     have:=congrArg List.length hfig;rw[gX,q]at this;simp at this;omega
    have hle:(aY z).length<=10:=by rw[<-hfig,gX];omega
    refine mr.of (by rw[sizeLine_eq];have:y.length=y.cps.size:=rfl;omega) (λD i ys H'=>ys=(y.cps.toList.take i).map (λc=>V.bl (dig c))/\H'=upd H D (.lst ys)) (λD hD=>⟨rfl,rfl⟩) ?_ ?_ ?_
    ·rintro D i ys H' hD hi ⟨rfl,rfl⟩;exact⟨aE,by rw[aQ,nV];omega⟩
    ·rintro D i c ys H' hD hc ⟨rfl,rfl⟩;walk_at "rd";refine⟨.no .nil,aE,?_,cY⟩;rw[kL (getL hc),gJ];rfl
    ·rintro D ys H' hD ⟨rfl,rfl⟩;have sm:aA H (upd H D (.lst ((y.cps.toList.take y.cps.size).map (λc=>V.bl (dig c))))):=λb o e=>by rw[ae (cT e hD)];exact e
     have kk:=k _ sm;refine⟨D,rfl,y.cps.toList.map dig,aC.of ?_,?_⟩
     ·rw[aE,take_all,zN];rfl
     ·rw[List.all_map];have ea:(y.cps.toList.all (id ∘ dig))=(aY z).all dig:=by rw[hfig];rfl
      rw[ea];cases hv:(aY z).all dig with
      |false=>
       rw[mC hv]at kk;exact Lh kk
      |true=>
       refine HY ⟨lY,?_⟩;obtain⟨x,hx,ht⟩:=vt (cs:=y.cps.toList) (by rw[hfig];exact hne);refine⟨x,hx,?_⟩;rw[sign_zero];have hi':=int_text hz hne hv;refine cS (λh3=>cS (λh4=>?_) (λh4=>?_)) (λh3=>?_)
       ·have h3:=of_decide_eq_true h3;rw[iJ (by rw[<-hfig,ht,h3]) (of_decide_eq_false (by simpa using h4))]at kk;exact kk
       ·have hq:¬((aY z).take 1=[48]/\z≠Str.ofString "0"):=λq=>q.2 (of_decide_eq_true (by simpa using h4));exact⟨dP z,hi',by omega,jY hne hle hv hq kk⟩
       ·have hq:¬((aY z).take 1=[48]/\z≠Str.ofString "0"):=λq=>by
         have h3:¬x=48:=of_decide_eq_false (by simpa using h3);have:=q.1;rw[<-hfig,ht]at this;simp at this;exact h3 this
        exact⟨dP z,hi',by omega,jY hne hle hv hq kk⟩
   ·have h:decide (1<=(y.length:Int))=false:=by simpa using h
    have h:=of_decide_eq_false h;have:=k H (aA.refl H);rw[mR (by rw[<-hfig];exact w6 (by omega))]at this;exact this
  ·have hfig:z.cps.toList=aY z:=by unfold aY;rw[if_neg hn]
   have lY:z.length<=sizeLine:=by rw[sizeLine_eq];omega
   refine⟨lY,cS (λh=>cS (λh2=>?_) (λh2=>?_)) (λh=>?_)⟩
   ·have h2:decide ((z.length:Int)<=10)=false:=by simpa using h2
    have h2:=of_decide_eq_false h2;have:=k H (aA.refl H);rw[gy (by rw[<-hfig,gX];omega)]at this;exact this
   ·have h2:decide ((z.length:Int)<=10)=true:=by simpa using h2
    have h2:=of_decide_eq_true h2;have h:=of_decide_eq_true h;have hne:aY z≠[]:=λq=>by
     have:=congrArg List.length hfig;rw[gX,q]at this;simp at this;omega
    have hle:(aY z).length<=10:=by rw[<-hfig,gX];omega
    refine mr.of (by rw[sizeLine_eq];have:z.length=z.cps.size:=rfl;omega) (λD i ys H'=>ys=(z.cps.toList.take i).map (λc=>V.bl (dig c))/\H'=upd H D (.lst ys)) (λD hD=>⟨rfl,rfl⟩) ?_ ?_ ?_
    ·rintro D i ys H' hD hi ⟨rfl,rfl⟩;exact⟨aE,by rw[aQ,nV];omega⟩
    ·rintro D i c ys H' hD hc ⟨rfl,rfl⟩;walk_at "rd";refine⟨.no .nil,aE,?_,cY⟩;rw[kL (getL hc),gJ];rfl
    ·rintro D ys H' hD ⟨rfl,rfl⟩;have sm:aA H (upd H D (.lst ((z.cps.toList.take z.cps.size).map (λc=>V.bl (dig c))))):=λb o e=>by rw[ae (cT e hD)];exact e
     have kk:=k _ sm;refine⟨D,rfl,z.cps.toList.map dig,aC.of ?_,?_⟩
     ·rw[aE,take_all,zN];rfl
     ·rw[List.all_map];have ea:(z.cps.toList.all (id ∘ dig))=(aY z).all dig:=by rw[hfig];rfl
      rw[ea];cases hv:(aY z).all dig with
      |false=>
       rw[mC hv]at kk;exact Lh kk
      |true=>
       refine HY ⟨lY,?_⟩;obtain⟨x,hx,ht⟩:=vt (cs:=z.cps.toList) (by rw[hfig];exact hne);refine⟨x,hx,?_⟩;rw[sign_zero];have hi':=int_text hz hne hv;refine cS (λh3=>cS (λh4=>?_) (λh4=>?_)) (λh3=>?_)
       ·have h3:=of_decide_eq_true h3;rw[iJ (by rw[<-hfig,ht,h3]) (of_decide_eq_false (by simpa using h4))]at kk;exact kk
       ·have hq:¬((aY z).take 1=[48]/\z≠Str.ofString "0"):=λq=>q.2 (of_decide_eq_true (by simpa using h4));exact⟨dP z,hi',by omega,jY hne hle hv hq kk⟩
       ·have hq:¬((aY z).take 1=[48]/\z≠Str.ofString "0"):=λq=>by
         have h3:¬x=48:=of_decide_eq_false (by simpa using h3);have:=q.1;rw[<-hfig,ht]at this;simp at this;exact h3 this
        exact⟨dP z,hi',by omega,jY hne hle hv hq kk⟩
   ·have h:decide (1<=(z.length:Int))=false:=by simpa using h
    have h:=of_decide_eq_false h;have:=k H (aA.refl H);rw[mR (by rw[<-hfig];exact w6 (by omega))]at this;exact this
theorem kx(z:Str)(lo hi:Int):cx z lo hi=.aF\/∃n,cx z lo hi=.int n:=by
 by_cases h:cx z lo hi=.aF
 ·exact .inl h
 ·exact .inr (CZ h)
theorem AU{n:Int}(h1:1<=n)(h2:n<=65536)(hk:∃k:Nat,n=2 ^ k):c7 (nS n)=.int n:=by
 unfold c7 nS;rw[eT (by omega) (by omega),if_pos ⟨h1,h2⟩];show(if _ then _ else _)=_;rw[if_pos (Hm hk h2)]
theorem Ob(T:Txt w K mg A):bo P w K mg base eI 2 A.OK A.tK ["text"] GY:=by
 refine T.xA.ok FI (λvs H Q E h=>?_) (λcdv Ar outer s H vs Q E hr h=>?_)
 ·obtain⟨z,rfl,_⟩:=h;rfl
 ·obtain⟨z,rfl,hz,k⟩:=h;refine⟨_,(aL (pS 1 FI.nd (pC (Fx T) hr T.xm T.vq T.uD (ao (pv 0) (ao ah (ao ah aa))))) (aL (aM (PW.pt (eY (br g_ (pv 1) cG (ax _)) (dA (br uY (ag KP (pv 1) (ag fK (pv 1) ah)) ah (ax _))))) (bE (au cG)) bD) (bE (au (pv 1))))),?_⟩;walk_at "rd";refine⟨hz,λH' s'=>?_⟩;have k:=k H' s';unfold c7 at k;rcases kx z 1 65536 with e|⟨n,e⟩
  ·rw[e]at k ⊢;rw[if_pos (by simp)];exact k
  ·rw[e]at k ⊢;rw[if_neg (by simp)];refine⟨n,rfl,n,rfl,?_⟩;by_cases h:Builtin.bitAnd n (n - 1)=0
   ·have k:Q (if _ then _ else _) H':=k;rw[if_pos h]at k;rw[if_neg (by rw[h];decide)];exact k
   ·have k:Q (if _ then _ else _) H':=k;rw[if_neg h]at k;rw[if_pos (by simpa using h)];exact k
theorem Oh(T:Txt w K mg A):bo P w K mg base eI 6 A.NG A.sX ["text"] vY:=by
 refine T.yJ.ok K8 (λvs H Q E h=>?_) (λcdv Ar outer s H vs Q E hr h=>?_)
 ·obtain⟨z,rfl,_⟩:=h;rfl
 ·obtain⟨z,rfl,hz,hs,k⟩:=h;refine⟨_,(aL (Di (K:=K) rfl rfl rfl rfl T.nR (uE (vi (vd (N4 T) (hr.mono (by decide)) rfl T.JG T.Ft T.C5 .nil (ao (pv 0) aa)))) (λ_=>(bE (au cy)))) (bE (au cy))),?_⟩;walk_at "rd";have hi:wK z↔mQ A z≠none:=by
   unfold wK mQ;constructor
   ·rintro (rfl|rfl|rfl|rfl|rfl)
    ·rw[if_pos rfl];simp
    ·rw[if_neg (by decide +kernel),if_pos rfl];simp
    ·rw[if_neg (by decide +kernel),if_neg (by decide +kernel),if_pos rfl];simp
    ·rw[if_neg (by decide +kernel),if_neg (by decide +kernel),if_neg (by decide +kernel),if_pos rfl];simp
    ·rw[if_neg (by decide +kernel),if_neg (by decide +kernel),if_neg (by decide +kernel),if_neg (by decide +kernel),if_pos rfl];simp
   ·intro h;by_cases h1:z=Str.ofString "whole"
    ·exact .inl h1
    by_cases h2:z=Str.ofString "high"
    ·exact .inr (.inl h2)
    by_cases h3:z=Str.ofString "low"
    ·exact .inr (.inr (.inl h3))
    by_cases h4:z=Str.ofString "near"
    ·exact .inr (.inr (.inr (.inl h4)))
    by_cases h5:z=Str.ofString "split"
    ·exact .inr (.inr (.inr (.inr h5)))
    rw[if_neg h1,if_neg h2,if_neg h3,if_neg h4,if_neg h5]at h;exact absurd rfl h
  refine⟨hz,hs,λC hC p H' s1 _=>?_,λhn=>⟨_,rfl,⟨T.vW,T.v5,T.kj⟩,.inl rfl,?_⟩⟩
  ·have:=k H' s1
   rwa [decide_eq_true (hi.mpr (by rw[hC];simp))]at this
  ·have:=k H (aA.refl H)
   rwa [decide_eq_false (λq=>hi.mp q hn)]at this
theorem OH(T:Txt w K mg A):bo P w K mg base eI 1 A.MP A.tj ["self"] (A9 A):=by
 refine T.zz.ok Lp (λvs H Q E h=>?_) (λcdv Ar outer s H vs Q E hr h=>?_)
 ·obtain⟨p,dx,rfl,_⟩:=h;rfl
 ·obtain⟨p,dx,rfl,hp,k⟩:=h;refine⟨_,(aL (dB (pv 0) cG rfl) (aL (dB (pv 0) (aw aa) rfl) (aL (dB (pv 0) (aw aa) rfl) (aL (dB (pv 0) cG rfl) (aL (dB (pv 0) cG rfl) (aL (dB (pv 0) uv rfl) (bE (dB (pv 0) cy rfl)))))))),?_⟩;walk_at "rd";refine⟨_,_,_,hp,T.aD,T.cO,by show 0<1000;decide,gB _,λp1 hp1=>?_⟩;have n1:p1≠p:=λz=>by rw[z,aE]at hp1;cases hp1
  have f1:H p1=none:=by rw[ae n1]at hp1;exact hp1
  refine⟨_,_,_,by rw[ae n1.symm];exact aE,T.aD,T.bA,by show 1<1000;decide,gB _,λp2 hp2=>?_⟩;have n2:p2≠p:=λz=>by rw[z,aE]at hp2;cases hp2
  rw[ae n2]at hp2;have n3:p2≠p1:=λz=>by rw[z,aE]at hp2;cases hp2
  have f2:H p2=none:=by rw[ae n3,ae n2]at hp2;exact hp2
  refine⟨_,_,_,by rw[ae n2.symm];exact aE,T.aD,T.cU,by show 2<1000;decide,_,_,_,aE,T.aD,T.ar,by show 3<1000;decide,_,_,_,aE,T.aD,T.a8,by show 4<1000;decide,λp3 hp3=>?_⟩;rw[cY,cY]at hp3 ⊢;have m1:p3≠p:=λz=>by rw[z,aE]at hp3;cases hp3
  rw[ae m1]at hp3;have m2:p3≠p2:=λz=>by rw[z,aE]at hp3;cases hp3
  rw[ae m2,ae m1]at hp3;have m3:p3≠p1:=λz=>by rw[z,aE]at hp3;cases hp3
  have f3:H p3=none:=by rw[ae m3,ae m1]at hp3;exact hp3
  refine⟨_,_,_,by rw[ae m1.symm];exact aE,T.aD,T.du,by show 5<1000;decide,_,_,_,aE,T.aD,T.bB,by show 6<1000;decide,?_⟩;rw[cY];refine k p1 p2 p3 _ n3.symm f1 f2 f3 (λx o nx e=>?_) ?_ ?_ ?_ aE
  ·rw[ae nx,ae (cT e f3),ae nx,ae (cT e f2),ae nx,ae (cT e f1),ae nx];exact e
  ·rw[ae n1,ae m3.symm,ae n1,ae n3.symm,ae n1];exact aE
  ·rw[ae n2,ae m2.symm,ae n2];exact aE
  ·rw[ae m1];exact aE
theorem OO(T:Txt w K mg A):bo P w K mg base eI 2 A.Of A.qW ["self", "name"] (zS A):=by
 refine T.zJ.ok LL (λvs H Q E h=>?_) (λcdv Ar outer s H vs Q E hr h=>?_)
 ·obtain⟨R,z,rfl,_⟩:=h;rfl
 ·obtain⟨R,z,rfl,hR,hz,k⟩:=h;refine⟨_,(aL (aM (dZ (df (pC (BL T) hr T.yD T.u3 T.vw (ao (pv 1) aa)))) (bE (au cy)) bD) (aL (dB (pv 0) (pv 1) rfl) (bE (au cy)))),?_⟩;walk_at "rd";walk_at "0";dsimp only at *;refine⟨hz,λH1 s1=>?_⟩;rcases k with ⟨e,k⟩|⟨e,k⟩
  ·rw[e,if_neg (by simp)];exact⟨_,_,_,s1 _ _ hR,T.aD,T.cO,by show 7<1000;decide,k _ (λx o n e=>by rw[ae n];exact s1 _ _ e) aE⟩
  ·rw[e,if_pos (by simp)];exact k H1 s1
theorem OU(T:Txt w K mg A):bo P w K mg base eI 3 A.MD A.m7 ["self", "kind", "text"] (Lb A):=by
 refine T.zK.ok Ds (λvs H Q E h=>?_) (λcdv Ar outer s H vs Q E hr h=>?_)
 ·obtain⟨R,kd,z,xs,rfl,_⟩:=h;rfl
 ·obtain⟨R,kd,z,xs,rfl,hR,hA,hl,hz,k⟩:=h;refine⟨_,(aL (pS 3 Ds.nd (pC (Ob T) hr T.JE T.GQ T.EC (ao (pv 2) aa))) (aL (aM (br g_ (pv 3) cG (ax _)) (bE (au cy)) bD) (aL (dB (pv 0) (aw aa) rfl) (aL (dB (pv 0) (aw aa) rfl) (aL (bU (ee (cu (pv 0) rfl) (ao (bM (ao (pv 1) (ao (pv 3) (ao (cu (pv 0) rfl) (ao (cu (pv 0) rfl) aa))))) aa))) (bE (au cy))))))),?_⟩;walk_at "rd";walk_at "0";dsimp only at *;refine⟨hz,λH1 s1=>?_⟩;rcases k with ⟨n,en,k⟩|⟨en,k⟩
  ·rw[en,if_neg (by simp)];have nlp:ls≠p:=bS hA hR (by intro z;cases z);have back:∀{x:Addr},H1 x=none->H x=none:=λ{x} h=>by
    cases hh:H x with
    |none=>rfl
    |some o=>rw[s1 _ _ hh]at h;cases h
   refine⟨gB _,λa ha=>?_⟩;have npa:p≠a:=cT (s1 _ _ hR) ha;have nla:ls≠a:=cT (s1 _ _ hA) ha;refine⟨_,_,_,by rw[ae npa];exact s1 _ _ hR,T.aD,T.ar,by show 7<1000;decide,gB _,λb hb=>?_⟩;have nbp:b≠p:=λz=>by rw[z,aE]at hb;cases hb
   rw[ae nbp]at hb;have nba:b≠a:=λz=>by rw[z,aE]at hb;cases hb
   rw[ae nba]at hb;have nlb:ls≠b:=cT (s1 _ _ hA) hb;refine⟨_,_,_,by rw[ae nbp.symm];exact aE,T.aD,T.a8,by show 7<1000;decide,_,_,_,aE,T.aD,T.bA,.ref ls,rfl,.inl ⟨rfl,_,aC.of (by rw[ae nlp,ae nlb,ae nlp,ae nla];exact s1 _ _ hA)⟩,_,_,_,aE,T.aD,T.ar,_,rfl,_,_,_,aE,T.aD,T.a8,_,rfl,by walk_at "s", λt ht=>?_⟩;have ntp:t≠p:=λz=>by rw[z,aE]at ht;cases ht
   rw[ae ntp]at ht;have ntb:t≠b:=λz=>by rw[z,aE]at ht;cases ht
   rw[ae ntb,ae ntp]at ht;have nta:t≠a:=λz=>by rw[z,aE]at ht;cases ht
   rw[ae nta]at ht;have nlt:ls≠t:=cT (s1 _ _ hA) ht;refine⟨ls,rfl,xs,by rw[ae nlt,ae nlp,ae nlb,ae nlp,ae nla];exact s1 _ _ hA,by rw[sizeLine_eq];omega,?_⟩;refine k a b t _ nba.symm (back ha) (back hb) (back ht) (λx o n1 n2 e=>?_) ?_ ?_ ?_ aE ?_
   ·have e:=s1 _ _ e;rw[ae n2,ae (cT e ht),ae n1,ae (cT e hb),ae n1,ae (cT e ha)];exact e
   ·rw[ae nla.symm,ae nta.symm,ae npa.symm,ae nba.symm,ae npa.symm];exact aE
   ·rw[ae nlb.symm,ae ntb.symm,ae nbp];exact aE
   ·rw[ae nlt.symm];exact aE
   ·rw[ae nlp.symm,ae ntp.symm];exact aE
  ·rw[en,if_pos (by simp)];exact k H1 s1
theorem Nk(T:Txt w K mg A):bo P w K mg base eI 2 A.Mv A.pT ["self", "text"] (BE A):=by
 refine T.y6.ok D_ (λvs H Q E h=>?_) (λcdv Ar outer s H vs Q E hr h=>?_)
 ·obtain⟨R,z,l,ws,rfl,_⟩:=h;rfl
 ·obtain⟨R,z,l,ws,rfl,hR,hw,hl,hwl,hz,k⟩:=h;refine⟨_,(aL (pS 2 D_.nd (pC (Fx T) hr T.xm T.vq T.uD (ao (pv 1) (ao ah (ao ah aa))))) (aL (aM (br g_ (pv 2) cG (ax _)) (bE (au cy)) bD) (aL (bU (ee (cu (pv 0) rfl) (ao (pv 2) aa))) (bE (au cy))))),?_⟩;walk_at "rd";walk_at "0";dsimp only at *;subst hw;refine⟨hz,λH1 s1=>?_⟩;rcases k with ⟨n,en,k⟩|⟨en,k⟩
  ·rw[en,if_neg (by simp)];exact⟨_,_,_,s1 _ _ hR,T.aD,T.ar,.ref l,rfl,.inl ⟨rfl,_,aC.of (s1 _ _ hl)⟩,l,rfl,ws,s1 _ _ hl,by rw[sizeLine_eq];omega,k _ (λx o n e=>by rw[ae n];exact s1 _ _ e) aE⟩
  ·rw[en,if_pos (by simp)];exact k H1 s1
theorem N_(T:Txt w K mg A):bo P w K mg base eI 7 A.M4 A.tL ["self", "soft", "rule", "name", "text"] (Ej A):=by
 refine T.zo.ok DR (λvs H Q E h=>?_) (λcdv Ar outer s H vs Q E hr h=>?_)
 ·obtain⟨R,soft,r,nm,z,l,l2,ws,gs,rfl,_⟩:=h;rfl
 ·obtain⟨R,soft,r,nm,z,l,l2,ws,gs,rfl,hR,hw,hl,hf,hl2,hwl,hgl,hz,hn,hr0,sg,k⟩:=h;refine⟨_,(aL (pS 5 DR.nd (pC (Fx T) hr T.xm T.vq T.uD (ao (pv 4) (ao (vA kW ah) (ao ah aa))))) (aL (aM (PW.pt (eY (dZ (df (pC (Oh T) hr T.J5 T.Gk T.FR (ao (pv 2) aa)))) (eY (dZ (df (pC (BL T) hr T.yD T.u3 T.vw (ao (pv 3) aa)))) (dA (br g_ (pv 5) cG (ax _)))))) (bE (au cy)) bD) (aL (aM (PW.pt (lC (df (pv 1)) (j5 (PW.pt (eY (br ba (pv 2) af (ax _)) (dA (br ba (pv 2) af (ax _)))))))) (bE (au cy)) bD) (aL (bU (ee (cu (pv 0) rfl) (ao (bM (ao (ag fK (dh (e7 (K:=K) rfl) (by rfl) T.cF bZ (ao (cu (pv 0) rfl) aa)) ah) (ao (pv 2) (ao (pv 3) (ao (pv 5) (ao (pv 1) aa)))))) aa))) (bE (au cy)))))),?_⟩;walk_at "rd";walk_at "0";dsimp only at *;subst hw hf;refine⟨hz,λH1 s1=>⟨hr0,sg,λH2 s2=>?_⟩⟩;by_cases hT:wK r
  ·rw[decide_eq_true hT,if_neg (by simp)];refine⟨hn,λH3 s3=>?_⟩;have sm:=s1.trans (s2.trans s3);have back:∀{x:Addr},H3 x=none->H x=none:=λ{x} h=>by
    cases hh:H x with
    |none=>rfl
    |some o=>rw[sm _ _ hh]at h;cases h
   cases hm:isNm nm with
   |false=>
    rw[if_pos (by simp)];exact k.elim (λ⟨_,_,_,q,_⟩=>by rw[hm]at q;cases q) λq=>q.2 _ sm
   |true=>
    rw[if_neg (by simp)];rcases kx z (-2147483648) 2147483647 with en|⟨n,en⟩
    ·rw[en,if_pos (by simp)];exact k.elim (λ⟨_,q,_⟩=>by rw[en]at q;cases q) λq=>q.2 _ sm
    rw[en,if_neg (by simp)];by_cases hb:fL soft r
    ·have kb:=k.elim (λ⟨_,_,_,_,q,_⟩=>absurd hb q) λq=>q.2 _ sm;obtain⟨rfl,e⟩:=hb;rw[if_pos rfl];by_cases e1:r=Str.ofString "near"
     ·rw[decide_eq_true e1,if_pos rfl];exact kb
     ·rw[decide_eq_false e1,if_neg (by simp),decide_eq_true (e.resolve_left e1),if_pos rfl];exact kb
    obtain⟨k⟩:Nonempty (∀t H',H t=none->(∀x o,x≠l2->H x=some o->H' x=some o)->H' t=some (.tup [.int ((ws.length:Int) - 1),.str r,.str nm,.int n,.bl soft])->H' l2=some (.lst (gs++[.ref t]))->Q (.bl true) H'):=by
     rcases k with ⟨n',en',_,_,_,k⟩|⟨bad,_⟩
     ·rw[en]at en';cases en';exact⟨k⟩
     ·rcases bad with q|q|q|q
      ·rw[en]at q;cases q
      ·exact absurd hT q
      ·rw[hm]at q;cases q
      ·exact absurd q hb
    have fin:∀t,H3 t=none->upd H3 t (HO.tup [V.int ((ws.length:Int) - 1),V.str r,V.str nm,V.int n,V.bl soft]) l2=some (HO.lst gs)/\gs.length<sizeLine/\Q (V.bl true) (upd (upd H3 t (HO.tup [V.int ((ws.length:Int) - 1),V.str r,V.str nm,V.int n,V.bl soft])) l2 (HO.lst (gs++[V.ref t]))):=λt ht=>by
     have n2:l2≠t:=cT (sm _ _ hl2) ht;refine⟨by rw[ae n2];exact sm _ _ hl2,by rw[sizeLine_eq];omega,k t _ (back ht) (λx o n e=>?_) ?_ aE⟩
     ·have e:=sm _ _ e;rw[ae n,ae (cT e ht)];exact e
     ·rw[ae n2.symm];exact aE
    have h5:5<=sizeLine:=by rw[sizeLine_eq];decide
    cases soft with
    |true=>
     rw[if_pos rfl,decide_eq_false (λq=>hb ⟨rfl,.inl q⟩),if_neg (by simp),decide_eq_false (λq=>hb ⟨rfl,.inr q⟩),if_neg (by simp)];exact⟨_,_,_,sm _ _ hR,T.aD,T.a8,.ref l2,rfl,.inl ⟨rfl,_,aC.of (sm _ _ hl2)⟩,_,_,_,sm _ _ hR,T.aD,T.ar,.ref l,rfl,ws.length,.inl ⟨_,aC.of (sm _ _ hl),rfl⟩,h5,λt ht=>⟨l2,rfl,gs,fin t ht⟩⟩
    |false=>
     rw[if_neg (by simp)];exact⟨_,_,_,sm _ _ hR,T.aD,T.a8,.ref l2,rfl,.inl ⟨rfl,_,aC.of (sm _ _ hl2)⟩,_,_,_,sm _ _ hR,T.aD,T.ar,.ref l,rfl,ws.length,.inl ⟨_,aC.of (sm _ _ hl),rfl⟩,h5,λt ht=>⟨l2,rfl,gs,fin t ht⟩⟩
  ·rw[decide_eq_false hT,if_pos (by simp)];exact k.elim (λ⟨_,_,q,_⟩=>absurd q hT) λq=>q.2 _ (s1.trans s2)
theorem MC(T:Txt w K mg A):bo P w K mg base eI 2 A.Nq A.tE ["self", "sort", "name"] (EU A):=by
 refine T.xi.ok Lu (λvs H Q E h=>?_) (λcdv Ar outer s H vs Q E hr h=>?_)
 ·obtain⟨R,sort,nm,l,ws,xs,ns,kvs,rfl,_⟩:=h;rfl
 ·obtain⟨R,sort,nm,l,ws,xs,ns,kvs,rfl,hR,hw,hl,hls,hln,htd,hnl,hkl,hn,k⟩:=h;refine⟨_,(aL (aM (PW.pt (eY (Ky (Kp (lD hr) (pv 2) (cu (pv 0) rfl))) (dA (dZ (df (pC (BL T) hr T.yD T.u3 T.vw (ao (pv 2) aa))))))) (bE (au cy)) bD) (aL (yl (lD hr) (cu (pv 0) rfl) (pv 2) cy rfl) (aL (bU (ee (cu (pv 0) rfl) (ao (bM (ao (pv 2) (ao (pv 1) (ao (ag fK (dh (e7 (K:=K) rfl) (by rfl) T.cF bZ (ao (cu (pv 0) rfl) aa)) ah) (ao (dh (e7 (K:=K) rfl) (by rfl) T.cF bZ (ao (cu (pv 0) rfl) aa)) aa))))) aa))) (bE (au cy))))),?_⟩;walk_at "rd";walk_at "0";dsimp only at *;subst hw;refine⟨_,_,_,hR,T.aD,T.du,.ref td,rfl,td,rfl,_,fR.k (k:=Sum.inr nm) htd,?_⟩;rcases k with ⟨e1,e2,k⟩|⟨bad,k⟩
  ·rw[e1,if_neg (by simp)];refine⟨hn,λH1 s1=>?_⟩;rw[e2,if_neg (by simp)];have npd:p≠td:=bS hR htd (by intro z;cases z);have nnd:ln≠td:=bS hln htd (by intro z;cases z);have nsd:ls≠td:=bS hls htd (by intro z;cases z);have nld:l≠td:=bS hl htd (by intro z;cases z);have hp1:upd H1 td (.dK (putK kvs (.inr nm) (.bl true))) p=some (.ins A.bt dx (Pd.fs ⟨p,dx,nm0,ls,ln,.ref l,lf,td,bw⟩)):=by rw[ae npd];exact s1 _ _ hR
   have hn1:upd H1 td (.dK (putK kvs (.inr nm) (.bl true))) ln=some (.lst ns):=by rw[ae nnd];exact s1 _ _ hln
   have hs1:upd H1 td (.dK (putK kvs (.inr nm) (.bl true))) ls=some (.lst xs):=by rw[ae nsd];exact s1 _ _ hls
   have hw1:upd H1 td (.dK (putK kvs (.inr nm) (.bl true))) l=some (.lst ws):=by rw[ae nld];exact s1 _ _ hl
   refine⟨_,_,_,s1 _ _ hR,T.aD,T.du,.ref td,rfl,td,rfl,_,jh.k (k:=Sum.inr nm) (s1 _ _ htd) (by rw[sizeLine_eq];omega),_,_,_,hp1,T.aD,T.cU,.ref ln,rfl,.inl ⟨rfl,_,aC.of hn1⟩,_,_,_,hp1,T.aD,T.bA,.ref ls,rfl,xs.length,.inl ⟨_,aC.of hs1,rfl⟩,_,_,_,hp1,T.aD,T.ar,.ref l,rfl,ws.length,.inl ⟨_,aC.of hw1,rfl⟩,by walk_at "s", λt ht=>?_⟩;have ntd:t≠td:=λz=>by rw[z,aE]at ht;cases ht
   have nnt:ln≠t:=cT hn1 ht;have ht1:H1 t=none:=by rw[ae ntd]at ht;exact ht
   have ht0:H t=none:=by
    cases hh:H t with
    |none=>rfl
    |some o=>rw[s1 _ _ hh]at ht1;cases ht1
   refine⟨ln,rfl,ns,by rw[ae nnt];exact hn1,by rw[sizeLine_eq];omega,k t _ ht0 (λx o n1 n2 e=>?_) ?_ ?_ aE⟩
   ·have e:=s1 _ _ e;rw[ae n1,ae (cT e ht1),ae n2];exact e
   ·rw[ae nnd.symm,ae ntd.symm];exact aE
   ·rw[ae nnt.symm];exact aE
  ·by_cases hs:(aS kvs (.inr nm)).isSome=true
   ·rw[if_pos hs];exact k H (aA.refl H)
   ·rw[if_neg hs];refine⟨hn,λH1 s1=>?_⟩;rw[bad.resolve_left hs,if_pos (by simp)];exact k H1 s1
theorem iG{H:Hp}{l:Addr}{o:HO}(h:H l=some o):upd H l o=H:=by
 funext x;by_cases e:x=l
 ·rw[e,aE,h]
 ·rw[ae e]
def RZ(H G:Hp):Prop:=(∀x ys,H x=some (.lst ys)->G x=some (.lst ys))/\∀x ys,H x=some (.tup ys)->G x=some (.tup ys)
theorem il{H G:Hp}{q:a7}(h:Pr H q)(s:RZ H G):Pr G q:=
 ⟨s.1 _ _ h.sl,s.1 _ _ h.nl,λx hx=>⟨s.2 _ _ (h.ss x hx).top,s.1 _ _ (h.ss x hx).wd,s.1 _ _ (h.ss x hx).fl,λf hf=>s.2 _ _ ((h.ss x hx).fs f hf)⟩,λn hn=>s.2 _ _ (h.ns n hn),h.nd⟩
theorem cb{α:Type}(f:α->α):∀(xs:List α) (x:α),cj f (xs++[x])=xs++[f x]
 |[],_=>rfl
 |[y],x=>rfl
 |y::z::r,x=>by
  show y::cj f (z::r++[x])=_;rw[cb f (z::r) x];rfl
theorem Pd.Ok.mono{H0 H H':Hp}{R:Pd}{q:a7}{S:RP}{m:Nat}(h:Pd.Ok A H0 H R q S m)(s:aA H H'):Pd.Ok A H0 H' R q S m:={ h with sm:=h.sm.trans s,top:=s _ _ h.top,pr:=h.pr.mono s,td:=s _ _ h.td }
theorem Pd.Ok.obj{H0 H H':Hp}{R R':Pd}{q:a7}{S S':RP}{m:Nat}(h:Pd.Ok A H0 H R q S m)(fr:∀x o,x≠R.p->H x=some o->H' x=some o)(e1:R'.p=R.p)(e2:R'.td=R.td)(e3:R'.ls=R.ls/\R'.ln=R.ln)(ht:H' R'.p=some (.ins A.bt R'.dx R'.fs))
  (hn:R'.nm=match S'.nm with | none=>.aF | some z=>.str z) (e4:R'.lw=R.lw/\R'.lf=R.lf) (hb:R'.bw=S'.bw) (es:S'.az=S.az/\S'.aK=S.aK):Pd.Ok A H0 H' R' q S' m:=by
 have ne:∀{x:Addr}{o:HO},(∀C dx fs,o≠.ins C dx fs)->H x=some o->H' x=some o:=λ{x o} n e=>fr x o (λz=>by rw[z,h.top]at e;exact n _ _ _ (Option.some.inj e).symm) e;refine⟨λx o e=>fr _ _ (cT e h.f.1) (h.sm _ _ e),by rw[e1,e2];exact h.f,h.fl,ht,hn,by rw[e3.1,e3.2];exact h.ql,il h.pr ⟨λx ys e=>ne (by simp) e,λx ys e=>ne (by simp) e⟩,by rw[es.1];exact h.az,by rw[es.2];exact h.aK,by rw[e4.1];exact h.lw,by rw[e4.2];exact h.lf,by rw[e2,es.2];exact ne (by simp) h.td,hb,h.n1⟩
theorem bX{H0 H:Hp}{x:Addr}(s:aA H0 H)(e:H x=none):H0 x=none:=by
 cases hh:H0 x with
 |none=>rfl
 |some o=>rw[s _ _ hh]at e;cases e
theorem Pd.Ok.xX{H0 H H':Hp}{R:Pd}{q:a7}{S:RP}{m:Nat}(h:Pd.Ok A H0 H R q S m){kd:Str}{n:Int}{lw lf t:Addr}(n1:lw≠lf)(f1:H lw=none)(f2:H lf=none)(f3:H t=none)
  (fr:∀x o,x≠R.p->x≠R.ls->H x=some o->H' x=some o) (h1:H' lw=some (.lst [])) (h2:H' lf=some (.lst [])) (h3:H' t=some (.tup [.str kd,.int n,.ref lw,.ref lf])) (h4:H' R.ls=some (.lst (q.az.map bT.v++[.ref t])))
  (h5:H' R.p=some (.ins A.bt R.dx (Pd.fs { R with lw:=.ref lw,lf:=.ref lf }))):Pd.Ok A H0 H' { R with lw:=.ref lw,lf:=.ref lf } { q with az:=q.az++[⟨t,lw,lf,kd,n,[],[]⟩] } { S with az:=S.az++[(kd,n,[],[])] } (m+1):=by
 have hls:=h.pr.sl;rw[h.ql.1]at hls;have nlp:R.ls≠R.p:=bS hls h.top (by intro z;cases z);have fls:H0 R.ls=none:=by rw[<-h.ql.1];exact h.fl _ (by simp[a7.lists])
 have np:∀{x:Addr}{o:HO},(∀C dx fs,o≠.ins C dx fs)->H x=some o->x≠R.p:=λ{x o} n e z=>by rw[z,h.top]at e;exact n _ _ _ (Option.some.inj e).symm
 have G:Pr (upd H' R.ls (.lst (q.az.map bT.v))) q:=by
  refine il h.pr ⟨λx ys e=>?_,λx ys e=>?_⟩
  ·by_cases z:x=R.ls
   ·rw[z]at e ⊢;rw[aE,<-hls,e]
   ·rw[ae z];exact fr x _ (np (by simp) e) z e
  ·rw[ae (bS e hls (by intro z;cases z))];exact fr x _ (np (by simp) e) (bS e hls (by intro z;cases z)) e
 have a1:lw≠R.ls:=Ne.symm (cT hls f1);have a2:lf≠R.ls:=Ne.symm (cT hls f2);have a3:t≠R.ls:=Ne.symm (cT hls f3);have P:=G.g7 (t:=t) (lw:=lw) (lf:=lf) (kind:=kd) (step:=n) (by rw[ae a3];exact h3) (by rw[ae a1];exact h1) (by rw[ae a2];exact h2) n1 (h.pr.fresh f1) (h.pr.fresh f2);have e5:upd (upd H' R.ls (.lst (q.az.map bT.v))) q.ls (.lst (q.az.map bT.v++[.ref t]))=H':=by rw[h.ql.1,cY,iG h4]
 rw[e5]at P;obtain⟨c1,c2,c3⟩:=h.n1;refine⟨λx o e=>fr _ _ (cT e h.f.1) (cT e fls) (h.sm _ _ e),h.f,λb hb=>?_,h5,h.nm,h.ql,P,?_,h.aK,?_,?_,?_,h.bw,?_⟩
 ·have e:a7.lists { q with az:=q.az++[⟨t,lw,lf,kd,n,[],[]⟩] }=q.lists++[lw,lf]:=by simp[a7.lists,bT.lists,List.flatMap_append]
  rw[e]at hb;rcases eC.mp hb with z|z
  ·exact h.fl b z
  ·simp only[List.mem_cons,List.not_mem_nil,or_false]at z;rcases z with rfl|rfl
   ·exact bX h.sm f1
   ·exact bX h.sm f2
 ·show(q.az++[_]).map sC=S.az++[_];rw[gJ,h.az];rfl
 ·show _=match (q.az++[_]).getLast? with | none=>V.aF | some s=>V.ref s.lw
  rw[wu];rfl
 ·show _=match (q.az++[_]).getLast? with | none=>V.aF | some s=>V.ref s.lf
  rw[wu];rfl
 ·exact fr _ _ (bS h.td h.top (by intro z;cases z)) (bS h.td hls (by intro z;cases z)) h.td
 ·refine⟨by show(q.az++[_]).length<=m+1;rw[cL,hJ];omega,by show q.aK.length<=m+1;omega,λs hs=>?_⟩;rcases eC.mp hs with z|z
  ·have:=c3 s z;exact⟨by omega,by omega⟩
  ·rw[iL.mp z];exact⟨gB _,gB _⟩
theorem Pd.Ok.last{H0 H:Hp}{R:Pd}{q:a7}{S:RP}{m:Nat}(h:Pd.Ok A H0 H R q S m)(hne:S.az≠[]):∃ss s,q.az=ss++[s]/\R.lw=.ref s.lw/\R.lf=.ref s.lf/\s.At H/\S.az=ss.map sC++[sC s]:=by
 have qne:q.az≠[]:=λz=>hne (by rw[<-h.az,z];rfl);obtain⟨ss,s,e⟩:∃ss s,q.az=ss++[s]:=⟨q.az.dropLast,q.az.getLast qne,(Pp qne).symm⟩
 have g:q.az.getLast?=some s:=by rw[e,wu];rfl
 refine⟨ss,s,e,by rw[h.lw,g],by rw[h.lf,g],h.pr.ss s (by rw[e];simp),by rw[<-h.az,e,List.map_append];rfl⟩
theorem Pd.Ok.word{H0 H H':Hp}{R:Pd}{q:a7}{S:RP}{m:Nat}(h:Pd.Ok A H0 H R q S m){ss:List bT}{s:bT}(e:q.az=ss++[s]){n:Int}
  (fr:∀x o,x≠s.lw->H x=some o->H' x=some o) (h1:H' s.lw=some (.lst (s.words.map V.int++[.int n]))):Pd.Ok A H0 H' R { q with az:=ss++[{ s with words:=s.words++[n] }] } { S with az:=cj (bV n) S.az } (m+1):=by
 have sa:=h.pr.ss s (by rw[e];simp);have hm:=(h.pr.gc e).1;have f0:=h.fl _ hm;walk_at "1";have P:Pr (upd H' s.lw (.lst (s.words.map V.int))) q:=by
  refine il h.pr ⟨λx ys ex=>?_,λx ys ex=>?_⟩
  ·by_cases z:x=s.lw
   ·rw[z]at ex ⊢;rw[aE,<-sa.wd,ex]
   ·rw[ae z];exact fr x _ z ex
  ·have z:=bS ex sa.wd (by intro z;cases z);rw[ae z];exact fr x _ z ex
 have P:=P.xP (i:=n) e;have e5:upd (upd H' s.lw (.lst (s.words.map V.int))) s.lw (.lst (s.words.map V.int++[.int n]))=H':=by rw[cY,iG h1]
 rw[e5]at P;obtain⟨c1,c2,c3⟩:=h.n1;have g:q.az.getLast?=some s:=by rw[e,wu];rfl
 refine⟨λx o ex=>fr _ _ (cT ex f0) (h.sm _ _ ex),h.f,λb hb=>h.fl b ?_,fr _ _ (bS h.top sa.wd (by intro z;cases z)) h.top,h.nm,h.ql,P,?_,h.aK,?_,?_,fr _ _ (bS h.td sa.wd (by intro z;cases z)) h.td,h.bw,?_⟩
 ·simp only[a7.lists,e,List.flatMap_append]at hb ⊢;exact hb
 ·show(ss++[_]).map sC=cj (bV n) S.az;rw[es,cb,gJ];rfl
 ·show _=match (ss++[_]).getLast? with | none=>V.aF | some s=>V.ref s.lw
  rw[wu,h.lw,g];rfl
 ·show _=match (ss++[_]).getLast? with | none=>V.aF | some s=>V.ref s.lf
  rw[wu,h.lf,g];rfl
 ·have cl:(ss++[s]).length<=m:=by rw[<-e];exact c1
  rw[cL,hJ]at cl;refine⟨by show(ss++[_]).length<=m+1;rw[cL,hJ];omega,by show q.aK.length<=m+1;omega,λx hx=>?_⟩;have cs:=c3 s (by rw[e];simp);rcases eC.mp hx with z|z
  ·have:=c3 x (by rw[e];exact vB _ z);exact⟨by omega,by omega⟩
  ·rw[iL.mp z];exact⟨by show(s.words++[n]).length<=m+1;rw[cL,hJ];omega,by show s.fills.length<=m+1;omega⟩
theorem Pd.Ok.fill{H0 H H':Hp}{R:Pd}{q:a7}{S:RP}{m:Nat}(h:Pd.Ok A H0 H R q S m){ss:List bT}{s:bT}(e:q.az=ss++[s]){soft:Bool}{r nm:Str}{n:Int}{t:Addr}(ft:H t=none)
  (fr:∀x o,x≠s.lf->H x=some o->H' x=some o) (h1:H' t=some (.tup [.int ((s.words.length:Int) - 1),.str r,.str nm,.int n,.bl soft])) (h2:H' s.lf=some (.lst (s.fills.map aW.v++[.ref t]))):Pd.Ok A H0 H' R { q with az:=ss++[{ s with fills:=s.fills++[⟨t,(s.words.length:Int) - 1,r,nm,n,soft⟩] }] } { S with az:=cj (cW soft r nm n) S.az } (m+1):=by
 have sa:=h.pr.ss s (by rw[e];simp);have hm:=(h.pr.gc e).2.1;have f0:=h.fl _ hm;walk_at "1";have P:Pr (upd H' s.lf (.lst (s.fills.map aW.v))) q:=by
  refine il h.pr ⟨λx ys ex=>?_,λx ys ex=>?_⟩
  ·by_cases z:x=s.lf
   ·rw[z]at ex ⊢;rw[aE,<-sa.fl,ex]
   ·rw[ae z];exact fr x _ z ex
  ·have z:=bS ex sa.fl (by intro z;cases z);rw[ae z];exact fr x _ z ex
 have nt:t≠s.lf:=Ne.symm (cT sa.fl ft);have P:=P.yp (f:=⟨t,(s.words.length:Int) - 1,r,nm,n,soft⟩) e (by show upd H' s.lf _ t=_;rw[ae nt];exact h1);have e5:upd (upd H' s.lf (.lst (s.fills.map aW.v))) s.lf (.lst (s.fills.map aW.v++[.ref t]))=H':=by rw[cY,iG h2]
 have P:Pr (upd (upd H' s.lf (.lst (s.fills.map aW.v))) s.lf (.lst (s.fills.map aW.v++[.ref t]))) _:=P;rw[e5]at P;obtain⟨c1,c2,c3⟩:=h.n1;have g:q.az.getLast?=some s:=by rw[e,wu];rfl
 refine⟨λx o ex=>fr _ _ (cT ex f0) (h.sm _ _ ex),h.f,λb hb=>h.fl b ?_,fr _ _ (bS h.top sa.fl (by intro z;cases z)) h.top,h.nm,h.ql,P,?_,h.aK,?_,?_,fr _ _ (bS h.td sa.fl (by intro z;cases z)) h.td,h.bw,?_⟩
 ·simp only[a7.lists,e,List.flatMap_append]at hb ⊢;exact hb
 ·show(ss++[_]).map sC=cj (cW soft r nm n) S.az;rw[es,cb,gJ];simp[sC,cW,fC]
 ·show _=match (ss++[_]).getLast? with | none=>V.aF | some s=>V.ref s.lw
  rw[wu,h.lw,g];rfl
 ·show _=match (ss++[_]).getLast? with | none=>V.aF | some s=>V.ref s.lf
  rw[wu,h.lf,g];rfl
 ·have cl:(ss++[s]).length<=m:=by rw[<-e];exact c1
  rw[cL,hJ]at cl;refine⟨by show(ss++[_]).length<=m+1;rw[cL,hJ];omega,by show q.aK.length<=m+1;omega,λx hx=>?_⟩;have cs:=c3 s (by rw[e];simp);rcases eC.mp hx with z|z
  ·have:=c3 x (by rw[e];exact vB _ z);exact⟨by omega,by omega⟩
  ·rw[iL.mp z];exact⟨by show s.words.length<=m+1;omega,by show(s.fills++[_]).length<=m+1;rw[cL,hJ];omega⟩
theorem Pd.Ok.told{H0 H H':Hp}{R:Pd}{q:a7}{S:RP}{m:Nat}(h:Pd.Ok A H0 H R q S m){ss:List bT}{s:bT}(e:q.az=ss++[s]){sort nm:Str}{t:Addr}(hnew:nm∉S.aK.map (·.1))(ft:H t=none)
  (fr:∀x o,x≠R.ln->x≠R.td->H x=some o->H' x=some o) (h1:H' R.td=some (.dK (putK (S.aK.map λn=>(Sum.inr n.1,V.bl true)) (.inr nm) (.bl true)))) (h2:H' t=some (.tup [.str nm,.str sort,.int ((q.az.length:Int) - 1),.int (s.words.length:Int)]))
  (h3:H' R.ln=some (.lst (q.aK.map aX.v++[.ref t]))):Pd.Ok A H0 H' R { q with aK:=q.aK++[⟨t,nm,sort,(q.az.length:Int) - 1,(s.words.length:Int)⟩] } { S with aK:=S.aK++[(nm,sort,(S.az.length:Int) - 1,cw S)] } (m+1):=by
 have hln:=h.pr.nl;rw[h.ql.2]at hln;have fln:H0 R.ln=none:=by rw[<-h.ql.2];exact h.fl _ (by simp[a7.lists])
 walk_at "1";have P:Pr (upd H' R.ln (.lst (q.aK.map aX.v))) q:=by
  refine il h.pr ⟨λx ys ex=>?_,λx ys ex=>?_⟩
  ·by_cases z:x=R.ln
   ·rw[z]at ex ⊢;rw[aE,<-hln,ex]
   ·rw[ae z];exact fr x _ z (bS ex h.td (by intro z;cases z)) ex
  ·have z:=bS ex hln (by intro z;cases z);rw[ae z];exact fr x _ z (bS ex h.td (by intro z;cases z)) ex
 have nt:t≠R.ln:=Ne.symm (cT hln ft);have P:=P.xo (n:=⟨t,nm,sort,(q.az.length:Int) - 1,(s.words.length:Int)⟩) (by show upd H' R.ln _ t=_;rw[ae nt];exact h2);have e5:upd (upd H' R.ln (.lst (q.aK.map aX.v))) q.ln (.lst (q.aK.map aX.v++[.ref t]))=H':=by rw[h.ql.2,cY,iG h3]
 have P:Pr (upd (upd H' R.ln (.lst (q.aK.map aX.v))) q.ln (.lst (q.aK.map aX.v++[.ref t]))) _:=P;rw[e5]at P;obtain⟨c1,c2,c3⟩:=h.n1;refine⟨λx o ex=>fr _ _ (cT ex fln) (cT ex h.f.2) (h.sm _ _ ex),h.f,h.fl,fr _ _ (bS h.top hln (by intro z;cases z)) (bS h.top h.td (by intro z;cases z)) h.top,h.nm,h.ql,P,h.az,?_,h.lw,h.lf,?_,h.bw,?_⟩
 ·show(q.aK++[_]).map nC=S.aK++[_];have el:cw S=(s.words.length:Int):=by unfold cw;rw[es,List.getLast?_append];rfl
  have eq:(q.az.length:Int)=(S.az.length:Int):=by rw[<-h.az,aQ]
  rw[gJ,h.aK,el,<-eq];rfl
 ·rw[h1];have nn:((S.aK.map λn=>((Sum.inr n.1:Key),V.bl true)).any λkv=>decide (kv.1=(.inr nm:Key)))=false:=by
   refine Bool.eq_false_iff.mpr λz=>?_;obtain⟨kv,hkv,ek⟩:=List.any_eq_true.mp z;obtain⟨x,hx,rfl⟩:=ji.mp hkv;have:=of_decide_eq_true ek;injection this with this;exact hnew (ji.mpr ⟨x,hx,this⟩)
  unfold putK;rw[nn,if_neg (by simp)];show _=some (HO.dK ((S.aK++[_]).map _));rw[gJ];rfl
 ·exact⟨by show q.az.length<=m+1;omega,by show(q.aK++[_]).length<=m+1;rw[cL,hJ];omega,λx hx=>by have:=c3 x hx;exact⟨by omega,by omega⟩⟩
theorem gL:decide (Str.ofString "piece" = Str.ofString "piece")=true:=by decide +kernel
theorem tw:decide (Str.ofString "piece" = Str.ofString "word")=false:=by decide +kernel
theorem fJ:decide (Str.ofString "code" = Str.ofString "piece")=false:=by decide +kernel
theorem iQ:decide (Str.ofString "code" = Str.ofString "code")=true:=by decide +kernel
theorem ug:decide (Str.ofString "code" = Str.ofString "word")=false:=by decide +kernel
theorem fh:decide (Str.ofString "data" = Str.ofString "piece")=false:=by decide +kernel
theorem iU:decide (Str.ofString "data" = Str.ofString "code")=false:=by decide +kernel
theorem i4:decide (Str.ofString "data" = Str.ofString "data")=true:=by decide +kernel
theorem uc:decide (Str.ofString "data" = Str.ofString "word")=false:=by decide +kernel
theorem fz:decide (Str.ofString "word" = Str.ofString "piece")=false:=by decide +kernel
theorem iR:decide (Str.ofString "word" = Str.ofString "code")=false:=by decide +kernel
theorem iZ:decide (Str.ofString "word" = Str.ofString "data")=false:=by decide +kernel
theorem fZ:decide (Str.ofString "word" = Str.ofString "word")=true:=by decide +kernel
theorem fM:decide (Str.ofString "fill" = Str.ofString "piece")=false:=by decide +kernel
theorem jc:decide (Str.ofString "fill" = Str.ofString "code")=false:=by decide +kernel
theorem i8:decide (Str.ofString "fill" = Str.ofString "data")=false:=by decide +kernel
theorem gp:decide (Str.ofString "fill" = Str.ofString "word")=false:=by decide +kernel
theorem iS:decide (Str.ofString "fill" = Str.ofString "fill")=true:=by decide +kernel
theorem iX:decide (Str.ofString "fill" = Str.ofString "soft")=false:=by decide +kernel
theorem fG:decide (Str.ofString "soft" = Str.ofString "piece")=false:=by decide +kernel
theorem iW:decide (Str.ofString "soft" = Str.ofString "code")=false:=by decide +kernel
theorem jb:decide (Str.ofString "soft" = Str.ofString "data")=false:=by decide +kernel
theorem f7:decide (Str.ofString "soft" = Str.ofString "word")=false:=by decide +kernel
theorem i3:decide (Str.ofString "soft" = Str.ofString "fill")=false:=by decide +kernel
theorem gf:decide (Str.ofString "soft" = Str.ofString "soft")=true:=by decide +kernel
theorem fg:decide (Str.ofString "tell" = Str.ofString "piece")=false:=by decide +kernel
theorem iP:decide (Str.ofString "tell" = Str.ofString "code")=false:=by decide +kernel
theorem iY:decide (Str.ofString "tell" = Str.ofString "data")=false:=by decide +kernel
theorem f_:decide (Str.ofString "tell" = Str.ofString "word")=false:=by decide +kernel
theorem iT:decide (Str.ofString "tell" = Str.ofString "fill")=false:=by decide +kernel
theorem ja:decide (Str.ofString "tell" = Str.ofString "soft")=false:=by decide +kernel
theorem fB:decide (Str.ofString "weak" = Str.ofString "piece")=false:=by decide +kernel
theorem i7:decide (Str.ofString "weak" = Str.ofString "code")=false:=by decide +kernel
theorem i6:decide (Str.ofString "weak" = Str.ofString "data")=false:=by decide +kernel
theorem gd:decide (Str.ofString "weak" = Str.ofString "word")=false:=by decide +kernel
theorem i9:decide (Str.ofString "weak" = Str.ofString "fill")=false:=by decide +kernel
theorem iV:decide (Str.ofString "weak" = Str.ofString "soft")=false:=by decide +kernel
theorem fY:decide (Str.ofString "own" = Str.ofString "piece")=false:=by decide +kernel
theorem kZ:decide (Str.ofString "own" = Str.ofString "code")=false:=by decide +kernel
theorem lu:decide (Str.ofString "own" = Str.ofString "data")=false:=by decide +kernel
theorem gT:decide (Str.ofString "own" = Str.ofString "word")=false:=by decide +kernel
theorem kM:decide (Str.ofString "own" = Str.ofString "fill")=false:=by decide +kernel
theorem kK:decide (Str.ofString "own" = Str.ofString "soft")=false:=by decide +kernel
theorem Cy{α:Type}{x:α}{xs:List α}:hG (x::xs) 0=some x:=by
 unfold hG A7;rw[if_pos (by decide),if_pos (by rw[jd];omega)];rfl
theorem Iq:(aS dO (Sum.inr (Str.ofString "piece"):Key)).getD .aF=.int 2:=by kernel_rfl
theorem Kz:(aS dO (Sum.inr (Str.ofString "code"):Key)).getD .aF=.int 2:=by kernel_rfl
theorem Ls:(aS dO (Sum.inr (Str.ofString "data"):Key)).getD .aF=.int 2:=by kernel_rfl
theorem LF:(aS dO (Sum.inr (Str.ofString "word"):Key)).getD .aF=.int 2:=by kernel_rfl
theorem Kw:(aS dO (Sum.inr (Str.ofString "fill"):Key)).getD .aF=.int 4:=by kernel_rfl
theorem LC:(aS dO (Sum.inr (Str.ofString "soft"):Key)).getD .aF=.int 4:=by kernel_rfl
theorem Kn:(aS dO (Sum.inr (Str.ofString "tell"):Key)).getD .aF=.int 2:=by kernel_rfl
theorem Ku:(aS dO (Sum.inr (Str.ofString "weak"):Key)).getD .aF=.int 2:=by kernel_rfl
theorem MS:(aS dO (Sum.inr (Str.ofString "own"):Key)).getD .aF=.int 2:=by kernel_rfl
theorem CH{S:RP}{r:aq}{h:Str}{ps:List Str}(er:h::ps=r.parts)(tk:S.dw r):(aS dO (.inr h)).getD .aF=.int ((h::ps).length:Int):=by
 cases r with
 |aV nm=>obtain⟨rfl,rfl⟩:=List.cons.inj er;exact Iq
 |st kd s=>
  walk_at "2";rcases tk.2.1 with rfl|rfl
  ·exact Kz
  ·exact Ls
 |word n=>obtain⟨rfl,rfl⟩:=List.cons.inj er;exact LF
 |fill soft r nm add=>
  walk_at "2";cases soft
  ·exact Kw
  ·exact LC
 |told sort nm=>
  walk_at "2";rcases tk.2.2.1 with rfl|rfl|rfl
  ·exact Kn
  ·exact Ku
  ·exact MS
theorem wC{S:RP}{r:aq}{h:Str}{ps:List Str}(er:h::ps=r.parts)(tk:S.dw r):h=Str.ofString "piece" ↔ S.nm=none:=by
 have no:∀{x:Str},decide (x=Str.ofString "piece")=false->S.nm≠none->(x=Str.ofString "piece" ↔ S.nm=none):=λ{x} a b=>⟨λq=>absurd q (of_decide_eq_false a),λq=>absurd q b⟩;cases r with
 |aV nm=>obtain⟨rfl,rfl⟩:=List.cons.inj er;exact⟨λ_=>tk.1,λ_=>rfl⟩
 |st kd s=>
  walk_at "2";rcases tk.2.1 with rfl|rfl
  ·exact no fJ tk.1
  ·exact no fh tk.1
 |word n=>obtain⟨rfl,rfl⟩:=List.cons.inj er;exact no fz tk.1
 |fill soft r nm add=>
  walk_at "2";cases soft
  ·exact no fM tk.1
  ·exact no fG tk.1
 |told sort nm=>
  walk_at "2";rcases tk.2.2.1 with rfl|rfl|rfl
  ·exact no fg tk.1
  ·exact no fB tk.1
  ·exact no fY tk.1
theorem kY{ns:List cq}{nm:Str}(h:nm∉ns.map (·.1)):aS (ns.map λn=>((Sum.inr n.1:Key),V.bl true)) (.inr nm)=none:=by
 unfold aS;rw[List.find?_eq_none.mpr]
 ·rfl
 ·intro x hx e;obtain⟨n,hn,rfl⟩:=ji.mp hx;have e:=of_decide_eq_true e;injection e with e;exact h (ji.mpr ⟨n,hn,e⟩)
theorem kr{ns:List cq}{nm:Str}(h:nm∈ns.map (·.1)):(aS (ns.map λn=>((Sum.inr n.1:Key),V.bl true)) (.inr nm)).isSome=true:=by
 cases e:aS (ns.map λn=>((Sum.inr n.1:Key),V.bl true)) (.inr nm) with
 |some v=>rfl
 |none=>
  unfold aS at e;have e:=Option.map_eq_none_iff.mp e;obtain⟨n,hn,en⟩:=ji.mp h;exact absurd (decide_eq_true (by rw[en])) (List.find?_eq_none.mp e (Sum.inr n.1,V.bl true) (ji.mpr ⟨n,hn,rfl⟩))
theorem Pd.Ok.weak{H0 H:Hp}{R:Pd}{q:a7}{S S':RP}{m m':Nat}(h:Pd.Ok A H0 H R q S m)(e:S=S')(hm:m<=m'):Pd.Ok A H0 H R q S' m':=by
 subst e;obtain⟨c1,c2,c3⟩:=h.n1;exact { h with n1:=⟨by omega,by omega,λs hs=>by have:=c3 s hs;exact⟨by omega,by omega⟩⟩ }
theorem FH(h:Str):(aS dO (.inr h)).getD .aF=.aF\/∃n,(aS dO (.inr h)).getD .aF=.int n:=by
 cases e:aS dO (.inr h) with
 |none=>exact .inl rfl
 |some v=>
  refine .inr ?_;unfold aS at e;obtain⟨p,hp,rfl⟩:=Cr.mp e;have hm:=List.mem_of_find?_eq_some hp;unfold dO at hm;simp only[List.mem_cons,List.not_mem_nil,or_false]at hm;rcases hm with rfl|rfl|rfl|rfl|rfl|rfl|rfl|rfl|rfl<;>exact⟨_,rfl⟩
theorem Mu(T:Txt w K mg A):bo P w K mg base eI 9 A.N0 A.rE ["self", "parts"] (zO A):=by
 refine T.ya.ok vV (λvs H Q E h=>?_) (λcdv Ar outer s H vs Q E hr h=>?_)
 ·obtain⟨H0,R,q,l,h,ps,S,m,rfl,_⟩:=h;rfl
 ·obtain⟨H0,R,q,l,h,ps,S,m,rfl,hl,hR,hm,hpl,k⟩:=h
  refine⟨_,(aL (pS 2 vV.nd (bH (dv (K:=K) rfl) (pv 1) ah (λ_ _=>rfl))) (aL (pS 3 vV.nd (cu (pv 0) rfl)) (aL (dB (pv 0) (c0 ba (pv 2) af (ax _)) rfl) (aL (aM (PW.pt (eY (br uY (dh (e7 (K:=K) rfl) (by rfl) T.cF bZ (ao (pv 1) aa)) (Ib (cg (v:=.ref A.h7) rfl T.xn rfl) T.IY (pv 2) ⟨rfl,rfl,rfl,rfl⟩) (ax _)) (dA (br uY (c0 ba (pv 2) af (ax _)) (c0 g_ (cu (pv 0) rfl) cG (ax _)) (ax _))))) (bE (au cy)) bD) (cJ (u:=kA A) (aL (aM (br ba (pv 2) af (ax _)) (bE (au (gz (pv 0) T.aD T.EF (OO T) (hr.mono (by decide)) T.G2 .nil eW (ao (bH (dv (K:=K) rfl) (pv 1) ah (λ_ _=>rfl)) aa)))) bD) (aL (aM (PW.pt (eY (br ba (pv 2) af (ax _)) (dA (br ba (pv 2) af (ax _))))) (bE (au (gz (pv 0) T.aD T.FP (OU T) (hr.mono (by decide)) T.Fw .nil eW (ao (pv 2) (ao (bH (dv (K:=K) rfl) (pv 1) ah (λ_ _=>rfl)) aa))))) bD) (aL (aM (br g_ (cu (pv 0) rfl) cG (ax _)) (bE (au cy)) bD) (aL (aM (br ba (pv 2) af (ax _)) (bE (au (gz (pv 0) T.aD T.F2 (Nk T) (hr.mono (by decide)) T.Ct .nil eW (ao (bH (dv (K:=K) rfl) (pv 1) ah (λ_ _=>rfl)) aa)))) bD) (aL (aM (PW.pt (eY (br ba (pv 2) af (ax _)) (dA (br ba (pv 2) af (ax _))))) (bE (au (pU (pv 3) (pf (gz (pv 0) T.aD T.Ef (N_ T) (hr.mono (by decide)) T.CI .nil eW (ao (c0 ba (pv 2) af (ax _)) (ao (bH (dv (K:=K) rfl) (pv 1) ah (λ_ _=>rfl)) (ao (bH (dv (K:=K) rfl) (pv 1) ah (λ_ _=>rfl)) (ao (bH (dv (K:=K) rfl) (pv 1) ah (λ_ _=>rfl)) aa))))))))) bD) (bE (au (gz (pv 0) T.aD T.CP (MC T) (hr.mono (by decide)) T.EG .nil eW (ao (pv 2) (ao (bH (dv (K:=K) rfl) (pv 1) ah (λ_ _=>rfl)) aa)))))))))) ?ka))))),?main⟩
  case main=>
   walk_at "rd";have hlp:l≠R.p:=bS hl hR.top (by intro z;cases z);have e1:decide (V.str h=V.str (Str.ofString "word"))=decide (h=Str.ofString "word"):=by simp
   have O:Pd.Ok A H0 (upd H R.p (.ins A.bt R.dx (Pd.fs { R with bw:=decide (h=Str.ofString "word") }))) { R with bw:=decide (h=Str.ofString "word") } q { S with bw:=decide (h=Str.ofString "word") } m:=
    hR.obj (λx o n e=>by rw[ae n];exact e) rfl rfl ⟨rfl,rfl⟩ aE hR.nm ⟨rfl,rfl⟩ rfl ⟨rfl,rfl⟩
   have l1:∀o,upd H R.p o l=some (.lst ((h::ps).map V.str)):=λo=>by rw[ae hlp];exact hl
   have hn:R.nm=.aF↔S.nm=none:=by
    rw[hR.nm];cases S.nm with
    |none=>exact⟨λ_=>rfl,λ_=>rfl⟩
    |some z=>exact⟨(λq=>by cases q),(λq=>by cases q)⟩
   refine⟨_,aC.of hl,_,Cy,_,_,_,hR.top,T.aD,T.bB,.bl R.bw,rfl,rfl,_,_,_,hR.top,T.aD,T.bB,by show 7<1000;decide,(h::ps).length,.inl ⟨_,aC.of (l1 _),by rw[aQ]⟩,Sum.inr h,rfl,?_,?_⟩
   ·show(match V.int _,(aS dO (.inr h)).getD .aF with | V.aF,V.aF=>true | V.aF,V.int i=>true | V.int i,V.aF=>true | V.aF,V.bl b=>true | V.bl b,V.aF=>true | V.aF,V.str x=>true | V.str x,V.aF=>true | V.int i,V.int i_1=>true | V.bl b,V.bl b_1=>true | V.str x,V.str x_8=>true | V.vC b,V.vC b_1=>true | V.int i,V.str x=>true | V.str x,V.int i=>true | V.bl b,V.str x=>true | V.str x,V.bl b=>true | x,x_8=>false)=true;rcases FH h with e|⟨n,e⟩<;>rw[e]
   rw[e1,show putF (Str.ofString "behind_word") (V.bl (decide (h=Str.ofString "word"))) R.fs=Pd.fs { R with bw:=decide (h=Str.ofString "word") } from rfl];have l2:=l1 (.ins A.bt R.dx (Pd.fs { R with bw:=decide (h=Str.ofString "word") }));generalize upd H R.p (.ins A.bt R.dx (Pd.fs { R with bw:=decide (h=Str.ofString "word") }))=H1 at *;show if (!decide (V.int _=(aS dO (.inr h)).getD V.aF))=true then _ else _;by_cases hv:(aS dO (.inr h)).getD .aF=.int ((h::ps).length:Int)
   ·rw[decide_eq_true hv.symm,if_neg (by simp)];refine⟨rfl,_,_,_,O.top,T.aD,T.cO,R.nm,rfl,?_⟩;have e2:decide (V.str h=V.str (Str.ofString "piece"))=decide (h=Str.ofString "piece"):=by simp
    rw[e2];by_cases hf:h=Str.ofString "piece" ↔ S.nm=none
    ·have e3:decide (h=Str.ofString "piece")=decide (R.nm=V.aF):=by rw[decide_eq_decide];exact hf.trans hn.symm
     rw[e3,if_neg (by simp)];exact⟨H0,{ R with bw:=decide (h=Str.ofString "word") },q,l,h,ps,S,m,by rw[hR.bw],l2,O,hm,hpl,hv,hf,k⟩
    ·have e3:¬decide (h=Str.ofString "piece")=decide (R.nm=V.aF):=by rw[decide_eq_decide];exact λz=>hf (z.trans hn)
     rw[decide_eq_false e3,if_pos (by simp)];exact k.elim (λ⟨r,er,tk,_⟩=>absurd (wC er tk) hf) λz=>z.2 _ O.sm
   ·rw[decide_eq_false (λz=>hv z.symm),if_pos (by simp)];exact k.elim (λ⟨r,er,tk,_⟩=>absurd (CH er tk) hv) λz=>z.2 _ O.sm
  case ka=>
   rintro D σ H ⟨H0,R,q,l,h,ps,S,m,rfl,hl,hR,hm,hpl,hv,hn,k⟩;walk_at "rd";rcases k with ⟨r,er,tk,k⟩|⟨bad,k⟩
   ·cases r with
    |aV nm=>
     walk_at "2";rw[show decide ((Str.ofString "piece")=Str.ofString "piece")=true from gL,if_pos rfl];refine⟨_,_,hR.top,rfl,_,aC.of hl,_,rfl,R,rfl,nm,rfl,hR.top,(hpl nm (by simp)).1,.inl ⟨tk.2,λH' fr ht=>?_⟩⟩;refine k { R with nm:=.str nm } q H' rfl ((hR.obj (R':={ R with nm:=.str nm }) (S':=S.next (.aV nm)) fr rfl rfl ⟨rfl,rfl⟩ ht rfl ⟨rfl,rfl⟩ ?_ ⟨rfl,rfl⟩).weak rfl (Nat.le_succ _));show R.bw=false;rw[hR.bw];exact tw
    |st kd s=>
     walk_at "2";rcases tk.2.1 with rfl|rfl
     ·rw[fJ,if_neg (by simp),iQ,if_pos rfl];refine⟨_,_,hR.top,rfl,_,aC.of hl,_,rfl,R,rfl,_,rfl,hR.top,_,by rw[<-hR.ql.1];exact hR.pr.sl,by rw[aQ];have:=hR.n1.1;omega,(hpl (nS s) (by simp)).1,.inl ⟨s,tk.2.2,λlw lf t H' n1 f1 f2 f3 fr a1 a2 a3 a4 a5=>?_⟩⟩;exact k { R with lw:=.ref lw,lf:=.ref lf } _ H' rfl ((hR.xX n1 f1 f2 f3 fr a1 a2 a3 a4 a5).weak (S':=S.next (.st (Str.ofString "code") s)) (by simp[RP.next,ug]) (Nat.le_refl _))
     ·rw[fh,if_neg (by simp),iU,if_neg (by simp),i4,if_pos rfl];refine⟨_,_,hR.top,rfl,_,aC.of hl,_,rfl,R,rfl,_,rfl,hR.top,_,by rw[<-hR.ql.1];exact hR.pr.sl,by rw[aQ];have:=hR.n1.1;omega,(hpl (nS s) (by simp)).1,.inl ⟨s,tk.2.2,λlw lf t H' n1 f1 f2 f3 fr a1 a2 a3 a4 a5=>?_⟩⟩;exact k { R with lw:=.ref lw,lf:=.ref lf } _ H' rfl ((hR.xX n1 f1 f2 f3 fr a1 a2 a3 a4 a5).weak (S':=S.next (.st (Str.ofString "data") s)) (by simp[RP.next,uc]) (Nat.le_refl _))
    |word n=>
     walk_at "2";walk_at "3";walk_at "4";rw[show decide ((Str.ofString "word")=Str.ofString "piece")=false from fz,if_neg (by simp),iR,if_neg (by simp),iZ,if_neg (by simp)];refine⟨_,_,_,hR.top,T.aD,T.ar,R.lw,rfl,?_⟩;walk_at "5";rw[fZ,if_pos rfl];refine⟨_,_,hR.top,rfl,_,aC.of hl,_,rfl,R,rfl,_,rfl,hR.top,s.lw,elw,_,sa.wd,by rw[aQ];omega,(hpl (nS n) (by simp)).1,.inl ⟨n,?_,λH' fr a1=>?_⟩⟩
     ·have e:=eT (n:=n) (lo:=0) (hi:=4294967295) (by have:=tk.2.2;omega) (by have:=tk.2.2;omega);rw[if_pos tk.2.2]at e;exact e
     ·exact k R _ H' rfl ((hR.word es fr a1).weak (S':=S.next (.word n)) (by simp[RP.next,fZ]) (Nat.le_refl _))
    |fill soft r nm add=>
     walk_at "3";walk_at "4";cases soft
     ·have er:h::ps=[Str.ofString "fill", r,nm,nS add]:=er;walk_at "2";rw[fM,if_neg (by simp),jc,if_neg (by simp),i8,if_neg (by simp)];refine⟨_,_,_,hR.top,T.aD,T.ar,R.lw,rfl,?_⟩;walk_at "5";rw[gp,if_neg (by simp),iS,if_pos rfl,if_pos tk.2.2.1];refine⟨_,_,hR.top,rfl,_,aC.of hl,_,rfl,_,aC.of hl,_,rfl,_,aC.of hl,_,rfl,R,rfl,r,rfl,nm,rfl,nS add,rfl,hR.top,s.lw,elw,s.lf,_,sa.wd,elf,_,sa.fl,by rw[aQ];omega,by rw[aQ];omega,(hpl (nS add) (by simp)).1,(hpl nm (by simp)).1,(hpl r (by simp)).1,(hpl r (by simp)).2,.inl ⟨add,?_,tk.2.2.2.1,tk.2.2.2.2.1,?_,λt H' ft fr a1 a2=>?_⟩⟩
      ·have e:=eT (n:=add) (lo := -2147483648) (hi:=2147483647) (by have:=tk.2.2.2.2.2.2;omega) (by have:=tk.2.2.2.2.2.2;omega);rw[if_pos tk.2.2.2.2.2.2]at e;exact e
      ·rw[iX];exact tk.2.2.2.2.2.1
      ·rw[iX,aQ]at a1;exact k R _ H' rfl ((hR.fill es ft fr a1 a2).weak (S':=S.next (.fill false r nm add)) (by simp[RP.next,gp]) (Nat.le_refl _))
     ·have er:h::ps=[Str.ofString "soft", r,nm,nS add]:=er;walk_at "2";rw[fG,if_neg (by simp),iW,if_neg (by simp),jb,if_neg (by simp)];refine⟨_,_,_,hR.top,T.aD,T.ar,R.lw,rfl,?_⟩;walk_at "5";rw[f7,if_neg (by simp),i3,if_neg (by simp),gf,if_pos rfl,if_pos tk.2.2.1];refine⟨_,_,hR.top,rfl,_,aC.of hl,_,rfl,_,aC.of hl,_,rfl,_,aC.of hl,_,rfl,R,rfl,r,rfl,nm,rfl,nS add,rfl,hR.top,s.lw,elw,s.lf,_,sa.wd,elf,_,sa.fl,by rw[aQ];omega,by rw[aQ];omega,(hpl (nS add) (by simp)).1,(hpl nm (by simp)).1,(hpl r (by simp)).1,(hpl r (by simp)).2,.inl ⟨add,?_,tk.2.2.2.1,tk.2.2.2.2.1,?_,λt H' ft fr a1 a2=>?_⟩⟩
      ·have e:=eT (n:=add) (lo := -2147483648) (hi:=2147483647) (by have:=tk.2.2.2.2.2.2;omega) (by have:=tk.2.2.2.2.2.2;omega);rw[if_pos tk.2.2.2.2.2.2]at e;exact e
      ·exact tk.2.2.2.2.2.1
      ·rw[aQ]at a1;exact k R _ H' rfl ((hR.fill es ft fr a1 a2).weak (S':=S.next (.fill true r nm add)) (by simp[RP.next,f7]) (Nat.le_refl _))
    |told sort nm=>
     walk_at "2";walk_at "3";walk_at "4";rcases tk.2.2.1 with rfl|rfl|rfl
     ·rw[fg,if_neg (by simp),iP,if_neg (by simp),iY,if_neg (by simp)];refine⟨_,_,_,hR.top,T.aD,T.ar,R.lw,rfl,?_⟩;walk_at "5";rw[f_,if_neg (by simp),iT,if_neg (by simp),ja,if_neg (by simp)];refine⟨_,_,hR.top,rfl,_,aC.of hl,_,rfl,R,rfl,nm,rfl,hR.top,s.lw,elw,_,sa.wd,_,by rw[<-hR.ql.1];exact hR.pr.sl,_,by rw[<-hR.ql.2];exact hR.pr.nl,_,hR.td,by rw[aQ];have:=hR.n1.2.1;omega,by rw[aQ,<-hR.aK,aQ];have:=hR.n1.2.1;omega,(hpl nm (by simp)).1,.inl ⟨kY tk.2.2.2.2,tk.2.2.2.1,λt H' ft fr a1 a2 a3=>?_⟩⟩;rw[aQ,aQ]at a2;exact k R _ H' rfl ((hR.told es tk.2.2.2.2 ft fr a1 a2 a3).weak (S':=S.next (.told (Str.ofString "tell") nm)) (by simp[RP.next,f_,cw]) (Nat.le_refl _))
     ·rw[fB,if_neg (by simp),i7,if_neg (by simp),i6,if_neg (by simp)];refine⟨_,_,_,hR.top,T.aD,T.ar,R.lw,rfl,?_⟩;walk_at "5";rw[gd,if_neg (by simp),i9,if_neg (by simp),iV,if_neg (by simp)];refine⟨_,_,hR.top,rfl,_,aC.of hl,_,rfl,R,rfl,nm,rfl,hR.top,s.lw,elw,_,sa.wd,_,by rw[<-hR.ql.1];exact hR.pr.sl,_,by rw[<-hR.ql.2];exact hR.pr.nl,_,hR.td,by rw[aQ];have:=hR.n1.2.1;omega,by rw[aQ,<-hR.aK,aQ];have:=hR.n1.2.1;omega,(hpl nm (by simp)).1,.inl ⟨kY tk.2.2.2.2,tk.2.2.2.1,λt H' ft fr a1 a2 a3=>?_⟩⟩;rw[aQ,aQ]at a2;exact k R _ H' rfl ((hR.told es tk.2.2.2.2 ft fr a1 a2 a3).weak (S':=S.next (.told (Str.ofString "weak") nm)) (by simp[RP.next,gd,cw]) (Nat.le_refl _))
     ·rw[fY,if_neg (by simp),kZ,if_neg (by simp),lu,if_neg (by simp)];refine⟨_,_,_,hR.top,T.aD,T.ar,R.lw,rfl,?_⟩;walk_at "5";rw[gT,if_neg (by simp),kM,if_neg (by simp),kK,if_neg (by simp)];refine⟨_,_,hR.top,rfl,_,aC.of hl,_,rfl,R,rfl,nm,rfl,hR.top,s.lw,elw,_,sa.wd,_,by rw[<-hR.ql.1];exact hR.pr.sl,_,by rw[<-hR.ql.2];exact hR.pr.nl,_,hR.td,by rw[aQ];have:=hR.n1.2.1;omega,by rw[aQ,<-hR.aK,aQ];have:=hR.n1.2.1;omega,(hpl nm (by simp)).1,.inl ⟨kY tk.2.2.2.2,tk.2.2.2.1,λt H' ft fr a1 a2 a3=>?_⟩⟩;rw[aQ,aQ]at a2;exact k R _ H' rfl ((hR.told es tk.2.2.2.2 ft fr a1 a2 a3).weak (S':=S.next (.told (Str.ofString "own") nm)) (by simp[RP.next,gT,cw]) (Nat.le_refl _))
   ·have lwn:S.az=[]->R.lw=.aF:=λe=>by
     have e2:q.az=[]:=by have:=hR.az;rw[show({ S with bw:=decide (h=Str.ofString "word") }:RP).az=S.az from rfl,e]at this;exact List.map_eq_nil_iff.mp this
     rw[hR.lw,e2];rfl
    cases bad with
    |len hb=>exact absurd hv hb
    |first hb=>exact absurd hn hb
    |aV ha=>
     rw[gL,if_pos rfl];exact⟨_,_,hR.top,rfl,_,aC.of hl,_,rfl,R,rfl,_,rfl,hR.top,(hpl _ (by simp)).1,.inr ⟨ha,λH' s=>k _ (hR.sm.trans s)⟩⟩
    |st hk ha=>
     rcases hk with rfl|rfl
     ·rw[fJ,if_neg (by simp),iQ,if_pos rfl];exact⟨_,_,hR.top,rfl,_,aC.of hl,_,rfl,R,rfl,_,rfl,hR.top,_,by rw[<-hR.ql.1];exact hR.pr.sl,by rw[aQ];have:=hR.n1.1;omega,(hpl _ (by simp)).1,.inr ⟨ha,λH' s=>k _ (hR.sm.trans s)⟩⟩
     ·rw[fh,if_neg (by simp),iU,if_neg (by simp),i4,if_pos rfl];exact⟨_,_,hR.top,rfl,_,aC.of hl,_,rfl,R,rfl,_,rfl,hR.top,_,by rw[<-hR.ql.1];exact hR.pr.sl,by rw[aQ];have:=hR.n1.1;omega,(hpl _ (by simp)).1,.inr ⟨ha,λH' s=>k _ (hR.sm.trans s)⟩⟩
    |empty he h1 h2=>
     rw[decide_eq_false h2,if_neg (by simp),decide_eq_false (λz=>h1 (.inl z)),if_neg (by simp),decide_eq_false (λz=>h1 (.inr z)),if_neg (by simp)];refine⟨_,_,_,hR.top,T.aD,T.ar,R.lw,rfl,?_⟩;rw[lwn he,if_pos (by simp)];exact k _ hR.sm
    |word ha=>
     rw[fz,if_neg (by simp),iR,if_neg (by simp),iZ,if_neg (by simp)];refine⟨_,_,_,hR.top,T.aD,T.ar,R.lw,rfl,?_⟩;by_cases hs:S.az=[]
     ·rw[lwn hs,if_pos (by simp)];exact k _ hR.sm
     walk_at "6";walk_at "4";walk_at "5";rw[fZ,if_pos rfl];exact⟨_,_,hR.top,rfl,_,aC.of hl,_,rfl,R,rfl,_,rfl,hR.top,s.lw,elw,_,sa.wd,by rw[aQ];omega,(hpl _ (by simp)).1,.inr ⟨ha,λH' s=>k _ (hR.sm.trans s)⟩⟩
    |fill hh ha=>
     rcases hh with rfl|rfl
     ·rw[fM,if_neg (by simp),jc,if_neg (by simp),i8,if_neg (by simp)];refine⟨_,_,_,hR.top,T.aD,T.ar,R.lw,rfl,?_⟩;by_cases hs:S.az=[]
      ·rw[lwn hs,if_pos (by simp)];exact k _ hR.sm
      walk_at "6";walk_at "4";walk_at "5";rw[gp,if_neg (by simp),iS,if_pos rfl];by_cases hb:S.bw=true
      ·rw[if_pos hb];refine⟨_,_,hR.top,rfl,_,aC.of hl,_,rfl,_,aC.of hl,_,rfl,_,aC.of hl,_,rfl,R,rfl,_,rfl,_,rfl,_,rfl,hR.top,s.lw,elw,s.lf,_,sa.wd,elf,_,sa.fl,by rw[aQ];omega,by rw[aQ];omega,(hpl _ (by simp)).1,(hpl _ (by simp)).1,(hpl _ (by simp)).1,(hpl _ (by simp)).2,.inr ⟨?_,λH' s=>k _ (hR.sm.trans s)⟩⟩;have ha:=ha.resolve_left (λz=>by rw[hb]at z;cases z);exact ha
      ·rw[if_neg hb];exact k _ hR.sm
     ·rw[fG,if_neg (by simp),iW,if_neg (by simp),jb,if_neg (by simp)];refine⟨_,_,_,hR.top,T.aD,T.ar,R.lw,rfl,?_⟩;by_cases hs:S.az=[]
      ·rw[lwn hs,if_pos (by simp)];exact k _ hR.sm
      walk_at "6";walk_at "4";walk_at "5";rw[f7,if_neg (by simp),i3,if_neg (by simp),gf,if_pos rfl];by_cases hb:S.bw=true
      ·rw[if_pos hb];refine⟨_,_,hR.top,rfl,_,aC.of hl,_,rfl,_,aC.of hl,_,rfl,_,aC.of hl,_,rfl,R,rfl,_,rfl,_,rfl,_,rfl,hR.top,s.lw,elw,s.lf,_,sa.wd,elf,_,sa.fl,by rw[aQ];omega,by rw[aQ];omega,(hpl _ (by simp)).1,(hpl _ (by simp)).1,(hpl _ (by simp)).1,(hpl _ (by simp)).2,.inr ⟨?_,λH' s=>k _ (hR.sm.trans s)⟩⟩;have ha:=ha.resolve_left (λz=>by rw[hb]at z;cases z);rw[gf]at ha;exact ha
      ·rw[if_neg hb];exact k _ hR.sm
    |told hh ha=>
     rcases hh with rfl|rfl|rfl
     ·rw[fg,if_neg (by simp),iP,if_neg (by simp),iY,if_neg (by simp)];refine⟨_,_,_,hR.top,T.aD,T.ar,R.lw,rfl,?_⟩;by_cases hs:S.az=[]
      ·rw[lwn hs,if_pos (by simp)];exact k _ hR.sm
      walk_at "6";walk_at "4";walk_at "5";rw[f_,if_neg (by simp),iT,if_neg (by simp),ja,if_neg (by simp)];refine⟨_,_,hR.top,rfl,_,aC.of hl,_,rfl,R,rfl,_,rfl,hR.top,s.lw,elw,_,sa.wd,_,by rw[<-hR.ql.1];exact hR.pr.sl,_,by rw[<-hR.ql.2];exact hR.pr.nl,_,hR.td,by rw[aQ];have:=hR.n1.2.1;omega,by rw[aQ,<-hR.aK,aQ];have:=hR.n1.2.1;omega,(hpl _ (by simp)).1,.inr ⟨ha.imp (λz=>kr z) id,λH' s=>k _ (hR.sm.trans s)⟩⟩
     ·rw[fB,if_neg (by simp),i7,if_neg (by simp),i6,if_neg (by simp)];refine⟨_,_,_,hR.top,T.aD,T.ar,R.lw,rfl,?_⟩;by_cases hs:S.az=[]
      ·rw[lwn hs,if_pos (by simp)];exact k _ hR.sm
      walk_at "6";walk_at "4";walk_at "5";rw[gd,if_neg (by simp),i9,if_neg (by simp),iV,if_neg (by simp)];refine⟨_,_,hR.top,rfl,_,aC.of hl,_,rfl,R,rfl,_,rfl,hR.top,s.lw,elw,_,sa.wd,_,by rw[<-hR.ql.1];exact hR.pr.sl,_,by rw[<-hR.ql.2];exact hR.pr.nl,_,hR.td,by rw[aQ];have:=hR.n1.2.1;omega,by rw[aQ,<-hR.aK,aQ];have:=hR.n1.2.1;omega,(hpl _ (by simp)).1,.inr ⟨ha.imp (λz=>kr z) id,λH' s=>k _ (hR.sm.trans s)⟩⟩
     ·rw[fY,if_neg (by simp),kZ,if_neg (by simp),lu,if_neg (by simp)];refine⟨_,_,_,hR.top,T.aD,T.ar,R.lw,rfl,?_⟩;by_cases hs:S.az=[]
      ·rw[lwn hs,if_pos (by simp)];exact k _ hR.sm
      walk_at "6";walk_at "4";walk_at "5";rw[gT,if_neg (by simp),kM,if_neg (by simp),kK,if_neg (by simp)];refine⟨_,_,hR.top,rfl,_,aC.of hl,_,rfl,R,rfl,_,rfl,hR.top,s.lw,elw,_,sa.wd,_,by rw[<-hR.ql.1];exact hR.pr.sl,_,by rw[<-hR.ql.2];exact hR.pr.nl,_,hR.td,by rw[aQ];have:=hR.n1.2.1;omega,by rw[aQ,<-hR.aK,aQ];have:=hR.n1.2.1;omega,(hpl _ (by simp)).1,.inr ⟨ha.imp (λz=>kr z) id,λH' s=>k _ (hR.sm.trans s)⟩⟩
theorem Pd.Ok.below{H0 H1 H:Hp}{R:Pd}{q:a7}{S:RP}{m:Nat}(h:Pd.Ok A H1 H R q S m)(s:aA H0 H1):Pd.Ok A H0 H R q S m:=
 { h with sm:=s.trans h.sm,f:=⟨bX s h.f.1,bX s h.f.2⟩,fl:=λb hb=>bX s (h.fl b hb) }
theorem aq.ne(r:aq):r.parts≠[]:=by cases r<;>simp[aq.parts]
theorem aq.cons(r:aq):∃h ps,r.parts=h::ps:=by cases r<;>exact⟨_,_,rfl⟩
theorem iM:Str.ofString " " = ⟨#[32]⟩:=by decide +kernel
theorem Kt:Str.ofString "\n" = ⟨#[10]⟩:=by decide +kernel
theorem eV{rows:List aq}{i:Nat}{r:aq}(h:rows[i]?=some r):bO rows (i+1)=(bO rows i).next r:=by
 unfold bO;rw[List.take_succ,h];simp
theorem mem_join{c:Nat}{sep:Str}:∀{ps:List Str},c∈(Str.join sep ps).cps.toList->(∃p∈ps,c∈p.cps.toList)\/c∈sep.cps.toList
 |[],h=>by
  have h:c∈(Str.empty).cps.toList:=h;rw[show(Str.empty).cps.toList=[] from rfl]at h;cases h
 |[x],h=>.inl ⟨x,iL.mpr rfl,h⟩
 |x::y::r,h=>by
  have h:c∈(x++sep++Str.join sep (y::r)).cps.toList:=h;rw[show(x++sep++Str.join sep (y::r)).cps=x.cps++sep.cps++(Str.join sep (y::r)).cps from rfl,AY,AY]at h;rcases eC.mp h with h|h
  ·rcases eC.mp h with h|h
   ·exact .inl ⟨x,wX,h⟩
   ·exact .inr h
  ·rcases mem_join h with ⟨p,hp,hc⟩|hc
   ·exact .inl ⟨p,t_ _ hp,hc⟩
   ·exact .inr hc
theorem aq.good{r:aq}(h:r.Small):(ak r).length<=1000/\10∉(ak r).cps.toList/\∀p∈r.parts,32∉p.cps.toList:=by
 have l4:r.parts.length<=4:=by cases r<;>simp[aq.parts]
 have lb:(Str.ofString " ").length=1:=by decide +kernel
 refine⟨?_,λhc=>?_,λp hp=>(h p hp).2.2.1⟩
 ·have:=join_le (sep:=Str.ofString " ") (B:=241) λt ht=>(h t ht).1;rw[lb]at this;unfold ak;omega
 ·unfold ak at hc;rw[b_]at hc;rcases mem_join hc with ⟨p,hp,hc⟩|hc
  ·exact(h p hp).2.1 hc
  ·revert hc;decide +kernel
theorem dQ{p:Int}(h:xh p):p.natAbs.log2<240:=by
 unfold xh at h;by_cases hz:p.natAbs=0
 ·rw[hz];decide
 ·exact(Nat.log2_lt (n:=p.natAbs) (k:=240) hz).mpr (by omega)
theorem dq{p:Int}(h:xh p):(Str.ofString (toString p)).length<=241:=by
 open PySem in
 rw[PySem.ofString_length];exact int_text_length_le (by decide) (dQ h)
theorem jo{H:Hp}{p q:Addr}{o:HO}(h:upd H p o q=none):q≠p/\H q=none:=by
 have n:q≠p:=λe=>by rw[e,aE]at h;cases h
 exact⟨n,by rw[ae n]at h;exact h⟩
theorem ND(T:Txt w K mg A):bo P w K mg base eI 1 A.JV A.qb ["self", "row"] (Aq A):=by
 refine T.y9.ok K3 (λvs H Q E h=>?_) (λcdv Ar outer s H vs Q E hr h=>?_)
 ·obtain⟨a,p,rfl,_⟩:=h;rfl
 ·obtain⟨a,p,rfl,ha,hp,k⟩:=h;refine⟨_,(aL (bU (Dv rfl T.wA T.FZ (ao (pv 0) (ao (c_ (eD af (eD (dY (pv 1)) (eD af gZ)))) aa)))) (bE (Hg (pv 0) (pv 1) rfl))),?_⟩;walk_at "rd";have l1:=dq hp;have l0:Str.empty.length=0:=rfl;have l3:(Str.ofString "row ").length=4:=by decide +kernel
  have l4:(Str.ofString " cannot stand in a piece").length=24:=by decide +kernel
  have sz:∀m:Nat,m<=400->m<=sizeLine:=λm h=>by rw[sizeLine_eq];omega
  refine⟨sz _ (by rw[aH];omega),by have:=dQ hp;omega,sz _ (by rw[aH,aH];omega),sz _ (by rw[aH,aH,aH];omega),sz _ (by rw[aH,aH,aH];omega),A.bI,none,ha,A.JV,T.sY,sz _ (by decide),A.bI,A.JV,none,ha,T.sY,T.d7,.inl ⟨rfl,λd hd=>?_⟩⟩;have hne:d≠a:=Ne.symm (cT ha hd);refine k d _ hd hne (λb o hb q=>?_) aE ?_
  ·rw[ae hb,ae (cT q hd)];exact q
  ·rw[ae hne,aE]
theorem A_(T:Txt w K mg A):bo P w K mg base (An P w) 10 A.Pj A.p9 ["text"] (Gp A):=by
 refine T.yK.To sF (λvs H Q E h=>?_) (λcdv Ar outer s H vs Q E hr h=>?_)
 ·rcases h with ⟨rows,rfl,_⟩|⟨ts,g,b,r,rfl,_⟩<;>rfl
 ·refine⟨_,(aL (pS 1 sF.nd (Gq T.Dz (OH T) (hr.mono (by decide)) rfl T.D6 T.Br .nil eW )) (aL (Ht ET rfl (B3 (K:=K) rfl rfl T.cQ (ao (eU PySem.F.plainAttrs_str PySem.F.slot_str_split PySem.F.type_str_split uG (pv 0) (ao af aa)) aa)) (fi (K:=K) (n:=2) rfl rfl (fH (pn 2 sF.nd) (fH (pn 3 sF.nd) fA))) (bE (aM (dZ (df (gz (pv 1) T.aD T.E6 (Mu T) (hr.mono (by decide)) T.Gn .nil eW (ao (eU PySem.F.plainAttrs_str PySem.F.slot_str_split PySem.F.type_str_split uG (pv 3) (ao af aa)) aa)))) (bE (z7 (ND T) (hr.mono (by decide)) T.By T.sY rfl T.wx rfl HW (ao (pv 2) aa))) bD))) (bE (au (bM (ao (cu (pv 1) rfl) (ao (cu (pv 1) rfl) (ao (cu (pv 1) rfl) aa)))))))),?_⟩;obtain⟨ts,good,rfl,tne,tlen,tl,tnl,hsm,aN,fin⟩:∃(ts:List Str) (good:List aq),vs=[.str (Txt.join (Str.ofString "\n") ts)]/\ts≠[]/\ts.length<=300/\(∀t∈ts,t.length<=1000)/\(∀t∈ts,10∉t.cps.toList)/\(∀r∈good,r.Small)/\(∀(i:Nat) (r:aq),good[i]?=some r->(bO good i).dw r)/\
    ((ts = good.map ak /\ ∀ (t : Addr) (R : Pd) (q : a7) (H' : Hp), aA H H' -> H' t = some (.tup [R.nm, .ref R.ls, .ref R.ln]) -> Pd.Ok A H H' R q (bO good good.length) good.length -> Q (.ref t) H') \/
     (∃(b:Str) (rest:List Str),ts=good.map ak++b::rest/\(∀p∈Txt.split b (Str.ofString " "),p.length<=600/\Sg p)/\dN (bO good good.length) (Txt.split b (Str.ofString " "))/\∀d H',aA H H'->H' d=some (PM ((good.length:Int)+1))->E (.ref A.bI) (some d) H')):=by
   rcases h with ⟨rows,rfl,hne,hlen,hsm,aN,k⟩|⟨ts,good,b,rest,rfl,hB,k⟩
   ·refine⟨rows.map ak,rows,rfl,by simpa using hne,by rw[List.length_map];exact hlen,λt ht=>?_,λt ht=>?_,hsm,aN,.inl ⟨rfl,k⟩⟩
    ·obtain⟨r,hr,rfl⟩:=ji.mp ht;exact(aq.good (hsm r hr)).1
    ·obtain⟨r,hr,rfl⟩:=ji.mp ht;exact(aq.good (hsm r hr)).2.1
   ·exact⟨ts,good,rfl,by rw[hB.eq];simp,hB.n,hB.len,hB.nl,hB.small,hB.takes,.inr ⟨b,rest,hB.eq,hB.bl,hB.bad,k⟩⟩
  walk_at "rd";have lb:(Str.ofString "\n").length=1:=by decide +kernel
  have hzl:(Txt.join (Str.ofString "\n") ts).length<sizeLine:=Nat.lt_of_le_of_lt (join_le tl) (by rw[lb,sizeLine_eq];omega);have es:Txt.split (Txt.join (Str.ofString "\n") ts) (Str.ofString "\n")=ts:=by
   rw[Kt];exact fO tne tnl
  intro x dx fx fdx ndx;refine⟨dx,aE,λa b dd H1 nab fa fb fd0 fr ha hb hd hx=>⟨rfl,by decide +kernel,hzl,λl fl=>?_⟩⟩;rw[es];have bk:∀{y:Addr},upd (upd H dx (HO.own x)) x (HO.ins A.bt dx []) y=none->H y=none:=λ{y} h=>by
   have n1:y≠x:=λz=>by rw[z,aE]at h;cases h
   rw[ae n1]at h;by_cases z:y=dx
   ·rw[z];exact fdx
   ·rw[ae z]at h;exact h
  have nxa:a≠x:=λz=>by rw[z,aE]at fa;cases fa
  have nxb:b≠x:=λz=>by rw[z,aE]at fb;cases fb
  have nxd:dd≠x:=λz=>by rw[z,aE]at fd0;cases fd0
  have s1:aA H H1:=λy o e=>fr _ _ (cT e fx) (by rw[ae (cT e fx),ae (cT e fdx)];exact e);have fl0:H l=none:=bX s1 fl;have nlx:l≠x:=Ne.symm (cT hx fl);have nla:l≠a:=Ne.symm (cT ha fl);have nlb:l≠b:=Ne.symm (cT hb fl);have nld:l≠dd:=Ne.symm (cT hd fl);have O0:Pd.Ok A (upd H l (.lst (ts.map V.str))) (upd H1 l (.lst (ts.map V.str))) ⟨x,dx,.aF,a,b,.aF,.aF,dd,false⟩ ⟨0,a,b,Str.empty,[],[]⟩ (bO good 0) 0:=by
   refine⟨λy o e=>?_,⟨by rw[ae nlx.symm];exact fx,by rw[ae nld.symm];exact bk fd0⟩,λy hy=>?_,by rw[ae nlx.symm];exact hx,rfl,⟨rfl,rfl⟩,Pr.start (by rw[ae nla.symm];exact ha) (by rw[ae nlb.symm];exact hb) nab,rfl,rfl,rfl,rfl,by rw[ae nld.symm];exact hd,rfl,⟨gB _,gB _,λy hy=>by cases hy⟩⟩
   ·by_cases z:y=l
    ·rw[z,aE]at e ⊢;exact e
    ·rw[ae z]at e ⊢;exact s1 _ _ e
   ·have hy:y∈[a,b]:=hy;simp only[List.mem_cons,List.not_mem_nil,or_false]at hy;rcases hy with rfl|rfl
    ·rw[ae nla.symm];exact bk fa
    ·rw[ae nlb.symm];exact bk fb
  have sH:aA H (upd H l (.lst (ts.map V.str))):=aO fl0;have lH:upd H l (.lst (ts.map V.str)) l=some (.lst (ts.map V.str)):=aE;generalize upd H l (.lst (ts.map V.str))=H0 at O0 sH lH;refine xl.of (xs:=ts.map V.str) (λi σ H'=>i<=good.length/\∃(R:Pd) (q:a7) (b2 b3:Option V),σ=[some (.str (Txt.join (Str.ofString "\n") ts)),some (.ref R.p),b2,b3]/\Pd.Ok A H0 H' R q (bO good i) i)
   ⟨gB _,_,_,_,_,rfl,O0⟩ ?_ ?_ ?_
  ·rintro i σ H' hi ⟨hig,R,q,b2,b3,rfl,O⟩;exact aC.of (O.sm _ _ lH)
  ·rintro i v σ H' tq hv ⟨hig,R,q,b2,b3,rfl,O⟩ fq;rw[z5]at hv;obtain⟨t,ht,rfl⟩:=Cr.mp hv;have htm:=A4 ht;have hi:i<ts.length:=(we.mp ht).1;walk_at "rd";have s2:=aO (o:=HO.tup [V.int ((i+1:Nat):Int),V.str t]) fq;refine⟨_,dH.of aE,rfl,_,_,rfl,_,_,rfl,rfl,_,_,s2 _ _ O.top,rfl,rfl,t,rfl,by decide +kernel,Nat.lt_of_le_of_lt (tl t htm) (by walk_at "s"),λl' fl'=>?_⟩;have s3:=aO (o:=HO.lst (List.map V.str (Txt.split t (Str.ofString " ")))) fl';have O2:=O.mono (s2.trans s3);rcases Nat.lt_or_ge i good.length with hlt|hge
   ·have hr:good[i]?=some good[i]:=A5 hlt;generalize good[i]=r at hr;have hrm:=A4 hr;have et:t=ak r:=by
     have e1:(good.map ak)[i]?=some (ak r):=by rw[z5,hr];rfl
     rcases fin with ⟨e,_⟩|⟨b,rest,e,_⟩
     ·rw[e,e1]at ht;cases ht;rfl
     ·rw[e,Pk (by rw[aQ];exact hlt),e1]at ht;cases ht;rfl
    have ep:Txt.split t (Str.ofString " ")=r.parts:=by
     rw[et];unfold ak;rw[iM];exact fO r.ne (aq.good (hsm r hrm)).2.2
    obtain⟨h,ps,ecp⟩:=r.cons;refine⟨H0,R,rfl,q,h,ps,by rw[aE,ep,ecp];rfl,bO good i,i,O2,by omega,λp hp=>?_,.inl ⟨r,ecp.symm,aN i r hr,λR' q' H'' e1 O3=>⟨true,rfl,?_⟩⟩⟩
    ·have:=hsm r hrm p (by rw[ecp];exact hp);exact⟨dy this.1 (by decide),this.2.2.2⟩
    ·rw[if_neg (by simp)];exact⟨hlt,R',e1.symm,q',by rw[eV hr];exact O3⟩
   ·have eg:i=good.length:=Nat.le_antisymm hig hge;subst eg;obtain⟨b',rest,e,hbl,hbad,k⟩:=fin.elim (λf=>absurd hi (by rw[f.1,aQ];exact ku _)) id;have et:t=b':=by
     rw[e,Mj (by rw[aQ];exact dn _),aQ,Nat.sub_self]at ht;cases ht;rfl
    subst et;obtain⟨h,ps,ecp⟩:∃h ps,Txt.split t (Str.ofString " ")=h::ps:=by
     cases e:Txt.split t (Str.ofString " ") with
     |nil=>rw[e]at hbad;cases hbad
     |cons h ps=>exact⟨h,ps,rfl⟩
    refine⟨H0,R,rfl,q,h,ps,by rw[aE,ecp];rfl,_,_,O2,by omega,λp hp=>hbl p (by rw[ecp];exact hp),.inr ⟨by rw[<-ecp];exact hbad,λH2 sm=>⟨false,rfl,?_⟩⟩⟩;rw[if_pos (by simp)];refine⟨by rw[sizeLine_eq];decide,λy hy=>⟨_,rfl,aE,⟨by omega,by omega⟩,λd H' hd hne hk hx' hd'=>.inr ⟨d,hne,hx',_,hd',k d _ (λc o q=>?_) ?_⟩⟩⟩
    ·have q:=sm _ _ (sH _ _ q);have hc:=cT q hy;have hdn:=(jo hd).2;rw[fE hc,ae (cT q hdn)];exact hk c o hc (by rw[ae hc];exact q)
    ·rw[fE hne,aE];exact congrArg (λz=>some (HO.xd [(Str.ofString "row", V.int z)])) (by omega)
  ·rintro σ H' ⟨hig,R,q,b2,b3,rfl,O⟩;rw[aQ]at O hig;have k:=fin.elim (λf=>f) λ⟨b,rest,e,_⟩=>by
    have:=congrArg List.length e;rw[cL,aQ,jd]at this;omega
   have eg:ts.length=good.length:=by rw[k.1,aQ]
   rw[eg]at O;walk_at "rd";refine⟨_,_,_,O.top,T.aD,T.cO,R.nm,rfl,_,_,_,O.top,T.aD,T.bA,.ref R.ls,rfl,_,_,_,O.top,T.aD,T.cU,.ref R.ln,rfl,by walk_at "s", λp fp=>?_⟩;have s2:=aO (o:=HO.tup [R.nm,.ref R.ls,.ref R.ln]) fp;exact k.2 p R q _ ((sH.trans O.sm).trans s2) aE ((O.mono s2).below sH)
theorem u4(T:Txt w K mg A):bo P w K mg base eI 1 A.MO A.tN ["_law_script", "_law_k"] (Ax K):=by
 refine T.xk.ok K0 (λvs H Q E h=>?_) (λcdv Ar outer s H vs Q E hr h=>?_)
 ·obtain⟨a,ns,k0,rfl,_⟩:=h;rfl
 ·obtain⟨a,ns,k0,rfl,hl,h0,k⟩:=h;refine⟨_,(aL (aM (br IX (pv 1) (dh (e7 (K:=K) rfl) (by rfl) T.cF bZ (ao (pv 0) aa)) (ax _)) (bE (au (bH (dv (K:=K) rfl) (pv 0) (pv 1) (λ_ _=>rfl)))) bD) (bE (au ah))),?_⟩;walk_at "rd";refine⟨_,.inl ⟨_,hl,rfl⟩,cS (λh=>?_) (λ_=>k 0)⟩;have h:=of_decide_eq_true h;obtain⟨v,e,hm⟩:=vP (xs:=ns.map V.int) (i:=k0) (by omega) h;obtain⟨m,_,rfl⟩:=ji.mp hm;exact⟨_,hl,_,e,k m⟩
theorem M8(T:Txt w K mg A):bo P w K mg base eI 1 A.NU A.qy ["_law_number"] CB:=by
 refine T.yP.ok Lj (λvs H Q E h=>?_) (λcdv Ar outer s H vs Q E hr h=>?_)
 ·obtain⟨c,rfl,_⟩:=h;rfl
 ·obtain⟨c,rfl,k⟩:=h;refine⟨_,(aL (aM (br ba (ag aG (pv 0) ah) ah (ax _)) (bE (au (ag fK (ag aG (ag eA (pv 0) ah) ah) ah))) bD) (aL (aM (br ba (ag aG (pv 0) ah) ah (ax _)) (bE (au (ag fK (ag aG (ag cX (ag eA (pv 0) ah) ah) ah) ah))) bD) (bE (au (bH (dv (K:=K) rfl) (aw (ao (vA kW ah) (ao (vA kW ah) (ao ah (ao ah aa))))) (ag aG (ag eA (pv 0) ah) ah) (λ_ _=>rfl)))))),?_⟩;walk_at "rd";refine⟨by decide,cS (λ_=>⟨⟨by decide,by decide⟩,by decide,k _ H (aA.refl H) (by omega) (by omega)⟩) λ_=>⟨by decide,cS (λ_=>⟨⟨by decide,by decide⟩,.inr ⟨by decide,by decide⟩,by decide,k _ H (aA.refl H) (by omega) (by omega)⟩) λ_=>⟨by rw[sizeLine_eq];decide,λp hp=>⟨⟨by decide,by decide⟩,by decide,?_⟩⟩⟩⟩;obtain⟨v,e,hv⟩:=vP (xs:=[V.int (-2147483648),V.int (-2147483647),V.int 2147483646,V.int 2147483647]) (i:=c/3%4) (by show -(4:Int)<=_;omega) (by show _<(4:Int);omega);refine⟨_,aC.of aE,v,e,?_⟩;simp only[List.mem_cons,List.not_mem_nil,or_false]at hv;rcases hv with rfl|rfl|rfl|rfl<;>exact k _ _ (aO hp) (by decide) (by decide)
theorem IV(T:Txt w K mg A):bo P w K mg base eI 1 A.MA A.rD ["_law_cell"] vT:=by
 refine T.zm.ok Lf (λvs H Q E h=>?_) (λcdv Ar outer s H vs Q E hr h=>?_)
 ·obtain⟨c,rfl,_⟩:=h;rfl
 ·obtain⟨c,rfl,k⟩:=h;refine⟨_,(aL (aM (br ba (ag aG (ag eA (pv 0) ah) ah) ah (ax _)) (bE (au (bH (dv (K:=K) rfl) (aw (ao ah (ao ah aa))) (ag aG (ag eA (pv 0) ah) ah) (λ_ _=>rfl)))) bD) (bE (au (ag aG (ag cX (pv 0) ah) ah)))),?_⟩;walk_at "rd";refine⟨⟨by decide,by decide⟩,by decide,cS (λh=>?_) λh=>?_⟩
  ·have h:=of_decide_eq_true h;refine⟨by rw[sizeLine_eq];decide,λp hp=>⟨⟨by decide,by decide⟩,by decide,_,aC.of aE,?_⟩⟩;have k:=k _ (aO (o:=HO.lst [V.int 0,V.int 4294967295]) hp);unfold cm at k;rw[if_pos h]at k;by_cases h2:c/40%2=0
   ·rw[if_pos h2]at k;exact⟨_,by rw[h2];rfl,k⟩
   ·rw[if_neg h2]at k;exact⟨_,by rw[show c/40%2=1 by omega];rfl,k⟩
  ·have h:¬c/8%5=0:=λz=>h (decide_eq_true z);have k:=k H (aA.refl H);unfold cm at k;rw[if_neg h]at k;exact⟨.inr ⟨by decide,by decide⟩,by decide,k⟩
noncomputable def BI(c:Nat):Bool:=z6 "abcdefghijklmnopqrstuvwxyz" ⟨#[c]⟩
structure M6(z:Str):Prop where
 all:∀c∈z.cps.toList,Av c=true
 hd:∀c∈z.cps.toList.take 1,BI c=true
theorem Q1{i:Int}(h0:0<=i)(h1:i<37):∃c,hG (Str.ofString "abcdefghijklmnopqrstuvwxyz0123456789_").cps.toList i=some c/\Av c=true/\(i<26->BI c=true):=by
 obtain⟨m,rfl⟩:=Ew h0;have hm:m<37:=by omega
 have key:∀m:Nat,m<37->∃c,hG (Str.ofString "abcdefghijklmnopqrstuvwxyz0123456789_").cps.toList (m:Int)=some c/\Av c=true/\(m<26->BI c=true):=by
  have h:(List.range 37).all (λm=>match hG (Str.ofString "abcdefghijklmnopqrstuvwxyz0123456789_").cps.toList (m:Int) with|none=>false|some c=>Av c&&(!decide (m<26) || BI c))=true:=by decide +kernel
  intro m hm;have h:=A6.mp h m (List.mem_range.mpr hm);cases e:hG (Str.ofString "abcdefghijklmnopqrstuvwxyz0123456789_").cps.toList (m:Int) with
  |none=>rw[e]at h;cases h
  |some c=>
   rw[e]at h;simp only[Bool.and_eq_true,Bool.or_eq_true,Bool.not_eq_true',decide_eq_false_iff_not]at h;exact⟨c,rfl,h.1,λq=>h.2.resolve_left (λz=>z q)⟩
 obtain⟨c,e1,e2,e3⟩:=key m hm;exact⟨c,e1,e2,λq=>e3 (by omega)⟩
theorem Ka{m:Nat}(h:m<400):(Str.ofString (toString (m:Int))).length<=3/\(∀c∈(Str.ofString (toString (m:Int))).cps.toList,Av c=true)/\(Txt.zfill (Str.ofString (toString (m:Int))) 3).length<=3/\∀c∈(Txt.zfill (Str.ofString (toString (m:Int))) 3).cps.toList,Av c=true:=by
 have key:(List.range 400).all (λm=>decide ((Str.ofString (toString (m:Int))).length<=3)&&(Str.ofString (toString (m:Int))).cps.toList.all Av&&decide ((Txt.zfill (Str.ofString (toString (m:Int))) 3).length<=3)&&(Txt.zfill (Str.ofString (toString (m:Int))) 3).cps.toList.all Av)=true:=by decide +kernel
 have q:=A6.mp key m (List.mem_range.mpr h);simp only[Bool.and_eq_true,decide_eq_true_eq]at q;exact⟨q.1.1.1,A6.mp q.1.1.2,q.1.2,A6.mp q.2⟩
theorem M6.push{z:Str}(h:M6 z){c:Nat}(hc:Av c=true)(hl:z.length=0->BI c=true):M6 (z++(⟨#[c]⟩:Str)):=by
 have e:(z++(⟨#[c]⟩:Str)).cps.toList=z.cps.toList++[c]:=by rw[show(z++(⟨#[c]⟩:Str)).cps=z.cps++#[c] from rfl,AY]
 refine⟨λx hx=>?_,λx hx=>?_⟩
 ·rw[e]at hx;rcases eC.mp hx with q|q
  ·exact h.all x q
  ·rw[iL.mp q];exact hc
 ·rw[e]at hx;cases hz:z.cps.toList with
  |nil=>
   rw[hz]at hx;rw[iL.mp hx];refine hl ?_;have:z.cps.toList.length=0:=by rw[hz];rfl
   rw[A1]at this;exact this
  |cons a r=>
   rw[hz]at hx;exact h.hd x (by rw[hz];exact hx)
theorem DP{b f:Str}{i:Nat}(h:M6 b)(h1:1<=b.length)(h2:b.length<=13)(i1:1<=i)(i2:i<=b.length)(f1:f.length<=3)(f2:∀c∈f.cps.toList,Av c=true):isNm (Txt.slice b none (some (i:Int))++f++Txt.slice b (some (i:Int)) none)=true:=by
 have lb:b.cps.toList.length=b.length:=A1;have lf:f.cps.toList.length=f.length:=A1;have e1:(Txt.slice b none (some (i:Int))).cps.toList=b.cps.toList.take i:=by
  have e:=beq_iff_eq.mp (PyProof.Rows.slice_closes_toL (x:=b) (j:=(i:Int)) (by omega) (by omega));rw[e];show List.take ((i:Int) - 0).toNat (List.drop 0 b.cps.toList)=_;rw[show((i:Int) - 0).toNat=i by omega,List.drop_zero]
 have e2:(Txt.slice b (some (i:Int)) none).cps.toList=b.cps.toList.drop i:=by
  have e:=PyProof.Rows.slice_from_eq (x:=b) (i:=(i:Int)) (b:=(b.length:Int)) (by omega) (by omega) rfl;rw[e];show List.take ((b.length:Int) - (i:Int)).toNat (List.drop (i:Int).toNat b.cps.toList)=_;rw[show(i:Int).toNat=i from rfl,G9 (by rw[wc,lb];omega)]
 have e:(Txt.slice b none (some (i:Int))++f++Txt.slice b (some (i:Int)) none).cps.toList=b.cps.toList.take i++f.cps.toList++b.cps.toList.drop i:=by
  rw[show(Txt.slice b none (some (i:Int))++f++Txt.slice b (some (i:Int)) none).cps=(Txt.slice b none (some (i:Int))).cps++f.cps++(Txt.slice b (some (i:Int)) none).cps from rfl,AY,AY,e1,e2]
 have ln:(Txt.slice b none (some (i:Int))++f++Txt.slice b (some (i:Int)) none).length=b.length+f.length:=by
  have:=congrArg List.length e;rw[cL,cL,nV,wc,lb,lf]at this;have q:(Txt.slice b none (some (i:Int))++f++Txt.slice b (some (i:Int)) none).cps.toList.length=(Txt.slice b none (some (i:Int))++f++Txt.slice b (some (i:Int)) none).length:=A1;omega
 unfold isNm;rw[ln,decide_eq_true (by omega),decide_eq_true (by omega),e];simp only[Bool.true_and,Bool.and_eq_true];constructor
 ·refine A6.mpr λc hc=>h.hd c ?_;obtain⟨x,r,ex⟩:∃x r,b.cps.toList=x::r:=by
   cases q:b.cps.toList with
   |nil=>rw[q]at lb;simp at lb;omega
   |cons x r=>exact⟨x,r,rfl⟩
  obtain⟨j,rfl⟩:∃j,i=j+1:=⟨i - 1,by omega⟩
  rw[ex]at hc ⊢;exact hc
 ·refine A6.mpr λc hc=>?_;rcases eC.mp hc with q|q
  ·rcases eC.mp q with q|q
   ·exact h.all c (List.mem_of_mem_take q)
   ·exact f2 c q
  ·exact h.all c (Np q)
theorem xx(T:Txt w K mg A):bo P w K mg base eI 1 A.MV A.nW ["_law_cell", "_law_k"] Dx:=by
 refine T.xa.ok gu (λvs H Q E h=>?_) (λcdv Ar outer s H vs Q E hr h=>?_)
 ·obtain⟨c,k,rfl,_⟩:=h;rfl
 ·obtain⟨c,i,rfl,k⟩:=h;refine⟨_,(aL (pS 2 gu.nd af) (aL (pS 3 gu.nd af) (aL (pF (mP rfl T.hW (ao (ag bC ah (ag aG (pv 0) ah)) aa)) (pn 4 gu.nd) (bE (pS 3 gu.nd (ag bW (pv 3) (bH v7 (pv 2) (ag aG (ag bC (ag eA (pv 0) (ag bC (pv 4) ah)) (ag cX (pv 4) (pv 4))) (ag fK ah (ag cX ah (gY mO (by rfl) T.ky rj (ao (c0 ba (pv 4) ah (ax _)) aa))))) (λ_ _=>rfl)))))) (aL (pS 5 gu.nd (ag bC ah (ag aG (ag eA (pv 0) ah) (dh (e7 (K:=K) rfl) (by rfl) T.cF bZ (ao (pv 3) aa))))) (aL (pS 6 gu.nd (gY jj (by rfl) T.dW dE (ao (ag aG (pv 1) ah) aa))) (aL (aM (br ba (ag aG (ag eA (pv 0) ah) ah) ah (ax _)) (bE (pS 6 gu.nd (eU PySem.F.plainAttrs_str PySem.F.slot_str_zfill PySem.F.type_str_zfill Bp (pv 6) (ao ah aa)))) bD) (bE (au (ag bW (ag bW (dR iA (pv 3) d8 (dD (pv 5))) (pv 6)) (dR iA (pv 3) (dD (pv 5)) d8)))))))))),?_⟩;walk_at "rd";refine⟨by decide,?_⟩
  refine DV.of (by omega) (by omega) (λn σ H'=>H'=H/\∃(z:Str) (b4 b5 b6:Option V),σ=[some (.int c),some (.int i),some (.str (Str.ofString "abcdefghijklmnopqrstuvwxyz0123456789_")),some (.str z),b4,b5,b6]/\M6 z/\z.length=n) ⟨rfl,Str.ofString "", _,_,_,rfl,⟨λx hx=>(nomatch hx),λx hx=>(nomatch hx)⟩,by decide +kernel⟩ ?_ ?_
  ·rintro n σ H' hn ⟨rfl,z,b4,b5,b6,rfl,hz,hl⟩;have h13:n<13:=by omega
   walk_at "rd";generalize c/((n:Int)+3)+(n:Int)*(n:Int)=y;have em:(37 - 11*(if decide ((n:Int)=0)=true then (1:Int) else 0))=if n=0 then 26 else 37:=by
    by_cases h:n=0
    ·subst h;rfl
    ·rw[if_neg h,decide_eq_false (by omega)];rfl
   have lo:0<=y%(if n=0 then (26:Int) else 37)/\y%(if n=0 then (26:Int) else 37)<37/\(n=0->y%(if n=0 then (26:Int) else 37)<26):=by
    by_cases h:n=0
    ·rw[if_pos h];omega
    ·rw[if_neg h];omega
   obtain⟨x,ex,ok,lt⟩:=Q1 lo.1 lo.2.1;refine⟨⟨by omega,by omega⟩,.inl ⟨by omega,by omega⟩,.inl ⟨by decide,by decide⟩,by rw[em];split<;>decide,by rw[sizeLine_eq];decide +kernel,x,by rw[em];exact ex,?_,hz.push ok λq=>lt (lo.2.2 (by omega)),?_⟩
   ·rw[sizeLine_eq];show z.length+1<=_;omega
   ·rw[aH,hl];rfl
  ·rintro σ H' ⟨rfl,z,b4,b5,b6,rfl,hz,hl⟩;have h1:1<=z.length/\z.length<=13:=by omega
   walk_at "rd";obtain⟨m,em⟩:=Ew (show 0<=i%400 by omega);have m4:m<400:=by omega
   obtain⟨g1,g2,g3,g4⟩:=Ka m4;rw[em];have ai:=Int.emod_nonneg (c/13) (show(z.length:Int)≠0 by omega);have aj:=Oy (c/13) (show 0<(z.length:Int) by omega);obtain⟨j,ej⟩:=Ew (show 0<=1+c/13%(z.length:Int) by omega);rw[ej];have s1:=Txt.slice_le z none (some (j:Int));have s2:=Txt.slice_le z (some (j:Int)) none;have sz:∀m:Nat,m<=2000->m<=sizeLine:=λm h=>by rw[sizeLine_eq];omega
   have lg:(m:Int).natAbs.log2<1920:=by
    by_cases h:m=0
    ·subst h;decide
    ·exact(Nat.log2_lt (n:=m) (k:=1920) h).mpr (Nat.lt_trans m4 (kh (by decide:400<2 ^ 9) (PN (by decide) (by decide))))
   refine⟨⟨by decide,by decide⟩,sz _ (by omega),by omega,by decide,lg,⟨by decide,by decide⟩,by decide,cS (λ_=>?_) λ_=>?_⟩
   ·exact⟨rfl,by decide,by decide,sz _ (by omega),sz _ (by omega),sz _ (by omega),sz _ (by rw[aH];omega),k _ _ (aA.refl _) (DP hz h1.1 h1.2 (by omega) (by omega) g3 g4)⟩
   ·exact⟨sz _ (by omega),sz _ (by omega),sz _ (by omega),sz _ (by rw[aH];omega),k _ _ (aA.refl _) (DP hz h1.1 h1.2 (by omega) (by omega) g1 g2)⟩
theorem Pf(T:Txt w K mg A):bo P w K mg base eI 2 A.MG A.qO ["_law_number", "_law_at", "_law_names_by"] Ag:=by
 refine T.xb.ok vX (λvs H Q E h=>?_) (λcdv Ar outer s H vs Q E hr h=>?_)
 ·obtain⟨n,a,b,rfl,_⟩:=h;rfl
 ·obtain⟨n,a,b,rfl,k⟩:=h;refine⟨_,(aL (pS 3 vX.nd (bH (dv (K:=K) rfl) (aw (ao af (ao af (ao af (ao af (ao af aa)))))) (ag aG (pv 0) ah) (λ_ _=>rfl))) (aL (pS 4 vX.nd (pU (c0 IX (ag aG (pv 0) ah) ah (ax _)) (pf (c0 ba (ag aG (ag eA (pv 0) ah) ah) ah (ax _))))) (bE (au (bM (ao (pv 1) (ao (pv 3) (ao (pC (xx T) hr T.vo T.mq T.mE (ao (pv 2) (ao (ag eA (pv 0) ah) aa))) (ao (pC (M8 T) hr T.JR T.GN T.GB (ao (ag eA (pv 0) ah) aa)) (ao (pv 4) aa)))))))))),?_⟩;walk_at "rd";have h5:5<=sizeLine:=by rw[sizeLine_eq];decide
  have key:∃r,hG [V.str (Str.ofString "whole"),V.str (Str.ofString "high"),V.str (Str.ofString "low"),V.str (Str.ofString "near"),V.str (Str.ofString "split")] (n%5)=some (V.str r)/\wK r/\(n%5<3->r≠Str.ofString "near" /\ r≠Str.ofString "split"):=by
   have h:n%5=0\/n%5=1\/n%5=2\/n%5=3\/n%5=4:=by omega
   rcases h with h|h|h|h|h<;>rw[h]
   ·exact⟨_,rfl,.inl rfl,λ_=>by decide +kernel⟩
   ·exact⟨_,rfl,.inr (.inl rfl),λ_=>by decide +kernel⟩
   ·exact⟨_,rfl,.inr (.inr (.inl rfl)),λ_=>by decide +kernel⟩
   ·exact⟨_,rfl,.inr (.inr (.inr (.inl rfl))),λq=>by omega⟩
   ·exact⟨_,rfl,.inr (.inr (.inr (.inr rfl))),λq=>by omega⟩
  obtain⟨r,er,hr1,hr2⟩:=key;refine⟨h5,λp hp=>⟨by decide,_,aC.of aE,_,er,by decide,cS (λh=>?_) λh=>?_⟩⟩
  ·have h:=of_decide_eq_true h;refine⟨⟨by decide,by decide⟩,by decide,⟨by decide,by decide⟩,λz H1 s1 hz=>⟨⟨by decide,by decide⟩,λm H2 s2 m0 m1=>⟨h5,λt ht=>?_⟩⟩⟩;have sm:=(aO hp).trans (s1.trans s2);exact k ⟨t,a,r,z,m,decide (n/5%2=1)⟩ _ (sm.trans (aO ht)) aE (bX sm ht) rfl ⟨hr1,hz,m0,m1,λq=>q.2.elim (hr2 h).1 (hr2 h).2⟩
  ·refine⟨⟨by decide,by decide⟩,λz H1 s1 hz=>⟨⟨by decide,by decide⟩,λm H2 s2 m0 m1=>⟨h5,λt ht=>?_⟩⟩⟩;have sm:=(aO hp).trans (s1.trans s2);exact k ⟨t,a,r,z,m,false⟩ _ (sm.trans (aO ht)) aE (bX sm ht) rfl ⟨hr1,hz,m0,m1,λq=>by cases q.1⟩
theorem NK(T:Txt w K mg A):bo P w K mg base eI 2 A.OF A.ot ["_law_fill"] wY:=by
 refine T.xH.ok LD (λvs H Q E h=>?_) (λcdv Ar outer s H vs Q E hr h=>?_)
 ·obtain⟨f,rfl,_⟩:=h;rfl
 ·obtain⟨f,rfl,hf,fp,k⟩:=h;refine⟨_,(bE (au (ag bW (ag bW (ag bW (ag bW (ag (uU (K:=K) rfl) (bH (dv (K:=K) rfl) (aw (ao af (ao af aa))) (gY mO (by rfl) T.ky rj (ao (tx K (pv 0)) aa)) (λ_ _=>rfl)) (tx K (pv 0))) af) (tx K (pv 0))) af) (gY jj (by rfl) T.dW dE (ao (tx K (pv 0)) aa))))),?_⟩;walk_at "rd";have s1:∀{p:Addr},H p=none->aA H (upd H p (HO.lst [V.str (Str.ofString "fill "),V.str (Str.ofString "soft ")])):=λ{p} hp=>aO hp;have sz:∀m:Nat,m<=2000->m<=sizeLine:=λm h=>by rw[sizeLine_eq];omega
  have l1:f.rule.length<=5:=by rcases fp.rule with e|e|e|e|e<;>rw[e]<;>decide +kernel
  have l2:f.name.length<=16:=by
   by_cases h:f.name.length<=16
   ·exact h
   ·have:=fp.name;rw[qI h]at this;cases this
  have iz:xh f.add:=⟨by have:=fp.lo;omega,by have:=fp.hi;omega⟩
  have l3:=dq iz;have l4:=dQ iz;walk_at "7";have w2:(Str.ofString "fill ").length=5:=by decide +kernel
  have w3:(Str.ofString "soft ").length=5:=by decide +kernel
  have et:ak (.fill f.soft f.rule f.name f.add)=(if f.soft=true then Str.ofString "soft " else Str.ofString "fill ")++f.rule++Str.ofString " " ++ f.name++Str.ofString " " ++ Str.ofString (toString f.add):=by
   unfold ak;rw[b_];show(if f.soft=true then Str.ofString "soft" else Str.ofString "fill")++Str.ofString " " ++ (f.rule++Str.ofString " " ++ (f.name++Str.ofString " " ++ nS f.add))=_;have e:(if f.soft=true then Str.ofString "soft " else Str.ofString "fill ")=(if f.soft=true then Str.ofString "soft" else Str.ofString "fill")++Str.ofString " " := by
    cases f.soft<;>decide +kernel
   rw[e];simp only[Str.append_assoc];rfl
  have w4:(if f.soft=true then Str.ofString "soft " else Str.ofString "fill ").length=5:=by cases f.soft<;>decide +kernel
  refine⟨sz _ (by decide),λp hp=>⟨_,dH.of (s1 hp _ _ hf),_,rfl,?_⟩⟩;have hf1:=s1 hp _ _ hf;refine .inr ⟨f.soft,rfl,_,aC.of aE,V.str (if f.soft=true then Str.ofString "soft " else Str.ofString "fill "),?_,_,dH.of hf1,_,rfl,.inr (.inl ⟨_,rfl,_,rfl,sz _ (by omega),sz _ (by rw[aH];omega),_,dH.of hf1,_,rfl,_,rfl,sz _ (by rw[aH,aH];omega),sz _ (by rw[aH,aH,aH];omega),_,dH.of hf1,_,rfl,_,rfl,by omega,sz _ (by rw[aH,aH,aH,aH];omega),?_⟩)⟩
  ·cases f.soft<;>rfl
  ·rw[<-et];exact k _ (s1 hp)
theorem zL{f g:aW}(h:fC f=fC g):f.d=g.d:=by
 simp only[fC,Prod.mk.injEq]at h;simp[aW.d,h.1,h.2.1,h.2.2.1,h.2.2.2.1,h.2.2.2.2]
theorem ig{α β:Type}{c:α->β}{d:α->D}(h:∀x y,c x=c y->d x=d y):∀{xs ys:List α},xs.map c=ys.map c->xs.map d=ys.map d
 |[],[],_=>rfl
 |[],_::_,e=>by cases e
 |_::_,[],e=>by cases e
 |x::xs,y::ys,e=>by
  rw[xE,xE]at e;obtain⟨e1,e2⟩:=List.cons.inj e;rw[xE,xE,h x y e1,ig h e2]
theorem HI{s r:bT}(h:sC s=sC r):s.d=r.d:=by
 simp only[sC,Prod.mk.injEq]at h;have:=ig (d:=aW.d) (λx y e=>zL e) h.2.2.2;simp[bT.d,h.1,h.2.1,h.2.2.1,this]
theorem zQ{n m:aX}(h:nC n=nC m):n.d=m.d:=by
 simp only[nC,Prod.mk.injEq]at h;simp[aX.d,h.1,h.2.1,h.2.2.1,h.2.2.2]
theorem wL{p q:a7}(h:p.name=q.name)(h1:p.az.map sC=q.az.map sC)(h2:p.aK.map nC=q.aK.map nC):p.d=q.d:=by
 have e1:=ig (d:=bT.d) (λx y e=>HI e) h1;have e2:=ig (d:=aX.d) (λx y e=>zQ e) h2;simp[a7.d,h,e1,e2]
theorem Ik{z:Str}{c:Nat}(h:z6 z ⟨#[c]⟩=true):c∈z.cps.toList:=by
 by_cases hc:c∈z.cps.toList
 ·exact hc
 ·exfalso
  have e:Builtin.Str.occurrences z ⟨#[c]⟩ 0 z.length 1=[]:=De λi hi=>by
   have h1:(⟨#[c]⟩:Str).length=1:=rfl;unfold Builtin.Str.subAt;rw[h1];refine beq_eq_false_iff_ne.mpr λq=>hc ?_;have q2:=congrArg Array.toList q;rw[Array.toList_extract]at q2;have m:c∈List.extract z.cps.toList i (i+1):=by rw[q2];exact iL.mpr rfl
   exact Np (List.mem_of_mem_take m)
  unfold z6 at h;rw[e]at h;cases h
theorem ub{z:Str}(h:isNm z=true):ua z/\z.length<=16:=by
 have l:z.length<=16:=by
  by_cases l:z.length<=16
  ·exact l
  ·rw[qI l]at h;cases h
 unfold isNm at h;simp only[Bool.and_eq_true,List.all_eq_true]at h;have all:(Str.ofString "abcdefghijklmnopqrstuvwxyz0123456789_").cps.toList.all (λc=>decide (c≠10)&&decide (c≠32)&&decide (c<16 ^ 8))=true:=by decide +kernel
 have key:∀c∈z.cps.toList,c≠10/\c≠32/\c<16 ^ 8:=λc hc=>by
  have:=A6.mp all c (Ik (h.2 c hc));simp only[Bool.and_eq_true,decide_eq_true_eq]at this;exact⟨this.1.1,this.1.2,this.2⟩
 exact⟨⟨by omega,λq=>(key _ q).1 rfl,λq=>(key _ q).2.1 rfl,λc hc=>(key c hc).2.2⟩,l⟩
theorem G0(n:Int):Sg (nS n):=λc hc=>by
 by_cases h:c<16 ^ 8
 ·exact h
 ·exact absurd hc (int_text_free' c (by omega) n)
theorem dS{n:Int}(h1 : -9999999999<=n)(h2:n<=9999999999):ua (nS n):=
 ⟨dq ⟨by omega,by omega⟩,int_text_free' 10 (by decide) n,int_text_free' 32 (by decide) n,G0 n⟩
theorem vS{z:Str}{lo hi n:Int}(h:cx z lo hi=.int n):lo<=n/\n<=hi:=by
 unfold cx at h;generalize (if Txt.startswith z "-" = true then -((e_ (aY z):Nat):Int) else ((e_ (aY z):Nat):Int))=x at h;split at h
 ·cases h
 ·split at h
  ·next q=>injection h with h;rw[<-h];exact q
  ·cases h
theorem uX{z:Str}{n:Int}(h:c7 z=.int n):1<=n/\n<=65536:=by
 unfold c7 at h;split at h
 ·next m e=>
  split at h
  ·injection h with h;subst h;exact vS e
  ·cases h
 ·cases h
instance (z:Str):Decidable (Sg z):=by unfold Sg;exact inferInstance
instance (z:Str):Decidable (ua z):=by unfold ua;exact inferInstance
theorem cN{S:RP}{r:aq}(h:S.dw r):r.Small:=by
 intro p hp;cases r with
 |aV nm=>
  simp only[aq.parts,List.mem_cons,List.not_mem_nil,or_false]at hp;rcases hp with rfl|rfl
  ·decide +kernel
  ·exact(ub h.2).1
 |st kd s=>
  simp only[aq.parts,List.mem_cons,List.not_mem_nil,or_false]at hp;rcases hp with rfl|rfl
  ·rcases h.2.1 with e|e<;>rw[e]<;>decide +kernel
  ·have:=uX h.2.2;exact dS (by omega) (by omega)
 |word n=>
  simp only[aq.parts,List.mem_cons,List.not_mem_nil,or_false]at hp;rcases hp with rfl|rfl
  ·decide +kernel
  ·have:=h.2.2;exact dS (by omega) (by omega)
 |fill soft r nm add=>
  obtain⟨_,_,_,h1,h2,_,h3,h4⟩:=h;simp only[aq.parts,List.mem_cons,List.not_mem_nil,or_false]at hp;rcases hp with rfl|rfl|rfl|rfl
  ·cases soft<;>decide +kernel
  ·rcases h1 with e|e|e|e|e<;>rw[e]<;>decide +kernel
  ·exact(ub h2).1
  ·exact dS (by omega) (by omega)
 |told sort nm=>
  obtain⟨_,_,h1,h2,_⟩:=h;simp only[aq.parts,List.mem_cons,List.not_mem_nil,or_false]at hp;rcases hp with rfl|rfl
  ·rcases h1 with e|e|e<;>rw[e]<;>decide +kernel
  ·exact(ub h2).1
theorem cB:∀{rows:List aq}{S:RP},S.bj rows->∀(i:Nat) (r:aq),rows[i]?=some r->((rows.take i).foldl RP.next S).dw r
 |[],_,_,i,r,h=>by cases i<;>cases h
 |a::rows,S,t,0,r,h=>by cases h;exact t.1
 |a::rows,S,t,i+1,r,h=>cB (rows:=rows) t.2 i r h
theorem fw:∀{a b:List aq}{S:RP},S.bj a->(a.foldl RP.next S).bj b->S.bj (a++b)
 |[],_,_,_,h=>h
 |x::a,b,S,t,h=>⟨t.1,fw t.2 h⟩
theorem gN:∀{rows:List aq}{S:RP}{j:Nat},S.bj rows->S.bj (rows.take j)
 |_,_,0,_=>trivial
 |[],_,_+1,_=>trivial
 |a::rows,S,j+1,t=>⟨t.1,gN (rows:=rows) t.2⟩
theorem u6:∀{rows:List aq}{S:RP},S.bj rows->∀r∈rows,r.Small
 |[],_,_,r,h=>(nomatch h)
 |a::rows,S,t,r,h=>by
  rcases lL.mp h with rfl|h
  ·exact cN t.1
  ·exact u6 t.2 r h
theorem vm(c:Int):0<=cm c/\cm c<=4294967295:=by
 unfold cm;split
 ·split<;>decide
 ·omega
theorem gx(kd:Str)(s:Int):ak (.st kd s)=kd++Str.ofString " " ++ nS s:=by
 unfold ak;rw[b_];rfl
theorem eZ(n:Int):ak (.word n)=Str.ofString "word " ++ nS n:=by
 unfold ak;rw[b_,show Str.ofString "word " = Str.ofString "word" ++ Str.ofString " " from by decide +kernel];rfl
theorem c8(a b:Str):ak (.told a b)=a++Str.ofString " " ++ b:=by
 unfold ak;rw[b_];rfl
theorem dU(b:Str):ak (.aV b)=Str.ofString "piece " ++ b:=by
 unfold ak;rw[b_,show Str.ofString "piece " = Str.ofString "piece" ++ Str.ofString " " from by decide +kernel];rfl
theorem ay{m:Nat}(h:m<=2000):m<=sizeLine:=by rw[sizeLine_eq];omega
theorem HL{H:Hp}{q:a7}(h:Pr H q):Rep K H (.lst (q.az.map bT.d)) (.ref q.ls):=by
 simp only[Rep];exact⟨_,_,rfl,aC.of h.sl,RepL.map λs hs=>(h.ss s hs).rep⟩
theorem HH{H:Hp}{q:a7}{p:Addr}{R:Bool->Hp->Prop}(h:Pr H q)(hp:H p=none)(k1:q.az=[]->R true (upd H p (HO.lst [])))(k2:q.az≠[]->R false (upd H p (HO.lst []))):
  Iw K (V.ref q.ls) (V.ref p) (upd H p (HO.lst [])) λx H'=>∃k,x=V.bl k/\R k H':=by
 refine⟨q.az.map bT.d,[],.inl ⟨HL (h.mono (aO hp)),⟨p,[],rfl,aC.of aE,by simp[RepL]⟩⟩,Nat.le_trans (e9 λp _=>EY p) (by decide),_,rfl,?_⟩;rw[uO];by_cases z:q.az=[]
 ·rw[decide_eq_true (by rw[z];rfl)];exact k1 z
 ·rw[decide_eq_false (λe=>z (List.map_eq_nil_iff.mp e))];exact k2 z
theorem vp{z:Str}{xs:List Str}:Ks (.str z) (xs.map V.str)=true↔z∈xs:=by
 unfold Ks;rw[List.any_map,List.any_eq_true];constructor
 ·rintro⟨y,hy,e⟩;have:y=z:=by simpa [Function.comp,E4] using e
  exact this▸hy
 ·intro h;exact⟨z,h,by simp[Function.comp,E4]⟩
theorem Ii(c:Int):∃kd,hG [V.str (Str.ofString "code"),V.str (Str.ofString "data")] (c%2)=some (V.str kd)/\e8 kd:=by
 have h:c%2=0\/c%2=1:=by omega
 rcases h with e|e<;>rw[e]
 ·exact⟨_,rfl,.inl rfl⟩
 ·exact⟨_,rfl,.inr rfl⟩
theorem GG(c:Int):∃z:Str,hG [V.str (Str.ofString "tell"),V.str (Str.ofString "weak"),V.str (Str.ofString "own")] (c%3)=some (V.str z)/\bN z/\z.length<=4:=by
 have hd:c%3=0\/c%3=1\/c%3=2:=by omega
 rcases hd with e|e|e<;>rw[e]
 ·exact⟨_,rfl,.inl rfl,by decide +kernel⟩
 ·exact⟨_,rfl,.inr (.inl rfl),by decide +kernel⟩
 ·exact⟨_,rfl,.inr (.inr rfl),by decide +kernel⟩
theorem FG(c:Int):∃n:Int,1*2 ^ (c%17).toNat=n/\1<=n/\n<=65536/\c7 (nS n)=.int n:=by
 have h:(c%17).toNat<=16:=by omega
 generalize (c%17).toNat=x at *;have e:(1:Int)*2 ^ x=((2 ^ x:Nat):Int):=by rw[Int.one_mul,Int.natCast_pow];rfl
 have l1:1<=2 ^ x:=Nat.one_le_two_pow;have l2:2 ^ x<=2 ^ 16:=PN (by decide) h;refine⟨_,e,by omega,by omega,AU (by omega) (by omega) ⟨x,by rw[Int.natCast_pow];rfl⟩⟩
theorem Nf(T:Txt w K mg A):bo P w K mg base eI 3 A.Og A.tG ["_law_cell", "_law_names_by", "_law_stretches", "_law_told"] Ij:=by
 refine T.za.ok gw (λvs H Q E h=>?_) (λcdv Ar outer s H vs Q E hr h=>?_)
 ·obtain⟨c,nb,q,S,m,rfl,_⟩:=h;rfl
 ·obtain⟨c,nb,q,S,m,rfl,B,hm,k⟩:=h
  refine⟨_,(aL (pS 4 gw.nd (ag aG (ag cX (pv 0) ah) ah)) (aL (aM (PW.pt (eY (br (pY hr.units (K:=K) rfl) (pv 2) (aw aa) (ax _)) (dA (br ba (ag aG (pv 0) ah) ah (ax _))))) (cJ (u:=TX) (aL (pS 5 gw.nd (bH (dv (K:=K) rfl) (aw (ao af (ao af aa))) (ag aG (ag eA (pv 0) ah) ah) (λ_ _=>rfl))) (aL (pS 6 gw.nd (ag KI ah (ag aG (ag eA (pv 0) ah) ah))) (aL (bU (ee (pv 2) (ao (bM (ao (pv 5) (ao (pv 6) (ao (aw aa) (ao (aw aa) aa))))) aa))) (bE (au (aw (ao (ag bW (ag bW (pv 5) af) (gY jj (by rfl) T.dW dE (ao (pv 6) aa))) aa))))))) ?pka) bD) (cJ (u:=TL) (aL (pS 7 gw.nd (bH (dv (K:=K) rfl) (pv 2) (vA kW ah) (λ_ _=>rfl))) (aL (aM (br w_ (ag aG (pv 0) ah) ah (ax _)) (cJ (u:=SS) (aL (pS 8 gw.nd (pC (xx T) hr T.vo T.mq T.mE (ao (pv 1) (ao (pv 4) aa)))) (aL (pS 9 gw.nd (bH (dv (K:=K) rfl) (aw (ao af (ao af (ao af aa)))) (ag aG (ag eA (pv 4) ah) ah) (λ_ _=>rfl))) (aL (aM (br (xS (K:=K) rfl) (pv 8) (qh (Ih ["_law_row"]) rfl (gh (K:=K) rfl (pv 3)) (λ_ _ _=>⟨(pn 0 (by walk_at "n")),oK,(tx K (pv 0))⟩)) (by with_unfolding_all rfl)) (bE (au (aw aa))) bD) (aL (bU (ee (pv 3) (ao (bM (ao (pv 8) (ao (pv 9) (ao (ag fK (dh (e7 (K:=K) rfl) (by rfl) T.cF bZ (ao (pv 2) aa)) ah) (ao (dh (e7 (K:=K) rfl) (by rfl) T.cF bZ (ao (tx K (pv 7)) aa)) aa))))) aa))) (bE (au (aw (ao (ag bW (ag bW (pv 9) af) (pv 8)) aa)))))))) ?pkn) bD) (cJ (u:=SS) (aL (pS 10 gw.nd (aw (ao (ag bW af (gY jj (by rfl) T.dW dE (ao (pC (IV T) hr T.EO T.ye T.yr (ao (pv 0) aa)) aa))) aa))) (aL (aM (br w_ (ag aG (pv 0) ah) ah (ax _)) (aL (bU (ee (tx K (pv 7)) (ao (pC (Pf T) hr T.JW T.Bf T.Ex (ao (pv 4) (ao (dh (e7 (K:=K) rfl) (by rfl) T.cF bZ (ao (tx K (pv 7)) aa)) (ao (pv 1) aa)))) aa))) (bE (bU (ee (pv 10) (ao (pC (NK T) hr T.JZ T.Bg T.BD (ao (bH (dv (K:=K) rfl) (tx K (pv 7)) (vA kW ah) (λ_ _=>rfl)) aa)) aa))))) bD) (cJ (u:=TY) (aL (bU (ee (tx K (pv 7)) (ao (pC (IV T) hr T.EO T.ye T.yr (ao (pv 0) aa)) aa))) (bE (au (pv 10)))) ?pkd))) ?pkc))) ?pkb))),?main⟩
  case main=>
   walk_at "rd";refine⟨.inr ⟨by decide,by decide⟩,by decide,gB _,λp hp=>HH B.pr hp (λz=>?_) (λz=>?_)⟩
   ·rw[if_pos rfl];exact⟨c,nb,_,q,S,m,H,_,_,_,_,_,_,rfl,aO hp,B,hm,k⟩
   ·rw[if_neg (by decide)];exact⟨by decide,cS (λ_=>⟨c,nb,_,q,S,m,H,_,_,_,_,_,_,rfl,aO hp,B,hm,k⟩) (λ_=>⟨c,nb,_,q,S,m,H,_,_,_,_,_,_,rfl,aO hp,B,hm,z,k⟩)⟩
  case pka=>
   rintro D σ H ⟨c,nb,n,q,S,m,H0,b5,b6,b7,b8,b9,b10,rfl,sm,B,hm,k⟩;walk_at "rd";obtain⟨kd,ek,hk⟩:=Ii (c/8);obtain⟨st,est,s1,s2,s3⟩:=FG (c/16);rw[est];have iz:xh st:=⟨by omega,by omega⟩
   have l3:=dq iz;have l4:=dQ iz;walk_at "7";have lk:kd.length=4:=by rcases hk with e|e<;>rw[e]<;>decide +kernel
   refine⟨ay (by decide),λp hp=>⟨⟨by decide,by decide⟩,by decide,_,aC.of aE,_,ek,⟨by decide,by decide⟩,by decide,⟨by omega,by omega,by decide⟩,?_⟩⟩;generalize e1:upd H p (HO.lst [V.str (Str.ofString "code"),V.str (Str.ofString "data")])=H1;have m1:aA H0 H1:=by rw[<-e1];exact sm.trans (aO hp)
   refine⟨.inl ⟨rfl,_,aC.of (m1 _ _ B.pr.sl)⟩,gB _,λlw hlw=>⟨gB _,λlf hlf=>⟨ay (by decide),λt ht=>?_⟩⟩⟩;generalize e2:upd H1 lw (HO.lst [])=H2 at hlf ht ⊢;have m2:aA H1 H2:=by rw[<-e2];exact aO hlw
   have a2:H2 lw=some (.lst []):=by rw[<-e2,aE]
   generalize e3:upd H2 lf (HO.lst [])=H3 at ht ⊢;have m3:aA H2 H3:=by rw[<-e3];exact aO hlf
   have a3:H3 lf=some (.lst []):=by rw[<-e3,aE]
   generalize e4:upd H3 t (HO.tup [V.str kd,V.int st,V.ref lw,V.ref lf])=H4;have m4:aA H3 H4:=by rw[<-e4];exact aO ht
   have a4:H4 t=some (HO.tup [V.str kd,V.int st,V.ref lw,V.ref lf]):=by rw[<-e4,aE]
   have M:=((m1.trans m2).trans m3).trans m4;have flw:H0 lw=none:=bX m1 hlw;have flf:H0 lf=none:=bX (m1.trans m2) hlf;have pb:=B.pr.mono M;refine⟨_,pb.sl,by rw[aQ,sizeLine_eq];have:=B.n1.1;omega,_,rfl,ay (by omega),by omega,ay (by rw[aH];omega),ay (by decide),λl hl=>?_⟩;have nlf:lw≠lf:=cT a2 hlf;have P:=pb.g7 a4 (m4 _ _ (m3 _ _ a2)) (m4 _ _ a3) nlf (B.pr.fresh flw) (B.pr.fresh flf);obtain⟨n1,n2,n3⟩:=B.n1;have eL:a7.lists { q with az:=q.az++[⟨t,lw,lf,kd,st,[],[]⟩] }=q.lists++[lw,lf]:=by simp[a7.lists,bT.lists,List.flatMap_append]
   refine k { q with az:=q.az++[⟨t,lw,lf,kd,st,[],[]⟩] } l [.st kd st] _ { ids:=⟨rfl,rfl,rfl,rfl⟩,fr:=λx o hx e=>?_,nw:=λx hx=>?_,top := ?_,fl := ?_,nl:=P.fresh hl,n2:=by simp,tk:=⟨⟨by rw[B.nm];simp,hk,s3⟩,trivial⟩,pb:=⟨P.mono (aO hl),?_,B.aK,B.nm,?_⟩ }
   ·have e':=M _ _ e;have nx:x≠q.ls:=λz=>hx (by rw[z];simp[a7.lists]);have e5:upd H4 q.ls (HO.lst (q.az.map bT.v++[V.ref t])) x=some o:=by rw[ae nx];exact e'
    rw[ae (cT e5 hl)];exact e5
   ·rw[eL]at hx;rcases eC.mp hx with z|z
    ·exact .inl z
    ·simp only[List.mem_cons,List.not_mem_nil,or_false]at z;rcases z with rfl|rfl
     ·exact .inr flw
     ·exact .inr flf
   ·rw[aE];show some (HO.lst [V.str _])=some (HO.lst [V.str _]);rw[gx];rfl
   ·have nx:l≠q.ls:=λz=>by rw[z,aE]at hl;cases hl
    rw[ae nx]at hl;exact bX M hl
   ·show(q.az++[_]).map sC=S.az++[_];rw[gJ,B.az];rfl
   ·refine⟨by show(q.az++[_]).length<=m+1;rw[cL,hJ];omega,by show q.aK.length<=m+1;omega,λs hs=>?_⟩;rcases eC.mp hs with z|z
    ·have:=n3 s z;exact⟨by omega,by omega⟩
    ·rw[iL.mp z];exact⟨gB _,gB _⟩
  case pkb=>
   rintro D σ H ⟨c,nb,n,q,S,m,H0,b5,b6,b7,b8,b9,b10,rfl,sm,B,hm,ne,k⟩;walk_at "rd";obtain⟨ss,s,es⟩:∃ss s,q.az=ss++[s]:=⟨q.az.dropLast,q.az.getLast ne,(Pp ne).symm⟩
   have sl:=sm _ _ B.pr.sl;refine⟨_,aC.of sl,s.v,?_,by decide,cS (λ_=>⟨c,nb,n,q,S,m,H0,ss,s,_,_,_,_,_,rfl,sm,B,hm,es,k⟩) (λ_=>⟨c,nb,n,q,S,m,H0,ss,s,_,_,_,_,_,rfl,sm,B,hm,es,k⟩)⟩;rw[es,gJ];exact uP _ _
  case pkn=>
   rintro D σ H ⟨c,nb,n,q,S,m,H0,ss,s,b5,b6,b8,b9,b10,rfl,sm,B,hm,es,k⟩;walk_at "rd";refine λz H1 s1 hz=>⟨ay (by decide),λp hp=>⟨⟨by decide,by decide⟩,by decide,_,aC.of aE,?_⟩⟩;obtain⟨so,eso,hso,lso⟩:=GG (n/400);refine⟨_,eso,?_⟩;generalize e2:upd H1 p (HO.lst [V.str (Str.ofString "tell"),V.str (Str.ofString "weak"),V.str (Str.ofString "own")])=H2;have m2:aA H0 H2:=by rw[<-e2];exact sm.trans (s1.trans (aO hp))
   walk_at "7";have lz:=(ub hz).2;obtain⟨n1,n2,n3⟩:=B.n1;have pb:=B.pr.mono m2;refine uo.of (xs:=q.aK.map aX.v) (by rw[sizeLine_eq,aQ];omega) (aC.of pb.nl) (λD i ys H'=>ys=(q.aK.take i).map (λx=>V.str x.name)/\aA H2 H'/\H' D=some (.lst ys)) (λD hD=>⟨rfl,aO hD,aE⟩) ?_ ?_ ?_
   ·rintro D i ys H' hD hi ⟨rfl,a,b⟩;exact⟨aC.of (a _ _ pb.nl),b,by rw[aQ,nV];omega⟩
   ·rintro D i v ys H' hD hx ⟨rfl,a,b⟩;rw[z5]at hx;obtain⟨x,hx',rfl⟩:=Cr.mp hx;have ha:x.At H':=(pb.ns x (A4 hx')).mono a;walk_at "rd";refine⟨.no .nil,_,dH.of ha,_,rfl,b,?_,cV hD a,?_⟩
    ·rw[Pe,hx',gJ];rfl
    ·exact aE
   ·rintro D ys H' hD ⟨ey,a,b⟩;have e3:ys=(q.aK.map aX.name).map V.str:=by rw[ey,aQ,Mo,zN];rfl
    have m3:=m2.trans a;have pc:=B.pr.mono m3;have sa:=pc.ss s (by rw[es];simp);refine⟨D,rfl,ys,.inl (aC.of b),rfl,?_,cS (λ_=>⟨gB _,λl hl=>?_⟩) (λhin=>⟨.inl ⟨rfl,_,aC.of pc.nl⟩,_,.inl ⟨_,aC.of pc.sl,rfl⟩,_,dH.of sa.top,_,rfl,_,.inl ⟨_,aC.of sa.wd,rfl⟩,ay (by decide),λt ht=>?_⟩)⟩
    ·rw[e3,List.all_map];exact A6.mpr λ_ _=>rfl
    ·refine k q l [] _ { ids:=⟨rfl,rfl,rfl,rfl⟩,fr:=λx o hx e=>?_,nw:=λx hx=>.inl hx,top:=aE,fl:=bX m3 hl,nl:=pc.fresh hl,n2:=by simp,tk:=trivial,pb:=⟨pc.mono (aO hl),B.az,B.aK,B.nm,?_⟩ }
     ·exact(m3.trans (aO hl)) _ _ e
     ·exact⟨by omega,by omega,λs hs=>by have:=n3 s hs;omega⟩
    ·have hnew:z∉S.aK.map (·.1):=λhz=>hin (by
      rw[e3];refine vp.mpr ?_;rw[<-B.aK,zN]at hz;exact hz)
     have m4:=m3.trans (aO (o:=HO.tup [V.str z,V.str so,V.int ((List.map bT.v q.az).length - 1),V.int (List.map V.int s.words).length]) ht);have a4:upd H' t (HO.tup [V.str z,V.str so,V.int ((List.map bT.v q.az).length - 1),V.int (List.map V.int s.words).length]) t=some _:=aE;generalize upd H' t (HO.tup [V.str z,V.str so,V.int ((List.map bT.v q.az).length - 1),V.int (List.map V.int s.words).length])=H4 at m4 a4 ⊢;have pd:=B.pr.mono m4;refine⟨_,pd.nl,by rw[aQ,sizeLine_eq];omega,_,rfl,ay (by omega),ay (by rw[aH];omega),ay (by decide),λl hl=>?_⟩;have P:=pd.xo (n:=⟨t,z,so,((List.map bT.v q.az).length:Int) - 1,((List.map V.int s.words).length:Int)⟩) a4;refine k { q with aK:=q.aK++[⟨t,z,so,((List.map bT.v q.az).length:Int) - 1,((List.map V.int s.words).length:Int)⟩] } l [.told so z] _ { ids:=⟨rfl,rfl,rfl,rfl⟩,fr:=λx o hx e=>?_,nw:=λx hx=>.inl hx,top := ?_,fl := ?_,nl:=P.fresh hl,n2:=by simp,tk:=⟨⟨by rw[B.nm];simp,by rw[<-B.az,es];simp,hso,hz,hnew⟩,trivial⟩,pb:=⟨P.mono (aO hl),B.az,?_,B.nm,?_⟩ }
     ·have e':=m4 _ _ e;have nx:x≠q.ln:=λz=>hx (by rw[z];simp[a7.lists]);have e5:upd H4 q.ln (HO.lst (q.aK.map aX.v++[V.ref t])) x=some o:=by rw[ae nx];exact e'
      rw[ae (cT e5 hl)];exact e5
     ·rw[aE];show some (HO.lst [V.str _])=some (HO.lst [V.str _]);rw[c8]
     ·have nx:l≠q.ln:=λz=>by rw[z,aE]at hl;cases hl
      rw[ae nx]at hl;exact bX m4 hl
     ·have el:cw S=(s.words.length:Int):=by unfold cw;rw[<-B.az,es,List.map_append,List.getLast?_append];rfl
      have eq:(q.az.length:Int)=(S.az.length:Int):=by rw[<-B.az,aQ]
      show(q.aK++[_]).map nC=S.aK++[(z,so,(S.az.length:Int) - 1,cw S)];rw[gJ,B.aK,el,<-eq];simp[nC]
     ·exact⟨by show q.az.length<=m+1;omega,by show(q.aK++[_]).length<=m+1;rw[cL,hJ];omega,λs hs=>by have:=n3 s hs;omega⟩
  case pkc=>
   rintro D σ H ⟨c,nb,n,q,S,m,H0,ss,s,b5,b6,b8,b9,b10,rfl,sm,B,hm,es,k⟩;walk_at "rd";obtain⟨u0,u1⟩:=vm c;have iz:xh (cm c):=⟨by omega,by omega⟩
   have l3:=dq iz;have l4:=dQ iz;have w1:(Str.ofString "word ").length=5:=by decide +kernel
   refine λH1 s1=>⟨by omega,ay (by omega),ay (by decide),λl hl=>⟨by decide,?_⟩⟩;have ew:[V.str (Str.ofString "word " ++ Str.ofString (toString (cm c)))]=[aq.word (cm c)].map λr=>V.str (ak r):=by
    show [V.str _]=[V.str _];rw[eZ];rfl
   rw[ew];have m2:aA H0 (upd H1 l (HO.lst ([aq.word (cm c)].map λr=>V.str (ak r)))):=sm.trans (s1.trans (aO hl));have a2:upd H1 l (HO.lst ([aq.word (cm c)].map λr=>V.str (ak r))) l=some _:=aE;have fl:H0 l=none:=bX (sm.trans s1) hl;generalize upd H1 l (HO.lst ([aq.word (cm c)].map λr=>V.str (ak r)))=H2 at m2 a2 ⊢;obtain⟨n1,n2,n3⟩:=B.n1;have ns:=n3 s (by rw[es];simp);have pb:=B.pr.mono m2;have sa:=pb.ss s (by rw[es];simp);have eq0:({ q with az:=ss++[{ s with fills:=s.fills++[] }] }:a7)=q:=by rw[Ho,<-es]
   refine cS (λ_=>?_) (λ_=>⟨c,nb,n,q,S,m,H0,ss,s,l,[],[.word (cm c)],_,_,_,_,rfl,es,B,hm,by rw[eq0];exact pb,λx o _ e=>m2 _ _ e,a2,fl,.inl ⟨rfl,rfl⟩,k⟩);refine⟨_,dH.of sa.top,_,rfl,.inl ⟨rfl,_,aC.of sa.fl⟩,_,dH.of sa.top,_,rfl,_,.inl ⟨_,aC.of sa.wd,rfl⟩,λf H3 s3 hf ff fat fp=>?_⟩;have m3:=m2.trans s3;have pc:=B.pr.mono m3;have sc:=pc.ss s (by rw[es];simp);obtain⟨q1,q2,q3,q4⟩:=pc.gc es;have P:=pc.yp es hf;have ht:upd H3 s.lf (HO.lst (s.fills.map aW.v++[f.v])) s.t=some (HO.tup [.str s.kind,.int s.step,.ref s.lw,.ref s.lf]):=by rw[ae (bS sc.top sc.fl (by intro z;cases z))];exact sc.top
   have nl:l≠s.lf:=λz=>(B.pr.fresh fl) (by rw[z];exact(B.pr.gc es).2.1);have hft:aW.At (upd H3 s.lf (HO.lst (s.fills.map aW.v++[f.v]))) f:=by
    show upd _ _ _ f.a=_;rw[ae (bS hf sc.fl (by intro z;cases z))];exact hf
   refine⟨_,rfl,_,sc.fl,by rw[aQ,sizeLine_eq];omega,.inl ⟨rfl,_,aC.of (by rw[ae nl];exact s3 _ _ a2)⟩,_,dH.of ht,_,rfl,_,rfl,_,aC.of aE,_,uP _ _,f,rfl,hft,fp,λH4 s4=>?_⟩;have al:H4 l=some (HO.lst ([aq.word (cm c)].map λr=>V.str (ak r))):=s4 _ _ (by rw[ae nl];exact s3 _ _ a2);have P4:=P.mono s4;have nl':l∉a7.lists { q with az:=ss++[{ s with fills:=s.fills++[f] }] }:=by
    have eL:a7.lists { q with az:=ss++[{ s with fills:=s.fills++[f] }] }=q.lists:=by simp[a7.lists,es,List.flatMap_append,bT.lists]
    rw[eL];exact B.pr.fresh fl
   refine⟨_,al,by rw[aQ,sizeLine_eq];simp,c,nb,n,q,S,m,H0,ss,s,l,[f],[.word (cm c),.fill f.soft f.rule f.name f.add],_,_,_,_,rfl,es,B,hm,P4.but (lM.upd al) nl',λx o hx e=>?_,aE,fl,.inr ⟨f,rfl,fp,by rw[fat,List.length_map],rfl⟩,k⟩;have e5:=s4 _ _ (show upd H3 s.lf (HO.lst (s.fills.map aW.v++[f.v])) x=some o by rw[ae hx];exact m3 _ _ e);rw[ae (cT e fl)];exact e5
  case pkd=>
   rintro D σ H ⟨c,nb,n,q,S,m,H0,ss,s,l,fs,rows,b5,b6,b8,b9,rfl,es,B,hm,pr,fr,hl,fl,hf,k⟩;walk_at "rd";have sa:=pr.ss { s with fills:=s.fills++fs } (by simp);refine⟨_,dH.of sa.top,_,rfl,.inl ⟨rfl,_,aC.of sa.wd⟩,λH1 s1=>⟨_,rfl,?_⟩⟩;have pb:=pr.mono s1;have sb:=pb.ss { s with fills:=s.fills++fs } (by simp);obtain⟨n1,n2,n3⟩:=B.n1;have ns:=n3 s (by rw[es];simp);refine⟨_,sb.wd,by rw[aQ,sizeLine_eq];show s.words.length<_;omega,?_⟩;obtain⟨u0,u1⟩:=vm c;have P:=pb.xP (i:=cm c) rfl;have lw:s.lw∈q.lists:=(B.pr.gc es).1;have lf:s.lf∈q.lists:=(B.pr.gc es).2.1;have eL:a7.lists { q with az:=ss++[{ s with fills:=s.fills++fs,words:=s.words++[cm c] }] }=q.lists:=by simp[a7.lists,es,List.flatMap_append,bT.lists]
   have sn:S.az=ss.map sC++[sC s]:=by rw[<-B.az,es,gJ];rfl
   have sne:S.az≠[]:=by rw[sn];simp
   have nn:S.nm≠none:=by rw[B.nm];simp
   refine k { q with az:=ss++[{ s with fills:=s.fills++fs,words:=s.words++[cm c] }] } l rows _ { ids:=⟨rfl,rfl,rfl,rfl⟩,fr:=λx o hx e=>?_,nw:=λx hx=>.inl (by rw[eL]at hx;exact hx),top := ?_,fl:=fl,nl := ?_,n2 := ?_,tk := ?_,pb:=⟨P,?_,?_,?_,?_⟩ }
   ·rw[ae (λz=>hx (by rw[z];exact lw))];exact s1 _ _ (fr _ _ (λz=>hx (by rw[z];exact lf)) e)
   ·have nl:l≠s.lw:=λz=>(B.pr.fresh fl) (by rw[z];exact lw);rw[ae nl];exact s1 _ _ hl
   ·rw[eL];exact B.pr.fresh fl
   ·rcases hf with ⟨_,e⟩|⟨f,_,_,_,e⟩<;>rw[e]<;>simp
   ·rcases hf with ⟨_,e⟩|⟨f,_,fp,_,e⟩<;>rw[e]
    ·exact⟨⟨nn,sne,u0,u1⟩,trivial⟩
    ·refine⟨⟨nn,sne,u0,u1⟩,⟨nn,?_,rfl,fp.rule,fp.name,fp.soft,fp.lo,fp.hi⟩,trivial⟩;show cj _ S.az≠[];rw[sn,cb];simp
   ·rcases hf with ⟨e0,e⟩|⟨f,e0,fp,fat,e⟩<;>rw[e,e0]
    ·show(ss++[_]).map sC=cj (bV (cm c)) S.az;rw[sn,cb,gJ];simp[sC,bV]
    ·show(ss++[_]).map sC=cj (cW f.soft f.rule f.name f.add) (cj (bV (cm c)) S.az);rw[sn,cb,cb,gJ];simp[sC,bV,cW,fC,fat]
   ·rcases hf with ⟨_,e⟩|⟨f,_,_,_,e⟩<;>rw[e]<;>exact B.aK
   ·rcases hf with ⟨_,e⟩|⟨f,_,_,_,e⟩<;>rw[e]<;>exact B.nm
   ·have fl1:fs.length<=1:=by rcases hf with ⟨e,_⟩|⟨f,e,_⟩<;>rw[e]<;>simp
    have cl:(ss++[s]).length<=m:=by rw[<-es];exact n1
    rw[cL,hJ]at cl;refine⟨by show(ss++[_]).length<=m+1;rw[cL,hJ];omega,by show q.aK.length<=m+1;omega,λx hx=>?_⟩;rcases eC.mp hx with z|z
    ·have:=n3 x (by rw[es];exact vB _ z);exact⟨by omega,by omega⟩
    ·rw[iL.mp z];exact⟨by show(s.words++[cm c]).length<=m+1;rw[cL,hJ];omega,by show(s.fills++fs).length<=m+1;rw[cL];omega⟩
theorem AI(ns:List Int)(h:ns.length<=63):∃ms:List Int,dC (ns.map V.int) (some 2) (some 202)=ms.map V.int/\ms.length<=63:=by
 refine⟨(ns.drop (HT.sIx ns.length 0 (some 2))).take (HT.sIx ns.length ns.length (some 202) - HT.sIx ns.length 0 (some 2)),?_,?_⟩
 ·unfold dC;rw[aQ,List.map_take,List.map_drop]
 ·rw[nV,wc];omega
theorem O9(T:Txt w K mg A):bo P w K mg base eI 5 A.Oq A.pJ ["_law_script"] (Ai K):=by
 refine T.x_.ok gk (λvs H Q E h=>?_) (λcdv Ar outer s H vs Q E hr h=>?_)
 ·obtain⟨a,ns,rfl,_⟩:=h;rfl
 ·obtain⟨a,ns,rfl,hS,hl,k⟩:=h;refine⟨_,(aL (pS 1 gk.nd (pC (u4 T) hr T.mS T.lh T.kN (ao (pv 0) (ao ah aa)))) (aL (pS 2 gk.nd (pC (xx T) hr T.vo T.mq T.mE (ao (pC (u4 T) hr T.mS T.lh T.kN (ao (pv 0) (ao ah aa))) (ao (ag eA (pC (u4 T) hr T.mS T.lh T.kN (ao (pv 0) (ao ah aa))) ah) aa)))) (aL (pS 3 gk.nd (aw aa)) (aL (pS 4 gk.nd (aw aa)) (aL (pS 5 gk.nd (aw (ao (ag bW af (pv 2)) aa))) (aL (pF (gh (K:=K) rfl (dR (fS (K:=K) rfl) (pv 0) (dD ah) (dD ah))) (pn 6 gk.nd) (bE (pS 5 gk.nd (ag (cM (K:=K) rfl) (pv 5) (pC (Nf T) hr T.IP T.BS T.Fz (ao (pv 6) (ao (pv 1) (ao (pv 3) (ao (pv 4) aa))))))))) (bE (au (bM (ao (pv 5) (ao (bM (ao (pv 2) (ao (pv 3) (ao (pv 4) aa)))) aa))))))))))),?_⟩;walk_at "rd";have w1:(Str.ofString "piece ").length=6:=by decide +kernel
  refine⟨ns,hS,by decide,λm=>⟨ns,hS,by decide,λm1=>⟨ns,hS,by decide,λm2=>⟨⟨by decide,by decide⟩,λz H1 s1 hz=>⟨gB _,λls hls=>⟨gB _,λln hln=>⟨ay (by have:=(ub hz).2;omega),ay (by decide),λpr hpr=>?_⟩⟩⟩⟩⟩⟩⟩;obtain⟨n1,hln'⟩:=jo hln;have er:[V.str (Str.ofString "piece " ++ z)]=[aq.aV z].map λr=>V.str (ak r):=by
   show [V.str _]=[V.str _];rw[dU]
  rw[er];generalize e2:upd (upd H1 ls (HO.lst [])) ln (HO.lst [])=H2 at hpr ⊢;have m2:aA H1 H2:=by rw[<-e2];exact(aO hls).trans (aO hln)
  have a1:H2 ls=some (.lst []):=by rw[<-e2,ae (Ne.symm n1),aE]
  have a2:H2 ln=some (.lst []):=by rw[<-e2,aE]
  have m3:=m2.trans (aO (o:=HO.lst ([aq.aV z].map λr=>V.str (ak r))) hpr);refine⟨_,(s1.trans m3).seq hS,λsl hsl=>?_⟩;obtain⟨ms,em,lm⟩:=AI ns hl;rw[em];obtain⟨n3,hsl'⟩:=jo hsl;have m4:=m3.trans (aO (o:=HO.lst (ms.map V.int)) hsl);have P0:Pr H2 ⟨ls,ls,ln,z,[],[]⟩:=Pr.start a1 a2 (Ne.symm n1);have f1:∀b∈([ls,ln]:List Addr),H b=none:=λb hb=>by
   simp only[List.mem_cons,List.not_mem_nil,or_false]at hb;rcases hb with rfl|rfl
   ·exact bX s1 hls
   ·exact bX s1 hln'
  refine zZ.of (xs:=ms.map V.int) (λi σ H'=>∃(b6:Option V) (pr:Addr) (rows:List aq) (q:a7),σ=[some (.ref a),some (.int m),some (.str z),some (.ref ls),some (.ref ln),some (.ref pr),b6]/\q.ls=ls/\q.ln=ln/\q.name=z/\aA H H'/\H' pr=some (.lst (rows.map λr=>V.str (ak r)))/\H' sl=some (.lst (ms.map V.int))/\pr∉q.lists/\sl∉q.lists/\(∀b∈q.lists,H b=none)/\PB H' q (rows.foldl RP.next lN) i/\lN.bj rows/\rows.length<=1+2*i/\∃r,rows=.aV z::r)
   ⟨_,pr,[.aV z],⟨ls,ls,ln,z,[],[]⟩,rfl,rfl,rfl,rfl,s1.trans m4,aO hsl _ _ aE,aE,P0.fresh hpr,P0.fresh hsl',f1,⟨P0.mono ((aO hpr).trans (aO hsl)),rfl,rfl,rfl,⟨dn _,dn _,λs hs=>(nomatch hs)⟩⟩,⟨⟨rfl,hz⟩,trivial⟩,by simp,[],rfl⟩ ?_ ?_ ?_
  ·rintro i σ H' hi ⟨b6,pr,rows,q,rfl,_,_,_,_,_,h,_⟩;exact aC.of h
  ·rintro i v σ H' hv ⟨b6,pr,rows,q,rfl,e1,e2,e3,sm,hp,hs,np,ns',fl,B,tk,len,r,er⟩;have hi:=(we.mp hv).1;rw[aQ]at hi;rw[z5]at hv;obtain⟨c,hc,rfl⟩:=Cr.mp hv;walk_at "rd";refine⟨q,by rw[e1],by rw[e2],_,i,B,by omega,λq' l rows' H3 to=>?_⟩;have hp':=to.fr _ _ np hp;have hs':=to.fr _ _ ns' hs;have nn:∀{x o},x∉q.lists->H' x=some o->x∉q'.lists:=λ{x o} hx e hm=>(to.nw x hm).elim hx λz=>by rw[e]at z;cases z
   refine⟨_,aC.of hp',_,aC.of to.top,by rw[sizeLine_eq,aQ,aQ];have:=to.n2;omega,λp5 hp5=>?_⟩;rw[<-gJ];refine⟨rows++rows',q',to.ids.1.trans e1,to.ids.2.1.trans e2,to.ids.2.2.2.trans e3,?_,aE,aO hp5 _ _ hs',to.pb.pr.fresh hp5,nn ns' hs,λb hb=>?_,?_,fw tk to.tk,by rw[cL];have:=to.n2;omega,r++rows',by rw[er];rfl⟩
   ·exact λx o e=>aO hp5 _ _ (to.fr _ _ (λhx=>by rw[fl x hx]at e;cases e) (sm _ _ e))
   ·rcases to.nw b hb with z|z
    ·exact fl b z
    ·exact bX sm z
   ·have pb:=to.pb;rw[List.foldl_append];exact⟨pb.pr.mono (aO hp5),pb.az,pb.aK,pb.nm,pb.n1⟩
  ·rintro σ H' ⟨b6,pr,rows,q,rfl,e1,e2,e3,sm,hp,hs,np,ns',fl,B,tk,len,r,er⟩;walk_at "rd";rw[aQ]at B len;refine⟨ay (by decide),λt ht=>⟨ay (by decide),λt2 ht2=>?_⟩⟩;have m5:=(aO (o:=HO.tup [V.str z,V.ref ls,V.ref ln]) ht).trans (aO (o:=HO.tup [V.ref pr,V.ref t]) ht2);have pb:=B.pr.mono m5;have tt:=aO (o:=HO.tup [V.ref pr,V.ref t]) ht2 _ _ (aE (a:=t) (o:=HO.tup [V.str z,V.ref ls,V.ref ln]));obtain⟨q1,q2,q3⟩:=B.n1;refine k t2 pr { q with t:=t } rows _ aE { sm:=sm.trans m5,RU:=m5 _ _ hp,at_:=⟨?_,pb.sl,pb.nl,pb.ss,pb.ns⟩,nd:=pb.nd,fl:=fl,ne:=by rw[er];simp,len:=by omega,tk:=tk,run:=⟨(rows.foldl RP.next lN).bw,?_⟩,n1:=⟨by show q.az.length<=100;omega,by show q.aK.length<=100;omega,λs hs=>by have:=q3 s hs;omega⟩,hd:=⟨z,r,er⟩ }
   ·show _=some (HO.tup [.str q.name,.ref q.ls,.ref q.ln]);rw[e1,e2,e3];exact tt
   ·unfold bO;rw[Mo];show _=(⟨some q.name,q.az.map sC,q.aK.map nC,_⟩:RP);rw[B.az,B.aK,<-B.nm]
theorem fN(ns:List cq)(n:cq)(a b:Int):bq (ns++[n]) a b=bq ns a b++if n.2.2.1=a/\n.2.2.2=b then [.told n.2.1 n.1] else []:=by
 unfold bq;rw[List.filter_append,gJ];congr 1;by_cases h:n.2.2.1=a/\n.2.2.2=b
 ·rw[if_pos h,List.filter_cons_of_pos (by simp[h.1,h.2])];rfl
 ·rw[if_neg h,List.filter_cons_of_neg (by simpa using h)];rfl
theorem g0{ns:List cq}{a b:Int}(h:∀n∈ns,¬(n.2.2.1=a/\n.2.2.2=b)):bq ns a b=[]:=by
 unfold bq;rw[List.filter_eq_nil_iff.mpr λn hn=>by simpa using h n hn];rfl
theorem Al(ns:List cq)(a b:Int):(bq ns a b).length<=ns.length:=by unfold bq;rw[List.length_map];exact List.length_filter_le _ _
theorem dX(fs:List fW)(f:fW)(a:Int):c6 (fs++[f]) a=if f.1=a then [.fill f.2.2.2.2 f.2.1 f.2.2.1 f.2.2.2.1] else c6 fs a:=by
 unfold c6;rw[List.foldl_append];rfl
theorem snoc_ind{α:Type}{P:List α->Prop}(h0:P [])(h1:∀xs x,P xs->P (xs++[x])):∀xs,P xs:=by
 have:∀xs:List α,P xs.reverse:=λxs=>by
  induction xs with
  |nil=>exact h0
  |cons x r ih=>rw[List.reverse_cons];exact h1 _ _ ih
 intro xs;have:=this xs.reverse
 rwa [List.reverse_reverse]at this
theorem ko:∀(fs:List fW) {a:Int},(∀f∈fs,f.1≠a)->c6 fs a=[]:=
 snoc_ind (P:=λfs=>∀{a:Int},(∀f∈fs,f.1≠a)->c6 fs a=[]) (λ{a} _=>rfl) λxs x ih {a} h=>by
  rw[dX,if_neg (h x (by simp))];exact ih λl hl=>h l (by simp[hl])
theorem cz(ns:List cq)(i:Int)(x:lO)(j:Nat):bL ns i x (j+1)=bL ns i x j++(bq ns i (j:Int)++.word (x.2.2.1.getD j 0)::c6 x.2.2.2 (j:Int)):=by
 unfold bL;rw[List.range_succ,List.flatMap_append];simp
theorem cZ{ns ns':List cq}{i:Int}{x x':lO}:∀{j:Nat},(∀k:Nat,k<j->x.2.2.1.getD k 0=x'.2.2.1.getD k 0/\bq ns i (k:Int)=bq ns' i (k:Int)/\c6 x.2.2.2 (k:Int)=c6 x'.2.2.2 (k:Int))->bL ns i x j=bL ns' i x' j
 |0,_=>rfl
 |j+1,h=>by
  obtain⟨h1,h2,h3⟩:=h j (by omega);rw[cz,cz,cZ λk hk=>h k (by omega),h1,h2,h3]
theorem lX(ns:List cq):∀(i:Int) (xs:List lO) (x:lO),aR ns i (xs++[x])=aR ns i xs++bJ ns (i+(xs.length:Int)) x
 |i,[],x=>by
  show bJ ns i x++[]=[]++bJ ns (i+((0:Nat):Int)) x;rw[Ho,show i+((0:Nat):Int)=i by omega];rfl
 |i,y::xs,x=>by
  show bJ ns i y++aR ns (i+1) (xs++[x])=bJ ns i y++aR ns (i+1) xs++bJ ns (i+((xs.length+1:Nat):Int)) x;rw[lX ns (i+1) xs x,Ez,show i+1+(xs.length:Int)=i+((xs.length+1:Nat):Int) by omega]
theorem ip{ns ns':List cq}:∀{xs:List lO}{i:Int},(∀a b:Int,i<=a->a<i+(xs.length:Int)->bq ns a b=bq ns' a b)->aR ns i xs=aR ns' i xs
 |[],_,_=>rfl
 |y::xs,i,h=>by
  show bJ ns i y++aR ns (i+1) xs=bJ ns' i y++aR ns' (i+1) xs;rw[ip (i:=i+1) λa b h1 h2=>h a b (by omega) (by rw[jd];omega)];have e:∀b,bq ns i b=bq ns' i b:=λb=>h i b (Int.le_refl _) (by rw[jd];omega);unfold bJ;rw[cZ λk _=>⟨rfl,e _,rfl⟩,e]
theorem C9(ws:List Int)(u:Int){j:Nat}(h:j<ws.length):(ws++[u]).getD j 0=ws.getD j 0:=by
 rw[M3,M3,Pk h]
theorem getD_last(ws:List Int)(u:Int):(ws++[u]).getD ws.length 0=u:=by
 rw[M3,Mj (dn _),Nat.sub_self];rfl
theorem de{nm:Option Str}{xs:List lO}{x:lO}{ns:List cq}{bw:Bool}:cw ⟨nm,xs++[x],ns,bw⟩=(x.2.2.1.length:Int):=by
 unfold cw;dsimp only;rw[List.getLast?_append];rfl
theorem Mr.next{pre:List aq}{S:RP}{r:aq}(h:Mr pre S)(hs:S.nm≠none)(t:S.dw r):Mr (pre++[r]) (S.next r)/\(S.next r).nm=S.nm:=by
 obtain⟨nm,az,aK,bw⟩:=S;obtain⟨hr,hn1,hn2,hf,hb⟩:=h;dsimp only at hr hn1 hn2 hf hb hs;cases r with
 |aV n=>exact absurd t.1 hs
 |st kd s=>
  refine⟨⟨?_,λn hn=>?_,λn hn e=>?_,λx hx f hf'=>?_,λz=>by cases z⟩,rfl⟩
  ·show pre++[aq.st kd s]=aR aK 0 (az++[(kd,s,[],[])]);rw[lX,hr];congr 1;show _=aq.st kd s::([]++bq aK (0+(az.length:Int)) ((0:Nat):Int));rw[g0 λn hn q=>by have:=hn1 n hn;omega];rfl
  ·show n.2.2.1<((az++[_]).length:Int);rw[cL,hJ];have:=hn1 n hn;omega
  ·exfalso
   have:=hn1 n hn;have e:n.2.2.1=((az++[(kd,s,([]:List Int),([]:List fW))]).length:Int) - 1:=e;rw[cL,hJ]at e;omega
  ·have hx:x∈(az++[(kd,s,([]:List Int),([]:List fW))]).getLast?:=hx;rw[wu]at hx;cases hx;cases hf'
 |word u=>
  obtain⟨_,t0,t1,t2⟩:=t;walk_at "8";have ea:cj (bV u) (xs++[x])=xs++[bV u x]:=cb _ _ _;rw[cL,hJ]at hn1 hn2;have hn2':∀n∈aK,n.2.2.1=((xs.length+1:Nat):Int) - 1->n.2.2.2<=(x.2.2.1.length:Int):=λn hn e=>by have:=hn2 n hn e;rwa [de]at this
  have hf':∀f∈x.2.2.2,f.1<(x.2.2.1.length:Int):=hf x (by rw[wu];rfl);have lw:cw ⟨nm,cj (bV u) (xs++[x]),aK,true⟩=(x.2.2.1.length:Int)+1:=by rw[ea,de];show((x.2.2.1++[u]).length:Int)=_;rw[cL,hJ];rfl
  have ll:((cj (bV u) (xs++[x])).length:Int)=((xs.length+1:Nat):Int):=by rw[ea,cL,hJ]
  refine⟨⟨?_,λn hn=>?_,λn hn e=>?_,λy hy f hfy=>?_,λ_=>⟨λn hn e=>?_,λy hy=>?_⟩⟩,rfl⟩
  ·show pre++[aq.word u]=aR aK 0 (cj (bV u) (xs++[x]));rw[ea,lX,hr,lX,Ez];congr 1;unfold bJ;show aq.st x.1 x.2.1::_++[aq.word u]=aq.st x.1 x.2.1::(bL aK (0+(xs.length:Int)) (bV u x) (x.2.2.1++[u]).length++bq aK (0+(xs.length:Int)) ((x.2.2.1++[u]).length:Int));rw[cL,hJ,cz,cZ (x:=bV u x) (x':=x) (ns':=aK) λk hk=>⟨C9 _ _ hk,rfl,rfl⟩,show(bV u x).2.2.1.getD x.2.2.1.length 0=u from getD_last _ _,
    show c6 (bV u x).2.2.2 (x.2.2.1.length:Int)=[] from ko _ λf hf0 e=>by have:=hf' f hf0;omega,g0 (b:=((x.2.2.1.length+1:Nat):Int)) λn hn q=>by have:=hn2' n hn (by omega);omega]
   simp
  ·show n.2.2.1<((cj (bV u) (xs++[x])).length:Int);rw[ll];exact hn1 n hn
  ·show n.2.2.2<=cw ⟨nm,cj (bV u) (xs++[x]),aK,true⟩;have e:n.2.2.1=((cj (bV u) (xs++[x])).length:Int) - 1:=e;rw[ll]at e;rw[lw];have:=hn2' n hn e;omega
  ·have hy:y∈(cj (bV u) (xs++[x])).getLast?:=hy;rw[ea,wu]at hy;cases hy;have:=hf' f hfy;show f.1<((x.2.2.1++[u]).length:Int);rw[cL,hJ];omega
  ·show n.2.2.2<cw ⟨nm,cj (bV u) (xs++[x]),aK,true⟩;have e:n.2.2.1=((cj (bV u) (xs++[x])).length:Int) - 1:=e;rw[ll]at e;rw[lw];have:=hn2' n hn e;omega
  ·have hy:y∈(cj (bV u) (xs++[x])).getLast?:=hy;rw[ea,wu]at hy;cases hy;have e:((bV u x).2.2.1).length=x.2.2.1.length+1:=by show(x.2.2.1++[u]).length=_;rw[cL,hJ]
   refine⟨by show 1<=(bV u x).2.2.1.length;rw[e];omega,λf hfy=>?_⟩;have:=hf' f hfy;show f.1<((bV u x).2.2.1.length:Int) - 1;rw[e];omega
 |fill soft r n v=>
  obtain⟨_,t0,t1,_⟩:=t;dsimp only at t1;obtain⟨b1,b2⟩:=hb t1;walk_at "8";have ea:cj (cW soft r n v) (xs++[x])=xs++[cW soft r n v x]:=cb _ _ _;rw[cL,hJ]at hn1 hn2 b1;have hn2':∀n∈aK,n.2.2.1=((xs.length+1:Nat):Int) - 1->n.2.2.2<(x.2.2.1.length:Int):=λn hn e=>by have:=b1 n hn e;rwa [de]at this
  obtain⟨b3,b4⟩:=b2 x (by rw[wu];rfl);have lw:cw ⟨nm,cj (cW soft r n v) (xs++[x]),aK,false⟩=(x.2.2.1.length:Int):=by rw[ea,de];rfl
  have ll:((cj (cW soft r n v) (xs++[x])).length:Int)=((xs.length+1:Nat):Int):=by rw[ea,cL,hJ]
  refine⟨⟨?_,λn hn=>?_,λn hn e=>?_,λy hy f hfy=>?_,λz=>by cases z⟩,rfl⟩
  ·show pre++[aq.fill soft r n v]=aR aK 0 (cj (cW soft r n v) (xs++[x]));rw[ea,lX,hr,lX,Ez];congr 1;obtain⟨j,ej⟩:∃j,x.2.2.1.length=j+1:=⟨x.2.2.1.length - 1,by omega⟩
   unfold bJ;show aq.st x.1 x.2.1::_++[aq.fill soft r n v]=aq.st x.1 x.2.1::(bL aK (0+(xs.length:Int)) (cW soft r n v x) x.2.2.1.length++bq aK (0+(xs.length:Int)) (x.2.2.1.length:Int));rw[g0 (b:=(x.2.2.1.length:Int)) λn hn q=>by have:=hn2' n hn (by omega);omega,ej,cz,cz];have eF:∀k:Int,c6 (cW soft r n v x).2.2.2 k=if (x.2.2.1.length:Int) - 1=k then [.fill soft r n v] else c6 x.2.2.2 k:=λk=>dX _ _ _;rw[cZ (x:=cW soft r n v x) (x':=x) (ns':=aK) λk hk=>⟨rfl,rfl,by rw[eF,if_neg (by omega)]⟩,eF,if_pos (by omega),ko x.2.2.2 (a:=(j:Int)) λf hf0 e=>by have:=b4 f hf0;omega];simp[cW]
  ·show n.2.2.1<((cj (cW soft r _ v) (xs++[x])).length:Int);rw[ll];exact hn1 n hn
  ·have e:n.2.2.1=((cj (cW soft r _ v) (xs++[x])).length:Int) - 1:=e;rw[ll]at e;show n.2.2.2<=cw ⟨nm,cj (cW soft r _ v) (xs++[x]),aK,false⟩;rw[lw];have:=hn2' n hn e;omega
  ·have hy:y∈(cj (cW soft r n v) (xs++[x])).getLast?:=hy;rw[ea,wu]at hy;cases hy;rcases eC.mp hfy with z|z
   ·have:=b4 f z;show f.1<(x.2.2.1.length:Int);omega
   ·rw[iL.mp z];show(x.2.2.1.length:Int) - 1<(x.2.2.1.length:Int);omega
 |told so z=>
  obtain⟨_,t0,_⟩:=t;walk_at "8";have lw:cw ⟨nm,xs++[x],aK,bw⟩=(x.2.2.1.length:Int):=de;have hn1':=hn1;have hn2':=hn2;rw[cL,hJ]at hn1' hn2';rw[lw]at hn2';have ne:∀a b:Int,¬((((xs++[x]).length:Int) - 1=a)/\(x.2.2.1.length:Int)=b)->bq (aK++[(z,so,((xs++[x]).length:Int) - 1,(x.2.2.1.length:Int))]) a b=bq aK a b:=λa b h=>by
   rw[fN,if_neg h,Ho]
  have ll:((xs++[x]).length:Int)=(xs.length:Int)+1:=by rw[cL,hJ];omega
  refine⟨⟨?_,λn hn=>?_,λn hn e=>?_,hf,λz=>by cases z⟩,rfl⟩
  ·show pre++[aq.told so z]=aR (aK++[(z,so,((xs++[x]).length:Int) - 1,cw ⟨nm,xs++[x],aK,bw⟩)]) 0 (xs++[x]);rw[lw,lX,hr,lX,Ez,ip (ns:=aK++[_]) (ns':=aK) (xs:=xs) (i:=0) λa b h1 h2=>ne a b λq=>by omega];congr 1;unfold bJ;rw[cZ (ns:=aK++[_]) (ns':=aK) (x':=x) λk hk=>⟨rfl,ne _ _ λq=>by omega,rfl⟩,fN,if_pos ⟨by show((xs++[x]).length:Int) - 1=_;omega,rfl⟩];simp
  ·rcases eC.mp hn with q|q
   ·exact hn1 n q
   ·rw[iL.mp q];show((xs++[x]).length:Int) - 1<((xs++[x]).length:Int);omega
  ·show n.2.2.2<=cw ⟨nm,xs++[x],_,false⟩;rw[de];rcases eC.mp hn with q|q
   ·exact hn2' n q (by have e:n.2.2.1=((xs++[x]).length:Int) - 1:=e;omega)
   ·rw[iL.mp q];show cw ⟨nm,xs++[x],aK,bw⟩<=_;rw[lw];exact Int.le_refl _
theorem y0:∀{rows:List aq}{pre:List aq}{S:RP},Mr pre S->S.nm≠none->S.bj rows->Mr (pre++rows) (rows.foldl RP.next S)/\(rows.foldl RP.next S).nm=S.nm
 |[],pre,S,h,_,_=>by rw[Ho];exact⟨h,rfl⟩
 |r::rows,pre,S,h,hs,t=>by
  obtain⟨n1,n2⟩:=h.next hs t.1;obtain⟨m1,m2⟩:=y0 (rows:=rows) n1 (by rw[n2];exact hs) t.2;rw[Ez]at m1;exact⟨m1,m2.trans n2⟩
theorem HR{rows:List aq}(t:lN.bj rows)(ne:rows≠[]):∃nm,(rows.foldl RP.next lN).nm=some nm/\rows=gv nm (rows.foldl RP.next lN).az (rows.foldl RP.next lN).aK:=by
 cases rows with
 |nil=>exact absurd rfl ne
 |cons r rows=>
  cases r with
  |aV nm=>
   have h:Mr [] (lN.next (.aV nm)):=⟨rfl,λn hn=>(nomatch hn),λn hn=>(nomatch hn),λx hx=>(nomatch hx),λz=>by cases z⟩
   obtain⟨n1,n2⟩:=y0 h (by show some nm≠none;simp) t.2;refine⟨nm,n2,?_⟩;show aq.aV nm::rows=aq.aV nm::aR _ 0 _;exact congrArg (aq.aV nm::·) n1.rows
  |st kd s=>exact absurd rfl t.1.1
  |word n=>exact absurd rfl t.1.1
  |fill a b c d=>exact absurd rfl t.1.1
  |told a b=>exact absurd rfl t.1.1
theorem Au(ns:List cq)(i:Int)(x:lO){j k:Nat}(h:j<=k):(bL ns i x j).length<=(bL ns i x k).length:=by
 induction k with
 |zero=>rw[show j=0 by omega];exact dn _
 |succ k ih=>
  by_cases z:j=k+1
  ·rw[z];exact dn _
  ·rw[cz,cL];have:=ih (by omega);omega
theorem aq.mv{n:Int}(h:0<=n/\n<=4294967295):(aq.word n).Small:=λp hp=>by
 simp only[aq.parts,List.mem_cons,List.not_mem_nil,or_false]at hp;rcases hp with rfl|rfl
 ·decide +kernel
 ·exact dS (by omega) (by omega)
theorem aq.zW{a b:Str}(h1:bN a)(h2:isNm b=true):(aq.told a b).Small:=λp hp=>by
 simp only[aq.parts,List.mem_cons,List.not_mem_nil,or_false]at hp;rcases hp with rfl|rfl
 ·rcases h1 with e|e|e<;>rw[e]<;>decide +kernel
 ·exact(ub h2).1
theorem aq.zT{soft:Bool}{r nm:Str}{n:Int}(h1:wK r)(h2:isNm nm=true)(h3 : -2147483648<=n)(h4:n<=2147483647):(aq.fill soft r nm n).Small:=λp hp=>by
 simp only[aq.parts,List.mem_cons,List.not_mem_nil,or_false]at hp;rcases hp with rfl|rfl|rfl|rfl
 ·cases soft<;>decide +kernel
 ·rcases h1 with e|e|e|e|e<;>rw[e]<;>decide +kernel
 ·exact(ub h2).1
 ·exact dS (by omega) (by omega)
theorem aq.HF{kd:Str}{s:Int}(h1:e8 kd)(h2:1<=s)(h3:s<=65536):(aq.st kd s).Small:=λp hp=>by
 simp only[aq.parts,List.mem_cons,List.not_mem_nil,or_false]at hp;rcases hp with rfl|rfl
 ·rcases h1 with e|e<;>rw[e]<;>decide +kernel
 ·exact dS (by omega) (by omega)
theorem aq.vF{nm:Str}(h:isNm nm=true):(aq.aV nm).Small:=λp hp=>by
 simp only[aq.parts,List.mem_cons,List.not_mem_nil,or_false]at hp;rcases hp with rfl|rfl
 ·decide +kernel
 ·exact(ub h).1
theorem i5{ns:List aX}(h:∀n∈ns,yT n){a b:Int}:∀r∈bq (ns.map nC) a b,r.Small:=λr hr=>by
 unfold bq at hr;obtain⟨c,hc,rfl⟩:=ji.mp hr;obtain⟨n,hn,rfl⟩:=ji.mp (List.mem_filter.mp hc).1;exact aq.zW (h n hn).2 (h n hn).1
theorem AZ:∀(fs:List fW) {a:Int}{r:aq},r∈c6 fs a->∃f∈fs,r=.fill f.2.2.2.2 f.2.1 f.2.2.1 f.2.2.2.1:=
 snoc_ind (P:=λfs=>∀{a:Int}{r:aq},r∈c6 fs a->∃f∈fs,r=.fill f.2.2.2.2 f.2.1 f.2.2.1 f.2.2.2.1) (λ{a r} h=>nomatch h) λxs x ih {a r} h=>by
  rw[dX]at h;by_cases z:x.1=a
  ·rw[if_pos z]at h;exact⟨x,by simp,List.mem_singleton.mp h⟩
  ·rw[if_neg z]at h;obtain⟨f,hf,e⟩:=ih h;exact⟨f,by simp[hf],e⟩
theorem AB:∀(fs:List fW) (a:Int),(c6 fs a).length<=1:=
 snoc_ind (P:=λfs=>∀a:Int,(c6 fs a).length<=1) (λa=>gB _) λxs x ih a=>by
  rw[dX];by_cases z:x.1=a
  ·rw[if_pos z];exact dn _
  ·rw[if_neg z];exact ih a
theorem oB{ns:List aX}{s:bT}(h:∀n∈ns,yT n)(sp:Rb s){i:Int}:∀r∈bJ (ns.map nC) i (sC s),r.Small:=λr hr=>by
 rcases lL.mp hr with e|hr
 ·rw[e];exact aq.HF sp.kind sp.s1 sp.s2
 ·rcases eC.mp hr with hr|hr
  ·obtain⟨k,hk,hr⟩:=IC.mp hr;rcases eC.mp hr with hr|hr
   ·exact i5 h r hr
   ·rcases lL.mp hr with e|hr
    ·rw[e];have hk:k<s.words.length:=List.mem_range.mp hk;refine aq.mv (sp.wd _ ?_);show s.words.getD k 0∈s.words;rw[M3,A5 hk];exact List.getElem_mem hk
    ·obtain⟨f,hf,e⟩:=AZ _ hr;obtain⟨g,hg,rfl⟩:=ji.mp hf;have fp:=sp.fl g hg;rw[e];exact aq.zT fp.rule fp.name fp.lo fp.hi
  ·exact i5 h r hr
theorem k_{ns:List cq}{r:aq}:∀{xs:List lO}{i:Int},r∈aR ns i xs->∃x∈xs,∃j,r∈bJ ns j x
 |[],_,h=>nomatch h
 |x::xs,i,h=>by
  rcases eC.mp h with h|h
  ·exact⟨x,.head _,i,h⟩
  ·obtain⟨y,hy,j,hj⟩:=k_ h;exact⟨y,.tail _ hy,j,hj⟩
theorem PU.small{H:Hp}{p:a7}(h:PU H p):∀r∈gv p.name (p.az.map sC) (p.aK.map nC),r.Small:=λr hr=>by
 rcases lL.mp hr with e|hr
 ·rw[e];exact aq.vF h.nm
 ·obtain⟨x,hx,j,hj⟩:=k_ hr;obtain⟨s,hs,rfl⟩:=ji.mp hx;exact oB h.ns (h.ss s hs) r hj
theorem HC.mono{H H':Hp}{o:Option V}{rs:List aq}(h:HC H o rs)(s:aA H H'):HC H' o rs:=by
 rcases h with h|⟨l,e1,e2⟩
 ·exact .inl h
 ·exact .inr ⟨l,e1,s _ _ e2⟩
theorem HC.get{H:Hp}{o:Option V}{rs:List aq}{l0:Addr}(h:HC H o rs)(h0:H l0=some (.lst [])):∃l,o.getD (.ref l0)=.ref l/\H l=some (.lst (rs.map λr=>V.str (ak r))):=by
 rcases h with ⟨rfl,rfl⟩|⟨l,rfl,e2⟩
 ·exact⟨l0,rfl,h0⟩
 ·exact⟨l,rfl,e2⟩
theorem CK{xs:List lO}{ns:List cq}{j:Nat}{x:lO}(h:xs[j]?=some x):∀{i:Int},∃suf,aR ns i xs=aR ns i (xs.take j)++(bJ ns (i+(j:Int)) x++suf):=by
 intro i;obtain⟨hj,e⟩:=we.mp h;have e2:xs=xs.take (j+1)++xs.drop (j+1):=(List.take_append_drop _ _).symm;have app:∀(i:Int) (a b:List lO),aR ns i (a++b)=aR ns i a++aR ns (i+(a.length:Int)) b:=by
  intro i a
  induction a generalizing i with
  |nil=>intro b;show aR ns i b=[]++aR ns (i+((0:Nat):Int)) b;rw[show i+((0:Nat):Int)=i by omega];rfl
  |cons y a ih=>
   intro b;show bJ ns i y++aR ns (i+1) (a++b)=(bJ ns i y++aR ns (i+1) a)++aR ns (i+((a.length+1:Nat):Int)) b;rw[ih,Ez,show i+1+(a.length:Int)=i+((a.length+1:Nat):Int) by omega]
 refine⟨aR ns (i+((xs.take (j+1)).length:Int)) (xs.drop (j+1)),?_⟩
 conv=>lhs;rw[e2]
 rw[app,Pe,h];show aR ns i (xs.take j++[x])++_=_;rw[lX,nV,Nat.min_eq_left (by omega),Ez]
theorem eh:∀{σ:List (Option V)}{i:Nat}{v:V}{Q:V->Prop},σ[i]?=some (some v)->Q v->PH σ i Q
 |[],_,_,_,e,_=>by simp at e
 |o::_,0,_,_,e,h=>by simp at e;subst e;exact h
 |_::r,n+1,_,_,e,h=>eh (σ:=r) (i:=n) (by simpa using e) h
theorem Nb(T:Txt w K mg A):bo P w K mg base eI 1 A.Pb A.n6 ["names"] Ah:=by
 refine T.xp.ok iN (λvs H Q E h=>?_) (λcdv Ar outer s H vs Q E hr h=>?_)
 ·obtain⟨b,ns,rfl,_⟩:=h;rfl
 ·obtain⟨b,ns,rfl,hL,hA,hn,k⟩:=h;refine⟨_,(aL (pS 1 iN.nd F5) (aL (pF (gh (K:=K) rfl (pv 0)) (fi (K:=K) (n:=4) rfl rfl (fH (pn 2 iN.nd) (fH (pn 3 iN.nd) (fH (pn 4 iN.nd) (fH (pn 5 iN.nd) fA))))) (bE (bU (ee (K9 (lD hr) (pv 1) (bM (ao (pv 4) (ao (pv 5) aa))) (aw aa) ⟨rfl,rfl,rfl,rfl⟩) (ao (hU (u:=Tj) (c_ (eD (dY (pv 3)) (eD af (eD (dY (pv 2)) gZ)))) ?nmt) aa))))) (bE (au (pv 1))))),?main⟩
  case nmt=>
   rintro σ H Q ⟨so,z,e1,e2,l1,l2,q⟩;walk_at "rd";walk_at "7";simp only[Str.empty_append];refine eh e1 (.inl ⟨_,rfl,ay (by omega),ay (by omega),ay (by rw[aH];omega),eh e2 (.inl ⟨_,rfl,ay (by omega),ay (by rw[aH,aH];omega),ay (by rw[aH,aH];omega),?_⟩)⟩);rw[<-c8];exact q
  walk_at "rd";intro p hp;refine zZ.of (xs:=ns.map aX.v) (λi σ H'=>∃b2 b3 b4 b5:Option V,σ=[some (.ref b),some (.ref p),b2,b3,b4,b5]/\aA H H'/\∃kvs,H' p=some (.dT kvs)/\kvs.length<=i/\Rt H' kvs ((ns.take i).map nC)/\(∀k v,aS kvs k=some v->∃l,v=.ref l/\H l=none/\l≠p/\∃xs,H' l=some (.lst xs))/\∀k k' v,aS kvs k=some v->aS kvs k'=some v->k=k')
   ⟨_,_,_,_,rfl,aO hp,[],aE,gB _,λa b=>.inl ⟨rfl,rfl⟩,λk v z=>(by cases z),λk k' v z=>(by cases z)⟩ ?_ ?_ ?_
  ·rintro i σ H' hi ⟨b2,b3,b4,b5,rfl,sm,_⟩;exact aC.of (sm _ _ hL)
  ·rintro i v σ H' hv ⟨b2,b3,b4,b5,rfl,sm,kvs,hm,hl,hR,h1,h2⟩;rw[z5]at hv;obtain⟨n,hn',rfl⟩:=Cr.mp hv;have hmem:=A4 hn';have hi:=(we.mp hn').1;obtain⟨na,np,ns'⟩:=hA n hmem;have na:=na.mono sm;have lz:=(ub np).2;have lso:n.sort.length<=600:=by rcases ns' with e|e|e<;>rw[e]<;>decide +kernel
   walk_at "rd";simp only[Tj];refine⟨_,dH.of na,rfl,_,_,rfl,_,_,rfl,_,_,rfl,_,_,rfl,rfl,.inr ⟨_,.inl hm⟩,ay (by decide),λt ht=>⟨gB _,λl0 hl0=>?_⟩⟩;have m2:=(aO (o:=HO.tup [V.int n.st,V.int n.off]) ht).trans (aO (o:=HO.lst []) hl0);have t2:upd (upd H' t (HO.tup [V.int n.st,V.int n.off])) l0 (HO.lst []) t=some (.tup (List.map kV [.inl n.st,.inl n.off])):=aO hl0 _ _ aE;have l2:upd (upd H' t (HO.tup [V.int n.st,V.int n.off])) l0 (HO.lst []) l0=some (.lst []):=aE;obtain⟨nlt,fl0⟩:=jo hl0;generalize upd (upd H' t (HO.tup [V.int n.st,V.int n.off])) l0 (HO.lst [])=H2 at m2 t2 l2 ⊢;have hm2:=m2 _ _ hm;have nlp:l0≠p:=Ne.symm (cT hm fl0);have ent:(ns.take (i+1)).map nC=(ns.take i).map nC++[nC n]:=by rw[Pe,hn',gJ];rfl
   rw[ent];have rr:=hR n.st n.off;refine⟨_,fR.t (k:=[.inl n.st,.inl n.off]) hm2 t2,_,jh.t hm2 t2 (by rw[sizeLine_eq];omega),λv hv=>?_,λhv=>?_⟩
   ·obtain⟨l,rfl,fl,nl,_⟩:=h1 _ _ hv;rcases rr with ⟨e,_⟩|⟨l',e,hl'⟩
    ·rw[hv]at e;cases e
    rw[hv]at e;cases e;have hl2:=m2 _ _ hl';refine⟨.inl ⟨rfl,_,aC.of hl2⟩,_,_,rfl,rfl,lso,by omega,l,rfl,_,hl2,by rw[aQ,sizeLine_eq];have:=Al ((ns.take i).map nC) n.st n.off;rw[aQ,nV]at this;omega,cV fl (sm.trans m2),kvs,by rw[ae (Ne.symm nl)];exact hm2,by omega,λa b=>?_,λk v hk=>?_,h2⟩
    rotate_left
    ·obtain⟨l',e,f',n',xs',e'⟩:=h1 k v hk;by_cases z:l'=l
     ·exact⟨l',e,f',n',_,by rw[z,aE]⟩
     ·exact⟨l',e,f',n',_,by rw[ae z];exact m2 _ _ e'⟩
    rw[fN];show HC _ _ (_++if n.st=a/\n.off=b then [aq.told n.sort n.name] else []);by_cases z:n.st=a/\n.off=b
    ·obtain⟨rfl,rfl⟩:=z;refine .inr ⟨l,hv,?_⟩;rw[aE,if_pos ⟨rfl,rfl⟩,gJ];rfl
    ·rw[if_neg z,Ho];rcases hR a b with ⟨e1,e2⟩|⟨l',e1,e2⟩
     ·exact .inl ⟨e1,e2⟩
     ·refine .inr ⟨l',e1,?_⟩;rw[ae (λq=>z ?_)];exact m2 _ _ e2;subst q;have:=h2 _ _ _ e1 hv;simp only[List.cons.injEq,Sum.inl.injEq,and_true]at this;exact⟨this.1.symm,this.2.symm⟩
   ·rcases rr with ⟨e,ern⟩|⟨l',e,hl'⟩
    rotate_left
    ·rw[hv]at e;cases e
    refine⟨.inl ⟨rfl,_,aC.of (by rw[ae nlp];exact l2)⟩,_,_,rfl,rfl,lso,by omega,_,by rw[ae nlp];exact l2,by walk_at "s", cV (bX sm fl0) (cV hp (sm.trans m2)),_,by rw[ae (Ne.symm nlp),aE],dy (cP _ _ _) (by omega),λa b=>?_,λk v hk=>?_,λk k' v hk hk'=>?_⟩
    ·rw[fN,iy];show HC _ _ (_++if n.st=a/\n.off=b then [aq.told n.sort n.name] else []);by_cases z:n.st=a/\n.off=b
     ·obtain⟨rfl,rfl⟩:=z;rw[if_pos rfl,if_pos ⟨rfl,rfl⟩,ern];refine .inr ⟨l0,rfl,?_⟩;rw[aE];rfl
     ·rw[if_neg (λq=>z ?_),if_neg z,Ho]
      ·rcases hR a b with ⟨e1,e2⟩|⟨l',e1,e2⟩
       ·exact .inl ⟨e1,e2⟩
       ·refine .inr ⟨l',e1,?_⟩;rw[ae (cT e2 fl0),ae (bS e2 hm (by intro z;cases z))];exact m2 _ _ e2
      ·simp only[List.cons.injEq,Sum.inl.injEq,and_true]at q;exact⟨q.1.symm,q.2.symm⟩
    ·rw[iy]at hk;by_cases z:k=[.inl n.st,.inl n.off]
     ·rw[if_pos z]at hk;cases hk;exact⟨l0,rfl,bX sm fl0,nlp,_,aE⟩
     ·rw[if_neg z]at hk;obtain⟨l',e,f',n',xs',e'⟩:=h1 k v hk;exact⟨l',e,f',n',_,by rw[ae (cT e' fl0),ae n'];exact m2 _ _ e'⟩
    ·rw[iy]at hk hk';have fr:∀{k v},aS kvs k=some v->v≠.ref l0:=λ{k v} q1 q2=>by
      obtain⟨l',e,f',n',xs',e'⟩:=h1 k v q1;rw[q2]at e;cases e;rw[fl0]at e';cases e'
     by_cases z:k=[.inl n.st,.inl n.off]
     ·by_cases z':k'=[.inl n.st,.inl n.off]
      ·rw[z,z']
      ·rw[if_pos z]at hk;rw[if_neg z']at hk';cases hk;exact absurd rfl (fr hk')
     ·by_cases z':k'=[.inl n.st,.inl n.off]
      ·rw[if_pos z']at hk';rw[if_neg z]at hk;cases hk';exact absurd rfl (fr hk)
      ·rw[if_neg z]at hk;rw[if_neg z']at hk';exact h2 k k' v hk hk'
  ·rintro σ H' ⟨b2,b3,b4,b5,rfl,sm,kvs,hm,hl,hR,_⟩;walk_at "rd";rw[aQ,Mo]at hR;exact k p kvs H' sm hm hR
theorem O8(T:Txt w K mg A):bo P w K mg base eI 1 A.Ow A.om ["fills"] AO:=by
 refine T.xC.ok gj (λvs H Q E h=>?_) (λcdv Ar outer s H vs Q E hr h=>?_)
 ·obtain⟨b,ns,rfl,_⟩:=h;rfl
 ·obtain⟨b,fs,rfl,hL,hA,hn,k⟩:=h;refine⟨_,(aL (pS 1 gj.nd uv) (aL (pF (gh (K:=K) rfl (pv 0)) (fi (K:=K) (n:=5) rfl rfl (fH (pn 2 gj.nd) (fH (pn 3 gj.nd) (fH (pn 4 gj.nd) (fH (pn 5 gj.nd) (fH (pn 6 gj.nd) fA)))))) (aL (pS 7 gj.nd (kz (df (pv 6)) af af)) (bE (yl (lD hr) (pv 1) (pv 2) (aw (ao (hU (u:=Tp) (c_ (eD (dY (pv 7)) (eD af (eD (dY (pv 3)) (eD af (eD (dY (pv 4)) (eD af (eD (dY (pv 5)) gZ)))))))) ?G_) aa)) rfl)))) (bE (au (pv 1))))),?main⟩
  case G_=>
   rintro σ H Q ⟨hd,r,z,n,e1,e2,e3,e4,l1,l2,l3,iz,q⟩;walk_at "rd";walk_at "7";have l4:=dq iz;have l5:=dQ iz;simp only[Str.empty_append];exact eh e1 (.inl ⟨_,rfl,ay (by omega),ay (by omega),ay (by rw[aH];omega),eh e2 (.inl ⟨_,rfl,ay (by omega),ay (by rw[aH,aH];omega),ay (by rw[aH,aH,aH];omega),eh e3 (.inl ⟨_,rfl,ay (by omega),ay (by rw[aH,aH,aH,aH];omega),ay (by rw[aH,aH,aH,aH,aH];omega),eh e4 (.inr ⟨_,rfl,by omega,ay (by rw[aH,aH,aH,aH,aH,aH];omega),ay (by rw[aH,aH,aH,aH,aH,aH];omega),q⟩)⟩)⟩)⟩)
  walk_at "rd";intro p hp;refine zZ.of (xs:=fs.map aW.v) (λi σ H'=>∃b2 b3 b4 b5 b6 b7:Option V,σ=[some (.ref b),some (.ref p),b2,b3,b4,b5,b6,b7]/\aA H H'/\∃kvs,H' p=some (.dK kvs)/\kvs.length<=i/\QR H' kvs ((fs.take i).map fC))
   ⟨_,_,_,_,_,_,rfl,aO hp,[],aE,gB _,λa=>.inl ⟨rfl,rfl⟩⟩ ?_ ?_ ?_
  ·rintro i σ H' hi ⟨b2,b3,b4,b5,b6,b7,rfl,sm,_⟩;exact aC.of (sm _ _ hL)
  ·rintro i v σ H' hv ⟨b2,b3,b4,b5,b6,b7,rfl,sm,kvs,hm,hl,hR⟩;rw[z5]at hv;obtain⟨f,hf',rfl⟩:=Cr.mp hv;have hmem:=A4 hf';have hi:=(we.mp hf').1;obtain⟨fa,fp⟩:=hA f hmem;have fa:=fa.mono sm;have lz:=(ub fp.name).2;have lr:f.rule.length<=300:=by rcases fp.rule with e|e|e|e|e<;>rw[e]<;>decide +kernel
   walk_at "rd";simp only[Tp];have iz:xh f.add:=⟨by have:=fp.lo;omega,by have:=fp.hi;omega⟩
   have fin:∀hd:Str,hd=(if f.soft=true then Str.ofString "soft" else Str.ofString "fill")->∀l0:Addr,H' l0=none->∃x,jh (upd H' l0 (HO.lst [V.str (hd++Str.ofString " " ++ f.rule++Str.ofString " " ++ f.name++Str.ofString " " ++ nS f.add)])) p (V.int f.at_) (V.ref l0) x/\aA H x/\∃kvs,x p=some (HO.dK kvs)/\kvs.length<=i+1/\QR x kvs (List.map fC (List.take (i+1) fs)):=λhd ehd l0 hl0=>by
    have et:hd++Str.ofString " " ++ f.rule++Str.ofString " " ++ f.name++Str.ofString " " ++ nS f.add=ak (.fill f.soft f.rule f.name f.add):=by
     unfold ak;rw[b_,ehd];show _=(if f.soft=true then Str.ofString "soft" else Str.ofString "fill")++Str.ofString " " ++ (f.rule++Str.ofString " " ++ (f.name++Str.ofString " " ++ nS f.add));simp only[Str.append_assoc]
    rw[et];have m1:=aO (o:=HO.lst [V.str (ak (.fill f.soft f.rule f.name f.add))]) hl0;have a1:upd H' l0 (HO.lst [V.str (ak (.fill f.soft f.rule f.name f.add))]) l0=some _:=aE;have nlp:l0≠p:=Ne.symm (cT hm hl0);generalize upd H' l0 (HO.lst [V.str (ak (.fill f.soft f.rule f.name f.add))])=H2 at m1 a1 ⊢;have hm2:=m1 _ _ hm;have ent:(fs.take (i+1)).map fC=(fs.take i).map fC++[fC f]:=by rw[Pe,hf',gJ];rfl
    refine⟨_,jh.k (k:=.inl f.at_) hm2 (by rw[sizeLine_eq];omega),cV hp (sm.trans m1),_,aE,dy (cP _ _ _) (by omega),λa=>?_⟩;rw[ent,dX,iy];by_cases z:f.at_=a
    ·subst z;rw[if_pos rfl,if_pos (show(fC f).1=f.at_ from rfl)];exact .inr ⟨l0,rfl,by rw[ae nlp];exact a1⟩
    ·rw[if_neg (λq=>z (Sum.inl.inj q).symm),if_neg (show ¬(fC f).1=a from z)];rcases hR a with ⟨e1,e2⟩|⟨l',e1,e2⟩
     ·exact .inl ⟨e1,e2⟩
     ·exact .inr ⟨l',e1,by rw[ae (bS (m1 _ _ e2) hm2 (by intro z;cases z))];exact m1 _ _ e2⟩
   refine⟨_,dH.of fa,rfl,_,_,rfl,_,_,rfl,_,_,rfl,_,_,rfl,_,_,rfl,rfl,_,rfl,?_⟩;cases hso:f.soft with
   |true=>
    rw[if_pos rfl];exact⟨_,_,_,_,rfl,rfl,rfl,rfl,by decide +kernel,lr,by omega,iz,ay (by decide),fin _ (by rw[hso];rfl)⟩
   |false=>
    rw[if_neg (by simp)];exact⟨_,_,_,_,rfl,rfl,rfl,rfl,by decide +kernel,lr,by omega,iz,ay (by decide),fin _ (by rw[hso];rfl)⟩
  ·rintro σ H' ⟨b2,b3,b4,b5,b6,b7,rfl,sm,kvs,hm,hl,hR⟩;walk_at "rd";rw[aQ,Mo]at hR;exact k p kvs H' sm hm hR
theorem NJ(T:Txt w K mg A):bo P w K mg base eI 2 A.N7 A.mW ["number", "stretch", "names"] AG:=by
 refine T.zg.ok f9 (λvs H Q E h=>?_) (λcdv Ar outer s H vs Q E hr h=>?_)
 ·obtain⟨i,s,d,kvs,ns,rfl,_⟩:=h;rfl
 ·obtain⟨i,s,d,kvs,ns,rfl,hs,sp,hd,hR,n1,n2,n3,k⟩:=h;refine⟨_,(aL (pS 3 f9.nd (tx K (pv 1))) (aL (pS 4 f9.nd (tx K (pv 1))) (aL (pS 5 f9.nd (tx K (pv 1))) (aL (pS 6 f9.nd (pC (O8 T) hr T.JQ T.BM T.Fe (ao (tx K (pv 1)) aa))) (aL (pS 7 f9.nd (aw (ao (hU (u:=Ti) (c_ (eD (dY (pv 3)) (eD af (eD (dY (pv 4)) gZ)))) ?stt) aa))) (aL (pF (yI (K:=K) rfl rfl T.cQ (ao (pv 5) aa)) (fi (K:=K) (n:=2) rfl rfl (fH (pn 8 f9.nd) (fH (pn 9 f9.nd) fA))) (aL (bU (eU PySem.F.plainAttrs_list PySem.F.slot_list_extend PySem.F.type_list_extend gF (pv 7) (ao (kO (lD hr) (pv 2) (bM (ao (pv 0) (ao (pv 8) aa))) (aw aa) ⟨rfl,rfl,rfl,rfl⟩) aa))) (aL (bU (ee (pv 7) (ao (hU (u:=SE) (c_ (eD af (eD (dY (pv 9)) gZ))) ?wdt) aa))) (bE (bU (eU PySem.F.plainAttrs_list PySem.F.slot_list_extend PySem.F.type_list_extend gF (pv 7) (ao (kO (lD hr) (pv 6) (pv 8) (aw aa) ⟨rfl,rfl,rfl,rfl⟩) aa))))))) (aL (bU (eU PySem.F.plainAttrs_list PySem.F.slot_list_extend PySem.F.type_list_extend gF (pv 7) (ao (kO (lD hr) (pv 2) (bM (ao (pv 0) (ao (dh (e7 (K:=K) rfl) (by rfl) T.cF bZ (ao (pv 5) aa)) aa))) (aw aa) ⟨rfl,rfl,rfl,rfl⟩) aa))) (bE (au (pv 7)))))))))),?main⟩
  case stt=>
   rintro σ H Q ⟨kd,n,e1,e2,l1,iz,q⟩;walk_at "rd";walk_at "7";have l4:=dq iz;have l5:=dQ iz;simp only[Str.empty_append];refine eh e1 (.inl ⟨_,rfl,ay (by omega),ay (by omega),ay (by rw[aH];omega),eh e2 (.inr ⟨_,rfl,by omega,ay (by rw[aH,aH];omega),ay (by rw[aH,aH];omega),?_⟩)⟩);have:=gx kd n;unfold nS at this;rw[<-this];exact q
  case wdt=>
   rintro σ H Q ⟨n,e1,iz,q⟩;walk_at "rd";have w1:(Str.ofString "word ").length=5:=by decide +kernel
   have l4:=dq iz;have l5:=dQ iz;simp only[Str.empty_append];refine⟨ay (by omega),eh e1 (.inr ⟨_,rfl,by omega,ay (by rw[aH];omega),ay (by rw[aH];omega),?_⟩)⟩;have:=eZ n;unfold nS at this;rw[<-this];exact q
  walk_at "rd";simp only[Ti];have lk:s.kind.length<=300:=by rcases sp.kind with e|e<;>rw[e]<;>decide +kernel
  have iz:xh s.step:=⟨by have:=sp.s1;omega,by have:=sp.s2;omega⟩
  have len:(bJ ns i (sC s)).length=1+(bL ns i (sC s) s.words.length).length+(bq ns i (s.words.length:Int)).length:=by
   show((bL ns i (sC s) s.words.length++bq ns i (s.words.length:Int)).length+1)=_;rw[cL];omega
  refine⟨_,dH.of hs.top,_,rfl,_,dH.of hs.top,_,rfl,_,dH.of hs.top,_,rfl,_,dH.of hs.top,_,rfl,_,rfl,s.fills,hs.fl,λf hf=>⟨hs.fs f hf,sp.fl f hf⟩,n1,λfd fkv H1 s1 hfd hF=>⟨_,_,rfl,rfl,lk,iz,ay (by decide),λq hq=>?_⟩⟩;have m1:=aO (o:=HO.lst [V.str (ak (.st s.kind s.step))]) hq;refine DK.of (xs:=s.words.map V.int) (λj σ H'=>∃b8 b9:Option V,σ=[some (.int i),some s.v,some (.ref d),some (.str s.kind),some (.int s.step),some (.ref s.lw),some (.ref fd),some (.ref q),b8,b9]/\aA H1 H'/\H' q=some (.lst ((aq.st s.kind s.step::bL ns i (sC s) j).map λr=>V.str (ak r))))
   ⟨_,_,rfl,m1,aE⟩ ?_ ?_ ?_
  ·rintro j σ H' hj ⟨b8,b9,rfl,sm,_⟩;exact aC.of (sm _ _ (s1 _ _ hs.wd))
  ·rintro j v σ H' t hv ⟨b8,b9,rfl,sm,hq'⟩ ht;have hj:=(we.mp hv).1;rw[aQ]at hj;rw[z5]at hv;obtain⟨u,hu,rfl⟩:=Cr.mp hv;have hu':(sC s).2.2.1.getD j 0=u:=by rw[M3];show(s.words[j]?).getD 0=u;rw[hu];rfl
   have su:=sp.wd u (A4 hu);have fewu:xh u:=⟨by omega,by omega⟩
   have e3:=cz ns i (sC s) j;rw[hu']at e3;have le1:=Au ns i (sC s) (j:=j+1) (k:=s.words.length) (by omega);rw[e3,cL,cL,jd]at le1;walk_at "rd";simp only[SE];have m2:=aO (o:=HO.tup [V.int (j:Int),V.int u]) ht;have a2:upd H' t (HO.tup [V.int (j:Int),V.int u]) t=some _:=aE;generalize upd H' t (HO.tup [V.int (j:Int),V.int u])=H2 at m2 a2 ⊢;have hq2:=m2 _ _ hq';have S2:=sm.trans m2;have hd2:=S2 _ _ (s1 _ _ hd);refine⟨_,dH.of a2,rfl,_,_,rfl,_,_,rfl,rfl,.inl ⟨rfl,_,aC.of hq2⟩,.inr ⟨_,.inl hd2⟩,ay (by decide),λkt hkt=>⟨gB _,λl0 hl0=>?_⟩⟩;have m3:=(aO (o:=HO.tup [V.int i,V.int (j:Int)]) hkt).trans (aO (o:=HO.lst []) hl0);have a3:upd (upd H2 kt (HO.tup [V.int i,V.int (j:Int)])) l0 (HO.lst []) kt=some (.tup (List.map kV [.inl i,.inl (j:Int)])):=aO hl0 _ _ aE;have b3:upd (upd H2 kt (HO.tup [V.int i,V.int (j:Int)])) l0 (HO.lst []) l0=some (.lst []):=aE;generalize upd (upd H2 kt (HO.tup [V.int i,V.int (j:Int)])) l0 (HO.lst [])=H3 at m3 a3 b3 ⊢;have S3:=S2.trans m3;have hq3:=m3 _ _ hq2;obtain⟨l1,el1,hl1⟩:=((hR i (j:Int)).mono (s1.trans S3)).get b3;have L1:((aq.st s.kind s.step::bL ns i (sC s) j).map λr=>V.str (ak r)).length+((bq ns i (j:Int)).map λr=>V.str (ak r)).length<=300:=by rw[aQ,aQ,jd];omega
   refine⟨_,fR.t (k:=[.inl i,.inl (j:Int)]) (m3 _ _ hd2) a3,l1,el1,_,hq3,_,hl1,by rw[sizeLine_eq];omega,.inl ⟨rfl,_,aC.of aE⟩,u,rfl,fewu,_,aE,by rw[cL,sizeLine_eq];omega,?_⟩;rw[cY];have eL:((aq.st s.kind s.step::bL ns i (sC s) j).map λr=>V.str (ak r))++((bq ns i (j:Int)).map λr=>V.str (ak r))++[V.str (ak (.word u))]=((aq.st s.kind s.step::bL ns i (sC s) j)++bq ns i (j:Int)++[aq.word u]).map λr=>V.str (ak r):=by simp
   rw[eL];have L2:((aq.st s.kind s.step::bL ns i (sC s) j)++bq ns i (j:Int)++[aq.word u]).length<=301:=by rw[cL,cL,jd,hJ];omega
   have hq4:upd H3 q (HO.lst (((aq.st s.kind s.step::bL ns i (sC s) j)++bq ns i (j:Int)++[aq.word u]).map λr=>V.str (ak r))) q=some _:=aE;have S4:aA H1 (upd H3 q (HO.lst (((aq.st s.kind s.step::bL ns i (sC s) j)++bq ns i (j:Int)++[aq.word u]).map λr=>V.str (ak r)))):=cV hq S3;generalize upd H3 q (HO.lst (((aq.st s.kind s.step::bL ns i (sC s) j)++bq ns i (j:Int)++[aq.word u]).map λr=>V.str (ak r)))=H4 at hq4 S4 ⊢;refine⟨.inl ⟨rfl,_,aC.of hq4⟩,.inl ⟨_,.inl (S4 _ _ hfd)⟩,gB _,λl2 hl2=>?_⟩;have m5:=aO (o:=HO.lst []) hl2;have b5:upd H4 l2 (HO.lst []) l2=some (.lst []):=aE;generalize upd H4 l2 (HO.lst [])=H5 at m5 b5 ⊢;obtain⟨l3,el3,hl3⟩:=((hF (j:Int)).mono (S4.trans m5)).get b5;have fl1:=AB (s.fills.map fC) (j:Int);refine⟨_,fR.k (k:=.inl (j:Int)) (m5 _ _ (S4 _ _ hfd)),l3,el3,_,m5 _ _ hq4,_,hl3,by rw[aQ,aQ,sizeLine_eq];omega,cV hq (S4.trans m5),?_⟩;rw[aE,e3];congr 2;show _=((aq.st s.kind s.step::(bL ns i (sC s) j++(bq ns i (j:Int)++aq.word u::c6 (s.fills.map fC) (j:Int)))).map λr=>V.str (ak r));simp
  ·rintro σ H' ⟨b8,b9,rfl,sm,hq'⟩;walk_at "rd";rw[aQ]at hq';have hd2:=sm _ _ (s1 _ _ hd);refine⟨.inl ⟨rfl,_,aC.of hq'⟩,.inr ⟨_,.inl hd2⟩,_,.inl ⟨_,aC.of (sm _ _ (s1 _ _ hs.wd)),rfl⟩,ay (by decide),λkt hkt=>⟨gB _,λl0 hl0=>?_⟩⟩;rw[aQ]at hl0 ⊢;have m3:=(aO (o:=HO.tup [V.int i,V.int (s.words.length:Int)]) hkt).trans (aO (o:=HO.lst []) hl0);have a3:upd (upd H' kt (HO.tup [V.int i,V.int (s.words.length:Int)])) l0 (HO.lst []) kt=some (.tup (List.map kV [.inl i,.inl (s.words.length:Int)])):=aO hl0 _ _ aE;have b3:upd (upd H' kt (HO.tup [V.int i,V.int (s.words.length:Int)])) l0 (HO.lst []) l0=some (.lst []):=aE;generalize upd (upd H' kt (HO.tup [V.int i,V.int (s.words.length:Int)])) l0 (HO.lst [])=H3 at m3 a3 b3 ⊢;obtain⟨l1,el1,hl1⟩:=((hR i (s.words.length:Int)).mono (s1.trans (sm.trans m3))).get b3;refine⟨_,fR.t (k:=[.inl i,.inl (s.words.length:Int)]) (m3 _ _ hd2) a3,l1,el1,_,m3 _ _ hq',_,hl1,by rw[aQ,aQ,jd,sizeLine_eq];omega,k q _ (s1.trans (cV hq (sm.trans m3))) (bX s1 hq) ?_⟩;rw[aE];congr 2;show _=((aq.st s.kind s.step::(bL ns i (sC s) s.words.length++bq ns i (s.words.length:Int))).map λr=>V.str (ak r));simp
theorem Pc(T:Txt w K mg A):bo P w K mg base eI 3 A.NW A.sP ["piece"] Aj:=by
 refine T.xD.ok iE (λvs H Q E h=>?_) (λcdv Ar outer s H vs Q E hr h=>?_)
 ·obtain⟨p,rfl,_⟩:=h;rfl
 ·obtain⟨p,rfl,hp,k⟩:=h;refine⟨_,(aL (pS 1 iE.nd (tx K (pv 0))) (aL (pS 2 iE.nd (pC (Nb T) hr T.Jm T.GI T.C_ (ao (tx K (pv 0)) aa))) (aL (pS 3 iE.nd (aw (ao (hU (u:=S_) (c_ (eD af (eD (dY (pv 1)) gZ))) ?pct) aa))) (aL (pF (yI (K:=K) rfl rfl T.cQ (ao (tx K (pv 0)) aa)) (fi (K:=K) (n:=2) rfl rfl (fH (pn 4 iE.nd) (fH (pn 5 iE.nd) fA))) (bE (bU (eU PySem.F.plainAttrs_list PySem.F.slot_list_extend PySem.F.type_list_extend gF (pv 3) (ao (pC (NJ T) hr T.Jl T.F_ T.BA (ao (pv 4) (ao (pv 5) (ao (pv 2) aa)))) aa))))) (bE (au (eU PySem.F.plainAttrs_str PySem.F.slot_str_join PySem.F.type_str_join (lA (K:=K) rfl) af (ao (pv 3) aa)))))))),?main⟩
  case pct=>
   rintro σ H Q ⟨z,e1,l1,q⟩;walk_at "rd";have w1:(Str.ofString "piece ").length=6:=by decide +kernel
   simp only[Str.empty_append];refine⟨ay (by omega),eh e1 (.inl ⟨_,rfl,ay (by omega),ay (by rw[aH];omega),ay (by rw[aH];omega),?_⟩)⟩;rw[<-dU];exact q
  walk_at "rd";simp only[S_];obtain⟨n1,n2,n3⟩:=hp.n1;have len:(aR (p.aK.map nC) 0 (p.az.map sC)).length+1<=300:=hp.len;have lz:=(ub hp.nm).2;refine⟨_,dH.of hp.at_.top,_,rfl,_,dH.of hp.at_.top,_,rfl,_,rfl,p.aK,hp.at_.nl,λn hn=>⟨hp.at_.ns n hn,hp.ns n hn⟩,n2,λd kvs H1 s1 hd hR=>⟨_,rfl,by omega,ay (by decide),λq hq=>?_⟩⟩;have m1:=aO (o:=HO.lst [V.str (ak (.aV p.name))]) hq;refine⟨_,dH.of (m1 _ _ (s1 _ _ hp.at_.top)),_,rfl,?_⟩;refine DK.of (xs:=p.az.map bT.v) (λj σ H'=>∃b4 b5:Option V,σ=[some p.v,some (.str p.name),some (.ref d),some (.ref q),b4,b5]/\aA H1 H'/\H' q=some (.lst ((aq.aV p.name::aR (p.aK.map nC) 0 ((p.az.take j).map sC)).map λr=>V.str (ak r))))
   ⟨_,_,rfl,m1,aE⟩ ?_ ?_ ?_
  ·rintro j σ H' hj ⟨b4,b5,rfl,sm,_⟩;exact aC.of (sm _ _ (s1 _ _ hp.at_.sl))
  ·rintro j v σ H' t hv ⟨b4,b5,rfl,sm,hq'⟩ ht;have hj:=(we.mp hv).1;rw[aQ]at hj;rw[z5]at hv;obtain⟨s,hs',rfl⟩:=Cr.mp hv;have hmem:=A4 hs';have hsc:(p.az.map sC)[j]?=some (sC s):=by rw[z5,hs'];rfl
   obtain⟨suf,esp⟩:=CK (ns:=p.aK.map nC) hsc (i:=0);rw[esp,<-List.map_take,cL,cL]at len;have etk:aR (p.aK.map nC) 0 ((p.az.take (j+1)).map sC)=aR (p.aK.map nC) 0 ((p.az.take j).map sC)++bJ (p.aK.map nC) (j:Int) (sC s):=by
    rw[Pe,hs',gJ];show aR _ 0 (_++[sC s])=_;rw[lX,aQ,nV,Nat.min_eq_left (by omega),Int.zero_add]
   rw[Int.zero_add]at len;walk_at "rd";have m2:=aO (o:=HO.tup [V.int (j:Int),s.v]) ht;have a2:upd H' t (HO.tup [V.int (j:Int),s.v]) t=some _:=aE;generalize upd H' t (HO.tup [V.int (j:Int),s.v])=H2 at m2 a2 ⊢;have hq2:=m2 _ _ hq';have S2:=sm.trans m2;obtain⟨c1,c2⟩:=n3 s hmem;refine⟨_,dH.of a2,rfl,_,_,rfl,_,_,rfl,rfl,.inl ⟨rfl,_,aC.of hq2⟩,_,rfl,s,rfl,(hp.at_.ss s hmem).mono (s1.trans S2),hp.ss s hmem,kvs,S2 _ _ hd,p.aK.map nC,λa b=>(hR a b).mono S2,c2,c1,by omega,λl H3 s3 _ hl=>⟨_,s3 _ _ hq2,_,hl,by rw[aQ,aQ,jd,sizeLine_eq];omega,cV hq (S2.trans s3),?_⟩⟩;rw[aE,etk];simp
  ·rintro σ H' ⟨b4,b5,rfl,sm,hq'⟩;walk_at "rd";rw[aQ,Mo]at hq';have b:∀t∈(gv p.name (p.az.map sC) (p.aK.map nC)).map ak,t.length<=1000:=λt ht=>by
    obtain⟨r,hr,rfl⟩:=ji.mp ht;exact(aq.good (hp.small r hr)).1
   have lb2:(Str.ofString "\n").length=1:=by decide +kernel
   have hlen:=hp.len;refine⟨rfl,(gv p.name (p.az.map sC) (p.aK.map nC)).map ak,by rw[zN];exact aC.of hq',joinOk_of b (by rw[lb2,aQ];omega),k _ (s1.trans sm)⟩
theorem gS.SH{Hb H1 H0 H:Hp}{pr t:Addr}{q p2:a7}{rows:List aq}{R:Pd}(B:gS Hb H1 pr q rows)(O:Pd.Ok A H0 H R p2 (bO rows rows.length) rows.length)(ht:H t=some (.tup [R.nm,.ref R.ls,.ref R.ln])):
  Rr H0 H { p2 with t:=t,name:=q.name } q:=by
 obtain⟨bw,er⟩:=B.run;have O1:=O.nm;have O2:=O.az;have O3:=O.aK;rw[er]at O1 O2 O3;obtain⟨n1,n2,n3⟩:=O.n1;have len:=B.len;refine⟨⟨?_,O.pr.sl,O.pr.nl,O.pr.ss,O.pr.ns⟩,wL rfl O2 O3,O.pr.nd,O.fl,by show p2.az.length<=400;omega,by show p2.aK.length<=400;omega,λs hs=>by have:=n3 s hs;omega,?_⟩
 ·show H t=some (.tup [.str q.name,.ref p2.ls,.ref p2.ln]);rw[ht,O1,O.ql.1,O.ql.2]
 ·have:=congrArg List.length O2
  rwa [aQ,aQ]at this
theorem gS.text{Hb H1:Hp}{pr:Addr}{q:a7}{rows:List aq}(B:gS Hb H1 pr q rows):JoinOk (Str.ofString "\n") (rows.map ak)=true:=by
 have l:=B.len;have lb:(Str.ofString "\n").length=1:=by decide +kernel
 have b:∀t∈rows.map ak,t.length<=1000:=λt ht=>by
  obtain⟨r,hr,rfl⟩:=ji.mp ht;exact(aq.good (u6 B.tk r hr)).1
 refine joinOk_of b ?_;rw[lb,aQ];omega
theorem u_{α:Type}{f:α->α}{xs:List α}{y:α}(h:y∈cj f xs):y∈xs\/∃x∈xs,y=f x:=by
 by_cases z:xs=[]
 ·rw[z]at h;exact nomatch h
 ·obtain⟨ys,x,rfl⟩:∃ys x,xs=ys++[x]:=⟨xs.dropLast,xs.getLast z,(Pp z).symm⟩
  rw[cb]at h;rcases eC.mp h with h|h
  ·exact .inl (vB _ h)
  ·exact .inr ⟨x,by simp,List.mem_singleton.mp h⟩
theorem As.next{S:RP}{r:aq}(h:As S)(t:S.dw r):As (S.next r):=by
 cases r with
 |aV n=>exact⟨λz e=>(by cases e;exact t.2),h.st,h.ns⟩
 |st kd s=>
  refine⟨h.nm,λx hx=>?_,h.ns⟩;rcases eC.mp hx with q|q
  ·exact h.st x q
  ·rw[iL.mp q];exact⟨t.2.1,uX t.2.2,λu hu=>(nomatch hu),λf hf=>(nomatch hf)⟩
 |word n=>
  refine⟨h.nm,λx hx=>?_,h.ns⟩;rcases u_ hx with q|⟨y,hy,e⟩
  ·exact h.st x q
  ·obtain⟨c1,c2,c3,c4⟩:=h.st y hy;rw[e];refine⟨c1,c2,λu hu=>?_,c4⟩;rcases eC.mp hu with z|z
   ·exact c3 u z
   ·rw[iL.mp z];exact t.2.2
 |fill soft r n v=>
  obtain⟨_,_,_,t1,t2,t3,t4,t5⟩:=t;refine⟨h.nm,λx hx=>?_,h.ns⟩;rcases u_ hx with q|⟨y,hy,e⟩
  ·exact h.st x q
  ·obtain⟨c1,c2,c3,c4⟩:=h.st y hy;rw[e];refine⟨c1,c2,c3,λf hf=>?_⟩;rcases eC.mp hf with z|z
   ·exact c4 f z
   ·rw[iL.mp z];exact⟨t1,t2,t4,t5,t3⟩
 |told so z=>
  obtain⟨_,_,t1,t2,_⟩:=t;refine⟨h.nm,h.st,λn hn=>?_⟩;rcases eC.mp hn with q|q
  ·exact h.ns n q
  ·rw[iL.mp q];exact⟨t2,t1⟩
theorem uf:∀{rows:List aq}{S:RP},As S->S.bj rows->As (rows.foldl RP.next S)
 |[],_,h,_=>h
 |r::rows,S,h,t=>uf (rows:=rows) (h.next t.1) t.2
theorem M0:As lN:=⟨λz e=>(by cases e),λx hx=>(nomatch hx),λx hx=>(nomatch hx)⟩
theorem gS.TK{Hb H1 H:Hp}{pr:Addr}{q p:a7}{rows:List aq}(B:gS Hb H1 pr q rows)(at_:p.At H)(e1:p.name=q.name)(e2:p.az.map sC=q.az.map sC)(e3:p.aK.map nC=q.aK.map nC)(n1:p.az.length<=400/\p.aK.length<=400/\∀s∈p.az,s.words.length<=400/\s.fills.length<=400):
  PU H p/\gv p.name (p.az.map sC) (p.aK.map nC)=rows:=by
 obtain⟨bw,er⟩:=B.run;have ef:rows.foldl RP.next lN=⟨some q.name,q.az.map sC,q.aK.map nC,bw⟩:=by
  unfold bO at er;rwa [List.take_length]at er
 obtain⟨nm,h1,h2⟩:=HR B.tk B.ne;have sm:=uf M0 B.tk;rw[ef]at h1 h2 sm;cases h1;have e:gv p.name (p.az.map sC) (p.aK.map nC)=rows:=by rw[e1,e2,e3];exact h2.symm
 have len:=B.len;refine⟨⟨at_,by rw[e1];exact sm.nm _ rfl,λs hs=>?_,λn hn=>?_,by rw[e];omega,n1⟩,e⟩
 ·have hm:sC s∈q.az.map sC:=by rw[<-e2];exact ji.mpr ⟨s,hs,rfl⟩
  obtain⟨c1,c2,c3,c4⟩:=sm.st _ hm;refine⟨c1,c2.1,c2.2,c3,λf hf=>?_⟩;obtain⟨d1,d2,d3,d4,d5⟩:=c4 (fC f) (ji.mpr ⟨f,hf,rfl⟩);exact⟨d1,d2,d3,d4,d5⟩
 ·have hm:nC n∈q.aK.map nC:=by rw[<-e3];exact ji.mpr ⟨n,hn,rfl⟩
  exact sm.ns _ hm
theorem Im:∀cs:List Nat,(∀c∈cs,c<=57)->e_ cs<10 ^ cs.length:=
 snoc_ind (P:=λcs=>(∀c∈cs,c<=57)->e_ cs<10 ^ cs.length) (λ_=>by decide) λcs c ih h=>by
  have i:=ih λx hx=>h x (by simp[hx]);have hc:=h c (by simp);rw[A0,cL,hJ,Nat.pow_succ];omega
theorem uR{m:Nat}(h:10 ^ 10<=m):10<(jf m).length:=by
 have:=Im (jf m) λc hc=>(jV hc).2;rw[pM]at this;rcases Nat.lt_or_ge 10 (jf m).length with z|z
 ·exact z
 ·have:=PN (n:=10) (by decide) z;omega
theorem Ff{n lo hi:Int}(h:9999999999<n):cx (nS n) lo hi=.aF:=by
 obtain⟨m,rfl⟩:=Ew (show 0<=n by omega);have em:(nS (m:Int)).cps.toList=jf m:=kg m;have e1:=(kR (z:=nS (m:Int)) (by
  rw[em];cases hd:jf m with
  |nil=>simp
  |cons c r=>
   intro e;have:c=45:=by simpa using e
   have:=jV (m:=m) (c:=c) (by rw[hd];exact wX);omega)).1
 refine gy ?_;rw[e1,em];exact uR (by omega)
theorem wN{n lo hi:Int}(h:n < -9999999999):cx (nS n) lo hi=.aF:=by
 obtain⟨m,rfl⟩:∃m:Nat,n=Int.negSucc m:=⟨(-n - 1).toNat,by omega⟩
 have em:(nS (Int.negSucc m)).cps.toList=45::jf (m+1):=p8 m;refine gy ?_;rw[(vb em).1];exact uR (by omega)
theorem eX{n lo hi:Int}(h:n<lo\/hi<n):cx (nS n) lo hi=.aF:=by
 by_cases h1:9999999999<n
 ·exact Ff h1
 ·by_cases h2:n < -9999999999
  ·exact wN h2
  ·have:=eT (n:=n) (lo:=lo) (hi:=hi) (by omega) (by omega);unfold nS;rw[this,if_neg (by omega)]
theorem Jb{a b:Str}(h1:10∉a.cps.toList)(h2:10∉b.cps.toList):10∉(a++b).cps.toList:=λh=>by
 rw[show(a++b).cps=a.cps++b.cps from rfl,AY]at h;exact(eC.mp h).elim h1 h2
theorem wG{n:Int}(h0 : -(10 ^ 40)<=n)(h1:n<=10 ^ 40):(nS n).length<=241/\10∉(nS n).cps.toList/\32∉(nS n).cps.toList:=
 ⟨dq ⟨by omega,by omega⟩,int_text_free' 10 (by decide) n,int_text_free' 32 (by decide) n⟩
theorem uS{m:Int}(h:0<m):Str.ofString "-" ++ nS m=nS (-m):=by
 obtain⟨k,rfl⟩:∃k:Nat,m=(k:Int)+1:=⟨(m - 1).toNat,by omega⟩
 have e1:(nS ((k:Int)+1)).cps.toList=jf (k+1):=kg (k+1);have e2:(nS (-((k:Int)+1))).cps.toList=45::jf (k+1):=by
  have:=p8 k;rw[show Int.negSucc k = -((k:Int)+1) by omega]at this;exact this
 have e3:(Str.ofString "-").cps.toList=[45]:=by decide +kernel
 have e4:(Str.ofString "-" ++ nS ((k:Int)+1)).cps.toList=(nS (-((k:Int)+1))).cps.toList:=by
  rw[show(Str.ofString "-" ++ nS ((k:Int)+1)).cps=(Str.ofString "-").cps++(nS ((k:Int)+1)).cps from rfl,AY,e3,e1,e2];rfl
 have e5:(Str.ofString "-" ++ nS ((k:Int)+1)).cps=(nS (-((k:Int)+1))).cps:=Array.toList_inj.mp e4;exact congrArg Str.mk e5
theorem AV{n lo hi:Int}(h:0<=n):cx (Str.ofString "0" ++ nS n) lo hi=.aF:=by
 obtain⟨m,rfl⟩:=Ew h;have em:(nS (m:Int)).cps.toList=jf m:=kg m;have e0:(Str.ofString "0").cps.toList=[48]:=by decide +kernel
 have e:(Str.ofString "0" ++ nS (m:Int)).cps.toList=48::jf m:=by
  rw[show(Str.ofString "0" ++ nS (m:Int)).cps=(Str.ofString "0").cps++(nS (m:Int)).cps from rfl,AY,e0,em];rfl
 have f:=(kR (z:=Str.ofString "0" ++ nS (m:Int)) (by rw[e];simp)).1;refine iJ (by rw[f,e];rfl) λq=>?_;have:=congrArg (λz:Str=>z.cps.toList.length) q;simp only[e,e0,List.length_cons,List.length_nil]at this;have:=List.length_pos_iff.mpr (rV m);omega
theorem um{x:Int}(h0 : -(10 ^ 40)<=x)(h1:x<=10 ^ 40):(Str.ofString (toString x)).length<=241/\x.natAbs.log2<1920:=by
 have f:xh x:=⟨by omega,by omega⟩
 exact⟨dq f,by have:=dQ f;omega⟩
theorem Ly{a b:Str}(h:a.length=5):Txt.slice (a++b) none (some 5)=a/\Txt.slice (a++b) (some 5) none=b:=by
 have hl:5<=(a++b).length:=by rw[aH];omega
 have ha:a.cps.toList.length=5:=by rw[gX];exact h
 have eab:(a++b).cps.toList=a.cps.toList++b.cps.toList:=by rw[show(a++b).cps=a.cps++b.cps from rfl,AY]
 constructor
 ·refine wQ ?_;have e:=beq_iff_eq.mp (PyProof.Rows.slice_closes_toL (x:=a++b) (j:=5) (by decide) (by omega));rw[e];show List.take ((5:Int) - 0).toNat (List.drop 0 (a++b).cps.toList)=_;rw[eab];show List.take 5 (a.cps.toList++b.cps.toList)=_;rw[RW (by omega),G9 (by omega)]
 ·refine wQ ?_;have e:=PyProof.Rows.slice_from_eq (x:=a++b) (i:=5) (b:=((a++b).length:Int)) (by decide) (by omega) rfl;rw[e];show List.take (((a++b).length:Int) - 5).toNat (List.drop 5 (a++b).cps.toList)=_;rw[eab,List.drop_append_of_le_length (by omega),List.drop_of_length_le (by omega),List.nil_append];exact G9 (by rw[aH,gX];omega)
noncomputable def glue:List Str->List Str->List Str
 |[],ys=>ys
 |[x],[]=>[x]
 |[x],y::ys=>(x++y)::ys
 |x::x'::xs,ys=>x::glue (x'::xs) ys
theorem wO{c:Nat}{a b:Str}(h1:c∉a.cps.toList)(h2:c∉b.cps.toList):c∉(a++b).cps.toList:=λh=>by
 rw[show(a++b).cps=a.cps++b.cps from rfl,AY]at h;exact(eC.mp h).elim h1 h2
theorem mz{c:Nat}:∀{xs ys:List Str},(∀p∈xs,c∉p.cps.toList)->(∀p∈ys,c∉p.cps.toList)->∀p∈glue xs ys,c∉p.cps.toList
 |[],ys,_,hy=>hy
 |[x],[],hx,_=>hx
 |[x],y::ys,hx,hy=>λp hp=>by
  rcases lL.mp hp with rfl|h
  ·exact wO (hx x (.head _)) (hy y (.head _))
  ·exact hy p (.tail _ h)
 |x::x'::xs,ys,hx,hy=>λp hp=>by
  rcases lL.mp hp with rfl|h
  ·exact hx p (.head _)
  ·exact mz (λq hq=>hx q (.tail _ hq)) hy p h
theorem mT(sep:Str):∀{xs ys:List Str},xs≠[]->ys≠[]->Str.join sep (glue xs ys)=Str.join sep xs++Str.join sep ys
 |[],_,h,_=>absurd rfl h
 |_,[],_,h=>absurd rfl h
 |[x],[y],_,_=>rfl
 |[x],y::y'::ys,_,_=>by
  show(x++y)++sep++Str.join sep (y'::ys)=x++(y++sep++Str.join sep (y'::ys));simp only[Str.append_assoc]
 |x::x'::xs,y::ys,_,_=>by
  have ih:=mT sep (xs:=x'::xs) (ys:=y::ys) (by simp) (by simp);have e:glue (x::x'::xs) (y::ys)=x::glue (x'::xs) (y::ys):=rfl;obtain⟨a,r,er⟩:∃a r,glue (x'::xs) (y::ys)=a::r:=by cases xs with|nil=>exact⟨_,_,rfl⟩|cons z zs=>exact⟨_,_,rfl⟩
  rw[e,er];show x++sep++Str.join sep (a::r)=x++sep++Str.join sep (x'::xs)++Str.join sep (y::ys);rw[<-er,ih];simp only[Str.append_assoc]
theorem split_free(z:Str):∀p∈Txt.split z (Str.ofString " "),32∉p.cps.toList:=by rw[iM];exact StrLaws.split_free z 32
theorem kE(z:Str):Txt.split z (Str.ofString " ")≠[]:=λe=>by
 unfold Txt.split at e;split at e
 ·cases e
 ·split at e
  ·cases e
  ·unfold Builtin.Str.partsBetween at e;simp at e
theorem F7{z:Str}{ps:List Str}(hn:ps≠[])(hf:∀p∈ps,32∉p.cps.toList)(e:Str.join (Str.ofString " ") ps=z):Txt.split z (Str.ofString " ")=ps:=by
 rw[<-e,iM,<-b_];exact fO hn hf
theorem a9{u v:Str}{us vs ws:List Str}(hu:Txt.split u (Str.ofString " ")=us)(hv:Txt.split v (Str.ofString " ")=vs)(hg:glue us vs=ws):Txt.split (u++v) (Str.ofString " ")=ws:=by
 subst hu hv hg;refine F7 (λe=>?_) (mz (split_free u) (split_free v)) ?_
 ·have h1:=kE u;have h2:=kE v;cases ha:Txt.split u (Str.ofString " ") with
  |nil=>exact h1 ha
  |cons a r=>
   rw[ha]at e;cases hb:Txt.split v (Str.ofString " ") with
   |nil=>exact h2 hb
   |cons b t=>rw[hb]at e;cases r<;>cases e
 ·rw[mT _ (kE u) (kE v),StrLaws.join_split,StrLaws.join_split]
theorem aZ{x:Str}(h:ua x):Txt.split x (Str.ofString " ")=[x]:=F7 (by simp) (λp hp=>by rw[List.mem_singleton.mp hp];exact h.2.2.1) rfl
theorem bc(x:Str):Str.ofString "" ++ x=x:=gE (by show((#[]:Array Nat)++x.cps).toList=_;simp)
theorem bh(x:Str):x++Str.ofString "" = x:=gE (by show(x.cps++(#[]:Array Nat)).toList=_;simp)
noncomputable def Pu(z:Str):Bool:=decide (z.length<=241)&&decide (10∉z.cps.toList)&&decide (32∉z.cps.toList)&&z.cps.toList.all (·<16 ^ 8)
theorem aI{z:Str}(h:Pu z=true):ua z:=by
 unfold Pu at h;simp only[Bool.and_eq_true,decide_eq_true_eq,List.all_eq_true]at h;exact⟨h.1.1.1,h.1.1.2,h.1.2,h.2⟩
theorem bz{n:Int}(h0 : -(10 ^ 40)<=n)(h1:n<=10 ^ 40):ua (nS n):=⟨(wG h0 h1).1,(wG h0 h1).2.1,(wG h0 h1).2.2,G0 n⟩
theorem LI{a b:Str}(ha:Pu a=true)(hb:ua b)(hl:a.length+b.length<=241):ua (a++b):=by
 have h:=aI ha;refine⟨by rw[aH];exact hl,Jb h.2.1 hb.2.1,wO h.2.2.1 hb.2.2.1,λc hc=>?_⟩;rw[show(a++b).cps=a.cps++b.cps from rfl,AY]at hc;exact(eC.mp hc).elim (h.2.2.2 c) (hb.2.2.2 c)
theorem Hh{nm:Str}(h:isNm nm=true):ua (nm++Str.ofString "abcdefghijklmnopq")/\isNm (nm++Str.ofString "abcdefghijklmnopq")=false:=by
 have hn:=ub h;have hq:ua (Str.ofString "abcdefghijklmnopq"):=aI (by decide +kernel);have lq:(Str.ofString "abcdefghijklmnopq").length=17:=by decide +kernel
 refine⟨⟨by rw[aH];omega,Jb hn.1.2.1 hq.2.1,wO hn.1.2.2.1 hq.2.2.1,λc hc=>?_⟩,?_⟩
 ·rw[show(nm++Str.ofString "abcdefghijklmnopq").cps=nm.cps++(Str.ofString "abcdefghijklmnopq").cps from rfl,AY]at hc;exact(eC.mp hc).elim (hn.1.2.2.2 c) (hq.2.2.2 c)
 ·unfold isNm;rw[decide_eq_false (show ¬(nm++Str.ofString "abcdefghijklmnopq").length<=16 by rw[aH];omega)];simp
theorem aJ:∀p∈([]:List Str),ua p:=λp hp=>by cases hp
theorem bg{x:Str}{r:List Str}(h:ua x)(hr:∀p∈r,ua p):∀p∈x::r,ua p:=λp hp=>(lL.mp hp).elim (λe=>e▸h) (hr p)
theorem join_le{m:Nat}:∀{ps:List Str},(∀p∈ps,p.length<=m)->(Str.join (Str.ofString " ") ps).length<=ps.length*(m+1)
 |[],_=>gB _
 |[x],h=>by have:=h x (.head _);show x.length<=1*(m+1);omega
 |x::y::r,h=>by
  have ih:=join_le (ps:=y::r) λp hp=>h p (.tail _ hp);have:=h x (.head _);have l1:(Str.ofString " ").length=1:=by decide +kernel
  show(x++Str.ofString " " ++ Str.join (Str.ofString " ") (y::r)).length<=(r.length+1+1)*(m+1);have e:(y::r).length=r.length+1:=rfl;rw[e]at ih;rw[aH,aH,Nat.succ_mul (r.length+1)];omega
theorem tT{B:List Str->Prop}{z:Str}{ps:List Str}(m:Nat)(e:Txt.split z (Str.ofString " ")=ps)(hm:ps.length*(m+1)<=1000)(hl:∀p∈ps,p.length<=m)(h:∀p∈ps,ua p)(b:B ps):fD B z:=by
 have ej:=StrLaws.join_split z (Str.ofString " ");rw[e]at ej;refine⟨?_,λhc=>?_,λp hp=>?_,by rw[e];exact b⟩
 ·rw[<-ej];exact dy (join_le hl) hm
 ·rw[<-ej]at hc;rcases mem_join hc with ⟨p,hp,q⟩|q
  ·exact(h p hp).2.1 q
  ·exact absurd q (by decide +kernel)
 ·rw[e]at hp;have:=h p hp;exact⟨dy this.1 (by decide),this.2.2.2⟩
theorem cn{B:List Str->Prop}{z:Str}{ps:List Str}(e:Txt.split z (Str.ofString " ")=ps)(hm:ps.length<=4)(h:∀p∈ps,ua p)(b:B ps):fD B z:=
 tT 241 e (by omega) (λp hp=>(h p hp).1) h b
theorem SK{S:RP}{h:Str}{r:List Str}(n:Int)(e:(aS dO (.inr h)).getD .aF≠V.int n)(l:((h::r).length:Int)=n):dN S (h::r):=.len (by rw[l];exact e)
theorem KO(h:Str)(n:Int)(e:(aS dO (.inr h)).getD .aF=.int n):n=2\/n=4:=by
 cases ev:aS dO (.inr h) with
 |none=>rw[ev]at e;cases e
 |some v=>
  rw[ev]at e;have e:v=.int n:=e;subst e;unfold aS at ev;obtain⟨p,hp,e2⟩:=Cr.mp ev;have hm:=List.mem_of_find?_eq_some hp;unfold dO at hm;simp only[List.mem_cons,List.not_mem_nil,or_false]at hm;rcases hm with rfl|rfl|rfl|rfl|rfl|rfl|rfl|rfl|rfl<;>(cases e2;simp)
theorem d_{S:RP}{h:Str}{r:List Str}(l:(h::r).length≠2/\(h::r).length≠4):dN S (h::r):=.len λe=>by rcases KO h _ e with q|q<;>omega
theorem vv{n:Int}(h1:1<=n)(h2:n<=65536)(hb:Builtin.bitAnd n (n - 1)≠0):c7 (nS n)=.aF:=by
 unfold c7;have e:=eT (n:=n) (lo:=1) (hi:=65536) (by omega) (by omega);rw[if_pos ⟨h1,h2⟩]at e;rw[show cx (nS n) 1 65536=.int n from e];show(if Builtin.bitAnd n (n - 1)=0 then V.int n else V.aF)=V.aF;rw[if_neg hb]
theorem kq{a b:Nat}(h:a/2 &&& b/2≠0):a &&& b≠0:=λe=>h (by rw[<-Nat.and_div_two,e])
theorem CS{n:Int}(h:65536<n):c7 (nS n)=.aF:=by unfold c7;rw[eX (.inr h)]
theorem iw{B:List Str->Prop}{N M:Nat}{H0 H:Hp}{Q:VK}{p p1 p2:Addr}{zs ys:List Str}{o:HO}(h:z8 B N H0 H Q p zs)(h1:H p1=none)(h2:upd H p1 o p2=none)(hy:∀z∈ys,fD B z)(hM:N+ys.length<=M):
  z8 B M H0 (upd (upd H p1 o) p2 (.lst (zs.map V.str++ys.map V.str))) Q p2 (zs++ys):=by
 obtain⟨_,a2,a3,a4,a5,a6⟩:=h;exact⟨by rw[aE,gJ],by cases zs<;>simp_all,by rw[List.length_append];omega,λz hz=>(List.mem_append.mp hz).elim (a4 z) (hy z),(a5.trans (aO h1)).trans (aO h2),a6⟩
theorem kQ{B:List Str->Prop}{N:Nat}{H0 H:Hp}{Q:VK}{p:Addr}{zs:List Str}(h:z8 B N H0 H Q p zs)(hN:N<=100)(n:Int):zs.length<=100/\0<(zs.length:Int)/\∃z,hG (zs.map V.str) (n%(zs.length:Int))=some (.str z)/\Q (.str z) H:=by
 obtain⟨a1,a2,a3,a4,a5,a6⟩:=h;have l0:=List.length_pos_iff.mpr a2;have r0:0<=n%(zs.length:Int):=Int.emod_nonneg _ (by omega);have r1:n%(zs.length:Int)<zs.length:=Oy _ (by omega);obtain⟨j,hj⟩:=Ew r0;rw[hj]at r1;have hx:zs[j]?=some zs[j]:=A5 (by omega);refine⟨by omega,by omega,zs[j],?_,a6 _ _ a5 (a4 _ (A4 hx))⟩;rw[hj];exact j3 (by rw[z5,hx];rfl)
theorem kC(a b:Nat):Builtin.bitAnd (a:Int) (b:Int)=((a &&& b:Nat):Int):=by
 unfold Builtin.bitAnd;rw[decide_eq_true (Int.natCast_nonneg a),decide_eq_true (Int.natCast_nonneg b)];rfl
theorem wM(far:Int):c7 (nS (3+2*(far%32000)))=.aF:=by
 have h0:0<=far%32000/\far%32000<32000:=by omega
 obtain⟨k,hk⟩:=Ew h0.1;rw[hk]at h0 ⊢;refine vv (by omega) (by omega) ?_;rw[show(3:Int)+2*(k:Int)=((2*k+3:Nat):Int) by omega,show((2*k+3:Nat):Int) - 1=((2*k+2:Nat):Int) by omega,kC];have:=kq (a:=2*k+3) (b:=2*k+2) (by rw[show(2*k+3)/2=k+1 by omega,show(2*k+2)/2=k+1 by omega,Nat.and_self];omega);omega
theorem wV(far:Int):c7 (nS (2*(3+2*(far%16000))))=.aF:=by
 have h0:0<=far%16000/\far%16000<16000:=by omega
 obtain⟨k,hk⟩:=Ew h0.1;rw[hk]at h0 ⊢;refine vv (by omega) (by omega) ?_;rw[show(2:Int)*(3+2*(k:Int))=((4*k+6:Nat):Int) by omega,show((4*k+6:Nat):Int) - 1=((4*k+5:Nat):Int) by omega,kC];have h1:=kq (a:=2*k+3) (b:=2*k+2) (by rw[show(2*k+3)/2=k+1 by omega,show(2*k+2)/2=k+1 by omega,Nat.and_self];omega);have:=kq (a:=4*k+6) (b:=4*k+5) (by rw[show(4*k+6)/2=2*k+3 by omega,show(4*k+5)/2=2*k+2 by omega];exact h1);omega
theorem Oi{far:Int}(h0:0<=far)(h1:far<10 ^ 30):1+(nS far).length<=241:=by
 have lg:far.natAbs.log2<200:=by
  by_cases hz:far.natAbs=0
  ·rw[hz];decide
  ·exact(Nat.log2_lt (n:=far.natAbs) (k:=200) hz).mpr (by omega)
 have:(Str.ofString (toString far)).length<=201:=by
  rw[PySem.ofString_length];exact int_text_length_le (by decide) lg
 show 1+(Str.ofString (toString far)).length<=241;omega
noncomputable def IH(ps:List Str):Bool:=match ps with
 |[]=>false
 |h::r=>decide ((aS dO (.inr h)).getD .aF≠V.int ((h::r).length:Int)) || (match r with
  |[a]=>(decide (h=Str.ofString "piece") && !isNm a) || ((decide (h=Str.ofString "code") || decide (h=Str.ofString "data"))&&decide (c7 a=.aF)) || (decide (h=Str.ofString "word")&&decide (cx a 0 4294967295=.aF)) || ((decide (h=Str.ofString "tell") || decide (h=Str.ofString "weak") || decide (h=Str.ofString "own")) && !isNm a)
  |[a,b,c]=>(decide (h=Str.ofString "fill") || decide (h=Str.ofString "soft"))&&(decide (cx c (-2147483648) 2147483647=.aF) || !decide (wK a) || !isNm b)
  |_=>false)
theorem ve{ps:List Str}(h:IH ps=true)(S:RP):dN S ps:=by
 cases ps with
 |nil=>cases h
 |cons hd r=>
  unfold IH at h;rcases Bool.or_eq_true_iff.mp h with z|z
  ·exact .len (of_decide_eq_true z)
  ·match r,z with
   |[a],z=>
    simp only[Bool.or_eq_true,Bool.and_eq_true,decide_eq_true_eq,Bool.not_eq_true']at z;rcases z with ((⟨k,y⟩|⟨k,y⟩)|⟨k,y⟩)|⟨k,y⟩
    ·rw[k];exact .aV y
    ·exact .st k y
    ·rw[k];exact .word y
    ·exact .told (by rcases k with (k|k)|k<;>rw[k]<;>simp[bN]) (.inr y)
   |[a,b,c],z=>
    simp only[Bool.or_eq_true,Bool.and_eq_true,decide_eq_true_eq,Bool.not_eq_true',decide_eq_false_iff_not]at z;obtain⟨k,(y|y)|y⟩:=z
    ·exact .fill k (.inr (.inl y))
    ·exact .fill k (.inr (.inr (.inl y)))
    ·exact .fill k (.inr (.inr (.inr (.inl y))))
noncomputable def zE(z:Str):Bool:=decide (z.length<=1000)&&(Txt.split z (Str.ofString " ")).all Pu&&decide (10∉z.cps.toList)
theorem aP{z:Str}(h:(zE z&&IH (Txt.split z (Str.ofString " ")))=true):Ab z:=by
 simp only[zE,Bool.and_eq_true,decide_eq_true_eq,List.all_eq_true]at h;exact⟨h.1.1.1,h.1.2,λp hp=>⟨dy (aI (h.1.1.2 p hp)).1 (by decide),(aI (h.1.1.2 p hp)).2.2.2⟩,ve h.2⟩
theorem d9{z:Str}(h:(zE z&&(IH (Txt.split z (Str.ofString " ")) || decide ((Txt.split z (Str.ofString " ")).head?≠some (Str.ofString "piece"))))=true):M5 z:=by
 simp only[zE,Bool.and_eq_true,Bool.or_eq_true,decide_eq_true_eq,List.all_eq_true]at h;refine⟨h.1.1.1,h.1.2,λp hp=>⟨dy (aI (h.1.1.2 p hp)).1 (by decide),(aI (h.1.1.2 p hp)).2.2.2⟩,?_⟩;rcases h.2 with q|q
 ·exact ve q _
 ·cases hs:Txt.split z (Str.ofString " ") with
  |nil=>exact absurd hs (kE z)
  |cons a r=>
   rw[hs]at q;exact .first λe=>q (by rw[e.mpr rfl];rfl)
theorem cH{a b:Str}{m n:Nat}(ha:a.length<=m)(hb:b.length<=n):(a++b).length<=m+n:=by rw[aH];omega
theorem cD{a b m n:Nat}(ha:a<=m)(hb:b<=n)(h:m+n<=2000):a+b<=sizeLine:=by rw[sizeLine_eq];omega
theorem bP{nm:Str}(h:nm.length<=16):(nm++Str.ofString "abcdefghijklmnopq").length<=33:=by
 rw[aH,show(Str.ofString "abcdefghijklmnopq").length=17 by decide +kernel];omega
theorem ck(B:List Str->Prop):∀z∈([]:List Str),fD B z:=λz hz=>by cases hz
theorem bG{B:List Str->Prop}{x:Str}{r:List Str}(h:fD B x)(hr:∀z∈r,fD B z):∀z∈x::r,fD B z:=λz hz=>(lL.mp hz).elim (λe=>e▸h) (hr z)
theorem NY(T:Txt w K mg A):bo P w K mg base eI 1 A.Ny A.m9 ["_law_number", "_law_name"] AQ:=by
 refine T.yW.ok eo (λvs H Q E h=>?_) (λcdv Ar outer s H vs Q E hr h=>?_)
 ·obtain⟨n,nm,rfl,_⟩:=h;rfl
 ·obtain⟨n,nm,rfl,n0,n1,hnm,k⟩:=h
  refine⟨_,(@aL _ _ _ _ _ (@bR _ _ 2 _ _ _ _ eo.nd rfl (by walk_at "o") (@ag _ _ _ _ _ _ _ _ aG (@ag _ _ _ _ _ _ _ _ cX (@ag _ _ _ _ _ _ _ _ cX (@ag _ _ _ _ _ _ _ _ cX (@pv _ 0 _ _ (by kernel_rfl)) (@pv _ 0 _ _ (by kernel_rfl))) (@pv _ 0 _ _ (by kernel_rfl))) (@ah _ _ _ _)) (@ag _ _ _ _ _ _ _ _ Li (@ah _ _ _ _) (@ah _ _ _ _))) (by rfl) (by walk_at "q")) (@aL _ _ _ _ _ (@bR _ _ 3 _ _ _ _ eo.nd rfl (by walk_at "o") (@gY _ _ _ _ _ _ _ _ _ jj (by rfl) T.dW dE (@ao _ _ _ _ _ (@ag _ _ _ _ _ _ _ _ bC (@ah _ _ _ _) (@ag _ _ _ _ _ _ _ _ cX (@ah _ _ _ _) (@ag _ _ _ _ _ _ _ _ aG (@pv _ 2 _ _ (by kernel_rfl)) (@ah _ _ _ _)))) (@aa _) (by rfl)) (by decide) (by decide) (by rfl) (by rfl)) (by rfl) (by walk_at "q")) (@aL _ _ _ _ _ (@bR _ _ 4 _ _ _ _ eo.nd rfl (by walk_at "o") (@aw _ _ _ _ (@ao _ _ _ _ _ (@af _ _ _ _) (@ao _ _ _ _ _ (@af _ _ _ _) (@ao _ _ _ _ _ (@af _ _ _ _) (@ao _ _ _ _ _ (@af _ _ _ _) (@ao _ _ _ _ _ (@af _ _ _ _) (@ao _ _ _ _ _ (@af _ _ _ _) (@ao _ _ _ _ _ (@af _ _ _ _) (@ao _ _ _ _ _ (@af _ _ _ _) (@ao _ _ _ _ _ (@af _ _ _ _) (@ao _ _ _ _ _ (@af _ _ _ _) (@ao _ _ _ _ _ (@af _ _ _ _) (@aa _) (by rfl)) (by rfl)) (by rfl)) (by rfl)) (by rfl)) (by rfl)) (by rfl)) (by rfl)) (by rfl)) (by rfl)) (by rfl))) (by rfl) (by walk_at "q")) (@cJ _ _ _ (oN 11) (@aL _ _ _ _ _ (@bR _ _ 4 _ _ _ _ eo.nd rfl (by walk_at "o") (@ag _ _ _ _ _ _ _ _ (cM (K:=K) rfl) (@pv _ 4 _ _ (by kernel_rfl)) (@aw _ _ _ _ (@ao _ _ _ _ _ (@af _ _ _ _) (@ao _ _ _ _ _ (@af _ _ _ _) (@ao _ _ _ _ _ (@af _ _ _ _) (@ao _ _ _ _ _ (@af _ _ _ _) (@ao _ _ _ _ _ (@af _ _ _ _) (@ao _ _ _ _ _ (@af _ _ _ _) (@ao _ _ _ _ _ (@af _ _ _ _) (@ao _ _ _ _ _ (@af _ _ _ _) (@aa _) (by rfl)) (by rfl)) (by rfl)) (by rfl)) (by rfl)) (by rfl)) (by rfl)) (by rfl)))) (by rfl) (by walk_at "q")) (@cJ _ _ _ (oN 19) (@aL _ _ _ _ _ (@bR _ _ 4 _ _ _ _ eo.nd rfl (by walk_at "o") (@ag _ _ _ _ _ _ _ _ (cM (K:=K) rfl) (@pv _ 4 _ _ (by kernel_rfl)) (@aw _ _ _ _ (@ao _ _ _ _ _ (@ag _ _ _ _ _ _ _ _ bW (@af _ _ _ _) (@gY _ _ _ _ _ _ _ _ _ jj (by rfl) T.dW dE (@ao _ _ _ _ _ (@ag _ _ _ _ _ _ _ _ bC (@ah _ _ _ _) (@pv _ 2 _ _ (by kernel_rfl))) (@aa _) (by rfl)) (by decide) (by decide) (by rfl) (by rfl))) (@ao _ _ _ _ _ (@ag _ _ _ _ _ _ _ _ bW (@af _ _ _ _) (@gY _ _ _ _ _ _ _ _ _ jj (by rfl) T.dW dE (@ao _ _ _ _ _ (@ag _ _ _ _ _ _ _ _ bC (@ah _ _ _ _) (@pv _ 2 _ _ (by kernel_rfl))) (@aa _) (by rfl)) (by decide) (by decide) (by rfl) (by rfl))) (@ao _ _ _ _ _ (@ag _ _ _ _ _ _ _ _ bW (@af _ _ _ _) (@gY _ _ _ _ _ _ _ _ _ jj (by rfl) T.dW dE (@ao _ _ _ _ _ (@pv _ 2 _ _ (by kernel_rfl)) (@aa _) (by rfl)) (by decide) (by decide) (by rfl) (by rfl))) (@ao _ _ _ _ _ (@af _ _ _ _) (@ao _ _ _ _ _ (@af _ _ _ _) (@aa _) (by rfl)) (by rfl)) (by rfl)) (by rfl)) (by rfl)))) (by rfl) (by walk_at "q")) (@cJ _ _ _ (oN 24) (@aL _ _ _ _ _ (@bR _ _ 4 _ _ _ _ eo.nd rfl (by walk_at "o") (@ag _ _ _ _ _ _ _ _ (cM (K:=K) rfl) (@pv _ 4 _ _ (by kernel_rfl)) (@aw _ _ _ _ (@ao _ _ _ _ _ (@af _ _ _ _) (@ao _ _ _ _ _ (@af _ _ _ _) (@ao _ _ _ _ _ (@af _ _ _ _) (@ao _ _ _ _ _ (@af _ _ _ _) (@ao _ _ _ _ _ (@af _ _ _ _) (@ao _ _ _ _ _ (@af _ _ _ _) (@ao _ _ _ _ _ (@af _ _ _ _) (@ao _ _ _ _ _ (@af _ _ _ _) (@aa _) (by rfl)) (by rfl)) (by rfl)) (by rfl)) (by rfl)) (by rfl)) (by rfl)) (by rfl)))) (by rfl) (by walk_at "q")) (@cJ _ _ _ (oN 32) (@aL _ _ _ _ _ (@bR _ _ 4 _ _ _ _ eo.nd rfl (by walk_at "o") (@ag _ _ _ _ _ _ _ _ (cM (K:=K) rfl) (@pv _ 4 _ _ (by kernel_rfl)) (@aw _ _ _ _ (@ao _ _ _ _ _ (@ag _ _ _ _ _ _ _ _ bW (@af _ _ _ _) (@pv _ 3 _ _ (by kernel_rfl))) (@ao _ _ _ _ _ (@af _ _ _ _) (@ao _ _ _ _ _ (@ag _ _ _ _ _ _ _ _ bW (@af _ _ _ _) (@gY _ _ _ _ _ _ _ _ _ jj (by rfl) T.dW dE (@ao _ _ _ _ _ (@ag _ _ _ _ _ _ _ _ cX (@ah _ _ _ _) (@ag _ _ _ _ _ _ _ _ bC (@ah _ _ _ _) (@ag _ _ _ _ _ _ _ _ cX (@ah _ _ _ _) (@ag _ _ _ _ _ _ _ _ aG (@pv _ 2 _ _ (by kernel_rfl)) (@ah _ _ _ _))))) (@aa _) (by rfl)) (by decide) (by decide) (by rfl) (by rfl))) (@ao _ _ _ _ _ (@ag _ _ _ _ _ _ _ _ bW (@af _ _ _ _) (@gY _ _ _ _ _ _ _ _ _ jj (by rfl) T.dW dE (@ao _ _ _ _ _ (@ag _ _ _ _ _ _ _ _ bC (@ah _ _ _ _) (@pv _ 2 _ _ (by kernel_rfl))) (@aa _) (by rfl)) (by decide) (by decide) (by rfl) (by rfl))) (@aa _) (by rfl)) (by rfl)) (by rfl)) (by rfl)))) (by rfl) (by walk_at "q")) (@cJ _ _ _ (oN 36) (@aL _ _ _ _ _ (@bR _ _ 4 _ _ _ _ eo.nd rfl (by walk_at "o") (@ag _ _ _ _ _ _ _ _ (cM (K:=K) rfl) (@pv _ 4 _ _ (by kernel_rfl)) (@aw _ _ _ _ (@ao _ _ _ _ _ (@af _ _ _ _) (@ao _ _ _ _ _ (@ag _ _ _ _ _ _ _ _ bW (@ag _ _ _ _ _ _ _ _ bW (@af _ _ _ _) (@pv _ 1 _ _ (by kernel_rfl))) (@af _ _ _ _)) (@aa _) (by rfl)) (by rfl)))) (by rfl) (by walk_at "q")) (@cJ _ _ _ (oN 38) (@aL _ _ _ _ _ (@bR _ _ 4 _ _ _ _ eo.nd rfl (by walk_at "o") (@ag _ _ _ _ _ _ _ _ (cM (K:=K) rfl) (@pv _ 4 _ _ (by kernel_rfl)) (@aw _ _ _ _ (@ao _ _ _ _ _ (@ag _ _ _ _ _ _ _ _ bW (@ag _ _ _ _ _ _ _ _ bW (@af _ _ _ _) (@pv _ 1 _ _ (by kernel_rfl))) (@af _ _ _ _)) (@ao _ _ _ _ _ (@ag _ _ _ _ _ _ _ _ bW (@ag _ _ _ _ _ _ _ _ bW (@ag _ _ _ _ _ _ _ _ bW (@af _ _ _ _) (@pv _ 1 _ _ (by kernel_rfl))) (@af _ _ _ _)) (@gY _ _ _ _ _ _ _ _ _ jj (by rfl) T.dW dE (@ao _ _ _ _ _ (@ag _ _ _ _ _ _ _ _ bC (@ah _ _ _ _) (@pv _ 2 _ _ (by kernel_rfl))) (@aa _) (by rfl)) (by decide) (by decide) (by rfl) (by rfl))) (@aa _) (by rfl)) (by rfl)))) (by rfl) (by walk_at "q")) (@cJ _ _ _ (oN 40) (@aL _ _ _ _ _ (@bR _ _ 4 _ _ _ _ eo.nd rfl (by walk_at "o") (@ag _ _ _ _ _ _ _ _ (cM (K:=K) rfl) (@pv _ 4 _ _ (by kernel_rfl)) (@aw _ _ _ _ (@ao _ _ _ _ _ (@ag _ _ _ _ _ _ _ _ bW (@ag _ _ _ _ _ _ _ _ bW (@ag _ _ _ _ _ _ _ _ bW (@af _ _ _ _) (@pv _ 1 _ _ (by kernel_rfl))) (@af _ _ _ _)) (@gY _ _ _ _ _ _ _ _ _ jj (by rfl) T.dW dE (@ao _ _ _ _ _ (@ag _ _ _ _ _ _ _ _ bC (@ah _ _ _ _) (@pv _ 2 _ _ (by kernel_rfl))) (@aa _) (by rfl)) (by decide) (by decide) (by rfl) (by rfl))) (@ao _ _ _ _ _ (@ag _ _ _ _ _ _ _ _ bW (@ag _ _ _ _ _ _ _ _ bW (@af _ _ _ _) (@pv _ 1 _ _ (by kernel_rfl))) (@af _ _ _ _)) (@aa _) (by rfl)) (by rfl)))) (by rfl) (by walk_at "q")) (@cJ _ _ _ (oN 42) (@bE _ _ _ (@au _ _ _ _ (@bH _ _ _ _ _ _ _ (dv (K:=K) rfl) (@pv _ 4 _ _ (by kernel_rfl)) (@ag _ _ _ _ _ _ _ _ aG (@pv _ 0 _ _ (by kernel_rfl)) (@dh _ _ _ _ _ _ _ _ _ (e7 (K:=K) rfl) (by rfl) T.cF bZ (@ao _ _ _ _ _ (@pv _ 4 _ _ (by kernel_rfl)) (@aa _) (by rfl)) (by decide) (by decide) (by rfl) (by rfl))) (λ_ _=>rfl)))) ?onR)) ?on6)) ?on5)) ?on4)) ?on3)) ?on2)) ?on1)) ?on0)))),?main⟩
  case main=>
   walk_at "rd";walk_at "9";walk_at "10";walk_at "11";have ll:=bP ln;have b1:0<=n*n/\n*n<=2147483647*2147483647:=⟨Int.mul_nonneg n0 n0,Int.mul_le_mul n1 n1 n0 (by decide)⟩
   have b2:0<=n*n*n:=Int.mul_nonneg b1.1 n0;generalize n*n*n=m at *;generalize n*n=m2 at *;have e30:(10:Int) ^ Int.toNat 30=10 ^ 30:=rfl;rw[e30];have f0:0<=m*48271%10 ^ 30:=by omega
   have f1:m*48271%10 ^ 30<10 ^ 30:=by omega
   generalize m*48271%10 ^ 30=far at *;exact⟨.inl ⟨by omega,by omega⟩,.inr ⟨by omega,by omega⟩,.inr ⟨by decide,by decide⟩,⟨by decide,by decide,by decide⟩,by decide,by decide,.inl ⟨by decide,by decide⟩,(um (x:=3+2*(far%32000)) (by omega) (by omega)).2,by walk_at "s", λp hp=>⟨H,n,far,nm,p,[Str.ofString "", Str.ofString " ", Str.ofString "word", Str.ofString "word ", Str.ofString "word  1", Str.ofString "word 1 ", Str.ofString " word 1", Str.ofString "word 01", Str.ofString "word 1 2", Str.ofString "Word 1", Str.ofString "words 1"],rfl,f0,f1,hnm,by rw[aE];rfl,by simp,by simp,(bG (aP (by decide +kernel))
    (bG (aP (by decide +kernel))
    (bG (aP (by decide +kernel))
    (bG (aP (by decide +kernel))
    (bG (aP (by decide +kernel))
    (bG (aP (by decide +kernel))
    (bG (aP (by decide +kernel))
    (bG (aP (by decide +kernel))
    (bG (aP (by decide +kernel))
    (bG (aP (by decide +kernel))
    (bG (aP (by decide +kernel))
    (ck _)))))))))))),aO hp,k⟩⟩
  case on0=>
   walk_at "12";walk_at "rd";walk_at "9";walk_at "10";walk_at "11";have ll:=bP ln;have so1:=wM far;have so2:=wV far;exact⟨by rw[sizeLine_eq];decide,λp1 h1=>⟨_,aC.of (aO h1 _ _ O.1),_,aC.of aE,by rw[sizeLine_eq,aQ];have:=O.2.2.1;show zs.length+8<=_;omega,λp2 h2=>⟨H0,n,far,nm,p2,_,rfl,f0,f1,hnm,iw (ys:=[Str.ofString "word +1", Str.ofString "word -0", Str.ofString "word -1", Str.ofString "word a", Str.ofString "word 00", Str.ofString "word 4294967296", Str.ofString "word 1a", Str.ofString "word -"]) O h1 h2 (bG (aP (by decide +kernel))
    (bG (aP (by decide +kernel))
    (bG (aP (by decide +kernel))
    (bG (aP (by decide +kernel))
    (bG (aP (by decide +kernel))
    (bG (aP (by decide +kernel))
    (bG (aP (by decide +kernel))
    (bG (aP (by decide +kernel))
    (ck _))))))))) (by simp)⟩⟩⟩
  case on1=>
   walk_at "12";walk_at "rd";walk_at "9";walk_at "10";walk_at "11";have ll:=bP ln;have so1:=wM far;have so2:=wV far;exact⟨(um (x:=4294967296+far) (by omega) (by omega)).2,cD (show(Str.ofString "word ").length<=5 by decide +kernel) (bz (n:=4294967296+far) (by omega) (by omega)).1 (by decide),(um (x:=1+far) (by omega) (by omega)).2,cD (show(Str.ofString "word -").length<=6 by decide +kernel) (bz (n:=1+far) (by omega) (by omega)).1 (by decide),(um (x:=far) (by omega) (by omega)).2,cD (show(Str.ofString "word 0").length<=6 by decide +kernel) (bz (n:=far) (by omega) (by omega)).1 (by decide),by walk_at "s", λp1 h1=>⟨_,aC.of (aO h1 _ _ O.1),_,aC.of aE,by rw[sizeLine_eq,aQ];have:=O.2.2.1;show zs.length+5<=_;omega,λp2 h2=>⟨H0,n,far,nm,p2,_,rfl,f0,f1,hnm,iw (ys:=[(Str.ofString "word " ++ nS (4294967296+far)),(Str.ofString "word -" ++ nS (1+far)),(Str.ofString "word 0" ++ nS (far)),Str.ofString "code", Str.ofString "data"]) O h1 h2 (bG (cn (ps:=[Str.ofString "word", nS (4294967296+far)]) (a9 (show Txt.split (Str.ofString "word ") (Str.ofString " ")=[Str.ofString "word", Str.ofString ""] by decide +kernel) (aZ (bz (n:=4294967296+far) (by omega) (by omega))) (by simp only[glue,bc,bh])) (by simp) (bg (aI (by decide +kernel)) (bg (bz (n:=4294967296+far) (by omega) (by omega)) aJ)) (λS=>.word (eX (.inr (by omega)))))
    (bG (cn (ps:=[Str.ofString "word", nS (-(1+far))]) (a9 (show Txt.split (Str.ofString "word -") (Str.ofString " ")=[Str.ofString "word", Str.ofString "-"] by decide +kernel) (aZ (bz (n:=1+far) (by omega) (by omega))) (by simp only[glue];rw[uS (by omega)])) (by simp) (bg (aI (by decide +kernel)) (bg (bz (n := -(1+far)) (by omega) (by omega)) aJ)) (λS=>.word (eX (.inl (by omega)))))
    (bG (cn (ps:=[Str.ofString "word", (Str.ofString "0" ++ nS (far))]) (a9 (show Txt.split (Str.ofString "word 0") (Str.ofString " ")=[Str.ofString "word", Str.ofString "0"] by decide +kernel) (aZ (bz (n:=far) (by omega) (by omega))) (by simp only[glue,bc,bh])) (by simp) (bg (aI (by decide +kernel)) (bg (LI (by decide +kernel) (bz (n:=far) (by omega) (by omega)) (by rw[show(Str.ofString "0").length=1 by decide +kernel];exact Oi f0 f1)) aJ)) (λS=>.word (AV (by omega))))
    (bG (aP (by decide +kernel))
    (bG (aP (by decide +kernel))
    (ck _)))))) (by simp)⟩⟩⟩
  case on2=>
   walk_at "12";walk_at "rd";walk_at "9";walk_at "10";walk_at "11";have ll:=bP ln;have so1:=wM far;have so2:=wV far;exact⟨by rw[sizeLine_eq];decide,λp1 h1=>⟨_,aC.of (aO h1 _ _ O.1),_,aC.of aE,by rw[sizeLine_eq,aQ];have:=O.2.2.1;show zs.length+8<=_;omega,λp2 h2=>⟨H0,n,far,nm,p2,_,rfl,f0,f1,hnm,iw (ys:=[Str.ofString "code 0", Str.ofString "data -1", Str.ofString "code 131072", Str.ofString "data 65537", Str.ofString "code 01", Str.ofString "data 4 4", Str.ofString "code  4", Str.ofString "data 4 "]) O h1 h2 (bG (aP (by decide +kernel))
    (bG (aP (by decide +kernel))
    (bG (aP (by decide +kernel))
    (bG (aP (by decide +kernel))
    (bG (aP (by decide +kernel))
    (bG (aP (by decide +kernel))
    (bG (aP (by decide +kernel))
    (bG (aP (by decide +kernel))
    (ck _))))))))) (by simp)⟩⟩⟩
  case on3=>
   walk_at "12";walk_at "rd";walk_at "9";walk_at "10";walk_at "11";have ll:=bP ln;have so1:=wM far;have so2:=wV far;exact⟨cD (show(Str.ofString "code ").length<=5 by decide +kernel) (bz (n:=3+2*(far%32000)) (by omega) (by omega)).1 (by decide),by decide,.inl ⟨by decide,by decide⟩,.inl ⟨by decide,by decide⟩,(um (x:=2*(3+2*(far%16000))) (by omega) (by omega)).2,cD (show(Str.ofString "code ").length<=5 by decide +kernel) (bz (n:=2*(3+2*(far%16000))) (by omega) (by omega)).1 (by decide),(um (x:=65537+far) (by omega) (by omega)).2,cD (show(Str.ofString "data ").length<=5 by decide +kernel) (bz (n:=65537+far) (by omega) (by omega)).1 (by decide),by walk_at "s", λp1 h1=>⟨_,aC.of (aO h1 _ _ O.1),_,aC.of aE,by rw[sizeLine_eq,aQ];have:=O.2.2.1;show zs.length+4<=_;omega,λp2 h2=>⟨H0,n,far,nm,p2,_,rfl,f0,f1,hnm,iw (ys:=[(Str.ofString "code " ++ nS (3+2*(far%32000))),Str.ofString "data 6", (Str.ofString "code " ++ nS (2*(3+2*(far%16000)))),(Str.ofString "data " ++ nS (65537+far))]) O h1 h2 (bG (cn (ps:=[Str.ofString "code", nS (3+2*(far%32000))]) (a9 (show Txt.split (Str.ofString "code ") (Str.ofString " ")=[Str.ofString "code", Str.ofString ""] by decide +kernel) (aZ (bz (n:=3+2*(far%32000)) (by omega) (by omega))) (by simp only[glue,bc,bh])) (by simp) (bg (aI (by decide +kernel)) (bg (bz (n:=3+2*(far%32000)) (by omega) (by omega)) aJ)) (λS=>.st (.inl rfl) so1))
    (bG (aP (by decide +kernel))
    (bG (cn (ps:=[Str.ofString "code", nS (2*(3+2*(far%16000)))]) (a9 (show Txt.split (Str.ofString "code ") (Str.ofString " ")=[Str.ofString "code", Str.ofString ""] by decide +kernel) (aZ (bz (n:=2*(3+2*(far%16000))) (by omega) (by omega))) (by simp only[glue,bc,bh])) (by simp) (bg (aI (by decide +kernel)) (bg (bz (n:=2*(3+2*(far%16000))) (by omega) (by omega)) aJ)) (λS=>.st (.inl rfl) so2))
    (bG (cn (ps:=[Str.ofString "data", nS (65537+far)]) (a9 (show Txt.split (Str.ofString "data ") (Str.ofString " ")=[Str.ofString "data", Str.ofString ""] by decide +kernel) (aZ (bz (n:=65537+far) (by omega) (by omega))) (by simp only[glue,bc,bh])) (by simp) (bg (aI (by decide +kernel)) (bg (bz (n:=65537+far) (by omega) (by omega)) aJ)) (λS=>.st (.inr rfl) (CS (by omega))))
    (ck _))))) (by simp)⟩⟩⟩
  case on4=>
   walk_at "12";walk_at "rd";walk_at "9";walk_at "10";walk_at "11";have ll:=bP ln;have so1:=wM far;have so2:=wV far;exact⟨cD (show(Str.ofString "fill whole ").length<=11 by decide +kernel) ln (by decide),cD (cH (show(Str.ofString "fill whole ").length<=11 by decide +kernel) ln) (show(Str.ofString " 2147483648").length<=11 by decide +kernel) (by decide),by walk_at "s", λp1 h1=>⟨_,aC.of (aO h1 _ _ O.1),_,aC.of aE,by rw[sizeLine_eq,aQ];have:=O.2.2.1;show zs.length+2<=_;omega,λp2 h2=>⟨H0,n,far,nm,p2,_,rfl,f0,f1,hnm,iw (ys:=[Str.ofString "text 4", ((Str.ofString "fill whole " ++ nm)++Str.ofString " 2147483648")]) O h1 h2 (bG (aP (by decide +kernel))
    (bG (cn (ps:=[Str.ofString "fill", Str.ofString "whole", nm,Str.ofString "2147483648"]) (a9 (a9 (ws:=[Str.ofString "fill", Str.ofString "whole", nm]) (show Txt.split (Str.ofString "fill whole ") (Str.ofString " ")=[Str.ofString "fill", Str.ofString "whole", Str.ofString ""] by decide +kernel) (aZ hn) (by simp only[glue,bc,bh])) (show Txt.split (Str.ofString " 2147483648") (Str.ofString " ")=[Str.ofString "", Str.ofString "2147483648"] by decide +kernel) (by simp only[glue,bc,bh])) (by simp) (bg (aI (by decide +kernel)) (bg (aI (by decide +kernel)) (bg hn (bg (aI (by decide +kernel)) aJ)))) (λS=>.fill (.inl rfl) (.inr (.inl (by decide +kernel)))))
    (ck _))) (by simp)⟩⟩⟩
  case on5=>
   walk_at "12";walk_at "rd";walk_at "9";walk_at "10";walk_at "11";have ll:=bP ln;have so1:=wM far;have so2:=wV far
   exact⟨cD (show(Str.ofString "fill low ").length<=9 by decide +kernel) ln (by decide),cD (cH (show(Str.ofString "fill low ").length<=9 by decide +kernel) ln) (show(Str.ofString " -2147483649").length<=12 by decide +kernel) (by decide),cD (show(Str.ofString "soft high ").length<=10 by decide +kernel) ln (by decide),cD (cH (show(Str.ofString "soft high ").length<=10 by decide +kernel) ln) (show(Str.ofString " ").length<=1 by decide +kernel) (by decide),(um (x:=2147483648+far) (by omega) (by omega)).2,cD (cH (cH (show(Str.ofString "soft high ").length<=10 by decide +kernel) ln) (show(Str.ofString " ").length<=1 by decide +kernel)) (bz (n:=2147483648+far) (by omega) (by omega)).1 (by decide),by walk_at "s", λp1 h1=>⟨_,aC.of (aO h1 _ _ O.1),_,aC.of aE,by rw[sizeLine_eq,aQ];have:=O.2.2.1;show zs.length+2<=_;omega,λp2 h2=>⟨H0,n,far,nm,p2,_,rfl,f0,f1,hnm,iw (ys:=[((Str.ofString "fill low " ++ nm)++Str.ofString " -2147483649"),(((Str.ofString "soft high " ++ nm)++Str.ofString " ")++nS (2147483648+far))]) O h1 h2 (bG (cn (ps:=[Str.ofString "fill", Str.ofString "low", nm,Str.ofString "-2147483649"]) (a9 (a9 (ws:=[Str.ofString "fill", Str.ofString "low", nm]) (show Txt.split (Str.ofString "fill low ") (Str.ofString " ")=[Str.ofString "fill", Str.ofString "low", Str.ofString ""] by decide +kernel) (aZ hn) (by simp only[glue,bc,bh])) (show Txt.split (Str.ofString " -2147483649") (Str.ofString " ")=[Str.ofString "", Str.ofString "-2147483649"] by decide +kernel) (by simp only[glue,bc,bh])) (by simp) (bg (aI (by decide +kernel)) (bg (aI (by decide +kernel)) (bg hn (bg (aI (by decide +kernel)) aJ)))) (λS=>.fill (.inl rfl) (.inr (.inl (by decide +kernel)))))
    (bG (cn (ps:=[Str.ofString "soft", Str.ofString "high", nm,nS (2147483648+far)]) (a9 (a9 (ws:=[Str.ofString "soft", Str.ofString "high", nm,Str.ofString ""]) (a9 (ws:=[Str.ofString "soft", Str.ofString "high", nm]) (show Txt.split (Str.ofString "soft high ") (Str.ofString " ")=[Str.ofString "soft", Str.ofString "high", Str.ofString ""] by decide +kernel) (aZ hn) (by simp only[glue,bc,bh])) (show Txt.split (Str.ofString " ") (Str.ofString " ")=[Str.ofString "", Str.ofString ""] by decide +kernel) (by simp only[glue,bc,bh])) (aZ (bz (n:=2147483648+far) (by omega) (by omega))) (by simp only[glue,bc,bh])) (by simp) (bg (aI (by decide +kernel)) (bg (aI (by decide +kernel)) (bg hn (bg (bz (n:=2147483648+far) (by omega) (by omega)) aJ)))) (λS=>.fill (.inr rfl) (.inr (.inl (eX (.inr (by omega)))))))
    (ck _))) (by simp)⟩⟩⟩
  case on6=>
   walk_at "12";walk_at "rd";walk_at "9";walk_at "10";walk_at "11";have ll:=bP ln;have so1:=wM far;have so2:=wV far
   exact⟨cD (show(Str.ofString "fill near ").length<=10 by decide +kernel) ln (by decide),cD (cH (show(Str.ofString "fill near ").length<=10 by decide +kernel) ln) (show(Str.ofString " -").length<=2 by decide +kernel) (by decide),(um (x:=2147483649+far) (by omega) (by omega)).2,cD (cH (cH (show(Str.ofString "fill near ").length<=10 by decide +kernel) ln) (show(Str.ofString " -").length<=2 by decide +kernel)) (bz (n:=2147483649+far) (by omega) (by omega)).1 (by decide),cD (show(Str.ofString "fill split ").length<=11 by decide +kernel) ln (by decide),cD (cH (show(Str.ofString "fill split ").length<=11 by decide +kernel) ln) (show(Str.ofString " 00").length<=3 by decide +kernel) (by decide),by walk_at "s", λp1 h1=>⟨_,aC.of (aO h1 _ _ O.1),_,aC.of aE,by rw[sizeLine_eq,aQ];have:=O.2.2.1;show zs.length+2<=_;omega,λp2 h2=>⟨H0,n,far,nm,p2,_,rfl,f0,f1,hnm,iw (ys:=[(((Str.ofString "fill near " ++ nm)++Str.ofString " -")++nS (2147483649+far)),((Str.ofString "fill split " ++ nm)++Str.ofString " 00")]) O h1 h2 (bG (cn (ps:=[Str.ofString "fill", Str.ofString "near", nm,nS (-(2147483649+far))]) (a9 (a9 (ws:=[Str.ofString "fill", Str.ofString "near", nm,Str.ofString "-"]) (a9 (ws:=[Str.ofString "fill", Str.ofString "near", nm]) (show Txt.split (Str.ofString "fill near ") (Str.ofString " ")=[Str.ofString "fill", Str.ofString "near", Str.ofString ""] by decide +kernel) (aZ hn) (by simp only[glue,bc,bh])) (show Txt.split (Str.ofString " -") (Str.ofString " ")=[Str.ofString "", Str.ofString "-"] by decide +kernel) (by simp only[glue,bc,bh])) (aZ (bz (n:=2147483649+far) (by omega) (by omega))) (by simp only[glue];rw[uS (by omega)])) (by simp) (bg (aI (by decide +kernel)) (bg (aI (by decide +kernel)) (bg hn (bg (bz (n := -(2147483649+far)) (by omega) (by omega)) aJ)))) (λS=>.fill (.inl rfl) (.inr (.inl (eX (.inl (by omega)))))))
    (bG (cn (ps:=[Str.ofString "fill", Str.ofString "split", nm,Str.ofString "00"]) (a9 (a9 (ws:=[Str.ofString "fill", Str.ofString "split", nm]) (show Txt.split (Str.ofString "fill split ") (Str.ofString " ")=[Str.ofString "fill", Str.ofString "split", Str.ofString ""] by decide +kernel) (aZ hn) (by simp only[glue,bc,bh])) (show Txt.split (Str.ofString " 00") (Str.ofString " ")=[Str.ofString "", Str.ofString "00"] by decide +kernel) (by simp only[glue,bc,bh])) (by simp) (bg (aI (by decide +kernel)) (bg (aI (by decide +kernel)) (bg hn (bg (aI (by decide +kernel)) aJ)))) (λS=>.fill (.inl rfl) (.inr (.inl (by decide +kernel)))))
    (ck _))) (by simp)⟩⟩⟩
  case onR=>
   walk_at "12";walk_at "rd";obtain⟨e1,e2,z,e3,e4⟩:=kQ O (by decide) n;exact⟨zs.length,.inl ⟨_,aC.of O.1,by rw[aQ]⟩,e2,_,aC.of O.1,_,e3,e4⟩
theorem NL(T:Txt w K mg A):bo P w K mg base eI 1 A.Nd A.o2 ["_law_number", "_law_name"] wg:=by
 refine T.yf.ok gg (λvs H Q E h=>?_) (λcdv Ar outer s H vs Q E hr h=>?_)
 ·obtain⟨n,nm,rfl,_⟩:=h;rfl
 ·obtain⟨n,nm,rfl,n0,n1,hnm,k⟩:=h
  refine⟨_,(@aL _ _ _ _ _ (@bR _ _ 2 _ _ _ _ gg.nd rfl (by walk_at "o") (@ag _ _ _ _ _ _ _ _ bW (@pv _ 1 _ _ (by kernel_rfl)) (@af _ _ _ _)) (by rfl) (by walk_at "q")) (@aL _ _ _ _ _ (@bR _ _ 3 _ _ _ _ gg.nd rfl (by walk_at "o") (@aw _ _ _ _ (@ao _ _ _ _ _ (@af _ _ _ _) (@ao _ _ _ _ _ (@af _ _ _ _) (@ao _ _ _ _ _ (@af _ _ _ _) (@ao _ _ _ _ _ (@ag _ _ _ _ _ _ _ _ bW (@af _ _ _ _) (@pv _ 1 _ _ (by kernel_rfl))) (@ao _ _ _ _ _ (@ag _ _ _ _ _ _ _ _ bW (@ag _ _ _ _ _ _ _ _ bW (@af _ _ _ _) (@pv _ 1 _ _ (by kernel_rfl))) (@af _ _ _ _)) (@ao _ _ _ _ _ (@ag _ _ _ _ _ _ _ _ bW (@ag _ _ _ _ _ _ _ _ bW (@af _ _ _ _) (@pv _ 1 _ _ (by kernel_rfl))) (@af _ _ _ _)) (@aa _) (by rfl)) (by rfl)) (by rfl)) (by rfl)) (by rfl)) (by rfl))) (by rfl) (by walk_at "q")) (@cJ _ _ _ (oM 6) (@aL _ _ _ _ _ (@bR _ _ 3 _ _ _ _ gg.nd rfl (by walk_at "o") (@ag _ _ _ _ _ _ _ _ (cM (K:=K) rfl) (@pv _ 3 _ _ (by kernel_rfl)) (@aw _ _ _ _ (@ao _ _ _ _ _ (@af _ _ _ _) (@ao _ _ _ _ _ (@af _ _ _ _) (@ao _ _ _ _ _ (@ag _ _ _ _ _ _ _ _ bW (@ag _ _ _ _ _ _ _ _ bW (@af _ _ _ _) (@pv _ 1 _ _ (by kernel_rfl))) (@af _ _ _ _)) (@ao _ _ _ _ _ (@ag _ _ _ _ _ _ _ _ bW (@ag _ _ _ _ _ _ _ _ bW (@af _ _ _ _) (@pv _ 1 _ _ (by kernel_rfl))) (@af _ _ _ _)) (@aa _) (by rfl)) (by rfl)) (by rfl)) (by rfl)))) (by rfl) (by walk_at "q")) (@cJ _ _ _ (oM 10) (@aL _ _ _ _ _ (@bR _ _ 3 _ _ _ _ gg.nd rfl (by walk_at "o") (@ag _ _ _ _ _ _ _ _ (cM (K:=K) rfl) (@pv _ 3 _ _ (by kernel_rfl)) (@aw _ _ _ _ (@ao _ _ _ _ _ (@ag _ _ _ _ _ _ _ _ bW (@ag _ _ _ _ _ _ _ _ bW (@af _ _ _ _) (@pv _ 1 _ _ (by kernel_rfl))) (@af _ _ _ _)) (@ao _ _ _ _ _ (@ag _ _ _ _ _ _ _ _ bW (@ag _ _ _ _ _ _ _ _ bW (@af _ _ _ _) (@pv _ 1 _ _ (by kernel_rfl))) (@af _ _ _ _)) (@ao _ _ _ _ _ (@ag _ _ _ _ _ _ _ _ bW (@ag _ _ _ _ _ _ _ _ bW (@af _ _ _ _) (@pv _ 2 _ _ (by kernel_rfl))) (@af _ _ _ _)) (@aa _) (by rfl)) (by rfl)) (by rfl)))) (by rfl) (by walk_at "q")) (@cJ _ _ _ (oM 13) (@aL _ _ _ _ _ (@bR _ _ 3 _ _ _ _ gg.nd rfl (by walk_at "o") (@ag _ _ _ _ _ _ _ _ (cM (K:=K) rfl) (@pv _ 3 _ _ (by kernel_rfl)) (@aw _ _ _ _ (@ao _ _ _ _ _ (@ag _ _ _ _ _ _ _ _ bW (@ag _ _ _ _ _ _ _ _ bW (@af _ _ _ _) (@pv _ 1 _ _ (by kernel_rfl))) (@af _ _ _ _)) (@ao _ _ _ _ _ (@ag _ _ _ _ _ _ _ _ bW (@ag _ _ _ _ _ _ _ _ bW (@af _ _ _ _) (@pv _ 1 _ _ (by kernel_rfl))) (@af _ _ _ _)) (@ao _ _ _ _ _ (@ag _ _ _ _ _ _ _ _ bW (@ag _ _ _ _ _ _ _ _ bW (@af _ _ _ _) (@pv _ 1 _ _ (by kernel_rfl))) (@af _ _ _ _)) (@ao _ _ _ _ _ (@af _ _ _ _) (@ao _ _ _ _ _ (@af _ _ _ _) (@aa _) (by rfl)) (by rfl)) (by rfl)) (by rfl)) (by rfl)))) (by rfl) (by walk_at "q")) (@cJ _ _ _ (oM 18) (@aL _ _ _ _ _ (@bR _ _ 3 _ _ _ _ gg.nd rfl (by walk_at "o") (@ag _ _ _ _ _ _ _ _ (cM (K:=K) rfl) (@pv _ 3 _ _ (by kernel_rfl)) (@aw _ _ _ _ (@ao _ _ _ _ _ (@af _ _ _ _) (@ao _ _ _ _ _ (@af _ _ _ _) (@ao _ _ _ _ _ (@af _ _ _ _) (@ao _ _ _ _ _ (@ag _ _ _ _ _ _ _ _ bW (@af _ _ _ _) (@pv _ 2 _ _ (by kernel_rfl))) (@ao _ _ _ _ _ (@ag _ _ _ _ _ _ _ _ bW (@ag _ _ _ _ _ _ _ _ bW (@ag _ _ _ _ _ _ _ _ bW (@af _ _ _ _) (@pv _ 1 _ _ (by kernel_rfl))) (@af _ _ _ _)) (@pv _ 1 _ _ (by kernel_rfl))) (@ao _ _ _ _ _ (@ag _ _ _ _ _ _ _ _ bW (@ag _ _ _ _ _ _ _ _ bW (@af _ _ _ _) (@pv _ 1 _ _ (by kernel_rfl))) (@af _ _ _ _)) (@aa _) (by rfl)) (by rfl)) (by rfl)) (by rfl)) (by rfl)) (by rfl)))) (by rfl) (by walk_at "q")) (@cJ _ _ _ (oM 24) (@aL _ _ _ _ _ (@bR _ _ 3 _ _ _ _ gg.nd rfl (by walk_at "o") (@ag _ _ _ _ _ _ _ _ (cM (K:=K) rfl) (@pv _ 3 _ _ (by kernel_rfl)) (@aw _ _ _ _ (@ao _ _ _ _ _ (@af _ _ _ _) (@ao _ _ _ _ _ (@ag _ _ _ _ _ _ _ _ bW (@af _ _ _ _) (@pv _ 1 _ _ (by kernel_rfl))) (@ao _ _ _ _ _ (@ag _ _ _ _ _ _ _ _ bW (@af _ _ _ _) (@pv _ 1 _ _ (by kernel_rfl))) (@ao _ _ _ _ _ (@pv _ 1 _ _ (by kernel_rfl)) (@ao _ _ _ _ _ (@ag _ _ _ _ _ _ _ _ bW (@af _ _ _ _) (@pv _ 1 _ _ (by kernel_rfl))) (@ao _ _ _ _ _ (@af _ _ _ _) (@ao _ _ _ _ _ (@af _ _ _ _) (@ao _ _ _ _ _ (@af _ _ _ _) (@ao _ _ _ _ _ (@af _ _ _ _) (@aa _) (by rfl)) (by rfl)) (by rfl)) (by rfl)) (by rfl)) (by rfl)) (by rfl)) (by rfl)) (by rfl)))) (by rfl) (by walk_at "q")) (@cJ _ _ _ (oM 33) (@bE _ _ _ (@au _ _ _ _ (@bH _ _ _ _ _ _ _ (dv (K:=K) rfl) (@pv _ 3 _ _ (by kernel_rfl)) (@ag _ _ _ _ _ _ _ _ aG (@pv _ 0 _ _ (by kernel_rfl)) (@dh _ _ _ _ _ _ _ _ _ (e7 (K:=K) rfl) (by rfl) T.cF bZ (@ao _ _ _ _ _ (@pv _ 3 _ _ (by kernel_rfl)) (@aa _) (by rfl)) (by decide) (by decide) (by rfl) (by rfl))) (λ_ _=>rfl)))) ?omR)) ?om4)) ?om3)) ?om2)) ?om1)) ?om0))),?main⟩
  case main=>
   walk_at "rd";walk_at "9";walk_at "10";walk_at "11";have ll:=bP ln;exact⟨cD ln (show(Str.ofString "abcdefghijklmnopq").length<=17 by decide +kernel) (by decide),cD (show(Str.ofString "fill whole ").length<=11 by decide +kernel) ln (by decide),cD (show(Str.ofString "fill wide ").length<=10 by decide +kernel) ln (by decide),cD (cH (show(Str.ofString "fill wide ").length<=10 by decide +kernel) ln) (show(Str.ofString " 0").length<=2 by decide +kernel) (by decide),cD (show(Str.ofString "fill Near ").length<=10 by decide +kernel) ln (by decide),cD (cH (show(Str.ofString "fill Near ").length<=10 by decide +kernel) ln) (show(Str.ofString " 0").length<=2 by decide +kernel) (by decide),by walk_at "s", λp hp=>⟨H,n,nm,p,[Str.ofString "fill", Str.ofString "soft", Str.ofString "fill whole", (Str.ofString "fill whole " ++ nm),((Str.ofString "fill wide " ++ nm)++Str.ofString " 0"),((Str.ofString "fill Near " ++ nm)++Str.ofString " 0")],rfl,hnm,by rw[aE];rfl,by simp,by simp,(bG (aP (by decide +kernel))
    (bG (aP (by decide +kernel))
    (bG (aP (by decide +kernel))
    (bG (cn (ps:=[Str.ofString "fill", Str.ofString "whole", nm]) (a9 (show Txt.split (Str.ofString "fill whole ") (Str.ofString " ")=[Str.ofString "fill", Str.ofString "whole", Str.ofString ""] by decide +kernel) (aZ hn) (by simp only[glue,bc,bh])) (by simp) (bg (aI (by decide +kernel)) (bg (aI (by decide +kernel)) (bg hn aJ))) (λS=>d_ ⟨by simp,by simp⟩))
    (bG (cn (ps:=[Str.ofString "fill", Str.ofString "wide", nm,Str.ofString "0"]) (a9 (a9 (ws:=[Str.ofString "fill", Str.ofString "wide", nm]) (show Txt.split (Str.ofString "fill wide ") (Str.ofString " ")=[Str.ofString "fill", Str.ofString "wide", Str.ofString ""] by decide +kernel) (aZ hn) (by simp only[glue,bc,bh])) (show Txt.split (Str.ofString " 0") (Str.ofString " ")=[Str.ofString "", Str.ofString "0"] by decide +kernel) (by simp only[glue,bc,bh])) (by simp) (bg (aI (by decide +kernel)) (bg (aI (by decide +kernel)) (bg hn (bg (aI (by decide +kernel)) aJ)))) (λS=>.fill (.inl rfl) (.inr (.inr (.inl (by decide +kernel))))))
    (bG (cn (ps:=[Str.ofString "fill", Str.ofString "Near", nm,Str.ofString "0"]) (a9 (a9 (ws:=[Str.ofString "fill", Str.ofString "Near", nm]) (show Txt.split (Str.ofString "fill Near ") (Str.ofString " ")=[Str.ofString "fill", Str.ofString "Near", Str.ofString ""] by decide +kernel) (aZ hn) (by simp only[glue,bc,bh])) (show Txt.split (Str.ofString " 0") (Str.ofString " ")=[Str.ofString "", Str.ofString "0"] by decide +kernel) (by simp only[glue,bc,bh])) (by simp) (bg (aI (by decide +kernel)) (bg (aI (by decide +kernel)) (bg hn (bg (aI (by decide +kernel)) aJ)))) (λS=>.fill (.inl rfl) (.inr (.inr (.inl (by decide +kernel))))))
    (ck _))))))),aO hp,k⟩⟩
  case om0=>
   walk_at "13";walk_at "rd";walk_at "9";walk_at "10";walk_at "11";have ll:=bP ln;exact⟨cD (show(Str.ofString "fill low ").length<=9 by decide +kernel) ln (by decide),cD (cH (show(Str.ofString "fill low ").length<=9 by decide +kernel) ln) (show(Str.ofString "  1").length<=3 by decide +kernel) (by decide),cD (show(Str.ofString "fill low ").length<=9 by decide +kernel) ln (by decide),cD (cH (show(Str.ofString "fill low ").length<=9 by decide +kernel) ln) (show(Str.ofString " 1 ").length<=3 by decide +kernel) (by decide),by walk_at "s", λp1 h1=>⟨_,aC.of (aO h1 _ _ O.1),_,aC.of aE,by rw[sizeLine_eq,aQ];have:=O.2.2.1;show zs.length+4<=_;omega,λp2 h2=>⟨H0,n,nm,p2,_,rfl,hnm,iw (ys:=[Str.ofString "fill high A 0", Str.ofString "fill low 0a 1", ((Str.ofString "fill low " ++ nm)++Str.ofString "  1"),((Str.ofString "fill low " ++ nm)++Str.ofString " 1 ")]) O h1 h2 (bG (aP (by decide +kernel))
    (bG (aP (by decide +kernel))
    (bG (tT (ps:=[Str.ofString "fill", Str.ofString "low", nm,Str.ofString "", Str.ofString "1"]) 120 (a9 (a9 (ws:=[Str.ofString "fill", Str.ofString "low", nm]) (show Txt.split (Str.ofString "fill low ") (Str.ofString " ")=[Str.ofString "fill", Str.ofString "low", Str.ofString ""] by decide +kernel) (aZ hn) (by simp only[glue,bc,bh])) (show Txt.split (Str.ofString "  1") (Str.ofString " ")=[Str.ofString "", Str.ofString "", Str.ofString "1"] by decide +kernel) (by simp only[glue,bc,bh])) (by simp) (by simp only[List.forall_mem_cons];exact⟨Nat.le_trans (show(Str.ofString "fill").length<=4 by decide +kernel) (by decide),dy (show(Str.ofString "low").length<=3 by decide +kernel) (by decide),dy ln (by decide),dy (show(Str.ofString "").length<=0 by decide +kernel) (by decide),dy (show(Str.ofString "1").length<=1 by decide +kernel) (by decide),λp hp=>by cases hp⟩) (bg (aI (by decide +kernel)) (bg (aI (by decide +kernel)) (bg hn (bg (aI (by decide +kernel)) (bg (aI (by decide +kernel)) aJ))))) (λS=>d_ ⟨by simp,by simp⟩))
    (bG (tT (ps:=[Str.ofString "fill", Str.ofString "low", nm,Str.ofString "1", Str.ofString ""]) 120 (a9 (a9 (ws:=[Str.ofString "fill", Str.ofString "low", nm]) (show Txt.split (Str.ofString "fill low ") (Str.ofString " ")=[Str.ofString "fill", Str.ofString "low", Str.ofString ""] by decide +kernel) (aZ hn) (by simp only[glue,bc,bh])) (show Txt.split (Str.ofString " 1 ") (Str.ofString " ")=[Str.ofString "", Str.ofString "1", Str.ofString ""] by decide +kernel) (by simp only[glue,bc,bh])) (by simp) (by simp only[List.forall_mem_cons];exact⟨Nat.le_trans (show(Str.ofString "fill").length<=4 by decide +kernel) (by decide),dy (show(Str.ofString "low").length<=3 by decide +kernel) (by decide),dy ln (by decide),dy (show(Str.ofString "1").length<=1 by decide +kernel) (by decide),dy (show(Str.ofString "").length<=0 by decide +kernel) (by decide),λp hp=>by cases hp⟩) (bg (aI (by decide +kernel)) (bg (aI (by decide +kernel)) (bg hn (bg (aI (by decide +kernel)) (bg (aI (by decide +kernel)) aJ))))) (λS=>d_ ⟨by simp,by simp⟩))
    (ck _))))) (by simp)⟩⟩⟩
  case om1=>
   walk_at "13";walk_at "rd";walk_at "9";walk_at "10";walk_at "11";have ll:=bP ln
   exact⟨cD (show(Str.ofString "soft near ").length<=10 by decide +kernel) ln (by decide),cD (cH (show(Str.ofString "soft near ").length<=10 by decide +kernel) ln) (show(Str.ofString " 0").length<=2 by decide +kernel) (by decide),cD (show(Str.ofString "soft split ").length<=11 by decide +kernel) ln (by decide),cD (cH (show(Str.ofString "soft split ").length<=11 by decide +kernel) ln) (show(Str.ofString " -1").length<=3 by decide +kernel) (by decide),cD (show(Str.ofString "soft whole ").length<=11 by decide +kernel) ll (by decide),cD (cH (show(Str.ofString "soft whole ").length<=11 by decide +kernel) ll) (show(Str.ofString " 0").length<=2 by decide +kernel) (by decide),by walk_at "s", λp1 h1=>⟨_,aC.of (aO h1 _ _ O.1),_,aC.of aE,by rw[sizeLine_eq,aQ];have:=O.2.2.1;show zs.length+3<=_;omega,λp2 h2=>⟨H0,n,nm,p2,_,rfl,hnm,iw (ys:=[((Str.ofString "soft near " ++ nm)++Str.ofString " 0"),((Str.ofString "soft split " ++ nm)++Str.ofString " -1"),((Str.ofString "soft whole " ++ (nm++Str.ofString "abcdefghijklmnopq"))++Str.ofString " 0")]) O h1 h2 (bG (cn (ps:=[Str.ofString "soft", Str.ofString "near", nm,Str.ofString "0"]) (a9 (a9 (ws:=[Str.ofString "soft", Str.ofString "near", nm]) (show Txt.split (Str.ofString "soft near ") (Str.ofString " ")=[Str.ofString "soft", Str.ofString "near", Str.ofString ""] by decide +kernel) (aZ hn) (by simp only[glue,bc,bh])) (show Txt.split (Str.ofString " 0") (Str.ofString " ")=[Str.ofString "", Str.ofString "0"] by decide +kernel) (by simp only[glue,bc,bh])) (by simp) (bg (aI (by decide +kernel)) (bg (aI (by decide +kernel)) (bg hn (bg (aI (by decide +kernel)) aJ)))) (λS=>.fill (.inr rfl) (.inr (.inr (.inr (.inr ⟨by decide +kernel,.inl rfl⟩))))))
    (bG (cn (ps:=[Str.ofString "soft", Str.ofString "split", nm,Str.ofString "-1"]) (a9 (a9 (ws:=[Str.ofString "soft", Str.ofString "split", nm]) (show Txt.split (Str.ofString "soft split ") (Str.ofString " ")=[Str.ofString "soft", Str.ofString "split", Str.ofString ""] by decide +kernel) (aZ hn) (by simp only[glue,bc,bh])) (show Txt.split (Str.ofString " -1") (Str.ofString " ")=[Str.ofString "", Str.ofString "-1"] by decide +kernel) (by simp only[glue,bc,bh])) (by simp) (bg (aI (by decide +kernel)) (bg (aI (by decide +kernel)) (bg hn (bg (aI (by decide +kernel)) aJ)))) (λS=>.fill (.inr rfl) (.inr (.inr (.inr (.inr ⟨by decide +kernel,.inr rfl⟩))))))
    (bG (cn (ps:=[Str.ofString "soft", Str.ofString "whole", (nm++Str.ofString "abcdefghijklmnopq"),Str.ofString "0"]) (a9 (a9 (ws:=[Str.ofString "soft", Str.ofString "whole", (nm++Str.ofString "abcdefghijklmnopq")]) (show Txt.split (Str.ofString "soft whole ") (Str.ofString " ")=[Str.ofString "soft", Str.ofString "whole", Str.ofString ""] by decide +kernel) (aZ hg.1) (by simp only[glue,bc,bh])) (show Txt.split (Str.ofString " 0") (Str.ofString " ")=[Str.ofString "", Str.ofString "0"] by decide +kernel) (by simp only[glue,bc,bh])) (by simp) (bg (aI (by decide +kernel)) (bg (aI (by decide +kernel)) (bg hg.1 (bg (aI (by decide +kernel)) aJ)))) (λS=>.fill (.inr rfl) (.inr (.inr (.inr (.inl hg.2))))))
    (ck _)))) (by simp)⟩⟩⟩
  case om2=>
   walk_at "13";walk_at "rd";walk_at "9";walk_at "10";walk_at "11";have ll:=bP ln
   exact⟨cD (show(Str.ofString "soft whole ").length<=11 by decide +kernel) ln (by decide),cD (cH (show(Str.ofString "soft whole ").length<=11 by decide +kernel) ln) (show(Str.ofString " -0").length<=3 by decide +kernel) (by decide),cD (show(Str.ofString "fill whole ").length<=11 by decide +kernel) ln (by decide),cD (cH (show(Str.ofString "fill whole ").length<=11 by decide +kernel) ln) (show(Str.ofString " 1 1").length<=4 by decide +kernel) (by decide),cD (show(Str.ofString "fill ").length<=5 by decide +kernel) ln (by decide),cD (cH (show(Str.ofString "fill ").length<=5 by decide +kernel) ln) (show(Str.ofString " 1").length<=2 by decide +kernel) (by decide),by walk_at "s", λp1 h1=>⟨_,aC.of (aO h1 _ _ O.1),_,aC.of aE,by rw[sizeLine_eq,aQ];have:=O.2.2.1;show zs.length+5<=_;omega,λp2 h2=>⟨H0,n,nm,p2,_,rfl,hnm,iw (ys:=[((Str.ofString "soft whole " ++ nm)++Str.ofString " -0"),((Str.ofString "fill whole " ++ nm)++Str.ofString " 1 1"),((Str.ofString "fill " ++ nm)++Str.ofString " 1"),Str.ofString "tell", Str.ofString "tell "]) O h1 h2 (bG (cn (ps:=[Str.ofString "soft", Str.ofString "whole", nm,Str.ofString "-0"]) (a9 (a9 (ws:=[Str.ofString "soft", Str.ofString "whole", nm]) (show Txt.split (Str.ofString "soft whole ") (Str.ofString " ")=[Str.ofString "soft", Str.ofString "whole", Str.ofString ""] by decide +kernel) (aZ hn) (by simp only[glue,bc,bh])) (show Txt.split (Str.ofString " -0") (Str.ofString " ")=[Str.ofString "", Str.ofString "-0"] by decide +kernel) (by simp only[glue,bc,bh])) (by simp) (bg (aI (by decide +kernel)) (bg (aI (by decide +kernel)) (bg hn (bg (aI (by decide +kernel)) aJ)))) (λS=>.fill (.inr rfl) (.inr (.inl (by decide +kernel)))))
    (bG (tT (ps:=[Str.ofString "fill", Str.ofString "whole", nm,Str.ofString "1", Str.ofString "1"]) 120 (a9 (a9 (ws:=[Str.ofString "fill", Str.ofString "whole", nm]) (show Txt.split (Str.ofString "fill whole ") (Str.ofString " ")=[Str.ofString "fill", Str.ofString "whole", Str.ofString ""] by decide +kernel) (aZ hn) (by simp only[glue,bc,bh])) (show Txt.split (Str.ofString " 1 1") (Str.ofString " ")=[Str.ofString "", Str.ofString "1", Str.ofString "1"] by decide +kernel) (by simp only[glue,bc,bh])) (by simp) (by simp only[List.forall_mem_cons];exact⟨Nat.le_trans (show(Str.ofString "fill").length<=4 by decide +kernel) (by decide),dy (show(Str.ofString "whole").length<=5 by decide +kernel) (by decide),dy ln (by decide),dy (show(Str.ofString "1").length<=1 by decide +kernel) (by decide),dy (show(Str.ofString "1").length<=1 by decide +kernel) (by decide),λp hp=>by cases hp⟩) (bg (aI (by decide +kernel)) (bg (aI (by decide +kernel)) (bg hn (bg (aI (by decide +kernel)) (bg (aI (by decide +kernel)) aJ))))) (λS=>d_ ⟨by simp,by simp⟩))
    (bG (cn (ps:=[Str.ofString "fill", nm,Str.ofString "1"]) (a9 (a9 (ws:=[Str.ofString "fill", nm]) (show Txt.split (Str.ofString "fill ") (Str.ofString " ")=[Str.ofString "fill", Str.ofString ""] by decide +kernel) (aZ hn) (by simp only[glue,bc,bh])) (show Txt.split (Str.ofString " 1") (Str.ofString " ")=[Str.ofString "", Str.ofString "1"] by decide +kernel) (by simp only[glue,bc,bh])) (by simp) (bg (aI (by decide +kernel)) (bg hn (bg (aI (by decide +kernel)) aJ))) (λS=>d_ ⟨by simp,by simp⟩))
    (bG (aP (by decide +kernel))
    (bG (aP (by decide +kernel))
    (ck _)))))) (by simp)⟩⟩⟩
  case om3=>
   walk_at "13";walk_at "rd";walk_at "9";walk_at "10";walk_at "11";have ll:=bP ln;exact⟨cD (show(Str.ofString "tell ").length<=5 by decide +kernel) ll (by decide),cD (show(Str.ofString "weak ").length<=5 by decide +kernel) ln (by decide),cD (cH (show(Str.ofString "weak ").length<=5 by decide +kernel) ln) (show(Str.ofString " ").length<=1 by decide +kernel) (by decide),cD (cH (cH (show(Str.ofString "weak ").length<=5 by decide +kernel) ln) (show(Str.ofString " ").length<=1 by decide +kernel)) ln (by decide),cD (show(Str.ofString "own ").length<=4 by decide +kernel) ln (by decide),cD (cH (show(Str.ofString "own ").length<=4 by decide +kernel) ln) (show(Str.ofString " ").length<=1 by decide +kernel) (by decide),by walk_at "s", λp1 h1=>⟨_,aC.of (aO h1 _ _ O.1),_,aC.of aE,by rw[sizeLine_eq,aQ];have:=O.2.2.1;show zs.length+6<=_;omega,λp2 h2=>⟨H0,n,nm,p2,_,rfl,hnm,iw (ys:=[Str.ofString "tell A", Str.ofString "weak 1a", Str.ofString "own _a", (Str.ofString "tell " ++ (nm++Str.ofString "abcdefghijklmnopq")),(((Str.ofString "weak " ++ nm)++Str.ofString " ")++nm),((Str.ofString "own " ++ nm)++Str.ofString " ")]) O h1 h2 (bG (aP (by decide +kernel))
    (bG (aP (by decide +kernel))
    (bG (aP (by decide +kernel))
    (bG (cn (ps:=[Str.ofString "tell", (nm++Str.ofString "abcdefghijklmnopq")]) (a9 (show Txt.split (Str.ofString "tell ") (Str.ofString " ")=[Str.ofString "tell", Str.ofString ""] by decide +kernel) (aZ hg.1) (by simp only[glue,bc,bh])) (by simp) (bg (aI (by decide +kernel)) (bg hg.1 aJ)) (λS=>.told (.inl rfl) (.inr hg.2)))
    (bG (cn (ps:=[Str.ofString "weak", nm,nm]) (a9 (a9 (ws:=[Str.ofString "weak", nm,Str.ofString ""]) (a9 (ws:=[Str.ofString "weak", nm]) (show Txt.split (Str.ofString "weak ") (Str.ofString " ")=[Str.ofString "weak", Str.ofString ""] by decide +kernel) (aZ hn) (by simp only[glue,bc,bh])) (show Txt.split (Str.ofString " ") (Str.ofString " ")=[Str.ofString "", Str.ofString ""] by decide +kernel) (by simp only[glue,bc,bh])) (aZ hn) (by simp only[glue,bc,bh])) (by simp) (bg (aI (by decide +kernel)) (bg hn (bg hn aJ))) (λS=>d_ ⟨by simp,by simp⟩))
    (bG (cn (ps:=[Str.ofString "own", nm,Str.ofString ""]) (a9 (a9 (ws:=[Str.ofString "own", nm]) (show Txt.split (Str.ofString "own ") (Str.ofString " ")=[Str.ofString "own", Str.ofString ""] by decide +kernel) (aZ hn) (by simp only[glue,bc,bh])) (show Txt.split (Str.ofString " ") (Str.ofString " ")=[Str.ofString "", Str.ofString ""] by decide +kernel) (by simp only[glue,bc,bh])) (by simp) (bg (aI (by decide +kernel)) (bg hn (bg (aI (by decide +kernel)) aJ))) (λS=>d_ ⟨by simp,by simp⟩))
    (ck _))))))) (by simp)⟩⟩⟩
  case om4=>
   walk_at "13";walk_at "rd";walk_at "9";walk_at "10";walk_at "11";have ll:=bP ln;exact⟨cD (show(Str.ofString "Tell ").length<=5 by decide +kernel) ln (by decide),cD (show(Str.ofString "told ").length<=5 by decide +kernel) ln (by decide),cD (show(Str.ofString "tell  ").length<=6 by decide +kernel) ln (by decide),by walk_at "s", λp1 h1=>⟨_,aC.of (aO h1 _ _ O.1),_,aC.of aE,by rw[sizeLine_eq,aQ];have:=O.2.2.1;show zs.length+9<=_;omega,λp2 h2=>⟨H0,n,nm,p2,_,rfl,hnm,iw (ys:=[Str.ofString "own a-b", (Str.ofString "Tell " ++ nm),(Str.ofString "told " ++ nm),nm,(Str.ofString "tell  " ++ nm),Str.ofString "weak", Str.ofString "own", Str.ofString "piece", Str.ofString "-"]) O h1 h2 (bG (aP (by decide +kernel))
    (bG (cn (ps:=[Str.ofString "Tell", nm]) (a9 (show Txt.split (Str.ofString "Tell ") (Str.ofString " ")=[Str.ofString "Tell", Str.ofString ""] by decide +kernel) (aZ hn) (by simp only[glue,bc,bh])) (by simp) (bg (aI (by decide +kernel)) (bg hn aJ)) (λS=>SK 2 (by decide +kernel) rfl))
    (bG (cn (ps:=[Str.ofString "told", nm]) (a9 (show Txt.split (Str.ofString "told ") (Str.ofString " ")=[Str.ofString "told", Str.ofString ""] by decide +kernel) (aZ hn) (by simp only[glue,bc,bh])) (by simp) (bg (aI (by decide +kernel)) (bg hn aJ)) (λS=>SK 2 (by decide +kernel) rfl))
    (bG (cn (ps:=[nm]) (aZ hn) (by simp) (bg hn aJ) (λS=>d_ ⟨by simp,by simp⟩))
    (bG (cn (ps:=[Str.ofString "tell", Str.ofString "", nm]) (a9 (show Txt.split (Str.ofString "tell  ") (Str.ofString " ")=[Str.ofString "tell", Str.ofString "", Str.ofString ""] by decide +kernel) (aZ hn) (by simp only[glue,bc,bh])) (by simp) (bg (aI (by decide +kernel)) (bg (aI (by decide +kernel)) (bg hn aJ))) (λS=>d_ ⟨by simp,by simp⟩))
    (bG (aP (by decide +kernel))
    (bG (aP (by decide +kernel))
    (bG (aP (by decide +kernel))
    (bG (aP (by decide +kernel))
    (ck _)))))))))) (by simp)⟩⟩⟩
  case omR=>
   walk_at "13";walk_at "rd";obtain⟨e1,e2,z,e3,e4⟩:=kQ O (by decide) n;exact⟨zs.length,.inl ⟨_,aC.of O.1,by rw[aQ]⟩,e2,_,aC.of O.1,_,e3,e4⟩
theorem OG(T:Txt w K mg A):bo P w K mg base eI 1 A.NX A.o5 ["_law_number", "_law_name"] zX:=by
 refine T.yg.ok o_ (λvs H Q E h=>?_) (λcdv Ar outer s H vs Q E hr h=>?_)
 ·obtain⟨n,nm,rfl,_⟩:=h;rfl
 ·obtain⟨n,nm,rfl,n0,n1,hnm,k⟩:=h
  refine⟨_,(@aL _ _ _ _ _ (@bR _ _ 2 _ _ _ _ o_.nd rfl (by walk_at "o") (@aw _ _ _ _ (@ao _ _ _ _ _ (@af _ _ _ _) (@ao _ _ _ _ _ (@af _ _ _ _) (@ao _ _ _ _ _ (@af _ _ _ _) (@ao _ _ _ _ _ (@af _ _ _ _) (@ao _ _ _ _ _ (@af _ _ _ _) (@ao _ _ _ _ _ (@af _ _ _ _) (@ao _ _ _ _ _ (@ag _ _ _ _ _ _ _ _ bW (@af _ _ _ _) (@pv _ 1 _ _ (by kernel_rfl))) (@aa _) (by rfl)) (by rfl)) (by rfl)) (by rfl)) (by rfl)) (by rfl)) (by rfl))) (by rfl) (by walk_at "q")) (@cJ _ _ _ (oF 7) (@aL _ _ _ _ _ (@bR _ _ 2 _ _ _ _ o_.nd rfl (by walk_at "o") (@ag _ _ _ _ _ _ _ _ (cM (K:=K) rfl) (@pv _ 2 _ _ (by kernel_rfl)) (@aw _ _ _ _ (@ao _ _ _ _ _ (@ag _ _ _ _ _ _ _ _ bW (@ag _ _ _ _ _ _ _ _ bW (@af _ _ _ _) (@pv _ 1 _ _ (by kernel_rfl))) (@af _ _ _ _)) (@ao _ _ _ _ _ (@ag _ _ _ _ _ _ _ _ bW (@ag _ _ _ _ _ _ _ _ bW (@ag _ _ _ _ _ _ _ _ bW (@af _ _ _ _) (@pv _ 1 _ _ (by kernel_rfl))) (@af _ _ _ _)) (@pv _ 1 _ _ (by kernel_rfl))) (@ao _ _ _ _ _ (@ag _ _ _ _ _ _ _ _ bW (@af _ _ _ _) (@pv _ 1 _ _ (by kernel_rfl))) (@ao _ _ _ _ _ (@ag _ _ _ _ _ _ _ _ bW (@af _ _ _ _) (@pv _ 1 _ _ (by kernel_rfl))) (@ao _ _ _ _ _ (@af _ _ _ _) (@aa _) (by rfl)) (by rfl)) (by rfl)) (by rfl)) (by rfl)))) (by rfl) (by walk_at "q")) (@cJ _ _ _ (oF 12) (@aL _ _ _ _ _ (@bR _ _ 2 _ _ _ _ o_.nd rfl (by walk_at "o") (@ag _ _ _ _ _ _ _ _ (cM (K:=K) rfl) (@pv _ 2 _ _ (by kernel_rfl)) (@aw _ _ _ _ (@ao _ _ _ _ _ (@ag _ _ _ _ _ _ _ _ bW (@af _ _ _ _) (@pv _ 1 _ _ (by kernel_rfl))) (@ao _ _ _ _ _ (@pv _ 1 _ _ (by kernel_rfl)) (@ao _ _ _ _ _ (@ag _ _ _ _ _ _ _ _ bW (@af _ _ _ _) (@pv _ 1 _ _ (by kernel_rfl))) (@ao _ _ _ _ _ (@af _ _ _ _) (@ao _ _ _ _ _ (@af _ _ _ _) (@ao _ _ _ _ _ (@af _ _ _ _) (@ao _ _ _ _ _ (@af _ _ _ _) (@aa _) (by rfl)) (by rfl)) (by rfl)) (by rfl)) (by rfl)) (by rfl)) (by rfl)))) (by rfl) (by walk_at "q")) (@cJ _ _ _ (oF 19) (@bE _ _ _ (@au _ _ _ _ (@bH _ _ _ _ _ _ _ (dv (K:=K) rfl) (@pv _ 2 _ _ (by kernel_rfl)) (@ag _ _ _ _ _ _ _ _ aG (@pv _ 0 _ _ (by kernel_rfl)) (@dh _ _ _ _ _ _ _ _ _ (e7 (K:=K) rfl) (by rfl) T.cF bZ (@ao _ _ _ _ _ (@pv _ 2 _ _ (by kernel_rfl)) (@aa _) (by rfl)) (by decide) (by decide) (by rfl) (by rfl))) (λ_ _=>rfl)))) ?ofR)) ?of1)) ?of0)),?main⟩
  case main=>
   walk_at "rd";walk_at "9";walk_at "10";walk_at "11";have ll:=bP ln;exact⟨cD (show(Str.ofString "piece  ").length<=7 by decide +kernel) ln (by decide),by walk_at "s", λp hp=>⟨H,n,nm,p,[Str.ofString "piece A", Str.ofString "piece 1a", Str.ofString "piece _a", Str.ofString "piece a-b", Str.ofString "piece abcdefghijklmnopq", Str.ofString "piece ", (Str.ofString "piece  " ++ nm)],rfl,hnm,by rw[aE];rfl,by simp,by simp,(bG (d9 (by decide +kernel))
    (bG (d9 (by decide +kernel))
    (bG (d9 (by decide +kernel))
    (bG (d9 (by decide +kernel))
    (bG (d9 (by decide +kernel))
    (bG (d9 (by decide +kernel))
    (bG (cn (ps:=[Str.ofString "piece", Str.ofString "", nm]) (a9 (show Txt.split (Str.ofString "piece  ") (Str.ofString " ")=[Str.ofString "piece", Str.ofString "", Str.ofString ""] by decide +kernel) (aZ hn) (by simp only[glue,bc,bh])) (by simp) (bg (aI (by decide +kernel)) (bg (aI (by decide +kernel)) (bg hn aJ))) (d_ ⟨by simp,by simp⟩))
    (ck _)))))))),aO hp,k⟩⟩
  case of0=>
   walk_at "13";walk_at "rd";walk_at "9";walk_at "10";walk_at "11";have ll:=bP ln
   exact⟨cD (show(Str.ofString "piece ").length<=6 by decide +kernel) ln (by decide),cD (cH (show(Str.ofString "piece ").length<=6 by decide +kernel) ln) (show(Str.ofString " ").length<=1 by decide +kernel) (by decide),cD (show(Str.ofString "piece ").length<=6 by decide +kernel) ln (by decide),cD (cH (show(Str.ofString "piece ").length<=6 by decide +kernel) ln) (show(Str.ofString " ").length<=1 by decide +kernel) (by decide),cD (cH (cH (show(Str.ofString "piece ").length<=6 by decide +kernel) ln) (show(Str.ofString " ").length<=1 by decide +kernel)) ln (by decide),cD (show(Str.ofString "Piece ").length<=6 by decide +kernel) ln (by decide),cD (show(Str.ofString "pieces ").length<=7 by decide +kernel) ln (by decide),by walk_at "s", λp1 h1=>⟨_,aC.of (aO h1 _ _ O.1),_,aC.of aE,by rw[sizeLine_eq,aQ];have:=O.2.2.1;show zs.length+5<=_;omega,λp2 h2=>⟨H0,n,nm,p2,_,rfl,hnm,iw (ys:=[((Str.ofString "piece " ++ nm)++Str.ofString " "),(((Str.ofString "piece " ++ nm)++Str.ofString " ")++nm),(Str.ofString "Piece " ++ nm),(Str.ofString "pieces " ++ nm),Str.ofString "code 1"]) O h1 h2 (bG (cn (ps:=[Str.ofString "piece", nm,Str.ofString ""]) (a9 (a9 (ws:=[Str.ofString "piece", nm]) (show Txt.split (Str.ofString "piece ") (Str.ofString " ")=[Str.ofString "piece", Str.ofString ""] by decide +kernel) (aZ hn) (by simp only[glue,bc,bh])) (show Txt.split (Str.ofString " ") (Str.ofString " ")=[Str.ofString "", Str.ofString ""] by decide +kernel) (by simp only[glue,bc,bh])) (by simp) (bg (aI (by decide +kernel)) (bg hn (bg (aI (by decide +kernel)) aJ))) (d_ ⟨by simp,by simp⟩))
    (bG (cn (ps:=[Str.ofString "piece", nm,nm]) (a9 (a9 (ws:=[Str.ofString "piece", nm,Str.ofString ""]) (a9 (ws:=[Str.ofString "piece", nm]) (show Txt.split (Str.ofString "piece ") (Str.ofString " ")=[Str.ofString "piece", Str.ofString ""] by decide +kernel) (aZ hn) (by simp only[glue,bc,bh])) (show Txt.split (Str.ofString " ") (Str.ofString " ")=[Str.ofString "", Str.ofString ""] by decide +kernel) (by simp only[glue,bc,bh])) (aZ hn) (by simp only[glue,bc,bh])) (by simp) (bg (aI (by decide +kernel)) (bg hn (bg hn aJ))) (d_ ⟨by simp,by simp⟩))
    (bG (cn (ps:=[Str.ofString "Piece", nm]) (a9 (show Txt.split (Str.ofString "Piece ") (Str.ofString " ")=[Str.ofString "Piece", Str.ofString ""] by decide +kernel) (aZ hn) (by simp only[glue,bc,bh])) (by simp) (bg (aI (by decide +kernel)) (bg hn aJ)) (.first (by simp only[lN,iff_true];decide +kernel)))
    (bG (cn (ps:=[Str.ofString "pieces", nm]) (a9 (show Txt.split (Str.ofString "pieces ") (Str.ofString " ")=[Str.ofString "pieces", Str.ofString ""] by decide +kernel) (aZ hn) (by simp only[glue,bc,bh])) (by simp) (bg (aI (by decide +kernel)) (bg hn aJ)) (.first (by simp only[lN,iff_true];decide +kernel)))
    (bG (d9 (by decide +kernel))
    (ck _)))))) (by simp)⟩⟩⟩
  case of1=>
   walk_at "13";walk_at "rd";walk_at "9";walk_at "10";walk_at "11";have ll:=bP ln;exact⟨cD (show(Str.ofString " piece ").length<=7 by decide +kernel) ln (by decide),cD (show(Str.ofString "tell ").length<=5 by decide +kernel) ln (by decide),by walk_at "s", λp1 h1=>⟨_,aC.of (aO h1 _ _ O.1),_,aC.of aE,by rw[sizeLine_eq,aQ];have:=O.2.2.1;show zs.length+7<=_;omega,λp2 h2=>⟨H0,n,nm,p2,_,rfl,hnm,iw (ys:=[(Str.ofString " piece " ++ nm),nm,(Str.ofString "tell " ++ nm),Str.ofString "piece", Str.ofString "", Str.ofString "piece aB", Str.ofString "word 1"]) O h1 h2 (bG (cn (ps:=[Str.ofString "", Str.ofString "piece", nm]) (a9 (show Txt.split (Str.ofString " piece ") (Str.ofString " ")=[Str.ofString "", Str.ofString "piece", Str.ofString ""] by decide +kernel) (aZ hn) (by simp only[glue,bc,bh])) (by simp) (bg (aI (by decide +kernel)) (bg (aI (by decide +kernel)) (bg hn aJ))) (d_ ⟨by simp,by simp⟩))
    (bG (cn (ps:=[nm]) (aZ hn) (by simp) (bg hn aJ) (d_ ⟨by simp,by simp⟩))
    (bG (cn (ps:=[Str.ofString "tell", nm]) (a9 (show Txt.split (Str.ofString "tell ") (Str.ofString " ")=[Str.ofString "tell", Str.ofString ""] by decide +kernel) (aZ hn) (by simp only[glue,bc,bh])) (by simp) (bg (aI (by decide +kernel)) (bg hn aJ)) (.first (by simp only[lN,iff_true];decide +kernel)))
    (bG (d9 (by decide +kernel))
    (bG (d9 (by decide +kernel))
    (bG (d9 (by decide +kernel))
    (bG (d9 (by decide +kernel))
    (ck _)))))))) (by simp)⟩⟩⟩
  case ofR=>
   walk_at "13";walk_at "rd";obtain⟨e1,e2,z,e3,e4⟩:=kQ O (by decide) n;exact⟨zs.length,.inl ⟨_,aC.of O.1,by rw[aQ]⟩,e2,_,aC.of O.1,_,e3,e4⟩
theorem ON(T:Txt w K mg A):bo P w K mg base eI 1 A.Oc A.nO ["_law_found"] DF:=by
 refine T.yH.ok Le (λvs H Q E h=>?_) (λcdv Ar outer s H vs Q E hr h=>?_)
 ·obtain⟨c,rfl,_⟩:=h;rfl
 ·obtain⟨c,rfl,k⟩:=h;refine⟨_,(bE (au (pU (dh (mH (K:=K) rfl) (by rfl) T.bQ cI (ao (pv 0) (ao (oW rfl T.ky rj Ko) aa))) (pf (K1 (dh (mH (K:=K) rfl) (by rfl) T.bQ cI (ao (pv 0) (ao (oW rfl T.ro HD Ko) aa)))))))),?_⟩;walk_at "rd";exact⟨_,.int c,true,rfl,Lh ⟨_,.int c,false,rfl,k⟩⟩
theorem wo{xs:List V}{i:Nat}(h:i<=xs.length):dC xs none (some (i:Int))=xs.take i:=by
 unfold dC;have e:HT.sIx xs.length xs.length (some (i:Int))=i:=by rw[HT.sIx_nat];omega
 have e0:HT.sIx xs.length 0 none=0:=rfl;rw[e,e0,List.drop_zero,Nat.sub_zero]
theorem kF{xs:List V}{i:Nat}(h:i<=xs.length):dC xs (some (i:Int)) none=xs.drop i:=by
 unfold dC;have e:HT.sIx xs.length 0 (some (i:Int))=i:=by rw[HT.sIx_nat];omega
 have e0:HT.sIx xs.length xs.length none=xs.length:=rfl;rw[e,e0,G9 (by rw[wc];exact dn _)]
theorem Jz(T:Txt w K mg A):bo P w K mg base eI 2 A.NR A.sk ["_law_number", "_law_name"] AR:=by
 refine T.xT.ok LJ (λvs H Q E h=>?_) (λcdv Ar outer s H vs Q E hr h=>?_)
 ·obtain⟨n,nm,rfl,_⟩:=h;rfl
 ·obtain⟨n,nm,rfl,n0,n1,hnm,k⟩:=h;refine⟨_,(aL (aM (br ba (ag aG (pv 0) ah) ah (ax _)) (bE (au (pC (NY T) hr T.JP T.GC T.Gz (ao (ag eA (pv 0) ah) (ao (pv 1) aa))))) bD) (bE (au (pC (NL T) hr T.Js T.CD T.BH (ao (ag eA (pv 0) ah) (ao (pv 1) aa)))))),?main⟩;walk_at "rd";refine⟨by decide,?_⟩;have h:Nu n 2/\0<=n/2/\n/2<=2147483647/\isNm nm=true/\∀(z:Str) (H':Hp),aA H H'->Ab z->Q (V.str z) H':=⟨⟨by decide,by decide⟩,by omega,by omega,hnm,k⟩
  split<;>exact h
theorem TF{a b:Str}(h:a.length=4):Txt.slice (a++b) none (some 4)=a:=by
 have hl:4<=(a++b).length:=by rw[aH];omega
 have ha:a.cps.toList.length=4:=by rw[gX];exact h
 refine wQ ?_;rw[beq_iff_eq.mp (PyProof.Rows.slice_closes_toL (x:=a++b) (j:=4) (by decide) (by omega)),show(a++b).cps=a.cps++b.cps from rfl,AY];show List.take 4 (a.cps.toList++b.cps.toList)=_;rw[RW (by omega),G9 (by omega)]
theorem Ju{S:RP}{r:aq}(t:S.dw r):(∃so nm,r=.told so nm/\bN so/\isNm nm=true)\/∃q∈[("piec", "e"),("code", " "),("data", " "),("word", " "),("fill", " "),("soft", " ")],∃z,ak r=Str.ofString q.1++(Str.ofString q.2++z):=by
 cases r with
 |told so nm=>exact .inl ⟨so,nm,rfl,t.2.2.1,t.2.2.2.1⟩
 |aV nm=>
  refine .inr ⟨_,.head _,Str.ofString " " ++ nm,?_⟩;rw[dU,show Str.ofString "piece " = Str.ofString "piec" ++ (Str.ofString "e" ++ Str.ofString " ") by decide +kernel];simp only[Str.append_assoc]
 |st kd s=>
  rcases t.2.1 with rfl|rfl
  ·exact .inr ⟨_,.tail _ (.head _),nS s,by rw[gx,Str.append_assoc]⟩
  ·exact .inr ⟨_,.tail _ (.tail _ (.head _)),nS s,by rw[gx,Str.append_assoc]⟩
 |word n=>
  refine .inr ⟨_,.tail _ (.tail _ (.tail _ (.head _))),nS n,?_⟩;rw[eZ,show Str.ofString "word " = Str.ofString "word" ++ Str.ofString " " by decide +kernel,Str.append_assoc]
 |fill soft ru nm add=>
  have e:ak (.fill soft ru nm add)=(if soft=true then Str.ofString "soft" else Str.ofString "fill")++(Str.ofString " " ++ (ru++Str.ofString " " ++ (nm++Str.ofString " " ++ nS add))):=by
   unfold ak;rw[b_,<-Str.append_assoc];cases soft<;>rfl
  cases soft
  ·exact .inr ⟨_,.tail _ (.tail _ (.tail _ (.tail _ (.head _)))),_,e⟩
  ·exact .inr ⟨_,.tail _ (.tail _ (.tail _ (.tail _ (.tail _ (.head _))))),_,e⟩
theorem vn{S:RP}{r:aq}(t:S.dw r):Txt.slice (ak r) none (some 5)=Str.ofString "word " ↔ ∃n,r=.word n:=by
 have own:∀so nm,bN so->isNm nm=true->Txt.slice (ak (.told so nm)) none (some 5)≠Str.ofString "word " := λso nm hs hn e=>by
  have l1:(ak (.told so nm)).cps.toList=so.cps.toList++(32::nm.cps.toList):=by
   rw[c8,iM];show(so.cps++#[32]++nm.cps).toList=_;simp
  have nl:1<=nm.length:=by
   unfold isNm at hn;simp only[Bool.and_eq_true,decide_eq_true_eq]at hn;exact hn.1.1.1
  have ln:nm.cps.toList.length=nm.length:=gX _;have ll:5<=(ak (.told so nm)).length:=by
   rw[<-gX,l1,cL,jd];rcases hs with rfl|rfl|rfl<;>(simp only[gX];first|(have:(Str.ofString "tell").length=4:=by decide +kernel);omega|(have:(Str.ofString "weak").length=4:=by decide +kernel);omega|(have:(Str.ofString "own").length=3:=by decide +kernel);omega)
  have e2:(Txt.slice (ak (.told so nm)) none (some 5)).cps.toList=List.take 5 (ak (.told so nm)).cps.toList:=by
   rw[beq_iff_eq.mp (PyProof.Rows.slice_closes_toL (x:=ak (.told so nm)) (j:=5) (by decide) (by omega))];rfl
  rw[e,l1]at e2;have e3:(Str.ofString "word ").cps.toList=[119,111,114,100,32]:=by decide +kernel
  rw[e3]at e2;rcases hs with rfl|rfl|rfl
  ·rw[show(Str.ofString "tell").cps.toList=[116,101,108,108] by decide +kernel]at e2;simp at e2
  ·rw[show(Str.ofString "weak").cps.toList=[119,101,97,107] by decide +kernel]at e2;simp at e2
  ·rw[show(Str.ofString "own").cps.toList=[111,119,110] by decide +kernel]at e2;simp at e2
 constructor
 ·intro e;cases r with
  |word n=>exact⟨n,rfl⟩
  |told so nm=>exact absurd e (own so nm t.2.2.1 t.2.2.2.1)
  |aV nm=>
   rw[dU,show Str.ofString "piece " = Str.ofString "piece" ++ Str.ofString " " by decide +kernel,Str.append_assoc,(Ly (by decide +kernel)).1]at e;exact absurd e (by decide +kernel)
  |st kd s=>
   rcases t.2.1 with rfl|rfl
   ·rw[gx,show Str.ofString "code" ++ Str.ofString " " = Str.ofString "code " by decide +kernel,(Ly (by decide +kernel)).1]at e;exact absurd e (by decide +kernel)
   ·rw[gx,show Str.ofString "data" ++ Str.ofString " " = Str.ofString "data " by decide +kernel,(Ly (by decide +kernel)).1]at e;exact absurd e (by decide +kernel)
  |fill soft ru nm add=>
   rcases Ju t with ⟨so,nm',h,_⟩|⟨q,hq,z,h⟩
   ·cases h
   ·rw[h,<-Str.append_assoc]at e
    exfalso
    have f:ak (.fill soft ru nm add)=(if soft=true then Str.ofString "soft " else Str.ofString "fill ")++(ru++Str.ofString " " ++ (nm++Str.ofString " " ++ nS add)):=by
     unfold ak;rw[b_];cases soft
     ·show Str.ofString "fill" ++ Str.ofString " " ++ _=_;rw[show Str.ofString "fill" ++ Str.ofString " " = Str.ofString "fill " by decide +kernel];rfl
     ·show Str.ofString "soft" ++ Str.ofString " " ++ _=_;rw[show Str.ofString "soft" ++ Str.ofString " " = Str.ofString "soft " by decide +kernel];rfl
    rw[Str.append_assoc,<-h,f]at e;cases soft
    ·rw[if_neg (by decide),(Ly (by decide +kernel)).1]at e;exact absurd e (by decide +kernel)
    ·rw[if_pos rfl,(Ly (by decide +kernel)).1]at e;exact absurd e (by decide +kernel)
 ·rintro⟨n,rfl⟩;rw[eZ];exact(Ly (by decide +kernel)).1
theorem Gy{S:RP}{r:aq}(t:S.dw r)(h:Ks (.str (Txt.slice (ak r) none (some 5))) [V.str (Str.ofString "tell "),V.str (Str.ofString "weak ")]=true\/Txt.slice (ak r) none (some 4)=Str.ofString "own "):∃so nm,r=.told so nm/\bN so/\isNm nm=true:=by
 rcases Ju t with q|⟨q,hq,z,e⟩
 ·exact q
 ·exfalso
  rw[e]at h;have h5:(Str.ofString q.1++Str.ofString q.2).length=5/\(Str.ofString q.1).length=4/\(Str.ofString q.1++Str.ofString q.2)∉[Str.ofString "tell ", Str.ofString "weak "]/\Str.ofString q.1≠Str.ofString "own " := by
   simp only[List.mem_cons,List.not_mem_nil,or_false]at hq;rcases hq with rfl|rfl|rfl|rfl|rfl|rfl<;>decide +kernel
  rcases h with h|h
  ·rw[<-Str.append_assoc,(Ly h5.1).1]at h;exact h5.2.2.1 ((vp (xs:=[Str.ofString "tell ", Str.ofString "weak "])).mp h)
  ·rw[TF h5.2.1]at h;exact h5.2.2.2 h
theorem Fb(S:RP)(r:aq):∀x∈S.aK,x∈(S.next r).aK:=λx hx=>by cases r<;>first|exact hx|exact vB _ hx
theorem Hn{rows:List aq}{so nm:Str}{i j:Nat}(h:rows[i]?=some (.told so nm))(hj:i<j)(hl:j<=rows.length):nm∈(bO rows j).aK.map (·.1):=by
 induction j with
 |zero=>omega
 |succ j ih=>
  have hr:rows[j]?=some rows[j]:=A5 (by omega);rw[eV hr];by_cases z:i=j
  ·subst z;rw[h]at hr;rw[<-Option.some.inj hr];exact ji.mpr ⟨_,jE _ (.head _),rfl⟩
  ·obtain⟨x,hx,e⟩:=ji.mp (ih (by omega) (by omega));exact ji.mpr ⟨x,Fb _ _ x hx,e⟩
theorem Ae{so nm:Str}(hs:bN so)(hn:isNm nm=true):Txt.partition (ak (.told so nm)) (Str.ofString " ")=(so,Str.ofString " ", nm):=by
 rw[c8,iM];exact BZ (by rcases hs with rfl|rfl|rfl<;>decide +kernel) (ub hn).1.2.2.1
theorem NI(T:Txt w K mg A):bo P w K mg base eI 1 A.MU A.tZ ["_law_rows", "_law_at", "_law_number"] Fh:=by
 refine T.yq.ok CF (λvs H Q E h=>?_) (λcdv Ar outer s H vs Q E hr h=>?_)
 ·obtain⟨p,rows,at_,n,rfl,_⟩:=h;rfl
 ·obtain⟨p,rows,at_,n,rfl,hp,tk,hl,a0,a1,k0,k⟩:=h;refine⟨_,(aL (He (i:=3) CF.nd rfl (by walk_at "o") (Ih ["_law_row"]) rfl (gh (K:=K) rfl (dR (fS (K:=K) rfl) (pv 0) d8 (dD (pv 1)))) (λ_ _ _=>⟨(pn 0 (by walk_at "n")),(Hx (PW.pt (eY (br (xS (K:=K) rfl) (dR iA (pv 0) d8 (dD ah)) (aw (ao af (ao af aa))) (by with_unfolding_all rfl)) (dA (br ba (dR iA (pv 0) d8 (dD ah)) af (ax _)))))),(pv 0)⟩)) (aL (aM (br (pY hr.units (K:=K) rfl) (pv 3) (aw aa) (ax _)) (bE (au cG)) bD) (bE (au (ag (uU (K:=K) rfl) (bH (dv (K:=K) rfl) (aw (ao af (ao af (ao af aa)))) (ag aG (pv 1) ah) (λ_ _=>rfl)) (tx K (eU PySem.F.plainAttrs_str PySem.F.slot_str_partition PySem.F.type_str_partition ID (bH (dv (K:=K) rfl) (pv 3) (ag aG (pv 2) (dh (e7 (K:=K) rfl) (by rfl) T.cF bZ (ao (pv 3) aa))) (λ_ _=>rfl)) (ao af aa)))))))),?main⟩;walk_at "rd";walk_at "14";walk_at "15";refine⟨_,aC.of hp,λp1 h1=>?_⟩;have ec:dC (bY rows) none (some (i:Int))=bY (rows.take i):=by rw[wo (by unfold bY;rw[List.length_map];exact hi)];unfold bY;rw[List.map_take]
  rw[ec];have lt:(rows.take i).length=i:=by rw[nV];omega
  refine uo.of (xs:=bY (rows.take i)) (by unfold bY;rw[sizeLine_eq,List.length_map];omega) (aC.of aE) (λD j ys H'=>aA H H'/\H' p1=some (.lst (bY (rows.take i)))/\H' D=some (.lst ys)/\∃ks:List (Str×Str),ys=ks.map (λq=>V.str (ak (.told q.1 q.2)))/\ks.length<=j/\∀q∈ks,bN q.1/\isNm q.2=true/\q.2∈(bO rows i).aK.map (·.1)) (λD hD=>⟨(aO h1).trans (aO hD),aO hD _ _ aE,aE,[],rfl,Nat.le_refl _,λq hq=>by cases hq⟩) ?_ ?_ ?_
  ·rintro D j ys H' hD hj ⟨s1,s2,s3,ks,rfl,s4,s5⟩;exact⟨aC.of s2,s3,by rw[aQ];exact s4⟩
  ·rintro D j x ys H' hD hx ⟨s1,s2,s3,ks,rfl,s4,s5⟩;unfold bY at hx;rw[z5]at hx;obtain⟨r,hr,rfl⟩:=Cr.mp hx;have hji:j<i:=by have:=(we.mp hr).1;omega
   have hr':rows[j]?=some r:=by rw[List.getElem?_take,if_pos hji]at hr;exact hr
   have tr:(bO rows j).dw r:=cB tk j r hr';have lr:(ak r).length<=sizeLine:=dy (aq.good (cN tr)).1 (by walk_at "s");walk_at "rd";refine⟨.no .nil,lr,ay (by decide),λp2 h2=>⟨_,.inl (aC.of aE),rfl,rfl,?_⟩⟩;have m2:=aO (o:=HO.lst [V.str (Str.ofString "tell "),V.str (Str.ofString "weak ")]) h2;generalize upd H' p2 (HO.lst [V.str (Str.ofString "tell "),V.str (Str.ofString "weak ")])=H2 at m2 ⊢;have hDp:D≠p1:=λe=>by rw[e,aE]at hD;cases hD
   have hD0:H D=none:=by rw[ae hDp]at hD;exact hD
   have yes:(Ks (.str (Txt.slice (ak r) none (some 5))) [V.str (Str.ofString "tell "),V.str (Str.ofString "weak ")]=true\/Txt.slice (ak r) none (some 4)=Str.ofString "own ")->H2 D=some (HO.lst (List.map (λq:Str×Str=>V.str (ak (aq.told q.fst q.snd))) ks))/\aA H (upd H2 D (HO.lst (List.map (λq:Str×Str=>V.str (ak (aq.told q.fst q.snd))) ks++[V.str (ak r)])))/\upd H2 D (HO.lst (List.map (λq:Str×Str=>V.str (ak (aq.told q.fst q.snd))) ks++[V.str (ak r)])) p1=some (HO.lst (bY (List.take i rows)))/\upd H2 D (HO.lst (List.map (λq:Str×Str=>V.str (ak (aq.told q.fst q.snd))) ks++[V.str (ak r)])) D=some (HO.lst (List.map (λq:Str×Str=>V.str (ak (aq.told q.fst q.snd))) ks++[V.str (ak r)]))/\∃ks_1:List (Str×Str),List.map (λq:Str×Str=>V.str (ak (aq.told q.fst q.snd))) ks++[V.str (ak r)]=List.map (λq:Str×Str=>V.str (ak (aq.told q.fst q.snd))) ks_1/\ks_1.length<=j+1/\∀(q:Str×Str),q∈ks_1->bN q.fst/\isNm q.snd=true/\q.snd∈List.map (λx=>x.fst) (bO rows i).aK:=λh=>by
    obtain⟨so,nm,rfl,h1,h2⟩:=Gy tr h;refine⟨m2 _ _ s3,λx o e=>?_,?_,aE,ks++[(so,nm)],by rw[gJ];rfl,by rw[cL,hJ];omega,λq hq=>?_⟩
    ·rw[ae (λz=>by rw[z,hD0]at e;cases e)];exact m2 _ _ (s1 _ _ e)
    ·rw[ae (Ne.symm hDp)];exact m2 _ _ s2
    ·rcases eC.mp hq with z|z
     ·exact s5 q z
     ·rw[iL.mp z];exact⟨h1,h2,Hn hr' hji hi⟩
   by_cases c1:Ks (.str (Txt.slice (ak r) none (some 5))) [V.str (Str.ofString "tell "),V.str (Str.ofString "weak ")]=true
   ·rw[if_pos c1];exact yes (.inl c1)
   ·rw[if_neg c1];refine⟨lr,?_⟩;by_cases c2:Txt.slice (ak r) none (some 4)=Str.ofString "own "
    ·rw[decide_eq_true c2,if_pos rfl];exact yes (.inr c2)
    ·rw[decide_eq_false c2,if_neg (by decide)];exact⟨s1.trans m2,m2 _ _ s2,m2 _ _ s3,ks,rfl,by omega,s5⟩
  ·rintro Dd ys H' hD ⟨s1,s2,s3,ks,rfl,s4,s5⟩;walk_at "rd";refine⟨gB _,λp2 h2=>⟨ks.map (λq=>D.str (ak (.told q.1 q.2))),[],.inl ⟨?_,⟨p2,[],rfl,aC.of aE,by simp[RepL]⟩⟩,Nat.le_trans (e9 (n:=0) λx _=>by simp[dep]) (by decide),_,rfl,?_⟩⟩
   ·simp only[Rep];exact⟨_,_,rfl,aC.of (aO h2 _ _ s3),RepL.map λq _=>by simp only[Rep]⟩
   ·rw[uO];have m2:=aO (o:=HO.lst []) h2;generalize upd H' p2 (HO.lst [])=H2 at m2 ⊢;by_cases z:ks=[]
    ·rw[decide_eq_true (by rw[z];rfl),if_pos rfl];exact k0 _ (s1.trans m2)
    ·rw[decide_eq_false (λe=>z (List.map_eq_nil_iff.mp e)),if_neg (by decide)];have l0:=List.length_pos_iff.mpr z;have r0:0<=n%(ks.length:Int):=Int.emod_nonneg _ (by omega);have r1:n%(ks.length:Int)<ks.length:=Oy _ (by omega);obtain⟨j,hj⟩:=Ew r0;rw[hj]at r1;have hx:ks[j]?=some ks[j]:=A5 (by omega);obtain⟨h1,h2,h3⟩:=s5 _ (A4 hx);generalize ks[j]=q at hx h1 h2 h3;have so3:∃so:Str,hG [V.str (Str.ofString "tell "),V.str (Str.ofString "weak "),V.str (Str.ofString "own ")] ((i:Int)%3)=some (V.str (so++Str.ofString " "))/\bN so/\so.length<=4:=by
      have:(i:Int)%3=0\/(i:Int)%3=1\/(i:Int)%3=2:=by omega
      rcases this with e|e|e<;>rw[e]
      ·exact⟨Str.ofString "tell", by decide +kernel,.inl rfl,by decide +kernel⟩
      ·exact⟨Str.ofString "weak", by decide +kernel,.inr (.inl rfl),by decide +kernel⟩
      ·exact⟨Str.ofString "own", by decide +kernel,.inr (.inr rfl),by decide +kernel⟩
     obtain⟨so,e1,e2,e3⟩:=so3;have lb:(Str.ofString " ").length=1:=by decide +kernel
     have ln:=(ub h2).2;have lq:(ak (.told q.1 q.2)).length<=sizeLine:=by
      rw[c8,aH,aH];have:q.1.length<=4:=by rcases h1 with e|e|e<;>rw[e]<;>decide +kernel
      exact ay (by omega)
     refine⟨ay (by decide),λp3 h3'=>⟨by decide,_,aC.of aE,_,e1,ks.length,.inl ⟨_,aC.of (aO h3' _ _ (m2 _ _ s3)),by rw[aQ]⟩,by omega,_,aC.of (aO h3' _ _ (m2 _ _ s3)),V.str (ak (.told q.1 q.2)),?_,rfl,_,rfl,by omega,lq,λt ht=>?_⟩⟩
     ·rw[hj];exact j3 (by rw[z5,hx];rfl)
     ·rw[Ae h1 h2];refine⟨_,dH.of aE,V.str q.2,rfl,.inr (.inl ⟨_,rfl,q.2,rfl,ay (by have:=aH so (Str.ofString " ");omega),?_⟩)⟩;rw[<-c8];exact k so q.2 _ (((s1.trans m2).trans (aO h3')).trans (aO ht)) e2 h2 h3
theorem OY(T:Txt w K mg A):bo P w K mg base eI 11 A.MF A.qZ ["_law_text"] (Ap A):=by
 refine T.zH.ok oP (λvs H Q E h=>?_) (λcdv Ar outer s H vs Q E hr h=>?_)
 ·obtain⟨ts,good,b,rest,rfl,_⟩:=h;rfl
 ·obtain⟨ts,good,b,rest,rfl,hB,k⟩:=h;refine⟨_,(aL (pS 1 oP.nd cG) (aL (AX (K:=K) rfl rfl rfl (i:=2) oP.nd rfl rfl rfl T.wA (uE (vi (vd (A_ T) (hr.mono (by decide)) rfl T.xU T.uu T.uT .nil (ao (pv 0) aa)))) (λ_=>(bE (pS 1 oP.nd (pv 2))))) (bE (au (pv 1))))),?_⟩;walk_at "rd";exact .inr ⟨ts,rfl,good,b,rest,hB,λd H' s1 hd=>⟨_,rfl,⟨T.vE,T.vL,T.mj⟩,.inr ⟨d,_,rfl,hd⟩,λa ha=>k a d _ (s1.trans (aO ha)) aE (aO ha _ _ hd)⟩⟩
theorem Oj(T:Txt w K mg A):bo P w K mg base eI 2 A.NO A.rN ["_law_told", "_law_due"] (vM A):=by
 refine T.xf.ok Ke (λvs H Q E h=>?_) (λcdv Ar outer s H vs Q E hr h=>?_)
 ·obtain⟨a,d,p,rfl,_⟩:=h;rfl
 ·obtain⟨a,d,p,rfl,ha,hd,k⟩:=h;refine⟨_,(aL (aM (PW.pt (eY (dZ (df (dh (lZ (K:=K) rfl) (by rfl) T.bQ cI (ao (pv 0) (ao (cg (v:=.ref A.bI) rfl T.wx rfl) aa))))) (dA (dZ (df (dh (lZ (K:=K) rfl) (by rfl) T.bQ cI (ao (pv 0) (ao (oW rfl T.dM lR Ko) aa)))))))) (bE (au cy)) bD) (aL (aM (df (dh (AD (K:=K) rfl) (by rfl) T.bQ cI (ao (pv 0) (ao (bM (ao (cg (v:=.ref A.kD) rfl T.zw rfl) (ao (cg (v:=.ref A.uL) rfl T.B9 rfl) (ao (cg (v:=.ref A.dF) rfl T.nR rfl) (ao (cg (v:=.ref A.vf) rfl T.Bq rfl) (ao (cg (v:=.ref A.uz) rfl T.GL rfl) (ao (cg (v:=.ref A.vh) rfl T.Cs rfl) (ao (cg (v:=.ref A.uI) rfl T.F9 rfl) (ao (cg (v:=.ref A.uN) rfl T.D4 rfl) (ao (cg (v:=.ref A.uA) rfl T.Bc rfl) aa)))))))))) aa)))) (bE (au cy)) bD) (bE (au (pU (pC (ON T) hr T.JX T.BU T.FL (ao (y_ (pv 0) rfl) aa)) (pf (c0 ba (y_ (pv 0) rfl) (pv 1) (ax _)))))))),?_⟩;walk_at "rd";have xc:qS K A.bI:=⟨T.vR,T.v3,T.wb,T.Fs,T.Ed,T.vO,T.vK⟩
  have dk:AK (some d) H:=.inr ⟨d,_,rfl,hd⟩;have ty:PR K H (V.ref a) (.ref A.bI):=.inr ⟨a,_,some d,rfl,rfl,ha,dk,xc⟩;have lk:List.lookup (Str.ofString "row") [(Str.ofString "row", V.int p)]=some (V.int p):=by simp[List.lookup]
  refine⟨rfl,_,ty,_,T.K4,HY ⟨rfl,_,ty,_,T.Km,HY ⟨by rw[sizeLine_eq];decide,λq hq=>?_⟩⟩⟩;have sq:=aO (o:=HO.tup [V.ref A.kD,V.ref A.uL,V.ref A.dF,V.ref A.vf,V.ref A.uz,V.ref A.vh,V.ref A.uI,V.ref A.uN,V.ref A.uA]) hq;have ha':=sq _ _ ha;have hd':=sq _ _ hd;refine⟨_,aE,rfl,.ref A.bI,.inr ⟨a,_,some d,rfl,rfl,ha',.inr ⟨d,_,rfl,hd'⟩,xc⟩,false,T.ka,?_⟩;rw[if_neg (by simp)];refine⟨_,d,ha',_,hd',xc,T.Ie,T.d7,_,lk,p,rfl,_,d,ha',_,hd',xc,T.Ie,T.d7,_,lk,rfl,?_⟩;rw[decide_eq_true rfl];exact k _ sq
theorem AN{rows:List aq}{i j:Nat}(h:j<=i):bO (rows.take i) j=bO rows j:=by
 unfold bO;rw[List.take_take,Nat.min_eq_left h]
theorem fD.mono{B C:List Str->Prop}{z:Str}(h:fD B z)(f:∀ps,B ps->C ps):fD C z:=⟨h.1,h.2.1,h.2.2.1,f _ h.2.2.2⟩
theorem uq{r:aq}(h:r.Small):Txt.split (ak r) (Str.ofString " ")=r.parts:=by
 unfold ak;rw[iM];exact fO r.ne λp hp=>(h p hp).2.2.1
theorem fF{B:List Str->Prop}{r:aq}(h:r.Small)(b:B r.parts):fD B (ak r):=by
 refine⟨(aq.good h).1,(aq.good h).2.1,?_,?_⟩<;>rw[uq h]
 ·exact λp hp=>⟨dy (h p hp).1 (by decide),(h p hp).2.2.2⟩
 ·exact b
theorem fP.tx{rows:List aq}(h:fP rows){l:List aq}(hl:∀r∈l,r∈rows):∀t∈l.map ak,10∉t.cps.toList/\t.length<=1000:=λt ht=>by
 obtain⟨r,hr,rfl⟩:=ji.mp ht;have:=aq.good (u6 h.tk r (hl r hr));exact⟨this.2.1,this.1⟩
theorem gr{good:List aq}{b:Str}{rest:List Str}(tk:lN.bj good)(hb:fD (dN (bO good good.length)) b)(hr:∀t∈rest,10∉t.cps.toList/\t.length<=1000)(hn:good.length+rest.length<=250):gb (good.map ak++b::rest) good b rest:=by
 have ha:∀t∈good.map ak++b::rest,10∉t.cps.toList/\t.length<=1000:=λt ht=>by
  rcases eC.mp ht with z|z
  ·obtain⟨r,hr,rfl⟩:=ji.mp z;have:=aq.good (u6 tk r hr);exact⟨this.2.1,this.1⟩
  ·rcases lL.mp z with rfl|z
   ·exact⟨hb.2.1,hb.1⟩
   ·exact hr t z
 refine⟨rfl,u6 tk,cB tk,hb.2.2.2,λt ht=>(ha t ht).1,λt ht=>(ha t ht).2,?_,hb.2.2.1⟩;rw[cL,aQ,jd];omega
theorem fP.pre{rows:List aq}(h:fP rows){i:Nat}(hi:i<=rows.length):lN.bj (rows.take i)/\(rows.take i).length=i/\bO (rows.take i) (rows.take i).length=bO rows i:=by
 have l:(rows.take i).length=i:=by rw[nV];omega
 exact⟨gN h.tk,l,by rw[l];exact AN (dn _)⟩
theorem fP.named{rows:List aq}(h:fP rows){i:Nat}(h0:0<i)(hi:i<=rows.length):(bO rows i).nm≠none:=by
 obtain⟨z,r,rfl⟩:=h.hd
 induction i with
 |zero=>omega
 |succ j ih=>
  have hr:(aq.aV z::r)[j]?=some (aq.aV z::r)[j]:=A5 (by omega);rw[eV hr];by_cases z0:j=0
  ·subst z0;intro e;cases e
  ·have:=ih (by omega) (by omega);generalize (aq.aV z::r)[j]=x;cases x with
   |aV nm=>intro e;cases e
   |st a b=>exact this
   |word a=>exact this
   |fill a b c d=>exact this
   |told a b=>exact this
theorem AS{H:Hp}{Q:VK}{p p1 p2:Addr}{as mid xs:List V}{i c:Int}(h1:H p1=some (.lst as))(hp:H p=some (.lst xs))(h2:H p2=none)(la:as.length<=300)(lm:mid.length<=300)(lx:xs.length<=300)
  (fin:∀p6 p5 H',aA H H'->H' p6=some (.tup [.ref p5,.int c])->H' p5=some (.lst (as++mid++dC xs (some i) none))->Q (.ref p6) H'):
  ∃x1,aC K (upd H p2 (.lst mid)) p1 x1/\∃x2,aC K (upd H p2 (.lst mid)) p2 x2/\x1.length+x2.length<=sizeLine/\∀p3:Addr,upd H p2 (.lst mid) p3=none->∃x3,aC K (upd (upd H p2 (.lst mid)) p3 (.lst (x1++x2))) p x3/\∀p4:Addr,upd (upd H p2 (.lst mid)) p3 (.lst (x1++x2)) p4=none->
   ∃x4,aC K (upd (upd (upd H p2 (.lst mid)) p3 (.lst (x1++x2))) p4 (.lst (dC x3 (some i) none))) p3 x4/\∃x5,aC K (upd (upd (upd H p2 (.lst mid)) p3 (.lst (x1++x2))) p4 (.lst (dC x3 (some i) none))) p4 x5/\x4.length+x5.length<=sizeLine/\
    ∀p5:Addr,upd (upd (upd H p2 (.lst mid)) p3 (.lst (x1++x2))) p4 (.lst (dC x3 (some i) none)) p5=none->2<=sizeLine/\∀p6:Addr,upd (upd (upd (upd H p2 (.lst mid)) p3 (.lst (x1++x2))) p4 (.lst (dC x3 (some i) none))) p5 (.lst (x4++x5)) p6=none->
     Q (.ref p6) (upd (upd (upd (upd (upd H p2 (.lst mid)) p3 (.lst (x1++x2))) p4 (.lst (dC x3 (some i) none))) p5 (.lst (x4++x5))) p6 (.tup [.ref p5,.int c])):=by
 have lc:=zP xs (some i) none;refine⟨_,aC.of (aO h2 _ _ h1),_,aC.of aE,by rw[sizeLine_eq];omega,λp3 h3=>⟨_,aC.of (aO h3 _ _ (aO h2 _ _ hp)),λp4 h4=>⟨_,aC.of (aO h4 _ _ aE),_,aC.of aE,by rw[sizeLine_eq,cL];omega,λp5 h5=>⟨by rw[sizeLine_eq];decide,λp6 h6=>?_⟩⟩⟩⟩;exact fin p6 p5 _ (((((aO h2).trans (aO h3)).trans (aO h4)).trans (aO h5)).trans (aO h6)) aE (aO h6 _ _ aE)
theorem wZ{rows:List aq}{i:Nat}(hi:i<=rows.length)(mid:List Str):dC (bY rows) none (some (i:Int))++mid.map V.str++dC (bY rows) (some (i:Int)) none=((rows.take i).map ak++(mid++(rows.drop i).map ak)).map V.str:=by
 unfold bY;rw[wo (by rw[aQ];exact hi),kF (by rw[aQ];exact hi),gJ,gJ,zN,zN,List.map_take,List.map_drop,Ez];rfl
theorem fP.DA{rows:List aq}(hR:fP rows){i:Nat}(hi:i<=rows.length){b:Str}(hb:fD (dN (bO rows i)) b){H0 H':Hp}{Q:VK}{q6 q5:Addr}(k:Rh H0 Q)
  (s:aA H0 H') (e1:H' q6=some (.tup [.ref q5,.int ((i:Int)+1)])) (e2:H' q5=some (.lst (dC (bY rows) none (some (i:Int))++[V.str b]++dC (bY rows) (some (i:Int)) none))):Q (.ref q6) H':=by
 have rl:=hR.len;obtain⟨p1,p2,p3⟩:=hR.pre hi;refine k.2 q6 q5 ((rows.take i).map ak++b::(rows.drop i).map ak) (rows.take i) b ((rows.drop i).map ak) H' s ?_ ?_ (gr p1 (by rw[p3];exact hb) (hR.tx λr hr=>Np hr) ?_) ?_
 ·rw[e1,p2]
 ·rw[e2];exact congrArg (λz=>some (HO.lst z)) (wZ hi [b])
 ·rw[p2,aQ,wc];omega
 ·rw[cL,jd,aQ,aQ,p2,wc];omega
noncomputable def S1:RP:=⟨some (Str.ofString "a"),[(Str.ofString "code", 1,[],[])],[],true⟩
theorem k9{so nm:Str}(hs:bN so)(hn:isNm nm=true):(aq.told so nm).Small:=cN (S:=S1) ⟨by simp[S1],by simp[S1],hs,hn,by simp[S1]⟩
theorem lI{S:RP}{soft:Bool}{ru nm:Str}{n:Int}(h:S.nm≠none/\S.az≠[]/\S.bw=true)(hr:ru=Str.ofString "whole" \/ ru=Str.ofString "high")(hn:isNm nm=true)(h0:0<=n)(h1:n<=1):S.dw (.fill soft ru nm n):=
 ⟨h.1,h.2.1,h.2.2,by rcases hr with rfl|rfl<;>decide +kernel,hn,by rcases hr with rfl|rfl<;>(intro q;exact absurd q.2 (by decide +kernel)),by omega,by omega⟩
theorem ly{soft:Bool}{ru nm:Str}{n:Int}(hr:ru=Str.ofString "whole" \/ ru=Str.ofString "high")(hn:isNm nm=true)(h0:0<=n)(h1:n<=1):(aq.fill soft ru nm n).Small:=cN (lI (S:=S1) ⟨by simp[S1],by simp[S1],rfl⟩ hr hn h0 h1)
theorem uW{S:RP}{soft:Bool}{ru nm:Str}{n:Int}(hb:S.bw=false):dN S (aq.fill soft ru nm n).parts:=.fill (by cases soft<;>simp) (.inl hb)
theorem Jw(n:Int):∃s:Bool,hG [V.str (Str.ofString "fill"),V.str (Str.ofString "soft")] (n%2)=some (V.str (if s=true then Str.ofString "soft" else Str.ofString "fill")):=by
 have:n%2=0\/n%2=1:=by omega
 rcases this with e|e<;>rw[e]
 ·exact⟨false,by decide +kernel⟩
 ·exact⟨true,by decide +kernel⟩
theorem mJ(s:Bool)(ru nm:Str)(n:Int){a b:Str}(ha:a=Str.ofString " " ++ ru++Str.ofString " ")(hb:b=Str.ofString " " ++ nS n):(if s=true then Str.ofString "soft" else Str.ofString "fill")++a++nm++b=ak (.fill s ru nm n):=by
 subst ha hb;unfold ak;rw[b_];show _=(if s=true then Str.ofString "soft" else Str.ofString "fill")++Str.ofString " " ++ (ru++Str.ofString " " ++ (nm++Str.ofString " " ++ nS n));simp only[Str.append_assoc]
theorem Dh(s:Bool):(if s=true then Str.ofString "soft" else Str.ofString "fill").length<=4:=by cases s<;>decide +kernel
theorem MB(T:Txt w K mg A):bo P w K mg base eI 3 A.Nh A.mZ ["_law_rows", "_law_way", "_law_at", "_law_number"] FE:=by
 refine T.yQ.ok kI (λvs H Q E h=>?_) (λcdv Ar outer s H vs Q E hr h=>?_)
 ·obtain⟨p,rows,way,at_,n,rfl,_⟩:=h;rfl
 ·obtain⟨p,rows,way,at_,n,rfl,hp,hR,a0,a1,n0,n1,k⟩:=h
  refine⟨_,(aL (pS 4 kI.nd (pC (xx T) hr T.vo T.mq T.mE (ao (pv 3) (ao (ag eA (pv 3) ah) aa)))) (aL (pS 5 kI.nd (ag bW (ag bW (ag bW (bH (dv (K:=K) rfl) (aw (ao af (ao af aa))) (ag aG (pv 3) ah) (λ_ _=>rfl)) af) (pv 4)) af)) (aL (pS 6 kI.nd (ag bW (ag bW (ag bW (bH (dv (K:=K) rfl) (aw (ao af (ao af aa))) (ag aG (ag eA (pv 3) ah) ah) (λ_ _=>rfl)) af) (pv 4)) af)) (cJ (u:=oS false) (aL (aM (br ba (pv 1) ah (ax _)) (aL (pS 7 kI.nd (pC (NI T) hr T.Jx T.D2 T.Ge (ao (pv 0) (ao (pv 2) (ao (pv 3) aa))))) (aL (aM (br g_ (pv 7) cG (ax _)) (bE (au (bM (ao (pv 0) (ao ah aa))))) bD) (bE (au (bM (ao (ag (cM (K:=K) rfl) (ag (cM (K:=K) rfl) (dR (fS (K:=K) rfl) (pv 0) d8 (dD (pv 2))) (aw (ao (pv 7) aa))) (dR (fS (K:=K) rfl) (pv 0) (dD (pv 2)) d8)) (ao (ag bC (pv 2) ah) aa))))))) bD) (cJ (u:=oS false) (aL (aM (PW.pt (lC (br ba (pv 1) ah (ax _)) (lC (br w_ (pv 2) ah (ax _)) (j5 (br ba (dR (Iv (K:=K) rfl) (bH (dv (K:=K) rfl) (pv 0) (ag fK (pv 2) ah) (λ_ _=>rfl)) d8 (dD ah)) af (ax _)))))) (bE (au (bM (ao (ag (cM (K:=K) rfl) (ag (cM (K:=K) rfl) (dR (fS (K:=K) rfl) (pv 0) d8 (dD (pv 2))) (aw (ao (pv 5) (ao (pv 6) aa)))) (dR (fS (K:=K) rfl) (pv 0) (dD (pv 2)) d8)) (ao (ag bC (pv 2) ah) aa))))) bD) (cJ (u:=oS true) (aL (aM (PW.pt (lC (br ba (pv 1) ah (ax _)) (j5 (br w_ (pv 2) ah (ax _))))) (bE (au (bM (ao (ag (cM (K:=K) rfl) (ag (cM (K:=K) rfl) (dR (fS (K:=K) rfl) (pv 0) d8 (dD (pv 2))) (aw (ao (pv 5) aa))) (dR (fS (K:=K) rfl) (pv 0) (dD (pv 2)) d8)) (ao (ag bC (pv 2) ah) aa))))) bD) (cJ (u:=oS false) (aL (aM (br ba (pv 1) ah (ax _)) (bE (au (bM (ao (ag (cM (K:=K) rfl) (ag (cM (K:=K) rfl) (dR (fS (K:=K) rfl) (pv 0) d8 (dD ah)) (aw (ao (bH (dv (K:=K) rfl) (aw (ao af (ao (ag bW af (pv 4)) (ao (ag bW af (pv 4)) (ao (ag bW af (pv 4)) aa))))) (ag aG (pv 3) ah) (λ_ _=>rfl)) aa))) (dR (fS (K:=K) rfl) (pv 0) (dD ah) d8)) (ao ah aa))))) bD) (cJ (u:=oS false) (aL (aM (br ba (pv 1) ah (ax _)) (bE (au (bM (ao (ag (cM (K:=K) rfl) (pv 0) (aw (ao af aa))) (ao (ag bC (dh (e7 (K:=K) rfl) (by rfl) T.cF bZ (ao (pv 0) aa)) ah) aa))))) bD) (cJ (u:=oS false) (aL (aM (br ba (pv 1) ah (ax _)) (bE (au (bM (ao (ag (cM (K:=K) rfl) (ag (cM (K:=K) rfl) (dR (fS (K:=K) rfl) (pv 0) d8 (dD (pv 2))) (aw (ao (ag bW af (pv 4)) aa))) (dR (fS (K:=K) rfl) (pv 0) (dD (pv 2)) d8)) (ao (dh (zU rfl) (by rfl) T.yc LW (ao ah (ao (ag bC (pv 2) ah) aa))) aa))))) bD) (cJ (u:=oS false) (aL (aM (br ba (pv 1) ah (ax _)) (bE (au (bM (ao (ag (cM (K:=K) rfl) (aw (ao (pC (OG T) hr T.JS T.BW T.Gx (ao (pv 3) (ao (pv 4) aa))) aa)) (dR (fS (K:=K) rfl) (pv 0) (dD ah) d8)) (ao ah aa))))) bD) (cJ (u:=oS false) (bE (au (bM (ao (ag (cM (K:=K) rfl) (ag (cM (K:=K) rfl) (dR (fS (K:=K) rfl) (pv 0) d8 (dD (pv 2))) (aw (ao (pC (Jz T) hr T.EE T.xM T.yL (ao (pv 3) (ao (pv 4) aa))) aa))) (dR (fS (K:=K) rfl) (pv 0) (dD (pv 2)) d8)) (ao (ag bC (pv 2) ah) aa))))) ?os8)) ?os7)) ?os6)) ?os5)) ?os4)) ?os3)) ?os2)) ?os1)))),?main⟩
  case main=>
   walk_at "rd";refine⟨⟨by decide,by decide⟩,λz H1 s1 hz=>⟨ay (by decide),λp1 h1=>?_⟩⟩;obtain⟨b1,e1⟩:=Jw n;obtain⟨b2,e2⟩:=Jw (n/2);have l1:=Dh b1;have l2:=Dh b2;have lz:=(ub hz).2;have c1:(Str.ofString " whole ").length<=7:=by decide +kernel
   have c2:(Str.ofString " high ").length<=6:=by decide +kernel
   have c3:(Str.ofString " 0").length<=2:=by decide +kernel
   have c4:(Str.ofString " 1").length<=2:=by decide +kernel
   refine⟨by decide,_,aC.of aE,_,e1,_,rfl,cD l1 c1 (by decide),cD (cH l1 c1) lz (by decide),cD (cH (cH l1 c1) lz) c3 (by decide),ay (by decide),λp2 h2=>⟨⟨by decide,by decide⟩,by decide,_,aC.of aE,_,e2,_,rfl,cD l2 c2 (by decide),cD (cH l2 c2) lz (by decide),cD (cH (cH l2 c2) lz) c4 (by decide),?_⟩⟩;have m:=(s1.trans (aO h1)).trans (aO (o:=HO.lst [V.str (Str.ofString "fill"),V.str (Str.ofString "soft")]) h2);exact⟨H,p,rows,way,at_,n,z,b1,b2,none,by rw[mJ b1 (Str.ofString "whole") z 0 (by decide +kernel) (by decide +kernel),mJ b2 (Str.ofString "high") z 1 (by decide +kernel) (by decide +kernel)];rfl,m _ _ hp,hR,a0,a1,n0,n1,hz,(λe=>by cases e),m,k⟩
  case os1=>
   walk_at "16";walk_at "rd";have rl:=hR.len;walk_at "17";walk_at "14";walk_at "15";walk_at "18";walk_at "19";walk_at "10";by_cases hw:way=1
   ·rw[decide_eq_true hw,if_pos rfl];refine⟨rows,hp,hR.tk,rl,a0,a1,λH1 m1=>?_,λso z H1 m1 h1 h2 h3=>?_⟩
    ·rw[decide_eq_true trivial,if_pos rfl];exact⟨ay (by decide),λp1 e1=>k.1 p1 p _ ((sm.trans m1).trans (aO e1)) aE⟩
    ·rw[decide_eq_false (λe=>e),if_neg (by decide)];refine⟨_,aC.of (m1 _ _ hp),λq1 e1=>⟨ay (by decide),λq2 e2=>AS aE (aO e1 _ _ (m1 _ _ hp)) e2 (dy cl (by decide)) (by simp) (Nat.le_trans ml (by decide)) λq6 q5 H' s f1 f2=>?_⟩⟩;exact hR.DA hi (fF (k9 h1 h2) (.told h1 (.inl h3))) k (((sm.trans m1).trans (aO e1)).trans s) f1 f2
   ·rw[decide_eq_false hw,if_neg (by simp)];exact go
  case os2=>
   walk_at "16";walk_at "rd";have rl:=hR.len;walk_at "17";walk_at "14";walk_at "15";walk_at "18";walk_at "19";walk_at "10";have go':(way=2->0<(i:Int)->(bO rows i).bw=false)->oS true D [some (V.ref p),some (V.int way),some (V.int i),some (V.int n),some (V.str nm),some (V.str (ak (m6 s1 nm))),some (V.str (ak (AE s2 nm))),b7] H:=λh=>⟨H0,p,rows,way,i,n,nm,s1,s2,b7,rfl,hp,hR,a0,a1,n0,n1,hnm,(λ_=>h),sm,k⟩;by_cases hw:way=2
   ·rw[decide_eq_true hw,if_pos rfl];by_cases hp0:0<(i:Int)
    ·rw[decide_eq_true hp0,if_pos rfl];obtain⟨j,rfl⟩:∃j,i=j+1:=⟨i - 1,by omega⟩
     have hr:rows[j]?=some rows[j]:=A5 (by omega);generalize rows[j]=r at hr;have tr:(bO rows j).dw r:=cB hR.tk j r hr;refine⟨_,aC.of hp,V.str (ak r),?_,.inr (.inr ⟨ak r,rfl,dy (aq.good (cN tr)).1 (ay (by decide)),?_⟩)⟩
     ·rw[show((j+1:Nat):Int) - 1=(j:Int) by omega];exact j3 (by unfold bY;rw[List.getElem?_map,hr];rfl)
     ·by_cases h5:Txt.slice (ak r) none (some 5)=Str.ofString "word "
      ·rw[decide_eq_true h5,if_pos rfl];obtain⟨w,rfl⟩:=(vn tr).mp h5;have S:(bO rows (j+1)).nm≠none/\(bO rows (j+1)).az≠[]/\(bO rows (j+1)).bw=true:=by
        rw[eV hr];refine⟨tr.1,?_,rfl⟩;show cj (bV w) (bO rows j).az≠[];have h2:=tr.2.1;cases hs:(bO rows j).az with
        |nil=>exact absurd hs h2
        |cons a l=>cases l<;>simp[cj]
       obtain⟨p1,p2,p3⟩:=hR.pre hi;refine⟨_,aC.of hp,λq1 h1=>⟨ay (by decide),λq2 h2=>AS aE (aO h1 _ _ hp) h2 (dy cl (by decide)) (by simp) (Nat.le_trans ml (by decide)) λq6 q5 H' s e1 e2=>?_⟩⟩;have tf:=lI (soft:=s1) (n:=0) S (.inl rfl) hnm (by decide) (by decide);have e0:bO (rows.take (j+1)++[m6 s1 nm]) (rows.take (j+1)++[m6 s1 nm]).length=(bO rows (j+1)).next (m6 s1 nm):=by
        unfold bO;rw[Mo,List.foldl_append];rfl
       refine k.2 q6 q5 ((rows.take (j+1)++[m6 s1 nm]).map ak++ak (AE s2 nm)::(rows.drop (j+1)).map ak) (rows.take (j+1)++[m6 s1 nm]) (ak (AE s2 nm)) ((rows.drop (j+1)).map ak) H' ((sm.trans (aO h1)).trans s) ?_ ?_ (gr (fw p1 ⟨?_,trivial⟩) ?_ (hR.tx λr hr=>Np hr) ?_) ?_
       ·rw[e1,cL,p2,hJ];exact congrArg (λz=>some (HO.tup [V.ref q5,V.int z])) (by omega)
       ·rw[e2];refine congrArg (λz=>some (HO.lst z)) ((wZ hi [ak (m6 s1 nm),ak (AE s2 nm)]).trans ?_);rw[gJ (f:=ak),Ez];rfl
       ·exact tf
       ·rw[e0];exact fF (ly (.inr rfl) hnm (by decide) (by decide)) (uW rfl)
       ·rw[cL,p2,aQ,wc];simp;omega
       ·rw[cL,jd,aQ,aQ,cL,p2,wc];simp;omega
      ·rw[decide_eq_false h5,if_neg (by simp)];refine go' λ_ _=>?_;rw[eV hr];cases r with
       |word n=>exact absurd ((vn tr).mpr ⟨n,rfl⟩) h5
       |aV a=>rfl
       |st a b=>rfl
       |fill a b c d=>rfl
       |told a b=>rfl
    ·rw[decide_eq_false hp0,if_neg (by simp)];exact go' λ_ z=>absurd z hp0
   ·rw[decide_eq_false hw,if_neg (by simp)];exact go' λz=>absurd z hw
  case os3=>
   walk_at "16";walk_at "rd";have rl:=hR.len;walk_at "17";walk_at "14";walk_at "15";walk_at "18";walk_at "19";walk_at "10";by_cases hw:way=2
   ·rw[decide_eq_true hw,if_pos rfl];by_cases hp0:0<(i:Int)
    ·rw[decide_eq_true hp0,if_pos rfl];refine⟨_,aC.of hp,λq1 h1=>⟨ay (by decide),λq2 h2=>AS aE (aO h1 _ _ hp) h2 (dy cl (by decide)) (by simp) (Nat.le_trans ml (by decide)) λq6 q5 H' s e1 e2=>?_⟩⟩;exact hR.DA hi (fF (ly (.inl rfl) hnm (by decide) (by decide)) (uW (hc rfl hw hp0))) k ((sm.trans (aO h1)).trans s) e1 e2
    ·rw[decide_eq_false hp0,if_neg (by simp)];exact go
   ·rw[decide_eq_false hw,if_neg (by simp)];exact go
  case os4=>
   walk_at "16";walk_at "rd";have rl:=hR.len;walk_at "17";walk_at "14";walk_at "15";walk_at "18";walk_at "19";walk_at "10";by_cases hw:way=3
   ·rw[decide_eq_true hw,if_pos rfl];obtain⟨z0,r0,er⟩:=hR.hd;have h1l:1<=rows.length:=by rw[er];simp
    have emp:(bO rows 1).az=[]:=by rw[er];rfl
    have c1:(Str.ofString "tell ").length<=5:=by decide +kernel
    have c2:(Str.ofString "weak ").length<=5:=by decide +kernel
    have c3:(Str.ofString "own ").length<=4:=by decide +kernel
    have pick:∃b,hG [V.str (Str.ofString "word 0"),V.str (Str.ofString "tell " ++ nm),V.str (Str.ofString "weak " ++ nm),V.str (Str.ofString "own " ++ nm)] (n%4)=some (V.str b)/\fD (dN (bO rows 1)) b:=by
     have td:∀(so pr:Str),bN so->pr=so++Str.ofString " " -> fD (dN (bO rows 1)) (pr++nm):=λso pr hs e=>by
      rw[e,<-c8];exact fF (k9 hs hnm) (.empty emp (by rcases hs with rfl|rfl|rfl<;>(intro q;rcases q with q|q<;>exact absurd q (by decide +kernel))) (by rcases hs with rfl|rfl|rfl<;>decide +kernel))
     have:n%4=0\/n%4=1\/n%4=2\/n%4=3:=by omega
     rcases this with e|e|e|e<;>rw[e]
     ·refine⟨_,rfl,?_⟩;rw[show Str.ofString "word 0" = ak (.word 0) by rw[eZ];decide +kernel];exact fF (aq.mv ⟨by decide,by decide⟩) (.empty emp (by intro q;rcases q with q|q<;>exact absurd q (by decide +kernel)) (by decide +kernel))
     ·exact⟨_,rfl,td _ _ (.inl rfl) (by decide +kernel)⟩
     ·exact⟨_,rfl,td _ _ (.inr (.inl rfl)) (by decide +kernel)⟩
     ·exact⟨_,rfl,td _ _ (.inr (.inr rfl)) (by decide +kernel)⟩
    obtain⟨b,eb,ob⟩:=pick;refine⟨_,aC.of hp,λq1 h1=>⟨cD c1 ln (by decide),cD c2 ln (by decide),cD c3 ln (by decide),ay (by decide),λq2 h2=>⟨by decide,_,aC.of aE,_,eb,ay (by decide),λq3 h3=>AS (aO h2 _ _ aE) (aO h2 _ _ (aO h1 _ _ hp)) h3 (dy (dy (zP _ _ _) ml) (by decide)) (by simp) (Nat.le_trans ml (by decide)) λq6 q5 H' s e1 e2=>?_⟩⟩⟩;exact hR.DA h1l ob k (((sm.trans (aO h1)).trans (aO h2)).trans s) e1 e2
   ·rw[decide_eq_false hw,if_neg (by simp)];exact go
  case os5=>
   walk_at "16";walk_at "rd";have rl:=hR.len;walk_at "17";walk_at "14";walk_at "15";walk_at "18";walk_at "19";walk_at "10";by_cases hw:way=4
   ·rw[decide_eq_true hw,if_pos rfl];refine⟨ay (by decide),λq1 h1=>⟨_,aC.of (aO h1 _ _ hp),_,aC.of aE,ay (by show _+1<=_;omega),λq2 h2=>⟨rows.length,.inl ⟨_,aC.of (aO h2 _ _ (aO h1 _ _ hp)),by unfold bY;rw[List.length_map]⟩,ay (by decide),λq3 h3=>?_⟩⟩⟩;refine k.2 q3 q2 (rows.map ak++[Str.ofString ""]) rows (Str.ofString "") [] _ ((sm.trans (aO h1)).trans ((aO h2).trans (aO h3))) aE (aO h3 _ _ ?_) (gr hR.tk (cn (ps:=[Str.ofString ""]) (by decide +kernel) (by simp) (bg (aI (by decide +kernel)) aJ) (d_ ⟨by simp,by simp⟩)) (λt ht=>by cases ht) (by simp;omega)) ?_
    ·rw[aE,gJ,zN];rfl
    ·rw[cL,aQ];simp;omega
   ·rw[decide_eq_false hw,if_neg (by simp)];exact go
  case os6=>
   walk_at "16";walk_at "rd";have rl:=hR.len;walk_at "17";walk_at "14";walk_at "15";walk_at "18";walk_at "19";walk_at "10";by_cases hw:way=5
   ·rw[decide_eq_true hw,if_pos rfl];have c1:(Str.ofString "piece ").length<=6:=by decide +kernel
    refine⟨_,aC.of hp,λq1 h1=>⟨cD c1 ln (by decide),ay (by decide),λq2 h2=>AS aE (aO h1 _ _ hp) h2 (dy cl (by decide)) (by simp) (Nat.le_trans ml (by decide)) λq6 q5 H' s e1 e2=>?_⟩⟩;have ps:(aq.aV nm).Small:=cN (S:=lN) ⟨rfl,hnm⟩;rw[<-dU]at e2;by_cases hp0:0<(i:Int)
    ·rw[show(if (i:Int)+1>2 then (i:Int)+1 else 2)=(i:Int)+1 by split<;>omega]at e1;exact hR.DA hi (fF ps (.first λq=>hR.named (by omega) hi (q.mp rfl))) k ((sm.trans (aO h1)).trans s) e1 e2
    ·have i0:i=0:=by omega
     subst i0;rw[if_neg (by omega)]at e1;obtain⟨z0,r0,er⟩:=hR.hd;have sm0:=u6 hR.tk (.aV z0) (by rw[er];exact .head _);refine k.2 q6 q5 ([aq.aV nm].map ak++ak (.aV z0)::r0.map ak) [.aV nm] (ak (.aV z0)) (r0.map ak) H' ((sm.trans (aO h1)).trans s) (by rw[e1];rfl) ?_ (gr ⟨⟨rfl,hnm⟩,trivial⟩ (fF sm0 (.first λq=>by have:=q.mp rfl;cases this)) (hR.tx λr hr=>by rw[er];exact .tail _ hr) ?_) ?_
     ·rw[e2];refine congrArg (λz=>some (HO.lst z)) ((wZ hi [ak (.aV nm)]).trans ?_);rw[er];rfl
     ·rw[aQ];rw[er]at rl;simp at rl ⊢;omega
     ·rw[er]at rl;simp at rl ⊢;omega
   ·rw[decide_eq_false hw,if_neg (by simp)];exact go
  case os7=>
   walk_at "16";walk_at "rd";have rl:=hR.len;walk_at "17";walk_at "14";walk_at "15";walk_at "18";walk_at "19";walk_at "10";by_cases hw:way=6
   ·rw[decide_eq_true hw,if_pos rfl];refine⟨n0,n1,hnm,λz H1 m1 oz=>⟨ay (by decide),λq1 h1=>⟨_,aC.of (aO h1 _ _ (m1 _ _ hp)),λq2 h2=>⟨_,aC.of (aO h2 _ _ aE),_,aC.of aE,ay (by have:=dy (zP (bY rows) (some 1) none) ml;show 1+_<=_;omega),λq3 h3=>⟨ay (by decide),λq4 h4=>?_⟩⟩⟩⟩⟩;obtain⟨z0,r0,er⟩:=hR.hd;refine k.2 q4 q3 ([].map ak++z::r0.map ak) [] z (r0.map ak) _ (((sm.trans m1).trans (aO h1)).trans (((aO h2).trans (aO h3)).trans (aO h4))) aE (aO h4 _ _ ?_) (gr trivial oz (hR.tx λr hr=>by rw[er];exact .tail _ hr) ?_) ?_
    ·rw[aE,er];unfold bY;rw[show(1:Int)=((1:Nat):Int) from rfl,kF (by simp)];show some (HO.lst ([V.str z]++List.map _ r0))=some (HO.lst (V.str z::List.map V.str (r0.map ak)));rw[zN];rfl
    ·rw[er]at rl;simp at rl ⊢;omega
    ·rw[er]at rl;simp at rl ⊢;omega
   ·rw[decide_eq_false hw,if_neg (by simp)];exact go
  case os8=>
   walk_at "16";walk_at "rd";have rl:=hR.len;walk_at "17";walk_at "14";walk_at "15";walk_at "18";walk_at "19";walk_at "10";refine⟨_,aC.of hp,λq1 h1=>⟨n0,n1,hnm,λz H1 m1 oz=>⟨ay (by decide),λq2 h2=>AS (m1 _ _ aE) (m1 _ _ (aO h1 _ _ hp)) h2 (dy cl (by decide)) (by simp) (Nat.le_trans ml (by decide)) λq6 q5 H' s e1 e2=>?_⟩⟩⟩;exact hR.DA hi (oz.mono λps h=>h _) k (((sm.trans (aO h1)).trans m1).trans s) e1 e2
theorem gb.ins{ts:List Str}{good:List aq}{b:Str}{rest:List Str}(h:gb ts good b rest)(hl:ts.length<=200){z:Str}(hz:Ab z){m:Nat}(h1:good.length+1<=m):∃rest',gb (ts.take m++z::ts.drop m) good b rest':=by
 obtain⟨d,rfl⟩:∃d,m=good.length+1+d:=⟨m - (good.length+1),by omega⟩
 have e1:ts.take (good.length+1+d)=good.map ak++b::rest.take d:=by
  rw[h.eq,List.take_append,G9 (by rw[aQ];omega),aQ,show good.length+1+d - good.length=d+1 by omega];rfl
 have e2:ts.drop (good.length+1+d)=rest.drop d:=by
  rw[h.eq,List.drop_append,List.drop_of_length_le (by rw[aQ];omega),aQ,show good.length+1+d - good.length=d+1 by omega];rfl
 have hm:∀t∈good.map ak++b::(rest.take d++z::rest.drop d),t=z\/t∈ts:=λt ht=>by
  rw[h.eq];rcases eC.mp ht with q|q
  ·exact .inr (vB _ q)
  ·rcases lL.mp q with rfl|q
   ·exact .inr (jE _ wX)
   ·rcases eC.mp q with q|q
    ·exact .inr (jE _ (t_ _ (List.mem_of_mem_take q)))
    ·rcases lL.mp q with rfl|q
     ·exact .inl rfl
     ·exact .inr (jE _ (t_ _ (Np q)))
 refine⟨rest.take d++z::rest.drop d,?_⟩;rw[e1,e2,Ez];refine⟨rfl,h.small,h.takes,h.bad,λt ht=>?_,λt ht=>?_,?_,h.bl⟩
 ·rcases hm t ht with rfl|q
  ·exact hz.2.1
  ·exact h.nl t q
 ·rcases hm t ht with rfl|q
  ·have:=hz.1;omega
  ·exact h.len t q
 ·have:=congrArg List.length h.eq;rw[cL,aQ,jd]at this;show(good.map ak++b::(rest.take d++z::rest.drop d)).length<=300;rw[cL,aQ,jd,cL,jd,nV,wc];omega
theorem MQ(T:Txt w K mg A):bo P w K mg base eI 12 A.N6 A.t7 ["_law_rows", "_law_cell", "_law_other"] BY:=by
 refine T.yt.ok iC (λvs H Q E h=>?_) (λcdv Ar outer s H vs Q E hr h=>?_)
 ·obtain⟨p,rows,c,o,rfl,_⟩:=h;rfl
 ·obtain⟨p,rows,c,o,rfl,hp,hR,k⟩:=h;refine⟨_,(aL (pS 3 iC.nd (ag aG (ag cX (pv 1) ah) ah)) (aL (Eb (pC (MB T) hr T.JL T.Dj T.Gv (ao (pv 0) (ao (ag bC ah (ag aG (pv 1) ah)) (ao (ag aG (pv 2) (ag bC (dh (e7 (K:=K) rfl) (by rfl) T.cF bZ (ao (pv 0) aa)) ah)) (ao (pv 3) aa))))) (fi (K:=K) (n:=2) rfl rfl (fH (pn 4 iC.nd) (fH (pn 5 iC.nd) fA)))) (aL (aM (br ba (pv 5) ah (ax _)) (bE (au cy)) bD) (aL (aM (br ba (ag aG (ag eA (pv 2) ah) ah) ah (ax _)) (aL (pS 6 iC.nd (ag bC (pv 5) (ag aG (ag eA (pv 3) ah) (ag fK (ag bC ah (dh (e7 (K:=K) rfl) (by rfl) T.cF bZ (ao (pv 4) aa))) (pv 5))))) (bE (pS 4 iC.nd (ag (cM (K:=K) rfl) (ag (cM (K:=K) rfl) (dR (fS (K:=K) rfl) (pv 4) d8 (dD (pv 6))) (aw (ao (pC (Jz T) hr T.EE T.xM T.yL (ao (ag eA (pv 3) ah) (ao af aa))) aa))) (dR (fS (K:=K) rfl) (pv 4) (dD (pv 6)) d8))))) bD) (cJ (u:=oH) (bE (au (pC (Oj T) hr T.Jc T.DS T.Be (ao (pC (OY T) hr T.Jf T.GS T.Gw (ao (eU PySem.F.plainAttrs_str PySem.F.slot_str_join PySem.F.type_str_join (lA (K:=K) rfl) af (ao (pv 4) aa)) aa)) (ao (pv 5) aa))))) ?oh))))),?main⟩
  case main=>
   walk_at "rd";have rl:=hR.len;have n0:0<=c*1583458089%2147483647:=by omega
   have n1:c*1583458089%2147483647<=2147483647:=by omega
   generalize c*1583458089%2147483647=n at n0 n1;have o0:=Int.emod_nonneg o (show(rows.length:Int)+1≠0 by omega);have o1:=Oy o (show 0<(rows.length:Int)+1 by omega);refine⟨.inr ⟨by decide,by decide⟩,by decide,by decide,rows.length,.inl ⟨_,aC.of hp,by unfold bY;rw[List.length_map]⟩,by omega,rows,hp,hR,o0,by omega,n0,n1,λq l H1 s1 hq=>⟨_,rfl,_,dH.of hq,rfl,_,_,rfl,_,_,rfl,rfl,rfl,?_⟩,λq l ts good b rest H1 s1 hq hl hB hn=>⟨_,rfl,_,dH.of hq,rfl,_,_,rfl,_,_,rfl,rfl,rfl,?_⟩⟩
   ·rw[decide_eq_true rfl,if_pos rfl];exact k _ s1
   rw[decide_eq_false (by intro e;have:=V.int.inj e;omega),if_neg (by decide)];refine⟨⟨by decide,by decide⟩,by decide,?_⟩;have ht:good.length+1<=ts.length:=by
    rw[hB.eq,cL,aQ,jd];omega
   refine cS (λ_=>?_) λ_=>⟨H,_,_,_,_,_,l,ts,good,b,rest,rfl,hl,hB,Nat.le_succ_of_le hn,s1,k⟩;have d0:0<1+(ts.length:Int) - ((good.length:Int)+1):=by omega
   have e0:=Int.emod_nonneg (n/3) (show 1+(ts.length:Int) - ((good.length:Int)+1)≠0 by omega);have e1:=Oy (n/3) d0;refine⟨⟨by decide,by decide⟩,ts.length,.inl ⟨_,aC.of hl,by rw[aQ]⟩,_,rfl,d0,_,rfl,_,rfl,_,aC.of hl,λp1 h1=>⟨⟨by decide,by decide⟩,by omega,by omega,by decide +kernel,λz H2 s2 oz=>?_⟩⟩;generalize n/3%(1+(ts.length:Int) - ((good.length:Int)+1))=d at e0 e1 s2 ⊢;obtain⟨d,rfl⟩:=Ew e0;have hm:good.length+1+d<=ts.length:=by omega
   have em:(good.length:Int)+1+(d:Int)=((good.length+1+d:Nat):Int):=by omega
   rw[em]at s2 ⊢;have ml:(ts.map V.str).length<=200:=by rw[aQ];exact hn
   have c1:=wo (xs:=ts.map V.str) (i:=good.length+1+d) (by rw[aQ];exact hm);have c2:=kF (xs:=ts.map V.str) (i:=good.length+1+d) (by rw[aQ];exact hm);rw[c1]at s2;have l1:((ts.map V.str).take (good.length+1+d)).length<=200:=by rw[nV];omega
   have l2:((ts.map V.str).drop (good.length+1+d)).length<=200:=by rw[wc];omega
   have s12:=(aO (o:=HO.lst ((ts.map V.str).take (good.length+1+d))) h1).trans s2;refine⟨ay (by decide),λp2 h2=>⟨_,aC.of (aO h2 _ _ (s2 _ _ aE)),_,aC.of aE,ay (by show _+1<=_;omega),λp3 h3=>⟨_,rfl,_,aC.of (aO h3 _ _ (aO h2 _ _ (s12 _ _ hl))),λp4 h4=>?_⟩⟩⟩;rw[c2];refine⟨_,aC.of (aO h4 _ _ aE),_,aC.of aE,ay (by rw[cL];show _+1+_<=_;omega),λp5 h5=>?_⟩;obtain⟨rest',hB'⟩:=hB.ins hn oz (m:=good.length+1+d) (by omega);refine⟨H,_,_,_,_,_,p5,_,good,b,rest',rfl,?_,hB',?_,s1.trans ((((s12.trans (aO h2)).trans (aO h3)).trans (aO h4)).trans (aO h5)),k⟩
   ·rw[aE,gJ,xE,List.map_take,List.map_drop,Ez];rfl
   ·rw[cL,jd,nV,wc];omega
  case oh=>
   rintro D σ H ⟨H0,b0,b1,b2,b3,b6,l,ts,good,b,rest,rfl,hl,hB,tl,sm,k⟩;walk_at "rd";refine⟨rfl,ts,aC.of hl,joinOk_of hB.len ?_,ts,rfl,good,b,rest,hB,λa d H' s1 ha hd=>⟨d,ha,hd,λH2 s2=>k H2 ((sm.trans s1).trans s2)⟩⟩;rw[show(Str.ofString "\n").length=1 by decide +kernel];omega
theorem Qg(ns:List Int)(h:ns.length<=63):∃ms:List Int,dC (ns.map V.int) (some 6) none=ms.map V.int/\ms.length<=63:=by
 refine⟨(ns.drop (HT.sIx (ns.map V.int).length 0 (some 6))).take (HT.sIx (ns.map V.int).length (ns.map V.int).length none - HT.sIx (ns.map V.int).length 0 (some 6)),?_,?_⟩
 ·unfold dC;rw[List.map_take,List.map_drop]
 ·rw[nV,wc];omega
theorem Nx{H:Hp}{p q:a7}{Q:VK}(h1:p.At H)(h2:q.At H)(e:p.d=q.d)(k:Q (.bl true) H):Iw K p.v q.v H Q:=by
 have dp:=Lq p;refine⟨_,_,.inr ⟨h1.rep,h2.rep⟩,?_,?_⟩
 ·unfold a7.d at dp;simp only[dep]at dp;omega
 ·have:=e;unfold a7.d at this;injection this with this;rw[this,gD];exact k
theorem Ph(T:Txt w K mg A):bo P w K mg base eI 14 A.Oa A.og ["_law_script"] (tH K):=by
 refine T.yS.ok lp (λvs H Q E h=>?_) (λcdv Ar outer s H vs Q E hr h=>?_)
 ·obtain⟨a,ns,rfl,_⟩:=h;rfl
 ·obtain⟨a,ns,rfl,hS,hl,k⟩:=h;refine⟨_,(aL (Eb (pC (O9 T) hr T.JJ T.D3 T.Bh (ao (dR (fS (K:=K) rfl) (pv 0) (dD ah) d8) aa)) (fi (K:=K) (n:=2) rfl rfl (fH (pn 1 lp.nd) (fH (pn 2 lp.nd) fA)))) (aL (pS 3 lp.nd (eU PySem.F.plainAttrs_str PySem.F.slot_str_join PySem.F.type_str_join (lA (K:=K) rfl) af (ao (pv 1) aa))) (aL (aM (br uY (pC (Pc T) hr T.Jj T.F1 T.DL (ao (pG (A_ T) (hr.mono (by decide)) rfl T.xU T.uu T.uT .nil C4 (ao (pv 3) aa)) aa)) (pv 3) (ax _)) (bE (au cy)) bD) (aL (pF (mP rfl T.hW (ao ah aa)) (pn 4 lp.nd) (bE (aM (dZ (df (pC (MQ T) hr T.IW T.CU T.DX (ao (pv 1) (ao (pC (u4 T) hr T.mS T.lh T.kN (ao (pv 0) (ao (ag cX ah (pv 4)) aa))) (ao (pC (u4 T) hr T.mS T.lh T.kN (ao (pv 0) (ao (ag bC (ag cX ah (pv 4)) ah) aa))) aa)))))) (bE (au cy)) bD))) (bE (au (c0 (pY hr.units (K:=K) rfl) (pG (A_ T) (hr.mono (by decide)) rfl T.xU T.uu T.uT .nil C4 (ao (pv 3) aa)) (pv 2) (ax _)))))))),?main⟩;walk_at "rd";obtain⟨ms,em,lm⟩:=Qg ns hl;refine⟨_,hS,λp0 h0=>?_⟩;rw[em]
  refine⟨ms,aC.of aE,lm,λt pr q rows H1 ht B=>⟨_,dH.of ht,rfl,_,_,rfl,_,_,rfl,rfl,rfl,_,rfl,rows.map ak,by rw[zN];exact aC.of B.RU,B.text,.inl ⟨rows,rfl,B.ne,by have:=B.len;omega,u6 B.tk,cB B.tk,λt2 R p2 H2 s2 ht2 O=>?_⟩⟩⟩;have F:=B.SH O ht2;obtain⟨bw,erun⟩:=B.run;have O2:=O.az;have O3:=O.aK;rw[erun]at O2 O3;obtain⟨sh2,er2⟩:=B.TK (p:={ p2 with t:=t2,name:=q.name }) F.at_ rfl O2 O3 ⟨F.n1,F.n2,F.n3⟩;have et2:GX { p2 with t:=t2,name:=q.name }=Txt.join (Str.ofString "\n") (rows.map ak):=by unfold GX;rw[er2]
  refine⟨{ p2 with t:=t2,name:=q.name },rfl,sh2,λH3 s3=>?_⟩;rw[decide_eq_true et2,if_neg (by decide)];have s13:=s2.trans s3;have hR:fP rows:=⟨B.tk,B.len,B.hd⟩
  have S0:aA H H3:=((aO h0).trans B.sm).trans s13;refine DV.of (n:=3) (by decide) (by decide) (λi σ H'=>∃b4:Option V,σ=[some (.ref a),some (.ref pr),some (.ref q.t),some (.str (Txt.join (Str.ofString "\n") (rows.map ak))),b4]/\aA H3 H') ⟨_,rfl,aA.refl _⟩ ?_ ?_
  ·rintro i σ H' hi ⟨b4,rfl,sm⟩;walk_at "rd";have hi3:i<3:=hi;refine⟨.inl ⟨by decide,by decide⟩,ns,(S0.trans sm).seq hS,by omega,λm1=>⟨.inl ⟨by decide,by decide⟩,ns,(S0.trans sm).seq hS,by omega,λm2=>⟨rows,sm _ _ (s13 _ _ B.RU),hR,λH4 s4=>sm.trans s4⟩⟩⟩
  ·rintro σ H' ⟨b4,rfl,sm⟩;walk_at "rd";refine .inl ⟨rows,rfl,B.ne,by have:=B.len;omega,u6 B.tk,cB B.tk,λt3 R3 p3 H4 s4 ht3 O4=>?_⟩;have F3:=B.SH O4 ht3;have qa:=a7.At.mono B.at_ ((s13.trans sm).trans s4);exact Nx (p:={ p3 with t:=t3,name:=q.name }) F3.at_ qa F3.d (k _)
end
@[elab_as_elim] theorem gH{α:Type}{p:List α->Prop}(us:List α)(h:us.length=1)(f:∀a,p [a]):p us:=by
 match us,h with | [a],_=>exact f a
@[elab_as_elim] theorem jg{α:Type}{p:List α->Prop}(us:List α)(h:us.length=2)(f:∀a b,p [a,b]):p us:=by
 match us,h with | [a,b],_=>exact f a b
@[elab_as_elim] theorem wq{α:Type}{p:List α->Prop}(us:List α)(h:us.length=3)(f:∀a b c,p [a,b,c]):p us:=by
 match us,h with | [a,b,c],_=>exact f a b c
@[elab_as_elim] theorem ME{α:Type}{p:List α->Prop}(us:List α)(h:us.length=4)(f:∀a b c d,p [a,b,c,d]):p us:=by
 match us,h with | [a,b,c,d],_=>exact f a b c d
@[elab_as_elim] theorem QA{α:Type}{p:List α->Prop}(us:List α)(h:us.length=5)(f:∀a b c d e,p [a,b,c,d,e]):p us:=by
 match us,h with | [a,b,c,d,e],_=>exact f a b c d e
def FO(K:Wf)(f:Addr)(st:Stmt)(x q:Str):Prop:=∃(oc:Value) (od an:Option Addr) (sl:Array (Option Value)) (kV dc pm cd ct:Value),K.lookup f=some ⟨oc,od,.func (fnOf x q (gA st) (eE st) (av st) .none kV dc pm an cd ct),sl⟩/\codeIn K cd q=true/\keepIn K (.ref f)=true
theorem bf{K:Wf}{f:Addr}{st:Stmt}{x q:Str}(h:FO K f st x q):∃fd,eu K x q st f fd/\keepIn K (.ref f)=true:=by
 obtain⟨_,_,_,_,_,_,_,_,_,l,e,k⟩:=h;exact⟨_,Dq l e k,k⟩
theorem all_mk{l:PySem.W.OpenLaw}{w:World}{K:Wf}{h:Heap}{mg:So}{fa f_qqk f_qkz f_qwx f_qkx f_qxz f_qkq f_qxy f_qyz f_qqj f_qwy f_qqw f_qqq f_qqx f_qqy f_qqz f_qyq f_qxq f_qzq f_qyv f_qyj f_qzv f_qzw f_qyw f_qzy f_qwj f_qzx f_qxk f_qyk f_qqv f_qwk f_qzj f_qww f_qwq f_qzk f_qzz f_qwv f_qyx f_law C_High C_qxw C_Lost C_Low C_Near C_qkv C_qxj C_qjq C_qkj C_qkk C_qxv C_qxx C_qjk C_qjw C_qjx C_qjz C_qjy h7:Addr}{uF va vj k_qwz_0 v_qwz_0 k_qwz_1 v_qwz_1 k_qwz_2 v_qwz_2 k_qwz_3 v_qwz_3 k_qwz_4 v_qwz_4 k_qwz_5 v_qwz_5 k_qwz_6 v_qwz_6 k_qwz_7 v_qwz_7 k_qwz_8 v_qwz_8:Tok}(X:K.In h)(G:h.Ns mainGlobals mg)(hfa:mg "law" = some (.ref fa))
  {n_qwz:Nat}
  (ac_High:nsIn K mainGlobals "High" = some (some (.ref C_High)))
  (ac_qxw:nsIn K mainGlobals "JoinError" = some (some (.ref C_qxw)))
  (ac_Lost:nsIn K mainGlobals "Lost" = some (some (.ref C_Lost)))
  (ac_Low:nsIn K mainGlobals "Low" = some (some (.ref C_Low)))
  (ac_Near:nsIn K mainGlobals "Near" = some (some (.ref C_Near)))
  (ac_qkv:nsIn K mainGlobals "NoBase" = some (some (.ref C_qkv)))
  (ac_qxj:nsIn K mainGlobals "NoPiece" = some (some (.ref C_qxj)))
  (ac_qjq:nsIn K mainGlobals "NoRule" = some (some (.ref C_qjq)))
  (ac_qkj:nsIn K mainGlobals "NoSense" = some (some (.ref C_qkj)))
  (ac_qkk:nsIn K mainGlobals "NoWhole" = some (some (.ref C_qkk)))
  (ac_qxv:nsIn K mainGlobals "Reading" = some (some (.ref C_qxv)))
  (ac_qxx:nsIn K mainGlobals "SameName" = some (some (.ref C_qxx)))
  (ac_qjk:nsIn K mainGlobals "Split" = some (some (.ref C_qjk)))
  (ac_qjw:nsIn K mainGlobals "TooFar" = some (some (.ref C_qjw)))
  (ac_qjx:nsIn K mainGlobals "Twice" = some (some (.ref C_qjx)))
  (ac_qjz:nsIn K mainGlobals "Unmet" = some (some (.ref C_qjz)))
  (ac_qjy:nsIn K mainGlobals "Whole" = some (some (.ref C_qjy)))
  (a_qqk:findIn K (.ref C_qxj) "__init__" = some (some (.ref f_qqk)))
  (i_qqk:isFn K (.ref f_qqk)=true)
  (l_qqk:FO K f_qqk G4 "__init__" "NoPiece.__init__")
  (a_qkz:nsIn K mainGlobals "rule_of" = some (some (.ref f_qkz)))
  (l_qkz:FO K f_qkz Gi "rule_of" "rule_of")
  (a_qwx:findIn K (.ref C_High) "__init__" = some (some (.ref f_qwx)))
  (i_qwx:isFn K (.ref f_qwx)=true)
  (l_qwx:FO K f_qwx EV "__init__" "Rule.__init__")
  (a_qkx:nsIn K mainGlobals "is_name" = some (some (.ref f_qkx)))
  (l_qkx:FO K f_qkx C7 "is_name" "is_name")
  (a_qxz:nsIn K mainGlobals "number_of" = some (some (.ref f_qxz)))
  (l_qxz:FO K f_qxz CV "number_of" "number_of")
  (a_qkq:nsIn K mainGlobals "step_in" = some (some (.ref f_qkq)))
  (l_qkq:FO K f_qkq CA "step_in" "step_in")
  (a_qxy:nsIn K mainGlobals "is_title" = some (some (.ref f_qxy)))
  (l_qxy:FO K f_qxy A8 "is_title" "is_title")
  (a_qyz:nsIn K mainGlobals "read_piece" = some (some (.ref f_qyz)))
  (l_qyz:FO K f_qyz CT "read_piece" "read_piece")
  (a_qqj:findIn K (.ref C_qxv) "__init__" = some (some (.ref f_qqj)))
  (i_qqj:isFn K (.ref f_qqj)=true)
  (l_qqj:FO K f_qqj D5 "__init__" "Reading.__init__")
  (a_qwy:findIn K (.ref C_qxv) "takes" = some (some (.ref f_qwy)))
  (i_qwy:isFn K (.ref f_qwy)=true)
  (l_qwy:FO K f_qwy C8 "takes" "Reading.takes")
  (a_qqw:findIn K (.ref C_qxv) "takes_piece" = some (some (.ref f_qqw)))
  (i_qqw:isFn K (.ref f_qqw)=true)
  (l_qqw:FO K f_qqw Gr "takes_piece" "Reading.takes_piece")
  (a_qqq:findIn K (.ref C_qxv) "takes_stretch" = some (some (.ref f_qqq)))
  (i_qqq:isFn K (.ref f_qqq)=true)
  (l_qqq:FO K f_qqq DI "takes_stretch" "Reading.takes_stretch")
  (a_qqx:findIn K (.ref C_qxv) "takes_word" = some (some (.ref f_qqx)))
  (i_qqx:isFn K (.ref f_qqx)=true)
  (l_qqx:FO K f_qqx BC "takes_word" "Reading.takes_word")
  (a_qqy:findIn K (.ref C_qxv) "takes_fill" = some (some (.ref f_qqy)))
  (i_qqy:isFn K (.ref f_qqy)=true)
  (l_qqy:FO K f_qqy Bv "takes_fill" "Reading.takes_fill")
  (a_qqz:findIn K (.ref C_qxv) "takes_told" = some (some (.ref f_qqz)))
  (i_qqz:isFn K (.ref f_qqz)=true)
  (l_qqz:FO K f_qqz BO "takes_told" "Reading.takes_told")
  (a_qyq:nsIn K mainGlobals "shown_piece" = some (some (.ref f_qyq)))
  (l_qyq:FO K f_qyq Fo "shown_piece" "shown_piece")
  (a_qxq:nsIn K mainGlobals "name_rows" = some (some (.ref f_qxq)))
  (l_qxq:FO K f_qxq DY "name_rows" "name_rows")
  (a_qzq:nsIn K mainGlobals "stretch_rows" = some (some (.ref f_qzq)))
  (l_qzq:FO K f_qzq Bw "stretch_rows" "stretch_rows")
  (a_qyv:nsIn K mainGlobals "fill_rows" = some (some (.ref f_qyv)))
  (l_qyv:FO K f_qyv B_ "fill_rows" "fill_rows")
  (a_qyj:nsIn K mainGlobals "_law_whole" = some (some (.ref f_qyj)))
  (l_qyj:FO K f_qyj Ci "_law_whole" "_law_whole")
  (a_qzv:nsIn K mainGlobals "_law_cell_at" = some (some (.ref f_qzv)))
  (l_qzv:FO K f_qzv Fn "_law_cell_at" "_law_cell_at")
  (a_qzw:nsIn K mainGlobals "_law_name_by" = some (some (.ref f_qzw)))
  (l_qzw:FO K f_qzw Bs "_law_name_by" "_law_name_by")
  (a_qyw:nsIn K mainGlobals "_law_add_by" = some (some (.ref f_qyw)))
  (l_qyw:FO K f_qyw D1 "_law_add_by" "_law_add_by")
  (a_qzy:nsIn K mainGlobals "_law_fill_by" = some (some (.ref f_qzy)))
  (l_qzy:FO K f_qzy G3 "_law_fill_by" "_law_fill_by")
  (a_qwj:nsIn K mainGlobals "_law_fill_row" = some (some (.ref f_qwj)))
  (l_qwj:FO K f_qwj DZ "_law_fill_row" "_law_fill_row")
  (a_qzx:nsIn K mainGlobals "_law_word_by" = some (some (.ref f_qzx)))
  (l_qzx:FO K f_qzx Dt "_law_word_by" "_law_word_by")
  (a_qxk:nsIn K mainGlobals "_law_put" = some (some (.ref f_qxk)))
  (l_qxk:FO K f_qxk ES "_law_put" "_law_put")
  (a_qyk:nsIn K mainGlobals "_law_built" = some (some (.ref f_qyk)))
  (l_qyk:FO K f_qyk Ba "_law_built" "_law_built")
  (a_qqv:nsIn K mainGlobals "_law_bad_number" = some (some (.ref f_qqv)))
  (l_qqv:FO K f_qqv Ee "_law_bad_number" "_law_bad_number")
  (a_qwk:nsIn K mainGlobals "_law_bad_name" = some (some (.ref f_qwk)))
  (l_qwk:FO K f_qwk Gj "_law_bad_name" "_law_bad_name")
  (a_qzj:nsIn K mainGlobals "_law_odd_row" = some (some (.ref f_qzj)))
  (l_qzj:FO K f_qzj Bu "_law_odd_row" "_law_odd_row")
  (a_qww:nsIn K mainGlobals "_law_odd_first" = some (some (.ref f_qww)))
  (l_qww:FO K f_qww GJ "_law_odd_first" "_law_odd_first")
  (a_qwq:nsIn K mainGlobals "_law_told_ahead" = some (some (.ref f_qwq)))
  (l_qwq:FO K f_qwq BX "_law_told_ahead" "_law_told_ahead")
  (a_qzk:nsIn K mainGlobals "_law_spoiled" = some (some (.ref f_qzk)))
  (l_qzk:FO K f_qzk Co "_law_spoiled" "_law_spoiled")
  (a_qzz:nsIn K mainGlobals "_law_told_of" = some (some (.ref f_qzz)))
  (l_qzz:FO K f_qzz Bm "_law_told_of" "_law_told_of")
  (a_qwv:nsIn K mainGlobals "_law_refused" = some (some (.ref f_qwv)))
  (l_qwv:FO K f_qwv DU "_law_refused" "_law_refused")
  (a_qyx:nsIn K mainGlobals "_law_holds" = some (some (.ref f_qyx)))
  (l_qyx:FO K f_qyx ER "_law_holds" "_law_holds")
  (a_law:nsIn K mainGlobals "law" = some (some (.ref f_law)))
  (l_law:FO K f_law GV "law" "law")
  (fi_Low:findIn K (.ref C_Low) "__init__" = some (some (.ref f_qwx)))
  (fi_Near:findIn K (.ref C_Near) "__init__" = some (some (.ref f_qwx)))
  (fi_qjk:findIn K (.ref C_qjk) "__init__" = some (some (.ref f_qwx)))
  (fi_qjy:findIn K (.ref C_qjy) "__init__" = some (some (.ref f_qwx)))
  (pg_High:plainGet K C_High Str.empty=true)
  (hd_High:hasDictIn K C_High=true)
  (po_High:plainOver K C_High=true)
  (sa_High:findIn K (.ref C_High) "__setattr__" = some (some (.builtin "object.__setattr__")))
  (mm_High:makesIn K C_High=true)
  (kc_High:keepIn K (.ref C_High)=true)
  (pg_Low:plainGet K C_Low Str.empty=true)
  (hd_Low:hasDictIn K C_Low=true)
  (po_Low:plainOver K C_Low=true)
  (sa_Low:findIn K (.ref C_Low) "__setattr__" = some (some (.builtin "object.__setattr__")))
  (mm_Low:makesIn K C_Low=true)
  (kc_Low:keepIn K (.ref C_Low)=true)
  (pg_Near:plainGet K C_Near Str.empty=true)
  (hd_Near:hasDictIn K C_Near=true)
  (po_Near:plainOver K C_Near=true)
  (sa_Near:findIn K (.ref C_Near) "__setattr__" = some (some (.builtin "object.__setattr__")))
  (mm_Near:makesIn K C_Near=true)
  (kc_Near:keepIn K (.ref C_Near)=true)
  (pg_qxv:plainGet K C_qxv Str.empty=true)
  (hd_qxv:hasDictIn K C_qxv=true)
  (po_qxv:plainOver K C_qxv=true)
  (sa_qxv:findIn K (.ref C_qxv) "__setattr__" = some (some (.builtin "object.__setattr__")))
  (mm_qxv:makesIn K C_qxv=true)
  (kc_qxv:keepIn K (.ref C_qxv)=true)
  (pg_qjk:plainGet K C_qjk Str.empty=true)
  (hd_qjk:hasDictIn K C_qjk=true)
  (po_qjk:plainOver K C_qjk=true)
  (sa_qjk:findIn K (.ref C_qjk) "__setattr__" = some (some (.builtin "object.__setattr__")))
  (mm_qjk:makesIn K C_qjk=true)
  (kc_qjk:keepIn K (.ref C_qjk)=true)
  (pg_qjy:plainGet K C_qjy Str.empty=true)
  (hd_qjy:hasDictIn K C_qjy=true)
  (po_qjy:plainOver K C_qjy=true)
  (sa_qjy:findIn K (.ref C_qjy) "__setattr__" = some (some (.builtin "object.__setattr__")))
  (mm_qjy:makesIn K C_qjy=true)
  (kc_qjy:keepIn K (.ref C_qjy)=true)
  (kj:mroIn K C_qjq (.ref C_qjq)=some true)
  (Ie:hasDictIn K C_qxj=true)
  (K4:kitOne K (.ref C_qxj) (.ref C_qxj)=some true)
  (Km:kitOne K (.ref C_qxj) (.type "ValueError")=some true)
  (ka:kitAny K (.ref C_qxj) [.ref C_Lost,.ref C_qkv,.ref C_qjq,.ref C_qkj,.ref C_qkk,.ref C_qxx,.ref C_qjw,.ref C_qjx,.ref C_qjz]=some false)
  (mj:mroIn K C_qxj (.ref C_qxw)=some true)
  (Dn:findIn K (.ref C_qjq) "__getattribute__" = some (some (.builtin "BaseException.__getattribute__")))
  (BJ:findIn K (.ref C_qjq) "__getattr__" = some none)
  (CL:findIn K (.ref C_qjq) "__class__" = some (some (.builtin "object.__class__")))
  (E_:mroIn K C_qjq (.type "object")=some true)
  (Ec:mroIn K C_qjq (.type "BaseException")=some true)
  (vR:findIn K (.ref C_qxj) "__getattribute__" = some (some (.builtin "BaseException.__getattribute__")))
  (v3:findIn K (.ref C_qxj) "__getattr__" = some none)
  (wb:findIn K (.ref C_qxj) "__class__" = some (some (.builtin "object.__class__")))
  (vO:mroIn K C_qxj (.type "object")=some true)
  (vK:mroIn K C_qxj (.type "BaseException")=some true)
  (Fs:specialIn K (.builtin "object.__class__") "__get__" = some (some (.builtin "getset_descriptor.__get__")))
  (Ed:takesIn K (.builtin "object.__class__")=some true)
  (wJ:excIn K C_qjq [.type "ValueError", .type "Exception", .type "BaseException", .type "object"] "ValueError.__new__" = true)
  (wt:ownInit K C_qxj f_qqk=true)
  (vG:l8 K C_qxj=true)
  (wk:findIn K (.ref C_qxj) "__setattr__" = some (some (.builtin "object.__setattr__")))
  (vH:readsIn K C_qxw (.type "type")=true)
  (wj:findCls K (.ref C_qxw) (.type "type") "__init__" = some (.val (.builtin "ValueError.__init__")))
  (v8:specialIn K (.ref C_qxw) "__getattribute__" = some (some (.builtin "type.__getattribute__")))
  (vE:instIn K (.ref C_qxw) (.type "tuple")=some false)
  (vL:mroIn K C_qxw (.type "BaseException")=some true)
  (vW:instIn K (.ref C_qjq) (.type "tuple")=some false)
  (v5:mroIn K C_qjq (.type "BaseException")=some true)
  (d7:findIn K (.ref C_qxj) "row" = some none)
  (cO:findIn K (.ref C_qxv) "name" = some none)
  (bA:findIn K (.ref C_qxv) "stretches" = some none)
  (cU:findIn K (.ref C_qxv) "names" = some none)
  (ar:findIn K (.ref C_qxv) "last_words" = some none)
  (a8:findIn K (.ref C_qxv) "last_fills" = some none)
  (du:findIn K (.ref C_qxv) "told" = some none)
  (bB:findIn K (.ref C_qxv) "behind_word" = some none)
  (fe:findIn K (.ref C_qjy) "title" = some none)
  (eO:findIn K (.ref C_High) "title" = some none)
  (fu:findIn K (.ref C_Low) "title" = some none)
  (eP:findIn K (.ref C_Near) "title" = some none)
  (dJ:findIn K (.ref C_qjk) "title" = some none)
  (xY:nsIn K mainGlobals "FIGURES" = some (some (.str "0123456789" uF)))
  (xn:nsIn K mainGlobals "HOW_MANY_PARTS" = some (some (.ref h7)))
  (l_qwz:K.lookup h7=some ⟨.type "dict", none,.dict #[⟨PyData.keyHash w.params "piece", .str "piece" k_qwz_0,.int 2 v_qwz_0⟩,⟨PyData.keyHash w.params "code", .str "code" k_qwz_1,.int 2 v_qwz_1⟩,⟨PyData.keyHash w.params "data", .str "data" k_qwz_2,.int 2 v_qwz_2⟩,⟨PyData.keyHash w.params "word", .str "word" k_qwz_3,.int 2 v_qwz_3⟩,⟨PyData.keyHash w.params "fill", .str "fill" k_qwz_4,.int 4 v_qwz_4⟩,⟨PyData.keyHash w.params "soft", .str "soft" k_qwz_5,.int 4 v_qwz_5⟩,⟨PyData.keyHash w.params "tell", .str "tell" k_qwz_6,.int 2 v_qwz_6⟩,⟨PyData.keyHash w.params "weak", .str "weak" k_qwz_7,.int 2 v_qwz_7⟩,⟨PyData.keyHash w.params "own", .str "own" k_qwz_8,.int 2 v_qwz_8⟩] n_qwz,#[]⟩)
  (s_qwz:(h7 == sysModules)=false)
  (zu:nsIn K mainGlobals "LETTERS" = some (some (.str "abcdefghijklmnopqrstuvwxyz" va)))
  (zh:nsIn K mainGlobals "NAME_SIGNS" = some (some (.str "abcdefghijklmnopqrstuvwxyz0123456789_" vj)))
  (dM:nsIn K mainGlobals "ValueError" = some none)
  (ur:nsIn K mainGlobals "all" = some none)
  (ro:nsIn K mainGlobals "bool" = some none)
  (cQ:nsIn K mainGlobals "enumerate" = some none)
  (ky:nsIn K mainGlobals "int" = some none)
  (bQ:nsIn K mainGlobals "isinstance" = some none)
  (cF:nsIn K mainGlobals "len" = some none)
  (yc:nsIn K mainGlobals "max" = some none)
  (hW:nsIn K mainGlobals "range" = some none)
  (dW:nsIn K mainGlobals "str" = some none):
  ∃fd:FuncData,(∀(s:Shared) (v:Value),BindsTo s fd ⟨[v],[]⟩ [("_law_script", v)])/\∀base:Heap,K.In base->base.Ns mainGlobals mg->bo l.prog w K mg base eI 14 fa fd ["_law_script"] (tH K):=by
 have e:=hfa.symm.trans (mg_of X G a_law);cases e;obtain⟨_,y9,J0⟩:=bf l_qqk;have By:=y9.binds (ps:=["self", "row"]) λ_ _ _ _ _ _ us hl=>jg us hl λ_ _=>rfl;obtain⟨_,yN,Ft⟩:=bf l_qkz;have C5:=yN.binds (ps:=["title"]) λ_ _ _ _ _ _ us hl=>gH us hl λ_=>rfl;obtain⟨_,zi,JK⟩:=bf l_qwx;have kU:=zi.binds (ps:=["self", "title"]) λ_ _ _ _ _ _ us hl=>jg us hl λ_ _=>rfl;obtain⟨_,xI,u3⟩:=bf l_qkx;have vw:=xI.binds (ps:=["text"]) λ_ _ _ _ _ _ us hl=>gH us hl λ_=>rfl;obtain⟨_,yy,vq⟩:=bf l_qxz;have uD:=yy.binds (ps:=["text", "least", "most"]) λ_ _ _ _ _ _ us hl=>wq us hl λ_ _ _=>rfl;obtain⟨_,xA,GQ⟩:=bf l_qkq;have EC:=xA.binds (ps:=["text"]) λ_ _ _ _ _ _ us hl=>gH us hl λ_=>rfl;obtain⟨_,yJ,Gk⟩:=bf l_qxy;have FR:=yJ.binds (ps:=["text"]) λ_ _ _ _ _ _ us hl=>gH us hl λ_=>rfl;obtain⟨_,yK,uu⟩:=bf l_qyz;have uT:=yK.binds (ps:=["text"]) λ_ _ _ _ _ _ us hl=>gH us hl λ_=>rfl;obtain⟨_,zz,JC⟩:=bf l_qqj;have Br:=zz.binds (ps:=["self"]) λ_ _ _ _ _ _ us hl=>gH us hl λ_=>rfl;obtain⟨_,ya,FA⟩:=bf l_qwy;have Gn:=ya.binds (ps:=["self", "parts"]) λ_ _ _ _ _ _ us hl=>jg us hl λ_ _=>rfl;obtain⟨_,zJ,Em⟩:=bf l_qqw;have G2:=zJ.binds (ps:=["self", "name"]) λ_ _ _ _ _ _ us hl=>jg us hl λ_ _=>rfl;obtain⟨_,zK,FV⟩:=bf l_qqq
 have Fw:=zK.binds (ps:=["self", "kind", "text"]) λ_ _ _ _ _ _ us hl=>wq us hl λ_ _ _=>rfl;obtain⟨_,y6,Es⟩:=bf l_qqx;have Ct:=y6.binds (ps:=["self", "text"]) λ_ _ _ _ _ _ us hl=>jg us hl λ_ _=>rfl;obtain⟨_,zo,Gd⟩:=bf l_qqy;have CI:=zo.binds (ps:=["self", "soft", "rule", "name", "text"]) λ_ _ _ _ _ _ us hl=>QA us hl λ_ _ _ _ _=>rfl;obtain⟨_,xi,DQ⟩:=bf l_qqz;have EG:=xi.binds (ps:=["self", "sort", "name"]) λ_ _ _ _ _ _ us hl=>wq us hl λ_ _ _=>rfl;obtain⟨_,xD,F1⟩:=bf l_qyq;have DL:=xD.binds (ps:=["piece"]) λ_ _ _ _ _ _ us hl=>gH us hl λ_=>rfl;obtain⟨_,xp,GI⟩:=bf l_qxq;have C_:=xp.binds (ps:=["names"]) λ_ _ _ _ _ _ us hl=>gH us hl λ_=>rfl;obtain⟨_,zg,F_⟩:=bf l_qzq;have BA:=zg.binds (ps:=["number", "stretch", "names"]) λ_ _ _ _ _ _ us hl=>wq us hl λ_ _ _=>rfl;obtain⟨_,xC,BM⟩:=bf l_qyv;have Fe:=xC.binds (ps:=["fills"]) λ_ _ _ _ _ _ us hl=>gH us hl λ_=>rfl;obtain⟨_,yH,BU⟩:=bf l_qyj;have FL:=yH.binds (ps:=["_law_found"]) λ_ _ _ _ _ _ us hl=>gH us hl λ_=>rfl;obtain⟨_,xk,lh⟩:=bf l_qzv;have kN:=xk.binds (ps:=["_law_script", "_law_k"]) λ_ _ _ _ _ _ us hl=>jg us hl λ_ _=>rfl;obtain⟨_,xa,mq⟩:=bf l_qzw;have mE:=xa.binds (ps:=["_law_cell", "_law_k"]) λ_ _ _ _ _ _ us hl=>jg us hl λ_ _=>rfl;obtain⟨_,yP,GN⟩:=bf l_qyw
 have GB:=yP.binds (ps:=["_law_number"]) λ_ _ _ _ _ _ us hl=>gH us hl λ_=>rfl;obtain⟨_,xb,Bf⟩:=bf l_qzy;have Ex:=xb.binds (ps:=["_law_number", "_law_at", "_law_names_by"]) λ_ _ _ _ _ _ us hl=>wq us hl λ_ _ _=>rfl;obtain⟨_,xH,Bg⟩:=bf l_qwj;have BD:=xH.binds (ps:=["_law_fill"]) λ_ _ _ _ _ _ us hl=>gH us hl λ_=>rfl;obtain⟨_,zm,ye⟩:=bf l_qzx;have yr:=zm.binds (ps:=["_law_cell"]) λ_ _ _ _ _ _ us hl=>gH us hl λ_=>rfl;obtain⟨_,za,BS⟩:=bf l_qxk;have Fz:=za.binds (ps:=["_law_cell", "_law_names_by", "_law_stretches", "_law_told"]) λ_ _ _ _ _ _ us hl=>ME us hl λ_ _ _ _=>rfl;obtain⟨_,x_,D3⟩:=bf l_qyk;have Bh:=x_.binds (ps:=["_law_script"]) λ_ _ _ _ _ _ us hl=>gH us hl λ_=>rfl;obtain⟨_,yW,GC⟩:=bf l_qqv;have Gz:=yW.binds (ps:=["_law_number", "_law_name"]) λ_ _ _ _ _ _ us hl=>jg us hl λ_ _=>rfl;obtain⟨_,yf,CD⟩:=bf l_qwk;have BH:=yf.binds (ps:=["_law_number", "_law_name"]) λ_ _ _ _ _ _ us hl=>jg us hl λ_ _=>rfl;obtain⟨_,xT,xM⟩:=bf l_qzj;have yL:=xT.binds (ps:=["_law_number", "_law_name"]) λ_ _ _ _ _ _ us hl=>jg us hl λ_ _=>rfl;obtain⟨_,yg,BW⟩:=bf l_qww;have Gx:=yg.binds (ps:=["_law_number", "_law_name"]) λ_ _ _ _ _ _ us hl=>jg us hl λ_ _=>rfl;obtain⟨_,yq,D2⟩:=bf l_qwq
 have Ge:=yq.binds (ps:=["_law_rows", "_law_at", "_law_number"]) λ_ _ _ _ _ _ us hl=>wq us hl λ_ _ _=>rfl;obtain⟨_,yQ,Dj⟩:=bf l_qzk;have Gv:=yQ.binds (ps:=["_law_rows", "_law_way", "_law_at", "_law_number"]) λ_ _ _ _ _ _ us hl=>ME us hl λ_ _ _ _=>rfl;obtain⟨_,zH,GS⟩:=bf l_qzz;have Gw:=zH.binds (ps:=["_law_text"]) λ_ _ _ _ _ _ us hl=>gH us hl λ_=>rfl;obtain⟨_,xf,DS⟩:=bf l_qwv;have Be:=xf.binds (ps:=["_law_told", "_law_due"]) λ_ _ _ _ _ _ us hl=>jg us hl λ_ _=>rfl;obtain⟨_,yt,CU⟩:=bf l_qyx;have DX:=yt.binds (ps:=["_law_rows", "_law_cell", "_law_other"]) λ_ _ _ _ _ _ us hl=>wq us hl λ_ _ _=>rfl;obtain⟨_,_,_,_,_,_,_,_,_,l_law,e_law,FN⟩:=l_law;have yS:=Dq l_law e_law FN;have Jr:=yS.binds (ps:=["_law_script"]) λ_ _ _ _ _ _ us hl=>gH us hl λ_=>rfl
 have T:Txt w K mg { JV:=f_qqk,qb:=_,N9:=f_qkz,sd:=_,HA:=f_qwx,qU:=_,NC:=f_qkx,oA:=_,Oz:=f_qxz,pZ:=_,OK:=f_qkq,tK:=_,NG:=f_qxy,sX:=_,Pj:=f_qyz,p9:=_,MP:=f_qqj,tj:=_,N0:=f_qwy,rE:=_,Of:=f_qqw,qW:=_,MD:=f_qqq,m7:=_,Mv:=f_qqx,pT:=_,M4:=f_qqy,tL:=_,Nq:=f_qqz,tE:=_,NW:=f_qyq,sP:=_,Pb:=f_qxq,n6:=_,N7:=f_qzq,mW:=_,Ow:=f_qyv,om:=_,Oc:=f_qyj,nO:=_,MO:=f_qzv,tN:=_,MV:=f_qzw,nW:=_,NU:=f_qyw,qy:=_,MG:=f_qzy,qO:=_,OF:=f_qwj,ot:=_,MA:=f_qzx,rD:=_,Og:=f_qxk,tG:=_,Oq:=f_qyk,pJ:=_,Ny:=f_qqv,m9:=_,Nd:=f_qwk,o2:=_,NR:=f_qzj,sk:=_,NX:=f_qww,o5:=_,MU:=f_qwq,tZ:=_,Nh:=f_qzk,mZ:=_,MF:=f_qzz,qZ:=_,NO:=f_qwv,rN:=_,N6:=f_qyx,t7:=_,Oa:=fa,og:=_,uF:=uF,h7:=h7,va:=va,vj:=vj,gP:=C_High,iu:=C_qxw,kD:=C_Lost,lG:=C_Low,gQ:=C_Near,uL:=C_qkv,bI:=C_qxj,dF:=C_qjq,vf:=C_qkj,uz:=C_qkk,bt:=C_qxv,vh:=C_qxx,kH:=C_qjk,uI:=C_qjw,uN:=C_qjx,uA:=C_qjz,kJ:=C_qjy }:={
  J0,
  By,
  y9,
  JG:=mg_of X G a_qkz
  Ft,
  C5,
  yN,
  JK,
  kU,
  zi,
  yD:=mg_of X G a_qkx
  u3,
  vw,
  xI,
  xm:=mg_of X G a_qxz
  vq,
  uD,
  yy,
  JE:=mg_of X G a_qkq
  GQ,
  EC,
  xA,
  J5:=mg_of X G a_qxy
  Gk,
  FR,
  yJ,
  xU:=mg_of X G a_qyz
  uu,
  uT,
  yK,
  JC,
  Br,
  zz,
  FA,
  Gn,
  ya,
  Em,
  G2,
  zJ,
  FV,
  Fw,
  zK,
  Es,
  Ct,
  y6,
  Gd,
  CI,
  zo,
  DQ,
  EG,
  xi,
  Jj:=mg_of X G a_qyq
  F1,
  DL,
  xD,
  Jm:=mg_of X G a_qxq
  GI,
  C_,
  xp,
  Jl:=mg_of X G a_qzq
  F_,
  BA,
  zg,
  JQ:=mg_of X G a_qyv
  BM,
  Fe,
  xC,
  JX:=mg_of X G a_qyj
  BU,
  FL,
  yH,
  mS:=mg_of X G a_qzv
  lh,
  kN,
  xk,
  vo:=mg_of X G a_qzw
  mq,
  mE,
  xa,
  JR:=mg_of X G a_qyw
  GN,
  GB,
  yP,
  JW:=mg_of X G a_qzy
  Bf,
  Ex,
  xb,
  JZ:=mg_of X G a_qwj
  Bg,
  BD,
  xH,
  EO:=mg_of X G a_qzx
  ye,
  yr,
  zm,
  IP:=mg_of X G a_qxk
  BS,
  Fz,
  za,
  JJ:=mg_of X G a_qyk
  D3,
  Bh,
  x_,
  JP:=mg_of X G a_qqv
  GC,
  Gz,
  yW,
  Js:=mg_of X G a_qwk
  CD,
  BH,
  yf,
  EE:=mg_of X G a_qzj
  xM,
  yL,
  xT,
  JS:=mg_of X G a_qww
  BW,
  Gx,
  yg,
  Jx:=mg_of X G a_qwq
  D2,
  Ge,
  yq,
  JL:=mg_of X G a_qzk
  Dj,
  Gv,
  yQ,
  Jf:=mg_of X G a_qzz
  GS,
  Gw,
  zH,
  Jc:=mg_of X G a_qwv
  DS,
  Be,
  xf,
  IW:=mg_of X G a_qyx
  CU,
  DX,
  yt,
  O7:=mg_of X G a_law
  FN,
  Jr,
  yS,
  xY:=mg_of X G xY
  xn:=mg_of X G xn
  zu:=mg_of X G zu
  zh:=mg_of X G zh
  IY:=⟨s_qwz,[("piece", k_qwz_0,.int 2 v_qwz_0),("code", k_qwz_1,.int 2 v_qwz_1),("data", k_qwz_2,.int 2 v_qwz_2),("word", k_qwz_3,.int 2 v_qwz_3),("fill", k_qwz_4,.int 4 v_qwz_4),("soft", k_qwz_5,.int 4 v_qwz_5),("tell", k_qwz_6,.int 2 v_qwz_6),("weak", k_qwz_7,.int 2 v_qwz_7),("own", k_qwz_8,.int 2 v_qwz_8)],n_qwz,l_qwz,(by show(["piece", "code", "data", "word", "fill", "soft", "tell", "weak", "own"]:List Str).Nodup;decide +kernel),.cons ⟨rfl,qN⟩ (.cons ⟨rfl,qN⟩ (.cons ⟨rfl,qN⟩ (.cons ⟨rfl,qN⟩ (.cons ⟨rfl,qN⟩ (.cons ⟨rfl,qN⟩ (.cons ⟨rfl,qN⟩ (.cons ⟨rfl,qN⟩ (.cons ⟨rfl,qN⟩ (.nil)))))))))⟩
  dM:=mg_none_of X G dM
  ur:=mg_none_of X G ur
  ro:=mg_none_of X G ro
  cQ:=mg_none_of X G cQ
  ky:=mg_none_of X G ky
  bQ:=mg_none_of X G bQ
  cF:=mg_none_of X G cF
  yc:=mg_none_of X G yc
  hW:=mg_none_of X G hW
  dW:=mg_none_of X G dW
  yU:=mg_of X G ac_High
  x8:=⟨pg_High,hd_High,po_High,sa_High⟩
  wA:=mg_of X G ac_qxw
  zw:=mg_of X G ac_Lost
  Fv:=mg_of X G ac_Low
  DB:=⟨pg_Low,hd_Low,po_Low,sa_Low⟩
  xZ:=mg_of X G ac_Near
  yw:=⟨pg_Near,hd_Near,po_Near,sa_Near⟩
  B9:=mg_of X G ac_qkv
  wx:=mg_of X G ac_qxj
  nR:=mg_of X G ac_qjq
  Bq:=mg_of X G ac_qkj
  GL:=mg_of X G ac_qkk
  D6:=mg_of X G ac_qxv
  aD:=⟨pg_qxv,hd_qxv,po_qxv,sa_qxv⟩
  Cs:=mg_of X G ac_qxx
  B8:=mg_of X G ac_qjk
  BG:=⟨pg_qjk,hd_qjk,po_qjk,sa_qjk⟩
  F9:=mg_of X G ac_qjw
  D4:=mg_of X G ac_qjx
  Bc:=mg_of X G ac_qjz
  BF:=mg_of X G ac_qjy
  Ei:=⟨pg_qjy,hd_qjy,po_qjy,sa_qjy⟩
  kj,
  Ie,
  K4,
  Km,
  ka,
  mj,
  Dn,
  BJ,
  CL,
  E_,
  Ec,
  vR,
  v3,
  wb,
  vO,
  vK,
  Fs,
  Ed,
  wJ,
  wt,
  vG,
  wk,
  vH,
  wj,
  v8,
  vE,
  vL,
  vW,
  v5,
  sY:=⟨wt,vG,wk,i_qqk⟩
  FZ:=⟨vH,wj,v8⟩
  yu:=⟨mm_High,a_qwx,i_qwx,kc_High⟩
  Bx:=⟨mm_Low,fi_Low,i_qwx,kc_Low⟩
  zv:=⟨mm_Near,fi_Near,i_qwx,kc_Near⟩
  Dz:=⟨mm_qxv,a_qqj,i_qqj,kc_qxv⟩
  FY:=⟨mm_qjk,fi_qjk,i_qwx,kc_qjk⟩
  DT:=⟨mm_qjy,fi_qjy,i_qwx,kc_qjy⟩
  E6:=⟨a_qwy,i_qwy,FA⟩
  Ef:=⟨a_qqy,i_qqy,Gd⟩
  EF:=⟨a_qqw,i_qqw,Em⟩
  FP:=⟨a_qqq,i_qqq,FV⟩
  CP:=⟨a_qqz,i_qqz,DQ⟩
  F2:=⟨a_qqx,i_qqx,Es⟩
  d7,
  cO,
  bA,
  cU,
  ar,
  a8,
  du,
  bB,
  fe,
  eO,
  fu,
  eP,
  dJ:=dJ }
 exact⟨_,λs v=>.of_eq rfl,λbase _ _=>Ph T⟩
theorem walk{l:PySem.W.OpenLaw}{q:Program}{loose:List Str}{XP:(Str->Option Value)->Heap->Prop}{YP:World->Heap->Prop}{d:DefRec}{K:Params->Wf}(hn:l.most=some 63)(hdf:d.params.defaults=[])
  (hY:∀(w:World) (h:Heap),YP w h->(K w.params).In h)
  (F:∀(w:World) (mg:So) (fa:Addr) (h:Heap),(K w.params).In h->h.Ns mainGlobals mg->mg d.name=some (.ref fa)->
   ∃fd:FuncData,(∀(s:Shared) (u:Value),BindsTo s fd ⟨[u],[]⟩ [("_law_script", u)])/\∀base:Heap,(K w.params).In base->base.Ns mainGlobals mg->bo l.prog w (K w.params) mg base eI 14 fa fd ["_law_script"] (tH (K w.params))):
  PySem.W.WalkO q loose XP YP l.row.toRowW d [] (λf vs=>PySem.call f vs):=
 L2.Hs (n:=63) (k:=14) (x := "_law_script") (CX:=λ_=>eI) (sp:=λw=>tH (K w.params)) hn (by decide) hdf ⟨rfl,by decide,by decide⟩ hY F (λ_ _ a ns hl _ hS=>⟨a,ns,rfl,hS,hl,λ_=>rfl⟩) λ_ _ _ _ _ z=>z
end My
namespace Hd
open PySem PySem.W PySem.Calls PyProof.Rows
variable(P:Params)
noncomputable abbrev pw:Program:=PySem.Challenge.pw_joinload_k14_the_first_bad_row
noncomputable def T(i:Nat):Stmt:=My.top i
noncomputable def C(i j:Nat):Stmt:=L2.inClass (My.top i) j
noncomputable abbrev k(P:Params)(x:Str)(t:Tok)(v:Value):DictEntry:=⟨PyData.keyHash P x,.str x t,v⟩
noncomputable abbrev fn(s:Stmt)(x q:Str)(dV kV doc pm:Value)(an:Option Addr)(cd ct:Value):FuncData:=fnOf x q (L2.gA s) (L2.eE s) (L2.av s) dV kV doc pm an cd ct
noncomputable abbrev e1:Obj:=⟨.type "tuple", none,.seq #[] 0,#[]⟩
noncomputable abbrev e2:Obj:=⟨.none,none,.fields #[],#[]⟩
noncomputable abbrev bp:Obj:=⟨.type "builtin_function_or_method", none,.fields #[.builtin "type.__prepare__", .type "type"],#[]⟩
noncomputable abbrev tu(x:Array Value):Obj:=⟨.type "tuple", none,.seq x 0,#[]⟩
noncomputable abbrev nf(x:Array Value):Obj:=⟨.none,none,.fields x,#[]⟩
noncomputable abbrev bs(a:Addr):Obj:=⟨.type "builtin_function_or_method", none,.fields #[.builtin "object.__init_subclass__", .ref a],#[]⟩
noncomputable abbrev su(a:Addr):Obj:=⟨.type "super", none,.fields #[.ref a,.ref a,.ref a],#[]⟩
noncomputable abbrev co(x q:Str)(t:Nat)(l a b:Int)(r:Addr)(o:Bool)(r2:Addr)(v:Value)(u:Nat):Obj:=⟨.type "code", none,.fields #[.str x t,.str q (t+1),.str "/claim/cut.py" (t+2),.int l 0,.int a 0,.int 0 0,.int 0 0,.int b 0,.ref r,.bool o,.int 181 0,.ref r2,.none,.none,.none,v,.int (Int.ofNat u) 0,.int l 0,.str "/claim/cut.py" (u+1)],#[]⟩
noncomputable abbrev cf(x q:Str)(t:Nat)(l a:Int)(r u:Nat):Obj:=⟨.type "code", none,.fields #[.str x t,.str q (t+1),.str "/claim/cut.py" (t+2),.int l 0,.int a 0,.int 0 0,.int 0 0,.int 3 0,.ref r,.bool true,.int 181 0,.ref (r+1),.none,.ref (r+2),.ref (r+3),.ref (r+4),.int (Int.ofNat u) 0,.int l 0,.str "/claim/cut.py" (u+1)],#[]⟩
noncomputable abbrev cc(x:Str)(b:Value)(s:Addr)(m:List Value)(d:Addr)(l:List Value)(o:Option Value)(t u:Nat)(n:String):Obj:=⟨.type "type", none,.cls ⟨x,[b],.ref s::m,d,x,true,[],l,false,none,false⟩,#[o,none,some (.str x t),some (.str x u),some (.builtin n),some (.bool true)]⟩
noncomputable def nl:List Nat->List Value
 |a::b::c::r=>.int (Int.ofNat a) 0::.int (Int.ofNat b) 0::.ref c::nl r
 |_=>[]
noncomputable abbrev fm(a b:Addr)(v:Value):Obj:=⟨.type "frame", none,.plain,#[some (.ref a),some (.ref 3),some (.ref b),none,some v,none,some (.ref 0)]⟩
noncomputable abbrev fo(s:Stmt)(x q m:Str)(t:Nat)(c:Addr):Obj:=⟨.type "function", none,.func (fn s x q .none .none .none (.str m t) none (.ref c) .none),#[]⟩
noncomputable abbrev ft(s:Stmt)(x q:Str):Obj:=⟨.none,none,.func { fn s x q .none .none .none .none none .none .none with globals:=0,closure:=[],builtins:=0 },#[]⟩
noncomputable abbrev di(l:List DictEntry)(n:Nat):Obj:=⟨.type "dict", none,.dict l.toArray n,#[]⟩
noncomputable def sv:List DictEntry->Nat->Value->List DictEntry
 |[],_,_=>[]
 |e::r,0,v=>⟨e.hash,e.key,v⟩::r
 |e::r,n+1,v=>e::sv r n v
noncomputable def od:List (Nat×Obj)->List (Nat×Obj)
 |[]=>[]
 | (i,o)::r=>match Nat.beq (i % 2) 1 with
  |true=>(i / 2,o)::od r
  |false=>od r
noncomputable def ev:List (Nat×Obj)->List (Nat×Obj)
 |[]=>[]
 | (i,o)::r=>match Nat.beq i 0 with
  |true=>ev r
  |false=>match Nat.beq (i % 2) 1 with
   |true=>ev r
   |false=>(i / 2 - 1,o)::ev r
noncomputable def N8(v:Obj):List (Nat×Obj)->Obj
 |[]=>v
 | (i,o)::r=>match Nat.beq i 0 with
  |true=>o
  |false=>N8 v r
noncomputable def mg:Nat->BT->List (Nat×Obj)->BT
 |0,t,_=>t
 |f+1,t,d=>match d with
  |[]=>t
  |x::r=>match t with
   |.nil=>.node (N8 default (x::r)) (mg f .nil (od (x::r))) (mg f .nil (ev (x::r)))
   |.node v a b=>.node (N8 v (x::r)) (mg f a (od (x::r))) (mg f b (ev (x::r)))
noncomputable def bd:List Stmt:=behindTheImports pw
noncomputable def en:Env:={ scope:=pw.main.scope,locals:=mainNs,globals:=mainNs,cells:=[],code:=(.ref 13),frame:=some 14 }
noncomputable abbrev cE:Code:=.body bd en
noncomputable abbrev B:List Frame:=[topFrame ⟨0,0,0,0⟩]
noncomputable def li:Life:={ registered:=[],finalised:=[],alive:=[],known:=0,ids:=[],orphanDicts:=[],counting:=false,cnt:=⟨[]⟩,zero:=[],soft:=0,below:=false,collecting:=false,loading:=false,debug:=0,thresholds:=[2000,10,10],woke:=false,asked:=0,gcEnabled:=true,old:=[],middle:=[],young:=0,intoMiddle:=false }
noncomputable abbrev an:Option Value:=(some (.ref 6))
noncomputable abbrev sT(t:BT)(n k:Nat)(os:OsState):SharedT:=⟨t,n,li,⟨[]⟩,boot_drawn,k,os⟩
noncomputable abbrev sR(w:World)(n:Nat)(S S':World->OsState->SharedT)(l:List Stmt)(p p':Pos):Prop:=(λos=>segRunT treeTable pw w 11 an 1 n (S w os) (piecesOf l en cE p B))=λos=>some (.next,S' w os,cE,p')
noncomputable def GF:Obj:=co "<module>" "<module>" 182 1 0 0 11 false 12 .none 185
noncomputable def B0:Obj:=fm 13 3 (.str "__main__" 164)
noncomputable def Ha(P:Params):Heap:=⟨⟨boot_o_0 P::boot_o_1 P::boot_o_2 P::boot_o_3 P::boot_o_4 P::boot_o_5 P::boot_o_6 P::boot_o_7 P::boot_o_8 P::boot_o_9 P::boot_o_10 P::e1::e2::GF::B0::[]⟩,li⟩
noncomputable def S0(w:World)(os:OsState):Shared:=⟨boot_heap w.params,⟨[]⟩,boot_drawn,boot_toks,os⟩
noncomputable def Sa(w:World)(os:OsState):Shared:=⟨Ha w.params,⟨[]⟩,boot_drawn,187,os⟩
def Pre(w:World):Prop:=(λos=>topGo treeTable pw w 11 an 12 (S0 w os) (topStub pw))=λos=>some (Sa w os,⟨denote treeTable cE,cE,⟨0,0,0,0⟩,B⟩)
noncomputable def D0(P:Params):List (Nat×Obj):=(0,boot_o_0 P)::(1,boot_o_1 P)::(2,boot_o_2 P)::(3,boot_o_3 P)::(4,boot_o_4 P)::(5,boot_o_5 P)::(6,boot_o_6 P)::(7,boot_o_7 P)::(8,boot_o_8 P)::(9,boot_o_9 P)::(10,boot_o_10 P)::(11,e1)::(12,e2)::(13,GF)::(14,B0)::[]
noncomputable def T0(P:Params):BT:=mg 14 .nil (D0 P)
noncomputable def Se(w:World):OsState->SharedT:=sT (T0 w.params) 15 187
def SD(w:World):Prop:=(λos=>segRun treeTable pw w 11 an 1 1 (Sa w os) (blockOf bd en cE ⟨0,0,0,0⟩ B))=λos=>some (.next,(Se w os).abs,cE,⟨0,0,0,0⟩)
noncomputable def OA(P:Params):List DictEntry:=[k P "__name__" 165 (.str "joinload.errors" 194),k P "__doc__" 166 .none,k P "__package__" 167 .none,k P "__loader__" 168 (.builtin "__main__.__loader__#opaque"),k P "__spec__" 169 .none,k P "__annotations__" 170 (.ref 6),k P "__builtins__" 171 (.ref 4),k P "__file__" 173 (.str "/claim/cut.py" 172),k P "__cached__" 174 .none,k P "_wall" 193 (.ref 21),k P "JoinError" 213 (.ref 31),k P "NoRule" 229 (.ref 44),k P "NoPiece" 254 (.ref 63)]
noncomputable def Qj:Obj:=⟨(.type "dict"),none,.dict (OA P).toArray 13,#[]⟩
noncomputable def MH:Obj:=nf (nl [1,0,20,5,0,27,7,0,40,9,0,52]).toArray
noncomputable def x6:Obj:=tu #[.str "k" 190]
noncomputable def J8:Obj:=ft (T 0) "_wall" "_wall"
noncomputable def yG:Obj:=cf "_wall" "_wall" 187 1 1 15 191
noncomputable def yE:Obj:=fo (T 0) "_wall" "_wall" "__main__" 164 20
noncomputable def Ji:=di [k P "__module__" 203 (.str "joinload.errors" 194),k P "__qualname__" 205 (.str "JoinError" 204),k P "__firstlineno__" 207 (.int 5 206),k P "__static_attributes__" 208 (.ref 29)] 4
noncomputable def IU:Obj:=co "JoinError" "JoinError" 198 5 0 0 25 false 26 .none 201
noncomputable def IM:Obj:=fm 27 24 (.str "joinload.errors" 194)
noncomputable def zr:=di [k P "__module__" 203 (.str "joinload.errors" 194),k P "__firstlineno__" 207 (.int 5 206),k P "__static_attributes__" 208 (.ref 29),k P "__weakref__" 210 (.ref 32),k P "__doc__" 211 .none] 3
noncomputable def NS:Obj:=cc "JoinError" (.type "ValueError") 31 [.type "ValueError",.type "Exception",.type "BaseException",.type "object"] 30 [.ref 44,.ref 63] (some (.ref 22)) 196 204 "ValueError.__new__"
noncomputable def xu:Obj:=⟨(.type "getset_descriptor"),none,(.fields #[.str "__weakref__" 209,.ref 31,.builtin "ExceptionGroup.__weakref__",.none]),#[]⟩
noncomputable def JI:=di [k P "__module__" 221 (.str "joinload.errors" 194),k P "__qualname__" 223 (.str "NoRule" 222),k P "__firstlineno__" 225 (.int 7 224),k P "__static_attributes__" 226 (.ref 42)] 4
noncomputable def JA:Obj:=co "NoRule" "NoRule" 216 7 0 0 38 false 39 .none 219
noncomputable def JT:Obj:=fm 40 37 (.str "joinload.errors" 194)
noncomputable def yM:=di [k P "__module__" 221 (.str "joinload.errors" 194),k P "__firstlineno__" 225 (.int 7 224),k P "__static_attributes__" 226 (.ref 42),k P "__doc__" 227 .none] 2
noncomputable def zk:Obj:=cc "NoRule" (.ref 31) 44 [.ref 31,.type "ValueError",.type "Exception",.type "BaseException",.type "object"] 43 [] (some (.ref 35)) 214 222 "ValueError.__new__"
noncomputable def Jh:=di [k P "__module__" 237 (.str "joinload.errors" 194),k P "__qualname__" 239 (.str "NoPiece" 238),k P "__firstlineno__" 241 (.int 9 240),k P "__init__" 249 (.ref 60),k P "__static_attributes__" 251 (.ref 61)] 5
noncomputable def Jg:Obj:=nf (nl [11,4,59]).toArray
noncomputable def Jk:Obj:=co "NoPiece" "NoPiece" 232 9 0 0 50 false 51 .none 235
noncomputable def Jn:Obj:=fm 52 49 (.str "joinload.errors" 194)
noncomputable def yV:Obj:=tu #[.str "self" 245,.str "row" 246]
noncomputable def Je:Obj:=ft (C 4 0) "__init__" "NoPiece.__init__"
noncomputable def xK:Obj:=cf "__init__" "NoPiece.__init__" 242 11 2 54 247
noncomputable def yo:Obj:=fo (C 4 0) "__init__" "NoPiece.__init__" "joinload.errors" 194 59
noncomputable def ze:Obj:=tu #[.str "row" 250]
noncomputable def xQ:=di [k P "__module__" 237 (.str "joinload.errors" 194),k P "__firstlineno__" 241 (.int 9 240),k P "__init__" 249 (.ref 60),k P "__static_attributes__" 251 (.ref 61),k P "__doc__" 252 .none] 2
noncomputable def yi:Obj:=cc "NoPiece" (.ref 31) 63 [.ref 31,.type "ValueError",.type "Exception",.type "BaseException",.type "object"] 62 [] (some (.ref 47)) 230 238 "ValueError.__new__"
noncomputable def Q2(P:Params)(r:List (Nat×Obj)):List (Nat×Obj):=(3,Qj P)::(12,MH)::(15,e1)::(16,e2)::(17,x6)::(18,e1)::(19,J8)::(20,yG)::(21,yE)::(22,tu #[.type "ValueError"])::(23,bp)::(24,Ji P)::(25,e1)::(26,e2)::(27,IU)::(28,IM)::(29,e1)::(30,zr P)::(31,NS)::(32,xu)::(33,su 31)::(34,bs 31)::(35,tu #[.ref 31])::(36,bp)::r
noncomputable def Q_(P:Params)(r:List (Nat×Obj)):List (Nat×Obj):=(37,JI P)::(38,e1)::(39,e2)::(40,JA)::(41,JT)::(42,e1)::(43,yM P)::(44,zk)::(45,su 44)::(46,bs 44)::(47,tu #[.ref 31])::(48,bp)::(49,Jh P)::(50,e1)::(51,Jg)::(52,Jk)::(53,Jn)::(54,e1)::(55,e2)::(56,yV)::(57,e1)::(58,Je)::(59,xK)::(60,yo)::r
noncomputable def Sn(P:Params)(r:List (Nat×Obj)):List (Nat×Obj):=(61,ze)::(62,xQ P)::(63,yi)::(64,su 63)::(65,bs 63)::r
noncomputable def T1(P:Params):BT:=mg 14 (T0 P) (Q2 P (Q_ P (Sn P ([]))))
noncomputable def Tg(w:World):OsState->SharedT:=sT (T1 w.params) 66 255
noncomputable def L0:List Stmt:=My.top 0::My.top 1::My.top 2::My.top 3::My.top 4::[]
def P0(w:World):Prop:=sR w 683 Se Tg L0 ⟨0,0,0,0⟩ ⟨9,0,13,22⟩
noncomputable def OW(P:Params):List DictEntry:=OA P++[k P "Twice" 283 (.ref 82),k P "SameName" 308 (.ref 101),k P "Unmet" 335 (.ref 120)]
noncomputable def RI:Obj:=⟨(.type "dict"),none,.dict (OW P).toArray 16,#[]⟩
noncomputable def OP:Obj:=nf (nl [1,0,20,5,0,27,7,0,40,9,0,52,14,0,71,21,0,90,26,0,109]).toArray
noncomputable def Pa:Obj:=cc "JoinError" (.type "ValueError") 31 [.type "ValueError",.type "Exception",.type "BaseException",.type "object"] 30 [.ref 44,.ref 63,.ref 82,.ref 101,.ref 120] (some (.ref 22)) 196 204 "ValueError.__new__"
noncomputable def IT:=di [k P "__module__" 262 (.str "joinload.errors" 194),k P "__qualname__" 264 (.str "Twice" 263),k P "__firstlineno__" 266 (.int 14 265),k P "__init__" 276 (.ref 79),k P "__static_attributes__" 280 (.ref 80)] 5
noncomputable def Jo:Obj:=nf (nl [16,4,78]).toArray
noncomputable def JN:Obj:=co "Twice" "Twice" 257 14 0 0 69 false 70 .none 260
noncomputable def Jv:Obj:=fm 71 68 (.str "joinload.errors" 194)
noncomputable def zD:Obj:=tu #[.str "self" 270,.str "name" 271,.str "one" 272,.str "other" 273]
noncomputable def JY:Obj:=ft (C 5 0) "__init__" "Twice.__init__"
noncomputable def zI:Obj:=cf "__init__" "Twice.__init__" 267 16 4 73 274
noncomputable def zt:Obj:=fo (C 5 0) "__init__" "Twice.__init__" "joinload.errors" 194 78
noncomputable def xq:Obj:=tu #[.str "name" 277,.str "one" 278,.str "other" 279]
noncomputable def xw:=di [k P "__module__" 262 (.str "joinload.errors" 194),k P "__firstlineno__" 266 (.int 14 265),k P "__init__" 276 (.ref 79),k P "__static_attributes__" 280 (.ref 80),k P "__doc__" 281 .none] 2
noncomputable def zf:Obj:=cc "Twice" (.ref 31) 82 [.ref 31,.type "ValueError",.type "Exception",.type "BaseException",.type "object"] 81 [] (some (.ref 66)) 255 263 "ValueError.__new__"
noncomputable def IQ:=di [k P "__module__" 291 (.str "joinload.errors" 194),k P "__qualname__" 293 (.str "SameName" 292),k P "__firstlineno__" 295 (.int 21 294),k P "__init__" 303 (.ref 98),k P "__static_attributes__" 305 (.ref 99)] 5
noncomputable def JB:Obj:=nf (nl [23,4,97]).toArray
noncomputable def IS:Obj:=co "SameName" "SameName" 286 21 0 0 88 false 89 .none 289
noncomputable def IL:Obj:=fm 90 87 (.str "joinload.errors" 194)
noncomputable def zd:Obj:=tu #[.str "self" 299,.str "name" 300]
noncomputable def Jp:Obj:=ft (C 6 0) "__init__" "SameName.__init__"
noncomputable def zG:Obj:=cf "__init__" "SameName.__init__" 296 23 2 92 301
noncomputable def yR:Obj:=fo (C 6 0) "__init__" "SameName.__init__" "joinload.errors" 194 97
noncomputable def yk:Obj:=tu #[.str "name" 304]
noncomputable def tD:=di [k P "__module__" 291 (.str "joinload.errors" 194),k P "__firstlineno__" 295 (.int 21 294),k P "__init__" 303 (.ref 98),k P "__static_attributes__" 305 (.ref 99),k P "__doc__" 306 .none] 2
noncomputable def sj:Obj:=cc "SameName" (.ref 31) 101 [.ref 31,.type "ValueError",.type "Exception",.type "BaseException",.type "object"] 100 [] (some (.ref 85)) 284 292 "ValueError.__new__"
noncomputable def Gm:=di [k P "__module__" 316 (.str "joinload.errors" 194),k P "__qualname__" 318 (.str "Unmet" 317),k P "__firstlineno__" 320 (.int 26 319),k P "__init__" 329 (.ref 117),k P "__static_attributes__" 332 (.ref 118)] 5
noncomputable def Fq:Obj:=nf (nl [28,4,116]).toArray
noncomputable def EA:Obj:=co "Unmet" "Unmet" 311 26 0 0 107 false 108 .none 314
noncomputable def Gf:Obj:=fm 109 106 (.str "joinload.errors" 194)
noncomputable def sh:Obj:=tu #[.str "self" 324,.str "name" 325,.str "piece" 326]
noncomputable def Fg:Obj:=ft (C 7 0) "__init__" "Unmet.__init__"
noncomputable def oo:Obj:=cf "__init__" "Unmet.__init__" 321 28 3 111 327
noncomputable def oG:Obj:=fo (C 7 0) "__init__" "Unmet.__init__" "joinload.errors" 194 116
noncomputable def qw:Obj:=tu #[.str "name" 330,.str "piece" 331]
noncomputable def rK:=di [k P "__module__" 316 (.str "joinload.errors" 194),k P "__firstlineno__" 320 (.int 26 319),k P "__init__" 329 (.ref 117),k P "__static_attributes__" 332 (.ref 118),k P "__doc__" 333 .none] 2
noncomputable def rn:Obj:=cc "Unmet" (.ref 31) 120 [.ref 31,.type "ValueError",.type "Exception",.type "BaseException",.type "object"] 119 [] (some (.ref 104)) 309 317 "ValueError.__new__"
noncomputable def Sq(P:Params)(r:List (Nat×Obj)):List (Nat×Obj):=(3,RI P)::(12,OP)::(31,Pa)::(66,tu #[.ref 31])::(67,bp)::(68,IT P)::(69,e1)::(70,Jo)::(71,JN)::(72,Jv)::(73,e1)::(74,e2)::(75,zD)::(76,e1)::(77,JY)::(78,zI)::(79,zt)::(80,xq)::(81,xw P)::(82,zf)::(83,su 82)::(84,bs 82)::(85,tu #[.ref 31])::(86,bp)::r
noncomputable def RT(P:Params)(r:List (Nat×Obj)):List (Nat×Obj):=(87,IQ P)::(88,e1)::(89,JB)::(90,IS)::(91,IL)::(92,e1)::(93,e2)::(94,zd)::(95,e1)::(96,Jp)::(97,zG)::(98,yR)::(99,yk)::(100,tD P)::(101,sj)::(102,su 101)::(103,bs 101)::(104,tu #[.ref 31])::(105,bp)::(106,Gm P)::(107,e1)::(108,Fq)::(109,EA)::(110,Gf)::r
noncomputable def Rf(P:Params)(r:List (Nat×Obj)):List (Nat×Obj):=(111,e1)::(112,e2)::(113,sh)::(114,e1)::(115,Fg)::(116,oo)::(117,oG)::(118,qw)::(119,rK P)::(120,rn)::(121,su 120)::(122,bs 120)::r
noncomputable def T2(P:Params):BT:=mg 14 (T1 P) (Sq P (RT P (Rf P ([]))))
noncomputable def S5(w:World):OsState->SharedT:=sT (T2 w.params) 123 336
noncomputable def L1:List Stmt:=My.top 5::My.top 6::My.top 7::[]
def P1(w:World):Prop:=sR w 742 Tg S5 L1 ⟨9,0,13,22⟩ ⟨26,0,31,26⟩
noncomputable def Nz(P:Params):List DictEntry:=OW P++[k P "TooFar" 366 (.ref 139),k P "NoWhole" 391 (.ref 158),k P "NoBase" 416 (.ref 177)]
noncomputable def RQ:Obj:=⟨(.type "dict"),none,.dict (Nz P).toArray 19,#[]⟩
noncomputable def Ox:Obj:=nf (nl [1,0,20,5,0,27,7,0,40,9,0,52,14,0,71,21,0,90,26,0,109,32,0,128,40,0,147,45,0,166]).toArray
noncomputable def NV:Obj:=cc "JoinError" (.type "ValueError") 31 [.type "ValueError",.type "Exception",.type "BaseException",.type "object"] 30 [.ref 44,.ref 63,.ref 82,.ref 101,.ref 120,.ref 139,.ref 158,.ref 177] (some (.ref 22)) 196 204 "ValueError.__new__"
noncomputable def Fc:=di [k P "__module__" 343 (.str "joinload.errors" 194),k P "__qualname__" 345 (.str "TooFar" 344),k P "__firstlineno__" 347 (.int 32 346),k P "__init__" 358 (.ref 136),k P "__static_attributes__" 363 (.ref 137)] 5
noncomputable def Bi:Obj:=nf (nl [34,4,135]).toArray
noncomputable def Eu:Obj:=co "TooFar" "TooFar" 338 32 0 0 126 false 127 .none 341
noncomputable def E3:Obj:=fm 128 125 (.str "joinload.errors" 194)
noncomputable def pK:Obj:=tu #[.str "self" 351,.str "name" 352,.str "piece" 353,.str "stretch" 354,.str "at" 355]
noncomputable def Ey:Obj:=ft (C 8 0) "__init__" "TooFar.__init__"
noncomputable def rQ:Obj:=cf "__init__" "TooFar.__init__" 348 34 5 130 356
noncomputable def r_:Obj:=fo (C 8 0) "__init__" "TooFar.__init__" "joinload.errors" 194 135
noncomputable def rM:Obj:=tu #[.str "at" 359,.str "name" 360,.str "piece" 361,.str "stretch" 362]
noncomputable def tR:=di [k P "__module__" 343 (.str "joinload.errors" 194),k P "__firstlineno__" 347 (.int 32 346),k P "__init__" 358 (.ref 136),k P "__static_attributes__" 363 (.ref 137),k P "__doc__" 364 .none] 2
noncomputable def sW:Obj:=cc "TooFar" (.ref 31) 139 [.ref 31,.type "ValueError",.type "Exception",.type "BaseException",.type "object"] 138 [] (some (.ref 123)) 336 344 "ValueError.__new__"
noncomputable def Cf:=di [k P "__module__" 374 (.str "joinload.errors" 194),k P "__qualname__" 376 (.str "NoWhole" 375),k P "__firstlineno__" 378 (.int 40 377),k P "__init__" 386 (.ref 155),k P "__static_attributes__" 388 (.ref 156)] 5
noncomputable def FC:Obj:=nf (nl [42,4,154]).toArray
noncomputable def EN:Obj:=co "NoWhole" "NoWhole" 369 40 0 0 145 false 146 .none 372
noncomputable def Cb:Obj:=fm 147 144 (.str "joinload.errors" 194)
noncomputable def r6:Obj:=tu #[.str "self" 382,.str "row" 383]
noncomputable def Dl:Obj:=ft (C 9 0) "__init__" "NoWhole.__init__"
noncomputable def ny:Obj:=cf "__init__" "NoWhole.__init__" 379 42 2 149 384
noncomputable def rG:Obj:=fo (C 9 0) "__init__" "NoWhole.__init__" "joinload.errors" 194 154
noncomputable def qc:Obj:=tu #[.str "row" 387]
noncomputable def pk:=di [k P "__module__" 374 (.str "joinload.errors" 194),k P "__firstlineno__" 378 (.int 40 377),k P "__init__" 386 (.ref 155),k P "__static_attributes__" 388 (.ref 156),k P "__doc__" 389 .none] 2
noncomputable def oj:Obj:=cc "NoWhole" (.ref 31) 158 [.ref 31,.type "ValueError",.type "Exception",.type "BaseException",.type "object"] 157 [] (some (.ref 142)) 367 375 "ValueError.__new__"
noncomputable def B1:=di [k P "__module__" 399 (.str "joinload.errors" 194),k P "__qualname__" 401 (.str "NoBase" 400),k P "__firstlineno__" 403 (.int 45 402),k P "__init__" 411 (.ref 174),k P "__static_attributes__" 413 (.ref 175)] 5
noncomputable def CM:Obj:=nf (nl [47,4,173]).toArray
noncomputable def DM:Obj:=co "NoBase" "NoBase" 394 45 0 0 164 false 165 .none 397
noncomputable def EW:Obj:=fm 166 163 (.str "joinload.errors" 194)
noncomputable def qB:Obj:=tu #[.str "self" 407,.str "base" 408]
noncomputable def Bz:Obj:=ft (C 10 0) "__init__" "NoBase.__init__"
noncomputable def pP:Obj:=cf "__init__" "NoBase.__init__" 404 47 2 168 409
noncomputable def tQ:Obj:=fo (C 10 0) "__init__" "NoBase.__init__" "joinload.errors" 194 173
noncomputable def mX:Obj:=tu #[.str "base" 412]
noncomputable def pE:=di [k P "__module__" 399 (.str "joinload.errors" 194),k P "__firstlineno__" 403 (.int 45 402),k P "__init__" 411 (.ref 174),k P "__static_attributes__" 413 (.ref 175),k P "__doc__" 414 .none] 2
noncomputable def rJ:Obj:=cc "NoBase" (.ref 31) 177 [.ref 31,.type "ValueError",.type "Exception",.type "BaseException",.type "object"] 176 [] (some (.ref 161)) 392 400 "ValueError.__new__"
noncomputable def RN(P:Params)(r:List (Nat×Obj)):List (Nat×Obj):=(3,RQ P)::(12,Ox)::(31,NV)::(123,tu #[.ref 31])::(124,bp)::(125,Fc P)::(126,e1)::(127,Bi)::(128,Eu)::(129,E3)::(130,e1)::(131,e2)::(132,pK)::(133,e1)::(134,Ey)::(135,rQ)::(136,r_)::(137,rM)::(138,tR P)::(139,sW)::(140,su 139)::(141,bs 139)::(142,tu #[.ref 31])::(143,bp)::r
noncomputable def Qy(P:Params)(r:List (Nat×Obj)):List (Nat×Obj):=(144,Cf P)::(145,e1)::(146,FC)::(147,EN)::(148,Cb)::(149,e1)::(150,e2)::(151,r6)::(152,e1)::(153,Dl)::(154,ny)::(155,rG)::(156,qc)::(157,pk P)::(158,oj)::(159,su 158)::(160,bs 158)::(161,tu #[.ref 31])::(162,bp)::(163,B1 P)::(164,e1)::(165,CM)::(166,DM)::(167,EW)::r
noncomputable def QN(P:Params)(r:List (Nat×Obj)):List (Nat×Obj):=(168,e1)::(169,e2)::(170,qB)::(171,e1)::(172,Bz)::(173,pP)::(174,tQ)::(175,mX)::(176,pE P)::(177,rJ)::(178,su 177)::(179,bs 177)::r
noncomputable def T3(P:Params):BT:=mg 14 (T2 P) (RN P (Qy P (QN P ([]))))
noncomputable def S9(w:World):OsState->SharedT:=sT (T3 w.params) 180 417
noncomputable def L2:List Stmt:=My.top 8::My.top 9::My.top 10::[]
def P2(w:World):Prop:=sR w 742 S5 S9 L2 ⟨26,0,31,26⟩ ⟨45,0,49,24⟩
noncomputable def NB(P:Params):List DictEntry:=sv (Nz P) 0 (.str "joinload.rules" 495)++[k P "Lost" 441 (.ref 196),k P "NoSense" 457 (.ref 208),k P "WORD_COUNT" 461 (.int 4294967296 460),k P "wrapped" 468 (.ref 217),k P "with_field" 479 (.ref 224),k P "ones" 486 (.ref 231),k P "moved" 494 (.ref 238),k P "rule_of" 503 (.ref 245)]
noncomputable def Ro:Obj:=⟨(.type "dict"),none,.dict (NB P).toArray 27,#[]⟩
noncomputable def Nl:Obj:=nf (nl [1,0,20,5,0,27,7,0,40,9,0,52,14,0,71,21,0,90,26,0,109,32,0,128,40,0,147,45,0,166,50,0,185,55,0,204,59,0,216,61,0,223,64,0,230,66,0,237,71,0,244]).toArray
noncomputable def yY:Obj:=cc "JoinError" (.type "ValueError") 31 [.type "ValueError",.type "Exception",.type "BaseException",.type "object"] 30 [.ref 44,.ref 63,.ref 82,.ref 101,.ref 120,.ref 139,.ref 158,.ref 177,.ref 196,.ref 208] (some (.ref 22)) 196 204 "ValueError.__new__"
noncomputable def G1:=di [k P "__module__" 424 (.str "joinload.errors" 194),k P "__qualname__" 426 (.str "Lost" 425),k P "__firstlineno__" 428 (.int 50 427),k P "__init__" 436 (.ref 193),k P "__static_attributes__" 438 (.ref 194)] 5
noncomputable def B4:Obj:=nf (nl [52,4,192]).toArray
noncomputable def BN:Obj:=co "Lost" "Lost" 419 50 0 0 183 false 184 .none 422
noncomputable def Cz:Obj:=fm 185 182 (.str "joinload.errors" 194)
noncomputable def qF:Obj:=tu #[.str "self" 432,.str "place" 433]
noncomputable def Eh:Obj:=ft (C 11 0) "__init__" "Lost.__init__"
noncomputable def nN:Obj:=cf "__init__" "Lost.__init__" 429 52 2 187 434
noncomputable def rb:Obj:=fo (C 11 0) "__init__" "Lost.__init__" "joinload.errors" 194 192
noncomputable def mY:Obj:=tu #[.str "place" 437]
noncomputable def r9:=di [k P "__module__" 424 (.str "joinload.errors" 194),k P "__firstlineno__" 428 (.int 50 427),k P "__init__" 436 (.ref 193),k P "__static_attributes__" 438 (.ref 194),k P "__doc__" 439 .none] 2
noncomputable def nu:Obj:=cc "Lost" (.ref 31) 196 [.ref 31,.type "ValueError",.type "Exception",.type "BaseException",.type "object"] 195 [] (some (.ref 180)) 417 425 "ValueError.__new__"
noncomputable def CJ:=di [k P "__module__" 449 (.str "joinload.errors" 194),k P "__qualname__" 451 (.str "NoSense" 450),k P "__firstlineno__" 453 (.int 55 452),k P "__static_attributes__" 454 (.ref 206)] 4
noncomputable def Cj:Obj:=co "NoSense" "NoSense" 444 55 0 0 202 false 203 .none 447
noncomputable def GA:Obj:=fm 204 201 (.str "joinload.errors" 194)
noncomputable def qX:=di [k P "__module__" 449 (.str "joinload.errors" 194),k P "__firstlineno__" 453 (.int 55 452),k P "__static_attributes__" 454 (.ref 206),k P "__doc__" 455 .none] 2
noncomputable def qi:Obj:=cc "NoSense" (.ref 31) 208 [.ref 31,.type "ValueError",.type "Exception",.type "BaseException",.type "object"] 207 [] (some (.ref 199)) 442 450 "ValueError.__new__"
noncomputable def rg:Obj:=tu #[.str "number" 465]
noncomputable def Cu:Obj:=ft (T 15) "wrapped" "wrapped"
noncomputable def rh:Obj:=cf "wrapped" "wrapped" 462 59 1 211 466
noncomputable def nF:Obj:=fo (T 15) "wrapped" "wrapped" "joinload.bits" 458 216
noncomputable def ow:Obj:=tu #[.str "word" 472,.str "low" 473,.str "many" 474,.str "number" 475,.str "others" 476]
noncomputable def EZ:Obj:=ft (T 16) "with_field" "with_field"
noncomputable def sO:Obj:=cf "with_field" "with_field" 469 61 4 218 477
noncomputable def qY:Obj:=fo (T 16) "with_field" "with_field" "joinload.bits" 458 223
noncomputable def tS:Obj:=tu #[.str "many" 483]
noncomputable def F4:Obj:=ft (T 17) "ones" "ones"
noncomputable def qH:Obj:=cf "ones" "ones" 480 64 1 225 484
noncomputable def rZ:Obj:=fo (T 17) "ones" "ones" "joinload.bits" 458 230
noncomputable def pA:Obj:=tu #[.str "number" 490,.str "up" 491]
noncomputable def BR:Obj:=ft (T 18) "moved" "moved"
noncomputable def tW:Obj:=cf "moved" "moved" 487 66 2 232 492
noncomputable def p7:Obj:=fo (T 18) "moved" "moved" "joinload.bits" 458 237
noncomputable def qM:Obj:=tu #[.str "title" 500]
noncomputable def Ep:Obj:=ft (T 20) "rule_of" "rule_of"
noncomputable def ng:Obj:=cf "rule_of" "rule_of" 497 71 1 239 501
noncomputable def qC:Obj:=fo (T 20) "rule_of" "rule_of" "joinload.rules" 495 244
noncomputable def RR(P:Params)(r:List (Nat×Obj)):List (Nat×Obj):=(3,Ro P)::(12,Nl)::(31,yY)::(180,tu #[.ref 31])::(181,bp)::(182,G1 P)::(183,e1)::(184,B4)::(185,BN)::(186,Cz)::(187,e1)::(188,e2)::(189,qF)::(190,e1)::(191,Eh)::(192,nN)::(193,rb)::(194,mY)::(195,r9 P)::(196,nu)::(197,su 196)::(198,bs 196)::(199,tu #[.ref 31])::(200,bp)::r
noncomputable def Rp(P:Params)(r:List (Nat×Obj)):List (Nat×Obj):=(201,CJ P)::(202,e1)::(203,e2)::(204,Cj)::(205,GA)::(206,e1)::(207,qX P)::(208,qi)::(209,su 208)::(210,bs 208)::(211,e1)::(212,e2)::(213,rg)::(214,e1)::(215,Cu)::(216,rh)::(217,nF)::(218,e1)::(219,e2)::(220,ow)::(221,e1)::(222,EZ)::(223,sO)::(224,qY)::r
noncomputable def Sd(P:Params)(r:List (Nat×Obj)):List (Nat×Obj):=(225,e1)::(226,e2)::(227,tS)::(228,e1)::(229,F4)::(230,qH)::(231,rZ)::(232,e1)::(233,e2)::(234,pA)::(235,e1)::(236,BR)::(237,tW)::(238,p7)::(239,e1)::(240,e2)::(241,qM)::(242,e1)::(243,Ep)::(244,ng)::(245,qC)::r
noncomputable def T4(P:Params):BT:=mg 14 (T3 P) (RR P (Rp P (Sd P ([]))))
noncomputable def SN(w:World):OsState->SharedT:=sT (T4 w.params) 246 504
noncomputable def L3:List Stmt:=My.top 11::My.top 12::My.top 13::My.top 14::My.top 15::My.top 16::My.top 17::My.top 18::My.top 19::My.top 20::[]
def P3(w:World):Prop:=sR w 636 S9 SN L3 ⟨45,0,49,24⟩ ⟨71,0,82,48⟩
noncomputable def Pm(P:Params):List DictEntry:=NB P++[k P "Rule" 567 (.ref 290),k P "Whole" 602 (.ref 318)]
noncomputable def Q6:Obj:=⟨(.type "dict"),none,.dict (Pm P).toArray 29,#[]⟩
noncomputable def Mx:Obj:=nf (nl [1,0,20,5,0,27,7,0,40,9,0,52,14,0,71,21,0,90,26,0,109,32,0,128,40,0,147,45,0,166,50,0,185,55,0,204,59,0,216,61,0,223,64,0,230,66,0,237,71,0,244,83,0,251,99,0,300]).toArray
noncomputable def L_(P:Params):List DictEntry:=[k P "__module__" 511 (.str "joinload.rules" 495),k P "__qualname__" 513 (.str "Rule" 512),k P "__firstlineno__" 515 (.int 83 514),k P "__init__" 523 (.ref 259),k P "fits" 532 (.ref 266),k P "filled" 542 (.ref 273),k P "read_back" 551 (.ref 280),k P "leans" 558 (.ref 287),k P "__static_attributes__" 560 (.ref 288)]
noncomputable def Dr:Obj:=⟨(.type "dict"),none,.dict (L_ P).toArray 9,#[]⟩
noncomputable def Fd:Obj:=nf (nl [85,4,258,88,4,265,91,4,272,94,4,279,97,4,286]).toArray
noncomputable def Ea:Obj:=co "Rule" "Rule" 506 83 0 0 249 false 250 .none 509
noncomputable def G5:Obj:=fm 251 248 (.str "joinload.rules" 495)
noncomputable def ph:Obj:=tu #[.str "self" 519,.str "title" 520]
noncomputable def Fp:Obj:=ft (C 21 0) "__init__" "Rule.__init__"
noncomputable def sQ:Obj:=cf "__init__" "Rule.__init__" 516 85 2 253 521
noncomputable def rF:Obj:=fo (C 21 0) "__init__" "Rule.__init__" "joinload.rules" 495 258
noncomputable def nv:Obj:=tu #[.str "self" 527,.str "here" 528,.str "there" 529]
noncomputable def B6:Obj:=ft (C 21 1) "fits" "Rule.fits"
noncomputable def rS:Obj:=cf "fits" "Rule.fits" 524 88 3 260 530
noncomputable def t6:Obj:=fo (C 21 1) "fits" "Rule.fits" "joinload.rules" 495 265
noncomputable def oO:Obj:=tu #[.str "self" 536,.str "word" 537,.str "here" 538,.str "there" 539]
noncomputable def Et:Obj:=ft (C 21 2) "filled" "Rule.filled"
noncomputable def rH:Obj:=cf "filled" "Rule.filled" 533 91 4 267 540
noncomputable def px:Obj:=fo (C 21 2) "filled" "Rule.filled" "joinload.rules" 495 272
noncomputable def rq:Obj:=tu #[.str "self" 546,.str "word" 547,.str "here" 548]
noncomputable def BB:Obj:=ft (C 21 3) "read_back" "Rule.read_back"
noncomputable def rP:Obj:=cf "read_back" "Rule.read_back" 543 94 3 274 549
noncomputable def oX:Obj:=fo (C 21 3) "read_back" "Rule.read_back" "joinload.rules" 495 279
noncomputable def rL:Obj:=tu #[.str "self" 555]
noncomputable def En:Obj:=ft (C 21 4) "leans" "Rule.leans"
noncomputable def mV:Obj:=cf "leans" "Rule.leans" 552 97 1 281 556
noncomputable def oR:Obj:=fo (C 21 4) "leans" "Rule.leans" "joinload.rules" 495 286
noncomputable def n8:Obj:=tu #[.str "title" 559]
noncomputable def Kl(P:Params):List DictEntry:=[k P "__module__" 511 (.str "joinload.rules" 495),k P "__firstlineno__" 515 (.int 83 514),k P "__init__" 523 (.ref 259),k P "fits" 532 (.ref 266),k P "filled" 542 (.ref 273),k P "read_back" 551 (.ref 280),k P "leans" 558 (.ref 287),k P "__static_attributes__" 560 (.ref 288),k P "__dict__" 562 (.ref 291),k P "__weakref__" 564 (.ref 292),k P "__doc__" 565 .none]
noncomputable def pR:Obj:=⟨(.type "dict"),none,.dict (Kl P).toArray 4,#[]⟩
noncomputable def KW:Obj:=cc "Rule" (.type "object") 290 [.type "object"] 289 [.ref 318] none 504 512 "object.__new__"
noncomputable def nq:Obj:=⟨(.type "getset_descriptor"),none,(.fields #[.str "__dict__" 561,.ref 290,.builtin "function.__dict__",.builtin "function.__dict__#set"]),#[]⟩
noncomputable def pe:Obj:=⟨(.type "getset_descriptor"),none,(.fields #[.str "__weakref__" 563,.ref 290,.builtin "ExceptionGroup.__weakref__",.none]),#[]⟩
noncomputable def Dc:=di [k P "__module__" 575 (.str "joinload.rules" 495),k P "__qualname__" 577 (.str "Whole" 576),k P "__firstlineno__" 579 (.int 99 578),k P "filled" 589 (.ref 308),k P "read_back" 598 (.ref 315),k P "__static_attributes__" 599 (.ref 316)] 6
noncomputable def DE:Obj:=nf (nl [101,4,307,104,4,314]).toArray
noncomputable def Bt:Obj:=co "Whole" "Whole" 570 99 0 0 298 false 299 .none 573
noncomputable def FF:Obj:=fm 300 297 (.str "joinload.rules" 495)
noncomputable def o6:Obj:=tu #[.str "self" 583,.str "word" 584,.str "here" 585,.str "there" 586]
noncomputable def DN:Obj:=ft (C 22 0) "filled" "Whole.filled"
noncomputable def sV:Obj:=cf "filled" "Whole.filled" 580 101 4 302 587
noncomputable def rB:Obj:=fo (C 22 0) "filled" "Whole.filled" "joinload.rules" 495 307
noncomputable def pH:Obj:=tu #[.str "self" 593,.str "word" 594,.str "here" 595]
noncomputable def EL:Obj:=ft (C 22 1) "read_back" "Whole.read_back"
noncomputable def nr:Obj:=cf "read_back" "Whole.read_back" 590 104 3 309 596
noncomputable def qD:Obj:=fo (C 22 1) "read_back" "Whole.read_back" "joinload.rules" 495 314
noncomputable def pW:=di [k P "__module__" 575 (.str "joinload.rules" 495),k P "__firstlineno__" 579 (.int 99 578),k P "filled" 589 (.ref 308),k P "read_back" 598 (.ref 315),k P "__static_attributes__" 599 (.ref 316),k P "__doc__" 600 .none] 2
noncomputable def qz:Obj:=cc "Whole" (.ref 290) 318 [.ref 290,.type "object"] 317 [] (some (.ref 295)) 568 576 "object.__new__"
noncomputable def RX(P:Params)(r:List (Nat×Obj)):List (Nat×Obj):=(3,Q6 P)::(12,Mx)::(246,e1)::(247,bp)::(248,Dr P)::(249,e1)::(250,Fd)::(251,Ea)::(252,G5)::(253,e1)::(254,e2)::(255,ph)::(256,e1)::(257,Fp)::(258,sQ)::(259,rF)::(260,e1)::(261,e2)::(262,nv)::(263,e1)::(264,B6)::(265,rS)::(266,t6)::(267,e1)::r
noncomputable def Sh(P:Params)(r:List (Nat×Obj)):List (Nat×Obj):=(268,e2)::(269,oO)::(270,e1)::(271,Et)::(272,rH)::(273,px)::(274,e1)::(275,e2)::(276,rq)::(277,e1)::(278,BB)::(279,rP)::(280,oX)::(281,e1)::(282,e2)::(283,rL)::(284,e1)::(285,En)::(286,mV)::(287,oR)::(288,n8)::(289,pR P)::(290,KW)::(291,nq)::r
noncomputable def Sm(P:Params)(r:List (Nat×Obj)):List (Nat×Obj):=(292,pe)::(293,su 290)::(294,bs 290)::(295,tu #[.ref 290])::(296,bp)::(297,Dc P)::(298,e1)::(299,DE)::(300,Bt)::(301,FF)::(302,e1)::(303,e2)::(304,o6)::(305,e1)::(306,DN)::(307,sV)::(308,rB)::(309,e1)::(310,e2)::(311,pH)::(312,e1)::(313,EL)::(314,nr)::(315,qD)::r
noncomputable def RH(P:Params)(r:List (Nat×Obj)):List (Nat×Obj):=(316,e1)::(317,pW P)::(318,qz)::(319,su 318)::(320,bs 318)::r
noncomputable def T5(P:Params):BT:=mg 14 (T4 P) (RX P (Sh P (Sm P (RH P ([])))))
noncomputable def Tf(w:World):OsState->SharedT:=sT (T5 w.params) 321 603
noncomputable def L4:List Stmt:=My.top 21::My.top 22::[]
def P4(w:World):Prop:=sR w 633 SN Tf L4 ⟨71,0,82,48⟩ ⟨99,0,105,16⟩
noncomputable def M_(P:Params):List DictEntry:=Pm P++[k P "High" 637 (.ref 344),k P "Low" 672 (.ref 370)]
noncomputable def Rg:Obj:=⟨(.type "dict"),none,.dict (M_ P).toArray 31,#[]⟩
noncomputable def OB:Obj:=nf (nl [1,0,20,5,0,27,7,0,40,9,0,52,14,0,71,21,0,90,26,0,109,32,0,128,40,0,147,45,0,166,50,0,185,55,0,204,59,0,216,61,0,223,64,0,230,66,0,237,71,0,244,83,0,251,99,0,300,106,0,326,113,0,352]).toArray
noncomputable def Kr:Obj:=cc "Rule" (.type "object") 290 [.type "object"] 289 [.ref 318,.ref 344,.ref 370] none 504 512 "object.__new__"
noncomputable def Er:=di [k P "__module__" 610 (.str "joinload.rules" 495),k P "__qualname__" 612 (.str "High" 611),k P "__firstlineno__" 614 (.int 106 613),k P "filled" 624 (.ref 334),k P "read_back" 633 (.ref 341),k P "__static_attributes__" 634 (.ref 342)] 6
noncomputable def Gg:Obj:=nf (nl [108,4,333,111,4,340]).toArray
noncomputable def E9:Obj:=co "High" "High" 605 106 0 0 324 false 325 .none 608
noncomputable def Du:Obj:=fm 326 323 (.str "joinload.rules" 495)
noncomputable def rp:Obj:=tu #[.str "self" 618,.str "word" 619,.str "here" 620,.str "there" 621]
noncomputable def Gh:Obj:=ft (C 23 0) "filled" "High.filled"
noncomputable def o9:Obj:=cf "filled" "High.filled" 615 108 4 328 622
noncomputable def oZ:Obj:=fo (C 23 0) "filled" "High.filled" "joinload.rules" 495 333
noncomputable def rA:Obj:=tu #[.str "self" 628,.str "word" 629,.str "here" 630]
noncomputable def El:Obj:=ft (C 23 1) "read_back" "High.read_back"
noncomputable def qK:Obj:=cf "read_back" "High.read_back" 625 111 3 335 631
noncomputable def qe:Obj:=fo (C 23 1) "read_back" "High.read_back" "joinload.rules" 495 340
noncomputable def sM:=di [k P "__module__" 610 (.str "joinload.rules" 495),k P "__firstlineno__" 614 (.int 106 613),k P "filled" 624 (.ref 334),k P "read_back" 633 (.ref 341),k P "__static_attributes__" 634 (.ref 342),k P "__doc__" 635 .none] 2
noncomputable def nk:Obj:=cc "High" (.ref 290) 344 [.ref 290,.type "object"] 343 [] (some (.ref 321)) 603 611 "object.__new__"
noncomputable def Dm:=di [k P "__module__" 645 (.str "joinload.rules" 495),k P "__qualname__" 647 (.str "Low" 646),k P "__firstlineno__" 649 (.int 113 648),k P "filled" 659 (.ref 360),k P "read_back" 668 (.ref 367),k P "__static_attributes__" 669 (.ref 368)] 6
noncomputable def DH:Obj:=nf (nl [115,4,359,118,4,366]).toArray
noncomputable def Bj:Obj:=co "Low" "Low" 640 113 0 0 350 false 351 .none 643
noncomputable def FW:Obj:=fm 352 349 (.str "joinload.rules" 495)
noncomputable def sS:Obj:=tu #[.str "self" 653,.str "word" 654,.str "here" 655,.str "there" 656]
noncomputable def DC:Obj:=ft (C 24 0) "filled" "Low.filled"
noncomputable def tU:Obj:=cf "filled" "Low.filled" 650 115 4 354 657
noncomputable def qQ:Obj:=fo (C 24 0) "filled" "Low.filled" "joinload.rules" 495 359
noncomputable def tM:Obj:=tu #[.str "self" 663,.str "word" 664,.str "here" 665]
noncomputable def Cd:Obj:=ft (C 24 1) "read_back" "Low.read_back"
noncomputable def qv:Obj:=cf "read_back" "Low.read_back" 660 118 3 361 666
noncomputable def sL:Obj:=fo (C 24 1) "read_back" "Low.read_back" "joinload.rules" 495 366
noncomputable def o8:=di [k P "__module__" 645 (.str "joinload.rules" 495),k P "__firstlineno__" 649 (.int 113 648),k P "filled" 659 (.ref 360),k P "read_back" 668 (.ref 367),k P "__static_attributes__" 669 (.ref 368),k P "__doc__" 670 .none] 2
noncomputable def rX:Obj:=cc "Low" (.ref 290) 370 [.ref 290,.type "object"] 369 [] (some (.ref 347)) 638 646 "object.__new__"
noncomputable def Q4(P:Params)(r:List (Nat×Obj)):List (Nat×Obj):=(3,Rg P)::(12,OB)::(290,Kr)::(321,tu #[.ref 290])::(322,bp)::(323,Er P)::(324,e1)::(325,Gg)::(326,E9)::(327,Du)::(328,e1)::(329,e2)::(330,rp)::(331,e1)::(332,Gh)::(333,o9)::(334,oZ)::(335,e1)::(336,e2)::(337,rA)::(338,e1)::(339,El)::(340,qK)::(341,qe)::r
noncomputable def Qq(P:Params)(r:List (Nat×Obj)):List (Nat×Obj):=(342,e1)::(343,sM P)::(344,nk)::(345,su 344)::(346,bs 344)::(347,tu #[.ref 290])::(348,bp)::(349,Dm P)::(350,e1)::(351,DH)::(352,Bj)::(353,FW)::(354,e1)::(355,e2)::(356,sS)::(357,e1)::(358,DC)::(359,tU)::(360,qQ)::(361,e1)::(362,e2)::(363,tM)::(364,e1)::(365,Cd)::r
noncomputable def Qw(P:Params)(r:List (Nat×Obj)):List (Nat×Obj):=(366,qv)::(367,sL)::(368,e1)::(369,o8 P)::(370,rX)::(371,su 370)::(372,bs 370)::r
noncomputable def T6(P:Params):BT:=mg 14 (T5 P) (Q4 P (Qq P (Qw P ([]))))
noncomputable def Sv(w:World):OsState->SharedT:=sT (T6 w.params) 373 673
noncomputable def L5:List Stmt:=My.top 23::My.top 24::[]
def P5(w:World):Prop:=sR w 559 Tf Sv L5 ⟨99,0,105,16⟩ ⟨113,0,119,16⟩
noncomputable def MM(P:Params):List DictEntry:=sv (M_ P) 0 (.str "joinload.pieces" 784)++[k P "Near" 723 (.ref 410),k P "Split" 775 (.ref 450),k P "way" 783 (.ref 459),k P "LETTERS" 787 (.str "abcdefghijklmnopqrstuvwxyz" 786),k P "FIGURES" 789 (.str "0123456789" 788),k P "NAME_SIGNS" 791 (.str "abcdefghijklmnopqrstuvwxyz0123456789_" 790),k P "HOW_MANY_PARTS" 819 (.ref 460)]
noncomputable def RK:Obj:=⟨(.type "dict"),none,.dict (MM P).toArray 38,#[]⟩
noncomputable def O6:Obj:=nf (nl [1,0,20,5,0,27,7,0,40,9,0,52,14,0,71,21,0,90,26,0,109,32,0,128,40,0,147,45,0,166,50,0,185,55,0,204,59,0,216,61,0,223,64,0,230,66,0,237,71,0,244,83,0,251,99,0,300,106,0,326,113,0,352,120,0,378,133,0,418,147,0,458]).toArray
noncomputable def nY:Obj:=cc "Rule" (.type "object") 290 [.type "object"] 289 [.ref 318,.ref 344,.ref 370,.ref 410,.ref 450] none 504 512 "object.__new__"
noncomputable def Fm:=di [k P "__module__" 680 (.str "joinload.rules" 495),k P "__qualname__" 682 (.str "Near" 681),k P "__firstlineno__" 684 (.int 120 683),k P "fits" 693 (.ref 386),k P "filled" 703 (.ref 393),k P "read_back" 712 (.ref 400),k P "leans" 719 (.ref 407),k P "__static_attributes__" 720 (.ref 408)] 8
noncomputable def Fy:Obj:=nf (nl [122,4,385,125,4,392,128,4,399,131,4,406]).toArray
noncomputable def Bd:Obj:=co "Near" "Near" 675 120 0 0 376 false 377 .none 678
noncomputable def Fu:Obj:=fm 378 375 (.str "joinload.rules" 495)
noncomputable def pz:Obj:=tu #[.str "self" 688,.str "here" 689,.str "there" 690]
noncomputable def C1:Obj:=ft (C 25 0) "fits" "Near.fits"
noncomputable def qT:Obj:=cf "fits" "Near.fits" 685 122 3 380 691
noncomputable def oY:Obj:=fo (C 25 0) "fits" "Near.fits" "joinload.rules" 495 385
noncomputable def sN:Obj:=tu #[.str "self" 697,.str "word" 698,.str "here" 699,.str "there" 700]
noncomputable def Gs:Obj:=ft (C 25 1) "filled" "Near.filled"
noncomputable def tm:Obj:=cf "filled" "Near.filled" 694 125 4 387 701
noncomputable def sI:Obj:=fo (C 25 1) "filled" "Near.filled" "joinload.rules" 495 392
noncomputable def pL:Obj:=tu #[.str "self" 707,.str "word" 708,.str "here" 709]
noncomputable def Fi:Obj:=ft (C 25 2) "read_back" "Near.read_back"
noncomputable def n_:Obj:=cf "read_back" "Near.read_back" 704 128 3 394 710
noncomputable def qE:Obj:=fo (C 25 2) "read_back" "Near.read_back" "joinload.rules" 495 399
noncomputable def nj:Obj:=tu #[.str "self" 716]
noncomputable def Bk:Obj:=ft (C 25 3) "leans" "Near.leans"
noncomputable def tO:Obj:=cf "leans" "Near.leans" 713 131 1 401 717
noncomputable def sx:Obj:=fo (C 25 3) "leans" "Near.leans" "joinload.rules" 495 406
noncomputable def nH:=di [k P "__module__" 680 (.str "joinload.rules" 495),k P "__firstlineno__" 684 (.int 120 683),k P "fits" 693 (.ref 386),k P "filled" 703 (.ref 393),k P "read_back" 712 (.ref 400),k P "leans" 719 (.ref 407),k P "__static_attributes__" 720 (.ref 408),k P "__doc__" 721 .none] 2
noncomputable def qj:Obj:=cc "Near" (.ref 290) 410 [.ref 290,.type "object"] 409 [] (some (.ref 373)) 673 681 "object.__new__"
noncomputable def C0:=di [k P "__module__" 731 (.str "joinload.rules" 495),k P "__qualname__" 733 (.str "Split" 732),k P "__firstlineno__" 735 (.int 133 734),k P "fits" 744 (.ref 426),k P "filled" 755 (.ref 433),k P "read_back" 764 (.ref 440),k P "leans" 771 (.ref 447),k P "__static_attributes__" 772 (.ref 448)] 8
noncomputable def FD:Obj:=nf (nl [135,4,425,138,4,432,142,4,439,145,4,446]).toArray
noncomputable def FU:Obj:=co "Split" "Split" 726 133 0 0 416 false 417 .none 729
noncomputable def C2:Obj:=fm 418 415 (.str "joinload.rules" 495)
noncomputable def pB:Obj:=tu #[.str "self" 739,.str "here" 740,.str "there" 741]
noncomputable def E2:Obj:=ft (C 26 0) "fits" "Split.fits"
noncomputable def n9:Obj:=cf "fits" "Split.fits" 736 135 3 420 742
noncomputable def qR:Obj:=fo (C 26 0) "fits" "Split.fits" "joinload.rules" 495 425
noncomputable def qg:Obj:=tu #[.str "self" 748,.str "word" 749,.str "here" 750,.str "there" 751,.str "lower" 752]
noncomputable def Ca:Obj:=ft (C 26 1) "filled" "Split.filled"
noncomputable def nL:Obj:=cf "filled" "Split.filled" 745 138 4 427 753
noncomputable def pX:Obj:=fo (C 26 1) "filled" "Split.filled" "joinload.rules" 495 432
noncomputable def m8:Obj:=tu #[.str "self" 759,.str "word" 760,.str "here" 761]
noncomputable def E5:Obj:=ft (C 26 2) "read_back" "Split.read_back"
noncomputable def nc:Obj:=cf "read_back" "Split.read_back" 756 142 3 434 762
noncomputable def nM:Obj:=fo (C 26 2) "read_back" "Split.read_back" "joinload.rules" 495 439
noncomputable def oi:Obj:=tu #[.str "self" 768]
noncomputable def Bo:Obj:=ft (C 26 3) "leans" "Split.leans"
noncomputable def oQ:Obj:=cf "leans" "Split.leans" 765 145 1 441 769
noncomputable def nE:Obj:=fo (C 26 3) "leans" "Split.leans" "joinload.rules" 495 446
noncomputable def rm:=di [k P "__module__" 731 (.str "joinload.rules" 495),k P "__firstlineno__" 735 (.int 133 734),k P "fits" 744 (.ref 426),k P "filled" 755 (.ref 433),k P "read_back" 764 (.ref 440),k P "leans" 771 (.ref 447),k P "__static_attributes__" 772 (.ref 448),k P "__doc__" 773 .none] 2
noncomputable def o3:Obj:=cc "Split" (.ref 290) 450 [.ref 290,.type "object"] 449 [] (some (.ref 413)) 724 732 "object.__new__"
noncomputable def qf:Obj:=tu #[.str "here" 779,.str "there" 780]
noncomputable def E7:Obj:=ft (T 27) "way" "way"
noncomputable def sA:Obj:=cf "way" "way" 776 147 2 453 781
noncomputable def nP:Obj:=fo (T 27) "way" "way" "joinload.rules" 495 458
noncomputable def Mc(P:Params):List DictEntry:=[k P "piece" 792 (.int 2 793),k P "code" 794 (.int 2 795),k P "data" 796 (.int 2 797),k P "word" 798 (.int 2 799),k P "fill" 800 (.int 4 801),k P "soft" 802 (.int 4 803),k P "tell" 804 (.int 2 805),k P "weak" 806 (.int 2 807),k P "own" 808 (.int 2 809)]
noncomputable def qG:Obj:=⟨(.type "dict"),none,.dict (Mc P).toArray 9,#[]⟩
noncomputable def QO(P:Params)(r:List (Nat×Obj)):List (Nat×Obj):=(3,RK P)::(12,O6)::(290,nY)::(373,tu #[.ref 290])::(374,bp)::(375,Fm P)::(376,e1)::(377,Fy)::(378,Bd)::(379,Fu)::(380,e1)::(381,e2)::(382,pz)::(383,e1)::(384,C1)::(385,qT)::(386,oY)::(387,e1)::(388,e2)::(389,sN)::(390,e1)::(391,Gs)::(392,tm)::(393,sI)::r
noncomputable def Rm(P:Params)(r:List (Nat×Obj)):List (Nat×Obj):=(394,e1)::(395,e2)::(396,pL)::(397,e1)::(398,Fi)::(399,n_)::(400,qE)::(401,e1)::(402,e2)::(403,nj)::(404,e1)::(405,Bk)::(406,tO)::(407,sx)::(408,e1)::(409,nH P)::(410,qj)::(411,su 410)::(412,bs 410)::(413,tu #[.ref 290])::(414,bp)::(415,C0 P)::(416,e1)::(417,FD)::r
noncomputable def QE(P:Params)(r:List (Nat×Obj)):List (Nat×Obj):=(418,FU)::(419,C2)::(420,e1)::(421,e2)::(422,pB)::(423,e1)::(424,E2)::(425,n9)::(426,qR)::(427,e1)::(428,e2)::(429,qg)::(430,e1)::(431,Ca)::(432,nL)::(433,pX)::(434,e1)::(435,e2)::(436,m8)::(437,e1)::(438,E5)::(439,nc)::(440,nM)::(441,e1)::r
noncomputable def Rq(P:Params)(r:List (Nat×Obj)):List (Nat×Obj):=(442,e2)::(443,oi)::(444,e1)::(445,Bo)::(446,oQ)::(447,nE)::(448,e1)::(449,rm P)::(450,o3)::(451,su 450)::(452,bs 450)::(453,e1)::(454,e2)::(455,qf)::(456,e1)::(457,E7)::(458,sA)::(459,nP)::(460,qG P)::r
noncomputable def T7(P:Params):BT:=mg 14 (T6 P) (QO P (Rm P (QE P (Rq P ([])))))
noncomputable def SU(w:World):OsState->SharedT:=sT (T7 w.params) 461 820
noncomputable def L6:List Stmt:=My.top 25::My.top 26::My.top 27::My.top 28::My.top 29::My.top 30::My.top 31::My.top 32::[]
def P6(w:World):Prop:=sR w 899 Sv SU L6 ⟨113,0,119,16⟩ ⟨153,0,153,14⟩
noncomputable def Ni(P:Params):List DictEntry:=sv (MM P) 0 (.str "law_joinload_k14_the_first_bad_row" 1003)++[k P "is_name" 825 (.ref 465),k P "number_of" 831 (.ref 470),k P "step_in" 839 (.ref 477),k P "is_title" 846 (.ref 484),k P "read_piece" 856 (.ref 491),k P "Reading" 948 (.ref 550),k P "shown_piece" 960 (.ref 561),k P "name_rows" 972 (.ref 568),k P "stretch_rows" 988 (.ref 575),k P "fill_rows" 1002 (.ref 582),k P "_law_whole" 1011 (.ref 589),k P "_law_cell_at" 1019 (.ref 596),k P "_law_name_by" 1032 (.ref 603),k P "_law_add_by" 1039 (.ref 610),k P "_law_fill_by" 1050 (.ref 617)]
noncomputable def Qa:Obj:=⟨(.type "dict"),none,.dict (Ni P).toArray 53,#[]⟩
noncomputable def N1:Obj:=nf (nl [1,0,20,5,0,27,7,0,40,9,0,52,14,0,71,21,0,90,26,0,109,32,0,128,40,0,147,45,0,166,50,0,185,55,0,204,59,0,216,61,0,223,64,0,230,66,0,237,71,0,244,83,0,251,99,0,300,106,0,326,113,0,352,120,0,378,133,0,418,147,0,458,154,0,464,158,0,469,166,0,476,171,0,483,177,0,490,183,0,497,249,0,560,256,0,567,261,0,574,273,0,581,280,0,588,282,0,595,286,0,602,296,0,609,302,0,616]).toArray
noncomputable def CG:Obj:=ft (T 33) "is_name" "is_name"
noncomputable def qP:Obj:=co "is_name" "is_name" 820 154 1 3 461 true 462 (.ref 463) 823
noncomputable def oU:Obj:=fo (T 33) "is_name" "is_name" "joinload.pieces" 784 464
noncomputable def Fl:Obj:=ft (T 34) "number_of" "number_of"
noncomputable def tY:Obj:=co "number_of" "number_of" 826 158 3 3 466 true 467 (.ref 468) 829
noncomputable def nB:Obj:=fo (T 34) "number_of" "number_of" "joinload.pieces" 784 469
noncomputable def nU:Obj:=tu #[.str "text" 835,.str "step" 836]
noncomputable def D7:Obj:=ft (T 35) "step_in" "step_in"
noncomputable def qL:Obj:=cf "step_in" "step_in" 832 166 1 471 837
noncomputable def qu:Obj:=fo (T 35) "step_in" "step_in" "joinload.pieces" 784 476
noncomputable def qx:Obj:=tu #[.str "text" 843]
noncomputable def EB:Obj:=ft (T 36) "is_title" "is_title"
noncomputable def rT:Obj:=cf "is_title" "is_title" 840 171 1 478 844
noncomputable def sJ:Obj:=fo (T 36) "is_title" "is_title" "joinload.pieces" 784 483
noncomputable def nQ:Obj:=tu #[.str "text" 850,.str "reading" 851,.str "number" 852,.str "row" 853]
noncomputable def EM:Obj:=ft (T 37) "read_piece" "read_piece"
noncomputable def p_:Obj:=cf "read_piece" "read_piece" 847 177 1 485 854
noncomputable def oV:Obj:=fo (T 37) "read_piece" "read_piece" "joinload.pieces" 784 490
noncomputable def Kx(P:Params):List DictEntry:=[k P "__module__" 864 (.str "joinload.pieces" 784),k P "__qualname__" 866 (.str "Reading" 865),k P "__firstlineno__" 868 (.int 183 867),k P "__init__" 875 (.ref 505),k P "takes" 885 (.ref 512),k P "takes_piece" 893 (.ref 519),k P "takes_stretch" 903 (.ref 526),k P "takes_word" 912 (.ref 533),k P "takes_fill" 924 (.ref 540),k P "takes_told" 933 (.ref 547),k P "__static_attributes__" 941 (.ref 548)]
noncomputable def B5:Obj:=⟨(.type "dict"),none,.dict (Kx P).toArray 11,#[]⟩
noncomputable def GR:Obj:=nf (nl [185,4,504,194,4,511,212,4,518,218,4,525,227,4,532,234,4,539,243,4,546]).toArray
noncomputable def B2:Obj:=co "Reading" "Reading" 859 183 0 0 495 false 496 .none 862
noncomputable def GW:Obj:=fm 497 494 (.str "joinload.pieces" 784)
noncomputable def se:Obj:=tu #[.str "self" 872]
noncomputable def Ce:Obj:=ft (C 38 0) "__init__" "Reading.__init__"
noncomputable def rW:Obj:=cf "__init__" "Reading.__init__" 869 185 1 499 873
noncomputable def nZ:Obj:=fo (C 38 0) "__init__" "Reading.__init__" "joinload.pieces" 784 504
noncomputable def oq:Obj:=tu #[.str "self" 879,.str "parts" 880,.str "head" 881,.str "behind_word" 882]
noncomputable def EJ:Obj:=ft (C 38 1) "takes" "Reading.takes"
noncomputable def qd:Obj:=cf "takes" "Reading.takes" 876 194 2 506 883
noncomputable def pV:Obj:=fo (C 38 1) "takes" "Reading.takes" "joinload.pieces" 784 511
noncomputable def qt:Obj:=tu #[.str "self" 889,.str "name" 890]
noncomputable def CC:Obj:=ft (C 38 2) "takes_piece" "Reading.takes_piece"
noncomputable def nI:Obj:=cf "takes_piece" "Reading.takes_piece" 886 212 2 513 891
noncomputable def q_:Obj:=fo (C 38 2) "takes_piece" "Reading.takes_piece" "joinload.pieces" 784 518
noncomputable def nh:Obj:=tu #[.str "self" 897,.str "kind" 898,.str "text" 899,.str "step" 900]
noncomputable def B7:Obj:=ft (C 38 3) "takes_stretch" "Reading.takes_stretch"
noncomputable def sy:Obj:=cf "takes_stretch" "Reading.takes_stretch" 894 218 3 520 901
noncomputable def sr:Obj:=fo (C 38 3) "takes_stretch" "Reading.takes_stretch" "joinload.pieces" 784 525
noncomputable def pD:Obj:=tu #[.str "self" 907,.str "text" 908,.str "word" 909]
noncomputable def Eo:Obj:=ft (C 38 4) "takes_word" "Reading.takes_word"
noncomputable def pI:Obj:=cf "takes_word" "Reading.takes_word" 904 227 2 527 910
noncomputable def tV:Obj:=fo (C 38 4) "takes_word" "Reading.takes_word" "joinload.pieces" 784 532
noncomputable def qJ:Obj:=tu #[.str "self" 916,.str "soft" 917,.str "rule" 918,.str "name" 919,.str "text" 920,.str "add" 921]
noncomputable def C6:Obj:=ft (C 38 5) "takes_fill" "Reading.takes_fill"
noncomputable def nJ:Obj:=cf "takes_fill" "Reading.takes_fill" 913 234 5 534 922
noncomputable def pN:Obj:=fo (C 38 5) "takes_fill" "Reading.takes_fill" "joinload.pieces" 784 539
noncomputable def qA:Obj:=tu #[.str "self" 928,.str "sort" 929,.str "name" 930]
noncomputable def FJ:Obj:=ft (C 38 6) "takes_told" "Reading.takes_told"
noncomputable def pO:Obj:=cf "takes_told" "Reading.takes_told" 925 243 3 541 931
noncomputable def nX:Obj:=fo (C 38 6) "takes_told" "Reading.takes_told" "joinload.pieces" 784 546
noncomputable def ri:Obj:=tu #[.str "behind_word" 934,.str "last_fills" 935,.str "last_words" 936,.str "name" 937,.str "names" 938,.str "stretches" 939,.str "told" 940]
noncomputable def KN(P:Params):List DictEntry:=[k P "__module__" 864 (.str "joinload.pieces" 784),k P "__firstlineno__" 868 (.int 183 867),k P "__init__" 875 (.ref 505),k P "takes" 885 (.ref 512),k P "takes_piece" 893 (.ref 519),k P "takes_stretch" 903 (.ref 526),k P "takes_word" 912 (.ref 533),k P "takes_fill" 924 (.ref 540),k P "takes_told" 933 (.ref 547),k P "__static_attributes__" 941 (.ref 548),k P "__dict__" 943 (.ref 551),k P "__weakref__" 945 (.ref 552),k P "__doc__" 946 .none]
noncomputable def oa:Obj:=⟨(.type "dict"),none,.dict (KN P).toArray 4,#[]⟩
noncomputable def rf:Obj:=cc "Reading" (.type "object") 550 [.type "object"] 549 [] none 857 865 "object.__new__"
noncomputable def t9:Obj:=⟨(.type "getset_descriptor"),none,(.fields #[.str "__dict__" 942,.ref 550,.builtin "function.__dict__",.builtin "function.__dict__#set"]),#[]⟩
noncomputable def rO:Obj:=⟨(.type "getset_descriptor"),none,(.fields #[.str "__weakref__" 944,.ref 550,.builtin "ExceptionGroup.__weakref__",.none]),#[]⟩
noncomputable def oJ:Obj:=tu #[.str "piece" 952,.str "name" 953,.str "names" 954,.str "rows" 955,.str "number" 956,.str "stretch" 957]
noncomputable def Gb:Obj:=ft (T 39) "shown_piece" "shown_piece"
noncomputable def r8:Obj:=cf "shown_piece" "shown_piece" 949 249 1 555 958
noncomputable def sG:Obj:=fo (T 39) "shown_piece" "shown_piece" "joinload.pieces" 784 560
noncomputable def t8:Obj:=tu #[.str "names" 964,.str "rows" 965,.str "name" 966,.str "sort" 967,.str "stretch" 968,.str "offset" 969]
noncomputable def GU:Obj:=ft (T 40) "name_rows" "name_rows"
noncomputable def tX:Obj:=cf "name_rows" "name_rows" 961 256 1 562 970
noncomputable def qm:Obj:=fo (T 40) "name_rows" "name_rows" "joinload.pieces" 784 567
noncomputable def nG:Obj:=tu #[.str "number" 976,.str "stretch" 977,.str "names" 978,.str "kind" 979,.str "step" 980,.str "words" 981,.str "fills" 982,.str "rows" 983,.str "at" 984,.str "word" 985]
noncomputable def Df:Obj:=ft (T 41) "stretch_rows" "stretch_rows"
noncomputable def tI:Obj:=cf "stretch_rows" "stretch_rows" 973 261 3 569 986
noncomputable def pQ:Obj:=fo (T 41) "stretch_rows" "stretch_rows" "joinload.pieces" 784 574
noncomputable def nK:Obj:=tu #[.str "fills" 992,.str "rows" 993,.str "at" 994,.str "rule" 995,.str "name" 996,.str "add" 997,.str "soft" 998,.str "head" 999]
noncomputable def GD:Obj:=ft (T 42) "fill_rows" "fill_rows"
noncomputable def ou:Obj:=cf "fill_rows" "fill_rows" 989 273 1 576 1000
noncomputable def rR:Obj:=fo (T 42) "fill_rows" "fill_rows" "joinload.pieces" 784 581
noncomputable def pq:Obj:=tu #[.str "_law_found" 1008]
noncomputable def Gu:Obj:=ft (T 44) "_law_whole" "_law_whole"
noncomputable def nA:Obj:=cf "_law_whole" "_law_whole" 1005 280 1 583 1009
noncomputable def sZ:Obj:=fo (T 44) "_law_whole" "_law_whole" "law_joinload_k14_the_first_bad_row" 1003 588
noncomputable def sE:Obj:=tu #[.str "_law_script" 1015,.str "_law_k" 1016]
noncomputable def Eg:Obj:=ft (T 45) "_law_cell_at" "_law_cell_at"
noncomputable def s_:Obj:=cf "_law_cell_at" "_law_cell_at" 1012 282 2 590 1017
noncomputable def si:Obj:=fo (T 45) "_law_cell_at" "_law_cell_at" "law_joinload_k14_the_first_bad_row" 1003 595
noncomputable def qk:Obj:=tu #[.str "_law_cell" 1023,.str "_law_k" 1024,.str "_law_signs" 1025,.str "_law_base" 1026,.str "_law_j" 1027,.str "_law_at" 1028,.str "_law_figures" 1029]
noncomputable def BV:Obj:=ft (T 46) "_law_name_by" "_law_name_by"
noncomputable def o7:Obj:=cf "_law_name_by" "_law_name_by" 1020 286 2 597 1030
noncomputable def oE:Obj:=fo (T 46) "_law_name_by" "_law_name_by" "law_joinload_k14_the_first_bad_row" 1003 602
noncomputable def m_:Obj:=tu #[.str "_law_number" 1036]
noncomputable def FQ:Obj:=ft (T 47) "_law_add_by" "_law_add_by"
noncomputable def sU:Obj:=cf "_law_add_by" "_law_add_by" 1033 296 1 604 1037
noncomputable def tF:Obj:=fo (T 47) "_law_add_by" "_law_add_by" "law_joinload_k14_the_first_bad_row" 1003 609
noncomputable def tP:Obj:=tu #[.str "_law_number" 1043,.str "_law_at" 1044,.str "_law_names_by" 1045,.str "_law_rule" 1046,.str "_law_soft" 1047]
noncomputable def CW:Obj:=ft (T 48) "_law_fill_by" "_law_fill_by"
noncomputable def nD:Obj:=cf "_law_fill_by" "_law_fill_by" 1040 302 3 611 1048
noncomputable def pj:Obj:=fo (T 48) "_law_fill_by" "_law_fill_by" "law_joinload_k14_the_first_bad_row" 1003 616
noncomputable def Q7(P:Params)(r:List (Nat×Obj)):List (Nat×Obj):=(3,Qa P)::(12,N1)::(461,e1)::(462,e2)::(463,CG)::(464,qP)::(465,oU)::(466,e1)::(467,e2)::(468,Fl)::(469,tY)::(470,nB)::(471,e1)::(472,e2)::(473,nU)::(474,e1)::(475,D7)::(476,qL)::(477,qu)::(478,e1)::(479,e2)::(480,qx)::(481,e1)::(482,EB)::r
noncomputable def RB(P:Params)(r:List (Nat×Obj)):List (Nat×Obj):=(483,rT)::(484,sJ)::(485,e1)::(486,e2)::(487,nQ)::(488,e1)::(489,EM)::(490,p_)::(491,oV)::(492,e1)::(493,bp)::(494,B5 P)::(495,e1)::(496,GR)::(497,B2)::(498,GW)::(499,e1)::(500,e2)::(501,se)::(502,e1)::(503,Ce)::(504,rW)::(505,nZ)::(506,e1)::r
noncomputable def QW(P:Params)(r:List (Nat×Obj)):List (Nat×Obj):=(507,e2)::(508,oq)::(509,e1)::(510,EJ)::(511,qd)::(512,pV)::(513,e1)::(514,e2)::(515,qt)::(516,e1)::(517,CC)::(518,nI)::(519,q_)::(520,e1)::(521,e2)::(522,nh)::(523,e1)::(524,B7)::(525,sy)::(526,sr)::(527,e1)::(528,e2)::(529,pD)::(530,e1)::r
noncomputable def Qn(P:Params)(r:List (Nat×Obj)):List (Nat×Obj):=(531,Eo)::(532,pI)::(533,tV)::(534,e1)::(535,e2)::(536,qJ)::(537,e1)::(538,C6)::(539,nJ)::(540,pN)::(541,e1)::(542,e2)::(543,qA)::(544,e1)::(545,FJ)::(546,pO)::(547,nX)::(548,ri)::(549,oa P)::(550,rf)::(551,t9)::(552,rO)::(553,su 550)::(554,bs 550)::r
noncomputable def Ry(P:Params)(r:List (Nat×Obj)):List (Nat×Obj):=(555,e1)::(556,e2)::(557,oJ)::(558,e1)::(559,Gb)::(560,r8)::(561,sG)::(562,e1)::(563,e2)::(564,t8)::(565,e1)::(566,GU)::(567,tX)::(568,qm)::(569,e1)::(570,e2)::(571,nG)::(572,e1)::(573,Df)::(574,tI)::(575,pQ)::(576,e1)::(577,e2)::(578,nK)::r
noncomputable def Rz(P:Params)(r:List (Nat×Obj)):List (Nat×Obj):=(579,e1)::(580,GD)::(581,ou)::(582,rR)::(583,e1)::(584,e2)::(585,pq)::(586,e1)::(587,Gu)::(588,nA)::(589,sZ)::(590,e1)::(591,e2)::(592,sE)::(593,e1)::(594,Eg)::(595,s_)::(596,si)::(597,e1)::(598,e2)::(599,qk)::(600,e1)::(601,BV)::(602,o7)::r
noncomputable def QH(P:Params)(r:List (Nat×Obj)):List (Nat×Obj):=(603,oE)::(604,e1)::(605,e2)::(606,m_)::(607,e1)::(608,FQ)::(609,sU)::(610,tF)::(611,e1)::(612,e2)::(613,tP)::(614,e1)::(615,CW)::(616,nD)::(617,pj)::r
noncomputable def T8(P:Params):BT:=mg 14 (T7 P) (Q7 P (RB P (QW P (Qn P (Ry P (Rz P (QH P ([]))))))))
noncomputable def SA(w:World):OsState->SharedT:=sT (T8 w.params) 618 1051
noncomputable def L7:List Stmt:=My.top 33::My.top 34::My.top 35::My.top 36::My.top 37::My.top 38::My.top 39::My.top 40::My.top 41::My.top 42::My.top 43::My.top 44::My.top 45::My.top 46::My.top 47::My.top 48::[]
def P7(w:World):Prop:=sR w 880 SU SA L7 ⟨153,0,153,14⟩ ⟨302,0,305,124⟩
noncomputable def OQ(P:Params):List DictEntry:=Ni P++[k P "_law_fill_row" 1057 (.ref 624),k P "_law_word_by" 1064 (.ref 631),k P "_law_put" 1070 (.ref 636),k P "_law_built" 1083 (.ref 643),k P "_law_bad_number" 1094 (.ref 650),k P "_law_bad_name" 1104 (.ref 657),k P "_law_odd_row" 1112 (.ref 664),k P "_law_odd_first" 1121 (.ref 671),k P "_law_told_ahead" 1127 (.ref 676),k P "_law_spoiled" 1141 (.ref 683),k P "_law_told_of" 1150 (.ref 690),k P "_law_refused" 1158 (.ref 697),k P "_law_holds" 1171 (.ref 704),k P "law" 1182 (.ref 711)]
noncomputable def zl:Obj:=⟨(.type "dict"),none,.dict (OQ P).toArray 67,#[]⟩
noncomputable def BK:Obj:=nf (nl [1,0,20,5,0,27,7,0,40,9,0,52,14,0,71,21,0,90,26,0,109,32,0,128,40,0,147,45,0,166,50,0,185,55,0,204,59,0,216,61,0,223,64,0,230,66,0,237,71,0,244,83,0,251,99,0,300,106,0,326,113,0,352,120,0,378,133,0,418,147,0,458,154,0,464,158,0,469,166,0,476,171,0,483,177,0,490,183,0,497,249,0,560,256,0,567,261,0,574,273,0,581,280,0,588,282,0,595,286,0,602,296,0,609,302,0,616,306,0,623,308,0,630,312,0,635,333,0,642,342,0,649,354,0,656,363,0,663,367,0,670,372,0,675,377,0,682,399,0,689,406,0,696,412,0,703,421,0,710]).toArray
noncomputable def j4:Obj:=tu #[.str "_law_fill" 1054]
noncomputable def xJ:Obj:=ft (T 49) "_law_fill_row" "_law_fill_row"
noncomputable def j6:Obj:=cf "_law_fill_row" "_law_fill_row" 1051 306 1 618 1055
noncomputable def jn:Obj:=fo (T 49) "_law_fill_row" "_law_fill_row" "law_joinload_k14_the_first_bad_row" 1003 623
noncomputable def jt:Obj:=tu #[.str "_law_cell" 1061]
noncomputable def yx:Obj:=ft (T 50) "_law_word_by" "_law_word_by"
noncomputable def jQ:Obj:=cf "_law_word_by" "_law_word_by" 1058 308 1 625 1062
noncomputable def jF:Obj:=fo (T 50) "_law_word_by" "_law_word_by" "law_joinload_k14_the_first_bad_row" 1003 630
noncomputable def xv:Obj:=ft (T 51) "_law_put" "_law_put"
noncomputable def jI:Obj:=co "_law_put" "_law_put" 1065 312 4 3 632 true 633 (.ref 634) 1068
noncomputable def jr:Obj:=fo (T 51) "_law_put" "_law_put" "law_joinload_k14_the_first_bad_row" 1003 635
noncomputable def jG:Obj:=tu #[.str "_law_script" 1074,.str "_law_names_by" 1075,.str "_law_title" 1076,.str "_law_stretches" 1077,.str "_law_told" 1078,.str "_law_rows" 1079,.str "_law_cell" 1080]
noncomputable def yb:Obj:=ft (T 52) "_law_built" "_law_built"
noncomputable def km:Obj:=cf "_law_built" "_law_built" 1071 333 1 637 1081
noncomputable def jv:Obj:=fo (T 52) "_law_built" "_law_built" "law_joinload_k14_the_first_bad_row" 1003 642
noncomputable def jw:Obj:=tu #[.str "_law_number" 1087,.str "_law_name" 1088,.str "_law_far" 1089,.str "_law_odd" 1090,.str "_law_some" 1091]
noncomputable def zA:Obj:=ft (T 53) "_law_bad_number" "_law_bad_number"
noncomputable def jX:Obj:=cf "_law_bad_number" "_law_bad_number" 1084 342 2 644 1092
noncomputable def jR:Obj:=fo (T 53) "_law_bad_number" "_law_bad_number" "law_joinload_k14_the_first_bad_row" 1003 649
noncomputable def jL:Obj:=tu #[.str "_law_number" 1098,.str "_law_name" 1099,.str "_law_long" 1100,.str "_law_some" 1101]
noncomputable def zc:Obj:=ft (T 54) "_law_bad_name" "_law_bad_name"
noncomputable def ju:Obj:=cf "_law_bad_name" "_law_bad_name" 1095 354 2 651 1102
noncomputable def j9:Obj:=fo (T 54) "_law_bad_name" "_law_bad_name" "law_joinload_k14_the_first_bad_row" 1003 656
noncomputable def jH:Obj:=tu #[.str "_law_number" 1108,.str "_law_name" 1109]
noncomputable def xV:Obj:=ft (T 55) "_law_odd_row" "_law_odd_row"
noncomputable def jl:Obj:=cf "_law_odd_row" "_law_odd_row" 1105 363 2 658 1110
noncomputable def jB:Obj:=fo (T 55) "_law_odd_row" "_law_odd_row" "law_joinload_k14_the_first_bad_row" 1003 663
noncomputable def kl:Obj:=tu #[.str "_law_number" 1116,.str "_law_name" 1117,.str "_law_some" 1118]
noncomputable def zC:Obj:=ft (T 56) "_law_odd_first" "_law_odd_first"
noncomputable def jK:Obj:=cf "_law_odd_first" "_law_odd_first" 1113 367 2 665 1119
noncomputable def jW:Obj:=fo (T 56) "_law_odd_first" "_law_odd_first" "law_joinload_k14_the_first_bad_row" 1003 670
noncomputable def yF:Obj:=ft (T 57) "_law_told_ahead" "_law_told_ahead"
noncomputable def jx:Obj:=co "_law_told_ahead" "_law_told_ahead" 1122 372 3 3 672 true 673 (.ref 674) 1125
noncomputable def jN:Obj:=fo (T 57) "_law_told_ahead" "_law_told_ahead" "law_joinload_k14_the_first_bad_row" 1003 675
noncomputable def j_:Obj:=tu #[.str "_law_rows" 1131,.str "_law_way" 1132,.str "_law_at" 1133,.str "_law_number" 1134,.str "_law_name" 1135,.str "_law_fill" 1136,.str "_law_more" 1137,.str "_law_again" 1138]
noncomputable def xt:Obj:=ft (T 58) "_law_spoiled" "_law_spoiled"
noncomputable def jJ:Obj:=cf "_law_spoiled" "_law_spoiled" 1128 377 4 677 1139
noncomputable def jA:Obj:=fo (T 58) "_law_spoiled" "_law_spoiled" "law_joinload_k14_the_first_bad_row" 1003 682
noncomputable def jO:Obj:=tu #[.str "_law_text" 1145,.str "_law_told" 1146,.str "e" 1147]
noncomputable def zy:Obj:=ft (T 59) "_law_told_of" "_law_told_of"
noncomputable def jP:Obj:=cf "_law_told_of" "_law_told_of" 1142 399 1 684 1148
noncomputable def jm:Obj:=fo (T 59) "_law_told_of" "_law_told_of" "law_joinload_k14_the_first_bad_row" 1003 689
noncomputable def jD:Obj:=tu #[.str "_law_told" 1154,.str "_law_due" 1155]
noncomputable def xO:Obj:=ft (T 60) "_law_refused" "_law_refused"
noncomputable def jT:Obj:=cf "_law_refused" "_law_refused" 1151 406 2 691 1156
noncomputable def jq:Obj:=fo (T 60) "_law_refused" "_law_refused" "law_joinload_k14_the_first_bad_row" 1003 696
noncomputable def jM:Obj:=tu #[.str "_law_rows" 1162,.str "_law_cell" 1163,.str "_law_other" 1164,.str "_law_number" 1165,.str "_law_bad" 1166,.str "_law_due" 1167,.str "_law_behind" 1168]
noncomputable def yz:Obj:=ft (T 61) "_law_holds" "_law_holds"
noncomputable def j0:Obj:=cf "_law_holds" "_law_holds" 1159 412 3 698 1169
noncomputable def ki:Obj:=fo (T 61) "_law_holds" "_law_holds" "law_joinload_k14_the_first_bad_row" 1003 703
noncomputable def jU:Obj:=tu #[.str "_law_script" 1175,.str "_law_rows" 1176,.str "_law_piece" 1177,.str "_law_text" 1178,.str "_law_k" 1179]
noncomputable def xG:Obj:=ft (T 62) "law" "law"
noncomputable def jC:Obj:=cf "law" "law" 1172 421 1 705 1180
noncomputable def jy:Obj:=fo (T 62) "law" "law" "law_joinload_k14_the_first_bad_row" 1003 710
noncomputable def QC(P:Params)(r:List (Nat×Obj)):List (Nat×Obj):=(3,zl P)::(12,BK)::(618,e1)::(619,e2)::(620,j4)::(621,e1)::(622,xJ)::(623,j6)::(624,jn)::(625,e1)::(626,e2)::(627,jt)::(628,e1)::(629,yx)::(630,jQ)::(631,jF)::(632,e1)::(633,e2)::(634,xv)::(635,jI)::(636,jr)::(637,e1)::(638,e2)::(639,jG)::r
noncomputable def Qo(P:Params)(r:List (Nat×Obj)):List (Nat×Obj):=(640,e1)::(641,yb)::(642,km)::(643,jv)::(644,e1)::(645,e2)::(646,jw)::(647,e1)::(648,zA)::(649,jX)::(650,jR)::(651,e1)::(652,e2)::(653,jL)::(654,e1)::(655,zc)::(656,ju)::(657,j9)::(658,e1)::(659,e2)::(660,jH)::(661,e1)::(662,xV)::(663,jl)::r
noncomputable def RJ(P:Params)(r:List (Nat×Obj)):List (Nat×Obj):=(664,jB)::(665,e1)::(666,e2)::(667,kl)::(668,e1)::(669,zC)::(670,jK)::(671,jW)::(672,e1)::(673,e2)::(674,yF)::(675,jx)::(676,jN)::(677,e1)::(678,e2)::(679,j_)::(680,e1)::(681,xt)::(682,jJ)::(683,jA)::(684,e1)::(685,e2)::(686,jO)::(687,e1)::r
noncomputable def P9(P:Params)(r:List (Nat×Obj)):List (Nat×Obj):=(688,zy)::(689,jP)::(690,jm)::(691,e1)::(692,e2)::(693,jD)::(694,e1)::(695,xO)::(696,jT)::(697,jq)::(698,e1)::(699,e2)::(700,jM)::(701,e1)::(702,yz)::(703,j0)::(704,ki)::(705,e1)::(706,e2)::(707,jU)::(708,e1)::(709,xG)::(710,jC)::(711,jy)::r
noncomputable def T9(P:Params):BT:=mg 14 (T8 P) (QC P (Qo P (RJ P (P9 P ([])))))
noncomputable def SI(w:World):OsState->SharedT:=sT (T9 w.params) 712 1183
noncomputable def L8:List Stmt:=My.top 49::My.top 50::My.top 51::My.top 52::My.top 53::My.top 54::My.top 55::My.top 56::My.top 57::My.top 58::My.top 59::My.top 60::My.top 61::My.top 62::[]
def P8(w:World):Prop:=sR w 437 SA SI L8 ⟨302,0,305,124⟩ ⟨421,0,429,46⟩
noncomputable def TZ(P:Params)(r:List Obj):List Obj:=boot_o_0 P::boot_o_1 P::boot_o_2 P::zl P::boot_o_4 P::boot_o_5 P::boot_o_6 P::boot_o_7 P::boot_o_8 P::boot_o_9 P::boot_o_10 P::e1::BK::GF::B0::e1::e2::x6::e1::J8::yG::yE::tu #[.type "ValueError"]::bp::r
noncomputable def TM(P:Params)(r:List Obj):List Obj:=Ji P::e1::e2::IU::IM::e1::zr P::yY::xu::su 31::bs 31::tu #[.ref 31]::bp::JI P::e1::e2::JA::JT::e1::yM P::zk::su 44::bs 44::tu #[.ref 31]::r
noncomputable def Ur(P:Params)(r:List Obj):List Obj:=bp::Jh P::e1::Jg::Jk::Jn::e1::e2::yV::e1::Je::xK::yo::ze::xQ P::yi::su 63::bs 63::tu #[.ref 31]::bp::IT P::e1::Jo::JN::r
noncomputable def Ug(P:Params)(r:List Obj):List Obj:=Jv::e1::e2::zD::e1::JY::zI::zt::xq::xw P::zf::su 82::bs 82::tu #[.ref 31]::bp::IQ P::e1::JB::IS::IL::e1::e2::zd::e1::r
noncomputable def Uq(P:Params)(r:List Obj):List Obj:=Jp::zG::yR::yk::tD P::sj::su 101::bs 101::tu #[.ref 31]::bp::Gm P::e1::Fq::EA::Gf::e1::e2::sh::e1::Fg::oo::oG::qw::rK P::r
noncomputable def TQ(P:Params)(r:List Obj):List Obj:=rn::su 120::bs 120::tu #[.ref 31]::bp::Fc P::e1::Bi::Eu::E3::e1::e2::pK::e1::Ey::rQ::r_::rM::tR P::sW::su 139::bs 139::tu #[.ref 31]::bp::r
noncomputable def TC(P:Params)(r:List Obj):List Obj:=Cf P::e1::FC::EN::Cb::e1::e2::r6::e1::Dl::ny::rG::qc::pk P::oj::su 158::bs 158::tu #[.ref 31]::bp::B1 P::e1::CM::DM::EW::r
noncomputable def Tr(P:Params)(r:List Obj):List Obj:=e1::e2::qB::e1::Bz::pP::tQ::mX::pE P::rJ::su 177::bs 177::tu #[.ref 31]::bp::G1 P::e1::B4::BN::Cz::e1::e2::qF::e1::Eh::r
noncomputable def TN(P:Params)(r:List Obj):List Obj:=nN::rb::mY::r9 P::nu::su 196::bs 196::tu #[.ref 31]::bp::CJ P::e1::e2::Cj::GA::e1::qX P::qi::su 208::bs 208::e1::e2::rg::e1::Cu::r
noncomputable def Uc(P:Params)(r:List Obj):List Obj:=rh::nF::e1::e2::ow::e1::EZ::sO::qY::e1::e2::tS::e1::F4::qH::rZ::e1::e2::pA::e1::BR::tW::p7::e1::r
noncomputable def R9(P:Params)(r:List Obj):List Obj:=e2::qM::e1::Ep::ng::qC::e1::bp::Dr P::e1::Fd::Ea::G5::e1::e2::ph::e1::Fp::sQ::rF::e1::e2::nv::e1::r
noncomputable def QM(P:Params)(r:List Obj):List Obj:=B6::rS::t6::e1::e2::oO::e1::Et::rH::px::e1::e2::rq::e1::BB::rP::oX::e1::e2::rL::e1::En::mV::oR::r
noncomputable def QV(P:Params)(r:List Obj):List Obj:=n8::pR P::nY::nq::pe::su 290::bs 290::tu #[.ref 290]::bp::Dc P::e1::DE::Bt::FF::e1::e2::o6::e1::DN::sV::rB::e1::e2::pH::r
noncomputable def QZ(P:Params)(r:List Obj):List Obj:=e1::EL::nr::qD::e1::pW P::qz::su 318::bs 318::tu #[.ref 290]::bp::Er P::e1::Gg::E9::Du::e1::e2::rp::e1::Gh::o9::oZ::e1::r
noncomputable def Qu(P:Params)(r:List Obj):List Obj:=e2::rA::e1::El::qK::qe::e1::sM P::nk::su 344::bs 344::tu #[.ref 290]::bp::Dm P::e1::DH::Bj::FW::e1::e2::sS::e1::DC::tU::r
noncomputable def Rl(P:Params)(r:List Obj):List Obj:=qQ::e1::e2::tM::e1::Cd::qv::sL::e1::o8 P::rX::su 370::bs 370::tu #[.ref 290]::bp::Fm P::e1::Fy::Bd::Fu::e1::e2::pz::e1::r
noncomputable def Qv(P:Params)(r:List Obj):List Obj:=C1::qT::oY::e1::e2::sN::e1::Gs::tm::sI::e1::e2::pL::e1::Fi::n_::qE::e1::e2::nj::e1::Bk::tO::sx::r
noncomputable def QP(P:Params)(r:List Obj):List Obj:=e1::nH P::qj::su 410::bs 410::tu #[.ref 290]::bp::C0 P::e1::FD::FU::C2::e1::e2::pB::e1::E2::n9::qR::e1::e2::qg::e1::Ca::r
noncomputable def Q8(P:Params)(r:List Obj):List Obj:=nL::pX::e1::e2::m8::e1::E5::nc::nM::e1::e2::oi::e1::Bo::oQ::nE::e1::rm P::o3::su 450::bs 450::e1::e2::qf::r
noncomputable def Rv(P:Params)(r:List Obj):List Obj:=e1::E7::sA::nP::qG P::e1::e2::CG::qP::oU::e1::e2::Fl::tY::nB::e1::e2::nU::e1::D7::qL::qu::e1::e2::r
noncomputable def Sj(P:Params)(r:List Obj):List Obj:=qx::e1::EB::rT::sJ::e1::e2::nQ::e1::EM::p_::oV::e1::bp::B5 P::e1::GR::B2::GW::e1::e2::se::e1::Ce::r
noncomputable def Ql(P:Params)(r:List Obj):List Obj:=rW::nZ::e1::e2::oq::e1::EJ::qd::pV::e1::e2::qt::e1::CC::nI::q_::e1::e2::nh::e1::B7::sy::sr::e1::r
noncomputable def RL(P:Params)(r:List Obj):List Obj:=e2::pD::e1::Eo::pI::tV::e1::e2::qJ::e1::C6::nJ::pN::e1::e2::qA::e1::FJ::pO::nX::ri::oa P::rf::t9::r
noncomputable def Rn(P:Params)(r:List Obj):List Obj:=rO::su 550::bs 550::e1::e2::oJ::e1::Gb::r8::sG::e1::e2::t8::e1::GU::tX::qm::e1::e2::nG::e1::Df::tI::pQ::r
noncomputable def PZ(P:Params)(r:List Obj):List Obj:=e1::e2::nK::e1::GD::ou::rR::e1::e2::pq::e1::Gu::nA::sZ::e1::e2::sE::e1::Eg::s_::si::e1::e2::qk::r
noncomputable def Q9(P:Params)(r:List Obj):List Obj:=e1::BV::o7::oE::e1::e2::m_::e1::FQ::sU::tF::e1::e2::tP::e1::CW::nD::pj::e1::e2::j4::e1::xJ::j6::r
noncomputable def Qz(P:Params)(r:List Obj):List Obj:=jn::e1::e2::jt::e1::yx::jQ::jF::e1::e2::xv::jI::jr::e1::e2::jG::e1::yb::km::jv::e1::e2::jw::e1::r
noncomputable def Ri(P:Params)(r:List Obj):List Obj:=zA::jX::jR::e1::e2::jL::e1::zc::ju::j9::e1::e2::jH::e1::xV::jl::jB::e1::e2::kl::e1::zC::jK::jW::r
noncomputable def Ra(P:Params)(r:List Obj):List Obj:=e1::e2::yF::jx::jN::e1::e2::j_::e1::xt::jJ::jA::e1::e2::jO::e1::zy::jP::jm::e1::e2::jD::e1::xO::r
noncomputable def Rk(P:Params)(r:List Obj):List Obj:=jT::jq::e1::e2::jM::e1::yz::j0::ki::e1::e2::jU::e1::xG::jC::jy::r
noncomputable def Hf(P:Params):Heap:=⟨⟨TZ P (TM P (Ur P (Ug P (Uq P (TQ P (TC P (Tr P (TN P (Uc P (R9 P (QM P (QV P (QZ P (Qu P (Rl P (Qv P (QP P (Q8 P (Rv P (Sj P (Ql P (RL P (Rn P (PZ P (Q9 P (Qz P (Ri P (Ra P (Rk P ([]))))))))))))))))))))))))))))))⟩,li⟩
noncomputable def Sf(w:World)(os:OsState):Shared:=⟨Hf w.params,⟨[]⟩,boot_drawn,1183,os⟩
def Fin(w:World):Prop:=(λos=>topRun treeTable pw w 11 an 2 (SI w os).abs ⟨doneF .next,cE,⟨421,0,429,46⟩,B⟩)=λos=>some (Sf w os)
noncomputable def q:Program:={ pw with main:={ pw.main with body:=My.top 0::My.top 2::My.top 3::My.top 4::My.top 5::My.top 6::My.top 7::My.top 8::My.top 9::My.top 10::My.top 11::My.top 12::My.top 14::My.top 15::My.top 16::My.top 17::My.top 18::My.top 20::My.top 21::My.top 22::My.top 23::My.top 24::My.top 25::My.top 26::My.top 27::My.top 29::My.top 30::My.top 31::My.top 32::My.top 33::My.top 34::My.top 35::My.top 36::My.top 37::My.top 38::My.top 39::My.top 40::My.top 41::My.top 42::My.top 44::My.top 45::My.top 46::My.top 47::My.top 48::My.top 49::My.top 50::My.top 51::My.top 52::My.top 53::My.top 54::My.top 55::My.top 56::My.top 57::My.top 58::My.top 59::My.top 60::My.top 61::My.top 62::[] } }
noncomputable def K(P:Params):Frag:=(nat_lit 2,boot_o_2 P)::(nat_lit 3,zl P)::(nat_lit 15,e1)::(nat_lit 17,x6)::(nat_lit 18,e1)::(nat_lit 20,yG)::(nat_lit 21,yE)::(nat_lit 22,tu #[.type "ValueError"])::(nat_lit 29,e1)::(nat_lit 30,zr P)::(nat_lit 31,yY)::(nat_lit 32,xu)::(nat_lit 35,tu #[.ref 31])::(nat_lit 42,e1)::(nat_lit 43,yM P)::(nat_lit 44,zk)::(nat_lit 47,tu #[.ref 31])::(nat_lit 54,e1)::(nat_lit 56,yV)::(nat_lit 57,e1)::(nat_lit 59,xK)::(nat_lit 60,yo)::(nat_lit 61,ze)::(nat_lit 62,xQ P)::(nat_lit 63,yi)::(nat_lit 66,tu #[.ref 31])::(nat_lit 73,e1)::(nat_lit 75,zD)::(nat_lit 76,e1)::(nat_lit 78,zI)::(nat_lit 79,zt)::(nat_lit 80,xq)::(nat_lit 81,xw P)::(nat_lit 82,zf)::(nat_lit 85,tu #[.ref 31])::(nat_lit 92,e1)::(nat_lit 94,zd)::(nat_lit 95,e1)::(nat_lit 97,zG)::(nat_lit 98,yR)::(nat_lit 99,yk)::(nat_lit 100,tD P)::(nat_lit 101,sj)::(nat_lit 104,tu #[.ref 31])::(nat_lit 111,e1)::(nat_lit 113,sh)::(nat_lit 114,e1)::(nat_lit 116,oo)::(nat_lit 117,oG)::(nat_lit 118,qw)::(nat_lit 119,rK P)::(nat_lit 120,rn)::(nat_lit 123,tu #[.ref 31])::(nat_lit 130,e1)::(nat_lit 132,pK)::(nat_lit 133,e1)::(nat_lit 135,rQ)::(nat_lit 136,r_)::(nat_lit 137,rM)::(nat_lit 138,tR P)::(nat_lit 139,sW)::(nat_lit 142,tu #[.ref 31])::(nat_lit 149,e1)::(nat_lit 151,r6)::(nat_lit 152,e1)::(nat_lit 154,ny)::(nat_lit 155,rG)::(nat_lit 156,qc)::(nat_lit 157,pk P)::(nat_lit 158,oj)::(nat_lit 161,tu #[.ref 31])::(nat_lit 168,e1)::(nat_lit 170,qB)::(nat_lit 171,e1)::(nat_lit 173,pP)::(nat_lit 174,tQ)::(nat_lit 175,mX)::(nat_lit 176,pE P)::(nat_lit 177,rJ)::(nat_lit 180,tu #[.ref 31])::(nat_lit 187,e1)::(nat_lit 189,qF)::(nat_lit 190,e1)::(nat_lit 192,nN)::(nat_lit 193,rb)::(nat_lit 194,mY)::(nat_lit 195,r9 P)::(nat_lit 196,nu)::(nat_lit 199,tu #[.ref 31])::(nat_lit 206,e1)::(nat_lit 207,qX P)::(nat_lit 208,qi)::(nat_lit 211,e1)::(nat_lit 213,rg)::(nat_lit 214,e1)::(nat_lit 216,rh)::(nat_lit 217,nF)::(nat_lit 218,e1)::(nat_lit 220,ow)::(nat_lit 221,e1)::(nat_lit 223,sO)::(nat_lit 224,qY)::(nat_lit 225,e1)::(nat_lit 227,tS)::(nat_lit 228,e1)::(nat_lit 230,qH)::(nat_lit 231,rZ)::(nat_lit 232,e1)::(nat_lit 234,pA)::(nat_lit 235,e1)::(nat_lit 237,tW)::(nat_lit 238,p7)::(nat_lit 239,e1)::(nat_lit 241,qM)::(nat_lit 242,e1)::(nat_lit 244,ng)::(nat_lit 245,qC)::(nat_lit 253,e1)::(nat_lit 255,ph)::(nat_lit 256,e1)::(nat_lit 258,sQ)::(nat_lit 259,rF)::(nat_lit 260,e1)::(nat_lit 262,nv)::(nat_lit 263,e1)::(nat_lit 265,rS)::(nat_lit 266,t6)::(nat_lit 267,e1)::(nat_lit 269,oO)::(nat_lit 270,e1)::(nat_lit 272,rH)::(nat_lit 273,px)::(nat_lit 274,e1)::(nat_lit 276,rq)::(nat_lit 277,e1)::(nat_lit 279,rP)::(nat_lit 280,oX)::(nat_lit 281,e1)::(nat_lit 283,rL)::(nat_lit 284,e1)::(nat_lit 286,mV)::(nat_lit 287,oR)::(nat_lit 288,n8)::(nat_lit 289,pR P)::(nat_lit 290,nY)::(nat_lit 291,nq)::(nat_lit 292,pe)::(nat_lit 295,tu #[.ref 290])::(nat_lit 302,e1)::(nat_lit 304,o6)::(nat_lit 305,e1)::(nat_lit 307,sV)::(nat_lit 308,rB)::(nat_lit 309,e1)::(nat_lit 311,pH)::(nat_lit 312,e1)::(nat_lit 314,nr)::(nat_lit 315,qD)::(nat_lit 316,e1)::(nat_lit 317,pW P)::(nat_lit 318,qz)::(nat_lit 321,tu #[.ref 290])::(nat_lit 328,e1)::(nat_lit 330,rp)::(nat_lit 331,e1)::(nat_lit 333,o9)::(nat_lit 334,oZ)::(nat_lit 335,e1)::(nat_lit 337,rA)::(nat_lit 338,e1)::(nat_lit 340,qK)::(nat_lit 341,qe)::(nat_lit 342,e1)::(nat_lit 343,sM P)::(nat_lit 344,nk)::(nat_lit 347,tu #[.ref 290])::(nat_lit 354,e1)::(nat_lit 356,sS)::(nat_lit 357,e1)::(nat_lit 359,tU)::(nat_lit 360,qQ)::(nat_lit 361,e1)::(nat_lit 363,tM)::(nat_lit 364,e1)::(nat_lit 366,qv)::(nat_lit 367,sL)::(nat_lit 368,e1)::(nat_lit 369,o8 P)::(nat_lit 370,rX)::(nat_lit 373,tu #[.ref 290])::(nat_lit 380,e1)::(nat_lit 382,pz)::(nat_lit 383,e1)::(nat_lit 385,qT)::(nat_lit 386,oY)::(nat_lit 387,e1)::(nat_lit 389,sN)::(nat_lit 390,e1)::(nat_lit 392,tm)::(nat_lit 393,sI)::(nat_lit 394,e1)::(nat_lit 396,pL)::(nat_lit 397,e1)::(nat_lit 399,n_)::(nat_lit 400,qE)::(nat_lit 401,e1)::(nat_lit 403,nj)::(nat_lit 404,e1)::(nat_lit 406,tO)::(nat_lit 407,sx)::(nat_lit 408,e1)::(nat_lit 409,nH P)::(nat_lit 410,qj)::(nat_lit 413,tu #[.ref 290])::(nat_lit 420,e1)::(nat_lit 422,pB)::(nat_lit 423,e1)::(nat_lit 425,n9)::(nat_lit 426,qR)::(nat_lit 427,e1)::(nat_lit 429,qg)::(nat_lit 430,e1)::(nat_lit 432,nL)::(nat_lit 433,pX)::(nat_lit 434,e1)::(nat_lit 436,m8)::(nat_lit 437,e1)::(nat_lit 439,nc)::(nat_lit 440,nM)::(nat_lit 441,e1)::(nat_lit 443,oi)::(nat_lit 444,e1)::(nat_lit 446,oQ)::(nat_lit 447,nE)::(nat_lit 448,e1)::(nat_lit 449,rm P)::(nat_lit 450,o3)::(nat_lit 453,e1)::(nat_lit 455,qf)::(nat_lit 456,e1)::(nat_lit 458,sA)::(nat_lit 459,nP)::(nat_lit 460,qG P)::(nat_lit 461,e1)::(nat_lit 464,qP)::(nat_lit 465,oU)::(nat_lit 466,e1)::(nat_lit 469,tY)::(nat_lit 470,nB)::(nat_lit 471,e1)::(nat_lit 473,nU)::(nat_lit 474,e1)::(nat_lit 476,qL)::(nat_lit 477,qu)::(nat_lit 478,e1)::(nat_lit 480,qx)::(nat_lit 481,e1)::(nat_lit 483,rT)::(nat_lit 484,sJ)::(nat_lit 485,e1)::(nat_lit 487,nQ)::(nat_lit 488,e1)::(nat_lit 490,p_)::(nat_lit 491,oV)::(nat_lit 499,e1)::(nat_lit 501,se)::(nat_lit 502,e1)::(nat_lit 504,rW)::(nat_lit 505,nZ)::(nat_lit 506,e1)::(nat_lit 508,oq)::(nat_lit 509,e1)::(nat_lit 511,qd)::(nat_lit 512,pV)::(nat_lit 513,e1)::(nat_lit 515,qt)::(nat_lit 516,e1)::(nat_lit 518,nI)::(nat_lit 519,q_)::(nat_lit 520,e1)::(nat_lit 522,nh)::(nat_lit 523,e1)::(nat_lit 525,sy)::(nat_lit 526,sr)::(nat_lit 527,e1)::(nat_lit 529,pD)::(nat_lit 530,e1)::(nat_lit 532,pI)::(nat_lit 533,tV)::(nat_lit 534,e1)::(nat_lit 536,qJ)::(nat_lit 537,e1)::(nat_lit 539,nJ)::(nat_lit 540,pN)::(nat_lit 541,e1)::(nat_lit 543,qA)::(nat_lit 544,e1)::(nat_lit 546,pO)::(nat_lit 547,nX)::(nat_lit 548,ri)::(nat_lit 549,oa P)::(nat_lit 550,rf)::(nat_lit 551,t9)::(nat_lit 552,rO)::(nat_lit 555,e1)::(nat_lit 557,oJ)::(nat_lit 558,e1)::(nat_lit 560,r8)::(nat_lit 561,sG)::(nat_lit 562,e1)::(nat_lit 564,t8)::(nat_lit 565,e1)::(nat_lit 567,tX)::(nat_lit 568,qm)::(nat_lit 569,e1)::(nat_lit 571,nG)::(nat_lit 572,e1)::(nat_lit 574,tI)::(nat_lit 575,pQ)::(nat_lit 576,e1)::(nat_lit 578,nK)::(nat_lit 579,e1)::(nat_lit 581,ou)::(nat_lit 582,rR)::(nat_lit 583,e1)::(nat_lit 585,pq)::(nat_lit 586,e1)::(nat_lit 588,nA)::(nat_lit 589,sZ)::(nat_lit 590,e1)::(nat_lit 592,sE)::(nat_lit 593,e1)::(nat_lit 595,s_)::(nat_lit 596,si)::(nat_lit 597,e1)::(nat_lit 599,qk)::(nat_lit 600,e1)::(nat_lit 602,o7)::(nat_lit 603,oE)::(nat_lit 604,e1)::(nat_lit 606,m_)::(nat_lit 607,e1)::(nat_lit 609,sU)::(nat_lit 610,tF)::(nat_lit 611,e1)::(nat_lit 613,tP)::(nat_lit 614,e1)::(nat_lit 616,nD)::(nat_lit 617,pj)::(nat_lit 618,e1)::(nat_lit 620,j4)::(nat_lit 621,e1)::(nat_lit 623,j6)::(nat_lit 624,jn)::(nat_lit 625,e1)::(nat_lit 627,jt)::(nat_lit 628,e1)::(nat_lit 630,jQ)::(nat_lit 631,jF)::(nat_lit 632,e1)::(nat_lit 635,jI)::(nat_lit 636,jr)::(nat_lit 637,e1)::(nat_lit 639,jG)::(nat_lit 640,e1)::(nat_lit 642,km)::(nat_lit 643,jv)::(nat_lit 644,e1)::(nat_lit 646,jw)::(nat_lit 647,e1)::(nat_lit 649,jX)::(nat_lit 650,jR)::(nat_lit 651,e1)::(nat_lit 653,jL)::(nat_lit 654,e1)::(nat_lit 656,ju)::(nat_lit 657,j9)::(nat_lit 658,e1)::(nat_lit 660,jH)::(nat_lit 661,e1)::(nat_lit 663,jl)::(nat_lit 664,jB)::(nat_lit 665,e1)::(nat_lit 667,kl)::(nat_lit 668,e1)::(nat_lit 670,jK)::(nat_lit 671,jW)::(nat_lit 672,e1)::(nat_lit 675,jx)::(nat_lit 676,jN)::(nat_lit 677,e1)::(nat_lit 679,j_)::(nat_lit 680,e1)::(nat_lit 682,jJ)::(nat_lit 683,jA)::(nat_lit 684,e1)::(nat_lit 686,jO)::(nat_lit 687,e1)::(nat_lit 689,jP)::(nat_lit 690,jm)::(nat_lit 691,e1)::(nat_lit 693,jD)::(nat_lit 694,e1)::(nat_lit 696,jT)::(nat_lit 697,jq)::(nat_lit 698,e1)::(nat_lit 700,jM)::(nat_lit 701,e1)::(nat_lit 703,j0)::(nat_lit 704,ki)::(nat_lit 705,e1)::(nat_lit 707,jU)::(nat_lit 708,e1)::(nat_lit 710,jC)::(nat_lit 711,jy)::[]
noncomputable def Ud(P:Params)(r:List (Nat×Obj)):List (Nat×Obj):=(2,boot_o_2 P)::(3,zl P)::(15,e1)::(17,x6)::(18,e1)::(20,yG)::(21,yE)::(22,tu #[.type "ValueError"])::(29,e1)::(30,zr P)::(31,yY)::(32,xu)::(35,tu #[.ref 31])::(42,e1)::(43,yM P)::(44,zk)::(47,tu #[.ref 31])::(54,e1)::(56,yV)::(57,e1)::(59,xK)::(60,yo)::(61,ze)::(62,xQ P)::r
noncomputable def Uo(P:Params)(r:List (Nat×Obj)):List (Nat×Obj):=(63,yi)::(66,tu #[.ref 31])::(73,e1)::(75,zD)::(76,e1)::(78,zI)::(79,zt)::(80,xq)::(81,xw P)::(82,zf)::(85,tu #[.ref 31])::(92,e1)::(94,zd)::(95,e1)::(97,zG)::(98,yR)::(99,yk)::(100,tD P)::(101,sj)::(104,tu #[.ref 31])::(111,e1)::(113,sh)::(114,e1)::(116,oo)::r
noncomputable def TH(P:Params)(r:List (Nat×Obj)):List (Nat×Obj):=(117,oG)::(118,qw)::(119,rK P)::(120,rn)::(123,tu #[.ref 31])::(130,e1)::(132,pK)::(133,e1)::(135,rQ)::(136,r_)::(137,rM)::(138,tR P)::(139,sW)::(142,tu #[.ref 31])::(149,e1)::(151,r6)::(152,e1)::(154,ny)::(155,rG)::(156,qc)::(157,pk P)::(158,oj)::(161,tu #[.ref 31])::(168,e1)::r
noncomputable def Ui(P:Params)(r:List (Nat×Obj)):List (Nat×Obj):=(170,qB)::(171,e1)::(173,pP)::(174,tQ)::(175,mX)::(176,pE P)::(177,rJ)::(180,tu #[.ref 31])::(187,e1)::(189,qF)::(190,e1)::(192,nN)::(193,rb)::(194,mY)::(195,r9 P)::(196,nu)::(199,tu #[.ref 31])::(206,e1)::(207,qX P)::(208,qi)::(211,e1)::(213,rg)::(214,e1)::(216,rh)::r
noncomputable def TV(P:Params)(r:List (Nat×Obj)):List (Nat×Obj):=(217,nF)::(218,e1)::(220,ow)::(221,e1)::(223,sO)::(224,qY)::(225,e1)::(227,tS)::(228,e1)::(230,qH)::(231,rZ)::(232,e1)::(234,pA)::(235,e1)::(237,tW)::(238,p7)::(239,e1)::(241,qM)::(242,e1)::(244,ng)::(245,qC)::(253,e1)::(255,ph)::(256,e1)::r
noncomputable def TR(P:Params)(r:List (Nat×Obj)):List (Nat×Obj):=(258,sQ)::(259,rF)::(260,e1)::(262,nv)::(263,e1)::(265,rS)::(266,t6)::(267,e1)::(269,oO)::(270,e1)::(272,rH)::(273,px)::(274,e1)::(276,rq)::(277,e1)::(279,rP)::(280,oX)::(281,e1)::(283,rL)::(284,e1)::(286,mV)::(287,oR)::(288,n8)::(289,pR P)::r
noncomputable def T_(P:Params)(r:List (Nat×Obj)):List (Nat×Obj):=(290,nY)::(291,nq)::(292,pe)::(295,tu #[.ref 290])::(302,e1)::(304,o6)::(305,e1)::(307,sV)::(308,rB)::(309,e1)::(311,pH)::(312,e1)::(314,nr)::(315,qD)::(316,e1)::(317,pW P)::(318,qz)::(321,tu #[.ref 290])::(328,e1)::(330,rp)::(331,e1)::(333,o9)::(334,oZ)::(335,e1)::r
noncomputable def Tt(P:Params)(r:List (Nat×Obj)):List (Nat×Obj):=(337,rA)::(338,e1)::(340,qK)::(341,qe)::(342,e1)::(343,sM P)::(344,nk)::(347,tu #[.ref 290])::(354,e1)::(356,sS)::(357,e1)::(359,tU)::(360,qQ)::(361,e1)::(363,tM)::(364,e1)::(366,qv)::(367,sL)::(368,e1)::(369,o8 P)::(370,rX)::(373,tu #[.ref 290])::(380,e1)::(382,pz)::r
noncomputable def Ts(P:Params)(r:List (Nat×Obj)):List (Nat×Obj):=(383,e1)::(385,qT)::(386,oY)::(387,e1)::(389,sN)::(390,e1)::(392,tm)::(393,sI)::(394,e1)::(396,pL)::(397,e1)::(399,n_)::(400,qE)::(401,e1)::(403,nj)::(404,e1)::(406,tO)::(407,sx)::(408,e1)::(409,nH P)::(410,qj)::(413,tu #[.ref 290])::(420,e1)::(422,pB)::r
noncomputable def Tw(P:Params)(r:List (Nat×Obj)):List (Nat×Obj):=(423,e1)::(425,n9)::(426,qR)::(427,e1)::(429,qg)::(430,e1)::(432,nL)::(433,pX)::(434,e1)::(436,m8)::(437,e1)::(439,nc)::(440,nM)::(441,e1)::(443,oi)::(444,e1)::(446,oQ)::(447,nE)::(448,e1)::(449,rm P)::(450,o3)::(453,e1)::(455,qf)::(456,e1)::r
noncomputable def RA(P:Params)(r:List (Nat×Obj)):List (Nat×Obj):=(458,sA)::(459,nP)::(460,qG P)::(461,e1)::(464,qP)::(465,oU)::(466,e1)::(469,tY)::(470,nB)::(471,e1)::(473,nU)::(474,e1)::(476,qL)::(477,qu)::(478,e1)::(480,qx)::(481,e1)::(483,rT)::(484,sJ)::(485,e1)::(487,nQ)::(488,e1)::(490,p_)::(491,oV)::r
noncomputable def Qt(P:Params)(r:List (Nat×Obj)):List (Nat×Obj):=(499,e1)::(501,se)::(502,e1)::(504,rW)::(505,nZ)::(506,e1)::(508,oq)::(509,e1)::(511,qd)::(512,pV)::(513,e1)::(515,qt)::(516,e1)::(518,nI)::(519,q_)::(520,e1)::(522,nh)::(523,e1)::(525,sy)::(526,sr)::(527,e1)::(529,pD)::(530,e1)::(532,pI)::r
noncomputable def RS(P:Params)(r:List (Nat×Obj)):List (Nat×Obj):=(533,tV)::(534,e1)::(536,qJ)::(537,e1)::(539,nJ)::(540,pN)::(541,e1)::(543,qA)::(544,e1)::(546,pO)::(547,nX)::(548,ri)::(549,oa P)::(550,rf)::(551,t9)::(552,rO)::(555,e1)::(557,oJ)::(558,e1)::(560,r8)::(561,sG)::(562,e1)::(564,t8)::(565,e1)::r
noncomputable def PV(P:Params)(r:List (Nat×Obj)):List (Nat×Obj):=(567,tX)::(568,qm)::(569,e1)::(571,nG)::(572,e1)::(574,tI)::(575,pQ)::(576,e1)::(578,nK)::(579,e1)::(581,ou)::(582,rR)::(583,e1)::(585,pq)::(586,e1)::(588,nA)::(589,sZ)::(590,e1)::(592,sE)::(593,e1)::(595,s_)::(596,si)::(597,e1)::(599,qk)::r
noncomputable def Qe(P:Params)(r:List (Nat×Obj)):List (Nat×Obj):=(600,e1)::(602,o7)::(603,oE)::(604,e1)::(606,m_)::(607,e1)::(609,sU)::(610,tF)::(611,e1)::(613,tP)::(614,e1)::(616,nD)::(617,pj)::(618,e1)::(620,j4)::(621,e1)::(623,j6)::(624,jn)::(625,e1)::(627,jt)::(628,e1)::(630,jQ)::(631,jF)::(632,e1)::r
noncomputable def Qp(P:Params)(r:List (Nat×Obj)):List (Nat×Obj):=(635,jI)::(636,jr)::(637,e1)::(639,jG)::(640,e1)::(642,km)::(643,jv)::(644,e1)::(646,jw)::(647,e1)::(649,jX)::(650,jR)::(651,e1)::(653,jL)::(654,e1)::(656,ju)::(657,j9)::(658,e1)::(660,jH)::(661,e1)::(663,jl)::(664,jB)::(665,e1)::(667,kl)::r
noncomputable def Qs(P:Params)(r:List (Nat×Obj)):List (Nat×Obj):=(668,e1)::(670,jK)::(671,jW)::(672,e1)::(675,jx)::(676,jN)::(677,e1)::(679,j_)::(680,e1)::(682,jJ)::(683,jA)::(684,e1)::(686,jO)::(687,e1)::(689,jP)::(690,jm)::(691,e1)::(693,jD)::(694,e1)::(696,jT)::(697,jq)::(698,e1)::(700,jM)::(701,e1)::r
noncomputable def RY(P:Params)(r:List (Nat×Obj)):List (Nat×Obj):=(703,j0)::(704,ki)::(705,e1)::(707,jU)::(708,e1)::(710,jC)::(711,jy)::r
noncomputable def K2(P:Params):Frag:=Ud P (Uo P (TH P (Ui P (TV P (TR P (T_ P (Tt P (Ts P (Tw P (RA P (Qt P (RS P (PV P (Qe P (Qp P (Qs P (RY P ([]))))))))))))))))))
noncomputable def as:List Addr:=nat_lit 2::nat_lit 3::nat_lit 15::nat_lit 17::nat_lit 18::nat_lit 20::nat_lit 21::nat_lit 22::nat_lit 29::nat_lit 30::nat_lit 31::nat_lit 32::nat_lit 35::nat_lit 42::nat_lit 43::nat_lit 44::nat_lit 47::nat_lit 54::nat_lit 56::nat_lit 57::nat_lit 59::nat_lit 60::nat_lit 61::nat_lit 62::nat_lit 63::nat_lit 66::nat_lit 73::nat_lit 75::nat_lit 76::nat_lit 78::nat_lit 79::nat_lit 80::nat_lit 81::nat_lit 82::nat_lit 85::nat_lit 92::nat_lit 94::nat_lit 95::nat_lit 97::nat_lit 98::nat_lit 99::nat_lit 100::nat_lit 101::nat_lit 104::nat_lit 111::nat_lit 113::nat_lit 114::nat_lit 116::nat_lit 117::nat_lit 118::nat_lit 119::nat_lit 120::nat_lit 123::nat_lit 130::nat_lit 132::nat_lit 133::nat_lit 135::nat_lit 136::nat_lit 137::nat_lit 138::nat_lit 139::nat_lit 142::nat_lit 149::nat_lit 151::nat_lit 152::nat_lit 154::nat_lit 155::nat_lit 156::nat_lit 157::nat_lit 158::nat_lit 161::nat_lit 168::nat_lit 170::nat_lit 171::nat_lit 173::nat_lit 174::nat_lit 175::nat_lit 176::nat_lit 177::nat_lit 180::nat_lit 187::nat_lit 189::nat_lit 190::nat_lit 192::nat_lit 193::nat_lit 194::nat_lit 195::nat_lit 196::nat_lit 199::nat_lit 206::nat_lit 207::nat_lit 208::nat_lit 211::nat_lit 213::nat_lit 214::nat_lit 216::nat_lit 217::nat_lit 218::nat_lit 220::nat_lit 221::nat_lit 223::nat_lit 224::nat_lit 225::nat_lit 227::nat_lit 228::nat_lit 230::nat_lit 231::nat_lit 232::nat_lit 234::nat_lit 235::nat_lit 237::nat_lit 238::nat_lit 239::nat_lit 241::nat_lit 242::nat_lit 244::nat_lit 245::nat_lit 253::nat_lit 255::nat_lit 256::nat_lit 258::nat_lit 259::nat_lit 260::nat_lit 262::nat_lit 263::nat_lit 265::nat_lit 266::nat_lit 267::nat_lit 269::nat_lit 270::nat_lit 272::nat_lit 273::nat_lit 274::nat_lit 276::nat_lit 277::nat_lit 279::nat_lit 280::nat_lit 281::nat_lit 283::nat_lit 284::nat_lit 286::nat_lit 287::nat_lit 288::nat_lit 289::nat_lit 290::nat_lit 291::nat_lit 292::nat_lit 295::nat_lit 302::nat_lit 304::nat_lit 305::nat_lit 307::nat_lit 308::nat_lit 309::nat_lit 311::nat_lit 312::nat_lit 314::nat_lit 315::nat_lit 316::nat_lit 317::nat_lit 318::nat_lit 321::nat_lit 328::nat_lit 330::nat_lit 331::nat_lit 333::nat_lit 334::nat_lit 335::nat_lit 337::nat_lit 338::nat_lit 340::nat_lit 341::nat_lit 342::nat_lit 343::nat_lit 344::nat_lit 347::nat_lit 354::nat_lit 356::nat_lit 357::nat_lit 359::nat_lit 360::nat_lit 361::nat_lit 363::nat_lit 364::nat_lit 366::nat_lit 367::nat_lit 368::nat_lit 369::nat_lit 370::nat_lit 373::nat_lit 380::nat_lit 382::nat_lit 383::nat_lit 385::nat_lit 386::nat_lit 387::nat_lit 389::nat_lit 390::nat_lit 392::nat_lit 393::nat_lit 394::nat_lit 396::nat_lit 397::nat_lit 399::nat_lit 400::nat_lit 401::nat_lit 403::nat_lit 404::nat_lit 406::nat_lit 407::nat_lit 408::nat_lit 409::nat_lit 410::nat_lit 413::nat_lit 420::nat_lit 422::nat_lit 423::nat_lit 425::nat_lit 426::nat_lit 427::nat_lit 429::nat_lit 430::nat_lit 432::nat_lit 433::nat_lit 434::nat_lit 436::nat_lit 437::nat_lit 439::nat_lit 440::nat_lit 441::nat_lit 443::nat_lit 444::nat_lit 446::nat_lit 447::nat_lit 448::nat_lit 449::nat_lit 450::nat_lit 453::nat_lit 455::nat_lit 456::nat_lit 458::nat_lit 459::nat_lit 460::nat_lit 461::nat_lit 464::nat_lit 465::nat_lit 466::nat_lit 469::nat_lit 470::nat_lit 471::nat_lit 473::nat_lit 474::nat_lit 476::nat_lit 477::nat_lit 478::nat_lit 480::nat_lit 481::nat_lit 483::nat_lit 484::nat_lit 485::nat_lit 487::nat_lit 488::nat_lit 490::nat_lit 491::nat_lit 499::nat_lit 501::nat_lit 502::nat_lit 504::nat_lit 505::nat_lit 506::nat_lit 508::nat_lit 509::nat_lit 511::nat_lit 512::nat_lit 513::nat_lit 515::nat_lit 516::nat_lit 518::nat_lit 519::nat_lit 520::nat_lit 522::nat_lit 523::nat_lit 525::nat_lit 526::nat_lit 527::nat_lit 529::nat_lit 530::nat_lit 532::nat_lit 533::nat_lit 534::nat_lit 536::nat_lit 537::nat_lit 539::nat_lit 540::nat_lit 541::nat_lit 543::nat_lit 544::nat_lit 546::nat_lit 547::nat_lit 548::nat_lit 549::nat_lit 550::nat_lit 551::nat_lit 552::nat_lit 555::nat_lit 557::nat_lit 558::nat_lit 560::nat_lit 561::nat_lit 562::nat_lit 564::nat_lit 565::nat_lit 567::nat_lit 568::nat_lit 569::nat_lit 571::nat_lit 572::nat_lit 574::nat_lit 575::nat_lit 576::nat_lit 578::nat_lit 579::nat_lit 581::nat_lit 582::nat_lit 583::nat_lit 585::nat_lit 586::nat_lit 588::nat_lit 589::nat_lit 590::nat_lit 592::nat_lit 593::nat_lit 595::nat_lit 596::nat_lit 597::nat_lit 599::nat_lit 600::nat_lit 602::nat_lit 603::nat_lit 604::nat_lit 606::nat_lit 607::nat_lit 609::nat_lit 610::nat_lit 611::nat_lit 613::nat_lit 614::nat_lit 616::nat_lit 617::nat_lit 618::nat_lit 620::nat_lit 621::nat_lit 623::nat_lit 624::nat_lit 625::nat_lit 627::nat_lit 628::nat_lit 630::nat_lit 631::nat_lit 632::nat_lit 635::nat_lit 636::nat_lit 637::nat_lit 639::nat_lit 640::nat_lit 642::nat_lit 643::nat_lit 644::nat_lit 646::nat_lit 647::nat_lit 649::nat_lit 650::nat_lit 651::nat_lit 653::nat_lit 654::nat_lit 656::nat_lit 657::nat_lit 658::nat_lit 660::nat_lit 661::nat_lit 663::nat_lit 664::nat_lit 665::nat_lit 667::nat_lit 668::nat_lit 670::nat_lit 671::nat_lit 672::nat_lit 675::nat_lit 676::nat_lit 677::nat_lit 679::nat_lit 680::nat_lit 682::nat_lit 683::nat_lit 684::nat_lit 686::nat_lit 687::nat_lit 689::nat_lit 690::nat_lit 691::nat_lit 693::nat_lit 694::nat_lit 696::nat_lit 697::nat_lit 698::nat_lit 700::nat_lit 701::nat_lit 703::nat_lit 704::nat_lit 705::nat_lit 707::nat_lit 708::nat_lit 710::nat_lit 711::[]
noncomputable def H:Hook:=kHook K as (λ_=>by kernel_rfl)
noncomputable abbrev R:WRecords:=RowW.records (OpenRow.toRowW (OpenLaw.row PySem.Challenge.rw_joinload_k14_the_first_bad_row))
noncomputable abbrev Xt(s:Shared):Bool:=xlAt q [] s&&recOk R s
def MX(w:World):Prop:=((boot_heap w.params).isNs mainGlobals&&(⟨[]⟩:Array GenState).size == 0,(boot_heap w.params).objs.size,(boot_heap w.params).nsMap mainGlobals "__annotations__")=(true,11,an)
def LA(w:World):Prop:=(λos=>staticsOk (importedModules pw.main.body) (boot_heap w.params) (Hf w.params)&&namesBound pw (Hf w.params)&&gensDone (Sf w os)&&laidKept (boot_heap w.params) (Hf w.params))=λ_=>true
def SV(w:World):Prop:=(λos=>seen ((recsOf q).map (·.name)) (ownsOf q) [] { Sf w os with gens:=#[] })=λ_=>expectedOf q
def SG(w:World):Prop:=(λos=>(Sf w os).heap.bltView)=λ_=>bltViewBooted
def Tb(w:World):Prop:=(λos=>(Sf w os).heap.keysOk (looseW q ["HOW_MANY_PARTS"]) ((recsOf q).map (·.name)) ((litsOf q).map (·.1)) ((clssOf q (looseW q ["HOW_MANY_PARTS"])).map (·.name))&&(Sf w os).heap.accountedOkI (importedModules pw.main.body)&&(Sf w os).heap.isNs mainGlobals&&(Sf w os).heap.isNs builtinsNs&&tablesOk q (Sf w os).heap&&Xt (Sf w os)&&(if true then (Sf w os).gens.size == 0 else !leftWithCleanup (Sf w os).gens))=λ_=>true
def Tn(w:World):Prop:=(λos=>tabsOk q (Sf w os))=λ_=>true
def SY(w:World):Prop:=(λos=>pinSeenD q (drecsOf q) (Sf w os))=λ_=>pinGoodD (drecsOf q)
def SR(w:World):Prop:=(λos=>plainSeenE q (looseW q ["HOW_MANY_PARTS"]) (Sf w os))=λ_=>plainGoodE q (looseW q ["HOW_MANY_PARTS"])
def SW(w:World):Prop:=(λos=>plainSeenD q ["HOW_MANY_PARTS"] (Sf w os))=λ_=>plainGoodD q ["HOW_MANY_PARTS"]
def SO(w:World):Prop:=(λos=>wideSeen q (Sf w os))=λ_=>wideGood q
def SX(w:World):Prop:=(λos=>clsSeenW q ["HOW_MANY_PARTS"] (Sf w os))=λ_=>clsGoodW q ["HOW_MANY_PARTS"]
def Yk(w:World):Prop:=(λos=>as.map (Sf w os).heap.get?)=λ_=>(K2 w.params).map λp=>some p.2
theorem Q3:K=K2:=by kernel_rfl
end Hd
namespace Hd
open PySem PySem.W PySem.Calls PyProof.Rows
theorem Om(w:World):Pre w:=by
 delta Pre
 kernel_rfl
theorem OC(w:World):SD w:=by
 delta SD
 kernel_rfl
theorem Sk(w:World):P0 w:=by
 delta P0
 kernel_rfl
theorem R_(w:World):P1 w:=by
 delta P1
 kernel_rfl
theorem Sr(w:World):P2 w:=by
 delta P2
 kernel_rfl
theorem Qf(w:World):P3 w:=by
 delta P3
 kernel_rfl
theorem RM(w:World):P4 w:=by
 delta P4
 kernel_rfl
theorem QG(w:World):P5 w:=by
 delta P5
 kernel_rfl
theorem DJ(w:World):P6 (w.withFollow "special-get-raises" false):=by
 delta P6
 kernel_rfl
theorem Hv(w:World):P6 (w.withFollow "special-get-raises" true):=by
 delta P6
 kernel_rfl
theorem Ru(w:World):P6 w:=@byRow2 "special-get-raises" P6 DJ Hv w
theorem Q5(w:World):P7 w:=by
 delta P7
 kernel_rfl
theorem Su(w:World):P8 w:=by
 delta P8
 kernel_rfl
theorem N3(w:World):Fin w:=by
 delta Fin
 kernel_rfl
theorem Md(w:World):MX w:=by
 delta MX
 kernel_rfl
theorem QF(w:World):LA w:=by
 delta LA
 kernel_rfl
theorem OR(w:World):SV w:=by
 delta SV
 kernel_rfl
theorem OM(w:World):SG w:=by
 delta SG
 kernel_rfl
theorem MI(w:World):Tb w:=by
 delta Tb
 kernel_rfl
theorem OT(w:World):Tn w:=by
 delta Tn
 kernel_rfl
theorem Ot(w:World):SY w:=by
 delta SY
 kernel_rfl
theorem Ou(w:World):SR w:=by
 delta SR
 kernel_rfl
theorem OL(w:World):SW w:=by
 delta SW
 kernel_rfl
theorem OX(w:World):SO w:=by
 delta SO
 kernel_rfl
theorem MN(w:World):SX w:=by
 delta SX
 kernel_rfl
theorem Q0(w:World):Yk w:=by
 delta Yk
 kernel_rfl
noncomputable def R8:List Stmt:=L8++[]
noncomputable def R7:List Stmt:=L7++R8
noncomputable def R6:List Stmt:=L6++R7
noncomputable def R5:List Stmt:=L5++R6
noncomputable def R4:List Stmt:=L4++R5
noncomputable def R3:List Stmt:=L3++R4
noncomputable def R2:List Stmt:=L2++R3
noncomputable def R1:List Stmt:=L1++R2
noncomputable def R0:List Stmt:=L0++R1
theorem NH:bd=R0:=by kernel_rfl
theorem Ld(w:World)(os:OsState):topRun treeTable pw w 11 an (683+(742+(742+(636+(633+(559+(899+(880+(437+2))))))))) (Se w os).abs (restOf R0 en cE ⟨0,0,0,0⟩ B)=some (Sf w os):=
 (piece_app (l:=L0) (segRun_of (congrFun (Sk w) os)) (piece_app (l:=L1) (segRun_of (congrFun (R_ w) os)) (piece_app (l:=L2) (segRun_of (congrFun (Sr w) os)) (piece_app (l:=L3) (segRun_of (congrFun (Qf w) os)) (piece_app (l:=L4) (segRun_of (congrFun (RM w) os)) (piece_app (l:=L5) (segRun_of (congrFun (QG w) os)) (piece_app (l:=L6) (segRun_of (congrFun (Ru w) os)) (piece_app (l:=L7) (segRun_of (congrFun (Q5 w) os)) (piece_app (l:=L8) (segRun_of (congrFun (Su w) os)) (congrFun (N3 w) os))))))))))
theorem NZ(w:World)(os:OsState):topRun treeTable pw w 11 an (12+(1+(683+(742+(742+(636+(633+(559+(899+(880+(437+2))))))))))) (S0 w os) (topStub pw)=some (Sf w os):=
 go_top (congrFun (Om w) os) (piece_block (congrFun (OC w) os) (by
  rw[show restOf bd en cE ⟨0,0,0,0⟩ B=restOf R0 en cE ⟨0,0,0,0⟩ B from congrArg (λl=>restOf l en cE ⟨0,0,0,0⟩ B) NH]
  exact Ld w os))
theorem QS(w:World)(os:OsState):Hook.obs H (Sf w os)=Hook.val H w:=by
 show as.map (Sf w os).heap.get?=(K w.params).map λp=>some p.2
 rw[Q3];exact congrFun (Q0 w) os
theorem K5:LeftO pw q ["HOW_MANY_PARTS"] Xt (Hook.obs H) (Hook.val H) 12530:=
 LeftO.of_pieces (H₀:=boot_heap) (H₁:=Hf) (m₀:=11) (ann:=an) (boot_open rfl rfl (λ_=>rfl)) Md NZ (by decide +kernel) λw=>funext λos=>
  looks_pair (congrFun (QF w) os) (looks_pair
   (show openSeen q ["HOW_MANY_PARTS"] (importedModules pw.main.body) Xt true (Sf w os)=openGood q ["HOW_MANY_PARTS"] from
    looks_pair (congrFun (OR w) os) (looks_pair (congrFun (OM w) os) (looks_pair (congrFun (MI w) os) (looks_pair (congrFun (OT w) os) (looks_pair (congrFun (Ot w) os) (looks_pair (congrFun (Ou w) os) (looks_pair (congrFun (OL w) os) (looks_pair (congrFun (OX w) os) (congrFun (MN w) os)))))))))
   (QS w os))
end Hd
open PySem PySem.W PyProof.Rows
set_option maxRecDepth 100000 in
set_option maxHeartbeats 0 in
theorem PySem.Challenge.cw_joinload_k14_the_first_bad_row_holds : PySem.Challenge.rw_joinload_k14_the_first_bad_row.Holds := by
 w_on;o_law
 refine holds_open (q:=Hd.q) (loose:=["HOW_MANY_PARTS"]) (Xt:=Hd.Xt) (XP:=XL Hd.q []) (Yf:=Hook.obs Hd.H) (Ya:=Hook.val Hd.H) (YP:=InK Hd.K) Hd.K5 (Hook.of Hd.H) (Hook.keeps Hd.H) (λs e=>xl_of s (Bool.and_eq_true_iff.mp e).1) XL.keeps (by rfl) (by rfl) (by rfl) (λs e=>recFacts_of (Bool.and_eq_true_iff.mp e).2) (by rfl) (by first|assumption|decide +kernel) (by decide +kernel) ⟨rfl,rfl,rfl,rfl,rfl,by decide +kernel⟩ ?hw ?hc
 (case hw=>w_witness2)
 k_fill
 refine My.walk (l:=PySem.Challenge.rw_joinload_k14_the_first_bad_row) (K:=Hd.K) rfl rfl (λw h Y=>Y) ?F
 case F=>
  intro w mg fa h KX G hmg
  refine' My.all_mk KX G hmg _ _ _ _ _ _ _ _ _ _ _ _ _ _ _ _ _ _ _ _ _ _ _ _ _ _ _ _ _ _ _ _ _ _ _ _ _ _ _ _ _ _ _ _ _ _ _ _ _ _ _ _ _ _ _ _ _ _ _ _ _ _ _ _ _ _ _ _ _ _ _ _ _ _ _ _ _ _ _ _ _ _ _ _ _ _ _ _ _ _ _ _ _ _ _ _ _ _ _ _ _ _ _ _ _ _ _ _ _ _ _ _ _ _ _ _ _ _ _ _ _ _ _ _ _ _ _ _ _ _ _ _ _ _ _ _ _ _ _ _ _ _ _ _ _ _ _ _ _ _ _ _ _ _ _ _ _ _ _ _ _ _ _ _ _ _ _ _ _ _ _ _ _ _ _ _ _ _ _ _ _ _ _ _ _ _ _ _ _ _ _ _ _ _ _ _ _ _ _ _
  all_goals first|exact⟨_,_,_,_,_,_,_,_,_,by k_is,by k_is,by k_is⟩|k_is|kernel_rfl|k_exc|kit_is|rfl|skip
#print axioms PySem.Challenge.cw_joinload_k14_the_first_bad_row_holds
