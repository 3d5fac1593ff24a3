import PyProof.Rows.All
import Wide.All
import OpenK.AllK
import Wide.FinOn
import Lean
import PyProof.EqAt
import PyProof.EqKinds
import PyProof.TupleCall
import PyProof.StationsW
import PyProof.ExcAttrAll.ValueError
import KE.KIsAll
import PyProof.RulesAs
import PyProof.NsDelKeeps
import PyProof.FString
import PyProof.FString4
import PyProof.Rows.FStr
import PyProof.Rows.FStrParts
import PyProof.StrCalls2
import PyProof.StrLawsRepr
import PyProof.StrLawsJoin
import PyProof.StrLaws
import PyProof.Rows.ReprOcc
import PyProof.ExcInit
import PyProof.InstStoreFacts
import KE.KDictOf
import PyProof.AttrMissHeap
import PyProof.AttrMissSeq
import PyProof.WalksS
import PyProof.Walks
import PyProof.Seq
import PyProof.DictList
import PyProof.DictUpdate
import PyProof.MakeMany
import PyProof.Rows.SetFrom
import PyProof.ZipIter
import PyProof.Rows.TupDisplay
import PyProof.EnumFor
import PyProof.EnumMake
import PyProof.EnumStmt
import PyProof.SeqI3
import PyProof.Rows.SumAny
import KE.KDictIter
import PyProof.DictWalks
import PyProof.StrLawsChain
import PyProof.StrLawsTight
import KE.KIntText
import PyProof.CallType
import PyProof.Rows.CallKwBuiltin
import PyProof.Draws
import PyProof.DefCall
import PyProof.SetKind
import PyProof.DictKinds
import PyProof.CollectWalk
import PyProof.FactsAll.set
import PyProof.DictIter
import PyProof.FactsTree
import PyProof.CollectStr
import KE.KDictLaws
import PyProof.Rows.SortShellK
import PyProof.Rows.SortWalk
import PyProof.Rows.StrNews2
import KE.KRevIter
import PyProof.ListNew
import PyProof.ListRange
import PyProof.WalkInts
import KE.KLam
import KE.KSortKey
import PyProof.AutoSeq1
import PyProof.ListIndex
import PyProof.DictRoadsH
import PySem.Challenge.RW_joinload_k35_places_told
set_option genInjectivity false
set_option compiler.extract_closed false
set_option Elab.async false
set_option linter.all false
set_option maxRecDepth 100000
set_option genSizeOfSpec false
abbrev Wf:=PySem.W.Frag
abbrev Vs:=PySem.Value->PySem.Shared->Prop
abbrev Lo:=List (PySem.Addr×PySem.Obj)
abbrev So:=PySem.Str->Option PySem.Value
open PySem.W (instObj methodObj lookIn plainGet hasDictIn findIn handedIn plainGet_of isFn plainOver takerIn makesIn emptyDict keepIn specialIn takesIn mroIn kitOne kia_one kitx_list kitx_dict callWith_K methodCall_KW cellsFrom_some fnOf codeIn excIn KdkAt tabObj codeHdIn kla_obj codeHd_of_K kla_fn nsIn mg_of mg_none_of)
abbrev az := @List.length_map
abbrev au := @PySem.wpAny_bind
abbrev aY := @List.map_append
abbrev aM := @List.mem_map
abbrev cM := @PySem.Heap.get?_push_of_some
abbrev bX := @List.mem_singleton
abbrev bF := @List.mem_append
abbrev aP := @PySem.wpAny_pure
abbrev c_ := @List.mem_of_getElem?
abbrev cW := @List.length_append
abbrev d_ := @Option.map_eq_some_iff
abbrev bC := @Nat.le_refl
abbrev ck := @List.map_map
abbrev ig := @List.getElem?_eq_some_iff
abbrev gR := @List.mem_append_right
abbrev gC := @List.mem_append_left
abbrev jo := @List.getElem?_eq_getElem
abbrev cV := @PySem.Heap.lt_size
abbrev gL := @PySem.Heap.get?_push_size
abbrev f_ := @List.nodup_append
abbrev gh := @List.getElem?_map
abbrev ij := @List.size_toArray
abbrev hW := @List.mem_flatMap
abbrev eD := @Nat.ne_of_lt
abbrev ka := @List.mem_cons_of_mem
abbrev fX := @List.take_succ
abbrev qw := @List.mem_of_find?_eq_some
abbrev iF := @List.take_length
abbrev fH := @List.map_cons
abbrev je := @List.length_cons
abbrev jr := @List.length_take
abbrev lE := @List.mem_cons_self
abbrev fe := @Nat.zero_le
abbrev f9 := @Nat.le_trans
abbrev mC := @Nat.lt_of_lt_of_le
abbrev j7 := @List.nodup_cons
abbrev iG := @List.mem_cons
abbrev my := @Bool.false_ne_true
abbrev lP := @List.any_eq_true
abbrev lN := @Bool.and_eq_true
abbrev wc := @List.length_filter_le
abbrev tI := @List.append_assoc
abbrev nO := @List.getElem_map
abbrev BZ := @List.pairwise_iff_getElem
abbrev v7 := @List.find?_eq_none
abbrev xq := @List.map_congr_left
abbrev wm := @List.getElem_of_mem
abbrev uJ := @List.getElem_mem
abbrev uI := @List.mem_filter
abbrev uG := @List.append_nil
abbrev A3 := @List.flatMap_append
abbrev H_ := @List.getElem?_append_right
abbrev yZ := @PySem.wpAny_newObj_type
abbrev BX := @Array.length_toList
abbrev uH := @Nat.lt_irrefl
abbrev JB := @List.getElem?_append_left
abbrev v9 := @PySem.wpAny_holding
abbrev B1 := @PySem.wpAny_call_entry
abbrev yJ := @List.mem_range
abbrev Kw := @PySem.wpAny_callSpecial?_slot
abbrev HA := @List.filter_append
abbrev nF := @PySem.wpAny_mono
abbrev BY := @List.find?_cons
abbrev EC := @List.filter_cons
abbrev JK := @List.length_singleton
abbrev JU := @PySem.Heap.get?_update_self
abbrev GD := @List.find?_some
abbrev Hu := @PySem.wpAny_askSetting
abbrev Ir := @PySem.wpAny_setState_of
abbrev IY := @List.find?_append
abbrev JH := @PySem.Heap.get?_update_ne
abbrev Nk := @Array.getElem?_eq_getElem
abbrev Ky := @List.mem_filterMap
abbrev Hs := @List.find?_map
abbrev Kf := @List.take_sublist
abbrev Jz := @Int.toNat_natCast
abbrev P9 := @List.getD_eq_getElem?_getD
abbrev GF := @List.any_map
abbrev M5 := @Array.getElem?_toList
abbrev Jr := @Option.map_map
abbrev Lb := @PySem.wpAny_truthy_bool
abbrev MP := @List.foldl_append
abbrev J9 := @Bool.eq_iff_iff
abbrev Ht := @Nat.le_of_lt
abbrev Di := @Nat.le_succ
abbrev Pj := @Int.eq_ofNat_of_zero_le
abbrev QP := @PySem.wpAny_typeNameOfWhole_keyiter
abbrev K8 := @Nat.lt_succ_self
abbrev QM := @List.take_append_of_le_length
abbrev M6 := @PySem.wpAny_Call_Name_kw
abbrev Mc := @PySem.wpAny_passesOwn
abbrev Ph := @List.take_append_drop
abbrev Lu := @List.sum_append
abbrev Pd := @List.getElem?_toArray
abbrev MC := @List.foldl_cons
abbrev FR := @PySem.wpAny_rule
abbrev JQ := @PySem.wpAny_attempt
abbrev M8 := @Option.isSome_map
abbrev MY := @Nat.lt_trichotomy
abbrev Nc := @List.length_range
abbrev Nm := @Nat.le_add_right
abbrev Nf := @List.lookup_cons
abbrev NZ := @PySem.wpAny_setEntries_of
abbrev QC := @Option.isSome_iff_exists
abbrev Ot := @PySem.wpAny_dictEntries
abbrev P8 := @Nat.le_succ_of_le
abbrev NL := @List.pairwise_map
abbrev MV := @PySem.wpAny_setField
abbrev Ni := @PySem.wpAny_fieldsOf
abbrev Qz := @Option.or_eq_none_iff
abbrev NG := @PySem.wpAny_typeOf_ref
abbrev O1 := @List.cons_append
abbrev Ol := @List.all_eq_true
abbrev QJ := @List.pairwise_append
abbrev M4 := @List.any_cons
namespace L2
open PySem PySem.Spec PyProof.Rows
noncomputable abbrev Key:=Sum Int Str
noncomputable def keyIs:Key->Value->Bool
 |.inl k,v=>Value.isInt k v
 |.inr x,v=>Value.isStrOf x v
noncomputable def keyH(w:World):Key->Int
 |.inl k=>hashInt k
 |.inr x=>hashStr w x
theorem mI:∀{k:Key}{v:Value},keyIs k v=true->(∃i t,k=Sum.inl i/\v=Value.int i t)\/(∃x t,k=Sum.inr x/\v=Value.str x t)
 |.inl i,v,h=>by
  obtain⟨t,e⟩:=Value.isInt_shape (k:=i) (v:=v) h;exact .inl ⟨i,t,rfl,e⟩
 |.inr x,v,h=>by
  obtain⟨t,e⟩:=Value.isStrOf_shape (x:=x) (v:=v) h;exact .inr ⟨x,t,rfl,e⟩
theorem BC(i:Int)(t:Tok):keyIs (.inl i) (.int i t)=true:=by simp[keyIs,Value.isInt]
theorem AO(x:Str)(t:Tok):keyIs (.inr x) (.str x t)=true:=by simp[keyIs,Value.isStrOf]
theorem LU(a b:Int):decide ((Sum.inl a:Key)=Sum.inl b)=(a == b):=by
 by_cases e:a=b
 ·subst e;simp
 ·have h:¬(Sum.inl a:Key)=Sum.inl b:=λq=>e (Sum.inl.inj q);rw[decide_eq_false h];exact(beq_eq_false_iff_ne.mpr e).symm
theorem MG(a b:Str):decide ((Sum.inr a:Key)=Sum.inr b)=decide (a=b):=by
 by_cases e:a=b
 ·subst e;simp
 ·have h:¬(Sum.inr a:Key)=Sum.inr b:=λq=>e (Sum.inr.inj q);rw[decide_eq_false h,decide_eq_false e]
theorem MF(a:Int)(b:Str):decide ((Sum.inl a:Key)=Sum.inr b)=false:=decide_eq_false (λq=>nomatch q)
theorem LW(a:Str)(b:Int):decide ((Sum.inr a:Key)=Sum.inl b)=false:=decide_eq_false (λq=>nomatch q)
noncomputable def aW(prog:Program)(w:World):PySem.KeyKind prog w Key where
 is:=keyIs
 hash:=keyH w
 inj:=λv a b ha hb=>by
  rcases mI ha with ⟨i,t,rfl,rfl⟩|⟨x,t,rfl,rfl⟩
  ·rcases mI hb with ⟨j,u,rfl,e⟩|⟨y,u,rfl,e⟩
   ·injection e with e1 _;rw[e1]
   ·exact nomatch e
  ·rcases mI hb with ⟨j,u,rfl,e⟩|⟨y,u,rfl,e⟩
   ·exact nomatch e
   ·injection e with e1 _;rw[e1]
 byValue:=λk v h=>by
  rcases mI h with ⟨i,t,rfl,rfl⟩|⟨x,t,rfl,rfl⟩<;>rfl
 pyHash:=λhv h=>by
  rcases mI hv with ⟨i,t,rfl,rfl⟩|⟨x,t,rfl,rfl⟩
  ·exact wpAny_pyHash_int h
  ·exact wpAny_pyHash_str h
 eqBool:=λhu hv h=>by
  rcases mI hu with ⟨i,t,rfl,rfl⟩|⟨x,t,rfl,rfl⟩
  ·rcases mI hv with ⟨j,u,rfl,rfl⟩|⟨y,u,rfl,rfl⟩
   ·rw[LU]at h;exact wpAny_eqBool_int h
   ·rw[MF]at h;exact SeqAt.EqAt.int_str i t y u _ _ _ _ h
  ·rcases mI hv with ⟨j,u,rfl,rfl⟩|⟨y,u,rfl,rfl⟩
   ·rw[LW]at h;exact SeqAt.EqAt.str_int x t j u _ _ _ _ h
   ·rw[MG]at h;exact wpAny_eqBool_str h
 «strs»:=λk x t v h=>by
  rcases mI h with ⟨i,u,rfl,e⟩|⟨y,u,rfl,e⟩
  ·exact nomatch e
  ·injection e with e1 _;subst e1;cases v<;>rfl
theorem u3(prog:Program)(w:World)(i:Int)(t:Tok):(aW prog w).is (.inl i) (.int i t)=true:=BC i t
theorem vB(prog:Program)(w:World)(x:Str)(t:Tok):(aW prog w).is (.inr x) (.str x t)=true:=AO x t
set_option genInjectivity true in
inductive V where
 |bj|bl (b:Bool)|int (i:Int)|str (x:Str)|v8 (b:Array UInt8)|LP (b:UInt64)|ref (a:Addr)|ty (n:String)
 deriving DecidableEq
noncomputable def RelV:V->Value->Prop
 |.bj,u=>u=Value.none
 |.bl b,u=>u=Value.bool b
 |.int i,u=>∃t,u=Value.int i t
 |.str x,u=>∃t,u=Value.str x t
 |.v8 b,u=>∃t,u=Value.bytes b t
 |.LP b,u=>∃t,u=Value.float b t
 |.ref a,u=>u=Value.ref a
 |.ty n,u=>u=Value.type n
noncomputable abbrev Vals:List V->List Value->Prop:=Paired RelV
theorem Vals.length(r:Vals xs us):xs.length=us.length:=Paired.length r
theorem Vals.get:∀{xs:List V}{us:List Value}{i:Nat}{x:V},Vals xs us->xs[i]?=some x->∃u,us[i]?=some u/\RelV x u
 |_,_,_,_,.nil,e=>by simp at e
 |_,_,0,_,.cons r _,e=>by simp at e;subst e;exact⟨_,rfl,r⟩
 |_,_,i+1,x,.cons _ t,e=>by
  obtain⟨u,h1,h2⟩:=Vals.get (i:=i) (x:=x) t (by simpa using e);exact⟨u,by simpa using h1,h2⟩
theorem Vals.append:∀{xs ys:List V}{us ws:List Value},Vals xs us->Vals ys ws->Vals (xs++ys) (us++ws)
 |_,_,_,_,.nil,s=>s
 |_,_,_,_,.cons r t,s=>.cons r (Vals.append t s)
theorem Vals.take:∀{xs:List V}{us:List Value}(n:Nat),Vals xs us->Vals (xs.take n) (us.take n)
 |_,_,0,_=>.nil
 |_,_,_+1,.nil=>.nil
 |_,_,n+1,.cons r t=>.cons r (Vals.take n t)
theorem Vals.drop:∀{xs:List V}{us:List Value}(n:Nat),Vals xs us->Vals (xs.drop n) (us.drop n)
 |_,_,0,r=>r
 |_,_,_+1,.nil=>.nil
 |_,_,n+1,.cons _ t=>Vals.drop n t
noncomputable def fM:Option V->Option Value->Prop
 |some v,some u=>RelV v u
 |none,none=>True
 |_,_=>False
noncomputable def KV{κ:Type}:List (κ×V)->List (κ×Value)->Prop:=Paired λ(p:κ×V) (q:κ×Value)=>p.1=q.1/\RelV p.2 q.2
noncomputable def kV:Key->V
 |.inl i=>.int i
 |.inr x=>.str x
set_option genInjectivity true in
inductive HO where
  |lst (xs:List V)
  |tup (xs:List V)
  |dK (af:List (Key×V))|dT (af:List (List Key×V))
  |set (S:Int->Bool) (n:Nat)
  |ins (C dx:Addr) (fs:List (Str×V))
  |own (x:Addr)
  |xd (fs:List (Str×V))
  |met (f x:Addr)
  |RQ (lo hi:Int)
  |d9 (o:Obj) (u:HO)
  |iH (ps:Array Value)
  |ext (φ:Heap->Prop)
noncomputable abbrev Hp:=Addr->Option HO
noncomputable def upd(H:Hp)(a:Addr)(o:HO):Hp:=λb=>if b=a then some o else H b
theorem aE:upd H a o a=some o:=by unfold upd;rw[if_pos rfl]
theorem ae(h:b≠a):upd H a o b=H b:=by unfold upd;rw[if_neg h]
theorem zD:upd (upd H a o) a u=upd H a u:=by
 funext b;unfold upd;split<;>rfl
theorem bD{H:Hp}{a b:Addr}{o u:HO}(h:H a=some o)(h':H b=some u)(d:o≠u):a≠b:=by
 intro e;subst e;rw[h]at h';exact d (Option.some.inj h')
theorem bH{H:Hp}{a b:Addr}{o:HO}(h:H a=some o)(h':H b=none):a≠b:=by
 intro e;subst e;rw[h]at h';cases h'
section
variable(P:Program)(w:World)
noncomputable def a6(H:Hp)(h:Heap)(a:Addr):HO->Prop
 |.lst xs=>xs.length<=sizeLine/\∃(its:List Value) (n:Nat),Vals xs its/\h.get? a=some { cls:=.type "list", data:=.seq its.toArray n }
 |.tup xs=>xs.length<=sizeLine/\∃its:List Value,Vals xs its/\IsTup h a its.toArray
 |.dK af=>af.length<=sizeLine/\(a == sysModules)=false/\∃vs,KV af vs/\h.DictOf (aW P w) a vs
 |.dT af=>af.length<=sizeLine/\(a == sysModules)=false/\∃xs:List (List Key×Addr×Value),
   Paired (λ(p:List Key×V) (q:List Key×Addr×Value)=>p.1=q.1/\H q.2.1=some (.tup (p.1.map kV))/\RelV p.2 q.2.2) af xs/\
   ∃o es ep,h.get? a=some o/\o.ExactDict/\o.data=.dict es ep/\es.toList=xs.map (entryOfKey (tupleKind (aW P w)))/\(xs.map (·.1)).Nodup
 |.set S n=>h.SetOf (intKind P w) a S n
 |.ins C dx fs=>H dx=some (.own a)/\fs.length<=1000/\dx≠a/\h.get? a=some (instObj C dx)/\
   ∃mA,h.Ns1 dx mA/\(∀f,fM (fs.lookup f) (mA f))/\PySem.Within mA (fs.map (·.1))
 |.own _=>∃o,h.get? a=some o
 |.xd fs=>∃mA,h.Ns1 a mA/\∀f,fM (fs.lookup f) (mA f)
 |.RQ lo hi=>∃t u v,h.get? a=some { cls:=.type "range", data:=.fields #[.int lo t,.int hi u,.int 1 v] }
 |.d9 o u=>h.get? a=some o/\a6 H h a u
 |.iH ps=>h.get? a=some { cls:=.none,data:=.fields ps }
 |.met f x=>h.get? a=some (methodObj (.ref f) (.ref x))
 |.ext φ=>φ h/\(∃o,h.get? a=some o)/\∀h1 h2:Heap,φ h1->(∀o,h1.get? a=some o->h2.get? a=some o)->φ h2
def g7(H:Hp)(h:Heap):Prop:=∀a o,H a=some o->a6 P w H h a o
end
section
variable{P:Program}{w:World}{H H':Hp}{h h':Heap}{a:Addr}{o:HO}
theorem a6.lt(x:a6 P w H h a o):a<h.objs.size:=by
 cases o with
 |lst xs=>obtain⟨_,_,_,_,e⟩:=x;exact cV e
 |tup xs=>obtain⟨_,_,_,p⟩:=x;exact p.lt
 |dK af=>obtain⟨_,_,_,_,o,_,_,e,_⟩:=x;exact cV e
 |dT af=>obtain⟨_,_,_,_,o,_,_,e,_⟩:=x;exact cV e
 |set S n=>obtain⟨o,_,_,_,e,_⟩:=x;exact cV e
 |ins C dx fs=>obtain⟨_,_,_,e,_⟩:=x;exact cV e
 |own y=>obtain⟨_,e⟩:=x;exact cV e
 |xd fs=>obtain⟨_,⟨_,_,_,e,_⟩,_⟩:=x;exact cV e
 |RQ lo hi=>obtain⟨_,_,_,e⟩:=x;exact cV e
 |d9 ob u=>obtain⟨e,_⟩:=x;exact cV e
 |iH ps=>exact cV (show h.get? a=some _ from x)
 |met f y=>exact cV (show h.get? a=some _ from x)
 |ext φ=>obtain⟨_,⟨_,e⟩,_⟩:=x;exact cV e
theorem Paired.Iy{α β:Type}{F G:α->β->Prop}:∀{l₁:List α}{l₂:List β},Paired F l₁ l₂->(∀a b,F a b->G a b)->Paired G l₁ l₂
 |_,_,.nil,_=>.nil
 |_,_,.cons r t,f=>.cons (f _ _ r) (Paired.Iy t f)
theorem a6.iY(x:a6 P w H h a o)(k:∀b u,(b=a\/H b=some (.own a))->h.get? b=some u->h'.get? b=some u)
  (ho:∀b,H b=some (.own a)->H' b=some (.own a)) (ht:∀b xs,H b=some (.tup xs)->H' b=some (.tup xs)):a6 P w H' h' a o:=by
 induction o with
 |lst xs=>obtain⟨z,its,n,r,e⟩:=x;exact⟨z,its,n,r,k _ _ (.inl rfl) e⟩
 |tup xs=>obtain⟨z,its,r,ob,e,c⟩:=x;exact⟨z,its,r,ob,k _ _ (.inl rfl) e,c⟩
 |dK af=>obtain⟨z,y,vs,r,ob,es,ep,e,c⟩:=x;exact⟨z,y,vs,r,ob,es,ep,k _ _ (.inl rfl) e,c⟩
 |dT af=>
  obtain⟨z,y,xs,r,ob,es,ep,e,c⟩:=x;exact⟨z,y,xs,Paired.Iy r λp q z=>⟨z.1,ht _ _ z.2.1,z.2.2⟩,ob,es,ep,k _ _ (.inl rfl) e,c⟩
 |set S n=>obtain⟨ob,es,ep,t,e,c⟩:=x;exact⟨ob,es,ep,t,k _ _ (.inl rfl) e,c⟩
 |ins C dx fs=>
  obtain⟨d,z,ne,e,mA,⟨od,es,ep,e2,c⟩,r⟩:=x;exact⟨ho _ d,z,ne,k _ _ (.inl rfl) e,mA,⟨od,es,ep,k _ _ (.inr d) e2,c⟩,r⟩
 |own y=>obtain⟨ob,e⟩:=x;exact⟨ob,k _ _ (.inl rfl) e⟩
 |xd fs=>obtain⟨mA,⟨od,es,ep,e,c⟩,r⟩:=x;exact⟨mA,⟨od,es,ep,k _ _ (.inl rfl) e,c⟩,r⟩
 |RQ lo hi=>obtain⟨t,u,v,e⟩:=x;exact⟨t,u,v,k _ _ (.inl rfl) e⟩
 |d9 ob u ih=>obtain⟨e,q⟩:=x;exact⟨k _ _ (.inl rfl) e,ih q⟩
 |iH ps=>
  have e:h.get? a=some { cls:=.none,data:=.fields ps }:=x;show h'.get? a=some { cls:=.none,data:=.fields ps };exact k a _ (.inl rfl) e
 |met f y=>
  have e:h.get? a=some (methodObj (.ref f) (.ref y)):=x;show h'.get? a=some (methodObj (.ref f) (.ref y));exact k a _ (.inl rfl) e
 |ext φ=>obtain⟨p,⟨o,e⟩,st⟩:=x;exact⟨st _ _ p λo q=>k _ _ (.inl rfl) q,⟨o,k _ _ (.inl rfl) e⟩,st⟩
theorem g7.lt(x:g7 P w H h)(e:H a=some o):a<h.objs.size:=(x a o e).lt
theorem g7.fresh(x:g7 P w H h)(e:h.objs.size<=a):H a=none:=by
 cases q:H a with
 |none=>rfl
 |some u=>exact absurd (mC (x.lt q) e) (uH _)
theorem g7.kept(x:g7 P w H h)(k:∀b u,h.get? b=some u->h'.get? b=some u):g7 P w H h':=λa o e=>
 (x a o e).iY (λb u _ q=>k b u q) (λ_ q=>q) λ_ _ q=>q
theorem g7.laid(x:g7 P w H h)(k:∀b u,h.get? b=some u->h'.get? b=some u)(hp:h.objs.size<=a)(new:a6 P w (upd H a o) h' a o):g7 P w (upd H a o) h':=λb u e=>by
 have hn:=x.fresh hp;by_cases hb:b=a
 ·subst hb;rw[aE]at e;cases e;exact new
 ·rw[ae hb]at e;exact(x b u e).iY (λc v _ q=>k c v q) (λc q=>by rw[ae (bH q hn)];exact q) λc xs q=>by rw[ae (bH q hn)];exact q
end
def Rd(H:Hp)(a:Addr)(u:HO):Prop:=H a=some u\/∃o,H a=some (.d9 o u)
theorem Rd.ok(r:Rd H a u)(x:g7 P w H h):a6 P w H h a u:=by
 rcases r with r|⟨o,r⟩
 ·exact x a u r
 ·obtain⟨_,q⟩:=x a _ r;exact q
noncomputable def OS:Option HO->Prop
 |some (.lst _)=>True
 |some (.dK _)=>True
 |some (.dT _)=>True
 |some (.set _ _)=>True
 |some (.ins _ _ _)=>True
 |some (.ext _)=>True
 |_=>False
section
variable{P:Program}{w:World}{H:Hp}{h h':Heap}{x e:Addr}{o':HO}
theorem g7.write(ok:g7 P w H h)(mu:OS (H x))(he:e=x\/H e=some (.own x))(k:∀b u,b≠e->h.get? b=some u->h'.get? b=some u)(heo:∃u,h'.get? e=some u)
  (new:a6 P w (upd H x o') h' x o'):g7 P w (upd H x o') h':=λb u q=>by
 have nown:∀c y,H c=some (.own y)->c≠x:=λc y r z=>by subst z;rw[r]at mu;exact mu
 have ntup:∀c xs,H c=some (.tup xs)->c≠x:=λc xs r z=>by subst z;rw[r]at mu;exact mu
 by_cases hb:b=x
 ·subst hb;rw[aE]at q;cases q;exact new
 ·rw[ae hb]at q;by_cases hbe:b=e
  ·have q':H b=some (.own x):=by
    rcases he with z|z
    ·exact absurd (hbe.trans z) hb
    ·rw[hbe];exact z
   rw[q]at q';cases q';obtain⟨v,hv⟩:=heo;exact⟨v,by rw[hbe];exact hv⟩
  ·refine(ok b u q).iY (λc v hc r=>k c v ?_ r) (λc r=>by rw[ae (nown c b r)];exact r) λc xs r=>by rw[ae (ntup c xs r)];exact r
   rcases hc with rfl|hc
   ·exact hbe
   ·rintro rfl;rcases he with z|z
    ·exact nown c b hc z
    ·rw[hc]at z;cases z;exact hb rfl
end
structure Un(fs ex:List Addr)(H H':Hp)(h h':Heap):Prop where
 keep:∀b o,h.get? b=some o->H b=none->b∉fs->b∉ex->h'.get? b=some o
 slot:∀b o,h.get? b=some o->H b=none->b∈fs->b∉ex->∃sl,h'.get? b=some { o with slots:=sl }
 free:∀b o,h.get? b=some o->H b=none->b∉ex->H' b=none
 there:∀b o,h.get? b=some o->b∉ex->∃o',h'.get? b=some o'
 rS:∀b xs,H b=some (.tup xs)->H' b=some (.tup xs)
 mw:∀b o u,H b=some (.d9 o u)->H' b=some (.d9 o u)
 mf:∀b ps,H b=some (.iH ps)->∃more,H' b=some (.iH (ps++more))
section
variable{fs fs' ex ex':List Addr}{H H1 H2:Hp}{h h1 h2 h':Heap}{a x e:Addr}{o:HO}
theorem Un.any(u:Un fs ex H H1 h h1){b:Addr}{ob:Obj}(q:h.get? b=some ob)(n:H b=none)(hx:b∉ex):∃sl,h1.get? b=some { ob with slots:=sl }:=by
 by_cases hb:b∈fs
 ·exact u.slot b ob q n hb hx
 ·exact⟨ob.slots,u.keep b ob q n hb hx⟩
theorem Un.kept(k:∀b u,h.get? b=some u->h'.get? b=some u):Un fs ex H H h h':=
 ⟨λb ob q _ _ _=>k b ob q,λb ob q _ _ _=>⟨ob.slots,k b ob q⟩,λ_ _ _ n _=>n,λb ob q _=>⟨ob,k b ob q⟩,λ_ _ q=>q,λ_ _ _ q=>q,λ_ ps q=>⟨#[],by rw[q];simp⟩⟩
theorem Un.refl:Un fs ex H H h h:=Un.kept λ_ _ q=>q
theorem Un.laid(k:∀b u,h.get? b=some u->h'.get? b=some u)(hp:h.objs.size<=a)(hn:H a=none):Un fs ex H (upd H a o) h h' where
 keep:=λb u q _ _ _=>k b u q
 slot:=λb u q _ _ _=>⟨u.slots,k b u q⟩
 free:=λb u q n _=>by rw[ae (eD (mC (cV q) hp))];exact n
 there:=λb u q _=>⟨u,k b u q⟩
 rS:=λb xs q=>by rw[ae (bH q hn)];exact q
 mw:=λb u xs q=>by rw[ae (bH q hn)];exact q
 mf:=λb ps q=>⟨#[],by rw[ae (bH q hn),q];simp⟩
theorem Un.write(mu:OS (H x))(he:e=x\/H e=some (.own x))(k:∀b u,b≠e->h.get? b=some u->h'.get? b=some u)(heo:∃u,h'.get? e=some u):Un fs ex H (upd H x o) h h':=by
 have hx:∀b,H b=none->b≠x:=λb n z=>by subst z;rw[n]at mu;exact mu
 have hb:∀b,H b=none->b≠e:=λb n z=>by
  subst z;rcases he with r|r
  ·exact hx b n r
  ·rw[n]at r;cases r
 have hm:∀b u,H b=some u->¬OS (some u)->b≠x:=λb u q nm z=>by subst z;rw[q]at mu;exact nm mu
 refine⟨λb u q n _ _=>k b u (hb b n) q,λb u q n _ _=>⟨u.slots,k b u (hb b n) q⟩,λb u q n _=>by rw[ae (hx b n)];exact n,λb u q _=>?_,
  λb xs q=>by rw[ae (hm b _ q λz=>z)];exact q,λb u xs q=>by rw[ae (hm b _ q λz=>z)];exact q,λb ps q=>⟨#[],by rw[ae (hm b _ q λz=>z),q];simp⟩⟩
 by_cases hbe:b=e
 ·subst hbe;exact heo
 ·exact⟨u,k b u hbe q⟩
end
noncomputable def wb(h:Heap)(H:Hp):List Addr:=(List.range h.objs.size).filter λa=>(H a).isSome
noncomputable def oY(h:Heap)(H:Hp):Heap:=PySem.W.hideAll h (wb h H)
theorem Bh(h:Heap)(H:Hp):(oY h H).objs.size=h.objs.size:=PySem.W.hideAll_size _ _
theorem El(e:h.get? b=some o)(n:H b=none):(oY h H).get? b=some o:=
 PySem.W.hideAll_get _ e λhm=>by
  have q:(H b).isSome=true:=(uI.mp hm).2;rw[n]at q;simp at q
theorem Jl(e:(oY h H).get? b=some o):h.get? b=some o/\H b=none:=by
 have e':h.get? b=some o:=PySem.W.of_hideAll (wb h H) e;refine⟨e',?_⟩;cases q:H b with
 |none=>rfl
 |some x=>
  have hm:b∈wb h H:=uI.mpr ⟨yJ.mpr (cV e'),by simp[q]⟩;have z:(oY h H).get? b=none:=PySem.W.hideAll_none (wb h H) hm;rw[z]at e;cases e
noncomputable def IU(g h:Heap)(L:Addr):Lo:=(List.range h.objs.size).filterMap λa=>if a=L\/(g.get? a).isSome=true then none else (h.get? a).map λo=>(a,o)
noncomputable def rest(g h:Heap)(L d:Addr):Lo:=(IU g h L).filter λp=>decide (p.1≠d)
structure Mod(K:Wf)(mg:So)(base:Heap):Prop where
 Ng:K.In base
 glob:base.Ns mainGlobals mg
 blt:∃mb,base.Ns builtinsNs mb/\∀x:Str,x ≠ "__name__" -> mb x=bootBuiltins x
 nolimit:base.NoLimit
structure Cx where
 prog:Program
 w:World
 K:Wf
 mg:Str->Option Value
 base:Heap
 A:Around
 N:List Str
 s₀:Shared
 H₀:Hp
 env:Env
 outer:List Env
 stack:List Env
 ex:List Addr
 fn:Str->Bool
 calm:Bool
 pn:Lo
 xe:Value->Shared->Prop
noncomputable def v_(l:List Env):List Addr:=l.filterMap (·.frame)
noncomputable abbrev Cx.fs(X:Cx):List Addr:=v_ X.outer
def QU(sc:Scope)(x:Str):Prop:=sc.names.lookup x=some .local\/sc.names.lookup x=some .cell\/sc.names.lookup x=some .free
def Loc(sc:Scope)(x:Str):Prop:=sc.names.lookup x=some .local\/sc.names.lookup x=some .cell
def Look(env:Env)(h:Heap)(m:So)(x:Str)(u:Value):Prop:=
 (env.kindOf x=some .local/\m x=some u)\/((env.kindOf x=some .cell\/env.kindOf x=some .free)/\∃c,env.cells.lookup x=some c/\h.IsCell c (some u))
structure Cx.Ok(X:Cx):Prop where
 mod:Mod X.K X.mg X.base
 kind:X.env.scope.kind=.function
 glob:X.env.globals=mainGlobals
 blt:X.env.builtins=builtinsNs
 above:X.s₀.heap.objs.size<=X.env.locals
 inj:∀x y c,X.env.cells.lookup x=some c->X.env.cells.lookup y=some c->x=y
 has:∀x,(X.env.kindOf x=some .cell\/X.env.kindOf x=some .free)->∃c,X.env.cells.lookup x=some c
 M9:∀x c,X.fn x=true->X.env.cells.lookup x=some c->X.s₀.heap.objs.size<=c
 hd:X.calm=true->X.A.handled=none
 frames:X.A.frames=some X.stack
 J7:X.stack=X.outer\/(X.stack=X.env::X.outer/\X.env.frame=some X.env.locals)
 OQ:∀b∈X.ex,b≠X.env.locals/\∀x c,X.env.cells.lookup x=some c->c≠b
 bs:∀b o,X.base.get? b=some o->X.s₀.heap.get? b=some o/\X.H₀ b=none
 Ej:X.base.objs.size<=X.s₀.heap.objs.size
 BI:∀b o,X.base.get? b=some o->b∉X.ex
 xE:∀b∈X.ex,b∉X.fs
 jj:X.s₀.heap.FunFrames X.base X.outer
 Ig:∀b∈X.fs,X.H₀ b=none
structure Inv(X:Cx)(pins:Lo)(σ:List (Option V))(H:Hp)(s:Shared):Prop where
 ok:X.Ok
 os:s.os=X.s₀.os
 bare:AllBare s.gens
 base:Un X.fs X.ex X.H₀ H X.s₀.heap s.heap
 loc:∃m,s.heap.Ns X.env.locals m/\∀(i:Nat) (x:Str) (v:V),X.N[i]?=some x->σ[i]?=some (some v)->QU X.env.scope x->∃u,RelV v u/\Look X.env s.heap m x u
 cell:∀x c,X.env.cells.lookup x=some c->∃v,s.heap.IsCell c v
 free:H X.env.locals=none
 gz:∀x c,X.env.cells.lookup x=some c->H c=none
 pin:∀p∈X.pn++pins,s.heap.get? p.1=some p.2/\H p.1=none/\p.1≠X.env.locals/\p.1∉X.fs/\∀v,p.2.data≠.cell v
 aV:g7 X.prog X.w H s.heap
 len:σ.length=X.N.length
section
variable{X:Cx}{pins:Lo}{σ:List (Option V)}{H H':Hp}{s:Shared}{h':Heap}
theorem Cx.Ok.RX(ok:X.Ok){b:Addr}{o:Obj}(e:X.base.get? b=some o):b∉X.fs:=λhb=>by
 have:=(ok.jj.mem hb).1;rw[e]at this;cases this
theorem Inv.bs(I:Inv X pins σ H s):∀b o,X.base.get? b=some o->s.heap.get? b=some o/\H b=none:=λb o e=>
 ⟨I.base.keep b o (I.ok.bs b o e).1 (I.ok.bs b o e).2 (I.ok.RX e) (I.ok.BI b o e),I.base.free b o (I.ok.bs b o e).1 (I.ok.bs b o e).2 (I.ok.BI b o e)⟩
theorem Inv.bk(I:Inv X pins σ H s):∀b o,X.base.get? b=some o->s.heap.get? b=some o:=λb o e=>(I.bs b o e).1
theorem Inv.mod(I:Inv X pins σ H s):Mod X.K X.mg X.base:=I.ok.mod
theorem Inv.jH(I:Inv X pins σ H s):X.K.In s.heap:=I.ok.mod.Ng.keeps I.bk
theorem Inv.lt(I:Inv X pins σ H s):X.env.locals<s.heap.objs.size:=let ⟨_,hn,_⟩:=I.loc;hn.lt
theorem Inv.sz(I:Inv X pins σ H s):X.s₀.heap.objs.size<=s.heap.objs.size:=f9 I.ok.above (Ht I.lt)
theorem Inv.Pq(I:Inv X pins σ H s){a:Addr}(h:s.heap.objs.size<=a):a∉X.fs:=λhb=>by
 obtain⟨_,o,ho,_⟩:=I.ok.jj.mem hb;exact absurd (mC (cV ho) (f9 I.sz h)) (uH _)
theorem Inv.Lj(I:Inv X pins σ H s):∀x c,X.env.cells.lookup x=some c->c≠X.env.locals:=λx c e z=>by
 obtain⟨v,o,ho,hd⟩:=I.cell x c e;obtain⟨m,⟨o',es,ep,ho',hd',_⟩,_⟩:=I.loc;rw[z,ho']at ho;cases ho;rw[hd']at hd;cases hd
theorem Inv.jj(I:Inv X pins σ H s):s.heap.FunFrames X.base X.outer:=by
 have all:∀(l:List Env),(∀b∈v_ l,b∈X.fs)->X.s₀.heap.FunFrames X.base l->s.heap.FunFrames X.base l:=by
  intro l
  induction l with
  |nil=>intro _ _;trivial
  |cons env r ih=>
   intro hs hl;obtain⟨hk,⟨L,o,hf,hn,ho,hd⟩,hr⟩:=hl;have hL:L∈X.fs:=hs L (by unfold v_;rw[List.filterMap_cons,hf];exact List.mem_cons_self);obtain⟨sl,e⟩:=I.base.slot L o ho (I.ok.Ig L hL) hL λz=>I.ok.xE L z hL;exact⟨hk,⟨L,_,hf,hn,e,hd⟩,ih (λb hb=>hs b (by unfold v_;rw[List.filterMap_cons,hf];exact List.mem_cons_of_mem _ hb)) hr⟩
 exact all X.outer (λ_ hb=>hb) I.ok.jj
theorem Inv.stack(I:Inv X pins σ H s):s.heap.FunFrames X.base X.stack:=by
 rcases I.ok.J7 with e|⟨e,hf⟩
 ·rw[e];exact I.jj
 ·rw[e];obtain⟨m,hn,_⟩:=I.loc;refine .cons (by rw[I.ok.kind];decide) hf hn ?_ I.jj;exact Heap.get?_none_of_le (f9 I.ok.Ej I.ok.above)
theorem Inv.ua(I:Inv X pins σ H s):∀b∈v_ X.stack,b∈X.env.locals::X.fs:=λb hb=>by
 rcases I.ok.J7 with e|⟨e,hf⟩
 ·rw[e]at hb;exact ka _ hb
 ·rw[e]at hb;unfold v_ at hb;rw[List.filterMap_cons,hf]at hb;exact hb
theorem Inv.x8(I:Inv X pins σ H s):∀b∈v_ X.stack,H b=none:=λb hb=>by
 rcases iG.mp (I.ua b hb) with e|hb
 ·rw[e];exact I.free
 ·obtain⟨_,o,ho,_⟩:=I.ok.jj.mem hb;exact I.base.free b o ho (I.ok.Ig b hb) λz=>I.ok.xE b z hb
theorem Inv.step{g':Array GenState}{t':Nat}{d':Drawn}{ch:List Addr}(I:Inv X pins σ H s)
  (hch:∀b∈ch,(b∈X.ex\/X.s₀.heap.objs.size<=b)/\b≠X.env.locals/\(∀x c,X.env.cells.lookup x=some c->c≠b)/\∀p∈X.pn++pins,p.1≠b)
  (keep:∀b o,b≠X.env.locals->b∉X.fs->b∉ch->s.heap.get? b=some o->H b=none->h'.get? b=some o)
  (slot:∀b o,b≠X.env.locals->b∈X.fs->b∉ch->s.heap.get? b=some o->H b=none->∃sl,h'.get? b=some { o with slots:=sl }) (free:∀b o,b∉ch->s.heap.get? b=some o->H b=none->H' b=none)
  (there:∀b o,b∉ch->s.heap.get? b=some o->∃o',h'.get? b=some o')
  (rS:∀b xs,H b=some (.tup xs)->H' b=some (.tup xs)) (mw:∀b o u,H b=some (.d9 o u)->H' b=some (.d9 o u)) (mf:∀b ps,H b=some (.iH ps)->∃more,H' b=some (.iH (ps++more)))
  (ns:∀m,s.heap.Ns X.env.locals m->h'.Ns X.env.locals m) (aV:g7 X.prog X.w H' h') (hg:AllBare g'):
  Inv X pins σ H' { s with heap:=h',gens:=g',drawn:=d',toks:=t' }:=by
 have neL:∀b o,X.s₀.heap.get? b=some o->b≠X.env.locals:=λb o e=>eD (mC (cV e) I.ok.above);have neC:∀b o,X.s₀.heap.get? b=some o->b∉X.ex->b∉ch:=λb o e hx hb=>by
  rcases (hch b hb).1 with z|z
  ·exact hx z
  ·exact absurd (mC (cV e) z) (uH _)
 have cellK:∀x c,X.env.cells.lookup x=some c->∀v,s.heap.IsCell c v->h'.IsCell c v:=λx c e v ⟨o,ho,hd⟩=>by
  have nch:c∉ch:=λz=>(hch c z).2.2.1 x c e rfl;by_cases hc:c∈X.fs
  ·obtain⟨sl,q⟩:=slot c o (I.Lj x c e) hc nch ho (I.gz x c e);exact⟨_,q,hd⟩
  ·exact⟨o,keep c o (I.Lj x c e) hc nch ho (I.gz x c e),hd⟩
 refine⟨I.ok,I.os,hg,⟨λb o e n hb hx=>?_,λb o e n hb hx=>?_,λb o e n hx=>?_,λb o e hx=>?_,λb xs e=>rS b xs (I.base.rS b xs e),λb o xs e=>mw b o xs (I.base.mw b o xs e),λb ps e=>?_⟩,?_,λx c e=>?_,?_,λx c e=>?_,λp hp=>?_,aV,I.len⟩
 ·exact keep b o (neL b o e) hb (neC b o e hx) (I.base.keep b o e n hb hx) (I.base.free b o e n hx)
 ·obtain⟨sl,e1⟩:=I.base.slot b o e n hb hx;obtain⟨sl',e2⟩:=slot b _ (neL b o e) hb (neC b o e hx) e1 (I.base.free b o e n hx);exact⟨sl',e2⟩
 ·obtain⟨o',e1⟩:=I.base.there b o e hx;exact free b o' (neC b o e hx) e1 (I.base.free b o e n hx)
 ·obtain⟨o',e1⟩:=I.base.there b o e hx;exact there b o' (neC b o e hx) e1
 ·obtain⟨m1,e1⟩:=I.base.mf b ps e;obtain⟨m2,e2⟩:=mf b _ e1;exact⟨m1++m2,by rw[e2,Array.append_assoc]⟩
 ·obtain⟨m,hn,hl⟩:=I.loc;refine⟨m,ns m hn,λi x v e1 e2 e3=>?_⟩;obtain⟨u,r,l⟩:=hl i x v e1 e2 e3;refine⟨u,r,?_⟩;rcases l with l|⟨k,c,e,z⟩
  ·exact .inl l
  ·exact .inr ⟨k,c,e,cellK x c e _ z⟩
 ·obtain⟨v,z⟩:=I.cell x c e;exact⟨v,cellK x c e v z⟩
 ·obtain⟨m,⟨o,_,_,ho,_⟩,_⟩:=I.loc;exact free _ o (λz=>(hch _ z).2.1 rfl) ho I.free
 ·obtain⟨v,o,ho,hd⟩:=I.cell x c e;exact free c o (λz=>(hch c z).2.2.1 x c e rfl) ho (I.gz x c e)
 ·obtain⟨e,n,ne,nf,d⟩:=I.pin p hp;have nch:p.1∉ch:=λz=>(hch p.1 z).2.2.2 p hp rfl;exact⟨keep p.1 p.2 ne nf nch e n,free p.1 p.2 nch e n,ne,nf,d⟩
theorem Inv.un(I:Inv X pins σ H s)(u:Un X.fs [] H H' s.heap h')(aV:g7 X.prog X.w H' h'):Inv X pins σ H' { s with heap:=h',toks:=t' }:=by
 obtain⟨m,⟨o,es,ep,ho,r⟩,_⟩:=id I.loc;obtain⟨sl,hL⟩:=u.any ho I.free (by simp);exact I.step (g':=s.gens) (d':=s.drawn) (ch:=[]) (λ_ z=>nomatch z) (λb o _ hb _ e n=>u.keep b o e n hb (by simp)) (λb o _ hb _ e n=>u.slot b o e n hb (by simp)) (λb o _ e n=>u.free b o e n (by simp)) (λb o _ e=>u.there b o e (by simp)) u.rS u.mw u.mf (λm' hm=>by
  obtain⟨o',es',ep',ho',r'⟩:=hm;rw[ho]at ho';cases ho';exact⟨_,es',ep',hL,r'⟩) aV I.bare
theorem Inv.call(I:Inv X pins σ H s)(u:Un (v_ X.stack) ch H H' s.heap h')(aV:g7 X.prog X.w H' h')(hg:AllBare g')
  (hch:∀b∈ch,(b∈X.ex\/X.s₀.heap.objs.size<=b)/\b≠X.env.locals/\(∀x c,X.env.cells.lookup x=some c->c≠b)/\∀p∈X.pn++pins,p.1≠b):
  Inv X pins σ H' { s with heap:=h',gens:=g',drawn:=d',toks:=t' }:=by
 obtain⟨m,⟨o,es,ep,ho,r⟩,_⟩:=id I.loc;obtain⟨sl,hL⟩:=u.any ho I.free λz=>(hch _ z).2.1 rfl;exact I.step (ch:=ch) hch (λb o hL hb hc e n=>u.keep b o e n (λz=>(iG.mp (I.ua b z)).elim hL hb) hc) (λb o _ _ hc e n=>u.any e n hc) (λb o hc e n=>u.free b o e n hc) (λb o hc e=>u.there b o e hc) u.rS u.mw u.mf (λm' hm=>by
  obtain⟨o',es',ep',ho',r'⟩:=hm;rw[ho]at ho';cases ho';exact⟨_,es',ep',hL,r'⟩) aV hg
theorem Inv.turned(I:Inv X pins σ H s)(k:∀b o,b≠it->s.heap.get? b=some o->h'.get? b=some o)(hn:H it=none)(hL:it≠X.env.locals)
  (h1:it∈X.ex\/X.s₀.heap.objs.size<=it) (h2:∀x c,X.env.cells.lookup x=some c->c≠it) (h3:∀p∈X.pn++pins,p.1≠it):Inv X pins σ H { s with heap:=h',toks:=t' }:=by
 have nit:∀b u,H b=some u->b≠it:=λb u e z=>by rw[z,hn]at e;cases e
 refine I.step (g':=s.gens) (d':=s.drawn) (ch:=[it]) (λb hb=>?_) (λb o _ _ hc e _=>k b o (λz=>hc (by simp[z])) e) (λb o _ _ hc e _=>⟨o.slots,k b o (λz=>hc (by simp[z])) e⟩) (λ_ _ _ _ n=>n)
  (λb o hc e=>⟨o,k b o (λz=>hc (by simp[z])) e⟩) (λ_ _ e=>e) (λ_ _ _ e=>e) (λb ps e=>⟨#[],by rw[e];simp⟩) (λm hm=>?_) (λb u e=>?_) I.bare
 ·have e:b=it:=by simpa using hb
  subst e;exact⟨h1,hL,h2,h3⟩
 ·obtain⟨o,es,ep,ho,r⟩:=hm;exact⟨o,es,ep,k _ o (Ne.symm hL) ho,r⟩
 ·refine(I.aV b u e).iY (λc v hc q=>k c v ?_ q) (λ_ q=>q) λ_ _ q=>q;rcases hc with z|z
  ·rw[z];exact nit b u e
  ·exact nit c _ z
theorem Inv.tok(I:Inv X pins σ H s)(t:Nat):Inv X pins σ H { s with toks:=t }:=I.un (h':=s.heap) (t':=t) Un.refl I.aV
theorem Inv.kept(I:Inv X pins σ H s)(k:∀b u,s.heap.get? b=some u->h'.get? b=some u):Inv X pins σ H { s with heap:=h',toks:=t' }:=I.un (Un.kept k) (I.aV.kept k)
theorem Inv.laid(I:Inv X pins σ H s)(k:∀b u,s.heap.get? b=some u->h'.get? b=some u)(hp:s.heap.objs.size<=a)(new:a6 X.prog X.w (upd H a o) h' a o):
  Inv X pins σ (upd H a o) { s with heap:=h',toks:=t' }:=I.un (Un.laid k hp (I.aV.fresh hp)) (I.aV.laid k hp new)
theorem Inv.write(I:Inv X pins σ H s)(mu:OS (H x))(he:e=x\/H e=some (.own x))(k:∀b u,b≠e->s.heap.get? b=some u->h'.get? b=some u)(heo:∃u,h'.get? e=some u)
  (new:a6 X.prog X.w (upd H x o) h' x o):Inv X pins σ (upd H x o) { s with heap:=h',toks:=t' }:=I.un (Un.write mu he k heo) (I.aV.write mu he k heo new)
theorem Inv.weak(I:Inv X pins σ H s)(hl:σ'.length=σ.length)(w:∀(i:Nat) v,σ'[i]?=some (some v)->σ[i]?=some (some v)):Inv X pins σ' H s:=
 ⟨I.ok,I.os,I.bare,I.base,let ⟨m,hn,hl'⟩:=I.loc;⟨m,hn,λi x v e1 e2 e3=>hl' i x v e1 (w i v e2) e3⟩,I.cell,I.free,I.gz,I.pin,I.aV,hl.trans I.len⟩
theorem Inv.kr{pins':Lo}(I:Inv X pins σ H s)(h:∀p∈pins',s.heap.get? p.1=some p.2/\H p.1=none/\p.1≠X.env.locals/\p.1∉X.fs/\∀v,p.2.data≠.cell v):Inv X pins' σ H s:=
 ⟨I.ok,I.os,I.bare,I.base,I.loc,I.cell,I.free,I.gz,λp hp=>(bF.mp hp).elim (λz=>I.pin p (gC _ z)) (h p),I.aV,I.len⟩
theorem vz{N:List Str}(hN:N.Nodup){i j:Nat}{x:Str}(a:N[i]?=some x)(b:N[j]?=some x):i=j:=by
 obtain⟨h1,e1⟩:=ig.mp a;obtain⟨h2,e2⟩:=ig.mp b;exact(List.getElem_inj hN).mp (e1.trans e2.symm)
theorem BF(I:Inv X pins σ H s)(hN:X.N.Nodup)(hi:X.N[i]?=some x)(hx:Loc X.env.scope x)(r:RelV v u)
  (h:∀s',Inv X pins (σ.set i (some v)) H s'->(∃a,Heap.SameBut a s.heap s'.heap/\(a=X.env.locals\/X.env.cells.lookup x=some a))->Q () s') (hf:X.fn x=true\/X.env.scope.names.lookup x=some .local:=by first|exact .inl rfl|exact .inr rfl|assumption):wpAny M A (storeName X.env x u) Q E s:=by
 obtain⟨m,hn,hl⟩:=id I.loc;have hcls:(X.env.scope.kind == .class || (X.env.scope.kind == .module&&X.env.locals != X.env.globals))=false:=by rw[I.ok.kind];rfl
 have hiσ:i<σ.length:=by rw[I.len];exact(ig.mp hi).1
 have Lj:=I.Lj;have tracked:∀{a:Addr}{h':Heap},(∃o,s.heap.get? a=some o/\H a=none)->Heap.SameBut a s.heap h'->g7 X.prog X.w H h':=λ{a h'} ha hs b ob e=>by
  obtain⟨_,_,hfree⟩:=ha;refine(I.aV b ob e).iY (λc w' hc q=>(hs.2 c ?_).trans q) (λ_ q=>q) λ_ _ q=>q;rintro rfl;rcases hc with rfl|hc
  ·rw[hfree]at e;cases e
  ·rw[hfree]at hc;cases hc
 rcases hx with hk|hk
 ·refine wpAny_storeName_local hk hn (λh' hn' hs=>?_) hcls;obtain⟨oL,_,_,hoL,_⟩:=id hn;refine h _ ⟨I.ok,I.os,I.bare,⟨λb o e n hb hx=>?_,λb o e n hb hx=>?_,I.base.free,λb o e hx=>?_,I.base.rS,I.base.mw,I.base.mf⟩,⟨_,hn',λj y v' e1 e2 e3=>?_⟩,λy c e=>?_,I.free,I.gz,λp hp=>?_,tracked ⟨oL,hoL,I.free⟩ hs,by simpa using I.len⟩ ⟨_,hs,.inl rfl⟩
  ·exact(hs.2 b (eD (mC (cV e) I.ok.above))).trans (I.base.keep b o e n hb hx)
  ·obtain⟨sl,e1⟩:=I.base.slot b o e n hb hx;exact⟨sl,(hs.2 b (eD (mC (cV e) I.ok.above))).trans e1⟩
  ·obtain⟨o',e1⟩:=I.base.there b o e hx;exact⟨o',(hs.2 b (eD (mC (cV e) I.ok.above))).trans e1⟩
  ·by_cases hj:j=i
   ·subst hj;rw[hi]at e1;cases e1;rw[List.getElem?_set_self hiσ]at e2;cases e2;exact⟨u,r,.inl ⟨hk,by simp⟩⟩
   ·rw[List.getElem?_set_ne (Ne.symm hj)]at e2;obtain⟨u',r',q⟩:=hl j y v' e1 e2 e3;refine⟨u',r',?_⟩;rcases q with ⟨k,e⟩|⟨k,c,e,z⟩
    ·refine .inl ⟨k,?_⟩;have:y≠x:=λe=>hj (vz hN e1 (e▸hi));simp[this,e]
    ·exact .inr ⟨k,c,e,z.sameBut hs (Lj y c e)⟩
  ·obtain⟨w',z⟩:=I.cell y c e;exact⟨w',z.sameBut hs (Lj y c e)⟩
  ·obtain⟨e,n,ne,nf,d⟩:=I.pin p hp;exact⟨(hs.2 p.1 ne).trans e,n,ne,nf,d⟩
 ·have hfn:X.fn x=true:=by
   rcases hf with z|z
   ·exact z
   ·rw[z]at hk;cases hk
  obtain⟨c,hc⟩:=I.ok.has x (.inl hk);obtain⟨w',z⟩:=I.cell x c hc;refine wpAny_storeName_cell I.ok.kind hk hc z (λh' hc' hs=>?_);obtain⟨oc,hoc,hocd⟩:=id z;refine h { s with heap:=h' } ⟨I.ok,I.os,I.bare,⟨λb o e n hb hx=>?_,λb o e n hb hx=>?_,I.base.free,λb o e hx=>?_,I.base.rS,I.base.mw,I.base.mf⟩,⟨m,hn.sameBut hs (Ne.symm (Lj x c hc)),λj y v' e1 e2 e3=>?_⟩,λy c' e=>?_,I.free,I.gz,λp hp=>?_,tracked ⟨oc,hoc,I.gz x c hc⟩ hs,by simpa using I.len⟩ ⟨c,hs,.inr hc⟩
  ·exact(hs.2 b (eD (mC (cV e) (I.ok.M9 x c hfn hc)))).trans (I.base.keep b o e n hb hx)
  ·obtain⟨sl,e1⟩:=I.base.slot b o e n hb hx;exact⟨sl,(hs.2 b (eD (mC (cV e) (I.ok.M9 x c hfn hc)))).trans e1⟩
  ·obtain⟨o',e1⟩:=I.base.there b o e hx;exact⟨o',(hs.2 b (eD (mC (cV e) (I.ok.M9 x c hfn hc)))).trans e1⟩
  ·by_cases hj:j=i
   ·subst hj;rw[hi]at e1;cases e1;rw[List.getElem?_set_self hiσ]at e2;cases e2;exact⟨u,r,.inr ⟨.inl hk,c,hc,hc'⟩⟩
   ·rw[List.getElem?_set_ne (Ne.symm hj)]at e2;obtain⟨u',r',q⟩:=hl j y v' e1 e2 e3;refine⟨u',r',?_⟩;rcases q with q|⟨k,c',e,z'⟩
    ·exact .inl q
    ·refine .inr ⟨k,c',e,z'.sameBut hs ?_⟩;rintro rfl;exact hj (vz hN e1 (I.ok.inj _ _ _ e hc▸hi))
  ·by_cases hcc:c'=c
   ·subst hcc;exact⟨_,hc'⟩
   ·obtain⟨w2,z2⟩:=I.cell y c' e;exact⟨w2,z2.sameBut hs hcc⟩
  ·obtain⟨e,n,ne,nf,d⟩:=I.pin p hp;refine⟨(hs.2 p.1 ?_).trans e,n,ne,nf,d⟩;intro q;rw[q,hoc]at e;have q':oc=p.2:=Option.some.inj e;exact d w' (by rw[<-q'];exact hocd)
theorem i6(I:Inv X pins σ H s)(hN:X.N.Nodup)(hi:X.N[i]?=some x)(hx:Loc X.env.scope x)(r:RelV v u)
  (h:∀s',Inv X pins (σ.set i (some v)) H s'->Q () s') (hf:X.fn x=true\/X.env.scope.names.lookup x=some .local:=by first|exact .inl rfl|exact .inr rfl|assumption):wpAny M A (storeName X.env x u) Q E s:=
 BF I hN hi hx r (λs' I' _=>h s' I') hf
theorem Inv.yS(I:Inv X pins σ H s)(ho:s'.os=s.os)(u:Un (v_ X.stack) ch H H' s.heap s'.heap)(aV:g7 X.prog X.w H' s'.heap)(hg:AllBare s'.gens)
  (hch:∀b∈ch,(b∈X.ex\/X.s₀.heap.objs.size<=b)/\b≠X.env.locals/\(∀x c,X.env.cells.lookup x=some c->c≠b)/\∀p∈X.pn++pins,p.1≠b):Inv X pins σ H' s':=by
 obtain⟨h',g',d',t',o'⟩:=s';have e:o'=s.os:=ho;subst e;exact I.call (g':=g') (t':=t') (d':=d') u aV hg hch
end
noncomputable abbrev XK:=Value->Option Addr->Hp->Prop
noncomputable abbrev St:=List (Option V)
noncomputable abbrev VK:=V->Hp->Prop
noncomputable abbrev TE:=St->Hp->VK->Prop
noncomputable abbrev TT:=St->Hp->(Bool->Hp->Prop)->Prop
noncomputable abbrev TA:=St->Hp->(List V->Hp->Prop)->Prop
structure Ends where
 nx:St->Hp->Prop
 rt:VK
 bk:St->Hp->Prop:=λ_ _=>False
 ct:St->Hp->Prop:=λ_ _=>False
noncomputable abbrev TS:=Ends->St->Hp->Prop
def EP(X:Cx)(pins:Lo)(σ:St)(Q:VK)(u:Value)(s':Shared):Prop:=∃v H',Inv X pins σ H' s'/\RelV v u/\Q v H'
def TP(X:Cx)(pins:Lo)(σ:St)(Q:Bool->Hp->Prop)(b:Bool)(s':Shared):Prop:=∃H',Inv X pins σ H' s'/\Q b H'
def AP(X:Cx)(pins:Lo)(σ:St)(Q:List V->Hp->Prop)(us:List Value)(s':Shared):Prop:=∃vs H',Inv X pins σ H' s'/\Vals vs us/\Q vs H'
def SP(X:Cx)(pins:Lo)(D:Ends)(f:Flow)(s':Shared):Prop:=
 match f with
 |.next=>∃σ' H',Inv X pins σ' H' s'/\D.nx σ' H'
 |.brk=>∃σ' H',Inv X pins σ' H' s'/\D.bk σ' H'
 |.cont=>∃σ' H',Inv X pins σ' H' s'/\D.ct σ' H'
 |.ret u=>∃v σ' H',Inv X pins σ' H' s'/\RelV v u/\D.rt v H'
def PE(X:Cx)(e:Expr)(t:TE):Prop:=
 ∀(pins:Lo) (s:Shared) (σ:St) (H:Hp) (Q:VK),Inv X pins σ H s->t σ H Q->wpAny (model X.prog X.w) X.A (eval e X.env) (EP X pins σ Q) X.xe s
def PT(X:Cx)(e:Expr)(t:TT):Prop:=
 ∀(pins:Lo) (s:Shared) (σ:St) (H:Hp) (Q:Bool->Hp->Prop),Inv X pins σ H s->t σ H Q->wpAny (model X.prog X.w) X.A (isTrue e X.env (eval e X.env)) (TP X pins σ Q) X.xe s
def PW(X:Cx)(e:Expr)(t:TT):Prop:=
 ∀(whole:Sem Value) (pins:Lo) (s:Shared) (σ:St) (H:Hp) (Q:Bool->Hp->Prop),Inv X pins σ H s->t σ H Q->wpAny (model X.prog X.w) X.A (isTrue e X.env whole) (TP X pins σ Q) X.xe s
theorem PW.pt(h:PW X e t):PT X e t:=h _
def PA(X:Cx)(es:List Expr)(t:TA):Prop:=
 ∀(pos:Pos) (pins:Lo) (s:Shared) (σ:St) (H:Hp) (Q:List V->Hp->Prop),Inv X pins σ H s->t σ H Q->wpAny (model X.prog X.w) X.A (spliced (backTo pos (starEach es X.env))) (AP X pins σ Q) X.xe s
def PS(X:Cx)(st:Stmt)(t:TS):Prop:=
 ∀(pins:Lo) (s:Shared) (σ:St) (H:Hp) (D:Ends),Inv X pins σ H s->t D σ H->wpAny (model X.prog X.w) X.A (exec st X.env) (SP X pins D) X.xe s
def vc(X:Cx)(st:List Stmt)(t:TS):Prop:=
 ∀(pins:Lo) (s:Shared) (σ:St) (H:Hp) (D:Ends),Inv X pins σ H s->t D σ H->wpAny (model X.prog X.w) X.A (execs st X.env) (SP X pins D) X.xe s
theorem bE{α:Type}{t:Sem α}{Q Q':α->Shared->Prop}{M:Model}{A:Around}{E:Vs}{s:Shared}(h:wpAny M A t Q E s)(hQ:∀a s,Q a s->Q' a s):wpAny M A t Q' E s:=nF h hQ λ_ _ x=>x
section
variable{X:Cx}
noncomputable def Q7:List (Option V)->Nat->(V->Prop)->Prop
 |[],_,_=>False
 |o::_,0,Q=>match o with
  |some v=>Q v
  |none=>False
 |_::r,n+1,Q=>Q7 r n Q
theorem Eg:∀{σ:List (Option V)}{i:Nat}{Q:V->Prop},Q7 σ i Q->∃v,σ[i]?=some (some v)/\Q v
 |some v::_,0,_,h=>⟨v,rfl,h⟩
 |_::r,n+1,_,h=>Eg (σ:=r) (i:=n) h
def mB(i:Nat):TE:=λσ H Q=>Q7 σ i λv=>Q v H
def tC(v:V):TE:=λ_ H Q=>Q v H
theorem MS(hN:X.N[i]?=some x)(hv:QU X.env.scope x)(hd:(x == ("__debug__" : Str))=false:=by decide)(hcd:(x == ("__classdict__" : Str))=false:=by decide):PE X (.Name x pos) (mB i):=by
 intro pins s σ H Q I h;obtain⟨v,e,h⟩:=Eg h;obtain⟨m,hn,hl⟩:=I.loc;obtain⟨u,r,l⟩:=hl i x v hN e hv;have fin:EP X pins σ Q u s:=⟨v,H,I,r,h⟩
 rcases l with ⟨hk,hm⟩|⟨hk,c,hc,hcell⟩
 ·exact wpAny_Name (wpAny_loadName_local I.ok.kind hk hn hm fin) hd
 ·rcases hk with hk|hk
  ·exact wpAny_Name (wpAny_loadName_cell I.ok.kind hk hc hcell fin) hd
  ·exact wpAny_Name (wpAny_loadName_free I.ok.kind hk hc hcell fin hcd) hd
theorem ag:PE X (.Constant (.int i) j pos) (tC (.int i)):=λ_ _ _ H _ I h=>wpAny_Constant_int ⟨.int i,H,I.tok _,⟨_,rfl⟩,h⟩
theorem ib:PE X (.Constant (.bool b) j pos) (tC (.bl b)):=λ_ _ _ H _ I h=>Constant_bool ⟨.bl b,H,I,rfl,h⟩
theorem fW:PE X (.Constant .none j pos) (tC .bj):=λ_ _ _ H _ I h=>Constant_none ⟨.bj,H,I,rfl,h⟩
theorem a5:PE X (.Constant (.str x) j pos) (tC (.str x)):=λ_ _ _ H _ I h=>Calls.Constant_str ⟨.str x,H,I.tok _,⟨_,rfl⟩,h⟩
def Gl(X:Cx)(x:Str):Prop:=X.env.kindOf x=some .globalImplicit
theorem oU(I:Inv X pins σ H s)(hg:Gl X x)(hm:X.mg x=some u)(h:Q u s)
  (hd:(x == ("__debug__" : Str))=false:=by decide):wpAny (model X.prog X.w) X.A (eval (.Name x pos) X.env) Q E s:=
 Calls.Name_function_global I.ok.kind hg (Calls.loadGlobal_global (by rw[I.ok.glob];exact I.mod.glob.keeps I.bk) hm h) hd
theorem iy(I:Inv X pins σ H s)(hg:Gl X x)(hm:X.mg x=none)(hv:bootBuiltins x=some u)(h:Q u s)
  (hn:x ≠ "__name__" := by decide) (hd:(x == ("__debug__" : Str))=false:=by decide):wpAny (model X.prog X.w) X.A (eval (.Name x pos) X.env) Q E s:=by
 obtain⟨mb,h1,h2⟩:=I.mod.blt;exact Calls.Name_function_global I.ok.kind hg (Calls.loadGlobal_builtin (by rw[I.ok.glob];exact I.mod.glob.keeps I.bk) hm (by rw[I.ok.blt];exact h1.keeps I.bk) ((h2 x hn).trans hv) h) hd
theorem IH(hg:Gl X x)(hm:X.mg x=some u)(r:RelV v u)(hd:(x == ("__debug__" : Str))=false:=by decide):PE X (.Name x pos) (tC v):=
 λ_ _ _ H _ I h=>oU I hg hm ⟨v,H,I,r,h⟩ hd
theorem kj(hg:Gl X x)(hm:X.mg x=none)(hv:bootBuiltins x=some u)(r:RelV v u)(hn:x ≠ "__name__" := by decide)(hd:(x == ("__debug__" : Str))=false:=by decide):PE X (.Name x pos) (tC v):=
 λ_ _ _ H _ I h=>iy I hg hm hv ⟨v,H,I,r,h⟩ hn hd
variable{a b:Expr}{ta tb:TE}{pos:Pos}
def PC(X:Cx)(op:CmpOp)(a b:Expr)(t:TE):Prop:=
 ∀(pins:Lo) (s:Shared) (σ:St) (H:Hp) (Q:VK),Inv X pins σ H s->t σ H Q->
  wpAny (model X.prog X.w) X.A (eval a X.env) (λv s₁=>wpAny (model X.prog X.w) X.A (eval b X.env) (λu s₂=>wpAny (model X.prog X.w) X.A (compareOp op v u) (EP X pins σ Q) X.xe s₂) X.xe s₁) X.xe s
theorem Fh(b:Expr){op:CmpOp}(h:op≠.In)(h2:op≠.NotIn):behindInMarks op b=false:=by
 have e1:(op == CmpOp.In)=false:=by cases op<;>first|rfl|exact absurd rfl h
 have e2:(op == CmpOp.NotIn)=false:=by cases op<;>first|rfl|exact absurd rfl h2
 cases b<;>simp[behindInMarks,e1,e2]
def tB(t:TE):TT:=λσ H Q=>t σ H λx H1=>∃c,x=.bl c/\Q c H1
theorem e8(h:PC X op a b t)(h1:behindInMarks op b=false:=by first|exact Fh _ (by decide) (by decide)|rfl):PT X (.Compare a [op] [b] pos) (tB t):=by
 intro pins s σ H Q I hw;refine wpAny_isTrue_Compare1 (bE (h pins s σ H _ I hw) λv s1 h1=>bE h1 λu s2 h2=>bE h2 λc s3 ⟨x,H1,I1,r1,q1⟩=>?_) h1;obtain⟨d,rfl,q⟩:=q1;cases r1;exact Lb ⟨H1,I1,q⟩
theorem gD(h:PE X e t)(he:∀whole,isTrue e X.env whole=(do let v <-whole;standAt e.pos;holding [v] (truthy v)):=by intro _;rfl):PT X e (tB t):=by
 intro pins s σ H Q I hw;refine isTrue_plain (bE (h pins s σ H _ I hw) λv s1 ⟨x,H1,I1,r1,q1⟩=>?_) (he _);obtain⟨d,rfl,q⟩:=q1;cases r1;exact Lb ⟨H1,I1,q⟩
variable{tA tB':TT}{rest:List Expr}
def RV(t u:TT):TT:=λσ H Q=>t σ H λc H1=>if c=true then u σ H1 Q else Q false H1
def Tw(t u:TT):TT:=λσ H Q=>t σ H λc H1=>if c=true then Q true H1 else u σ H1 Q
def Q8(t:TT):TT:=λσ H Q=>t σ H λc H1=>Q (!c) H1
theorem fR(ha:PT X a tA):PW X (.BoolOp .And [a] pos) tA:=by
 intro wh pins s σ H Q I h;refine isTrue_and (bE (ha pins s σ H Q I h) λc s1 e=>?_);cases c with
 |true=>exact isTrue_and_nil e
 |false=>exact e
theorem lR(ha:PT X a tA):PW X (.BoolOp .Or [a] pos) tA:=by
 intro wh pins s σ H Q I h;refine isTrue_or (bE (ha pins s σ H Q I h) λc s1 e=>?_);cases c with
 |false=>exact isTrue_or_nil e
 |true=>exact e
theorem gE(ha:PT X a tA)(hb:PW X (.BoolOp .And (b::rest) pos) tB'):PW X (.BoolOp .And (a::b::rest) pos) (RV tA tB'):=by
 intro wh pins s σ H Q I h;refine isTrue_and (bE (ha pins s σ H _ I h) λc s1 ⟨H1,I1,q1⟩=>?_);cases c with
 |true=>exact hb wh pins s1 σ H1 Q I1 q1
 |false=>exact⟨H1,I1,q1⟩
theorem mS(ha:PT X a tA)(hb:PW X (.BoolOp .Or (b::rest) pos) tB'):PW X (.BoolOp .Or (a::b::rest) pos) (Tw tA tB'):=by
 intro wh pins s σ H Q I h;refine isTrue_or (bE (ha pins s σ H _ I h) λc s1 ⟨H1,I1,q1⟩=>?_);cases c with
 |true=>exact⟨H1,I1,q1⟩
 |false=>exact hb wh pins s1 σ H1 Q I1 q1
theorem ir(ha:PT X a tA):PT X (.UnaryOp .Not a pos) (Q8 tA):=by
 intro pins s σ H Q I h;exact isTrue_not (ha pins s σ H (λc H1=>Q (!c) H1) I h)
def Nt(ta tb:TE):TE:=λσ H Q=>ta σ H λx H1=>∃c,x=.bl c/\if c=true then tb σ H1 Q else Q (.bl false) H1
def Tx(ta tb:TE):TE:=λσ H Q=>ta σ H λx H1=>∃c,x=.bl c/\if c=true then Q (.bl true) H1 else tb σ H1 Q
def Qe(ta:TE):TE:=λσ H Q=>ta σ H λx H1=>∃c,x=.bl c/\Q (.bl (!c)) H1
theorem xV(h:PE X a t):PE X (.BoolOp op [a] pos) t:=λpins s σ H Q I hw=>BoolOp_one (h pins s σ H Q I hw)
theorem wR(ha:PE X a ta)(hb:PE X (.BoolOp .And (b::rest) pos) tb):PE X (.BoolOp .And (a::b::rest) pos) (Nt ta tb):=by
 intro pins s σ H Q I h;refine BoolOp_and (bE (ha pins s σ H _ I h) λv s1 ⟨x,H1,I1,r1,q1⟩=>?_);obtain⟨c,rfl,q1⟩:=q1;cases r1;refine Lb ?_;cases c with
 |true=>exact hb pins s1 σ H1 Q I1 q1
 |false=>exact⟨.bl false,H1,I1,rfl,q1⟩
theorem Ml(ha:PE X a ta):PE X (.UnaryOp .Not a pos) (Qe ta):=by
 intro pins s σ H Q I h;refine UnaryOp_ (bE (ha pins s σ H _ I h) λv s1 ⟨x,H1,I1,r1,q1⟩=>?_);obtain⟨c,rfl,q1⟩:=q1;cases r1;exact not_of (Lb ⟨.bl (!c),H1,I1,rfl,q1⟩)
def Ux(t:TT)(ta tb:TE):TE:=λσ H Q=>t σ H λc H1=>if c=true then ta σ H1 Q else tb σ H1 Q
end
def aD(K:Wf)(H:Hp)(a:Addr)(xs:List V):Prop:=
 Rd H a (.lst xs) \/
  ∃(o:Obj) (its:Array Value) (n:Nat),K.lookup a=some o/\o.cls=.type "list" /\ o.dict=none/\o.data=.seq its n/\its.size<=sizeLine/\Vals xs its.toList
def aR(K:Wf)(H:Hp)(a:Addr)(xs:List V):Prop:=
 Rd H a (.tup xs) \/
  ∃(o:Obj) (its:Array Value) (n:Nat),K.lookup a=some o/\o.cls=.type "tuple" /\ o.data=.seq its n/\its.size<=sizeLine/\Vals xs its.toList
noncomputable def Sq:Value->Option V
 |.none=>some .bj
 |.bool b=>some (.bl b)
 |.int i _=>some (.int i)
 |.str x _=>some (.str x)
 |.bytes b _=>some (.v8 b)
 |.float b _=>some (.LP b)
 |.ref a=>some (.ref a)
 |.type n=>some (.ty n)
 |_=>none
theorem RelV.abs(r:RelV x u):Sq u=some x:=by
 cases x with
 |bj=>cases r;rfl
 |bl _=>cases r;rfl
 |int _=>obtain⟨t,rfl⟩:=r;rfl
 |str _=>obtain⟨t,rfl⟩:=r;rfl
 |v8 _=>obtain⟨t,rfl⟩:=r;rfl
 |LP _=>obtain⟨t,rfl⟩:=r;rfl
 |ref _=>cases r;rfl
 |ty _=>cases r;rfl
theorem RelV.inj(r:RelV x u)(q:RelV y u):x=y:=Option.some.inj (r.abs.symm.trans q.abs)
theorem Vals.inj:∀{xs ys:List V}{us:List Value},Vals xs us->Vals ys us->xs=ys
 |_,_,_,.nil,.nil=>rfl
 |_,_,_,.cons r t,.cons r' t'=>by rw[r.inj r',Vals.inj t t']
section
variable{X:Cx}{pins:Lo}{σ:St}{H:Hp}{s:Shared}{a:Addr}{xs ys:List V}
theorem aD.of{K:Wf}(h:H a=some (.lst xs)):aD K H a xs:=.inl (.inl h)
theorem aR.of{K:Wf}(h:H a=some (.tup xs)):aR K H a xs:=.inl (.inl h)
theorem Inv.list(I:Inv X pins σ H s)(h:aD X.K H a xs):∃its:List Value,Vals xs its/\PlainL s.heap a its.toArray/\xs.length<=sizeLine:=by
 rcases h with h|⟨o,its,n,hk,hc,hd,hs,hz,r⟩
 ·obtain⟨z,its,n,r,e⟩:=h.ok I.aV;exact⟨its,r,⟨_,n,e,rfl,rfl,rfl⟩,z⟩
 ·refine⟨its.toList,r,⟨o,n,I.jH a o hk,hc,hd,by simpa using hs⟩,?_⟩;have e:=r.length;simp only[Array.length_toList]at e;omega
theorem Inv.tuple(I:Inv X pins σ H s)(h:aR X.K H a xs):∃its:List Value,Vals xs its/\IsTup s.heap a its.toArray/\xs.length<=sizeLine:=by
 rcases h with h|⟨o,its,n,hk,hc,hs,hz,r⟩
 ·obtain⟨z,its,r,p⟩:=h.ok I.aV;exact⟨its,r,p,z⟩
 ·refine⟨its.toList,r,⟨o,I.jH a o hk,hc,n,by simpa using hs⟩,?_⟩;have e:=r.length;simp only[Array.length_toList]at e;omega
theorem Inv.gx(I:Inv X pins σ H s)(h:aD X.K H a xs)(h':aD X.K H a ys):xs=ys:=by
 obtain⟨its,r,⟨o,n,e,_,_,d⟩,_⟩:=I.list h;obtain⟨its',r',⟨o',n',e',_,_,d'⟩,_⟩:=I.list h';rw[e]at e';cases e';rw[d]at d';injection d' with d1 _;have:its=its':=by simpa using congrArg Array.toList d1
 subst this;exact r.inj r'
theorem Inv.jK(I:Inv X pins σ H s)(h:aR X.K H a xs)(h':aR X.K H a ys):xs=ys:=by
 obtain⟨its,r,⟨o,e,_,n,d⟩,_⟩:=I.tuple h;obtain⟨its',r',⟨o',e',_,n',d'⟩,_⟩:=I.tuple h';rw[e]at e';cases e';rw[d]at d';injection d' with d1 _;have:its=its':=by simpa using congrArg Array.toList d1
 subst this;exact r.inj r'
end
noncomputable abbrev Cx.mq(X:Cx)(E:Vs):Cx:={ X with xe:=E }
noncomputable abbrev Cx.M3(X:Cx):Cx:=X.mq λ_ _=>False
theorem Cx.Ok.mq{X:Cx}(ok:X.Ok)(E:Vs):(X.mq E).Ok:=
 ⟨ok.mod,ok.kind,ok.glob,ok.blt,ok.above,ok.inj,ok.has,ok.M9,ok.hd,ok.frames,ok.J7,ok.OQ,ok.bs,ok.Ej,ok.BI,ok.xE,ok.jj,ok.Ig⟩
theorem Cx.Ok.gm{X:Cx}{E:Vs}(ok:(X.mq E).Ok):X.Ok:=
 ⟨ok.mod,ok.kind,ok.glob,ok.blt,ok.above,ok.inj,ok.has,ok.M9,ok.hd,ok.frames,ok.J7,ok.OQ,ok.bs,ok.Ej,ok.BI,ok.xE,ok.jj,ok.Ig⟩
section
variable{X:Cx}{pins:Lo}{σ:St}{H:Hp}{s:Shared}{E:Vs}
theorem Inv.mq(I:Inv X pins σ H s)(E:Vs):Inv (X.mq E) pins σ H s:=⟨I.ok.mq E,I.os,I.bare,I.base,I.loc,I.cell,I.free,I.gz,I.pin,I.aV,I.len⟩
theorem Inv.gm(I:Inv (X.mq E) pins σ H s):Inv X pins σ H s:=⟨I.ok.gm,I.os,I.bare,I.base,I.loc,I.cell,I.free,I.gz,I.pin,I.aV,I.len⟩
theorem SP.gm(h:SP (X.mq E) pins D f s'):SP X pins D f s':=by
 cases f with
 |next=>obtain⟨σ',H',I,q⟩:=h;exact⟨σ',H',I.gm,q⟩
 |brk=>obtain⟨σ',H',I,q⟩:=h;exact⟨σ',H',I.gm,q⟩
 |cont=>obtain⟨σ',H',I,q⟩:=h;exact⟨σ',H',I.gm,q⟩
 |ret u=>obtain⟨v,σ',H',I,r,q⟩:=h;exact⟨v,σ',H',I.gm,r,q⟩
theorem vc.M3{st:List Stmt}{t:TS}(h:vc X.M3 st t):vc X st t:=λpins s σ H D I hw=>
 nF (h pins s σ H D (I.mq _) hw) (λ_ _ q=>q.gm) λ_ _ z=>False.elim z
end
section
variable{X:Cx}{st:Stmt}{rest:List Stmt}{t u:TS}{e:Expr}{te:TE}{pos:Pos}
def Qc:TS:=λD σ H=>D.nx σ H
def Rv(t u:TS):TS:=λD σ H=>t { D with nx:=u D } σ H
theorem cI:vc X [] Qc:=λ_ _ σ H _ I h=>wpAny_execs_nil ⟨σ,H,I,h⟩
theorem aQ(h1:PS X st t)(h2:vc X rest u):vc X (st::rest) (Rv t u):=by
 intro pins s σ H D I h;refine wpAny_execs_cons (bE (h1 pins s σ H { D with nx:=u D } I h) λf s1 q=>?_);cases f with
 |next=>
  obtain⟨σ',H',I',q⟩:=q;exact h2 pins s1 σ' H' D I' q
 |ret v=>exact q
 |brk=>exact q
 |cont=>exact q
theorem bf(h1:PS X st t):vc X [st] t:=by
 intro pins s σ H D I h;refine wpAny_execs_cons (bE (h1 pins s σ H D I h) λf s1 q=>?_);cases f with
 |next=>exact wpAny_execs_nil q
 |ret v=>exact q
 |brk=>exact q
 |cont=>exact q
theorem Inv.quiet(I:Inv X pins σ H s):interactive X.env=false:=by simp[interactive,I.ok.kind]
def P7(te:TE):TS:=λD σ H=>te σ H λ_ H1=>D.nx σ H1
theorem dY(he:PE X e te)(hs:swapsWith e none pos.line X.env=pure false:=by rfl):PS X (.Expr e pos) (P7 te):=by
 intro pins s σ H D I h;exact wpAny_Expr_any (bE (he pins s σ H _ I h) λv s1 ⟨x,H1,I1,r1,q1⟩=>⟨σ,H1,I1,q1⟩) I.quiet hs
def Rr(te:TE):TS:=λD σ H=>te σ H D.rt
theorem aJ(he:PE X e te):PS X (.Return (some e) pos) (Rr te):=by
 intro pins s σ H D I h;exact wpAny_Return_some (bE (he pins s σ H _ I h) λv s1 ⟨x,H1,I1,r1,q1⟩=>⟨x,σ,H1,I1,r1,q1⟩)
def O4:TS:=λD _ H=>D.rt .bj H
theorem qG:PS X (.Return none pos) O4:=λ_ _ σ H _ I h=>wpAny_Return_none ⟨.bj,σ,H,I,rfl,h⟩
def QY(c:TT)(t u:TS):TS:=λD σ H=>c σ H λb H1=>if b=true then t D σ H1 else u D σ H1
theorem bq(hc:PT X c tc)(ha:vc X a t)(hb:vc X b u):PS X (.If c a b pos) (QY tc t u):=by
 intro pins s σ H D I h;refine wpAny_If (bE (hc pins s σ H _ I h) λd s1 ⟨H1,I1,q1⟩=>?_);cases d with
 |true=>exact ha pins s1 σ H1 D I1 q1
 |false=>exact hb pins s1 σ H1 D I1 q1
def Mn:TS:=λ_ _ _=>False
theorem eC:PS X st Mn:=λ_ _ _ _ _ _ h=>h.elim
end
noncomputable abbrev TG:=V->St->Hp->(St->Hp->Prop)->Prop
noncomputable abbrev Ny:=List V->St->Hp->(St->Hp->Prop)->Prop
def PG(X:Cx)(target:Expr)(t:TG):Prop:=
 ∀(pins:Lo) (s:Shared) (σ:St) (H:Hp) (v:V) (u:Value) (Q:St->Hp->Prop),Inv X pins σ H s->RelV v u->t v σ H Q->
  wpAny (model X.prog X.w) X.A (assign target X.env u) (λ_ s'=>∃σ' H',Inv X pins σ' H' s'/\Q σ' H') X.xe s
def OR(X:Cx)(ts:List Expr)(t:Ny):Prop:=
 ∀(pins:Lo) (s:Shared) (σ:St) (H:Hp) (vs:List V) (us:List Value) (Q:St->Hp->Prop),Inv X pins σ H s->Vals vs us->t vs σ H Q->
  wpAny (model X.prog X.w) X.A (assignInOrder ((assignEach ts X.env).map (·.2)) us) (λ_ s'=>∃σ' H',Inv X pins σ' H' s'/\Q σ' H') X.xe s
noncomputable abbrev Rq:=V->V->Hp->VK->Prop
def SV(X:Cx)(op:Operator)(t:Rq):Prop:=
 ∀(pins:Lo) (s:Shared) (σ:St) (H:Hp) (x y:V) (v u:Value) (Q:VK),Inv X pins σ H s->RelV x v->RelV y u->t x y H Q->
  wpAny (model X.prog X.w) X.A (inplaceOp op v u) (EP X pins σ Q) X.xe s
section
variable{X:Cx}{pos:Pos}
def j6(i:Nat):TG:=λv σ H Q=>Q (σ.set i (some v)) H
theorem Iq(hN:X.N.Nodup)(hi:X.N[i]?=some x)(hx:Loc X.env.scope x)(hf:X.fn x=true\/X.env.scope.names.lookup x=some .local:=by first|exact .inl rfl|exact .inr rfl|assumption):PG X (.Name x pos) (j6 i):=by
 intro pins s σ H v u Q I r h;exact wpAny_assign_Name (i6 I hN hi hx r (λs' I'=>⟨_,H,I',h⟩) hf)
noncomputable def Q1:Ny:=λvs σ H Q=>vs=[]/\Q σ H
noncomputable def Oe(t:TG)(u:Ny):Ny:=λvs σ H Q=>∃v r,vs=v::r/\t v σ H λσ' H'=>u r σ' H' Q
theorem bL:OR X [] Q1:=by
 intro pins s σ H vs us Q I r h;obtain⟨e,h⟩:=h;subst e;cases r;exact assignInOrder_nil ⟨σ,H,I,h⟩
theorem cT(h1:PG X e t)(h2:OR X es u)
  (hs:(assignEach (e::es) X.env).map (·.2)=assign e X.env::(assignEach es X.env).map (·.2):=by rfl):OR X (e::es) (Oe t u):=by
 intro pins s σ H vs us Q I r h;obtain⟨v,vr,e1,h⟩:=h;subst e1;cases r with
 |cons r rr=>
  rw[hs];refine assignInOrder_cons (bE (h1 pins s σ H _ _ _ I r h) λ_ s1 ⟨σ1,H1,I1,q1⟩=>?_);exact h2 pins s1 σ1 H1 _ _ Q I1 rr q1
def PN(K:Wf)(n:Nat)(t:Ny):TG:=λv σ H Q=>∃a xs,v=.ref a/\aR K H a xs/\xs.length=n/\t xs σ H Q
theorem LC(hc:X.calm=true)(h:OR X es t)
  (hn:(assignEach es X.env).length=n:=by rfl) (hst:(assignEach es X.env).findIdx? (·.1)=none:=by rfl):PG X (.Tuple es k pos) (PN X.K n t):=by
 intro pins s σ H v u Q I r hw;obtain⟨a,xs,e1,hq,hl,hw⟩:=hw;subst e1;cases r;obtain⟨its,rv,ht,hz⟩:=I.tuple hq;refine assign_Tuple_tuple (I.ok.hd hc) ht (by simp[hn,<-hl,rv.length]) hst λh' hx=>?_;have I1:Inv X pins σ H { s with heap:=h' }:=I.kept (t':=s.toks) λb o e=>hx b o (eD (cV e)) e;exact h pins _ σ H xs _ Q I1 (by simpa using rv) hw
def HE(te:TE)(g:TG):TS:=λD σ H=>te σ H λx H1=>g x σ H1 D.nx
theorem MN(he:PE X e te)(hg:PG X tg g)(hs:swapsWithSole [tg] e pos.line X.env=pure false:=by rfl)(hw:swappedStores [tg] e X.env=pure none:=by rfl)
  (h1:(assignEach [tg] X.env).map (·.2)=[assign tg X.env]:=by rfl):PS X (.Assign [tg] e pos) (HE te g):=by
 intro pins s σ H D I h;refine wpAny_Assign_stores (bE (he pins s σ H _ I h) λv s1 ⟨x,H1,I1,r1,q1⟩=>?_) hs hw;rw[h1];exact bE (hg pins s1 σ H1 x v _ I1 r1 q1) λ_ s2 q=>q
theorem MU(hN:X.N.Nodup)(hi:X.N[i]?=some x)(hx:Loc X.env.scope x)(he:PE X e te)(hs:swapsWith e (some (.Name x pos')) pos.line X.env=pure false:=by rfl)(hf:X.fn x=true\/X.env.scope.names.lookup x=some .local:=by first|exact .inl rfl|exact .inr rfl|assumption):
  PS X (.Assign [.Name x pos'] e pos) (HE te (j6 i)):=by
 intro pins s σ H D I h;refine wpAny_Assign_Name (bE (he pins s σ H _ I h) λv s1 ⟨y,H1,I1,r1,q1⟩=>?_) hs;exact i6 I1 hN hi hx r1 (λs2 I2=>⟨_,H1,I2,q1⟩) hf
def RP(i:Nat)(te:TE)(ti:Rq):TS:=λD σ H=>∃x,σ[i]?=some (some x)/\te σ H λy H1=>ti x y H1 λz H2=>D.nx (σ.set i (some z)) H2
theorem EN(hN:X.N.Nodup)(hi:X.N[i]?=some x)(hx:Loc X.env.scope x)(he:PE X e te)(ho:SV X op ti)(hf:X.fn x=true\/X.env.scope.names.lookup x=some .local:=by first|exact .inl rfl|exact .inr rfl|assumption):
  PS X (.AugAssign (.Name x pos') op e pos) (RP i te ti):=by
 intro pins s σ H D I h;obtain⟨v,e1,h⟩:=h;obtain⟨m,hn,hl⟩:=I.loc;have vis:QU X.env.scope x:=by rcases hx with k|k;exact .inl k;exact .inr (.inl k)
 obtain⟨u,r,l⟩:=hl i x v hi e1 vis;refine wpAny_AugAssign_Name ?_;have go:wpAny (model X.prog X.w) X.A (eval e X.env) (λw s₂=>wpAny (model X.prog X.w) X.A (inplaceOp op u w) (λr s₃=>wpAny (model X.prog X.w) X.A (storeName X.env x r) (λ_=>SP X pins D .next) X.xe s₃) X.xe s₂) X.xe s:=by
  refine bE (he pins s σ H _ I h) λw s1 ⟨y,H1,I1,r1,q1⟩=>?_;refine bE (ho pins s1 σ H1 v y u w _ I1 r r1 q1) λz s2 ⟨zv,H2,I2,r2,q2⟩=>?_;exact i6 I2 hN hi hx r2 (λs3 I3=>⟨_,H2,I3,q2⟩) hf
 rcases l with ⟨hk,hm⟩|⟨hk,c,hc,hcell⟩
 ·exact wpAny_loadName_local I.ok.kind hk hn hm go
 ·rcases hk with hk|hk
  ·exact wpAny_loadName_cell I.ok.kind hk hc hcell go
  ·rcases hx with k|k
   ·have:X.env.scope.names.lookup x=some .free:=hk;rw[k]at this;cases this
   ·have:X.env.scope.names.lookup x=some .free:=hk;rw[k]at this;cases this
noncomputable def Up(f:Int->Int->Int):Rq:=λx y H Q=>∃i j,x=.int i/\y=.int j/\Q (.int (f i j)) H
theorem Fd:SV X .Add (Up λi j=>i+j):=by
 intro pins s σ H x y v u Q I r1 r2 h;obtain⟨i,j,e1,e2,q⟩:=h;subst e1;subst e2;obtain⟨t,rfl⟩:=r1;obtain⟨t',rfl⟩:=r2;exact iadd_int ⟨.int _,H,I.tok _,⟨_,rfl⟩,q⟩
end
section
variable{X:Cx}{pos:Pos}
def Mg(c:TT)(tb:TS):TS:=λD σ H=>∃W:Nat->St->Hp->Prop,(∃m,W m σ H)/\∀m σ H,W m σ H->
 c σ H λb H1=>if b=true then ∃N:St->Hp->Prop,(∀σ' H',N σ' H'->∃m',m'<m/\W m' σ' H')/\tb { D with nx:=N,ct:=N,bk:=D.nx } σ H1 else D.nx σ H1
theorem jc(hp:PassesOwn (model X.prog X.w) X.A X.env X.xe)(hc:PT X c tc)(hb:vc X body tb):PS X (.While c body [] pos) (Mg tc tb):=by
 intro pins s σ H D I h;obtain⟨W,⟨m0,w0⟩,turn⟩:=h;refine wpAny_While (codeAny_whileLoop (λn s'=>∃σ' H',Inv X pins σ' H' s'/\W n σ' H') ?_ m0 ⟨σ,H,I,w0⟩);rintro n s1 ⟨σ1,H1,I1,w1⟩;refine Mc hp (bE (hc pins s1 σ1 H1 _ I1 (turn n σ1 H1 w1)) λb s2 ⟨H2,I2,q2⟩=>?_);cases b with
 |true=>
  obtain⟨N,hN,q2⟩:=q2;rw[if_pos rfl];refine Mc hp (bE (hb pins s2 σ1 H2 _ I2 q2) λf s3 q3=>?_);cases f with
  |next=>
   obtain⟨σ3,H3,I3,n3⟩:=q3;obtain⟨m',hm,w3⟩:=hN σ3 H3 n3;exact⟨m',hm,σ3,H3,I3,w3⟩
  |cont=>
   obtain⟨σ3,H3,I3,n3⟩:=q3;obtain⟨m',hm,w3⟩:=hN σ3 H3 n3;exact⟨m',hm,σ3,H3,I3,w3⟩
  |brk=>exact q3
  |ret v=>exact q3
 |false=>
  rw[if_neg my];exact wpAny_execs_nil ⟨σ1,H2,I2,q2⟩
end
structure It where
 go:Nat->Hp->Prop
 B3:Nat->Hp->V->Hp->Prop
 stop:Nat->Hp->Prop
def e9(X:Cx)(pins:Lo)(H:Hp)(b:Addr):Prop:=
 H b=none/\b≠X.env.locals/\b∉X.fs/\(b∈X.ex\/X.s₀.heap.objs.size<=b)/\(∀x c,X.env.cells.lookup x=some c->c≠b)/\∀p∈X.pn++pins,p.1≠b
theorem Inv.sP(I:Inv X pins σ H s)(hb:s.heap.objs.size<=b)(hn:H' b=none):e9 X pins H' b:=by
 refine⟨hn,Nat.ne_of_gt (mC I.lt hb),I.Pq hb,.inr (f9 I.sz hb),λx c e z=>?_,λp hp z=>?_⟩
 ·obtain⟨v,q⟩:=I.cell x c e;exact absurd (mC q.lt (by rw[z];exact hb)) (uH _)
 ·exact absurd (mC (cV (I.pin p hp).1) (by rw[z];exact hb)) (uH _)
structure Turn(P:Program)(w:World)(K:Wf)(tg:Expr)(J:It)(fp:List Addr)(it:Addr)(tn:Nat->Heap->Prop):Prop where
 mem:it∈fp
 obj:∀i h,tn i h->∀b∈fp,∃o,h.get? b=some o/\∀v,o.data≠.cell v
 keep:∀i h h',tn i h->(∀b∈fp,∀o,h.get? b=some o->h'.get? b=some o)->tn i h'
 item:∀(X:Cx),X.prog=P->X.w=w->X.K=K->X.calm=true->∀(i:Nat) (pins:Lo) (s:Shared) (σ:St) (H:Hp) (E:Vs),Inv X pins σ H s->(∀b∈fp,e9 X pins H b)->tn i s.heap->J.go i H->
  wpAny (model P w) X.A (pyNext (.ref it)) (λr s1=>∃u,r=some u/\
   wpAny (model P w) X.A (letOwnedTupleGo tg (.ref it) u) (λ_ s2=>∃x H',Inv X pins σ H' s2/\RelV x u/\J.B3 i H x H'/\tn (i+1) s2.heap/\∀b∈fp,H' b=none) E s1) E s
 done:∀(X:Cx),X.prog=P->X.w=w->X.K=K->X.calm=true->∀(i:Nat) (pins:Lo) (s:Shared) (σ:St) (H:Hp) (E:Vs),Inv X pins σ H s->(∀b∈fp,e9 X pins H b)->tn i s.heap->J.stop i H->
  wpAny (model P w) X.A (pyNext (.ref it)) (λr s1=>r=none/\Inv X pins σ H s1) E s
 self:∀(A:Around) (i:Nat) (s:Shared) (Q:Vs) (E:Vs),tn i s.heap->Q (.ref it) s->wpAny (model P w) A (pyIter (.ref it)) Q E s
noncomputable abbrev TI:=St->Hp->(It->Hp->Prop)->Prop
def Sy(X:Cx)(pins:Lo)(σ:St)(tg:Expr)(R:It->Hp->Prop)(itv:Value)(s2:Shared):Prop:=
 ∃(it:Addr) (fp:List Addr) (tn:Nat->Heap->Prop) (J:It) (H':Hp),itv=.ref it/\Inv X pins σ H' s2/\Turn X.prog X.w X.K tg J fp it tn/\tn 0 s2.heap/\(∀b∈fp,e9 X pins H' b)/\R J H'
def PI(X:Cx)(tg iter:Expr)(wi:TI):Prop:=
 ∀(pins:Lo) (s:Shared) (σ:St) (H:Hp) (R:It->Hp->Prop),Inv X pins σ H s->wi σ H R->
  wpAny (model X.prog X.w) X.A (eval iter X.env) (λv s1=>wpAny (model X.prog X.w) X.A (pyIter v) (Sy X pins σ tg R) X.xe s1) X.xe s
theorem nT(ho:s.heap.get? it=some o)(hc:o.cls=.type n)(hd:o.data=.fields vs)
  (hn:["enumerate", "zip", "dict_itemiterator", "dict_reverseitemiterator", "odict_iterator", "itertools.zip_longest", "itertools.pairwise"].contains n=false) (hQ:Q () s):wpAny M A (letOwnedTupleGo tg (.ref it) u) Q E s:=by
 unfold letOwnedTupleGo;cases tg<;>first
  |exact aP hQ
  | (cases u<;>first
    |exact aP hQ
    | (refine au (wpAny_load ho ?_)
       rw[hc,hd];show wpAny M A (if (["enumerate", "zip", "dict_itemiterator", "dict_reverseitemiterator", "odict_iterator", "itertools.zip_longest", "itertools.pairwise"].contains n&&vs[0]? == some (rawInt _))=true then _ else _) Q E s;rw[if_neg (by intro h;rw[hn,Bool.false_and]at h;cases h)];exact aP hQ))
noncomputable def Dg(K:Wf)(a:Addr):It:=
 ⟨λi H=>∃xs x,aD K H a xs/\xs[i]?=some x,λi H x H'=>H'=H/\∀xs,aD K H a xs->xs[i]?=some x,λi H=>∃xs,aD K H a xs/\xs.length<=i⟩
noncomputable def L6(K:Wf)(a:Addr):It:=
 ⟨λi H=>∃xs x,aR K H a xs/\xs[i]?=some x,λi H x H'=>H'=H/\∀xs,aR K H a xs->xs[i]?=some x,λi H=>∃xs,aR K H a xs/\xs.length<=i⟩
noncomputable def Hy(lo:Int)(n:Nat):It:=⟨λi _=>i<n,λi H x H'=>H'=H/\x=.int (lo+i),λi _=>n<=i⟩
theorem Bp{P:Program}{w:World}{K:Wf}{tg:Expr}(a it:Addr):Turn P w K tg (Dg K a) [it] it (λi h=>h.IsListIter it a i) where
 mem:=by simp
 obj:=λi h st b hb=>by
  have e:b=it:=by simpa using hb
  subst e;obtain⟨o,e,c,d⟩:=st;exact⟨o,e,λv z=>by rw[d]at z;cases z⟩
 keep:=λi h h' st k=>st.at λo e=>k it (by simp) o e
 item:=by
  intro X hP hw hK hc i pins s σ H E I hf st hg;subst hP hw hK;obtain⟨xs,x,hq,hx⟩:=hg;obtain⟨its,rv,p,hz⟩:=I.list hq;obtain⟨u,hu,ru⟩:=rv.get hx;obtain⟨f0,f1,f2,f3,f4,f5⟩:=hf it (by simp);refine wpAny_pyNext_list_item st p.isList (x:=u) (by simpa using hu) λh' st' sb=>?_;have I1:Inv X pins σ H { s with heap:=h' }:=I.turned (t':=s.toks) (λb o hb e=>(sb.2 b hb).trans e) f0 f1 f3 f4 f5;obtain⟨o,e,c,d⟩:=id st';exact⟨u,rfl,nT (s:={ s with heap:=h' }) e c d (by decide) ⟨x,H,I1,ru,⟨rfl,λys hy=>by rw[I.gx hy hq];exact hx⟩,st',λb hb=>(hf b hb).1⟩⟩
 done:=by
  intro X hP hw hK hc i pins s σ H E I hf st hg;subst hP hw hK;obtain⟨xs,hq,hx⟩:=hg;obtain⟨its,rv,p,hz⟩:=I.list hq;obtain⟨f0,f1,f2,f3,f4,f5⟩:=hf it (by simp);have hl:=rv.length;exact wpAny_pyNext_list_end (I.ok.hd hc) st p.isList (by simp;omega) λh' eb=>⟨rfl,I.turned (t':=s.toks) (λb o hb e=>eb b o hb e) f0 f1 f3 f4 f5⟩
 self:=λ_ _ _ _ _ st h=>wpAny_pyIter_listiter st h
theorem xD{P:Program}{w:World}{K:Wf}{tg:Expr}(a it:Addr):Turn P w K tg (L6 K a) [it] it (λi h=>h.IsTupleIter it a i) where
 mem:=by simp
 obj:=λi h st b hb=>by
  have e:b=it:=by simpa using hb
  subst e;obtain⟨o,e,c,d⟩:=st;exact⟨o,e,λv z=>by rw[d]at z;cases z⟩
 keep:=λi h h' st k=>st.at λo e=>k it (by simp) o e
 item:=by
  intro X hP hw hK hc i pins s σ H E I hf st hg;subst hP hw hK;obtain⟨xs,x,hq,hx⟩:=hg;obtain⟨its,rv,p,hz⟩:=I.tuple hq;obtain⟨u,hu,ru⟩:=rv.get hx;obtain⟨f0,f1,f2,f3,f4,f5⟩:=hf it (by simp);refine wpAny_pyNext_tuple_item st (show s.heap.IsTuple a its.toArray from p) (x:=u) (by simpa using hu) λh' st' sb=>?_;have I1:Inv X pins σ H { s with heap:=h' }:=I.turned (t':=s.toks) (λb o hb e=>(sb.2 b hb).trans e) f0 f1 f3 f4 f5;obtain⟨o,e,c,d⟩:=id st';exact⟨u,rfl,nT (s:={ s with heap:=h' }) e c d (by decide) ⟨x,H,I1,ru,⟨rfl,λys hy=>by rw[I.jK hy hq];exact hx⟩,st',λb hb=>(hf b hb).1⟩⟩
 done:=by
  intro X hP hw hK hc i pins s σ H E I hf st hg;subst hP hw hK;obtain⟨xs,hq,hx⟩:=hg;obtain⟨its,rv,p,hz⟩:=I.tuple hq;obtain⟨f0,f1,f2,f3,f4,f5⟩:=hf it (by simp);have hl:=rv.length;exact wpAny_pyNext_tuple_end (I.ok.hd hc) st (show s.heap.IsTuple a its.toArray from p) (by simp;omega) λh' eb=>⟨rfl,I.turned (t':=s.toks) (λb o hb e=>eb b o hb e) f0 f1 f3 f4 f5⟩
 self:=λ_ _ _ _ _ st h=>wpAny_pyIter_tupleiter st h
theorem wX{P:Program}{w:World}{K:Wf}{tg:Expr}(it:Addr)(lo:Int)(n:Nat):Turn P w K tg (Hy lo n) [it] it (λi h=>IsRangeIter h it (lo+(i:Nat)*1) ((n:Int) - (i:Nat)) 1) where
 mem:=by simp
 obj:=λi h st b hb=>by
  have e:b=it:=by simpa using hb
  subst e;exact⟨_,st,λv z=>by
   have z':Data.fields _=Data.cell v:=z;cases z'⟩
 keep:=λi h h' st k=>k it (by simp) _ st
 item:=by
  intro X hP hw hK hc i pins s σ H E I hf st hg;subst hP hw hK;obtain⟨f0,f1,f2,f3,f4,f5⟩:=hf it (by simp);have W:=Walks.range (prog:=X.prog) (w:=X.w) (I.ok.hd hc) it lo 1 n;refine W.item i s _ _ hg st λv h' tk hv st' kk=>?_;obtain⟨t,rfl⟩:=hv;have I1:Inv X pins σ H { s with heap:=h',toks:=tk }:=I.turned (λb o hb e=>kk b o (by simpa using hb) e) f0 f1 f3 f4 f5;refine⟨_,rfl,nT (s:={ s with heap:=h',toks:=tk }) (n := "range_iterator") st' rfl rfl (by decide) ⟨.int (lo+i),H,I1,⟨t,?_⟩,⟨rfl,rfl⟩,st',λb hb=>(hf b hb).1⟩⟩;rw[Int.mul_one]
 done:=by
  intro X hP hw hK hc i pins s σ H E I hf st hg;subst hP hw hK;obtain⟨f0,f1,f2,f3,f4,f5⟩:=hf it (by simp);exact wpAny_pyNext_range_end (I.ok.hd hc) st (by have:n<=i:=hg;omega) λh' eb=>⟨rfl,I.turned (t':=s.toks) (λb o hb e=>eb b o hb e) f0 f1 f3 f4 f5⟩
 self:=λ_ _ _ _ _ st h=>wpAny_pyIter_rangeiter st h
section
variable{X:Cx}{tg:Expr}
def oo(K:Wf)(tl:TE):TI:=λσ H R=>tl σ H λx H1=>∃a,x=.ref a/\(∃xs,aD K H1 a xs)/\R (Dg K a) H1
def HS(K:Wf)(tl:TE):TI:=λσ H R=>tl σ H λx H1=>∃a,x=.ref a/\(∃xs,aR K H1 a xs)/\R (L6 K a) H1
theorem IW(hl:PE X l tl):PI X tg l (oo X.K tl):=by
 intro pins s σ H R I h;refine bE (hl pins s σ H _ I h) λv s1 ⟨x,H1,I1,r1,q1⟩=>?_;obtain⟨a,e,⟨xs,hq⟩,q⟩:=q1;subst e;cases r1;obtain⟨its,rv,p,hz⟩:=I1.list hq;refine wpAny_pyIter_list p.isList ?_;refine⟨s1.heap.objs.size,[s1.heap.objs.size],_,_,H1,rfl,I1.kept (t':=s1.toks) λb o e=>cM _ e,Bp a _,⟨_,gL _ rfl,rfl,rfl⟩,λb hb=>?_,q⟩;have e:b=s1.heap.objs.size:=by simpa using hb
 subst e;exact I1.sP (bC _) (I1.aV.fresh (bC _))
theorem Ma(hl:PE X l tl):PI X tg l (HS X.K tl):=by
 intro pins s σ H R I h;refine bE (hl pins s σ H _ I h) λv s1 ⟨x,H1,I1,r1,q1⟩=>?_;obtain⟨a,e,⟨xs,hq⟩,q⟩:=q1;subst e;cases r1;obtain⟨its,rv,p,hz⟩:=I1.tuple hq;refine wpAny_pyIter_tuple (show s1.heap.IsTuple a its.toArray from p) ?_;refine⟨s1.heap.objs.size,[s1.heap.objs.size],_,_,H1,rfl,I1.kept (t':=s1.toks) λb o e=>cM _ e,xD a _,⟨_,gL _ rfl,rfl,rfl⟩,λb hb=>?_,q⟩;have e:b=s1.heap.objs.size:=by simpa using hb
 subst e;exact I1.sP (bC _) (I1.aV.fresh (bC _))
theorem GG{pins:Lo}{σ:St}{H:Hp}{s:Shared}{R:It->Hp->Prop}{E:Vs}{lo hi:Int}{t u v:Tok}{tk:Nat}(I:Inv X pins σ H s)(h1 : -(2 ^ 62)<=lo)(h2:lo<2 ^ 62)(h3 : -(2 ^ 62)<=hi)(h4:hi<2 ^ 62)
  (q:R (Hy lo (hi - lo).toNat) H):wpAny (model X.prog X.w) X.A (pyIter (.ref s.heap.objs.size)) (Sy X pins σ tg R) E { s with heap:=s.heap.push { cls:=.type "range", data:=.fields #[.int lo t,.int hi u,.int 1 v] },toks:=tk }:=by
 refine wpAny_pyIter_range (IsRange.new ..) (small_one h1 h2 h3 h4) ?_;have I1:Inv X pins σ H { s with heap:=s.heap.push { cls:=.type "range", data:=.fields #[.int lo t,.int hi u,.int 1 v] },toks:=tk }:=I.kept λb o e=>cM _ e;refine⟨(s.heap.push { cls:=.type "range", data:=.fields #[.int lo t,.int hi u,.int 1 v] }).objs.size,[(s.heap.push { cls:=.type "range", data:=.fields #[.int lo t,.int hi u,.int 1 v] }).objs.size],_,_,H,rfl,
  I1.kept (t':=tk) λb o e=>cM _ e,wX _ lo (hi - lo).toNat,?_,λb hb=>?_,q⟩
 ·have e1:lo+((0:Nat):Int)*1=lo:=by simp
  have e2:(((hi - lo).toNat:Nat):Int) - ((0:Nat):Int)=Builtin.Range.rangeSize lo hi 1:=by rw[rangeSize_one];split<;>omega
  show IsRangeIter _ _ (lo+((0:Nat):Int)*1) ((((hi - lo).toNat:Nat):Int) - ((0:Nat):Int)) 1;rw[e1,e2];exact gL _ rfl
 ·have e:b=(s.heap.push { cls:=.type "range", data:=.fields #[.int lo t,.int hi u,.int 1 v] }).objs.size:=by simpa using hb
  subst e;exact I1.sP (bC _) (I1.aV.fresh (bC _))
def F6(ta:TA):TI:=λσ H R=>ta σ H λvs H1=>∃j:Int,vs=[.int j] /\ -(2 ^ 62)<=j/\j<2 ^ 62/\R (Hy 0 j.toNat) H1
def NF(ta:TA):TI:=λσ H R=>ta σ H λvs H1=>∃i j:Int,vs=[.int i,.int j]/\(-(2 ^ 62)<=i/\i<2 ^ 62 /\ -(2 ^ 62)<=j/\j<2 ^ 62)/\R (Hy i (j - i).toNat) H1
theorem nW(hg:Gl X "range")(hm:X.mg "range" = none)(ha:PA X [a] ta)(hs:starEach [a] X.env=[(false,eval a X.env)]:=by rfl):PI X tg (.Call (.Name "range" p) [a] [] pos) (F6 ta):=by
 intro pins s σ H R I h;refine Call_ (iy I hg hm boot_range (PyProof.Rows.callWith_type1 (bE (ha pos pins s σ H _ I h) λus s1 ⟨vs,H1,I1,r1,q1⟩=>?_) hs rfl));obtain⟨j,e,q1,q2,q⟩:=q1;subst e;cases r1 with
 |cons r rr=>
  cases rr;obtain⟨t,rfl⟩:=r;exact call_range_1 (GG I1 (by omega) (by omega) q1 q2 (by simpa using q))
def mJ(wi:TI)(g:TG)(tb:TS):TS:=λD σ H=>wi σ H λJ H1=>∃W:Nat->Nat->St->Hp->Prop,(∃m,W 0 m σ H1)/\∀i m σ H,W i m σ H->
 (J.stop i H/\D.nx σ H)\/(J.go i H/\∃N:St->Hp->Prop,(∀σ' H',N σ' H'->∃m',m'<m/\W (i+1) m' σ' H')/\∀x H',J.B3 i H x H'->g x σ H' λσ2 H2=>tb { D with nx:=N,ct:=N,bk:=D.nx } σ2 H2)
noncomputable def lA(fp:List Addr)(h:Heap):Lo:=fp.filterMap λb=>(h.get? b).map λo=>(b,o)
theorem fQ(hb:b∈fp)(e:h.get? b=some o):(b,o)∈lA fp h:=Ky.mpr ⟨b,hb,by rw[e];rfl⟩
theorem BD(hp:p∈lA fp h):p.1∈fp/\h.get? p.1=some p.2:=by
 obtain⟨b,hb,e⟩:=Ky.mp hp;cases q:h.get? b with
 |none=>rw[q]at e;cases e
 |some o=>
  rw[q]at e;have e':(b,o)=p:=Option.some.inj e;subst e';exact⟨hb,q⟩
theorem Inv.pinned(I:Inv X pins σ H s)(hf:∀b∈fp,e9 X pins H b)(ho:∀b∈fp,∃o,s.heap.get? b=some o/\∀v,o.data≠.cell v):Inv X (pins++lA fp s.heap) σ H s:=
 I.kr λp hp=>(bF.mp hp).elim (λz=>I.pin p (gR _ z)) λz=>by
  obtain⟨hb,e⟩:=BD z;obtain⟨f0,f1,f2,_⟩:=hf p.1 hb;obtain⟨o,e',d⟩:=ho p.1 hb;rw[e]at e';cases e';exact⟨e,f0,f1,f2,d⟩
theorem Inv.iJ(I:Inv X (pins++pl) σ H s):Inv X pins σ H s:=I.kr λp hp=>I.pin p (gR _ (gC _ hp))
theorem LQ(hp:PassesOwn (model X.prog X.w) X.A X.env X.xe)(hc:X.calm=true)(hi:PI X tg iter wi)(hg:PG X tg g)(hb:vc X body tb)
  (hs:∀x,foldedSetIterable iter X.env x=pure x:=by intro _;rfl):PS X (.For tg iter body [] pos) (mJ wi g tb):=by
 intro pins s σ H D I h;refine wpAny_For (bE (hi pins s σ H _ I h) λv s1 h1=>bE h1 λitv s2 h2=>?_) hs;obtain⟨it,fp,tn,J,H2,e,I2,T,st2,f2,W,⟨m0,w0⟩,turn⟩:=h2;subst e;have stat:∀{H':Hp},(∀b∈fp,H' b=none)->∀b∈fp,e9 X pins H' b:=λhn b hb=>⟨hn b hb,(f2 b hb).2⟩;refine codeAny_forLoop_any (λn s'=>∃i σ' H',Inv X pins σ' H' s'/\tn i s'.heap/\(∀b∈fp,H' b=none)/\W i n σ' H') ?_ m0 ⟨0,σ,H2,I2,st2,λb hb=>(f2 b hb).1,w0⟩;rintro n s3 ⟨i,σ3,H3,I3,st3,fr3,w3⟩;rcases turn i n σ3 H3 w3 with ⟨stop,qn⟩|⟨go,N,hN,step⟩
 ·refine Mc hp (bE (T.done X rfl rfl rfl hc i pins s3 σ3 H3 X.xe I3 (stat fr3) st3 stop) λr s4 ⟨hr,I4⟩=>?_);subst hr;exact wpAny_execs_nil ⟨σ3,H3,I4,qn⟩
 ·refine Mc hp (bE (T.item X rfl rfl rfl hc i pins s3 σ3 H3 X.xe I3 (stat fr3) st3 go) λr s4 ⟨u,hr,h4⟩=>?_);subst hr;refine Mc hp (bE h4 λ_ s5 ⟨x,H5,I5,r5,y5,st5,fr5⟩=>?_);have I5':=I5.pinned (stat fr5) (T.obj _ _ st5);refine Mc hp (bE (hg _ s5 σ3 H5 x u _ I5' r5 (step x H5 y5)) λ_ s6 ⟨σ6,H6,I6,q6⟩=>?_);refine Mc hp (bE (hb _ s6 σ6 H6 _ I6 q6) λf s7 q7=>?_);have again:∀{σ7:St}{H7:Hp},Inv X (pins++lA fp s5.heap) σ7 H7 s7->N σ7 H7->∃m,m<n/\∃i σ' H',Inv X pins σ' H' s7/\tn i s7.heap/\(∀b∈fp,H' b=none)/\W i m σ' H':=λ{σ7 H7} I7 n7=>by
   obtain⟨m',hm,w7⟩:=hN σ7 H7 n7;refine⟨m',hm,i+1,σ7,H7,I7.iJ,T.keep _ _ _ st5 λb hb o e=>(I7.pin (b,o) (gR _ (gR _ (fQ hb e)))).1,λb hb=>?_,w7⟩;obtain⟨o,e,d⟩:=T.obj _ _ st5 b hb;exact(I7.pin (b,o) (gR _ (gR _ (fQ hb e)))).2.1
  cases f with
  |next=>obtain⟨σ7,H7,I7,n7⟩:=q7;exact again I7 n7
  |cont=>obtain⟨σ7,H7,I7,n7⟩:=q7;exact again I7 n7
  |brk=>obtain⟨σ7,H7,I7,q7⟩:=q7;exact⟨σ7,H7,I7.iJ,q7⟩
  |ret v=>obtain⟨x7,σ7,H7,I7,r7,q7⟩:=q7;exact⟨x7,σ7,H7,I7.iJ,r7,q7⟩
end
theorem CA{K:Wf}{a:Addr}{xs:List V}{g:TG}{tb:TS}{D:Ends}{σ:St}{H:Hp}(Pv:Nat->St->Hp->Prop)(h0:Pv 0 σ H)(hl:∀i σ H,i<=xs.length->Pv i σ H->aD K H a xs)
  (hs:∀i x σ H,xs[i]?=some x->Pv i σ H->g x σ H λσ2 H2=>tb { D with nx:=Pv (i+1),ct:=Pv (i+1),bk:=D.nx } σ2 H2) (hd:∀σ H,Pv xs.length σ H->D.nx σ H):
  ∃W:Nat->Nat->St->Hp->Prop,(∃m,W 0 m σ H)/\∀i m σ H,W i m σ H->
   ((Dg K a).stop i H/\D.nx σ H)\/((Dg K a).go i H/\∃N:St->Hp->Prop,(∀σ' H',N σ' H'->∃m',m'<m/\W (i+1) m' σ' H')/\∀x H',(Dg K a).B3 i H x H'->g x σ H' λσ2 H2=>tb { D with nx:=N,ct:=N,bk:=D.nx } σ2 H2):=by
 refine⟨λi m σ H=>m=xs.length - i/\i<=xs.length/\Pv i σ H,⟨xs.length,by simp,Nat.zero_le _,h0⟩,?_⟩;rintro i m σ H ⟨rfl,hi,p⟩;have q:=hl i σ H hi p;by_cases hlt:i<xs.length
 ·refine .inr ⟨⟨xs,xs[i],q,by simp[hlt]⟩,Pv (i+1),λσ' H' p'=>⟨xs.length - (i+1),by omega,rfl,hlt,p'⟩,λx H' y=>?_⟩;obtain⟨e,y⟩:=y;subst e;exact hs i x σ _ (y xs q) p
 ·have e:i=xs.length:=by omega
  subst e;exact .inl ⟨⟨xs,q,bC _⟩,hd σ H p⟩
theorem Jn{K:Wf}{a:Addr}{xs:List V}{g:TG}{tb:TS}{D:Ends}{σ:St}{H:Hp}(Pv:Nat->St->Hp->Prop)(h0:Pv 0 σ H)(hl:∀i σ H,i<=xs.length->Pv i σ H->aR K H a xs)
  (hs:∀i x σ H,xs[i]?=some x->Pv i σ H->g x σ H λσ2 H2=>tb { D with nx:=Pv (i+1),ct:=Pv (i+1),bk:=D.nx } σ2 H2) (hd:∀σ H,Pv xs.length σ H->D.nx σ H):
  ∃W:Nat->Nat->St->Hp->Prop,(∃m,W 0 m σ H)/\∀i m σ H,W i m σ H->
   ((L6 K a).stop i H/\D.nx σ H)\/((L6 K a).go i H/\∃N:St->Hp->Prop,(∀σ' H',N σ' H'->∃m',m'<m/\W (i+1) m' σ' H')/\∀x H',(L6 K a).B3 i H x H'->g x σ H' λσ2 H2=>tb { D with nx:=N,ct:=N,bk:=D.nx } σ2 H2):=by
 refine⟨λi m σ H=>m=xs.length - i/\i<=xs.length/\Pv i σ H,⟨xs.length,by simp,Nat.zero_le _,h0⟩,?_⟩;rintro i m σ H ⟨rfl,hi,p⟩;have q:=hl i σ H hi p;by_cases hlt:i<xs.length
 ·refine .inr ⟨⟨xs,xs[i],q,by simp[hlt]⟩,Pv (i+1),λσ' H' p'=>⟨xs.length - (i+1),by omega,rfl,hlt,p'⟩,λx H' y=>?_⟩;obtain⟨e,y⟩:=y;subst e;exact hs i x σ _ (y xs q) p
 ·have e:i=xs.length:=by omega
  subst e;exact .inl ⟨⟨xs,q,bC _⟩,hd σ H p⟩
theorem Bt{lo:Int}{n:Nat}{g:TG}{tb:TS}{D:Ends}{σ:St}{H:Hp}(Pv:Nat->St->Hp->Prop)(h0:Pv 0 σ H)
  (hs:∀i σ H,i<n->Pv i σ H->g (.int (lo+i)) σ H λσ2 H2=>tb { D with nx:=Pv (i+1),ct:=Pv (i+1),bk:=D.nx } σ2 H2) (hd:∀σ H,Pv n σ H->D.nx σ H):
  ∃W:Nat->Nat->St->Hp->Prop,(∃m,W 0 m σ H)/\∀i m σ H,W i m σ H->
   ((Hy lo n).stop i H/\D.nx σ H)\/((Hy lo n).go i H/\∃N:St->Hp->Prop,(∀σ' H',N σ' H'->∃m',m'<m/\W (i+1) m' σ' H')/\∀x H',(Hy lo n).B3 i H x H'->g x σ H' λσ2 H2=>tb { D with nx:=N,ct:=N,bk:=D.nx } σ2 H2):=by
 refine⟨λi m σ H=>m=n - i/\i<=n/\Pv i σ H,⟨n,by simp,Nat.zero_le _,h0⟩,?_⟩;rintro i m σ H ⟨rfl,hi,p⟩;by_cases hlt:i<n
 ·refine .inr ⟨hlt,Pv (i+1),λσ' H' p'=>⟨n - (i+1),by omega,rfl,hlt,p'⟩,λx H' y=>?_⟩;obtain⟨e,y⟩:=y;subst e y;exact hs i σ _ hlt p
 ·have e:i=n:=by omega
  subst e;exact .inl ⟨bC _,hd σ H p⟩
noncomputable abbrev R2:=V->V->Hp->VK->Prop
def g8(X:Cx)(f:Value->Value->Sem Value)(r:R2):Prop:=
 ∀(pins:Lo) (s:Shared) (σ:St) (H:Hp) (x y:V) (v u:Value) (Q:VK),Inv X pins σ H s->RelV x v->RelV y u->r x y H Q->
  wpAny (model X.prog X.w) X.A (f v u) (EP X pins σ Q) X.xe s
def R9(X:Cx)(f:Value->Sem Value)(r:V->Hp->VK->Prop):Prop:=
 ∀(pins:Lo) (s:Shared) (σ:St) (H:Hp) (x:V) (v:Value) (Q:VK),Inv X pins σ H s->RelV x v->r x H Q->
  wpAny (model X.prog X.w) X.A (f v) (EP X pins σ Q) X.xe s
def cX(X:Cx)(f:Value)(r:List V->Hp->VK->Prop):Prop:=
 ∀(pins:Lo) (s:Shared) (σ:St) (H:Hp) (xs:List V) (us:List Value) (Q:VK),Inv X pins σ H s->Vals xs us->r xs H Q->
  wpAny (model X.prog X.w) X.A (call f us) (EP X pins σ Q) X.xe s
def RK(X:Cx)(r:V->Hp->(Bool->Hp->Prop)->Prop):Prop:=
 ∀(pins:Lo) (s:Shared) (σ:St) (H:Hp) (x:V) (v:Value) (Q:Bool->Hp->Prop),Inv X pins σ H s->RelV x v->r x H Q->
  wpAny (model X.prog X.w) X.A (truthy v) (TP X pins σ Q) X.xe s
def yt(r:R2)(ta tb:TE):TE:=λσ H Q=>ta σ H λx H1=>tb σ H1 λy H2=>r x y H2 Q
def TQ(r:V->Hp->VK->Prop)(ta:TE):TE:=λσ H Q=>ta σ H λx H1=>r x H1 Q
def rI(C:Int->Int->Prop)(g:Int->Int->V):R2:=λx y H Q=>∃i j,x=.int i/\y=.int j/\C i j/\Q (g i j) H
def M7(g:Int->Int->V):R2:=λx y H Q=>∃i j,x=.int i/\y=.int j/\Q (g i j) H
noncomputable def rU(g:Int->V):V->Hp->VK->Prop:=λx H Q=>∃i,x=.int i/\Q (g i) H
section
variable{X:Cx}{a b c:Expr}{ta tb tc:TE}{pos:Pos}
theorem LF(ha:PE X a ta)(hb:PE X b tb){pins:Lo}{s:Shared}{σ:St}{H:Hp}{R:V->V->Hp->Prop}(I:Inv X pins σ H s)
  (h:ta σ H λx H1=>tb σ H1 λy H2=>R x y H2) {Q:Vs}{f:Value->Value->Sem Value}
  (hf:∀v u s2 x y H2,Inv X pins σ H2 s2->RelV x v->RelV y u->R x y H2->wpAny (model X.prog X.w) X.A (f v u) Q X.xe s2):
  wpAny (model X.prog X.w) X.A (eval a X.env) (λv s₁=>wpAny (model X.prog X.w) X.A (eval b X.env) (λu s₂=>wpAny (model X.prog X.w) X.A (f v u) Q X.xe s₂) X.xe s₁) X.xe s:=by
 refine bE (ha pins s σ H _ I h) λv s1 ⟨x,H1,I1,r1,q1⟩=>?_;refine bE (hb pins s1 σ H1 _ I1 q1) λu s2 ⟨y,H2,I2,r2,q2⟩=>?_;exact hf v u s2 x y H2 I2 r1 r2 q2
theorem aF(ho:g8 X (binaryOp op) r)(ha:PE X a ta)(hb:PE X b tb):PE X (.BinOp a op b pos) (yt r ta tb):=by
 intro pins s σ H Q I h;exact wpAny_BinOp (LF ha hb I h λv u s2 x y H2 I2 rx ry q=>ho pins s2 σ H2 x y v u Q I2 rx ry q)
theorem l7(ho:R9 X (unaryOp op) r)(ha:PE X a ta):PE X (.UnaryOp op a pos) (TQ r ta):=by
 intro pins s σ H Q I h;exact UnaryOp_ (bE (ha pins s σ H _ I h) λv s1 ⟨x,H1,I1,r1,q1⟩=>ho pins s1 σ H1 x v Q I1 r1 q1)
theorem Ss{f:Value->Value->Sem Value}{C:Int->Int->Prop}{g:Int->Int->Int}
  (rule:∀(i j:Int) (t u:Tok) (s:Shared) (Q:Vs) (E:Vs),C i j->Q (.int (g i j) s.toks) { s with toks:=s.toks+1 }->wpAny (model X.prog X.w) X.A (f (.int i t) (.int j u)) Q E s):
  g8 X f (rI C λi j=>.int (g i j)):=by
 intro pins s σ H x y v u Q I rx ry h;obtain⟨i,j,rfl,rfl,hc,q⟩:=h;obtain⟨t,rfl⟩:=rx;obtain⟨t',rfl⟩:=ry;exact rule i j t t' s _ _ hc ⟨.int (g i j),H,I.tok _,⟨_,rfl⟩,q⟩
theorem Pb{f:Value->Value->Sem Value}{g:Int->Int->Int}
  (rule:∀(i j:Int) (t u:Tok) (s:Shared) (Q:Vs) (E:Vs),Q (.int (g i j) s.toks) { s with toks:=s.toks+1 }->wpAny (model X.prog X.w) X.A (f (.int i t) (.int j u)) Q E s):
  g8 X f (M7 λi j=>.int (g i j)):=by
 intro pins s σ H x y v u Q I rx ry h;obtain⟨i,j,rfl,rfl,q⟩:=h;obtain⟨t,rfl⟩:=rx;obtain⟨t',rfl⟩:=ry;exact rule i j t t' s _ _ ⟨.int (g i j),H,I.tok _,⟨_,rfl⟩,q⟩
theorem O8{f:Value->Value->Sem Value}{g:Int->Int->Bool}
  (rule:∀(i j:Int) (t u:Tok) (s:Shared) (Q:Vs) (E:Vs),Q (.bool (g i j)) s->wpAny (model X.prog X.w) X.A (f (.int i t) (.int j u)) Q E s):
  g8 X f (M7 λi j=>.bl (g i j)):=by
 intro pins s σ H x y v u Q I rx ry h;obtain⟨i,j,rfl,rfl,q⟩:=h;obtain⟨t,rfl⟩:=rx;obtain⟨t',rfl⟩:=ry;exact rule i j t t' s _ _ ⟨.bl (g i j),H,I,rfl,q⟩
def NS(i j:Int):Prop:=0<j/\j<1073741824
def LG(i j:Int):Prop:=(-(2 ^ 64)<i/\i<2 ^ 64)\/(-(2 ^ 64)<j/\j<2 ^ 64)
theorem LG.ok(h:LG i j):IntMulOk i j:=by
 rcases h with ⟨h1,h2⟩|⟨h1,h2⟩
 ·exact .of_left (intBits_le_64 h1 h2)
 ·exact .of_right (intBits_le_64 h1 h2)
theorem dw:g8 X (binaryOp .Add) (M7 λi j=>.int (i+j)):=Pb λ_ _ _ _ _ _ _ q=>add_int q
theorem jv:g8 X (binaryOp .Sub) (M7 λi j=>.int (i - j)):=Pb λ_ _ _ _ _ _ _ q=>sub_int q
theorem iD:g8 X (binaryOp .Mult) (rI LG λi j=>.int (i*j)):=Ss λ_ _ _ _ _ _ _ hc q=>mul_int q hc.ok
theorem b_:g8 X (binaryOp .FloorDiv) (rI NS λi j=>.int (i/j)):=Ss λi j _ _ _ _ _ hc q=>by
 have h1:(0:Int)<j:=hc.1;have h2:j<1073741824:=hc.2;exact floordiv_int (by omega) (by rw[Int.fdiv_eq_ediv_of_nonneg i (by omega)];exact q) (.inl (PyProof.noPylong_small (by omega)))
theorem bB:g8 X (binaryOp .Mod) (rI (λ_ j=>0<j) λi j=>.int (i%j)):=Ss λi j _ _ _ _ _ hc q=>by
 have h1:(0:Int)<j:=hc;exact mod_int' (by omega) (by rw[Int.fmod_eq_emod_of_nonneg i (by omega)];exact q)
theorem Th{f:Value->Sem Value}{g:Int->Int}
  (rule:∀(i:Int) (t:Tok) (s:Shared) (Q:Vs) (E:Vs),Q (.int (g i) s.toks) { s with toks:=s.toks+1 }->wpAny (model X.prog X.w) X.A (f (.int i t)) Q E s):
  R9 X f (rU λi=>.int (g i)):=by
 intro pins s σ H x v Q I rx h;obtain⟨i,rfl,q⟩:=h;obtain⟨t,rfl⟩:=rx;exact rule i t s _ _ ⟨.int (g i),H,I.tok _,⟨_,rfl⟩,q⟩
theorem iB:R9 X (unaryOp .USub) (rU λi=>.int (-i)):=Th λ_ _ _ _ _ q=>neg_int q
end
noncomputable def hZ:V->V->Bool
 |.bj,.bj=>true|.bj,.int _=>true|.int _,.bj=>true|.bj,.bl _=>true|.bl _,.bj=>true|.bj,.str _=>true|.str _,.bj=>true
 |.int _,.int _=>true|.bl _,.bl _=>true|.str _,.str _=>true|.v8 _,.v8 _=>true
 |.int _,.str _=>true|.str _,.int _=>true|.bl _,.str _=>true|.str _,.bl _=>true
 |_,_=>false
theorem Uz:hZ .bj .bj=true:=rfl
theorem Uy:hZ .bj (.int i)=true:=rfl
theorem Uw:hZ (.int i) .bj=true:=rfl
theorem UC:hZ .bj (.bl i)=true:=rfl
theorem UD:hZ (.bl i) .bj=true:=rfl
theorem Uv:hZ .bj (.str i)=true:=rfl
theorem Uu:hZ (.str i) .bj=true:=rfl
theorem UB:hZ (.int i) (.int j)=true:=rfl
theorem UE:hZ (.bl i) (.bl j)=true:=rfl
theorem UH:hZ (.str i) (.str j)=true:=rfl
theorem Ti:hZ (.int i) (.str j)=true:=rfl
theorem Ue:hZ (.str i) (.int j)=true:=rfl
theorem TZ:hZ (.bl i) (.str j)=true:=rfl
theorem Ug:hZ (.str i) (.bl j)=true:=rfl
def Sw:R2:=λx y H Q=>hZ x y=true/\Q (.bl (decide (x=y))) H
def TY:R2:=λx y H Q=>hZ x y=true/\Q (.bl (!decide (x=y))) H
theorem zb:decide (V.int i=V.int j)=(i == j):=by
 rw[J9];simp
theorem Ft:decide (V.bl i=V.bl j)=(i == j):=by
 rw[J9];simp
theorem y_:decide (V.str i=V.str j)=(i == j):=by
 rw[J9];simp
theorem zU:decide (V.v8 i=V.v8 j)=(i.toList == j.toList):=by
 rw[J9];cases i;cases j;simp
section
variable{X:Cx}{a b c:Expr}{ta tb tc:TE}{pos:Pos}
theorem a_(I:Inv X pins σ H s)(q:Q (.bl k) H)(e:k=k'):EP X pins σ Q (.bool k') s:=by
 subst e;exact⟨.bl k,H,I,rfl,q⟩
theorem dZ:g8 X (compareOp .Eq) Sw:=by
 intro pins s σ H x y v u Q I rx ry h;obtain⟨hs,q⟩:=h;cases x with
 |bj=>
  cases rx;cases y with
  |bj=>cases ry;exact PySem.EqNone.eq_none_none (a_ I q (by simp))
  |bl j=>cases ry;exact PySem.EqNone.eq_none_bool (a_ I q (by simp))
  |int j=>obtain⟨t',rfl⟩:=ry;exact PySem.EqNone.eq_none_int (a_ I q (by simp))
  |str j=>obtain⟨t',rfl⟩:=ry;exact PySem.EqNone.eq_none_str (a_ I q (by simp))
  |_=>exact absurd (show false=true from hs) my
 |bl i=>
  cases rx;cases y with
  |bj=>cases ry;exact PySem.EqNone.eq_bool_none (a_ I q (by simp))
  |bl j=>cases ry;exact eq_bool (a_ I q Ft)
  |str j=>obtain⟨t',rfl⟩:=ry;exact PySem.EqMixed.eq_bool_str (a_ I q (by simp))
  |_=>exact absurd (show false=true from hs) my
 |int i=>
  obtain⟨t,rfl⟩:=rx;cases y with
  |bj=>cases ry;exact PySem.EqNone.eq_int_none (a_ I q (by simp))
  |int j=>obtain⟨t',rfl⟩:=ry;exact eq_int (a_ I q zb)
  |str j=>obtain⟨t',rfl⟩:=ry;exact PySem.EqMixed.eq_int_str (a_ I q (by simp))
  |_=>exact absurd (show false=true from hs) my
 |str i=>
  obtain⟨t,rfl⟩:=rx;cases y with
  |bj=>cases ry;exact PySem.EqNone.eq_str_none (a_ I q (by simp))
  |bl j=>cases ry;exact PySem.EqMixed.eq_str_bool (a_ I q (by simp))
  |int j=>obtain⟨t',rfl⟩:=ry;exact PySem.EqMixed.eq_str_int (a_ I q (by simp))
  |str j=>obtain⟨t',rfl⟩:=ry;exact eq_str (a_ I q y_)
  |_=>exact absurd (show false=true from hs) my
 |v8 i=>
  obtain⟨t,rfl⟩:=rx;cases y with
  |v8 j=>obtain⟨t',rfl⟩:=ry;exact PySem.W.eq_bytes (a_ I q zU)
  |_=>exact absurd (show false=true from hs) my
 |_=>cases y<;>exact absurd (show false=true from hs) my
theorem yd:g8 X (compareOp .NotEq) TY:=by
 intro pins s σ H x y v u Q I rx ry h;obtain⟨hs,q⟩:=h;cases x with
 |bj=>
  cases rx;cases y with
  |bj=>cases ry;exact PySem.EqNone.ne_none_none (a_ I q (by simp))
  |bl j=>cases ry;exact PySem.EqNone.ne_none_bool (a_ I q (by simp))
  |int j=>obtain⟨t',rfl⟩:=ry;exact PySem.EqNone.ne_none_int (a_ I q (by simp))
  |str j=>obtain⟨t',rfl⟩:=ry;exact PySem.EqNone.ne_none_str (a_ I q (by simp))
  |_=>exact absurd (show false=true from hs) my
 |bl i=>
  cases rx;cases y with
  |bj=>cases ry;exact PySem.EqNone.ne_bool_none (a_ I q (by simp))
  |bl j=>cases ry;exact ne_bool (a_ I q (congrArg not Ft))
  |str j=>obtain⟨t',rfl⟩:=ry;exact PySem.EqMixed.ne_bool_str (a_ I q (by simp))
  |_=>exact absurd (show false=true from hs) my
 |int i=>
  obtain⟨t,rfl⟩:=rx;cases y with
  |bj=>cases ry;exact PySem.EqNone.ne_int_none (a_ I q (by simp))
  |int j=>obtain⟨t',rfl⟩:=ry;exact ne_int (a_ I q (congrArg not zb))
  |str j=>obtain⟨t',rfl⟩:=ry;exact PySem.EqMixed.ne_int_str (a_ I q (by simp))
  |_=>exact absurd (show false=true from hs) my
 |str i=>
  obtain⟨t,rfl⟩:=rx;cases y with
  |bj=>cases ry;exact PySem.EqNone.ne_str_none (a_ I q (by simp))
  |bl j=>cases ry;exact PySem.EqMixed.ne_str_bool (a_ I q (by simp))
  |int j=>obtain⟨t',rfl⟩:=ry;exact PySem.EqMixed.ne_str_int (a_ I q (by simp))
  |str j=>obtain⟨t',rfl⟩:=ry;exact ne_str (a_ I q (congrArg not y_))
  |_=>exact absurd (show false=true from hs) my
 |v8 i=>
  obtain⟨t,rfl⟩:=rx;cases y with
  |v8 j=>obtain⟨t',rfl⟩:=ry;exact PySem.W.ne_bytes (a_ I q (congrArg not zU))
  |_=>exact absurd (show false=true from hs) my
 |_=>cases y<;>exact absurd (show false=true from hs) my
theorem jS:g8 X (compareOp .Lt) (M7 λi j=>.bl (decide (i<j))):=O8 λ_ _ _ _ _ _ _ q=>lt_int q
theorem Pg:g8 X (compareOp .Gt) (M7 λi j=>.bl (decide (j<i))):=O8 λ_ _ _ _ _ _ _ q=>gt_int q
theorem Mp:g8 X (compareOp .Is) (λx y H Q=>y=.bj/\Q (.bl (decide (x=.bj))) H):=by
 intro pins s σ H x y v u Q I rx ry h;obtain⟨rfl,q⟩:=h;cases ry;refine is_none_gen (a_ I q ?_);cases x<;>first
  | (cases rx;rfl)
  | (obtain⟨t,rfl⟩:=rx;rfl)
theorem pV:g8 X (compareOp .IsNot) (λx y H Q=>y=.bj/\Q (.bl (!decide (x=.bj))) H):=by
 intro pins s σ H x y v u Q I rx ry h;obtain⟨rfl,q⟩:=h;cases ry;refine isnot_none_gen (a_ I q ?_);cases x<;>first
  | (cases rx;rfl)
  | (obtain⟨t,rfl⟩:=rx;rfl)
theorem aS(b:Expr){op:CmpOp}(h:op≠.In:=by decide)(h2:op≠.NotIn:=by decide):behindInMarks op b=false:=by
 have e1:(op == CmpOp.In)=false:=by cases op<;>first|rfl|exact absurd rfl h
 have e2:(op == CmpOp.NotIn)=false:=by cases op<;>first|rfl|exact absurd rfl h2
 cases b<;>simp[behindInMarks,e1,e2]
theorem jg(ho:g8 X (compareOp op) r)(ha:PE X a ta)(hb:PE X b tb)(hm:behindInMarks op b=false):PE X (.Compare a [op] [b] pos) (yt r ta tb):=by
 intro pins s σ H Q I h;exact wpAny_Compare1 (LF ha hb I h λv u s2 x y H2 I2 rx ry q=>ho pins s2 σ H2 x y v u Q I2 rx ry q) hm
def Jt(t:TE):TT:=λσ H Q=>t σ H λx H'=>∃k,x=.bl k/\Q k H'
theorem fF(ho:g8 X (compareOp op) r)(ha:PE X a ta)(hb:PE X b tb)(hm:behindInMarks op b=false):PT X (.Compare a [op] [b] pos) (Jt (yt r ta tb)):=by
 intro pins s σ H Q I h;refine wpAny_isTrue_Compare1 (bE (ha pins s σ H _ I h) λv s1 ⟨x,H1,I1,r1,q1⟩=>bE (hb pins s1 σ H1 _ I1 q1) λu s2 ⟨y,H2,I2,r2,q2⟩=>
  bE (ho pins s2 σ H2 x y v u _ I2 r1 r2 q2) λc s3 ⟨z,H3,I3,r3,k,e,q3⟩=>?_) hm
 subst e;cases r3;exact Lb ⟨H3,I3,q3⟩
def QT(r r':R2)(ta tb tc:TE):TE:=λσ H Q=>ta σ H λx H1=>tb σ H1 λy H2=>r x y H2 λz H3=>∃k,z=.bl k/\
 (if k=true then tc σ H3 λw' H4=>r' y w' H4 Q else Q (.bl false) H3)
def Pn(K:Wf)(x:V)(H:Hp)(k:Bool):Prop:=
 match x with
 |.bj=>k=false
 |.bl b=>k=b
 |.int i=>k=(i != 0)
 |.str y=>y.length<=sizeLine/\k=((y.length:Int) != 0)
 |.v8 y=>y.size<=sizeLine/\k=((y.size:Int) != 0)
 |.ref p=>(∃xs,aD K H p xs/\k = !xs.isEmpty)\/(∃xs,aR K H p xs/\k = !xs.isEmpty)\/∃af,H p=some (.dK af)/\k = !af.isEmpty
 |_=>False
theorem xR{κ:Type}{af:List (κ×V)}{vs:List (κ×Value)}(r:KV af vs):(!vs.isEmpty) = !af.isEmpty:=by
 cases r<;>rfl
theorem lG(r:Vals xs its):(!its.toArray.isEmpty) = !xs.isEmpty:=by
 cases r<;>simp
theorem jI:(sizeLine:Nat)<2 ^ 63:=by rw[sizeLine_eq];decide
theorem Ls:RK X (λx H Q=>∃k,Pn X.K x H k/\Q k H):=by
 intro pins s σ H x v Q I rx h;obtain⟨k,e,q⟩:=h;have hl:=jI;have hs:sizeLine=16777216:=sizeLine_eq;cases x with
 |bj=>
  cases rx;have e':k=false:=e;subst e';exact truthy_none ⟨H,I,q⟩
 |bl b=>
  cases rx;have e':k=b:=e;subst e';exact Lb ⟨H,I,q⟩
 |int i=>
  obtain⟨t,rfl⟩:=rx;have e':k=(i != 0):=e;subst e';exact PySem.P.truthy_int ⟨H,I,q⟩
 |str y=>
  obtain⟨t,rfl⟩:=rx;obtain⟨hy,e'⟩:y.length<=sizeLine/\k=((y.length:Int) != 0):=e;subst e';exact PySem.P.truthy_str (by omega) ⟨H,I.tok _,q⟩
 |v8 y=>
  obtain⟨t,rfl⟩:=rx;obtain⟨hy,e'⟩:y.size<=sizeLine/\k=((y.size:Int) != 0):=e;subst e';exact PySem.W.truthy_bytes (by omega) ⟨H,I.tok _,q⟩
 |ref p=>
  cases rx;have e':(∃xs,aD X.K H p xs/\k = !xs.isEmpty)\/(∃xs,aR X.K H p xs/\k = !xs.isEmpty)\/∃af,H p=some (.dK af)/\k = !af.isEmpty:=e;rcases e' with ⟨xs,hx,e'⟩|⟨xs,hx,e'⟩|⟨af,hx,e'⟩
  ·subst e';obtain⟨its,r,pl,hz⟩:=I.list hx;have hlen:=r.length;exact wpAny_truthy_list pl.isList (by simp only[List.size_toArray];omega) ⟨H,I.tok _,by rw[lG r];exact q⟩
  ·subst e';obtain⟨its,r,pl,hz⟩:=I.tuple hx;have hlen:=r.length;exact truthy_tuple pl (by simp only[List.size_toArray];omega) ⟨H,I.tok _,by rw[lG r];exact q⟩
  ·subst e';obtain⟨hz,hS,vs,r,m⟩:af.length<=sizeLine/\(p == sysModules)=false/\∃vs,KV af vs/\s.heap.DictOf (aW X.prog X.w) p vs:=I.aV p _ hx;have hlen:af.length=vs.length:=Paired.length r;exact wpAny_truthy_dict hS m (by omega) ⟨H,I.tok _,by rw[xR r];exact q⟩
 |_=>exact(show False from e).elim
theorem md(ha:PE X a ta)(he:∀whole,isTrue a X.env whole=(do let v <-whole;standAt a.pos;holding [v] (truthy v))):
  PT X a (λσ H Q=>ta σ H λx H'=>∃k,Pn X.K x H' k/\Q k H'):=by
 intro pins s σ H Q I h;exact isTrue_plain (bE (ha pins s σ H _ I h) λv s1 ⟨x,H1,I1,r1,q1⟩=>Ls pins s1 σ H1 x v Q I1 r1 q1) (he _)
theorem wC:g8 X (binaryOp .Add) (λx y H Q=>∃i j,x=.str i/\y=.str j/\i.length+j.length<=sizeLine/\Q (.str (i++j)) H):=by
 intro pins s σ H x y v u Q I rx ry h;obtain⟨i,j,rfl,rfl,hz,q⟩:=h;obtain⟨t,rfl⟩:=rx;obtain⟨t',rfl⟩:=ry;exact add_str (λt' tk=>⟨.str (i++j),H,I.tok _,⟨_,rfl⟩,q⟩) hz
theorem vals1(r:Vals [x] us):∃u,us=[u]/\RelV x u:=by
 cases r with
 |cons r1 r2=>cases r2;exact⟨_,rfl,r1⟩
theorem vals2(r:Vals [x,y] us):∃u w',us=[u,w']/\RelV x u/\RelV y w':=by
 cases r with
 |cons r1 r2=>
  cases r2 with
  |cons r3 r4=>cases r4;exact⟨_,_,rfl,r1,r3⟩
theorem GL:cX X (.builtin "abs") (λxs H Q=>∃i,xs=[.int i]/\Q (.int (if i<0 then -i else i)) H):=by
 intro pins s σ H xs us Q I r h;obtain⟨i,rfl,q⟩:=h;obtain⟨u,rfl,t,rfl⟩:=vals1 r;exact call_abs_int λu tk=>⟨.int (if i<0 then -i else i),H,I.tok _,⟨_,rfl⟩,q⟩
theorem n9:cX X (.type "int") (λxs H Q=>(∃i,xs=[.int i]/\Q (.int i) H)\/∃k,xs=[.bl k]/\Q (.int (if k then 1 else 0)) H):=by
 intro pins s σ H xs us Q I r h;rcases h with ⟨i,rfl,q⟩|⟨k,rfl,q⟩
 ·obtain⟨u,rfl,t,rfl⟩:=vals1 r;exact call_int_int ⟨.int i,H,I,⟨_,rfl⟩,q⟩
 ·obtain⟨u,rfl,r1⟩:=vals1 r;cases r1;exact call_int_bool ⟨.int (if k then 1 else 0),H,I.tok _,⟨_,rfl⟩,q⟩
def Ow(K:Wf)(x:V)(H:Hp)(n:Nat):Prop:=
 match x with
 |.str y=>y.length<=sizeLine/\n=y.length
 |.v8 y=>y.size<=sizeLine/\n=y.size
 |.ref p=>(∃xs,aD K H p xs/\n=xs.length)\/∃xs,aR K H p xs/\n=xs.length
 |_=>False
theorem Fz:cX X (.builtin "len") (λxs H Q=>∃x n,xs=[x]/\Ow X.K x H n/\Q (.int n) H):=by
 intro pins s σ H xs us Q I r h;obtain⟨x,n,rfl,e,q⟩:=h;obtain⟨u,rfl,rx⟩:=vals1 r;have hl:=jI;have hs:sizeLine=16777216:=sizeLine_eq;cases x with
 |str y=>
  obtain⟨t,rfl⟩:=rx;obtain⟨hy,e'⟩:y.length<=sizeLine/\n=y.length:=e;subst e';exact len_str (by omega) ⟨.int _,H,I.tok _,⟨_,rfl⟩,q⟩
 |v8 y=>
  obtain⟨t,rfl⟩:=rx;obtain⟨hy,e'⟩:y.size<=sizeLine/\n=y.size:=e;subst e';exact PySem.W.len_bytes (by omega) ⟨.int _,H,I.tok _,⟨_,rfl⟩,q⟩
 |ref p=>
  cases rx;have e':(∃xs,aD X.K H p xs/\n=xs.length)\/∃xs,aR X.K H p xs/\n=xs.length:=e;rcases e' with ⟨xs,hx,e'⟩|⟨xs,hx,e'⟩
  ·subst e';obtain⟨its,r',pl,hz⟩:=I.list hx;have hlen:=r'.length;exact Calls.call_len_list pl.isList (by simp only[List.size_toArray];omega) ⟨.int xs.length,H,I.tok _,⟨_,by simp only[List.size_toArray];rw[hlen]⟩,q⟩
  ·subst e';obtain⟨its,r',pl,hz⟩:=I.tuple hx;have hlen:=r'.length;exact len_tuple pl (by simp only[List.size_toArray];omega) ⟨.int xs.length,H,I.tok _,⟨_,by simp only[List.size_toArray];rw[hlen]⟩,q⟩
 |_=>exact(show False from e).elim
end
structure xv(h:Heap)(x dx C:Addr)(mA:So):Prop where
 obj:h.get? x=some (instObj C dx)
 ns:h.Ns1 dx mA
 ne:dx≠x
theorem A2{h:Heap}{dx:Addr}{mA:So}(n:h.Ns1 dx mA):∃od,h.get? dx=some od/\∀name,lookIn name od=some (mA name):=by
 obtain⟨o,es,ep,ho,hd,hk,_,hm⟩:=n;refine⟨o,ho,λname=>?_⟩;have e:=hm name;unfold nsFind findBy at e;rw[<-Array.find?_toList]at e;unfold lookIn;rw[hd];dsimp only;split
 ·rename_i y q;rw[q]at e;exact congrArg some e
 ·rename_i q;rw[q]at e;have a:es.toList.any (·.refKey)=false:=by
   rw[List.any_eq_false];intro y hy;obtain⟨z,t,hkey⟩:=hk y (Array.mem_toList_iff.mp hy);simp[DictEntry.refKey,hkey]
  have a':¬es.toList.any (·.refKey)=true:=by rw[a];exact my
  rw[if_neg a'];exact congrArg some e
theorem xv.look(I:xv h x dx C mA):∃od,PySem.W.InstAt h x (instObj C dx) C (some od)/\∀name,lookIn name od=some (mA name):=
 let ⟨od,ho,hl⟩:=A2 I.ns
 ⟨od,⟨I.obj,rfl,rfl,ho⟩,hl⟩
section
variable{prog:Program}{w:World}{A:Around}{E:Vs}{s:Shared}{K:Wf}{x dx C f:Addr}{mA:So}{name:Str}{v:Value}
theorem get_map(X:K.In s.heap)(I:xv s.heap x dx C mA)(hg:plainGet K C name=true)(hh:hasDictIn K C=true)
  (ha:findIn K (.ref C) name=some none) (hv:mA name=some v) (hv':handedIn v=true) (h:Q v { s with toks:=s.toks+1 }):
  wpAny (model prog w) A (getAttr (.ref x) name expr) Q E s:=by
 obtain⟨od,J,hl⟩:=I.look;exact PySem.W.get_value X J (plainGet_of hg).1 (PySem.W.findObj_own hh ha rfl (by rw[hl,hv])) hv' h
theorem FE(X:K.In s.heap)(I:xv s.heap x dx C mA)(hg:plainGet K C name=true)
  (hf:findIn K (.ref C) name=some (some (.ref f))) (ht:isFn K (.ref f)=true) (hv:mA name=none) (h:Q (.ref f,[.ref x]) s):
  wpAny (model prog w) A (getMethod (.ref x) name pl) Q E s:=by
 obtain⟨od,J,hl⟩:=I.look;exact PySem.W.method_fn X J (plainGet_of hg).1 (plainGet_of hg).2 hf (beq_iff_eq.mp ht) (by show(lookIn name od).map (·.isSome)=some false;rw[hl,hv];rfl) h
theorem Ia(X:K.In s.heap)(I:xv s.heap x dx C mA)
  (hs:findIn K (.ref C) "__setattr__" = some (some (.builtin "object.__setattr__"))) (hp:plainOver K C=true) (ht:takerIn K C name=some none) (hh:hasDictIn K C=true)
  (hw:PySem.Within mA ns) (hsz:ns.length<=sizeLine)
  (h:∀h',xv h' x dx C (λy=>if y=name then some v else mA y)->Heap.SameBut dx s.heap h'->Q () { s with heap:=h',toks:=s.toks+2 }):
  wpAny (model prog w) A (setAttr (.ref x) name v) Q E s:=by
 obtain⟨od,J,hl⟩:=I.look;refine PySem.W.set_plain X J hs (PySem.W.osa_open (s:={ s with toks:=s.toks+1 }) (r:=none) X J hp ht λb=>?_);obtain⟨cd,hc,hd'⟩:=PySem.W.any_some hh;have hx:s.heap.get? x=some ⟨.ref C,some dx,.plain,#[]⟩:=I.obj;refine au (aP (au (au (wpAny_loadPart hx (au (PySem.W.Looks.here (s:={ s with toks:=s.toks+1 }) (PySem.W.looks_clsIn X hc) ?_))))));rw[hd'];refine aP (a:=some dx) (au (aP (au ?_)));refine wpAny_nsSet1 (s:={ s with toks:=s.toks+1 }) I.ns λh' hn2 hs2=>?_;obtain⟨oD,esD,epD,hoD,hdD,hcD⟩:=hn2.count (PySem.Within.cons name v hw);refine au (wpAny_lookBehind hoD (by rw[hdD];exact pastItsLine_dict (f9 hcD (by rw[je];omega))) ?_);exact aP (h _ ⟨(hs2.2 _ (Ne.symm I.ne)).trans I.obj,hn2,I.ne⟩ hs2)
theorem FV(X:K.In s.heap)(hm:makesIn K C=true)
  (hi:findIn K (.ref C) "__init__" = some (some (.ref f))) (hf:PySem.W.typeIn K (.ref f)=some (.type "function"))
  (h:codeAny (model prog w) (A.under (.builtin "type.__call__" ⟨.ref C::vs,kw⟩)) (.call (.ref f) ⟨.ref (s.heap.objs.size+1)::vs,kw⟩) (PySem.W.InitBack (s.heap.objs.size+1) R)
   { s with heap:=(s.heap.push emptyDict).push (instObj C s.heap.objs.size) }):
  codeAny (model prog w) A (.call (.ref C) ⟨vs,kw⟩) R s:=by
 obtain⟨hh,g,d,t,os⟩:=s;exact PySem.W.make_core (PySem.W.makes_of X hm) (PySem.W.looks_findIn X hi) (λself=>PySem.W.bind_fn X self hf) (.inl rfl) h
end
noncomputable def putF(f:Str)(v:V):List (Str×V)->List (Str×V)
 |[]=>[(f,v)]
 | (g,x)::r=>if g=f then (g,v)::r else (g,x)::putF f v r
theorem jX(f g:Str)(v:V):∀fs:List (Str×V),(putF f v fs).lookup g=if g=f then some v else fs.lookup g
 |[]=>by
  show List.lookup g [(f,v)]=_;by_cases h:g=f
  ·have hb:(g == f)=true:=beq_iff_eq.mpr h;simp only[List.lookup,hb,if_pos h]
  ·have hb:(g == f)=false:=beq_eq_false_iff_ne.mpr h;simp only[List.lookup,hb,if_neg h]
 | (k,x)::r=>by
  have ih:=jX f g v r;rw[show putF f v ((k,x)::r)=(if k=f then (k,v)::r else (k,x)::putF f v r) from rfl];by_cases hk:k=f
  ·rw[if_pos hk];by_cases h:g=k
   ·have hb:(g == k)=true:=beq_iff_eq.mpr h;simp only[List.lookup,hb,if_pos (h.trans hk)]
   ·have hb:(g == k)=false:=beq_eq_false_iff_ne.mpr h;simp only[List.lookup,hb,if_neg (λe:g=f=>h (e.trans hk.symm))]
  ·rw[if_neg hk];by_cases h:g=k
   ·have hb:(g == k)=true:=beq_iff_eq.mpr h;simp only[List.lookup,hb,if_neg (λe:g=f=>hk (h.symm.trans e))]
   ·have hb:(g == k)=false:=beq_eq_false_iff_ne.mpr h;simp only[List.lookup,hb];exact ih
theorem jB(f:Str)(v:V):∀fs:List (Str×V),f∈(putF f v fs).map (·.1)/\∀g,g∈fs.map (·.1)->g∈(putF f v fs).map (·.1)
 |[]=>⟨by simp[putF],λg h=>by simp at h⟩
 | (k,x)::r=>by
  obtain⟨i1,i2⟩:=jB f v r;rw[show putF f v ((k,x)::r)=(if k=f then (k,v)::r else (k,x)::putF f v r) from rfl];by_cases hk:k=f
  ·rw[if_pos hk];subst hk;exact⟨by simp,λg h=>by simpa using h⟩
  ·rw[if_neg hk];refine⟨?_,λg h=>?_⟩
   ·rw[fH];exact ka _ i1
   ·rw[fH]at h ⊢;rcases iG.mp h with e|e
    ·exact iG.mpr (.inl e)
    ·exact ka _ (i2 g e)
theorem jZ(f:Str)(v:V):∀fs:List (Str×V),(putF f v fs).length<=fs.length+1
 |[]=>by simp[putF]
 | (k,x)::r=>by
  have ih:=jZ f v r;rw[show putF f v ((k,x)::r)=(if k=f then (k,v)::r else (k,x)::putF f v r) from rfl];by_cases hk:k=f
  ·rw[if_pos hk,je,je];omega
  ·rw[if_neg hk,je,je];omega
theorem fM.some_of(r:fM (some v) o):∃u,o=some u/\RelV v u:=by
 cases o with
 |none=>exact(show False from r).elim
 |some u=>exact⟨u,rfl,r⟩
theorem fM.none_of(r:fM none o):o=none:=by
 cases o with
 |none=>rfl
 |some u=>exact(show False from r).elim
theorem Bg(r:RelV v u):handedIn u=true:=by
 cases v with
 |bj=>cases (show u=Value.none from r);rfl
 |bl b=>cases (show u=Value.bool b from r);rfl
 |int i=>obtain⟨t,e⟩:=(show ∃t,u=Value.int i t from r);cases e;rfl
 |str x=>obtain⟨t,e⟩:=(show ∃t,u=Value.str x t from r);cases e;rfl
 |v8 b=>obtain⟨t,e⟩:=(show ∃t,u=Value.bytes b t from r);cases e;rfl
 |LP b=>obtain⟨t,e⟩:=(show ∃t,u=Value.float b t from r);cases e;rfl
 |ref a=>cases (show u=Value.ref a from r);rfl
 |ty n=>cases (show u=Value.type n from r);rfl
section
variable{P:Program}{w:World}{H H':Hp}{h h':Heap}{a C dx:Addr}{fs fs':List (Str×V)}
theorem kF(aV:g7 P w H h)(e:H a=some (.ins C dx fs)):∃mA,xv h a dx C mA/\(∀f,fM (fs.lookup f) (mA f))/\PySem.Within mA (fs.map (·.1))/\fs.length<=1000/\H dx=some (.own a):=by
 obtain⟨d,z,ne,ob,mA,n,r,q⟩:=(show a6 P w H h a (.ins C dx fs) from aV a _ e)
 exact⟨mA,⟨ob,n,ne⟩,r,q,z,d⟩
end
structure Cs(K:Wf)(C:Addr):Prop where
 pg:plainGet K C Str.empty=true
 hd:hasDictIn K C=true
 po:plainOver K C=true
 sa:findIn K (.ref C) "__setattr__" = some (some (.builtin "object.__setattr__"))
theorem Cs.get{K:Wf}{C:Addr}(c:Cs K C)(f:Str):plainGet K C f=true:=c.pg
def dk(K:Wf)(C:Addr)(f:Str):Prop:=findIn K (.ref C) f=some none
theorem dk.Ox{K:Wf}{C:Addr}{f:Str}(n:dk K C f):takerIn K C f=some none:=by
 unfold takerIn;rw[show findIn K (.ref C) f=some none from n];rfl
structure Meth(K:Wf)(C:Addr)(m:Str)(f:Addr):Prop where
 at_:findIn K (.ref C) m=some (some (.ref f))
 fn:isFn K (.ref f)=true
 kp:keepIn K (.ref f)=true
section
variable{X:Cx}{pins:Lo}{σ:St}{H:Hp}{s:Shared}{a C dx:Addr}{fs:List (Str×V)}{f:Str}{v:V}{A:Around}{E:Vs}
theorem xP(I:Inv X pins σ H s)(e:H a=some (.ins C dx fs))(c:Cs X.K C)(n:dk X.K C f)(l:fs.lookup f=some v)
  (h:∀u s',Inv X pins σ H s'->RelV v u->Q u s'):wpAny (model X.prog X.w) A (getAttr (.ref a) f b) Q E s:=by
 obtain⟨mA,O,r,_,_,_⟩:=kF I.aV e;obtain⟨u,hu,ru⟩:=fM.some_of (v:=v) (o:=mA f) (by rw[<-l];exact r f);exact get_map I.jH O (c.get f) c.hd n hu (Bg ru) (h u _ (I.tok _) ru)
theorem lz(I:Inv X pins σ H s)(e:H a=some (.ins C dx fs))(c:Cs X.K C)(k:Meth X.K C m g)(l:fs.lookup m=none)
  (h:Q (.ref g,[.ref a]) s):wpAny (model X.prog X.w) A (getMethod (.ref a) m pl) Q E s:=by
 obtain⟨mA,O,r,_,_,_⟩:=kF I.aV e;have hn:mA m=none:=fM.none_of (by rw[<-l];exact r m);exact FE I.jH O (c.get m) k.at_ k.fn hn h
theorem xb(I:Inv X pins σ H s)(e:H a=some (.ins C dx fs))(c:Cs X.K C)(n:dk X.K C f)(hl:fs.length<1000)(ry:RelV y u)
  (h:∀s',Inv X pins σ (upd H a (.ins C dx (putF f y fs))) s'->Q () s'):wpAny (model X.prog X.w) A (setAttr (.ref a) f u) Q E s:=by
 obtain⟨mA,O,r,wi,_,ho⟩:=kF I.aV e;have hz:(fs.map (·.1)).length<=sizeLine:=by rw[az,sizeLine_eq];omega
 refine Ia I.jH O c.sa c.po n.Ox c.hd wi hz λh' O' sb=>h _ ?_;have hd:∃o,h'.get? dx=some o:=let ⟨o,_,_,e',_⟩:=O'.ns;⟨o,e'⟩
 refine I.write (x:=a) (e:=dx) (by rw[e];exact True.intro) (.inr ho) (λb q hb z=>(sb.2 b hb).trans z) hd ?_;refine⟨by rw[ae O.ne];exact ho,?_,O.ne,O'.obj,_,O'.ns,λg=>?_,λg hg=>?_⟩
 ·have:=jZ f y fs;omega
 ·show fM ((putF f y fs).lookup g) (if g=f then some u else mA g);rw[jX];by_cases q:g=f
  ·rw[if_pos q,if_pos q];exact ry
  ·rw[if_neg q,if_neg q];exact r g
 ·by_cases q:g=f
  ·rw[q];exact(jB f y fs).1
  ·refine(jB f y fs).2 g (wi g λz=>hg ?_);show(if g=f then some u else mA g)=none;rw[if_neg q];exact z
theorem Inv.made(I:Inv X pins σ H s):Inv X pins σ (upd (upd H s.heap.objs.size (.own (s.heap.objs.size+1))) (s.heap.objs.size+1) (.ins C s.heap.objs.size []))
  { s with heap:=(s.heap.push emptyDict).push (instObj C s.heap.objs.size) }:=by
 have e1:(s.heap.push emptyDict).get? s.heap.objs.size=some emptyDict:=gL s.heap rfl;have e2:((s.heap.push emptyDict).push (instObj C s.heap.objs.size)).get? (s.heap.objs.size+1)=some (instObj C s.heap.objs.size):=by
  have:=gL (s.heap.push emptyDict) (o:=instObj C s.heap.objs.size) rfl
  rwa [Heap.size_push]at this
 have e3:(s.heap.push emptyDict).Ns s.heap.objs.size (λ_=>none):=⟨emptyDict,#[],_,e1,rfl,(λe he=>absurd he (by simp)),λ_=>rfl⟩
 have I1:=I.laid (a:=s.heap.objs.size) (o:=.own (s.heap.objs.size+1)) (h':=s.heap.push emptyDict) (t':=s.toks) (λb u q=>cM _ q) (bC _) ⟨_,e1⟩;refine I1.laid (a:=s.heap.objs.size+1) (o:=.ins C s.heap.objs.size []) (t':=s.toks) (λb u q=>cM _ q) (Nat.le_of_eq (Heap.size_push _ _)) ?_;have ne:s.heap.objs.size≠s.heap.objs.size+1:=eD (K8 _);refine⟨by rw[ae ne,aE],fe _,ne,e2,λ_=>none,(Heap.Ns1.of_empty e3).at λo q=>cM _ q,λ_=>True.intro,λy hy=>absurd rfl hy⟩
theorem ID(hb:attributeBase e f env (eval e env)=eval e env)
  (h:wpAny (model prog w) A (eval e env) (λo s₁=>wpAny (model prog w) A (getAttr o f true) Q E s₁) E s):wpAny (model prog w) A (eval (.Attribute e f pos) env) Q E s:=
 Attribute_any_ h (by rw[arm_eval_Attribute,hb])
end
def R6(K:Wf)(ta:TE)(f:Str):TE:=λσ H Q=>ta σ H λx H1=>∃a C dx fs v,x=.ref a/\H1 a=some (.ins C dx fs)/\Cs K C/\dk K C f/\fs.lookup f=some v/\Q v H1
def Sd(K:Wf)(ta tv:TE)(f:Str):TS:=λD σ H=>tv σ H λy H1=>ta σ H1 λx H2=>∃a C dx fs,x=.ref a/\H2 a=some (.ins C dx fs)/\Cs K C/\dk K C f/\fs.length<1000/\
 D.nx σ (upd H2 a (.ins C dx (putF f y fs)))
section
variable{X:Cx}{o e value:Expr}{f:Str}{pos pos' tpos:Pos}{ta tv:TE}
theorem eF(he:PE X e ta)(hb:attributeBase e f X.env (eval e X.env)=eval e X.env):PE X (.Attribute e f pos) (R6 X.K ta f):=by
 intro pins s σ H Q I h;refine ID hb (bE (he pins s σ H _ I h) λu s1 ⟨x,H1,I1,rx,a,C,dx,fs,v,ex,ea,c,n,l,q⟩=>?_);subst ex;obtain rfl:u=Value.ref a:=rx;exact xP I1 ea c n l λu' s2 I2 ru=>⟨v,H1,I2,ru,q⟩
theorem jt(ha:PE X o ta)(hv:PE X value tv)(hs:swapsWith value (some (.Attribute o f pos')) pos.line X.env=pure false):PS X (.Assign [.Attribute o f pos'] value pos) (Sd X.K ta tv f):=by
 intro pins s σ H D I h;refine plainObj_wpAny_Assign_Attribute (bE (hv pins s σ H _ I h) λu s1 ⟨y,H1,I1,ry,q⟩=>bE (ha pins s1 σ H1 _ I1 q) λov s2 ⟨x,H2,I2,rx,a,C,dx,fs,ex,ea,c,n,l,q2⟩=>?_) hs;subst ex;obtain rfl:ov=Value.ref a:=rx;exact xb I2 ea c n l ry λs3 I3=>⟨σ,_,I3,q2⟩
end
section
variable{X:Cx}{pins:Lo}{σ:St}{H:Hp}{s:Shared}{A:Around}{E:Vs}{Q:Vs}{c:Value}{b:Bool}
set_option genInjectivity true in
inductive jf (K:Wf) (H:Hp):V->Value->Prop where
 |bj:jf K H .bj (.type "NoneType")
 |bl (x:Bool):jf K H (.bl x) (.type "bool")
 |int (i:Int):jf K H (.int i) (.type "int")
 |str (x:Str):jf K H (.str x) (.type "str")
 |LP (x:UInt64):jf K H (.LP x) (.type "float")
 |lst {a:Addr}{xs:List V}(e:H a=some (.lst xs)):jf K H (.ref a) (.type "list")
 |d9 {a:Addr}{o:Obj}{xs:List V}(e:H a=some (.d9 o (.lst xs))):jf K H (.ref a) (.type "list")
 |tup {a:Addr}{xs:List V}(e:H a=some (.tup xs)):jf K H (.ref a) (.type "tuple")
 |dK {a:Addr}{af:List (Key×V)}(e:H a=some (.dK af)):jf K H (.ref a) (.type "dict")
 |dT {a:Addr}{af:List (List Key×V)}(e:H a=some (.dT af)):jf K H (.ref a) (.type "dict")
 |ins {a C dx:Addr}{fs:List (Str×V)}(e:H a=some (.ins C dx fs)) (cl:Cs K C) (ha:findIn K (.ref C) "__class__" = some (some (.builtin "object.__class__")))
   (hn:specialIn K (.builtin "object.__class__") "__get__" = some (some (.builtin "getset_descriptor.__get__"))) (htk:takesIn K (.builtin "object.__class__")=some true)
   (hm:mroIn K C (.type "object")=some true):jf K H (.ref a) (.ref C)
theorem AK(I:Inv X pins σ H s)(rx:RelV x u)(ty:jf X.K H x t)(e:kitOne X.K t c=some b)(h:∀tk,Q (.bool b) { s with toks:=tk }):
  wpAny (model X.prog X.w) A (call (.builtin "isinstance") [u,c]) Q E s:=by
 cases ty with
 |bj=>cases (show u=Value.none from rx);exact kia_one PySem.W.kitx_none I.jH True.intro e (λz=>nomatch z) h
 |bl y=>cases (show u=Value.bool y from rx);exact kia_one PySem.W.kitx_bool I.jH True.intro e (λz=>nomatch z) h
 |int i=>obtain⟨t,q⟩:=(show ∃t,u=Value.int i t from rx);cases q;exact kia_one PySem.W.kitx_int I.jH True.intro e (λz=>nomatch z) h
 |str y=>obtain⟨t,q⟩:=(show ∃t,u=Value.str y t from rx);cases q;exact kia_one PySem.W.kitx_str I.jH True.intro e (λz=>nomatch z) h
 |LP y=>obtain⟨t,q⟩:=(show ∃t,u=Value.float y t from rx);cases q;exact kia_one PySem.W.kitx_float I.jH True.intro e (λz=>nomatch z) h
 |@lst a xs ea=>
  cases (show u=Value.ref a from rx);obtain⟨_,_,n,_,h1⟩:=(show a6 X.prog X.w H s.heap a (.lst xs) from I.aV a _ ea)
  exact kia_one kitx_list I.jH ⟨_,h1,rfl⟩ e (λz=>nomatch z) h
 |@d9 a ob xs ea=>
  cases (show u=Value.ref a from rx);obtain⟨_,_,_,n,_,h1⟩:=(show a6 X.prog X.w H s.heap a (.d9 ob (.lst xs)) from I.aV a _ ea)
  exact kia_one kitx_list I.jH ⟨_,h1,rfl⟩ e (λz=>nomatch z) h
 |@tup a xs ea=>
  cases (show u=Value.ref a from rx);obtain⟨_,_,_,p⟩:=(show a6 X.prog X.w H s.heap a (.tup xs) from I.aV a _ ea)
  obtain⟨o,h1,h2,_⟩:=p;exact kia_one PySem.W.kitx_tuple I.jH ⟨o,h1,h2⟩ e (λz=>nomatch z) h
 |@dK a af ea=>
  cases (show u=Value.ref a from rx);obtain⟨_,_,vs,_,p⟩:=(show a6 X.prog X.w H s.heap a (.dK af) from I.aV a _ ea)
  obtain⟨o,es,ep,h1,h2,_⟩:=p;exact kia_one kitx_dict I.jH ⟨o,h1,h2.1⟩ e (λz=>nomatch z) h
 |@dT a af ea=>
  cases (show u=Value.ref a from rx);obtain⟨_,_,xs,_,o,es,ep,h1,h2,_⟩:=(show a6 X.prog X.w H s.heap a (.dT af) from I.aV a _ ea)
  exact kia_one kitx_dict I.jH ⟨o,h1,h2.1⟩ e (λz=>nomatch z) h
 |@ins a C dx fs ea cl ha hn htk hm=>
  cases (show u=Value.ref a from rx);obtain⟨mA,O,_⟩:=kF I.aV ea;obtain⟨od,J,_⟩:=O.look;exact kia_one (PySem.W.kitx_own (cl.get _) cl.hd ha hn htk hm) I.jH J e (λz=>nomatch z) h
end
structure cL(k:Nat)(A:Around):Prop where
 hd:A.handled=none
 dp:A.depth+3*k+5<recursionLimit
 un:A.units+16*k+200<cLine
theorem cL.mono(r:cL k A)(h:j<=k):cL j A:=⟨r.hd,by have:=r.dp;omega,by have:=r.un;omega⟩
theorem cL.deeper(r:cL (k+1) A)(env:Env):cL k (A.deeper env):=
 ⟨r.hd,by have:=r.dp;show A.depth+1+3*k+5<_;omega,by have:=r.un;show A.units+3+16*k+200<_;omega⟩
theorem cL.in1(r:cL (k+1) A):cL k A.in1:=
 ⟨r.hd,by have:=r.dp;show A.depth+3*k+5<_;omega,by have:=r.un;show A.units+1+16*k+200<_;omega⟩
theorem wG{A:Around}{C:Addr}{us:List Value}{kw:List (Str×Value)}:(A.under (.builtin "type.__call__" ⟨.ref C::us,kw⟩)).depth=A.depth+1:=by
 first|rfl|simp[Around.under,Code.weight,Code.isCreation,Code.isGuard,Code.isCaller,Code.frames,Code.isFrame,guardIds]
theorem xN{A:Around}{C:Addr}{us:List Value}{kw:List (Str×Value)}:(A.under (.builtin "type.__call__" ⟨.ref C::us,kw⟩)).units=A.units+1:=by
 first|rfl|simp[Around.under,Code.cUnits,Code.frames,Code.isFrame]
theorem cL.make(r:cL (k+1) A)(C:Addr)(us:List Value)(kw:List (Str×Value)):cL k (A.under (.builtin "type.__call__" ⟨.ref C::us,kw⟩)):=
 ⟨r.hd,by have:=r.dp;rw[wG];omega,by have:=r.un;rw[xN];omega⟩
theorem cL.depth(r:cL k A):A.depth<recursionLimit:=by have:=r.dp;omega
theorem cL.units(r:cL k A):A.units+64<cLine:=by have:=r.un;omega
def Mx:TA:=λ_ H Q=>Q [] H
def J6(ta:TE)(tr:TA):TA:=λσ H Q=>ta σ H λx H1=>tr σ H1 λxs H2=>Q (x::xs) H2
section
variable{X:Cx}{e:Expr}{es:List Expr}{te:TE}{t:TA}{pos:Pos}
theorem aa:PA X [] Mx:=λ_ _ _ _ H Q I h=>Calls.spliced_nil ⟨[],H,I,.nil,h⟩
theorem aq(ha:PE X e te)(hr:PA X es t)(hs:starEach (e::es) X.env=(false,eval e X.env)::starEach es X.env:=by rfl):PA X (e::es) (J6 te t):=by
 intro pos pins s σ H Q I h;rw[hs];show wpAny _ _ (spliced ((false,eval e X.env)::backTo pos (starEach es X.env))) _ _ s;refine Calls.spliced_cons (bE (ha pins s σ H _ I h) λu s1 ⟨x,H1,I1,r1,q1⟩=>?_);exact bE (hr pos pins s1 σ H1 _ I1 q1) λus s2 ⟨xs,H2,I2,r2,q2⟩=>⟨x::xs,H2,I2,.cons r1 r2,q2⟩
def RC(t:TA):TE:=λσ H Q=>t σ H λxs H1=>xs.length<=sizeLine/\∀p,H1 p=none->Q (.ref p) (upd H1 p (.tup xs))
def R5(t:TA):TE:=λσ H Q=>t σ H λxs H1=>xs.length<=sizeLine/\∀p,H1 p=none->Q (.ref p) (upd H1 p (.lst xs))
theorem aX(h:PA X es t):PE X (.Tuple es x1 pos) (RC t):=by
 intro pins s σ H Q I hq;refine wpAny_Tuple_spliced (bE (h pos pins s σ H _ I hq) λus s1 ⟨xs,H1,I1,r,z,q⟩=>⟨by rw[<-r.length];exact z,?_⟩);have hf:H1 s1.heap.objs.size=none:=I1.aV.fresh (bC _);refine⟨.ref s1.heap.objs.size,upd H1 s1.heap.objs.size (.tup xs),I1.laid (t':=s1.toks) (λb u e=>cM _ e) (bC _) ?_,rfl,q _ hf⟩;exact⟨z,us,r,⟨_,gL _ rfl,rfl,_,rfl⟩⟩
theorem a9(h:PA X es t):PE X (.List es pos) (R5 t):=by
 intro pins s σ H Q I hq;refine wpAny_List_spliced (bE (h pos pins s σ H _ I hq) λus s1 ⟨xs,H1,I1,r,z,q⟩=>⟨by rw[<-r.length];exact z,?_⟩);have hf:H1 s1.heap.objs.size=none:=I1.aV.fresh (bC _);refine⟨.ref s1.heap.objs.size,upd H1 s1.heap.objs.size (.lst xs),I1.laid (t':=s1.toks) (λb u e=>cM _ e) (bC _) ?_,rfl,q _ hf⟩;exact⟨z,us,0,r,gL _ rfl⟩
end
noncomputable abbrev Sp:=List V->Hp->VK->XK->Prop
noncomputable abbrev B2:=List Env->Hp->Shared->XK->Value->Shared->Prop
structure lW(P:Program)(w:World)(K:Wf)(mg:So)(base:Heap)(A:Around)(outer:List Env)(s:Shared)(H:Hp):Prop where
 frames:A.frames=some outer
 mod:Mod K mg base
 bs:∀b o,base.get? b=some o->s.heap.get? b=some o/\H b=none
 Ej:base.objs.size<=s.heap.objs.size
 jj:s.heap.FunFrames base outer
 Ig:∀b∈v_ outer,H b=none
 aV:g7 P w H s.heap
 bare:AllBare s.gens
def CE(outer:List Env)(P:Program)(w:World)(H:Hp)(s:Shared)(Q:VK)(u:Value)(s':Shared):Prop:=
 ∃v H',s'.os=s.os/\AllBare s'.gens/\Un (v_ outer) [] H H' s.heap s'.heap/\g7 P w H' s'.heap/\RelV v u/\Q v H'
def CR(CX:B2)(outer:List Env)(P:Program)(w:World)(H:Hp)(s:Shared)(Q:VK)(E:XK)(r:Result)(s':Shared):Prop:=
 match r with
 |.ok (.ret u)=>CE outer P w H s Q u s'
 |.ok _=>False
 |.error e=>CX outer H s E e s'
structure bg(P:Program)(w:World)(K:Wf)(mg:So)(base:Heap)(CX:B2)(k:Nat)(f:Addr)(fd:FuncData)(ps:List Str)(sp:Sp):Prop where
 len:∀vs H Q E,sp vs H Q E->vs.length=ps.length
 run:∀(A:Around) (outer:List Env) (s:Shared) (H:Hp) (args:Args) (us:List Value) (vs:List V) (Q:VK) (E:XK),cL k A->lW P w K mg base A outer s H->BindsTo s fd args (ps.zip us)->Vals vs us->sp vs H Q E->
  codeAny (model P w) A (.call (.ref f) args) (CR CX outer P w H s Q E) s
theorem lW.make{P:Program}{w:World}{K:Wf}{mg:So}{base:Heap}{A:Around}{outer:List Env}{s:Shared}{H:Hp}(e:lW P w K mg base A outer s H)(C:Addr)(us:List Value)(kw:List (Str×Value)):
  lW P w K mg base (A.under (.builtin "type.__call__" ⟨.ref C::us,kw⟩)) outer s H:=⟨by first|exact e.frames|(simpa [Around.under,Code.envs,Code.isFrame,pushEnvs] using e.frames),e.mod,e.bs,e.Ej,e.jj,e.Ig,e.aV,e.bare⟩
theorem lW.in1{P:Program}{w:World}{K:Wf}{mg:So}{base:Heap}{A:Around}{outer:List Env}{s:Shared}{H:Hp}(e:lW P w K mg base A outer s H):
  lW P w K mg base A.in1 outer s H:=⟨e.frames,e.mod,e.bs,e.Ej,e.jj,e.Ig,e.aV,e.bare⟩
section
variable{X:Cx}{pins:Lo}{σ:St}{H:Hp}{s s':Shared}
theorem Inv.Lz(I:Inv X pins σ H s):lW X.prog X.w X.K X.mg X.base X.A X.stack s H:=
 ⟨I.ok.frames,I.ok.mod,I.bs,f9 I.ok.Ej I.sz,I.stack,I.x8,I.aV,I.bare⟩
theorem Inv.after(I:Inv X pins σ H s)(h:CE X.stack X.prog X.w H s Q u s'):EP X pins σ Q u s':=by
 obtain⟨v,H',os,bare,un,aV,r,q⟩:=h;obtain⟨hh,g,d,t,os'⟩:=s';obtain rfl:os'=s.os:=os;exact⟨v,H',I.call (h':=hh) (g':=g) (d':=d) (t':=t) (ch:=[]) un aV bare (λb z=>absurd z (by simp)),r,q⟩
end
def Eb(sp:Sp)(dvs:List V)(E:XK)(t:TA):TE:=λσ H Q=>t σ H λvs H1=>sp (vs++dvs) H1 Q E
def KU(C:Addr)(m:Str)(sp:Sp)(dvs:List V)(E:XK)(ta:TE)(t:TA):TE:=λσ H Q=>ta σ H λx H1=>∃a dx fs,x=.ref a/\H1 a=some (.ins C dx fs)/\fs.lookup m=none/\
 t σ H1 λvs H2=>sp (x::(vs++dvs)) H2 Q E
def PQ(C:Addr)(sp:Sp)(dvs:List V)(E:XK)(t:TA):TE:=λσ H Q=>t σ H λvs H1=>∀x dx,H1 x=none->H1 dx=none->dx≠x->
 sp (.ref x::(vs++dvs)) (upd (upd H1 dx (.own x)) x (.ins C dx [])) (λv H2=>v=.bj/\Q (.ref x) H2) E
def Binds(K:Wf)(fd:FuncData)(ps:List Str)(ds:List Value):Prop:=
 ∀(s:Shared) (us:List Value),K.In s.heap->(us++ds).length=ps.length->BindsTo s fd ⟨us,[]⟩ (ps.zip (us++ds))
theorem Binds.all{K:Wf}{fd:FuncData}{ps:List Str}(h:∀us:List Value,us.length=ps.length->bindArgs fd ⟨us,[]⟩=pure (ps.zip us)):Binds K fd ps []:=λs us _ hl=>by
 rw[uG]at hl ⊢;exact .of_eq (h us hl)
def Passes(CX:B2)(X:Cx)(E:XK):Prop:=∀(pins:Lo) (σ:St) (H:Hp) (s:Shared) (e:Value) (s':Shared),Inv X pins σ H s->CX X.stack H s E e s'->X.xe e s'
section
variable{X:Cx}{CX:B2}{k:Nat}{f C:Addr}{fd:FuncData}{ps:List Str}{sp:Sp}{dvs:List V}{ds:List Value}{E:XK}{x m:Str}{p pos apos:Pos}{e o:Expr}{es:List Expr}{ta:TE}{t:TA}
theorem wx(F:bg X.prog X.w X.K X.mg X.base CX k f fd ps sp)(hr:cL k X.A)(hb:Binds X.K fd ps ds)(hd:Vals dvs ds)(hx:Passes CX X E)
  (I:Inv X pins σ H s) (r:Vals vs us) (h:sp (vs++dvs) H Q E):wpAny (model X.prog X.w) X.A (call (.ref f) us) (EP X pins σ Q) X.xe s:=by
 have r2:Vals (vs++dvs) (us++ds):=r.append hd;have hl:(us++ds).length=ps.length:=by rw[<-r2.length];exact F.len _ _ _ _ h
 refine wpAny_call (codeAny_mono (F.run X.A X.stack s H ⟨us,[]⟩ (us++ds) (vs++dvs) Q E hr I.Lz (hb s us I.jH hl) r2 h) λr s' hq=>?_);cases r with
 |error e=>exact hx pins σ H s e s' I hq
 |ok fl=>
  cases fl with
  |ret u=>exact I.after hq
  |next=>exact False.elim hq
  |brk=>exact False.elim hq
  |cont=>exact False.elim hq
theorem Ie(F:bg X.prog X.w X.K X.mg X.base CX k f fd ps sp)(hr:cL k X.A)(hg:Gl X x)(hm:X.mg x=some (.ref f))(hk:keepIn X.K (.ref f)=true)(hb:Binds X.K fd ps ds)(hd:Vals dvs ds)(hx:Passes CX X E)
  (ha:PA X (e::es) t) (hdb:(x == ("__debug__" : Str))=false:=by decide) (he:starEach (e::es) X.env=(false,eval e X.env)::starEach es X.env:=by rfl) (hpl:(backTo pos (starEach es X.env)).any (·.1)=false:=by rfl):
  PE X (.Call (.Name x p) (e::es) [] pos) (Eb sp dvs E t):=by
 intro pins s σ H Q I h;refine M6 (oU I hg hm ?_ hdb);refine callWith_K (h₀:=X.base) I.ok.mod.Ng hk (bE (ha pos pins s σ H _ I h) λus s1 ⟨vs,H1,I1,r,q⟩=>⟨I1.jH,?_⟩) he hpl;exact wx F hr hb hd hx I1 r q
theorem As(he:PE X o ta)(c:Cs X.K C)(hm:Meth X.K C m f)(F:bg X.prog X.w X.K X.mg X.base CX k f fd ps sp)(hr:cL k X.A)(hb:Binds X.K fd ps ds)(hd:Vals dvs ds)(hx:Passes CX X E)(ha:PA X (e::es) t)
  (hst:starEach (e::es) X.env=(false,eval e X.env)::starEach es X.env:=by rfl) (hpl:(backTo pos (starEach es X.env)).any (·.1)=false:=by rfl)
  (ht:eval (.Call (.Attribute o m apos) (e::es) [] pos) X.env=(do
   let ov <-eval o X.env
   standAt apos.atName
   let (f,first) <-holding [ov] (getMethod ov m pl)
   callWith pos f first (backTo pos (starEach (e::es) X.env)) (backToKw pos (keywordEach [] X.env))):=by rfl):
  PE X (.Call (.Attribute o m apos) (e::es) [] pos) (KU C m sp dvs E ta t):=by
 intro pins s σ H Q I h;refine methodCall_KW (pl:=pl) (bE (he pins s σ H _ I h) λu s1 ⟨x,H1,I1,rx,a,dx,fs,ex,ea,l,q⟩=>?_) ht;subst ex;obtain rfl:u=Value.ref a:=rx;refine lz I1 ea c hm l ?_;refine callWith_K (first:=[.ref a]) (h₀:=X.base) I.ok.mod.Ng hm.kp (bE (ha pos pins s1 σ H1 _ I1 q) λus s2 ⟨vs,H2,I2,r,q2⟩=>⟨I2.jH,?_⟩) hst hpl;exact wx (us:=.ref a::us) (vs:=.ref a::vs) F hr hb hd hx I2 (.cons rfl r) q2
theorem Cf(he:PE X o ta)(c:Cs X.K C)(hm:Meth X.K C m f)(F:bg X.prog X.w X.K X.mg X.base CX k f fd ps sp)(hr:cL k X.A)(hb:Binds X.K fd ps ds)(hd:Vals dvs ds)(hx:Passes CX X E)
  (ht:eval (.Call (.Attribute o m apos) [] [] pos) X.env=(do
   let ov <-eval o X.env
   standAt apos.atName
   let (f,first) <-holding [ov] (getMethod ov m pl)
   callWith pos f first (backTo pos (starEach [] X.env)) (backToKw pos (keywordEach [] X.env))):=by rfl):
  PE X (.Call (.Attribute o m apos) [] [] pos) (KU C m sp dvs E ta Mx):=by
 intro pins s σ H Q I h;refine methodCall_KW (pl:=pl) (bE (he pins s σ H _ I h) λu s1 ⟨x,H1,I1,rx,a,dx,fs,ex,ea,l,q⟩=>?_) ht;subst ex;obtain rfl:u=Value.ref a:=rx;refine lz I1 ea c hm l ?_;exact PySem.W.callWith_K0 (first:=[.ref a]) I1.jH hm.kp (wx (us:=[.ref a]) (vs:=[.ref a]) F hr hb hd hx I1 (.cons rfl .nil) q)
structure Mk(K:Wf)(C f:Addr):Prop where
 makes:makesIn K C=true
 init:findIn K (.ref C) "__init__" = some (some (.ref f))
 fn:isFn K (.ref f)=true
 kp:keepIn K (.ref C)=true
theorem E_(M:Mk X.K C f)(F:bg X.prog X.w X.K X.mg X.base CX k f fd ps sp)(hr:cL (k+1) X.A)(hb:Binds X.K fd ps ds)(hd:Vals dvs ds)
  (hx:Passes CX X E) (I:Inv X pins σ H s) (r:Vals vs us)
  (h:∀x dx,H x=none->H dx=none->dx≠x->sp (.ref x::(vs++dvs)) (upd (upd H dx (.own x)) x (.ins C dx [])) (λv H2=>v=.bj/\Q (.ref x) H2) E):
  wpAny (model X.prog X.w) X.A (call (.ref C) us) (EP X pins σ Q) X.xe s:=by
 have hq:=h (s.heap.objs.size+1) s.heap.objs.size (I.aV.fresh (Di _)) (I.aV.fresh (bC _)) (eD (K8 _));have I2:=Inv.made (C:=C) I;have r2:Vals (V.ref (s.heap.objs.size+1)::(vs++dvs)) (Value.ref (s.heap.objs.size+1)::(us++ds)):=.cons rfl (r.append hd);have hl:(Value.ref (s.heap.objs.size+1)::us++ds).length=ps.length:=by
  have e:=r2.length;rw[F.len _ _ _ _ hq]at e;exact e.symm
 refine wpAny_call (FV (f:=f) I.jH M.makes M.init (beq_iff_eq.mp M.fn) (codeAny_mono (F.run _ X.stack _ _ ⟨Value.ref (s.heap.objs.size+1)::us,[]⟩ (Value.ref (s.heap.objs.size+1)::(us++ds)) _ _ E (hr.make C us [])
  (I2.Lz.make C us []) (hb _ (Value.ref (s.heap.objs.size+1)::us) I2.jH hl) r2 hq) λr s' hq'=>?_))
 cases r with
 |error e=>exact hx pins σ _ _ e s' I2 hq'
 |ok fl=>
  cases fl with
  |ret u=>
   obtain⟨v,H',I3,rv,ev,q3⟩:=I2.after hq';subst ev;exact⟨rv,⟨V.ref (s.heap.objs.size+1),H',I3,rfl,q3⟩⟩
  |next=>exact False.elim hq'
  |brk=>exact False.elim hq'
  |cont=>exact False.elim hq'
theorem IT(M:Mk X.K C f)(F:bg X.prog X.w X.K X.mg X.base CX k f fd ps sp)(hr:cL (k+1) X.A)(hg:Gl X x)(hm:X.mg x=some (.ref C))(hb:Binds X.K fd ps ds)(hd:Vals dvs ds)(hx:Passes CX X E)
  (ha:PA X (e::es) t) (hdb:(x == ("__debug__" : Str))=false:=by decide) (he:starEach (e::es) X.env=(false,eval e X.env)::starEach es X.env:=by rfl) (hpl:(backTo pos (starEach es X.env)).any (·.1)=false:=by rfl):
  PE X (.Call (.Name x p) (e::es) [] pos) (PQ C sp dvs E t):=by
 intro pins s σ H Q I h;refine M6 (oU I hg hm ?_ hdb);refine callWith_K (h₀:=X.base) I.ok.mod.Ng M.kp (bE (ha pos pins s σ H _ I h) λus s1 ⟨vs,H1,I1,r,q⟩=>⟨I1.jH,?_⟩) he hpl;exact E_ M F hr hb hd hx I1 r q
end
section
variable{X:Cx}{CX:B2}{k:Nat}{f C:Addr}{fd:FuncData}{ps ks:List Str}{sp:Sp}{E:XK}{x m:Str}{p pos apos kpos:Pos}{e o:Expr}{es:List Expr}{kws:List Keyword}{te ta:TE}{t tk:TA}{nm:Option Str}
variable{g:List Value->List Value->List Value}{gV:List V->List V->List V}
end
structure aA(N P:List Str)(sc:Scope):Prop where
 kind:sc.kind=.function
 co:sc.isCoroutine=false
 gen:sc.isGenerator=false
 nd:N.Nodup
 pre:N.take P.length=P
 par:∀x∈P,sc.names.lookup x=some .local\/sc.names.lookup x=some .cell
 LR:∀y∈sc.names,y.2≠.free
theorem oy{kindOf:Str->Option NameKind}:∀{binds:List (Str×Value)}{m:So},(∀v,(x,v)∉binds)->bindL kindOf binds m x=m x
 |[],_,_=>rfl
 | (n,v)::r,m,h=>by
  unfold bindL;rw[oy λw hw=>h w (ka _ hw)];split
  ·have:x≠n:=by rintro rfl;exact h v lE
   simp[this]
  ·rfl
theorem m7{kindOf:Str->Option NameKind}:∀{binds:List (Str×Value)}{m:So},(∀v,(x,v)∉binds)->bindC kindOf binds m x=m x
 |[],_,_=>rfl
 | (n,v)::r,m,h=>by
  unfold bindC;rw[m7 λw hw=>h w (ka _ hw)];split
  ·rfl
  ·have:x≠n:=by rintro rfl;exact h v lE
   simp[this]
theorem ou{kindOf:Str->Option NameKind}:∀{P:List Str}{vs:List Value}{i:Nat}{m:So},P.Nodup->P[i]?=some x->vs[i]?=some v->kindOf x=some .local->
  bindL kindOf (P.zip vs) m x=some v
 |[],_,_,_,_,h,_,_=>by simp at h
 |_::_,[],_,_,_,_,h,_=>by simp at h
 |p::P,w::vs,0,m,nd,h1,h2,hk=>by
  simp at h1 h2;subst h1;subst h2;show bindL kindOf ((p,w)::P.zip vs) m p=_;unfold bindL;rw[oy λv hv=>(j7.mp nd).1 (List.of_mem_zip hv).1,if_pos hk];simp
 |p::P,w::vs,i+1,m,nd,h1,h2,hk=>by
  show bindL kindOf ((p,w)::P.zip vs) m x=_;unfold bindL;exact ou (i:=i) (j7.mp nd).2 (by simpa using h1) (by simpa using h2) hk
theorem nJ{kindOf:Str->Option NameKind}:∀{P:List Str}{vs:List Value}{i:Nat}{m:So},P.Nodup->P[i]?=some x->vs[i]?=some v->kindOf x≠some .local->
  bindC kindOf (P.zip vs) m x=some v
 |[],_,_,_,_,h,_,_=>by simp at h
 |_::_,[],_,_,_,_,h,_=>by simp at h
 |p::P,w::vs,0,m,nd,h1,h2,hk=>by
  simp at h1 h2;subst h1;subst h2;show bindC kindOf ((p,w)::P.zip vs) m p=_;unfold bindC;rw[m7 λv hv=>(j7.mp nd).1 (List.of_mem_zip hv).1,if_neg hk];simp
 |p::P,w::vs,i+1,m,nd,h1,h2,hk=>by
  show bindC kindOf ((p,w)::P.zip vs) m x=_;unfold bindC;exact nJ (i:=i) (j7.mp nd).2 (by simpa using h1) (by simpa using h2) hk
noncomputable def start(N:List Str)(vs:List V):St:=vs.map some++List.replicate (N.length - vs.length) none
noncomputable def lM(CX:B2)(P:Program)(w:World)(K:Wf)(mg:So)(base:Heap)(N:List Str)(qual:Str)(scope:Scope)(f:Addr)(cd:Value)(A:Around)(outer:List Env)(s:Shared)(H:Hp)(E:XK):Cx where
 prog:=P
 w:=w
 K:=K
 mg:=mg
 base:=base
 A:=A.deeper (envOfC qual scope s.heap.objs.size f cd)
 N:=N
 s₀:=s
 H₀:=H
 env:=envOfC qual scope s.heap.objs.size f cd
 outer:=outer
 stack:=envOfC qual scope s.heap.objs.size f cd::outer
 ex:=[]
 calm:=true
 fn:=λ_=>true
 pn:=[]
 xe:=λe s'=>wpAny (model P w) (A.deeper (envOfC qual scope s.heap.objs.size f cd)) (leaving (envOfC qual scope s.heap.objs.size f cd) e) (λ_ s''=>CX outer H s E e s'') (λe' s''=>CX outer H s E e' s'') s'
theorem vN{sc:Scope}{n:Nat}{x:Str}(h:sc.names.lookup x=some .cell):∃c,(cellsFrom n sc.names []).lookup x=some c:=by
 have q:=cellsFrom_some sc.names n [] (.inl h);exact QC.mp q
theorem oj{CX:B2}{P:Program}{w:World}{K:Wf}{mg:So}{base:Heap}{N ps:List Str}{qual:Str}{scope:Scope}{f:Addr}{cd:Value}{A:Around}{outer:List Env}{s s1:Shared}{H:Hp}{E:XK}{us:List Value}{vs:List V}
  (S:aA N ps scope) (hd:A.handled=none) (e0:lW P w K mg base A outer s H) (hl:vs.length=ps.length) (r:Vals vs us)
  (x:InCallC s s.heap.objs.size (bindL (envOfC qual scope s.heap.objs.size f cd).kindOf (ps.zip us) λ_=>none) (cellsFrom (s.heap.objs.size+1) scope.names []) (bindC (envOfC qual scope s.heap.objs.size f cd).kindOf (ps.zip us) λ_=>none) s1):
  Inv (lM CX P w K mg base N qual scope f cd A outer s H E) [] (start N vs) H s1:=by
 have hpl:ps.length<=N.length:=by have:=congrArg List.length S.pre;rw[jr]at this;omega
 obtain⟨h1,tk,rfl,hk⟩:=x.done;have noA:∀b:Addr,b∉(lM CX P w K mg base N qual scope f cd A outer s H E).ex:=λb z=>absurd (show b∈([]:List Addr) from z) (by simp);refine⟨⟨e0.mod,S.kind,rfl,rfl,bC _,λy z c h1 h2=>?_,λy hy=>?_,λy c _ h=>?_,λ_=>hd,Around.frames_deeper e0.frames,.inr ⟨rfl,rfl⟩,λb z=>absurd z (noA b),e0.bs,e0.Ej,λb _ _=>noA b,λb z=>absurd z (noA b),e0.jj,e0.Ig⟩,
  rfl,e0.bare,Un.kept hk,⟨_,x.toInCall.ns,λi y v h1 h2 h3=>?_⟩,λy c h=>⟨_,x.cell y c h⟩,e0.aV.fresh (bC _),λy c h=>?_,λp hp=>absurd (show p∈([]:Lo) from hp) (by simp),e0.aV.kept hk,?_⟩
 ·exact name_of_addr x.apart (PySem.mem_of_lookup h1) (PySem.mem_of_lookup h2)
 ·have hy:scope.names.lookup y=some .cell\/scope.names.lookup y=some .free:=hy;rcases hy with hy|hy
  ·exact vN hy
  ·exact absurd rfl (S.LR _ (PySem.mem_of_lookup hy))
 ·exact Ht (x.above y c (PySem.mem_of_lookup h))
 ·have hi:i<vs.length:=by
   unfold start at h2;by_cases hi:i<vs.length
   ·exact hi
   ·rw[H_ (by simpa using hi)]at h2;rw[List.getElem?_replicate]at h2;split at h2<;>cases h2
  have ha:vs[i]?=some v:=by
   unfold start at h2;rw[JB (by simpa using hi),List.getElem?_map]at h2;cases e:vs[i]? with
   |none=>rw[e]at h2;cases h2
   |some a=>rw[e]at h2;cases h2;rfl
  obtain⟨u,hu,rv⟩:=r.get ha;have hp:ps[i]?=some y:=by
   rw[<-S.pre,List.getElem?_take_of_lt (by omega)];exact h1
  have ndP:ps.Nodup:=by rw[<-S.pre];exact S.nd.sublist (Kf _ _)
  refine⟨u,rv,?_⟩;rcases S.par y (c_ hp) with k|k
  ·exact .inl ⟨k,ou ndP hp hu k⟩
  ·obtain⟨c,e⟩:=vN (n:=s.heap.objs.size+1) k;refine .inr ⟨.inl k,c,e,?_⟩;have q:=x.cell y c e;rw[nJ ndP hp hu (by show scope.names.lookup y≠_;rw[k];decide)]at q;exact q
 ·exact e0.aV.fresh (Ht (x.above y c (PySem.mem_of_lookup h)))
 ·unfold start;show _=N.length;rw[cW,az,List.length_replicate];omega
theorem Kl{CX:B2}{P:Program}{w:World}{K:Wf}{mg:So}{base:Heap}{k:Nat}{f:Addr}{name qual:Str}{params:Arguments}{body:List Stmt}{scope:Scope}{dV kV doc pm cdv ct oc:Value}{an od:Option Addr}
  {osl:Array (Option Value)}{N ps:List Str}{sp:Sp}(lk:K.lookup f=some ⟨oc,od,.func (fnOf name qual params body scope dV kV doc pm an cdv ct),osl⟩) (hcd:codeIn K cdv qual=true) (S:aA N ps scope)
  (len:∀vs H Q E,sp vs H Q E->vs.length=ps.length)
  (hbody:∀(A:Around) (outer:List Env) (s:Shared) (H:Hp) (vs:List V) (Q:VK) (E:XK),cL k (A.deeper (envOfC qual scope s.heap.objs.size f cdv))->sp vs H Q E->
   ∃t,vc (lM CX P w K mg base N qual scope f cdv A outer s H E) body t/\t { nx:=λ_ H'=>Q .bj H',rt:=Q } (start N vs) H):
  bg P w K mg base CX (k+1) f (fnOf name qual params body scope dV kV doc pm an cdv ct) ps sp:=by
 refine⟨len,λA outer s H args us vs Q E hr e0 hb r hsp=>?_⟩;have hl:=len _ _ _ _ hsp;have KX:K.In s.heap:=e0.mod.Ng.keeps λb o e=>(e0.bs b o e).1;have lim:s.heap.NoLimit:=e0.mod.nolimit.keeps λb o e=>(e0.bs b o e).1;have hkind:∀y∈ps.zip us,scope.names.lookup y.1=some .local\/(scope.names.lookup y.1=some .cell/\((cellsFrom (s.heap.objs.size+1) scope.names []).lookup y.1).isSome=true):=λ⟨n,v⟩ hy=>by
  rcases S.par n (List.of_mem_zip hy).1 with q|q
  ·exact .inl q
  ·exact .inr ⟨q,cellsFrom_some _ _ _ (.inl q)⟩
 refine codeAny_call_function hr.depth (KX _ _ lk) rfl S.co S.gen rfl (PySem.W.codeRec_of KX hcd) (hb _ _ _ _ ?_);refine wpAny_newFunctionEnv_cells S.kind hkind λenv he s1 x=>?_;subst he;refine⟨lim.keeps x.toInCall.keep,codeAny_func ?_⟩;obtain⟨t,ht,hq⟩:=hbody A outer s H vs Q E (hr.deeper _) hsp;have I:Inv (lM CX P w K mg base N qual scope f cdv A outer s H E) [] (start N vs) H s1:=oj S hr.hd e0 hl r x;refine nF (ht [] s1 (start N vs) H _ I hq) (λfl s' hs=>?_) λe s' hs=>hs;have fin:∀{σ':St}{H':Hp}{v:V}{u:Value},Inv (lM CX P w K mg base N qual scope f cdv A outer s H E) [] σ' H' s'->RelV v u->Q v H'->CE outer P w H s Q u s':=
  λ{σ' H' v u} J rv q=>⟨v,H',J.os,J.bare,J.base,J.aV,rv,q⟩
 cases fl with
 |ret u=>
  obtain⟨v,σ',H',J,rv,q⟩:=hs;exact fin J rv q
 |next=>
  obtain⟨σ',H',J,q⟩:=hs;exact fin (v:=V.bj) (u:=Value.none) J rfl q
 |brk=>
  obtain⟨_,_,_,q⟩:=hs;exact False.elim q
 |cont=>
  obtain⟨_,_,_,q⟩:=hs;exact False.elim q
section
variable{X:Cx}{x:Str}{p pos:Pos}{e:Expr}{es:List Expr}{t:TA}{id T:String}{r:List V->Hp->VK->Prop}
def SN(r:List V->Hp->VK->Prop)(t:TA):TE:=λσ H Q=>t σ H λvs H1=>r vs H1 Q
theorem eh(hc:cX X (.builtin id) r)(hg:Gl X x)(hm:X.mg x=none)(hv:bootBuiltins x=some (.builtin id))(ha:PA X (e::es) t)(hn:x ≠ "__name__" := by decide)(hdb:(x == ("__debug__" : Str))=false:=by decide)
  (he:starEach (e::es) X.env=(false,eval e X.env)::starEach es X.env:=by rfl) (hpl:(backTo pos (starEach es X.env)).any (·.1)=false:=by rfl):PE X (.Call (.Name x p) (e::es) [] pos) (SN r t):=by
 intro pins s σ H Q I h;refine M6 (iy I hg hm hv ?_ hn hdb);exact PyProof.Rows.callWith_builtin1 (bE (ha pos pins s σ H _ I h) λus s1 ⟨vs,H1,I1,r1,q1⟩=>hc pins s1 σ H1 vs us Q I1 r1 q1) he hpl
theorem cq(hc:cX X (.type T) r)(hg:Gl X x)(hm:X.mg x=none)(hv:bootBuiltins x=some (.type T))(ha:PA X (e::es) t)(hn:x ≠ "__name__" := by decide)(hdb:(x == ("__debug__" : Str))=false:=by decide)
  (he:starEach (e::es) X.env=(false,eval e X.env)::starEach es X.env:=by rfl) (hpl:(backTo pos (starEach es X.env)).any (·.1)=false:=by rfl):PE X (.Call (.Name x p) (e::es) [] pos) (SN r t):=by
 intro pins s σ H Q I h;refine M6 (iy I hg hm hv ?_ hn hdb);exact PyProof.Rows.callWith_type1 (bE (ha pos pins s σ H _ I h) λus s1 ⟨vs,H1,I1,r1,q1⟩=>hc pins s1 σ H1 vs us Q I1 r1 q1) he hpl
end
end L2
namespace HT
open PySem PyProof.Rows
section
open PySem.SeqAt
open PySem.AutoSeq1 (wpAny_loadPart')
open PySem.MeetsSeq PySem.MeetsSeq2 PySem.MeetsSeq3
end
section
variable{prog:Program}{w:World}{A:Around}{E:Vs}{s:Shared}
theorem cat_tup(ht:IsTup s.heap t vs.toArray)(hb:IsTup s.heap b ws.toArray)(hv:vs≠[])
  (h1:ws=[]->Q (.ref t) s) (h2:ws≠[]->Q (.ref s.heap.objs.size) { s with heap:=s.heap.push { cls:=.type "tuple", data:=.seq (vs++ws).toArray } })
  (hsz:vs.length+ws.length<=sizeLine):wpAny (model prog w) A (binaryOp .Add (.ref t) (.ref b)) Q E s:=by
 obtain⟨⟨cls,dd,data,sl⟩,ho,hc,n,hd⟩:=id ht;obtain⟨⟨cls2,dd2,data2,sl2⟩,ho2,hc2,n2,hd2⟩:=id hb;simp only at hc hd hc2 hd2;subst hc hd hc2 hd2;have e:vs.toArray++ws.toArray=(vs++ws).toArray:=by simp
 by_cases hw:ws=[]
 ·exact concat_meets ⟨_,ho,rfl⟩ ⟨_,ho2,rfl⟩ noFill_tuple_add seq_tuple_add PySem.F.slot_tuple_add PySem.F.entry_tuple_add (PySem.F.args_tuple_add_2 _ _)
   (tuple_addW1 t b vs.toArray ws.toArray n n2 dd dd2 sl sl2 (by simpa using hv) (by simp[hw])) ⟨ho,ho2,h1 hw⟩
 ·refine concat_meets ⟨_,ho,rfl⟩ ⟨_,ho2,rfl⟩ noFill_tuple_add seq_tuple_add PySem.F.slot_tuple_add PySem.F.entry_tuple_add (PySem.F.args_tuple_add_2 _ _)
   (tuple_addW2 t b vs.toArray ws.toArray n n2 dd dd2 sl sl2 (by simpa using hv) (by simpa using hw) (by rw[List.size_toArray,List.size_toArray];exact hsz)) ⟨ho,ho2,?_⟩
  rw[e];exact h2 hw
noncomputable def sIx(n d:Nat):Option Int->Nat
 |none=>d
 |some v=>if v<0 then (v+(n:Int)).toNat else min v.toNat n
theorem sIx_nat(n d k:Nat):sIx n d (some (k:Int))=min k n:=by
 show(if (k:Int)<0 then ((k:Int)+(n:Int)).toNat else min (k:Int).toNat n)=min k n;rw[if_neg (by omega),Jz]
theorem sIx_le(n d:Nat)(hd:d<=n)(o:Option Int):sIx n d o<=n:=by
 cases o with
 |none=>exact hd
 |some v=>
  show(if v<0 then (v+(n:Int)).toNat else min v.toNat n)<=n;by_cases hv:v<0
  ·rw[if_pos hv];omega
  ·rw[if_neg hv];exact Nat.min_le_right _ _
theorem clip_eq(v:Int)(n d:Nat):(if v<0 then max (v+(n:Int)) 0 else min v (n:Int))=((sIx n d (some v):Nat):Int):=by
 show(if v<0 then max (v+(n:Int)) 0 else min v (n:Int))=(((if v<0 then (v+(n:Int)).toNat else min v.toNat n):Nat):Int);by_cases hv:v<0
 ·simp only[if_pos hv];omega
 ·simp only[if_neg hv];omega
theorem adjust_gen(lo hi:Option Int)(n:Nat):Builtin.Slice.sliceAdjust lo hi 1 (n:Int)=(((sIx n 0 lo:Nat):Int),((sIx n n hi:Nat):Int)):=by
 have h1:¬((1:Int)<0):=by omega
 unfold Builtin.Slice.sliceAdjust;simp only[h1,if_false];refine Prod.ext ?_ ?_
 ·cases lo with
  |none=>rfl
  |some v=>exact clip_eq v n 0
 ·cases hi with
  |none=>rfl
  |some v=>exact clip_eq v n n
theorem places_gen(i j:Nat):Builtin.Slice.slicePlaces (i:Int) (j:Int) 1=j - i:=by
 unfold Builtin.Slice.slicePlaces;have h1:(1:Int)>0:=by omega
 simp only[h1,if_true,Int.ediv_one];split<;>omega
theorem slicePart_(p:IsPart v o)(h:Q o s):wpAny (model prog w) A (Builtin.Slice.slicePartIndex v) Q E s:=by
 cases p with
 |none=>exact slicePart_none h
 |int i t=>exact slicePart_int h
theorem sliceApplied_gen{sl:Addr}{vl vu:Value}{lo hi:Option Int}{n:Nat}{Q:Int×Int×Nat->Shared->Prop}(hs:s.heap.IsSliceOf sl vl vu .none)(pl:IsPart vl lo)(pu:IsPart vu hi)
  (h:Q (((sIx n 0 lo:Nat):Int),1,sIx n n hi - sIx n 0 lo) s):wpAny (model prog w) A (Builtin.Slice.sliceApplied (.ref sl) (pure (n:Int))) Q E s:=by
 obtain⟨os,hos,hcs,hds⟩:=id hs;unfold Builtin.Slice.sliceApplied Builtin.Slice.sliceFields;refine au (au (wpAny_field hos hds (x:=vl) rfl (au (wpAny_field hos hds (x:=vu) rfl (au (wpAny_field hos hds (x:=.none) rfl (aP ?_)))))));refine au (slicePart_none ?_);show wpAny _ _ (if ((1:Int) == 0)=true then _ else _) _ _ s;rw[if_neg (by decide)];refine au (slicePart_ pl (au (slicePart_ pu (au (aP ?_)))));show wpAny _ _ (match Builtin.Slice.sliceAdjust lo hi 1 (n:Int) with | (lo,hi)=>pure (lo,(1:Int),Builtin.Slice.slicePlaces lo hi 1)) _ _ s;rw[adjust_gen lo hi n];show wpAny _ _ (pure (((sIx n 0 lo:Nat):Int),(1:Int),Builtin.Slice.slicePlaces ((sIx n 0 lo:Nat):Int) ((sIx n n hi:Nat):Int) 1)) _ _ s;rw[places_gen];exact aP h
theorem pick_gen(xs:Array Value)(i k:Nat):((List.range k).filterMap λ(m:Nat)=>xs[((i:Int)+(m:Int)*1).toNat]?).toArray=((xs.toList.drop i).take k).toArray:=by
 have e:(λ(m:Nat)=>xs[((i:Int)+(m:Int)*1).toNat]?)=λm=>xs[i+m]?:=by
  funext m;have:((i:Int)+(m:Int)*1).toNat=i+m:=by omega
  rw[this]
 rw[e];have:=pick_run xs i k;rw[List.filterMap_map]at this;have e2:((λx=>xs[x]?) ∘ λx=>i+x)=λm=>xs[i+m]?:=rfl;rw[e2]at this;rw[this]
theorem getItem_tuple_cut{t sl:Addr}{items:Array Value}{vl vu:Value}{lo hi:Option Int}{Q:Vs}(ht:IsTup s.heap t items)(hs:s.heap.IsSliceOf sl vl vu .none)(pl:IsPart vl lo)(pu:IsPart vu hi)
  (hw:¬(sIx items.size 0 lo=0/\sIx items.size items.size hi=items.size))
  (h:Q (.ref s.heap.objs.size) { s with heap:=s.heap.push { cls:=.type "tuple", data:=.seq ((items.toList.drop (sIx items.size 0 lo)).take (sIx items.size items.size hi - sIx items.size 0 lo)).toArray } })
  (hsz:items.size<=sizeLine):wpAny (model prog w) A (getItem (.ref t) (.ref sl)) Q E s:=by
 have htake:sizeOk (.seq ((items.toList.drop (sIx items.size 0 lo)).take (sIx items.size items.size hi - sIx items.size 0 lo)).toArray):=by
  show((items.toList.drop (sIx items.size 0 lo)).take (sIx items.size items.size hi - sIx items.size 0 lo)).toArray.size<=sizeLine;rw[ij,jr,List.length_drop,BX];omega
 have hj:sIx items.size items.size hi<=items.size:=sIx_le _ _ (bC _) hi;obtain⟨os,hos,hcs,hds⟩:=id hs;have hTs:s.TypeIs (.ref sl) "slice" := ⟨os,hos,hcs⟩
 unfold getItem
 try with_reducible refine v9 ?_
 first|refine au (aP ?_)|skip
 refine au (wpAny_sequenceKey ht.typeIs (by decide) ?_);refine au (Kw (name:=Str.ofString "__getitem__") ht.typeIs PyProof.Rows.slot_tuple_getitem
  (B1 PyProof.Rows.slot_tuple_getitem ht.typeIs entry_tuple_getitem ?_ (args_tuple_getitem _ _)))
 show wpAny _ _ (Builtin.Tuple.tupleItemsOf (.ref t) >>= _) _ _ s;refine au (tupleItemsOf_ ht ?_);refine au (wpAny_typeOf hTs ?_);rw[if_pos (by decide)];refine au (sliceApplied_gen hs pl pu ?_);have hno:¬((((sIx items.size 0 lo:Nat):Int) == 0&&(1:Int) == 1&&(sIx items.size items.size hi - sIx items.size 0 lo) == items.size)=true):=by
  intro q;rw[lN,lN]at q;have q1:((sIx items.size 0 lo:Nat):Int)=0:=eq_of_beq q.1.1;have q2:sIx items.size items.size hi - sIx items.size 0 lo=items.size:=eq_of_beq q.2;exact hw ⟨by omega,by omega⟩
 show wpAny _ _ (if (((sIx items.size 0 lo:Nat):Int) == 0&&(1:Int) == 1&&(sIx items.size items.size hi - sIx items.size 0 lo) == items.size)=true then _ else _) _ _ s;rw[if_neg hno,pick_gen]
 first
  |exact au (m:=Builtin.Tuple.tupleExact _) (yZ (aP ⟨_,rfl,aP h⟩) htake)
  |exact au (m:=Builtin.Tuple.tupleExact _) (yZ (au (aP (aP ⟨_,rfl,aP h⟩))) htake)
  |exact au (au (m:=Builtin.Tuple.tupleExact _) (yZ (aP (aP ⟨_,rfl,aP h⟩)) htake))
  |exact au (au (m:=Builtin.Tuple.tupleExact _) (yZ (aP ⟨_,rfl,aP h⟩) htake))
end
end HT
namespace L2
open PySem PySem.Spec PyProof.Rows
noncomputable abbrev TO:=St->Hp->(Option Int->Hp->Prop)->Prop
def PO(X:Cx)(e:Option Expr)(t:TO):Prop:=
 ∀(pins:Lo) (s:Shared) (σ:St) (H:Hp) (Q:Option Int->Hp->Prop),Inv X pins σ H s->t σ H Q->
  wpAny (model X.prog X.w) X.A (evalPart e X.env) (λu s'=>∃o H',Inv X pins σ H' s'/\IsPart u o/\Q o H') X.xe s
noncomputable def HH:TO:=λ_ H Q=>Q none H
noncomputable def PH(t:TE):TO:=λσ H Q=>t σ H λx H1=>∃i,x=.int i/\Q (some i) H1
section
variable{X:Cx}{e:Expr}{te:TE}{lo hi:Option Expr}{tl th:TO}{pos p2:Pos}
theorem eV:PO X none HH:=by
 intro pins s σ H Q I h;rw[evalPart_none];exact aP ⟨none,H,I,.none,h⟩
theorem dI(h:PE X e te):PO X (some e) (PH te):=by
 intro pins s σ H Q I hw;rw[evalPart_some];refine bE (h pins s σ H _ I hw) λu s1 ⟨x,H1,I1,r1,q1⟩=>?_;obtain⟨i,rfl,q⟩:=q1;obtain⟨t,rfl⟩:=r1;exact⟨some i,H1,I1,.int i t,q⟩
def N_(X:Cx)(r:V->Option Int->Option Int->Hp->VK->Prop):Prop:=
 ∀(pins:Lo) (s:Shared) (σ:St) (H:Hp) (x:V) (v vl vu:Value) (lo hi:Option Int) (sl:Addr) (Q:VK),Inv X pins σ H s->RelV x v->s.heap.IsSliceOf sl vl vu .none->IsPart vl lo->IsPart vu hi->r x lo hi H Q->
  ∃T id,typeLookup (.type T) "__getitem__" = pure (some (.builtin id))/\s.TypeIs v T/\wpAny (model X.prog X.w) X.A (getItem v (.ref sl)) (EP X pins σ Q) X.xe s
def T7(r:V->Option Int->Option Int->Hp->VK->Prop)(te:TE)(tl th:TO):TE:=λσ H Q=>te σ H λx H1=>tl σ H1 λl H2=>th σ H2 λu H3=>r x l u H3 Q
theorem c9(hr:N_ X r)(he:PE X e te)(hl:PO X lo tl)(hu:PO X hi th):PE X (.Subscript e (.Slice lo hi none p2) pos) (T7 r te tl th):=by
 intro pins s σ H Q I h;refine Subscript_ (bE (he pins s σ H _ I h) λv s1 ⟨x,H1,I1,r1,q1⟩=>?_);refine wpAny_Slice (bE (hl pins s1 σ H1 _ I1 q1) λvl s2 ⟨l,H2,I2,pl,q2⟩=>bE (hu pins s2 σ H2 _ I2 q2) λvu s3 ⟨u,H3,I3,pu,q3⟩=>?_);rw[evalPart_none];refine aP ?_;have I4:Inv X pins σ H3 { s3 with heap:=s3.heap.push { cls:=.type "slice", data:=.fields #[vl,vu,.none] } }:=I3.kept (t':=s3.toks) λb ob q=>cM _ q;obtain⟨T,id,hT,ht,hg⟩:=hr pins { s3 with heap:=s3.heap.push { cls:=.type "slice", data:=.fields #[vl,vu,.none] } } σ H3 x v vl vu l u s3.heap.objs.size Q I4 r1 (Heap.IsSliceOf.new ..) pl pu q3;show wpAny (model X.prog X.w) X.A (subscriptTail e (.Slice lo hi none p2) v (.ref s3.heap.objs.size)) (EP X pins σ Q) X.xe { s3 with heap:=s3.heap.push { cls:=.type "slice", data:=.fields #[vl,vu,.none] } };exact tail_any (ops:=[.ref s3.heap.objs.size,v]) ht hT hg (by with_unfolding_all rfl)
noncomputable def gp(xs:List V)(lo hi:Option Int):List V:=(xs.drop (HT.sIx xs.length 0 lo)).take (HT.sIx xs.length xs.length hi - HT.sIx xs.length 0 lo)
theorem jP(xs:List V)(lo hi:Option Int):(gp xs lo hi).length<=xs.length:=by
 unfold gp;rw[jr,List.length_drop];omega
noncomputable def NQ(K:Wf):V->Option Int->Option Int->Hp->VK->Prop:=λx lo hi H Q=>∃a xs,x=.ref a/\aR K H a xs/\
 ¬(HT.sIx xs.length 0 lo=0/\HT.sIx xs.length xs.length hi=xs.length)/\∀p,H p=none->Q (.ref p) (upd H p (.tup (gp xs lo hi)))
theorem Ly:N_ X (NQ X.K):=by
 intro pins s σ H x v vl vu lo hi sl Q I rx hs pl pu h;obtain⟨a,xs,rfl,hx,hw,q⟩:=h;cases rx;obtain⟨its,r,ht,hz⟩:=I.tuple hx;have hlen:its.toArray.size=xs.length:=by rw[ij];exact r.length.symm
 refine⟨"tuple", _,PyProof.Rows.slot_tuple_getitem.lookup,ht.typeIs,?_⟩;refine HT.getItem_tuple_cut ht hs pl pu (by rw[hlen];exact hw) ?_ (by rw[hlen];exact hz);rw[hlen];refine⟨.ref s.heap.objs.size,_,I.laid (t':=s.toks) (o:=.tup (gp xs lo hi)) (λb ob q=>cM _ q) (bC _) ?_,rfl,q _ (I.aV.fresh (bC _))⟩;exact⟨f9 (jP xs lo hi) hz,_,(r.drop (HT.sIx xs.length 0 lo)).take (HT.sIx xs.length xs.length hi - HT.sIx xs.length 0 lo),IsTup.new _ _⟩
def Kr(K:Wf):R2:=λx y H Q=>∃a b xs ys,x=.ref a/\y=.ref b/\aR K H a xs/\aR K H b ys/\xs≠[]/\xs.length+ys.length<=sizeLine/\
 (ys=[]->Q (.ref a) H)/\(ys≠[]->∀p,H p=none->Q (.ref p) (upd H p (.tup (xs++ys))))
theorem Vals.p_(r:Vals xs us):us=[]↔xs=[]:=by
 cases r with
 |nil=>simp
 |cons _ _=>simp
theorem IG:g8 X (binaryOp .Add) (Kr X.K):=by
 intro pins s σ H x y v u Q I rx ry h;obtain⟨a,b,xs,ys,rfl,rfl,ha,hb,hx,hz,q1,q2⟩:=h;cases rx;cases ry;obtain⟨its,r1,p1,_⟩:=I.tuple ha;obtain⟨its2,r2,p2,_⟩:=I.tuple hb;refine HT.cat_tup p1 p2 (λz=>hx (r1.p_.mp z)) (λz=>⟨.ref a,H,I,rfl,q1 (r2.p_.mp z)⟩) (λz=>?_) (by rw[<-r1.length,<-r2.length];exact hz);refine⟨.ref s.heap.objs.size,_,I.laid (t':=s.toks) (o:=.tup (xs++ys)) (λb ob q=>cM _ q) (bC _) ?_,rfl,q2 (λw=>z (r2.p_.mpr w)) _ (I.aV.fresh (bC _))⟩;exact⟨by rw[cW];exact hz,_,r1.append r2,IsTup.new _ _⟩
end
noncomputable def Hv(n:Nat)(i:Int):Option Nat:=if 0<=i then (if i<n then some i.toNat else none) else if -(n:Int)<=i then some (i+n).toNat else none
noncomputable def iI{α:Type}(xs:List α)(i:Int):Option α:=(Hv xs.length i).bind λj=>xs[j]?
theorem HQ(h:Hv n i=some j):seqIndex? i n=some j/\j<n /\ -(n:Int)<=i/\i<n:=by
 unfold Hv at h;by_cases h0:0<=i
 ·rw[if_pos h0]at h;by_cases h1:i<n
  ·rw[if_pos h1]at h;have e:i.toNat=j:=Option.some.inj h;exact⟨by rw[seqIndex_of h0 h1,e],by omega,by omega,h1⟩
  ·rw[if_neg h1]at h;cases h
 ·rw[if_neg h0]at h;by_cases h1 : -(n:Int)<=i
  ·rw[if_pos h1]at h;have e:(i+n).toNat=j:=Option.some.inj h;exact⟨by rw[seqIndex_neg (by omega) h1,e],by omega,h1,by omega⟩
  ·rw[if_neg h1]at h;cases h
theorem sr{α:Type}{xs:List α}{i:Int}{v:α}(h:iI xs i=some v):∃j,seqIndex? i xs.length=some j/\xs[j]?=some v/\j<xs.length /\ -(xs.length:Int)<=i/\i<xs.length:=by
 unfold iI at h;cases e:Hv xs.length i with
 |none=>rw[e]at h;cases h
 |some j=>
  rw[e]at h;obtain⟨h1,h2,h3,h4⟩:=HQ e;exact⟨j,h1,h,h2,h3,h4⟩
theorem cw{α:Type}{xs:List α}{j:Nat}{v:α}(h:xs[j]?=some v):iI xs (j:Int)=some v:=by
 have hj:j<xs.length:=(ig.mp h).1;have e:Hv xs.length (j:Int)=some j:=by
  unfold Hv;rw[if_pos (by omega),if_pos (by omega)];simp
 unfold iI;rw[e];exact h
theorem eI{α:Type}(xs:List α)(v:α):iI (xs++[v]) (-1)=some v:=by
 have hl:(xs++[v]).length=xs.length+1:=by simp
 have e:Hv (xs++[v]).length (-1)=some xs.length:=by
  unfold Hv;rw[hl,if_neg (by decide),if_pos (by omega)];congr 1;omega
 unfold iI;rw[e];show(xs++[v])[xs.length]?=some v;simp
def HU(b:Expr):Prop:=∀o i,subscripted b false o i=operate [o,i] (getItem o i)
def MZ(X:Cx)(r:R2):Prop:=
 ∀(value slice:Expr) (pins:Lo) (s:Shared) (σ:St) (H:Hp) (x y:V) (v u:Value) (Q:VK),Inv X pins σ H s->RelV x v->RelV y u->r x y H Q->
  subscripted slice false v u=operate [v,u] (getItem v u)->wpAny (model X.prog X.w) X.A (subscriptTail value slice v u) (EP X pins σ Q) X.xe s
def Se(X:Cx)(id:String)(r:V->List V->Hp->VK->Prop):Prop:=
 ∀(pins:Lo) (s:Shared) (σ:St) (H:Hp) (x:V) (xs:List V) (v:Value) (us:List Value) (Q:VK),Inv X pins σ H s->RelV x v->Vals xs us->r x xs H Q->
  wpAny (model X.prog X.w) X.A (call (.builtin id) (v::us)) (EP X pins σ Q) X.xe s
section
variable{X:Cx}{a b:Expr}{ta tb:TE}{pos:Pos}
theorem bT(hr:MZ X r)(ha:PE X a ta)(hb:PE X b tb)(hs:HU b):PE X (.Subscript a b pos) (yt r ta tb):=by
 intro pins s σ H Q I h;exact Subscript_ (LF ha hb I h λv u s2 x y H2 I2 rx ry q=>hr a b pins s2 σ H2 x y v u Q I2 rx ry q (hs _ _))
def Lf(K:Wf):R2:=λx y H Q=>∃p xs i v,x=.ref p/\y=.int i/\aD K H p xs/\iI xs i=some v/\Q v H
def qD(K:Wf):R2:=λx y H Q=>∃p xs i v,x=.ref p/\y=.int i/\aR K H p xs/\iI xs i=some v/\Q v H
def RD:R2:=λx y H Q=>∃z i c,x=.str z/\y=.int i/\z.length<=sizeLine/\iI z.cps.toList i=some c/\Q (.str ⟨#[c]⟩) H
theorem Jq:MZ X (Lf X.K):=by
 intro value slice pins s σ H x y v u Q I rx ry h hs;obtain⟨p,xs,i,z,rfl,rfl,hq,he,q⟩:=h;cases rx;obtain⟨t,rfl⟩:=ry;obtain⟨its,r,pl,hz⟩:=I.list hq;obtain⟨j,h1,h2,h3,h4,h5⟩:=sr he;obtain⟨w,ew,rw'⟩:=r.get h2;have hl:=r.length;have hn:=jI;have fin:EP X pins σ Q w s:=⟨z,H,I,rw',q⟩
 by_cases h0:0<=i
 ·have hj:i.toNat=j:=by
   rw[seqIndex_of h0 h5]at h1;exact Option.some.inj h1
  exact item_listR pl.isList h0 (by omega) (by rw[hj];simpa using ew) fin hs
 ·have hj:(i+(its.toArray.size:Int)).toNat=j:=by
   rw[seqIndex_neg (by omega) h4]at h1;rw[ij,<-hl];exact Option.some.inj h1
  exact subscriptTail_builtinR (x:=w) pl.isList.typeIs slot_list_getitem.lookup
   (wpAny_getItem_list_neg (Q:=λr s'=>r=w/\EP X pins σ Q r s') pl.isList (by omega) (by rw[ij]<;>omega) (by omega) (by rw[hj];simpa using ew) ⟨rfl,fin⟩) hs
theorem LM:MZ X (qD X.K):=by
 intro value slice pins s σ H x y v u Q I rx ry h hs;obtain⟨p,xs,i,z,rfl,rfl,hq,he,q⟩:=h;cases rx;obtain⟨t,rfl⟩:=ry;obtain⟨its,r,pl,hz⟩:=I.tuple hq;obtain⟨j,h1,h2,h3,h4,h5⟩:=sr he;obtain⟨w,ew,rw'⟩:=r.get h2;have hl:=r.length;have hn:=jI;have fin:EP X pins σ Q w s:=⟨z,H,I,rw',q⟩
 exact subscriptTail_builtinR (x:=w) pl.typeIs slot_tuple_getitem.lookup
  (getItem_tuple (j:=j) (Q:=λr s'=>r=w/\EP X pins σ Q r s') pl (by omega) (by omega) (by rw[ij,<-hl];exact h1) (by simpa using ew) ⟨rfl,fin⟩) hs
theorem K9:MZ X RD:=by
 intro value slice pins s σ H x y v u Q I rx ry h hs;obtain⟨z,i,c,rfl,rfl,hz,he,q⟩:=h;obtain⟨t,rfl⟩:=rx;obtain⟨t',rfl⟩:=ry;obtain⟨j,h1,h2,h3,h4,h5⟩:=sr he;have hl:z.cps.toList.length=z.length:=by simp[Str.length]
 rw[hl]at h1 h4 h5;have hn:=jI;exact tail_any (typeIs_str s z t) slot_str_getitem.lookup (getItem_str (c:=c) (by
  have e1:decide (i < -(2 ^ 63:Int))=false:=decide_eq_false (by omega);have e2:decide (i≥2 ^ 63)=false:=decide_eq_false (by omega);rw[e1,e2,Bool.or_false]) (by rw[h1];simpa using h2) ⟨.str ⟨#[c]⟩,H,I.tok _,⟨_,rfl⟩,q⟩) hs
theorem uD(lo hi:Option Int)(n:Nat):(sliceBounds lo hi none n).1=((HT.sIx n 0 lo:Nat):Int)/\(sliceBounds lo hi none n).2.1=((HT.sIx n n hi:Nat):Int)/\(sliceBounds lo hi none n).2.2=1:=by
 refine⟨?_,?_,rfl⟩
 ·cases lo with
  |none=>simp[sliceBounds,HT.sIx]
  |some i=>
   simp only[sliceBounds,HT.sIx,Option.getD_none,show(1:Int)>0 by decide,if_true];by_cases h:i<0
   ·simp only[h,if_true]<;>omega
   ·simp only[h,if_false]<;>omega
 ·cases hi with
  |none=>simp[sliceBounds,HT.sIx]
  |some i=>
   simp only[sliceBounds,HT.sIx,Option.getD_none,show(1:Int)>0 by decide,if_true];by_cases h:i<0
   ·simp only[h,if_true]<;>omega
   ·simp only[h,if_false]<;>omega
theorem mL(its:List Value)(lo hi:Option Int):slicePick its.toArray lo hi none=((its.drop (HT.sIx its.length 0 lo)).take (HT.sIx its.length its.length hi - HT.sIx its.length 0 lo)).toArray:=by
 obtain⟨h1,h2,h3⟩:=uD lo hi its.toArray.size;unfold slicePick;rw[h1,h2,h3];simp only[sliceRange_one,pick_run,List.size_toArray]<;>rfl
noncomputable def Pc(K:Wf):V->Option Int->Option Int->Hp->VK->Prop:=λx lo hi H Q=>∃a xs,x=.ref a/\aD K H a xs/\∀p,H p=none->Q (.ref p) (upd H p (.lst (gp xs lo hi)))
theorem Ij:N_ X (Pc X.K):=by
 intro pins s σ H x v vl vu lo hi sl Q I rx hs pl pu h;obtain⟨a,xs,rfl,hx,q⟩:=h;cases rx;obtain⟨its,r,ht,hz⟩:=I.list hx;have hlen:=r.length;refine⟨"list", _,slot_list_getitem.lookup,ht.isList.typeIs,?_⟩;refine wpAny_getItem_list_slice ht.isList hs pl pu .none (by simp) ?_ (by rw[List.size_toArray]<;>omega);rw[mL,<-hlen];refine⟨.ref s.heap.objs.size,_,I.laid (t':=s.toks) (o:=.lst (gp xs lo hi)) (λb ob q=>cM _ q) (bC _) ?_,rfl,q _ (I.aV.fresh (bC _))⟩;exact⟨f9 (jP xs lo hi) hz,_,0,(r.drop (HT.sIx xs.length 0 lo)).take (HT.sIx xs.length xs.length hi - HT.sIx xs.length 0 lo),gL _ rfl⟩
noncomputable def gI:V->Bool
 |.bj=>true
 |.bl _=>true
 |.int _=>true
 |.str _=>true
 |_=>false
noncomputable def Gx:V->V->Bool
 |.bj,.bj=>true
 |.bl a,.bl b=>a == b
 |.bl a,.int b=>(if a then 1 else 0) == b
 |.int a,.bl b=>a == (if b then 1 else 0)
 |.int a,.int b=>a == b
 |.str a,.str b=>a == b
 |_,_=>false
theorem LL(ry:RelV y u)(rx:RelV x v)(fy:gI y=true)(fx:gI x=true):SeqAt.EqAt A s u v (Gx y x):=by
 cases y with
 |bj=>
  cases ry;cases x with
  |bj=>cases rx;exact SeqAt.EqAt.same _
  |bl b=>cases rx;exact SeqAt.EqAt.none_bool b
  |int b=>obtain⟨t,rfl⟩:=rx;exact SeqAt.EqAt.none_int b t
  |str b=>obtain⟨t,rfl⟩:=rx;exact SeqAt.EqAt.none_str b t
  |_=>exact absurd (show false=true from fx) my
 |bl a=>
  cases ry;cases x with
  |bj=>cases rx;exact SeqAt.EqAt.bool_none a
  |bl b=>cases rx;exact SeqAt.EqAt.bool_bool a b
  |int b=>obtain⟨t,rfl⟩:=rx;exact SeqAt.EqAt.bool_int a b t
  |str b=>obtain⟨t,rfl⟩:=rx;exact SeqAt.EqAt.bool_str a b t
  |_=>exact absurd (show false=true from fx) my
 |int a=>
  obtain⟨t',rfl⟩:=ry;cases x with
  |bj=>cases rx;exact SeqAt.EqAt.int_none a t'
  |bl b=>cases rx;exact SeqAt.EqAt.int_bool a t' b
  |int b=>obtain⟨t,rfl⟩:=rx;exact SeqAt.EqAt.int_int a t' b t
  |str b=>obtain⟨t,rfl⟩:=rx;exact SeqAt.EqAt.int_str a t' b t
  |_=>exact absurd (show false=true from fx) my
 |str a=>
  obtain⟨t',rfl⟩:=ry;cases x with
  |bj=>cases rx;exact SeqAt.EqAt.str_none a t'
  |bl b=>cases rx;exact SeqAt.EqAt.str_bool a t' b
  |int b=>obtain⟨t,rfl⟩:=rx;exact SeqAt.EqAt.str_int a t' b t
  |str b=>obtain⟨t,rfl⟩:=rx;exact SeqAt.EqAt.str_str a t' b t
  |_=>exact absurd (show false=true from fx) my
 |_=>exact absurd (show false=true from fy) my
noncomputable def wg(x:V)(u:Value):Bool:=match u with
 |.none=>Gx .bj x
 |.bool b=>Gx (.bl b) x
 |.int i _=>Gx (.int i) x
 |.str z _=>Gx (.str z) x
 |_=>false
theorem EM(r:RelV y u)(f:gI y=true):wg x u=Gx y x:=by
 cases y with
 |bj=>cases r;rfl
 |bl b=>cases r;rfl
 |int i=>obtain⟨t,rfl⟩:=r;rfl
 |str z=>obtain⟨t,rfl⟩:=r;rfl
 |_=>exact absurd (show false=true from f) my
theorem i4:∀{xs:List V}{us:List Value},Vals xs us->xs.all gI=true->us.any (wg x)=xs.any λy=>Gx y x
 |_,_,.nil,_=>rfl
 |y::xs,u::us,.cons r t,f=>by
  rw[List.all_cons,lN]at f;rw[M4,M4,EM r f.1,i4 t f.2]
theorem gB(rx:RelV x v)(fx:gI x=true):∀{xs:List V}{us:List Value},Vals xs us->xs.all gI=true->∀u∈us,SeqAt.EqAt A s u v (wg x u)
 |_,_,.nil,_=>λu hu=>by cases hu
 |y::xs,u::us,.cons r t,f=>λu' hu=>by
  rw[List.all_cons,lN]at f;rcases iG.mp hu with rfl|hu
  ·rw[EM r f.1];exact LL r rx f.1 fx
  ·exact gB rx fx t f.2 u' hu
noncomputable def Nl(x:V)(xs:List V):Bool:=xs.any λy=>Gx y x
def QL(K:Wf)(neg:Bool):R2:=λx y H Q=>∃p xs,y=.ref p/\(aD K H p xs\/aR K H p xs)/\gI x=true/\xs.all gI=true/\Q (.bl (if neg then !Nl x xs else Nl x xs)) H
theorem AV:g8 X (compareOp .In) (QL X.K false):=by
 intro pins s σ H x y v u Q I rx ry h;obtain⟨p,xs,rfl,hq,fx,fs,q⟩:=h;cases ry;rcases hq with hq|hq
 ·obtain⟨its,r,pl,hz⟩:=I.list hq;refine SeqAt.in_listAt (wg x) pl.isList (λw hw=>gB rx fx r fs w (by simpa using hw)) ⟨.bl _,H,I,rfl,?_⟩;rw[show its.toArray.any (wg x)=its.any (wg x) by simp,i4 r fs];exact q
 ·obtain⟨its,r,pl,hz⟩:=I.tuple hq;refine SeqAt.in_tupleAt (wg x) pl (λw hw=>gB rx fx r fs w (by simpa using hw)) ⟨.bl _,H,I,rfl,?_⟩;rw[show its.toArray.any (wg x)=its.any (wg x) by simp,i4 r fs];exact q
theorem tW:g8 X (compareOp .NotIn) (QL X.K true):=by
 intro pins s σ H x y v u Q I rx ry h;obtain⟨p,xs,rfl,hq,fx,fs,q⟩:=h;cases ry;rcases hq with hq|hq
 ·obtain⟨its,r,pl,hz⟩:=I.list hq;refine SeqAt.notIn_listAt (wg x) pl.isList (λw hw=>gB rx fx r fs w (by simpa using hw)) ⟨.bl _,H,I,rfl,?_⟩;rw[show its.toArray.any (wg x)=its.any (wg x) by simp,i4 r fs];exact q
 ·obtain⟨its,r,pl,hz⟩:=I.tuple hq;refine SeqAt.notIn_tupleAt (wg x) pl (λw hw=>gB rx fx r fs w (by simpa using hw)) ⟨.bl _,H,I,rfl,?_⟩;rw[show its.toArray.any (wg x)=its.any (wg x) by simp,i4 r fs];exact q
theorem oI:cX X (.type "list") (λxs H Q=>∃p ys,xs=[.ref p]/\(aD X.K H p ys\/aR X.K H p ys)/\∀l,H l=none->Q (.ref l) (upd H l (.lst ys))):=by
 intro pins s σ H xs us Q I r h;obtain⟨p,ys,rfl,hq,q⟩:=h;obtain⟨u,rfl,rx⟩:=vals1 r;cases rx;have fin:∀(its:List Value),Vals ys its->ys.length<=sizeLine->∀(h':Heap) (c':Nat),(∀b o',s.heap.get? b=some o'->h'.get? b=some o')->
   h'.get? s.heap.objs.size=some { cls:=.type "list", dict:=none,data:=.seq its.toArray c',slots:=#[] }->EP X pins σ Q (.ref s.heap.objs.size) { s with heap:=h' }:=λits r' hz h' c' kp e=>
  ⟨.ref s.heap.objs.size,_,I.laid (t':=s.toks) kp (bC _) (show a6 X.prog X.w _ h' _ (.lst ys) from ⟨hz,its,c',r',e⟩),rfl,q _ (I.aV.fresh (bC _))⟩
 rcases hq with hq|hq
 ·obtain⟨its,r',pl,hz⟩:=I.list hq;have hlen:=r'.length;obtain⟨o,ho,hc,n,hd⟩:=pl.isList;exact call_list_seq p (.inl rfl) ho hc hd (λh' c' kp e=>fin its r' hz h' c' kp e) (by simp only[List.size_toArray]<;>omega)
 ·obtain⟨its,r',pl,hz⟩:=I.tuple hq;have hlen:=r'.length;obtain⟨o,ho,hc,n,hd⟩:=pl;exact call_list_seq p (.inr rfl) ho hc hd (λh' c' kp e=>fin its r' hz h' c' kp e) (by simp only[List.size_toArray]<;>omega)
def Q9(K:Wf)(T:String)(x:V)(H:Hp):Prop:=match x with
 |.str _=>T = "str"
 |.int _=>T = "int"
 |.ref p=>(T = "list" /\ ∃xs,aD K H p xs)\/(T = "tuple" /\ ∃o,K.lookup p=some o/\o.cls=.type "tuple" /\ o.dict=none) \/
   (T = "dict" /\ ((∃af,H p=some (.dK af))\/∃af,H p=some (.dT af)))\/(T = "set" /\ ∃S n,H p=some (.set S n))
 |_=>False
theorem FI(I:Inv X pins σ H s)(r:RelV x v)(ty:Q9 X.K T x H):
  s.TypeIs v T/\∀a,v=.ref a->∃ob,s.heap.get? a=some ob/\ob.dict=none:=by
 cases x with
 |str z=>
  obtain⟨t,rfl⟩:=r;cases (show T = "str" from ty);exact⟨typeIs_str s z t,λ_ e=>nomatch e⟩
 |int i=>
  obtain⟨t,rfl⟩:=r;cases (show T = "int" from ty);exact⟨typeIs_int s i t,λ_ e=>nomatch e⟩
 |ref p=>
  cases r;rcases ty with ⟨rfl,xs,hq⟩|⟨rfl,o,hk,hc,hd⟩|⟨rfl,hk⟩|⟨rfl,S,n,hk⟩
  ·obtain⟨its,_,pl,_⟩:=I.list hq;refine⟨pl.isList.typeIs,λa e=>?_⟩;cases e;obtain⟨o,n,e,c,hd,_⟩:=pl;exact⟨o,e,hd⟩
  ·refine⟨⟨o,I.jH p o hk,hc⟩,λa e=>?_⟩;cases e;exact⟨o,I.jH _ o hk,hd⟩
  ·have z:∃o,s.heap.get? p=some o/\o.ExactDict:=by
    rcases hk with ⟨af,hk⟩|⟨af,hk⟩
    ·obtain⟨_,_,_,_,o,_,_,e,ex,_⟩:=I.aV p _ hk;exact⟨o,e,ex⟩
    ·obtain⟨_,_,_,_,o,_,_,e,ex,_⟩:=I.aV p _ hk;exact⟨o,e,ex⟩
   obtain⟨o,e,ex⟩:=z;refine⟨⟨o,e,ex.1⟩,λa e2=>?_⟩;cases e2;exact⟨o,e,ex.2.1⟩
  ·obtain⟨o,_,_,_,e,ex,_⟩:=I.aV p _ hk;refine⟨⟨o,e,ex.1⟩,λa e2=>?_⟩;cases e2;exact⟨o,e,ex.2.1⟩
 |_=>exact False.elim ty
def R_(K:Wf)(T:String)(r:V->List V->Hp->VK->Prop)(to:TE):TE:=λσ H Q=>to σ H λx H1=>Q9 K T x H1/\r x [] H1 Q
def Sv(K:Wf)(T:String)(r:V->List V->Hp->VK->Prop)(to:TE)(t:TA):TE:=λσ H Q=>to σ H λx H1=>Q9 K T x H1/\t σ H1 λxs H2=>r x xs H2 Q
variable{o e:Expr}{es:List Expr}{to:TE}{t:TA}{name:Str}{apos cpos:Pos}{T id:String}{r:V->List V->Hp->VK->Prop}
theorem LK(pa:PlainAttrs T)(slot:Slot T name id)(hty:typeOf (.builtin id)=pure (.type "method_descriptor"))(hm:Se X id r)(ho:PE X o to)
  (hbase:attributeBase o name X.env (eval o X.env)=eval o X.env:=by rfl) (hline:(apos.endLine == cpos.line)=true:=by rfl):PE X (.Call (.Attribute o name apos) [] [] cpos) (R_ X.K T r to):=by
 intro pins s σ H Q I h;refine wpAny_Call_method0_late hbase hline (bE (ho pins s σ H _ I h) λv s1 ⟨x,H1,I1,r1,ty,q1⟩=>?_);obtain⟨h1,h2⟩:=FI I1 r1 ty;exact⟨T,id,pa,slot,hty,h1,h2,Calls.callWith_builtin rfl (PySem.evalArgs_none (hm pins s1 σ H1 x [] v [] Q I1 r1 .nil q1))⟩
theorem FT(pa:PlainAttrs T)(slot:Slot T name id)(hty:typeOf (.builtin id)=pure (.type "method_descriptor"))(hm:Se X id r)(ho:PE X o to)(ha:PA X (e::es) t)
  (hbase:attributeBase o name X.env (eval o X.env)=eval o X.env:=by rfl)
  (hfew:((backTo cpos (starEach (e::es) X.env)).all (λx=>!x.1)&&(backToKw cpos (keywordEach [] X.env)).all (λx=>x.1.isSome)
   && decide ((e::es).length+([]:List Keyword).length+(if ([]:List Keyword).isEmpty then 0 else 1)<30))=true:=by rfl)
  (hline:(apos.endLine == cpos.line)=true:=by rfl) (hs:starEach (e::es) X.env=(false,eval e X.env)::starEach es X.env:=by rfl) (hplain:(backTo cpos (starEach es X.env)).any (·.1)=false:=by rfl):
  PE X (.Call (.Attribute o name apos) (e::es) [] cpos) (Sv X.K T r to t):=by
 intro pins s σ H Q I h;refine wpAny_Call_method_late hbase hfew hline rfl (bE (ho pins s σ H _ I h) λv s1 ⟨x,H1,I1,r1,ty,q1⟩=>?_);obtain⟨h1,h2⟩:=FI I1 r1 ty;refine⟨T,id,pa,slot,hty,h1,h2,?_⟩;have hA:=ha cpos pins s1 σ H1 _ I1 q1;rw[hs]at hA ⊢;refine Calls.callWith_builtin (by show(false || (backTo cpos (starEach es X.env)).any (·.1))=false;rw[hplain]<;>rfl) (Calls.evalArgs_plain ?_);exact bE hA λus s2 ⟨vs,H2,I2,r2,q2⟩=>hm pins s2 σ H2 x vs v us Q I2 r1 r2 q2
/- xs.append(e),list.index on a module's tuple .. are Se facts of 06m -/
end
def QI(X:Cx)(id:String)(r:V->List V->Hp->VK->Prop):Prop:=
 ∀(pins:Lo) (s:Shared) (σ:St) (H:Hp) (x:V) (xs:List V) (v:Value) (us:List Value) (Q:VK),Inv X pins σ H s->RelV x v->Vals xs us->r x xs H Q->
  wpAny (model X.prog X.w) X.A (call (.builtin id) (v::us)) (EP X pins σ Q) X.xe s
theorem Vals.one:∀{x:V}{us:List Value},Vals [x] us->∃u,us=[u]/\RelV x u
 |_,_,.cons r .nil=>⟨_,rfl,r⟩
theorem Vals.zero:∀{us:List Value},Vals [] us->us=[]
 |_,.nil=>rfl
theorem Vals.dropLast(h:Vals xs us):Vals xs.dropLast us.dropLast:=by
 induction h with
 |nil=>exact .nil
 |cons r t ih=>
  cases t with
  |nil=>exact .nil
  |cons q t'=>exact .cons r ih
theorem wq{α:Type}(l:List α):l.eraseIdx (l.length - 1)=l.dropLast:=by
 induction l with
 |nil=>rfl
 |cons a r ih=>
  cases r with
  |nil=>rfl
  |cons b r=>
   have e:(a::b::r).length - 1=((b::r).length - 1)+1:=by
    have h1:(a::b::r).length=r.length+2:=rfl;have h2:(b::r).length=r.length+1:=rfl;omega
   rw[e,List.eraseIdx_cons_succ,ih]
   all_goals rfl
section
variable{X:Cx}{pins:Lo}{σ:St}{H:Hp}{s:Shared}{l b:Addr}{xs ys zs:List V}
theorem Inv.Ms{its its':List Value}{n:Nat}{f:Array Value->Array Value}{t':Nat}(I:Inv X pins σ H s)(hH:H l=some (.lst xs))
  (e:s.heap.get? l=some { cls:=.type "list", data:=.seq its.toArray n }) (hf:f its.toArray=its'.toArray) (hv:Vals ys its') (hz:ys.length<=sizeLine):
  Inv X pins σ (upd H l (.lst ys)) { s with heap:=s.heap.update l (Obj.mapSeq f),toks:=t' }:=by
 have q:=PySem.IsL.update e f;rw[hf]at q;refine I.write (x:=l) (e:=l) (by rw[hH];exact trivial) (.inl rfl) (λb' u hb hu=>(Heap.get?_update_other s.heap (Obj.mapSeq f) (Ne.symm hb)).trans hu) ⟨_,q⟩ ?_;exact⟨hz,its',_,hv,q⟩
theorem Inv.MI(I:Inv X pins σ H s)(hv:Vals ys its)(hz:ys.length<=sizeLine):
  Inv X pins σ (upd H s.heap.objs.size (.lst ys)) { s with heap:=s.heap.push { cls:=.type "list", data:=.seq its.toArray },toks:=t' }:=
 I.laid (λ_ _ q=>cM _ q) (bC _) ⟨hz,its,0,hv,gL _ rfl⟩
theorem Inv.fresh(I:Inv X pins σ H s):H s.heap.objs.size=none:=I.aV.fresh (bC _)
theorem Inv.IM(I:Inv X pins σ H s)(hH:H l=some (.lst xs)):xs.length<=sizeLine/\∃(its:List Value) (n:Nat),Vals xs its/\xs.length=its.length/\s.heap.get? l=some { cls:=.type "list", data:=.seq its.toArray n }:=by
 obtain⟨z,its,n,r,e⟩:=I.aV l _ hH;exact⟨z,its,n,r,r.length,e⟩
theorem D6(h:n<=sizeLine):Builtin.List.listTooLong n=false:=by
 unfold Builtin.List.listTooLong;exact decide_eq_false (by omega)
end
section
variable{X:Cx}
noncomputable def zK:V->List V->Hp->VK->Prop:=λx vs H Q=>∃l xs y,x=.ref l/\vs=[y]/\H l=some (.lst xs)/\xs.length<sizeLine/\Q .bj (upd H l (.lst (xs++[y])))
theorem mM:QI X "list.append" zK:=by
 intro pins s σ H x vs v us Q I rx rv h;obtain⟨l,xs,y,rfl,rfl,hH,hz,q⟩:=h;cases rx;obtain⟨u,rfl,ru⟩:=rv.one;obtain⟨z,its,n,r,hl,e⟩:=I.IM hH;refine call_meets F.slot_list_append ⟨_,e,rfl⟩ F.entry_list_append (F.args_list_append_2 _ _) (PySem.list_append l its.toArray n u (by rw[ij];omega)) ⟨e,?_⟩;refine⟨.bj,_,I.Ms (its':=its++[u]) hH e (by simp) (r.append (.cons ru .nil)) ?_,rfl,q⟩;rw[cW,JK];omega
noncomputable def Je:V->List V->Hp->VK->Prop:=λx vs H Q=>∃l b xs zs,x=.ref l/\vs=[.ref b]/\H l=some (.lst xs)/\H b=some (.lst zs)/\xs.length+zs.length<=sizeLine/\Q .bj (upd H l (.lst (xs++zs)))
theorem AS:QI X "list.extend" Je:=by
 intro pins s σ H x vs v us Q I rx rv h;obtain⟨l,b,xs,zs,rfl,rfl,hH,hB,hz,q⟩:=h;cases rx;obtain⟨u,rfl,ru⟩:=rv.one;cases ru;obtain⟨z,its,n,r,hl,e⟩:=I.IM hH;obtain⟨z2,its2,n2,r2,hl2,e2⟩:=I.IM hB;have hsz:its.toArray.size+its2.toArray.size<=sizeLine:=by rw[ij,ij];omega
 have hlong:¬(!its.toArray.isEmpty&&Builtin.List.listTooLong (its.toArray.size+its2.toArray.size))=true:=by
  rw[D6 hsz,Bool.and_false];exact my
 refine call_meets F.slot_list_extend ⟨_,e,rfl⟩ F.entry_list_extend (F.args_list_extend_2 _ _)
  (AutoSeq1.list_extend_list_list_0 l its.toArray n b its2.toArray n2 hlong (by rw[ij];omega) (by omega)) ⟨e,e2,?_⟩
 refine⟨.bj,_,I.Ms (its':=its++its2) hH e (by simp) (r.append r2) ?_,rfl,q⟩;rw[cW];omega
noncomputable def RO:V->List V->Hp->VK->Prop:=λx vs H Q=>∃l xs y,x=.ref l/\vs=[]/\H l=some (.lst xs)/\xs[xs.length - 1]?=some y/\Q y (upd H l (.lst xs.dropLast))
theorem LN:QI X "list.pop" RO:=by
 intro pins s σ H x vs v us Q I rx rv h;obtain⟨l,xs,y,rfl,rfl,hH,hy,q⟩:=h;cases rx;have hus:=rv.zero;subst hus;obtain⟨z,its,n,r,hl,e⟩:=I.IM hH;obtain⟨u,hu,ru⟩:=r.get hy;have hy':its.toArray[its.toArray.size - 1]?=some u:=by
  show its.toArray[its.length - 1]?=some u;rw[<-M5,<-hl];exact hu
 refine call_meets F.slot_list_pop ⟨_,e,rfl⟩ F.entry_list_pop (F.args_list_pop_1 _) (MeetsSeq.list_pop_last l its.toArray n u hy' (by rw[ij];omega)) ⟨e,?_⟩;refine⟨y,_,I.Ms (its':=its.dropLast) hH e ?_ r.dropLast ?_,ru,q⟩
 ·show its.toArray.eraseIdxIfInBounds (its.toArray.size - 1)=its.dropLast.toArray;rw[ij,List.eraseIdxIfInBounds_toArray,wq]
 ·rw[List.length_dropLast];omega
end
section
variable{prog:Program}{w:World}{A:Around}{E:Vs}{s:Shared}
set_option maxRecDepth 100000 in
end
section
variable{X:Cx}
end
section
variable{κ:Type} [DecidableEq κ]
noncomputable def a8(af:List (κ×V))(k:κ):Option V:=(af.find? λkv=>decide (kv.1=k)).map (·.2)
noncomputable def putK(af:List (κ×V))(k:κ)(v:V):List (κ×V):=
 if (af.any λkv=>decide (kv.1=k))=true then af.map (λkv=>if kv.1=k then (kv.1,v) else kv) else af++[(k,v)]
theorem cz{p:κ×V}{r:List (κ×V)}{k:κ}(e:p.1=k):a8 (p::r) k=some p.2:=by simp[a8,List.find?_cons,e]
theorem cC{p:κ×V}{r:List (κ×V)}{k:κ}(e:¬p.1=k):a8 (p::r) k=a8 r k:=by simp[a8,List.find?_cons,e]
theorem eJ(k:κ):∀af:List (κ×V),(af.any λkv=>decide (kv.1=k))=(a8 af k).isSome
 |[]=>rfl
 |p::r=>by
  rw[M4];by_cases e:p.1=k
  ·simp only[cz e,decide_eq_true e,Bool.true_or,Option.isSome_some]
  ·rw[cC e,decide_eq_false e,Bool.false_or];exact eJ k r
theorem vL(k j:κ)(y:V):∀af:List (κ×V),a8 (af.map λkv=>if kv.1=k then (kv.1,y) else kv) j=(a8 af j).map λx=>if j=k then y else x
 |[]=>rfl
 |p::r=>by
  have ih:=vL k j y r;rw[fH];by_cases h:p.1=k
  ·rw[if_pos h];by_cases e:p.1=j
   ·rw[cz (p:=(p.1,y)) e,cz e,Option.map_some,if_pos (e.symm.trans h)]
   ·rw[cC (p:=(p.1,y)) e,cC e,ih]
  ·rw[if_neg h];by_cases e:p.1=j
   ·rw[cz (p:=p) e,cz e,Option.map_some,if_neg (λz=>h (e.trans z))]
   ·rw[cC (p:=p) e,cC e,ih]
theorem nR(k j:κ)(y:V):∀af:List (κ×V),a8 af k=none->a8 (af++[(k,y)]) j=if j=k then some y else a8 af j
 |[],_=>by
  by_cases e:k=j
  ·rw[if_pos e.symm];exact cz (p:=(k,y)) e
  ·rw[if_neg (λz=>e z.symm)];exact cC (p:=(k,y)) e
 |p::r,hn=>by
  rw[O1];have hk:¬p.1=k:=λz=>by rw[cz z]at hn;cases hn
  rw[cC hk]at hn;have ih:=nR k j y r hn;by_cases e:p.1=j
  ·rw[cz e,cz e,if_neg (λz=>hk (e.trans z))]
  ·rw[cC e,cC e,ih]
theorem Gr(af:List (κ×V))(k j:κ)(y:V):a8 (putK af k y) j=if j=k then some y else a8 af j:=by
 unfold putK;by_cases a:(af.any λkv=>decide (kv.1=k))=true
 ·rw[if_pos a,vL];rw[eJ]at a;by_cases e:j=k
  ·obtain⟨x,hx⟩:=QC.mp a;rw[if_pos e,e,hx,Option.map_some,if_pos rfl]
  ·rw[if_neg e];cases a8 af j with
   |none=>rfl
   |some x=>rw[Option.map_some,if_neg e]
 ·rw[if_neg a];refine nR k j y af ?_;rw[eJ]at a;cases q:a8 af k with
  |none=>rfl
  |some x=>rw[q]at a;exact(a rfl).elim
theorem cY(af:List (κ×V))(k:κ)(v:V):(putK af k v).length<=af.length+1:=by
 unfold putK;split
 ·rw[az];omega
 ·rw[cW,je,List.length_nil];omega
theorem GX{af:List (κ×V)}{k:κ}(v:V)(h:a8 af k=none):putK af k v=af++[(k,v)]:=by
 unfold putK;rw[eJ,h];exact if_neg (by decide)
theorem fM.fi(r:fM o u):o.isSome=u.isSome:=by
 cases o with
 |none=>cases u with
  |none=>rfl
  |some _=>exact(show False from r).elim
 |some _=>cases u with
  |none=>exact(show False from r).elim
  |some _=>rfl
theorem fM.getD(r:fM o u)(rd:RelV d d'):RelV (o.getD d) (u.getD d'):=by
 cases o with
 |none=>cases u with
  |none=>exact rd
  |some _=>exact(show False from r).elim
 |some _=>cases u with
  |none=>exact(show False from r).elim
  |some _=>exact r
theorem KV.val(r:KV af vs)(k:κ):fM (a8 af k) (valueAt vs k):=by
 unfold KV at r
 induction r with
 |nil=>exact True.intro
 |@cons p q ps qs h t ih=>
  obtain⟨h1,h2⟩:=h;by_cases e:p.1=k
  ·have e':q.1=k:=h1.symm.trans e;have b:valueAt (q::qs) k=some q.2:=by simp[valueAt,List.find?_cons,e']
   rw[cz e,b];exact h2
  ·have e':¬q.1=k:=λz=>e (h1.trans z);have b:valueAt (q::qs) k=valueAt qs k:=by simp[valueAt,List.find?_cons,e']
   rw[cC e,b];exact ih
theorem KV.any(r:KV af vs)(k:κ):(af.any λkv=>decide (kv.1=k))=vs.any λkv=>decide (kv.1=k):=by
 unfold KV at r
 induction r with
 |nil=>rfl
 |cons h t ih=>rw[M4,M4,ih,h.1]
theorem KV.MQ(r:KV af vs)(k:κ){y:V}{u:Value}(ry:RelV y u):
  KV (af.map λkv=>if kv.1=k then (kv.1,y) else kv) (vs.map λkv=>if kv.1=k then (kv.1,u) else kv):=by
 unfold KV at r ⊢
 induction r with
 |nil=>exact .nil
 |@cons p q ps qs h t ih=>
  rw[fH,fH];refine .cons ?_ ih;obtain⟨h1,h2⟩:=h;by_cases e:p.1=k
  ·rw[if_pos e,if_pos (h1.symm.trans e)];exact⟨h1,ry⟩
  ·rw[if_neg e,if_neg (λz=>e (h1.trans z))];exact⟨h1,h2⟩
theorem KV.put(r:KV af vs)(k:κ){y:V}{u:Value}(ry:RelV y u):KV (putK af k y) (stored vs k u):=by
 unfold putK stored;rw[r.any k];by_cases e:(vs.any λkv=>decide (kv.1=k))=true
 ·rw[if_pos e,if_pos e];exact r.MQ k ry
 ·rw[if_neg e,if_neg e];exact Paired.snoc r ⟨rfl,ry⟩
theorem KV.length(r:KV af vs):af.length=vs.length:=Paired.length r
end
theorem iW(r:RelV (kV k) u):(aW P w).is k u=true:=by
 cases k with
 |inl i=>obtain⟨t,e⟩:=(show ∃t,u=Value.int i t from r);subst e;exact u3 P w i t
 |inr x=>obtain⟨t,e⟩:=(show ∃t,u=Value.str x t from r);subst e;exact vB P w x t
theorem nZ:∀{ks:List Key}{us:List Value},Vals (ks.map kV) us->ItemsAre (aW P w) ks us
 |[],_,r=>by rw[List.map_nil]at r;cases r;exact .nil
 |k::ks,_,r=>by
  rw[fH]at r;cases r with
  |cons h t=>exact .cons (iW h) (nZ t)
noncomputable abbrev KT(H:Hp):List (List Key×V)->List (List Key×Addr×Value)->Prop:=Paired λp q=>p.1=q.1/\H q.2.1=some (.tup (p.1.map kV))/\RelV p.2 q.2.2
theorem KT.val(r:KT H af xs)(k:List Key):fM (a8 af k) ((atKey xs k).map (·.2)):=by
 induction r with
 |nil=>exact True.intro
 |@cons p q ps qs h t ih=>
  obtain⟨h1,_,h2⟩:=h;by_cases e:p.1=k
  ·have e':q.1=k:=h1.symm.trans e;have b:atKey (q::qs) k=some q.2:=by simp[atKey,List.find?_cons,e']
   rw[cz e,b];exact h2
  ·have e':¬q.1=k:=λz=>e (h1.trans z);have b:atKey (q::qs) k=atKey qs k:=by simp[atKey,List.find?_cons,e']
   rw[cC e,b];exact ih
theorem KT.MQ(r:KT H af xs)(k:List Key){y:V}{u:Value}(ry:RelV y u):
  KT H (af.map λkv=>if kv.1=k then (kv.1,y) else kv) (xs.map (putAt k u)):=by
 induction r with
 |nil=>exact .nil
 |@cons p q ps qs h t ih=>
  rw[fH,fH];refine .cons ?_ ih;obtain⟨h1,h2,h3⟩:=h;unfold putAt;by_cases e:p.1=k
  ·rw[if_pos e,if_pos (h1.symm.trans e)];exact⟨h1,h2,ry⟩
  ·rw[if_neg e,if_neg (λz=>e (h1.trans z))];exact⟨h1,h2,h3⟩
theorem KT.put(r:KT H af xs)(k:List Key){b:Addr}{y:V}{u:Value}(hb:H b=some (.tup (k.map kV)))(ry:RelV y u):
  KT H (putK af k y) (storedH xs k b u):=by
 have e:(af.any λkv=>decide (kv.1=k))=(atKey xs k).isSome:=by
  rw[eJ,(r.val k).fi,M8]
 unfold putK storedH;rw[e];by_cases q:(atKey xs k).isSome=true
 ·rw[if_pos q,if_pos q];exact r.MQ k ry
 ·rw[if_neg q,if_neg q];exact Paired.snoc r ⟨rfl,hb,ry⟩
theorem KT.keeps(r:KT H af xs)(ht:∀b ys,H b=some (.tup ys)->H' b=some (.tup ys)):KT H' af xs:=
 Paired.Iy r λ_ _ z=>⟨z.1,ht _ _ z.2.1,z.2.2⟩
section
variable{P:Program}{w:World}{H:Hp}{h:Heap}{a:Addr}
theorem JT(ok:g7 P w H h)(e:Rd H a u):a6 P w H h a u:=e.ok ok
theorem jU(ok:g7 P w H h)(e:Rd H a (.dK af)):af.length<=sizeLine/\(a == sysModules)=false/\∃vs,KV af vs/\h.DictOf (aW P w) a vs:=
 show a6 P w H h a (.dK af) from JT ok e
theorem nh(ok:g7 P w H h)(e:H a=some (.dK af)):af.length<=sizeLine/\(a == sysModules)=false/\∃vs,KV af vs/\h.DictOf (aW P w) a vs:=jU ok (.inl e)
theorem eZ(ok:g7 P w H h)(e:H a=some (.tup (ks.map kV))):(tupleKind (aW P w)).is h ks a:=by
 obtain⟨_,its,r,o,h1,h2,n,h3⟩:=(show a6 P w H h a (.tup (ks.map kV)) from ok a _ e)
 exact⟨o,its.toArray,n,h1,h2,h3,by simpa using nZ r⟩
theorem jQ(ok:g7 P w H h)(e:Rd H a (.dT af)):af.length<=sizeLine/\(a == sysModules)=false/\
  ∃xs,KT H af xs/\h.DictOfH (tupleKind (aW P w)) a xs:=by
 obtain⟨z,y,xs,r,o,es,ep,h1,h2,h3,h4,h5⟩:=(show a6 P w H h a (.dT af) from JT ok e)
 refine⟨z,y,xs,r,o,es,ep,h1,h2,h3,h4,λx hx=>?_,h5⟩;have all:∀{l:List (List Key×V)}{m:List (List Key×Addr×Value)},KT H l m->∀x∈m,(tupleKind (aW P w)).is h x.1 x.2.1:=by
  intro l m q
  induction q with
  |nil=>intro x hx;exact nomatch hx
  |@cons p q ps qs hq t ih=>
   intro x hx;rcases iG.mp hx with e|hx
   ·subst e;exact eZ ok (by rw[<-hq.1];exact hq.2.1)
   ·exact ih x hx
 exact all r x hx
theorem GN(ok:g7 P w H h)(e:H a=some (.dT af)):af.length<=sizeLine/\(a == sysModules)=false/\
  ∃xs,KT H af xs/\h.DictOfH (tupleKind (aW P w)) a xs:=jQ ok (.inl e)
end
def bx(H:Hp)(a:Addr)(y:V)(r:Option V):Prop:=
 (∃af k,Rd H a (.dK af)/\y=kV k/\r=a8 af k)\/∃af k b,Rd H a (.dT af)/\y=.ref b/\H b=some (.tup (k.map kV))/\r=a8 af k
def eM(H:Hp)(a:Addr)(y v:V)(H':Hp):Prop:=
 (∃af k,H a=some (.dK af)/\y=kV k/\af.length<sizeLine/\H'=upd H a (.dK (putK af k v))) \/
 ∃af k b,H a=some (.dT af)/\y=.ref b/\H b=some (.tup (k.map kV))/\af.length<sizeLine/\H'=upd H a (.dT (putK af k v))
theorem bx.k{H:Hp}{a:Addr}{af:List (Key×V)}{k:Key}(e:H a=some (.dK af)):bx H a (kV k) (a8 af k):=.inl ⟨af,k,.inl e,rfl,rfl⟩
theorem bx.t{H:Hp}{a b:Addr}{af:List (List Key×V)}{k:List Key}(e:H a=some (.dT af))(eb:H b=some (.tup (k.map kV))):bx H a (.ref b) (a8 af k):=.inr ⟨af,k,b,.inl e,rfl,eb,rfl⟩
theorem eM.k{H:Hp}{a:Addr}{af:List (Key×V)}{k:Key}{v:V}(e:H a=some (.dK af))(hl:af.length<sizeLine):eM H a (kV k) v (upd H a (.dK (putK af k v))):=.inl ⟨af,k,e,rfl,hl,rfl⟩
theorem eM.t{H:Hp}{a b:Addr}{af:List (List Key×V)}{k:List Key}{v:V}(e:H a=some (.dT af))(eb:H b=some (.tup (k.map kV)))(hl:af.length<sizeLine):
  eM H a (.ref b) v (upd H a (.dT (putK af k v))):=.inr ⟨af,k,b,e,rfl,eb,hl,rfl⟩
section
variable{X:Cx}{pins:Lo}{σ:St}{H:Hp}{s:Shared}{a:Addr}{y v:V}{u r:Value}{o:Option V}{A:Around}{E:Vs}
theorem Inv.big(I:Inv X pins σ H s):sysModules<s.heap.objs.size:=by
 have h:mainGlobals<s.heap.objs.size:=(I.mod.glob.keeps I.bk).lt;exact Nat.lt_trans (by decide) h
theorem Br(hu:A.units+1<cLine)(I:Inv X pins σ H s)(g:bx H a y (some v))(ry:RelV y u)(h:∀w' s',Inv X pins σ H s'->RelV v w'->Q w' s'):
  wpAny (model X.prog X.w) A (getItem (.ref a) u) Q E s:=by
 rcases g with ⟨af,k,e,ey,l⟩|⟨af,k,b,e,ey,eb,l⟩
 ·subst ey;obtain⟨z,hd,vs,rel,dd⟩:=jU I.aV e;obtain⟨w',hw,rw'⟩:=fM.some_of (v:=v) (o:=valueAt vs k) (by rw[l];exact rel.val k);exact wpAny_getItem_of (iW ry) dd.mapOf hw (h w' _ (I.tok _) rw')
 ·subst ey;cases (show u=Value.ref b from ry);obtain⟨z,hd,xs,rel,dd⟩:=jQ I.aV e;obtain⟨w',hw,rw'⟩:=fM.some_of (v:=v) (o:=(atKey xs k).map (·.2)) (by rw[l];exact rel.val k);obtain⟨p,hp,hp2⟩:=d_.mp hw;refine wpAny_getItem_heap (tupleKind_room_in1 hu) (eZ I.aV eb) dd hp ?_;rw[hp2];exact h w' _ (I.tok _) rw'
theorem QV(hu:A.units+1<cLine)(I:Inv X pins σ H s)(g:bx H a y o)(ry:RelV y u)(h:∀s',Inv X pins σ H s'->Q (.bool o.isSome) s'):
  wpAny (model X.prog X.w) A (compareOp .In u (.ref a)) Q E s:=by
 rcases g with ⟨af,k,e,ey,l⟩|⟨af,k,b,e,ey,eb,l⟩
 ·subst ey;obtain⟨z,hd,vs,rel,dd⟩:=jU I.aV e;refine wpAny_in_of (iW ry) hd dd.mapOf ?_;rw[<-(rel.val k).fi,<-l];exact h _ (I.tok _)
 ·subst ey;cases (show u=Value.ref b from ry);obtain⟨z,hd,xs,rel,dd⟩:=jQ I.aV e;refine wpAny_in_heap (tupleKind_room_in1 hu) (eZ I.aV eb) hd dd ?_;have q:=(rel.val k).fi;rw[M8]at q;rw[<-q,<-l];exact h _ (I.tok _)
theorem HL(hu:A.units+1<cLine)(I:Inv X pins σ H s)(g:bx H a y o)(ry:RelV y u)(h:∀s',Inv X pins σ H s'->Q (.bool (!o.isSome)) s'):
  wpAny (model X.prog X.w) A (compareOp .NotIn u (.ref a)) Q E s:=by
 rcases g with ⟨af,k,e,ey,l⟩|⟨af,k,b,e,ey,eb,l⟩
 ·subst ey;obtain⟨z,hd,vs,rel,dd⟩:=jU I.aV e;refine wpAny_notIn_of (iW ry) hd dd.mapOf ?_;rw[<-(rel.val k).fi,<-l];exact h _ (I.tok _)
 ·subst ey;cases (show u=Value.ref b from ry);obtain⟨z,hd,xs,rel,dd⟩:=jQ I.aV e;refine wpAny_notIn_heap (tupleKind_room_in1 hu) (eZ I.aV eb) hd dd ?_;have q:=(rel.val k).fi;rw[M8]at q;rw[<-q,<-l];exact h _ (I.tok _)
theorem g6(I:Inv X pins σ H s)(mu:OS (H a))(hs:Heap.SameBut a s.heap h')(he:∃q,h'.get? a=some q)(new:a6 X.prog X.w (upd H a ob) h' a ob):
  Inv X pins σ (upd H a ob) { s with heap:=h',toks:=t' }:=
 I.write (x:=a) (e:=a) mu (.inl rfl) (λb q hb z=>(hs.2 b hb).trans z) he new
theorem uv(z:af.length<=sizeLine)(hd:(a == sysModules)=false)(rel:KV af vs)(dd:h'.DictOf (aW P w) a vs):
  a6 P w H' h' a (.dK af):=⟨z,hd,vs,rel,dd⟩
theorem Bw(hu:A.units+1<cLine)(I:Inv X pins σ H s)(g:eM H a y v H')(ry:RelV y u)(rv:RelV v r)(h:∀s',Inv X pins σ H' s'->Q () s'):
  wpAny (model X.prog X.w) A (setItem (.ref a) u r) Q E s:=by
 rcases g with ⟨af,k,e,ey,l,eH⟩|⟨af,k,b,e,ey,eb,l,eH⟩
 ·subst ey eH;obtain⟨z,hd,vs,rel,dd⟩:=nh I.aV e;have hz:vs.length<=sizeLine:=by rw[<-rel.length];exact z
  have hl:(putK af k v).length<=sizeLine:=by have:=cY af k v;omega
  refine wpAny_setItem_pairs (hsz:=hz) (iW ry) dd λh' dd' hs=>h _ ?_;have he:∃q,h'.get? a=some q:=let ⟨q,_,_,hq,_⟩:=dd';⟨q,hq⟩
  exact g6 I (by rw[e];exact True.intro) hs he (uv hl hd (rel.put k rv) dd')
 ·subst ey eH;cases (show u=Value.ref b from ry);obtain⟨z,hd,xs,rel,dd⟩:=GN I.aV e;have hz:xs.length<=sizeLine:=by rw[<-Paired.length rel];exact z
  have hl:(putK af k v).length<=sizeLine:=by have:=cY af k v;omega
  refine wpAny_setItem_heap (hsz:=hz) (tupleKind_room_in1 hu) (eZ I.aV eb) dd λh' dd' hs=>h _ ?_;obtain⟨q,es,ep,hq,h2,h3,h4,_,h5⟩:=dd';refine g6 I (by rw[e];exact True.intro) hs ⟨q,hq⟩ ⟨hl,hd,_,(rel.put k eb rv).keeps λc ys ec=>?_,q,es,ep,hq,h2,h3,h4,h5⟩;rw[ae (bD ec e (λz=>nomatch z))];exact ec
end
section
variable{X:Cx}{pins:Lo}{σ:St}{H:Hp}{s:Shared}{a:Addr}{af:List (Key×V)}{k:Key}{u:Value}{A:Around}{E:Vs}
end
def N6(i:Expr):Prop:=∀ov iv,subscripted i false ov iv=operate [ov,iv] (getItem ov iv)
theorem HF{prog:Program}{w:World}{A:Around}{E:Vs}{s:Shared}{env:Env}{value slice:Expr}{pos:Pos}{T id:String}{Q:Vs}
  (hl:typeLookup (.type T) "__getitem__" = pure (some (.builtin id))) (hs:N6 slice)
  (h:wpAny (model prog w) A (eval value env) (λo s₁=>wpAny (model prog w) A (eval slice env) (λi s₂=>s₂.TypeIs o T/\wpAny (model prog w) A (getItem o i) Q E s₂) E s₁) E s):
  wpAny (model prog w) A (eval (.Subscript value slice pos) env) Q E s:=by
 refine Subscript_ (nF h (λo s₁ h₁=>nF h₁ (λi s₂ h₂=>?_) λ_ _ x=>x) λ_ _ x=>x);obtain⟨hT,h₂⟩:=h₂;unfold subscriptTail;refine au ?_;rw[getitemInPython_of_ne hT.not_modules];refine au (wpAny_specialOf hT hl ?_);have fin:wpAny (model prog w) A (subscripted slice false o i) (λr s₃=>wpAny (model prog w) A (letTemporaryGo value o r >>= λ_=>pure r) Q E s₃) E s₂:=by
  rw[hs o i];exact wpAny_operating (nF h₂ (λr s₃ h₃=>au (wpAny_letTemporaryGo (aP h₃))) λ_ _ x=>x)
 first
  |exact aP (au fin)
  |exact au (aP (au fin))
  |exact au fin
theorem vi(I:Inv X pins σ H s)(g:bx H a y o):s.TypeIs (.ref a) "dict" := by
 rcases g with ⟨af,k,e,_,_⟩|⟨af,k,b,e,_,_,_⟩
 ·obtain⟨_,_,vs,_,dd⟩:=jU I.aV e;exact dd.typeIs
 ·obtain⟨_,_,xs,_,dd⟩:=jQ I.aV e;exact dd.typeIs
def KP(td ty:TE):TE:=λσ H Q=>td σ H λx H1=>ty σ H1 λy H2=>∃a v,x=.ref a/\bx H2 a y (some v)/\Q v H2
def Sb(ty td:TE):TE:=λσ H Q=>ty σ H λy H1=>td σ H1 λx H2=>∃a o,x=.ref a/\bx H2 a y o/\Q (.bl o.isSome) H2
def Iu(ty td:TE):TE:=λσ H Q=>ty σ H λy H1=>td σ H1 λx H2=>∃a o,x=.ref a/\bx H2 a y o/\Q (.bl (!o.isSome)) H2
def PJ(td ty tv:TE):TS:=λD σ H=>tv σ H λv H1=>td σ H1 λx H2=>ty σ H2 λy H3=>∃a H4,x=.ref a/\eM H3 a y v H4/\D.nx σ H4
section
variable{X:Cx}{o i e value:Expr}{pos pos' tpos:Pos}{td ty tv:TE}
theorem bU(hu:X.A.units+1<cLine)(ho:PE X o td)(hi:PE X i ty)(hs:N6 i):PE X (.Subscript o i pos) (KP td ty):=by
 intro pins s σ H Q I h;refine HF PySem.F.slot_dict_getitem.lookup hs (bE (ho pins s σ H _ I h) λu s1 ⟨x,H1,I1,rx,q1⟩=>bE (hi pins s1 σ H1 _ I1 q1) λiv s2 ⟨y,H2,I2,ry,a,v,ex,g,q2⟩=>?_);subst ex;obtain rfl:u=Value.ref a:=rx;exact⟨vi I2 g,Br hu I2 g ry λw' s3 I3 rw'=>⟨v,H2,I3,rw',q2⟩⟩
theorem EH(hu:X.A.units+1<cLine)(hi:PE X i ty)(ho:PE X o td):PC X .In i o (Sb ty td):=by
 intro pins s σ H Q I h;refine bE (hi pins s σ H _ I h) λiv s1 ⟨y,H1,I1,ry,q1⟩=>bE (ho pins s1 σ H1 _ I1 q1) λu s2 ⟨x,H2,I2,rx,a,ov,ex,g,q2⟩=>?_;subst ex;obtain rfl:u=Value.ref a:=rx;exact QV hu I2 g ry λs3 I3=>⟨.bl ov.isSome,H2,I3,rfl,q2⟩
theorem cZ(hu:X.A.units+1<cLine)(hi:PE X i ty)(ho:PE X o td):PC X .NotIn i o (Iu ty td):=by
 intro pins s σ H Q I h;refine bE (hi pins s σ H _ I h) λiv s1 ⟨y,H1,I1,ry,q1⟩=>bE (ho pins s1 σ H1 _ I1 q1) λu s2 ⟨x,H2,I2,rx,a,ov,ex,g,q2⟩=>?_;subst ex;obtain rfl:u=Value.ref a:=rx;exact HL hu I2 g ry λs3 I3=>⟨.bl (!ov.isSome),H2,I3,rfl,q2⟩
theorem cR(hu:X.A.units+1<cLine)(ho:PE X o td)(hi:PE X i ty)(hv:PE X value tv)(hs:swapsWith value (some (.Subscript o i pos')) pos.line X.env=pure false):
  PS X (.Assign [.Subscript o i pos'] value pos) (PJ td ty tv):=by
 intro pins s σ H D I h;refine wpAny_Assign_Subscript (bE (hv pins s σ H _ I h) λr s1 ⟨v,H1,I1,rv,q1⟩=>bE (ho pins s1 σ H1 _ I1 q1) λu s2 ⟨x,H2,I2,rx,q2⟩=>bE (hi pins s2 σ H2 _ I2 q2) λiv s3 ⟨y,H3,I3,ry,a,H4,ex,g,q3⟩=>?_) hs;subst ex;obtain rfl:u=Value.ref a:=rx;exact Bw hu I3 g ry rv λs4 I4=>⟨σ,H4,I4,q3⟩
end
theorem CJ(h:Heap)(hb:sysModules<h.objs.size):a6 P w H (h.push { cls:=.type "dict", data:=.dict #[] }) h.objs.size (.dK []):=
 ⟨fe _,beq_eq_false_iff_ne.mpr (Ne.symm (eD hb)),[],.nil,Heap.DictOf.new h⟩
theorem uZ(h:Heap)(hb:sysModules<h.objs.size):a6 P w H (h.push { cls:=.type "dict", data:=.dict #[] }) h.objs.size (.dT []):=
 ⟨fe _,beq_eq_false_iff_ne.mpr (Ne.symm (eD hb)),[],.nil,_,#[],0,gL _ rfl,⟨rfl,rfl,rfl⟩,rfl,rfl,List.nodup_nil⟩
def Lh:TE:=λ_ H Q=>∀p,H p=none->Q (.ref p) (upd H p (.dK []))
def Mm:TE:=λ_ H Q=>∀p,H p=none->Q (.ref p) (upd H p (.dT []))
section
variable{X:Cx}{pos:Pos}
theorem cF:PE X (.Dict [] [] pos) Lh:=λpins s σ H Q I h=>
 wpAny_Dict_empty ⟨.ref s.heap.objs.size,_,I.laid (a:=s.heap.objs.size) (o:=.dK []) (t':=s.toks) (λ_ _ q=>cM _ q) (bC _) (CJ s.heap I.big),rfl,h _ (I.aV.fresh (bC _))⟩
theorem C5:PE X (.Dict [] [] pos) Mm:=λpins s σ H Q I h=>
 wpAny_Dict_empty ⟨.ref s.heap.objs.size,_,I.laid (a:=s.heap.objs.size) (o:=.dT []) (t':=s.toks) (λ_ _ q=>cM _ q) (bC _) (uZ s.heap I.big),rfl,h _ (I.aV.fresh (bC _))⟩
end
noncomputable def cb(af more:List (Key×V)):List (Key×V):=more.foldl (λacc kv=>putK acc kv.1 kv.2) af
theorem KV.merge:∀{more:List (Key×V)}{rs:List (Key×Value)}{af:List (Key×V)}{vs:List (Key×Value)},KV more rs->KV af vs->KV (cb af more) (merged vs rs):=by
 intro more rs af vs r;unfold KV at r
 induction r generalizing af vs with
 |nil=>intro q;exact q
 |@cons p q ps qs h t ih=>
  intro r0;have e:KV (putK af p.1 p.2) (stored vs q.1 q.2):=by
   have:=r0.put p.1 h.2;rw[<-h.1];exact this
  exact ih e
theorem ia:∀(more af:List (Key×V)),(cb af more).length<=af.length+more.length
 |[],af=>by show af.length<=af.length+0;omega
 |p::r,af=>by
  have h1:=ia r (putK af p.1 p.2);have h2:=cY af p.1 p.2;show(cb (putK af p.1 p.2) r).length<=_;rw[je];omega
structure M1(X:Cx)(o:Expr)(m:Str)(apos:Pos)(e:Expr)(cpos:Pos):Prop where
 base:attributeBase o m X.env (eval o X.env)=eval o X.env
 cy:((backTo cpos (starEach [e] X.env)).all (λx=>!x.1)&&(backToKw cpos (keywordEach [] X.env)).all (λx=>x.1.isSome)
  && decide (([e]:List Expr).length+([]:List Keyword).length+(if ([]:List Keyword).isEmpty then 0 else 1)<30))=true
 line:(apos.endLine == cpos.line)=true
 trees:backTo cpos (starEach [e] X.env)=[(false,eval e X.env)]
structure M2(X:Cx)(o:Expr)(m:Str)(apos:Pos)(e f:Expr)(cpos:Pos):Prop where
 base:attributeBase o m X.env (eval o X.env)=eval o X.env
 cy:((backTo cpos (starEach [e,f] X.env)).all (λx=>!x.1)&&(backToKw cpos (keywordEach [] X.env)).all (λx=>x.1.isSome)
  && decide (([e,f]:List Expr).length+([]:List Keyword).length+(if ([]:List Keyword).isEmpty then 0 else 1)<30))=true
 line:(apos.endLine == cpos.line)=true
 trees:backTo cpos (starEach [e,f] X.env)=[(false,eval e X.env),(false,eval f X.env)]
def Qy(H:Hp)(a:Addr):Prop:=(∃af,Rd H a (.dK af))\/∃af,Rd H a (.dT af)
theorem xK(I:Inv X pins σ H s)(d:Qy H a):
  s.TypeIs (.ref a) "dict" /\ (∀b,Value.ref a=.ref b->∃ob,s.heap.get? b=some ob/\ob.dict=none)/\(a == sysModules)=false:=by
 rcases d with ⟨af,e⟩|⟨af,e⟩
 ·obtain⟨_,hd,vs,_,dd⟩:=jU I.aV e;refine⟨dd.typeIs,λb q=>?_,hd⟩;cases q;obtain⟨ob,_,_,h1,h2,_⟩:=dd;exact⟨ob,h1,h2.2.1⟩
 ·obtain⟨_,hd,xs,_,dd⟩:=jQ I.aV e;refine⟨dd.typeIs,λb q=>?_,hd⟩;cases q;obtain⟨ob,_,_,h1,h2,_⟩:=dd;exact⟨ob,h1,h2.2.1⟩
section
variable{X:Cx}{pins:Lo}{σ:St}{H:Hp}{s:Shared}{a:Addr}{y d:V}{u r:Value}{o:Option V}{A:Around}{E:Vs}
theorem L8(hu:A.units+1<cLine)(I:Inv X pins σ H s)(g:bx H a y o)(ry:RelV y u)(h:∀w' s',Inv X pins σ H s'->RelV (o.getD .bj) w'->Q w' s'):
  wpAny (model X.prog X.w) A (call (.builtin "dict.get") [.ref a,u]) Q E s:=by
 rcases g with ⟨af,k,e,ey,l⟩|⟨af,k,b,e,ey,eb,l⟩
 ·subst ey;obtain⟨z,hd,vs,rel,dd⟩:=jU I.aV e;refine call_meetsIn PySem.F.slot_dict_get dd.typeIs PySem.F.entry_dict_get (PySem.F.args_dict_get_2 _ _) (meets_dict_get (aW X.prog X.w) a (iW ry) hd) ⟨_,dd.mapOf,h _ _ (I.tok _) ?_⟩;rw[l];exact(rel.val k).getD rfl
 ·subst ey;cases (show u=Value.ref b from ry);obtain⟨z,hd,xs,rel,dd⟩:=jQ I.aV e;refine call_meetsIn PySem.F.slot_dict_get dd.typeIs PySem.F.entry_dict_get (PySem.F.args_dict_get_2 _ _) (meetsH_dict_get (tupleKind (aW X.prog X.w)) a b hd) ⟨tupleKind_room_in1 hu,k,xs,eZ I.aV eb,dd,h _ _ (I.tok _) ?_⟩;rw[l];exact(rel.val k).getD rfl
theorem L5(hu:A.units+1<cLine)(I:Inv X pins σ H s)(g:bx H a y o)(ry:RelV y u)(rd:RelV d r)(h:∀w' s',Inv X pins σ H s'->RelV (o.getD d) w'->Q w' s'):
  wpAny (model X.prog X.w) A (call (.builtin "dict.get") [.ref a,u,r]) Q E s:=by
 rcases g with ⟨af,k,e,ey,l⟩|⟨af,k,b,e,ey,eb,l⟩
 ·subst ey;obtain⟨z,hd,vs,rel,dd⟩:=jU I.aV e;refine call_meetsIn PySem.F.slot_dict_get dd.typeIs PySem.F.entry_dict_get (PySem.F.args_dict_get_3 _ _ _) (meets_dict_get_default (aW X.prog X.w) a (iW ry) hd r) ⟨_,dd.mapOf,h _ _ (I.tok _) ?_⟩;rw[l];exact(rel.val k).getD rd
 ·subst ey;cases (show u=Value.ref b from ry);obtain⟨z,hd,xs,rel,dd⟩:=jQ I.aV e;refine call_meetsIn PySem.F.slot_dict_get dd.typeIs PySem.F.entry_dict_get (PySem.F.args_dict_get_3 _ _ _) (meetsH_dict_get_default (tupleKind (aW X.prog X.w)) a b hd r) ⟨tupleKind_room_in1 hu,k,xs,eZ I.aV eb,dd,h _ _ (I.tok _) ?_⟩;rw[l];exact(rel.val k).getD rd
end
def L_(td ty:TE):TE:=λσ H Q=>td σ H λx H1=>∃a,x=.ref a/\Qy H1 a/\ty σ H1 λy H2=>∃o,bx H2 a y o/\Q (o.getD .bj) H2
def Lm(td ty tx:TE):TE:=λσ H Q=>td σ H λx H1=>∃a,x=.ref a/\Qy H1 a/\ty σ H1 λy H2=>tx σ H2 λz H3=>∃o,bx H3 a y o/\Q (o.getD z) H3
section
variable{X:Cx}{o e f:Expr}{apos cpos:Pos}{td ty tx:TE}
theorem vR(hu:X.A.units+1<cLine)(ho:PE X o td)(he:PE X e ty)(m:M1 X o "get" apos e cpos):PE X (.Call (.Attribute o "get" apos) [e] [] cpos) (L_ td ty):=by
 intro pins s σ H Q I h;refine wpAny_Call_method m.base m.cy m.line PySem.F.plainAttrs_dict PySem.F.slot_dict_get PySem.F.type_dict_get (bE (ho pins s σ H _ I h) λu s1 ⟨x,H1,I1,rx,a,ex,d,q1⟩=>?_);subst ex;obtain rfl:u=Value.ref a:=rx;obtain⟨t1,t2,_⟩:=xK I1 d;refine⟨t1,t2,?_⟩;rw[m.trees];refine Calls.callWith_builtin rfl (Calls.evalArgs_plain (Calls.spliced_cons (bE (he pins s1 σ H1 _ I1 q1) λiv s2 ⟨y,H2,I2,ry,ov,g,q2⟩=>Calls.spliced_nil ?_)));exact L8 hu I2 g ry λw' s3 I3 rw'=>⟨_,H2,I3,rw',q2⟩
theorem F_(hu:X.A.units+1<cLine)(ho:PE X o td)(he:PE X e ty)(hf:PE X f tx)(m:M2 X o "get" apos e f cpos):PE X (.Call (.Attribute o "get" apos) [e,f] [] cpos) (Lm td ty tx):=by
 intro pins s σ H Q I h;refine wpAny_Call_method m.base m.cy m.line PySem.F.plainAttrs_dict PySem.F.slot_dict_get PySem.F.type_dict_get (bE (ho pins s σ H _ I h) λu s1 ⟨x,H1,I1,rx,a,ex,d,q1⟩=>?_);subst ex;obtain rfl:u=Value.ref a:=rx;obtain⟨t1,t2,_⟩:=xK I1 d;refine⟨t1,t2,?_⟩;rw[m.trees];refine Calls.callWith_builtin rfl (Calls.evalArgs_plain (Calls.spliced_cons (bE (he pins s1 σ H1 _ I1 q1) λiv s2 ⟨y,H2,I2,ry,q2⟩=>
  Calls.spliced_cons (bE (hf pins s2 σ H2 _ I2 q2) λfv s3 ⟨z,H3,I3,rz,ov,g,q3⟩=>Calls.spliced_nil ?_))))
 exact L5 hu I3 g ry rz λw' s4 I4 rw'=>⟨_,H3,I4,rw',q3⟩
end
section
variable{X:Cx}{pins:Lo}{σ:St}{H:Hp}{s:Shared}{a:Addr}{af:List (Key×V)}{A:Around}{E:Vs}
end
section
variable{X:Cx}{pins:Lo}{σ:St}{H:Hp}{s:Shared}{a:Addr}{y:V}{u:Value}{A:Around}{E:Vs}
end
end L2
namespace Att
open PySem PySem.W PySem.Calls PyProof.Rows
theorem ints_of_wellAll:∀(ns:List Int) (vs:List Value),WellAll P h vs (ns.map WData.int)->IntsAre vs ns:=by
 intro ns
 induction ns with
 |nil=>
  intro vs w;rw[List.map_nil]at w;cases w;exact .nil
 |cons n ns ih=>
  intro vs w;rw[fH]at w;cases w with
  |cons a b=>
   cases a;exact .cons _ _ (ih _ b)
theorem script_of{l:OpenLaw}{n:Nat}(hn:l.most=some n){P:Params}{h:Heap}{args:List WData}{vals:List Value}
  (hpre:l.row.toRowW.claim.pre args=true) (hwl:WellAll P h vals args):
  ∃a vs ns,vals=[Value.ref a]/\args=[WData.list (ns.map WData.int)]/\h.get? a=some { cls:=.type "list", data:=.seq vs.toArray }/\IntsAre vs ns/\ns.length<=n:=by
 have hsh:WShape.hasAll [] args [.list .int]=true:=(pre_splitW hpre).1;have hc:l.pre.holds [] { args:=args }=true:=(pre_splitW hpre).2;obtain⟨d,r,rfl,h1,h2⟩:=hasAllW_cons hsh;obtain rfl:=hasAllW_nil h2;obtain⟨xs,rfl,h3⟩:=hasW_list h1;obtain⟨ns,rfl⟩:=items_int h3;have hlen:ns.length<=n:=by
  unfold OpenLaw.pre at hc;have h4:(WTm.not (.lt (.lit (.int (n:Int))) (.len (.arg 0)))).holds [] { args:=[.list (ns.map .int)] }=true:=by
   have h4:=(holds_andW hc).1;rw[hn]at h4;exact h4
  have h5:=condW_of h4 (w_not (w_lt w_lit (w_len_list (w_arg rfl))));rw[az]at h5;refine Nat.le_of_not_lt λq=>?_;have q':(n:Int)<((ns.length:Nat):Int):=by omega
  first
   | (rw[decide_eq_true q']at h5;exact absurd h5 (by decide))
   | (simp at h5;omega)
 cases hwl with
 |cons w1 w2=>
  cases w2;cases w1 with
  |list ho hall=>exact⟨_,_,ns,rfl,rfl,ho,ints_of_wellAll ns _ hall,hlen⟩
theorem post_true(l:OpenLaw)(args:List WData):l.row.toRowW.claim.post args (.bool true) args=true:=
 postW_of (r:=l.row.toRowW) (X:=(true == true))
  (show WShape.has [] (.bool true) .bool=true by first|rfl|decide|simp[WShape.has,WShape.arms,WShape.armsAll])
  (show(WTm.eq .res (.lit (.bool true))).value [] { args:=args,res:=some (.bool true),after:=args }=some (.bool (true == true)) from w_eq_bool (w_res rfl) w_lit) rfl
theorem attach_call{l:OpenLaw}{n:Nat}{q:Program}{loose:List Str}{XP:(Str->Option Value)->Heap->Prop}{YP:World->Heap->Prop}{d:DefRec}
  (hn:l.most=some n) (hdf:d.params.defaults=[])
  (call:∀(w:World) (s₀ s₁:Shared) (mg mb:So) (fa:Addr) (o:Obj) (pm cd doc:Value) (a:Addr) (vs:List Value) (ns:List Int),
   Ground q loose [] XP w s₀ mg mb s₁.heap->YP w s₁.heap->
   s₁.heap.get? fa=some o->o.data=.func (docDef d.name d.params d.body d.scope pm cd doc)->s₁.heap.CodeRec cd d.name->mg d.name=some (.ref fa)->
   s₁.heap.get? a=some { cls:=.type "list", data:=.seq vs.toArray }->IntsAre vs ns->ns.length<=n->s₁.gens=#[]->
   codeAny (model l.prog w) callerA (.call (.ref fa) ⟨[.ref a],[]⟩) (λr s'=>r=.ok (.ret (.bool true))/\OldK s₁.heap s'.heap/\s'.os=s₁.os/\AllBare s'.gens) s₁):
  WalkO q loose XP YP l.row.toRowW d [] (λf vs=>PySem.call f vs):=by
 intro w s₀ s₁ mg mb G Y fa o pm cd doc dV kV ho hd hcd hD hmg hg args vals as hpre hlay hrd hwl hlo;obtain rfl:dV=.none:=Dflts.none hD hdf;obtain rfl:kV=.none:=Dflts.noKw hD;obtain⟨a,vs,ns,rfl,rfl,hobj,hints,hlen⟩:=script_of hn hpre hwl;refine enter_call (codeAny_mono (call w s₀ s₁ mg mb fa o pm cd doc a vs ns G Y ho (fd_plain hd) hcd hmg hobj hints hlen hg) λr s' hq=>?_);obtain⟨rfl,h2,h3,h4⟩:=hq;exact⟨.inl ⟨.bool true,.bool true,[],rfl,λ_=>rfl,.bool true,post_true l _,λ_=>⟨List.Pairwise.nil,λ_ hm=>(nomatch hm)⟩⟩,h2,h3,h4⟩
section
variable{prog:Program}{w:World}{A:Around}{E:Vs}{s:Shared}{K:Frag}
noncomputable def ledger(h:Heap)(L d:Addr):Lo:=(List.range h.objs.size).filterMap λa=>if a=L\/a=d then none else (h.get? a).map λo=>(a,o)
end
end Att
namespace L2
open PySem PySem.Spec PyProof.Rows
theorem mW:∀{vs:List Value}{ns:List Int},IntsAre vs ns->Vals (ns.map V.int) vs
 |_,_,.nil=>.nil
 |_,_,.cons n t h=>.cons ⟨t,rfl⟩ (mW h)
noncomputable def inClass(s:Stmt)(j:Nat):Stmt:=match s with
 |.ClassDef _ _ _ body _ _ _ _ _ _ _=>body.getD j (.Pass ⟨0,0,0,0⟩)
 |_=>.Pass ⟨0,0,0,0⟩
noncomputable def fT(s:Stmt):Arguments:=match s with
 |.FunctionDef _ a _ _ _ _ _ _ _ _=>a
 |_=>{ posonlyargs:=[],args:=[],vararg:=none,kwonlyargs:=[],kw_defaults:=[],kwarg:=none,defaults:=[] }
noncomputable def d6(s:Stmt):List Stmt:=match s with
 |.FunctionDef _ _ b _ _ _ _ _ _ _=>b
 |_=>[]
noncomputable def ai(s:Stmt):Scope:=match s with
 |.FunctionDef _ _ _ _ _ _ sc _ _ _=>sc
 |_=>{ kind:=.function,names:=[],isGenerator:=false,isCoroutine:=false }
noncomputable abbrev dm:B2:=λ_ _ _ _ _ _=>False
noncomputable abbrev E0:XK:=λ_ _ _=>False
theorem vx:Passes dm X E0:=λ_ _ _ _ _ _ _ h=>h.elim
structure dQ(K:Wf)(x qual:Str)(st:Stmt)(f:Addr)(fd:FuncData):Prop where
 ex:∃(oc:Value) (od:Option Addr) (kV doc pm:Value) (an:Option Addr) (cdv ct:Value) (osl:Array (Option Value)),
  fd=fnOf x qual (fT st) (d6 st) (ai st) .none kV doc pm an cdv ct/\K.lookup f=some ⟨oc,od,.func fd,osl⟩/\codeIn K cdv qual=true
 kp:keepIn K (.ref f)=true
section
variable{P:Program}{w:World}{K:Wf}{mg:So}{base:Heap}
theorem dQ.ok{x qual:Str}{st:Stmt}{f:Addr}{fd:FuncData}{N ps:List Str}{k:Nat}{sp:Sp}(F:dQ K x qual st f fd)(S:aA N ps (ai st))(len:∀vs H Q E,sp vs H Q E->vs.length=ps.length)
  (hbody:∀(cdv:Value) (A:Around) (outer:List Env) (s:Shared) (H:Hp) (vs:List V) (Q:VK) (E:XK),cL k (A.deeper (envOfC qual (ai st) s.heap.objs.size f cdv))->sp vs H Q E->
   ∃t,vc (lM dm P w K mg base N qual (ai st) f cdv A outer s H E).M3 (d6 st) t/\t { nx:=λ_ H'=>Q .bj H',rt:=Q } (start N vs) H):bg P w K mg base dm (k+1) f fd ps sp:=by
 obtain⟨oc,od,kV,doc,pm,an,cdv,ct,osl,rfl,lk,hcd⟩:=F.ex;refine Kl lk hcd S len λA outer s H vs Q E hr hsp=>?_;obtain⟨t,h,q⟩:=hbody cdv A outer s H vs Q E hr hsp;exact⟨t,h.M3,q⟩
theorem dQ.binds{x qual:Str}{st:Stmt}{f:Addr}{fd:FuncData}{ps:List Str}(F:dQ K x qual st f fd)
  (h:∀(kV doc pm:Value) (an:Option Addr) (cdv ct:Value) (us:List Value),us.length=ps.length->bindArgs (fnOf x qual (fT st) (d6 st) (ai st) .none kV doc pm an cdv ct) ⟨us,[]⟩=pure (ps.zip us)):Binds K fd ps []:=by
 obtain⟨oc,od,kV,doc,pm,an,cdv,ct,osl,rfl,lk,hcd⟩:=F.ex;exact .all (h kV doc pm an cdv ct)
theorem qC{x qual:Str}{st:Stmt}{f:Addr}{oc:Value}{od an:Option Addr}{osl:Array (Option Value)}{kV doc pm cdv ct:Value}(l:K.lookup f=some ⟨oc,od,.func (fnOf x qual (fT st) (d6 st) (ai st) .none kV doc pm an cdv ct),osl⟩)
  (c:codeIn K cdv qual=true) (k:keepIn K (.ref f)=true):dQ K x qual st f (fnOf x qual (fT st) (d6 st) (ai st) .none kV doc pm an cdv ct):=⟨⟨oc,od,kV,doc,pm,an,cdv,ct,osl,rfl,l,c⟩,k⟩
end
theorem a7(hr:cL k A):A.units+1<cLine:=Nat.lt_of_le_of_lt (Nat.add_le_add_left (by decide:1<=64) _) hr.units
section
variable{X:Cx}
noncomputable def visB(sc:Scope)(x:Str):Bool:=match sc.names.lookup x with
 |some .local=>true
 |some .cell=>true
 |some .free=>true
 |_=>false
noncomputable def varB(N:List Str)(sc:Scope)(i:Nat)(x:Str):Bool:=match N[i]? with
 |some y=>decide (y=x)&&(visB sc x&&(!(x == ("__debug__" : Str)) && !(x == ("__classdict__" : Str))))
 |none=>false
theorem pv(i:Nat){x:Str}{pos:Pos}(h:varB X.N X.env.scope i x=true:=by kernel_rfl):PE X (.Name x pos) (mB i):=by
 unfold varB at h;split at h
 ·rename_i y hy;rw[lN,lN,lN]at h;obtain⟨h1,h2,h3,h4⟩:=h;refine MS (hy.trans (congrArg some (of_decide_eq_true h1))) ?_ (by simpa using h3) (by simpa using h4);unfold visB at h2;split at h2
  ·rename_i e;exact .inl e
  ·rename_i e;exact .inr (.inl e)
  ·rename_i e;exact .inr (.inr e)
  ·cases h2
 ·cases h
end
theorem RL{A B:Prop}(h:A):if true=true then A else B:=by
 rw[if_pos rfl];exact h
theorem dM{c A B:Prop} [Decidable c](h1:c->A)(h2:¬c->B):if c then A else B:=by
 by_cases h:c
 ·rw[if_pos h];exact h1 h
 ·rw[if_neg h];exact h2 h
def ay(H H':Hp):Prop:=∀b o,H b=some o->H' b=some o
theorem ay.refl(H:Hp):ay H H:=λ_ _ h=>h
theorem ay.trans(a:ay H H1)(b:ay H1 H2):ay H H2:=λc o h=>b c o (a c o h)
theorem ay.free(e:ay H H'){l:Addr}(h:H' l=Option.none):H l=Option.none:=by
 cases q:H l with
 |none=>rfl
 |some o=>
  rw[e l o q]at h;cases h
theorem ay.seq{K:Wf}{H H':Hp}{a:Addr}{xs:List V}(e:ay H H')(h:aD K H a xs):aD K H' a xs:=by
 rcases h with (h|⟨o,h⟩)|h
 ·exact .inl (.inl (e _ _ h))
 ·exact .inl (.inr ⟨o,e _ _ h⟩)
 ·exact .inr h
section
variable{X:Cx}
end
section
variable{κ:Type} [DecidableEq κ]
end
noncomputable def ke(env:Env):List (Str×NameKind)->List (Str×Addr)->List (Str×Addr)
 |[],acc=>acc
 | (n,k)::r,acc=>ke env r (if (k == NameKind.free)=true then (n,(env.cells.lookup n).getD 0)::acc else acc)
theorem zE:∀(ns:List (Str×NameKind)) (acc:List (Str×Addr)),(∀x∈ns,x.2=.free->∃c,env.cells.lookup x.1=some c)->
  (∀x c,acc.lookup x=some c->env.cells.lookup x=some c)->∀x c,(ke env ns acc).lookup x=some c->env.cells.lookup x=some c
 |[],acc,_,ha=>ha
 | (n,k)::r,acc,hn,ha=>by
  refine zE r _ (λx hx=>hn x (ka _ hx)) ?_;intro x c e;by_cases hk:(k == NameKind.free)=true
  ·rw[if_pos hk]at e;have hk':k=.free:=by simpa using hk
   obtain⟨c',ec⟩:=hn (n,k) lE hk';rw[Nf]at e;cases hx:x == n with
   |true=>
    rw[hx]at e;have:x=n:=by simpa using hx
    subst this;have ec':List.lookup x env.cells=some c':=ec;rw[ec']at e;simp at e;rw[<-e];exact ec'
   |false=>rw[hx]at e;exact ha x c e
  ·rw[if_neg hk]at e;exact ha x c e
theorem nt:∀(ns:List (Str×NameKind)) (acc:List (Str×Addr)) (x:Str),(∃c,acc.lookup x=some c)->∃c,(ke env ns acc).lookup x=some c
 |[],acc,x,h=>h
 | (n,k)::r,acc,x,h=>by
  refine nt r _ x ?_;by_cases hk:(k == NameKind.free)=true
  ·rw[if_pos hk,Nf];cases hx:x == n with
   |true=>exact⟨_,rfl⟩
   |false=>exact h
  ·rw[if_neg hk];exact h
theorem kP:∀(ns:List (Str×NameKind)) (acc:List (Str×Addr)) (x:Str),(x,NameKind.free)∈ns->∃c,(ke env ns acc).lookup x=some c
 |[],acc,x,h=>absurd h (by simp)
 | (n,k)::r,acc,x,h=>by
  rcases iG.mp h with e|e
  ·injection e with e1 e2;subst e1 e2;refine nt r _ x ⟨(env.cells.lookup x).getD 0,?_⟩;rw[if_pos (by decide)];simp
  ·exact kP r _ x e
theorem h_{scope:Scope}(h:∀x∈scope.names,x.2=.free->∃c,env.cells.lookup x.1=some c):closureFor scope env=pure (ke env scope.names []):=by
 have key:∀(ns:List (Str×NameKind)) (acc:List (Str×Addr)),(∀x∈ns,x.2=.free->∃c,env.cells.lookup x.1=some c)->
   (do let r <-forIn (m:=Sem) ns acc (λx r=>if (x.2 == NameKind.free)=true then do let c <-cellOf env x.1;pure (ForInStep.yield ((x.1,c)::r)) else pure (ForInStep.yield r));pure r:Sem (List (Str×Addr)))=pure (ke env ns acc):=by
  intro ns
  induction ns with
  |nil=>intro acc _;rfl
  |cons y r ih=>
   intro acc hy;obtain⟨n,k⟩:=y;rw[List.forIn_cons];by_cases hk:(k == NameKind.free)=true
   ·have hk':k=.free:=by simpa using hk
    obtain⟨c,ec⟩:=hy (n,k) lE hk';have ec':List.lookup n env.cells=some c:=ec;have e1:cellOf env n=pure c:=by unfold cellOf;rw[ec']
    simp only[hk,if_true,e1];have:=ih ((n,c)::acc) λx hx=>hy x (ka _ hx);show _=pure (ke env r (if (k == NameKind.free)=true then (n,(List.lookup n env.cells).getD 0)::acc else acc));rw[if_pos hk,ec'];exact this
   ·simp only[hk];have:=ih acc λx hx=>hy x (ka _ hx);show _=pure (ke env r (if (k == NameKind.free)=true then (n,(List.lookup n env.cells).getD 0)::acc else acc));rw[if_neg hk];exact this
 simp only[closureFor];rw[key scope.names [] h];rfl
section
variable{prog:Program}{w:World}{A:Around}{R:Result->Shared->Prop}{s:Shared}
theorem oP{elt target iter:Expr}{scope:Scope}(I:Nat->Shared->Prop)
  (turn:∀n s,I n s->wpAny (model prog w) A (pyNext it) (λr s₁=>match r with
   |none=>R (.ok .next) s₁
   |some v=>wpAny (model prog w) A (letOwnedTupleGo target it v) (λ_ s₁'=>wpAny (model prog w) A (assign target env v) (λ_ s₂=>
     wpAny (model prog w) A (forIn ifs true λc r=>if r=true then do let ok <-isTrue c env (eval c env);pure (ForInStep.yield ok) else pure (ForInStep.yield r)) (λok s₃=>
      if ok=true then wpAny (model prog w) A (eval elt env) (λx s₄=>
       wpAny (model prog w) A (call (.builtin "list.append") [acc,x]) (λ_ s₅=>∃m,m<n/\I m s₅) (λ_ _=>False) s₄) (λ_ _=>False) s₃
      else ∃m,m<n/\I m s₃) (λ_ _=>False) s₂) (λ_ _=>False) s₁') (λ_ _=>False) s₁) (λ_ _=>False) s)
  (n:Nat) (h:I n s):
  codeAny (model prog w) A (.compLoop (.ListComp elt [⟨target,iter,ifs,0⟩] scope pos) 0 it acc env) R s:=by
 refine codeAny_loop rfl I (λn s hI=>?_) n h;show wpAny _ A ((compTurn (.ListComp elt [⟨target,iter,ifs,0⟩] scope pos) 0 it acc env).onRaise (λx=>do noteFrame x env;theTreesLotGoes x)) _ _ s;refine wpAny_noted ?_;rw[compTurn_list];refine au (wpAny_standAt (au (nF (turn n s hI) (λr s₁ h₁=>?_) λ_ _ h'=>h'.elim)));cases r with
 |none=>exact aP h₁
 |some v=>
  refine au (nF h₁ (λ_ s₁' h₁'=>?_) λ_ _ h'=>h'.elim);refine au (nF h₁' (λ_ s₂ h₂=>au (nF h₂ (λok s₃ h₃=>?_) λ_ _ h'=>h'.elim)) λ_ _ h'=>h'.elim);cases ok with
  |false=>exact aP ⟨rfl,h₃⟩
  |true=>
   exact au (au (nF h₃ (λx s₄ h₄=>au (nF h₄ (λ_ s₅ h₅=>aP (aP ⟨rfl,h₅⟩)) λ_ _ h'=>h'.elim)) λ_ _ h'=>h'.elim))
end
noncomputable def Bn(X:Cx)(N':List Str)(scope:Scope)(fp:List Addr)(s:Shared)(H:Hp):Cx:=
 { X with N:=N',s₀:=s,H₀:=H,env:=compEnvC scope (ke X.env scope.names []) s.heap.objs.size X.env,outer:=X.stack,stack:=X.stack,ex:=fp,fn:=λ_=>false,xe:=λ_ _=>False }
def Oo(X:Cx)(ifs:List Expr)(t:TT):Prop:=
 ∀(pins:Lo) (s:Shared) (σ:St) (H:Hp) (Q:Bool->Hp->Prop),Inv X pins σ H s->t σ H Q->
  wpAny (model X.prog X.w) X.A (forIn ifs true λc r=>if r=true then do let ok <-isTrue c X.env (eval c X.env);pure (ForInStep.yield ok) else pure (ForInStep.yield r)) (TP X pins σ Q) X.xe s
def MB:TT:=λ_ H Q=>Q true H
theorem bY:Oo X [] MB:=λ_ _ _ H _ I h=>wpAny_tests_nil ⟨H,I,h⟩
theorem gQ(h:PT X c t):Oo X [c] t:=λpins s σ H Q I q=>wpAny_tests_one (h pins s σ H Q I q)
set_option genInjectivity true in
inductive Ext:St->St->Prop
 |nil:Ext [] []
 |no {σ τ:St}{a:Option V}:Ext σ τ->Ext (none::σ) (a::τ)
 |yes {σ τ:St}{v:V}:Ext σ τ->Ext (some v::σ) (some v::τ)
theorem Ext.len:∀{σ τ:St},Ext σ τ->σ.length=τ.length
 |_,_,.nil=>rfl
 |_,_,.no h=>by simp[h.len]
 |_,_,.yes h=>by simp[h.len]
theorem Ext.get:∀{σ τ:St},Ext σ τ->∀(i:Nat) (v:V),σ[i]?=some (some v)->τ[i]?=some (some v)
 |_,_,.nil,i,v,e=>e
 |_,_,.no h,0,v,e=>by simp at e
 |_,_,.no h,i+1,v,e=>by simpa using h.get i v (by simpa using e)
 |_,_,.yes h,0,v,e=>by simpa using e
 |_,_,.yes h,i+1,v,e=>by simpa using h.get i v (by simpa using e)
noncomputable def d3(k:Nat)(fm:List Nat)(σ:St):St:=List.replicate k none++fm.map λj=>(σ[j]?).join
def iT(k:Nat)(fm:List Nat)(wi:TI)(g:TG)(tt:TT)(te:TE):TE:=λσ H Q=>wi σ H λJ H1=>∀D,H1 D=none->∃W:Nat->Nat->List V->Hp->Prop,
 (∃m,W 0 m [] (upd H1 D (.lst [])))/\∀i m ys H2,W i m ys H2->H2 D=some (.lst ys)/\ys.length<sizeLine/\((J.stop i H2/\Q (.ref D) H2)\/(J.go i H2/\∃N:List V->Hp->Prop,(∀ys' H',N ys' H'->∃m',m'<m/\W (i+1) m' ys' H')/\∀x H3,J.B3 i H2 x H3->
  g x (d3 k fm σ) H3 λσ3 H4=>Ext (d3 k fm σ) σ3/\tt σ3 H4 λb H5=>if b=true then te σ3 H5 λy H6=>H6 D=some (.lst ys)/\N (ys++[y]) (upd H6 D (.lst (ys++[y]))) else N ys H5))
theorem Un.tail(u:Un fs ex H H' h h1)(k:∀b o,b≠C->h1.get? b=some o->h2.get? b=some o)(hC:h.get? C=none):Un fs ex H H' h h2:=by
 have ne:∀b o,h.get? b=some o->b≠C:=λb o e z=>by rw[z,hC]at e;cases e
 exact⟨λb o e n hf hx=>k b o (ne b o e) (u.keep b o e n hf hx),λb o e n hf hx=>let ⟨sl,q⟩:=u.slot b o e n hf hx;⟨sl,k b _ (ne b o e) q⟩,u.free,
  λb o e hx=>let ⟨o',q⟩:=u.there b o e hx;⟨o',k b _ (ne b o e) q⟩,u.rS,u.mw,u.mf⟩
theorem g7.tail(ok:g7 P w H h1)(k:∀b o,b≠C->h1.get? b=some o->h2.get? b=some o)(hC:H C=none):g7 P w H h2:=λa o e=>by
 have ne:∀b u,H b=some u->b≠C:=λb u q z=>by rw[z,hC]at q;cases q
 refine(ok a o e).iY (λb u hb q=>k b u ?_ q) (λ_ q=>q) λ_ _ q=>q;rcases hb with z|z
 ·rw[z];exact ne a o e
 ·exact ne b _ z
theorem dh{env:Env}:∀{names:List (Str×NameKind)}{x:Str}{k:NameKind},
  (names.map λ(n,k)=>if (k == NameKind.free&&env.scope.kind == .function&&env.kindOf n == some .cell) then (n,NameKind.cell) else (n,k)).lookup x=some k->∃k',names.lookup x=some k'/\(k=k'\/(k'=.free/\k=.cell))
 |[],_,_,h=>by simp at h
 | (n,k0)::r,x,k,h=>by
  have ih:=@dh env r x k;have h:List.lookup x ((if (k0 == NameKind.free&&env.scope.kind == .function&&env.kindOf n == some .cell)=true then (n,NameKind.cell) else (n,k0))::(r.map λ(n,k)=>if (k == NameKind.free&&env.scope.kind == .function&&env.kindOf n == some .cell) then (n,NameKind.cell) else (n,k)))=some k:=h;by_cases hc:(k0 == NameKind.free&&env.scope.kind == .function&&env.kindOf n == some .cell)=true
  ·rw[if_pos hc,Nf]at h;have k0f:k0=.free:=by
    simp only[Bool.and_eq_true]at hc;simpa using hc.1.1
   rw[Nf];cases hx:x == n with
   |true=>rw[hx]at h;injection h with h;exact⟨k0,rfl,.inr ⟨k0f,h.symm⟩⟩
   |false=>rw[hx]at h;exact ih h
  ·rw[if_neg hc,Nf]at h;rw[Nf];cases hx:x == n with
   |true=>rw[hx]at h;injection h with h;exact⟨k0,rfl,.inl h.symm⟩
   |false=>rw[hx]at h;exact ih h
structure gk(X:Cx)(N':List Str)(k:Nat)(fm:List Nat)(scope:Scope):Prop where
 kind:scope.kind=.function
 wH:∀y∈scope.names,y.2≠.cell
 names:∀y∈scope.names,y.2=.local->scope.names.lookup y.1=some .local
 free:∀y∈scope.names,y.2=.free->X.env.kindOf y.1=some .cell\/X.env.kindOf y.1=some .free
 len:N'.length=k+fm.length
 slots:∀i x,k<=i->N'[i]?=some x->scope.names.lookup x=some .free/\∃j,fm[i - k]?=some j/\X.N[j]?=some x
section
variable{X:Cx}{pins:Lo}{σ:St}{H:Hp}{s:Shared}
theorem Inv.block{scope:Scope}(B:gk X N' k fm scope)(I:Inv X pins σ H s)(hf:∀b∈fp,e9 X pins H b)(ho:∀b∈fp,∃o,s.heap.get? b=some o)
  (ns:h'.Ns s.heap.objs.size (λ_=>none)) (kp:∀b o,s.heap.get? b=some o->h'.get? b=some o):Inv (Bn X N' scope fp s H) [] (d3 k fm σ) H { s with heap:=h',toks:=tk }:=by
 have hfree:∀x∈scope.names,x.2=.free->∃c,X.env.cells.lookup x.1=some c:=λx hx hk=>I.ok.has x.1 (B.free x hx hk);have hcl:∀x c,(ke X.env scope.names []).lookup x=some c->X.env.cells.lookup x=some c:=zE scope.names [] hfree λx c e=>by simp at e
 have J7:∀b∈v_ X.stack,b∈X.env.locals::X.fs:=I.ua;have hC:H s.heap.objs.size=none:=I.aV.fresh (bC _);have ok:(Bn X N' scope fp s H).Ok:={
  mod:=I.ok.mod
  kind:=B.kind
  glob:=I.ok.glob
  blt:=I.ok.blt
  above:=bC _
  inj:=λx y c h1 h2=>I.ok.inj x y c (hcl x c h1) (hcl y c h2)
  has:=λx hx=>by
   have hx:(relabel scope X.env).names.lookup x=some .cell\/(relabel scope X.env).names.lookup x=some .free:=hx;have:scope.names.lookup x=some .free:=by
    rcases hx with e|e
    ·obtain⟨k',e1,e2⟩:=dh e;rcases e2 with e2|⟨e2,_⟩
     ·subst e2;exact absurd rfl (B.wH _ (PySem.mem_of_lookup e1))
     ·rw[e1,e2]
    ·obtain⟨k',e1,e2⟩:=dh e;rcases e2 with e2|⟨e2,e3⟩
     ·rw[e1,e2]
     ·rw[e1,e2]
   exact kP scope.names [] x (PySem.mem_of_lookup this)
  M9:=λx c e=>by cases e
  hd:=I.ok.hd
  frames:=I.ok.frames
  J7:=.inl rfl
  OQ:=λb hb=>⟨λz=>by
    obtain⟨o,e⟩:=ho b hb;have hlt:=cV e;rw[z]at hlt;exact uH _ hlt,λx c e=>(hf b hb).2.2.2.2.1 x c (hcl x c e)⟩
  bs:=I.bs
  Ej:=f9 I.ok.Ej I.sz
  BI:=λb o e hb=>by
   rcases (hf b hb).2.2.2.1 with z|z
   ·exact I.ok.BI b o e z
   ·exact absurd (mC (cV e) (f9 I.ok.Ej z)) (uH _)
  xE:=λb hb z=>(iG.mp (J7 b z)).elim (hf b hb).2.1 (hf b hb).2.2.1
  jj:=I.stack
  Ig:=I.x8 }
 refine⟨ok,rfl,I.bare,Un.kept kp,⟨_,ns,λi x v h1 h2 h3=>?_⟩,λx c e=>?_,hC,λx c e=>I.gz x c (hcl x c e),λp hp=>?_,I.aV.kept kp,?_⟩
 ·have hk:k<=i:=by
   refine Nat.le_of_not_lt λz=>?_;unfold d3 at h2;rw[JB (by simpa using z),List.getElem?_replicate,if_pos z]at h2;cases h2
  obtain⟨e1,j,e2,e3⟩:=B.slots i x hk h1;have e4:σ[j]?=some (some v):=by
   unfold d3 at h2;rw[H_ (by simpa using hk),List.length_replicate,List.getElem?_map,e2]at h2;have h2:some (σ[j]?).join=some (some v):=h2;injection h2 with h2;cases e:σ[j]? with
   |none=>rw[e]at h2;cases h2
   |some o=>rw[e]at h2;rw[show o=some v from h2]
  have kf:=B.free (x,.free) (PySem.mem_of_lookup e1) rfl;obtain⟨m,hn,hl⟩:=I.loc;obtain⟨u,ru,lk⟩:=hl j x v e3 e4 (.inr kf);refine⟨u,ru,.inr ⟨?_,?_⟩⟩
  ·have h3:(relabel scope X.env).names.lookup x=some .local\/(relabel scope X.env).names.lookup x=some .cell\/(relabel scope X.env).names.lookup x=some .free:=h3;rcases h3 with z|z
   ·obtain⟨k',q1,q2⟩:=dh z;rw[e1]at q1;injection q1 with q1;subst q1;rcases q2 with q2|⟨_,q2⟩<;>cases q2
   ·exact z
  ·obtain⟨c,hc⟩:=kP (env:=X.env) scope.names [] x (PySem.mem_of_lookup e1);refine⟨c,hc,?_⟩;rcases lk with ⟨z,_⟩|⟨_,c',ec,ic⟩
   ·rcases kf with y|y<;>(rw[z]at y;cases y)
   ·rw[hcl x c hc]at ec;injection ec with ec;subst ec;exact ic.keeps kp
 ·obtain⟨v,q⟩:=I.cell x c (hcl x c e);exact⟨v,q.keeps kp⟩
 ·obtain⟨p1,p2,p3,p4,p5⟩:=I.pin p ((bF.mp hp).elim (λz=>gC _ z) λz=>absurd z (by simp));refine⟨kp _ _ p1,p2,λz=>?_,λz=>(iG.mp (J7 _ z)).elim p3 p4,p5⟩;have hlt:=cV p1;rw[z]at hlt;exact uH _ hlt
 ·show(d3 k fm σ).length=N'.length;unfold d3;rw[cW,List.length_replicate,az,B.len]
theorem vO{X:Cx}{elt iter tg:Expr}{ifs:List Expr}{scope:Scope}{pos:Pos}{g:TG}{tt:TT}{te:TE}{J:It}{fp:List Addr}{it D:Addr}{tn:Nat->Heap->Prop}{σ0:St}{H3:Hp}{s4:Shared}{Q:VK}{R:Result->Shared->Prop}{W:Nat->Nat->List V->Hp->Prop}{m0:Nat}
  (hx:X.xe=λ_ _=>False) (hc:X.calm=true) (T:Turn X.prog X.w X.K tg J fp it tn) (stat:∀{H':Hp},(∀b∈fp,H' b=none)->∀b∈fp,e9 X [] H' b) (hg:PG X tg g) (ht:Oo X ifs tt) (he:PE X elt te)
  (turn:∀i m ys H2,W i m ys H2->H2 D=some (.lst ys)/\ys.length<sizeLine/\((J.stop i H2/\Q (.ref D) H2)\/(J.go i H2/\∃N:List V->Hp->Prop,(∀ys' H',N ys' H'->∃m',m'<m/\W (i+1) m' ys' H')/\∀x H3,J.B3 i H2 x H3->
   g x σ0 H3 λσ3 H4=>Ext σ0 σ3/\tt σ3 H4 λb H5=>if b=true then te σ3 H5 λy H6=>H6 D=some (.lst ys)/\N (ys++[y]) (upd H6 D (.lst (ys++[y]))) else N ys H5)))
  (I4:Inv X [] σ0 H3 s4) (st4:tn 0 s4.heap) (fr4:∀b∈fp,H3 b=none) (w4:W 0 m0 [] H3)
  (hR:∀H' s',Inv X [] σ0 H' s'->Q (.ref D) H'->R (.ok .next) s'):
  codeAny (model X.prog X.w) X.A (.compLoop (.ListComp elt [⟨tg,iter,ifs,0⟩] scope pos) 0 (.ref it) (.ref D) X.env) R s4:=by
 refine oP (λn s'=>∃i ys H',Inv X [] σ0 H' s'/\tn i s'.heap/\(∀b∈fp,H' b=none)/\W i n ys H') ?_ m0 ⟨0,[],H3,I4,st4,fr4,w4⟩;rintro n s5 ⟨i,ys,H5,I5,st5,fr5,w5⟩;obtain⟨hD,hl,cs⟩:=turn i n ys H5 w5;rcases cs with ⟨stop,q⟩|⟨go,N,hN,step⟩
 ·refine bE (T.done X rfl rfl rfl hc i [] s5 σ0 H5 _ I5 (stat fr5) st5 stop) λr s6 ⟨hr,I6⟩=>?_;subst hr;exact hR H5 s6 I6 q
 ·refine bE (T.item X rfl rfl rfl hc i [] s5 σ0 H5 _ I5 (stat fr5) st5 go) λr s6 ⟨u,hr,h6⟩=>?_;subst hr;refine bE h6 λ_ s7 ⟨x,H7,I7,r7,y7,st7,fr7⟩=>?_;have I7':=I7.pinned (stat fr7) (T.obj _ _ st7);have again:∀{σ':St}{H':Hp}{s':Shared},Ext σ0 σ'->Inv X ([]++lA fp s7.heap) σ' H' s'->Inv X [] σ0 H' s'/\tn (i+1) s'.heap/\∀b∈fp,H' b=none:=λ{σ' H' s'} ex I'=>by
   refine⟨I'.iJ.weak ex.len ex.get,T.keep _ _ _ st7 λb hb o e=>(I'.pin (b,o) (gR _ (gR _ (fQ hb e)))).1,λb hb=>?_⟩;obtain⟨o,e,d⟩:=T.obj _ _ st7 b hb;exact(I'.pin (b,o) (gR _ (gR _ (fQ hb e)))).2.1
  have w8:=hg _ s7 σ0 H7 x u _ I7' r7 (step x H7 y7);rw[hx]at w8;refine bE w8 λ_ s8 ⟨σ8,H8,I8,ex8,q8⟩=>?_;have w9:=ht _ s8 σ8 H8 _ I8 q8;rw[hx]at w9;refine bE w9 λok s9 ⟨H9,I9,q9⟩=>?_;cases ok with
  |false=>
   obtain⟨m',hm,w'⟩:=hN _ _ q9;obtain⟨a1,a2,a3⟩:=again ex8 I9;exact⟨m',hm,i+1,ys,H9,a1,a2,a3,w'⟩
  |true=>
   have w10:=he _ s9 σ8 H9 _ I9 q9;rw[hx]at w10;refine bE w10 λy s10 ⟨yv,H10,I10,r10,hD10,n10⟩=>?_;obtain⟨m',hm,w'⟩:=hN _ _ n10;have w11:=mM (X:=X) _ s10 σ8 H10 (.ref D) [yv] (.ref D) [y] (λv H'=>v=.bj/\H'=upd H10 D (.lst (ys++[yv]))) I10 rfl (.cons r10 .nil) ⟨D,ys,yv,rfl,rfl,hD10,hl,rfl,rfl⟩;rw[hx]at w11;refine bE w11 λ_ s11 ⟨_,H11,I11,_,_,e11⟩=>?_;subst e11;obtain⟨a1,a2,a3⟩:=again ex8 I11;exact⟨m',hm,i+1,_,_,a1,a2,a3,w'⟩
theorem cx{scope:Scope}(B:gk X N' k fm scope)(hc:X.calm=true)(hi:PI X tg iter wi)
  (hb:∀fp s H,PG (Bn X N' scope fp s H) tg g/\Oo (Bn X N' scope fp s H) ifs tt/\PE (Bn X N' scope fp s H) elt te)
  (hs:∀x,foldedSetIterable iter X.env x=pure x:=by intro _;rfl):PE X (.ListComp elt [⟨tg,iter,ifs,0⟩] scope pos) (iT k fm wi g tt te):=by
 intro pins s σ H Q I h;have hfree:∀x∈scope.names,x.2=.free->∃c,X.env.cells.lookup x.1=some c:=λx hx hk=>I.ok.has x.1 (B.free x hx hk);rw[eval_ListComp];refine wpAny_comprehension_free (use:=none) rfl hs (h_ hfree) B.kind B.names (bE (hi pins s σ H _ I h) λv s1 h1=>bE h1 λitv s2 h2=>?_);obtain⟨it,fp,tn,J,H2,e,I2,T,st2,f2,h2⟩:=h2;subst e;obtain⟨W,⟨m0,w0⟩,turn⟩:=h2 s2.heap.objs.size I2.fresh;refine yZ (wpAny_newFunctionEnv B.wH (by intro y hy;simp at hy) (λh4 hns4 hsb4=>?_) B.kind);have I3:=I2.MI (its:=[]) (ys:=[]) (t':=s2.toks) .nil (fe _);have hf3:∀b∈fp,e9 X pins (upd H2 s2.heap.objs.size (.lst [])) b:=λb hb=>by
  obtain⟨o,e,_⟩:=T.obj _ _ st2 b hb;refine⟨?_,(f2 b hb).2⟩;rw[ae (λz=>uH _ (z▸cV e))];exact(f2 b hb).1
 have ho3:∀b∈fp,∃o,(s2.heap.push { cls:=.type "list", data:=.seq ([]:List Value).toArray }).get? b=some o:=λb hb=>by
  obtain⟨o,e,_⟩:=T.obj _ _ st2 b hb;exact⟨o,cM _ e⟩
 have kp4:∀b o,(s2.heap.push { cls:=.type "list", data:=.seq ([]:List Value).toArray }).get? b=some o->h4.get? b=some o:=λb o e=>
  hsb4.extBut b o (λz=>uH _ (z▸cV e)) (cM _ e)
 have I4:=I3.block (fp:=fp) (h':=h4) (tk:=s2.toks+([]:List (Str×Value)).length) B hf3 ho3 hns4 kp4;generalize hs3:({ s2 with heap:=s2.heap.push { cls:=.type "list", data:=.seq ([]:List Value).toArray },toks:=s2.toks }:Shared)=s3 at *;obtain⟨hg,ht,he⟩:=hb fp s3 (upd H2 s2.heap.objs.size (.lst []));have st4:tn 0 h4:=T.keep _ _ _ st2 λb hb o e=>kp4 b o (cM _ e);have stat:∀{H':Hp},(∀b∈fp,H' b=none)->∀b∈fp,e9 (Bn X N' scope fp s3 (upd H2 s2.heap.objs.size (.lst []))) [] H' b:=λ{H'} hn b hb=>by
  obtain⟨f0,f1,f3,f4,f5,f6⟩:=hf3 b hb;obtain⟨g1,g2⟩:=I4.ok.OQ b hb;exact⟨hn b hb,g1,I4.ok.xE b hb,.inl hb,g2,λp hp=>f6 p ((bF.mp hp).elim (λz=>gC _ z) λz=>absurd z (by simp))⟩
 have loop:codeAny (model X.prog X.w) X.A (.compLoop (.ListComp elt [⟨tg,iter,ifs,0⟩] scope pos) 0 (.ref it) (.ref s2.heap.objs.size) (compEnvC scope (ke X.env scope.names []) s3.heap.objs.size X.env))
   (compPost (model X.prog X.w) X.A X.xe none (EP X pins σ Q) (.ref s2.heap.objs.size) s3.heap.objs.size) { s3 with heap:=h4,toks:=s2.toks+([]:List (Str×Value)).length }:=by
  refine vO (X:=Bn X N' scope fp s3 (upd H2 s2.heap.objs.size (.lst []))) (D:=s2.heap.objs.size) (Q:=Q) (W:=W) (m0:=m0) rfl hc T stat hg ht he turn I4 st4 (λb hb=>(hf3 b hb).1) w0 ?_;intro H' s' I' q;obtain⟨m,hn,_⟩:=I'.loc;refine⟨m,hn,λh'' hs''=>?_⟩;have hC:s3.heap.get? s3.heap.objs.size=none:=by
   cases e:s3.heap.get? s3.heap.objs.size with
   |none=>rfl
   |some o=>exact absurd (cV e) (uH _)
  have u:Un (v_ X.stack) fp (upd H2 s2.heap.objs.size (.lst [])) H' s3.heap h'':=Un.tail I'.base (λb o hb e=>hs''.extBut b o hb e) hC;refine⟨.ref s2.heap.objs.size,H',?_,rfl,q⟩;refine I3.yS (s':={ s' with heap:=h'' }) (ch:=fp) I'.os u (I'.aV.tail (λb o hb e=>hs''.extBut b o hb e) I'.free) I'.bare λb hb=>?_;obtain⟨f0,f1,f3,f4,f5,f6⟩:=hf3 b hb;exact⟨f4,f1,f5,f6⟩
 subst hs3;exact codeAny_compStart_list loop (T.self X.A 0 _ _ _ st4 loop)
end
noncomputable def Q2(z:Str):It:=⟨λi _=>i<z.cps.size,λi H x H'=>H'=H/\∃c,z.cps[i]?=some c/\x=.str ⟨#[c]⟩,λi _=>z.cps.size<=i⟩
section
variable{X:Cx}{tg:Expr}
def Pz(tl:TE):TI:=λσ H R=>tl σ H λx H1=>∃z,x=.str z/\R (Q2 z) H1
end
section
variable{X:Cx}
noncomputable def Ua:V->Option Int->Option Int->Hp->VK->Prop:=λx lo hi H Q=>∃z,x=.str z/\z.length<=sizeLine/\Q (.str (Txt.slice z lo hi)) H
noncomputable def Um(K:Wf):List V->Hp->VK->Prop:=λxs H Q=>∃(a:Addr) (bs:List Bool),xs=[.ref a]/\aD K H a (bs.map V.bl)/\Q (.bl (bs.all id)) H
noncomputable def OE(K:Wf):List V->Hp->VK->Prop:=λxs H Q=>∃x n t b,xs=[x,.ty n]/\jf K H x t/\kitOne K t (.type n)=some b/\Q (.bl b) H
theorem Cv:cX X (.builtin "isinstance") (OE X.K):=by
 intro pins s σ H xs us Q I r h;obtain⟨x,n,t,b,rfl,ty,e,q⟩:=h;obtain⟨u,u2,rfl,ru,ru2⟩:=vals2 r;cases ru2;exact AK I ru ty e λtk=>⟨.bl b,H,I.tok tk,rfl,q⟩
def KN(K:Wf):R2:=λx y H Q=>∃l b xs zs,x=.ref l/\y=.ref b/\aD K H l xs/\aD K H b zs/\xs.length+zs.length<=sizeLine/\∀p,H p=none->Q (.ref p) (upd H p (.lst (xs++zs)))
theorem IE:g8 X (binaryOp .Add) (KN X.K):=by
 intro pins s σ H x y v u Q I rx ry h;obtain⟨l,b,xs,zs,rfl,rfl,hH,hB,hz,q⟩:=h;cases rx;cases ry;obtain⟨vs,r,p,z⟩:=I.list hH;obtain⟨ws,r2,p2,z2⟩:=I.list hB;have l1:=r.length;have l2:=r2.length;obtain⟨⟨cls,dd,data,sl⟩,n,ho,hc,hdd,hd⟩:=p;obtain⟨⟨cls2,dd2,data2,sl2⟩,n2,ho2,hc2,hdd2,hd2⟩:=p2;simp only at hc hd hc2 hd2;subst hc hd hc2 hd2;have e:vs.toArray++ws.toArray=(vs++ws).toArray:=by simp
 refine concat_meets ⟨_,ho,rfl⟩ ⟨_,ho2,rfl⟩ noFill_list_add seq_list_add PySem.F.slot_list_add PySem.F.entry_list_add (PySem.F.args_list_add_2 _ _) (list_addW l b vs.toArray ws.toArray n n2 dd dd2 sl sl2 (by simp;omega)) ⟨ho,ho2,?_⟩;rw[e];exact⟨.ref _,_,I.MI (t':=s.toks) (r.append r2) (by rw[cW];omega),rfl,q _ I.fresh⟩
end
set_option genInjectivity true in
inductive Slots (X:Cx) (scope:Scope):List Str->List Nat->Prop
 |nil:Slots X scope [] []
 |cons {x:Str}{j:Nat}{xs:List Str}{js:List Nat}(h1:scope.names.lookup x=some .free) (h2:X.env.kindOf x=some .cell\/X.env.kindOf x=some .free) (h3:X.N[j]?=some x) (r:Slots X scope xs js):Slots X scope (x::xs) (j::js)
theorem Slots.len{scope:Scope}:∀{xs:List Str}{js:List Nat},Slots X scope xs js->xs.length=js.length
 |_,_,.nil=>rfl
 |_,_,.cons _ _ _ r=>by simp[r.len]
theorem Slots.kind{scope:Scope}:∀{xs:List Str}{js:List Nat},Slots X scope xs js->∀x∈xs,X.env.kindOf x=some .cell\/X.env.kindOf x=some .free
 |_,_,.nil,x,h=>absurd h (by simp)
 |_,_,.cons _ h2 _ r,x,h=>by
  rcases iG.mp h with e|e
  ·subst e;exact h2
  ·exact r.kind x e
theorem Slots.get{scope:Scope}:∀{xs:List Str}{js:List Nat},Slots X scope xs js->∀(i:Nat) (x:Str),xs[i]?=some x->scope.names.lookup x=some .free/\∃j,js[i]?=some j/\X.N[j]?=some x
 |_,_,.nil,i,x,h=>by simp at h
 |_,_,.cons h1 _ h3 r,0,x,h=>by
  simp only[List.getElem?_cons_zero,Option.some.injEq]at h;subst h;exact⟨h1,_,by simp,h3⟩
 |_,_,.cons _ _ _ r,i+1,x,h=>by simpa using r.get i x (by simpa using h)
theorem l8{scope:Scope}(kind:scope.kind=.function)(h1:∀y∈scope.names,y.2≠.cell)(h2:∀y∈scope.names,y.2=.local->scope.names.lookup y.1=some .local)
  (h3:∀y∈scope.names,y.2=.free->y.1∈fr) (S:Slots X scope fr fm):gk X (own++fr) own.length fm scope:=
 ⟨kind,h1,h2,λy hy hk=>S.kind y.1 (h3 y hy hk),by rw[cW,S.len],λi x hi h=>by
  rw[H_ hi]at h;exact S.get _ x h⟩
section
variable{X:Cx}
end
theorem BQ{K:Wf}{a:Addr}{xs:List V}{g:TG}{tt:TT}{te:TE}{σ0:St}{H:Hp}{D:Addr}{Q:VK}(hz:xs.length<sizeLine)(Pv:Nat->List V->Hp->Prop)(h0:Pv 0 [] (upd H D (.lst [])))
  (hl:∀i ys H,i<=xs.length->Pv i ys H->aD K H a xs/\H D=some (.lst ys)/\ys.length<=i)
  (hs:∀i x ys H,xs[i]?=some x->Pv i ys H->g x σ0 H λσ3 H4=>Ext σ0 σ3/\tt σ3 H4 λb H5=>if b=true then te σ3 H5 λy H6=>H6 D=some (.lst ys)/\Pv (i+1) (ys++[y]) (upd H6 D (.lst (ys++[y]))) else Pv (i+1) ys H5)
  (hd:∀ys H,Pv xs.length ys H->Q (.ref D) H):
  ∃W:Nat->Nat->List V->Hp->Prop,(∃m,W 0 m [] (upd H D (.lst [])))/\∀i m ys H2,W i m ys H2->H2 D=some (.lst ys)/\ys.length<sizeLine/\(((Dg K a).stop i H2/\Q (.ref D) H2)\/((Dg K a).go i H2/\∃N:List V->Hp->Prop,(∀ys' H',N ys' H'->∃m',m'<m/\W (i+1) m' ys' H')/\∀x H3,(Dg K a).B3 i H2 x H3->
   g x σ0 H3 λσ3 H4=>Ext σ0 σ3/\tt σ3 H4 λb H5=>if b=true then te σ3 H5 λy H6=>H6 D=some (.lst ys)/\N (ys++[y]) (upd H6 D (.lst (ys++[y]))) else N ys H5)):=by
 refine⟨λi m ys H=>m=xs.length - i/\i<=xs.length/\Pv i ys H,⟨xs.length,by simp,Nat.zero_le _,h0⟩,?_⟩;rintro i m ys H2 ⟨rfl,hi,p⟩;obtain⟨l0,l1,l2⟩:=hl i ys H2 hi p;refine⟨l1,by omega,?_⟩;by_cases hlt:i<xs.length
 ·refine .inr ⟨⟨xs,xs[i],l0,by simp[hlt]⟩,Pv (i+1),λys' H' p'=>⟨_,(by omega:xs.length - (i+1)<xs.length - i),rfl,hlt,p'⟩,λx H3 y=>?_⟩;obtain⟨e,y⟩:=y;subst e;exact hs i x ys _ (y xs l0) p
 ·have e:i=xs.length:=by omega
  subst e;exact .inl ⟨⟨xs,l0,bC _⟩,hd ys H2 p⟩
def uY(g:TG)(tb:TS)(D:Ends)(σ:St)(J:It)(H1:Hp):Prop:=∃W:Nat->Nat->St->Hp->Prop,(∃m,W 0 m σ H1)/\∀i m σ H,W i m σ H->
 (J.stop i H/\D.nx σ H)\/(J.go i H/\∃N:St->Hp->Prop,(∀σ' H',N σ' H'->∃m',m'<m/\W (i+1) m' σ' H')/\∀x H',J.B3 i H x H'->g x σ H' λσ2 H2=>tb { D with nx:=N,ct:=N,bk:=D.nx } σ2 H2)
def dv(K:Wf)(g:TG)(tb:TS)(D:Ends)(σ:St):VK:=λx H1=>∃a,x=.ref a/\(∃xs,aD K H1 a xs)/\uY g tb D σ (Dg K a) H1
def IK(K:Wf)(g:TG)(tb:TS)(D:Ends)(σ:St):VK:=λx H1=>∃a,x=.ref a/\(∃xs,aR K H1 a xs)/\uY g tb D σ (L6 K a) H1
def Rl(g:TG)(tb:TS)(D:Ends)(σ:St):VK:=λx H1=>∃z,x=.str z/\uY g tb D σ (Q2 z) H1
noncomputable def AQ(g:TG)(tb:TS)(D:Ends)(σ:St):List V->Hp->Prop:=λvs H1=>∃j:Int,vs=[.int j] /\ -(2 ^ 62)<=j/\j<2 ^ 62/\uY g tb D σ (Hy 0 j.toNat) H1
noncomputable def NC(g:TG)(tb:TS)(D:Ends)(σ:St):List V->Hp->Prop:=λvs H1=>∃i j:Int,vs=[.int i,.int j]/\(-(2 ^ 62)<=i/\i<2 ^ 62 /\ -(2 ^ 62)<=j/\j<2 ^ 62)/\uY g tb D σ (Hy i (j - i).toNat) H1
section
variable{K:Wf}{te:TE}{ta:TA}{g:TG}{tb:TS}{D:Ends}{σ:St}{H:Hp}
theorem Nb:mJ (oo K te) g tb D σ H=te σ H (dv K g tb D σ):=rfl
theorem Pa:mJ (HS K te) g tb D σ H=te σ H (IK K g tb D σ):=rfl
theorem Qb:mJ (Pz te) g tb D σ H=te σ H (Rl g tb D σ):=rfl
theorem Nj:mJ (F6 ta) g tb D σ H=ta σ H (AQ g tb D σ):=rfl
theorem MW:mJ (NF ta) g tb D σ H=ta σ H (NC g tb D σ):=rfl
theorem dv.of(Pv:Nat->St->Hp->Prop)(h0:Pv 0 σ H)(hl:∀i σ H,i<=xs.length->Pv i σ H->aD K H a xs)
  (hs:∀i x σ H,xs[i]?=some x->Pv i σ H->g x σ H λσ2 H2=>tb { D with nx:=Pv (i+1),ct:=Pv (i+1),bk:=D.nx } σ2 H2) (hd:∀σ H,Pv xs.length σ H->D.nx σ H):dv K g tb D σ (.ref a) H:=
 ⟨a,rfl,⟨xs,hl 0 _ _ (fe _) h0⟩,CA Pv h0 hl hs hd⟩
theorem IK.of(Pv:Nat->St->Hp->Prop)(h0:Pv 0 σ H)(hl:∀i σ H,i<=xs.length->Pv i σ H->aR K H a xs)
  (hs:∀i x σ H,xs[i]?=some x->Pv i σ H->g x σ H λσ2 H2=>tb { D with nx:=Pv (i+1),ct:=Pv (i+1),bk:=D.nx } σ2 H2) (hd:∀σ H,Pv xs.length σ H->D.nx σ H):IK K g tb D σ (.ref a) H:=
 ⟨a,rfl,⟨xs,hl 0 _ _ (fe _) h0⟩,Jn Pv h0 hl hs hd⟩
theorem AQ.of(h1:n<2 ^ 62)(h2 : -(2 ^ 62)<=n)(Pv:Nat->St->Hp->Prop)(h0:Pv 0 σ H)
  (hs:∀i σ H,i<n.toNat->Pv i σ H->g (.int (i:Int)) σ H λσ2 H2=>tb { D with nx:=Pv (i+1),ct:=Pv (i+1),bk:=D.nx } σ2 H2) (hd:∀σ H,Pv n.toNat σ H->D.nx σ H):AQ g tb D σ [.int n] H:=
 ⟨n,rfl,h2,h1,Bt (n:=n.toNat) Pv h0 (λi σ H hi p=>by
  have e:(0:Int)+(i:Int)=i:=by omega
  rw[e];exact hs i σ H hi p) hd⟩
end
def nK(g:TG)(tt:TT)(te:TE)(σ0:St)(Q:VK)(J:It)(H1:Hp):Prop:=∀DD,H1 DD=none->∃W:Nat->Nat->List V->Hp->Prop,
 (∃m,W 0 m [] (upd H1 DD (.lst [])))/\∀i m ys H2,W i m ys H2->H2 DD=some (.lst ys)/\ys.length<sizeLine/\((J.stop i H2/\Q (.ref DD) H2)\/(J.go i H2/\∃N:List V->Hp->Prop,(∀ys' H',N ys' H'->∃m',m'<m/\W (i+1) m' ys' H')/\∀x H3,J.B3 i H2 x H3->
  g x σ0 H3 λσ3 H4=>Ext σ0 σ3/\tt σ3 H4 λb H5=>if b=true then te σ3 H5 λy H6=>H6 DD=some (.lst ys)/\N (ys++[y]) (upd H6 DD (.lst (ys++[y]))) else N ys H5))
def cD(K:Wf)(g:TG)(tt:TT)(te:TE)(σ0:St)(Q:VK):VK:=λx H1=>∃a,x=.ref a/\(∃xs,aD K H1 a xs)/\nK g tt te σ0 Q (Dg K a) H1
def P4(K:Wf)(g:TG)(tt:TT)(te:TE)(σ0:St)(Q:VK):VK:=λx H1=>∃a,x=.ref a/\(∃xs,aR K H1 a xs)/\nK g tt te σ0 Q (L6 K a) H1
def Oa(g:TG)(tt:TT)(te:TE)(σ0:St)(Q:VK):VK:=λx H1=>∃z,x=.str z/\nK g tt te σ0 Q (Q2 z) H1
noncomputable def PD(g:TG)(tt:TT)(te:TE)(σ0:St)(Q:VK):List V->Hp->Prop:=λvs H1=>∃j:Int,vs=[.int j] /\ -(2 ^ 62)<=j/\j<2 ^ 62/\nK g tt te σ0 Q (Hy 0 j.toNat) H1
section
variable{K:Wf}{k:Nat}{fm:List Nat}{tl te:TE}{ta:TA}{g:TG}{tt:TT}{σ σ0:St}{H H1:Hp}{Q:VK}
theorem Lx:iT k fm (oo K tl) g tt te σ H Q=tl σ H (cD K g tt te (d3 k fm σ) Q):=rfl
theorem Na:iT k fm (HS K tl) g tt te σ H Q=tl σ H (P4 K g tt te (d3 k fm σ) Q):=rfl
theorem M_:iT k fm (Pz tl) g tt te σ H Q=tl σ H (Oa g tt te (d3 k fm σ) Q):=rfl
theorem Me:iT k fm (F6 ta) g tt te σ H Q=ta σ H (PD g tt te (d3 k fm σ) Q):=rfl
theorem cD.of(hz:xs.length<sizeLine)(hx:aD K H1 a xs)(Pv:Addr->Nat->List V->Hp->Prop)(h0:∀D,H1 D=none->Pv D 0 [] (upd H1 D (.lst [])))
  (hl:∀D i ys H',H1 D=none->i<=xs.length->Pv D i ys H'->aD K H' a xs/\H' D=some (.lst ys)/\ys.length<=i)
  (hs:∀D i x ys H',H1 D=none->xs[i]?=some x->Pv D i ys H'->g x σ0 H' λσ3 H4=>Ext σ0 σ3/\tt σ3 H4 λb H5=>if b=true then te σ3 H5 λy H6=>H6 D=some (.lst ys)/\Pv D (i+1) (ys++[y]) (upd H6 D (.lst (ys++[y]))) else Pv D (i+1) ys H5)
  (hd:∀D ys H',H1 D=none->Pv D xs.length ys H'->Q (.ref D) H'):cD K g tt te σ0 Q (.ref a) H1:=
 ⟨a,rfl,⟨xs,hx⟩,λD hD=>BQ hz (Pv D) (h0 D hD) (λi ys H'=>hl D i ys H' hD) (λi x ys H'=>hs D i x ys H' hD) λys H'=>hd D ys H' hD⟩
end
set_option genInjectivity true in
inductive D where
 |bj|bl (b:Bool)|int (i:Int)|str (z:Str)|lst (xs:List D)|tup (xs:List D)
mutual
noncomputable def Rep(K:Wf)(H:Hp):D->V->Prop
 |.bj,v=>v=.bj
 |.bl b,v=>v=.bl b
 |.int i,v=>v=.int i
 |.str z,v=>v=.str z
 |.lst ds,v=>∃a xs,v=.ref a/\aD K H a xs/\RepL K H ds xs
 |.tup ds,v=>∃a xs,v=.ref a/\aR K H a xs/\RepL K H ds xs
noncomputable def RepL(K:Wf)(H:Hp):List D->List V->Prop
 |[],xs=>xs=[]
 |d::ds,xs=>∃y ys,xs=y::ys/\Rep K H d y/\RepL K H ds ys
end
mutual
noncomputable def deq:D->D->Bool
 |.bj,.bj=>true
 |.bl a,.bl b=>a == b
 |.bl a,.int b=>(if a then 1 else 0) == b
 |.int a,.bl b=>a == (if b then 1 else 0)
 |.int a,.int b=>a == b
 |.str a,.str b=>a == b
 |.lst a,.lst b=>deqL a b
 |.tup a,.tup b=>deqL a b
 |_,_=>false
noncomputable def deqL:List D->List D->Bool
 |[],[]=>true
 |a::as,b::bs=>deq a b&&deqL as bs
 |_,_=>false
end
mutual
noncomputable def dep:D->Nat
 |.lst ds=>depL ds+1
 |.tup ds=>depL ds+1
 |_=>0
noncomputable def depL:List D->Nat
 |[]=>0
 |d::ds=>max (dep d) (depL ds)
end
mutual
theorem kQ:∀d:D,deq d d=true
 |.bj=>rfl
 |.bl a=>by simp[deq]
 |.int a=>by simp[deq]
 |.str a=>by simp[deq]
 |.lst a=>by simp only[deq];exact fj a
 |.tup a=>by simp only[deq];exact fj a
theorem fj:∀ds:List D,deqL ds ds=true
 |[]=>rfl
 |d::ds=>by simp only[deqL,kQ d,fj ds,Bool.and_self]
end
theorem RepL.len{K:Wf}{H:Hp}:∀{ds:List D}{xs:List V},RepL K H ds xs->ds.length=xs.length
 |[],xs,h=>by simp only[RepL]at h;subst h;rfl
 |d::ds,xs,h=>by
  simp only[RepL]at h;obtain⟨y,ys,rfl,_,r⟩:=h;simp[r.len]
noncomputable def eAt(ds es:List D)(j:Nat):Bool:=match ds[j]?,es[j]? with
 |some d,some e=>deq d e
 |_,_=>true
theorem i7:∀(ds es:List D),((List.range (min ds.length es.length)).all (eAt ds es)&&ds.length == es.length)=deqL ds es
 |[],[]=>by simp[deqL]
 |[],e::es=>by simp[deqL]
 |d::ds,[]=>by simp[deqL]
 |d::ds,e::es=>by
  have ih:=i7 ds es;have h1:min (d::ds).length (e::es).length=min ds.length es.length+1:=by simp only[List.length_cons];omega
  rw[h1,List.range_succ_eq_map,List.all_cons,List.all_map];have h2:(eAt (d::ds) (e::es) ∘ Nat.succ)=eAt ds es:=by funext j;simp[eAt]
  have h3:eAt (d::ds) (e::es) 0=deq d e:=by simp[eAt]
  rw[h2,h3];simp only[deqL,<-ih,List.length_cons,Bool.and_assoc];congr 2;simp
section
variable{X:Cx}{pins:Lo}{σ:St}{H:Hp}{s:Shared}
mutual
theorem Ip(I:Inv X pins σ H s):∀(d e:D) (x:V),Rep X.K H d x->Rep X.K H e x->d=e
 |d,e,x,hd,he=>by
  cases d with
  |bj=>
   simp only[Rep]at hd;subst hd;cases e<;>simp only[Rep]at he<;>first|rfl|(obtain⟨a,xs,z,_⟩:=he;cases z;done)|(cases he;done)
  |bl b=>
   simp only[Rep]at hd;subst hd;cases e<;>simp only[Rep]at he<;>first|(obtain⟨a,xs,z,_⟩:=he;cases z;done)|(cases he;rfl)|(cases he;done)
  |int b=>
   simp only[Rep]at hd;subst hd;cases e<;>simp only[Rep]at he<;>first|(obtain⟨a,xs,z,_⟩:=he;cases z;done)|(cases he;rfl)|(cases he;done)
  |str b=>
   simp only[Rep]at hd;subst hd;cases e<;>simp only[Rep]at he<;>first|(obtain⟨a,xs,z,_⟩:=he;cases z;done)|(cases he;rfl)|(cases he;done)
  |lst ds=>
   simp only[Rep]at hd;obtain⟨a,xs,rfl,hx,r⟩:=hd;cases e with
   |lst es=>
    simp only[Rep]at he;obtain⟨a',xs',z,hx',r'⟩:=he;cases z;have:=I.gx hx hx';subst this;rw[gq I ds es xs r r']
   |tup es=>
    simp only[Rep]at he;obtain⟨a',xs',z,hx',r'⟩:=he;cases z
    exfalso
    obtain⟨_,_,p,_⟩:=I.list hx;obtain⟨_,_,q,_⟩:=I.tuple hx';obtain⟨o,n,e1,e2,_⟩:=p;obtain⟨o',e1',e2',_⟩:=q;rw[e1]at e1';cases e1';rw[e2]at e2';exact absurd e2' (by decide)
   |_=>simp only[Rep]at he;cases he
  |tup ds=>
   simp only[Rep]at hd;obtain⟨a,xs,rfl,hx,r⟩:=hd;cases e with
   |tup es=>
    simp only[Rep]at he;obtain⟨a',xs',z,hx',r'⟩:=he;cases z;have:=I.jK hx hx';subst this;rw[gq I ds es xs r r']
   |lst es=>
    simp only[Rep]at he;obtain⟨a',xs',z,hx',r'⟩:=he;cases z
    exfalso
    obtain⟨_,_,p,_⟩:=I.list hx';obtain⟨_,_,q,_⟩:=I.tuple hx;obtain⟨o,n,e1,e2,_⟩:=p;obtain⟨o',e1',e2',_⟩:=q;rw[e1]at e1';cases e1';rw[e2]at e2';exact absurd e2' (by decide)
   |_=>simp only[Rep]at he;cases he
theorem gq(I:Inv X pins σ H s):∀(ds es:List D) (xs:List V),RepL X.K H ds xs->RepL X.K H es xs->ds=es
 |[],es,xs,hd,he=>by
  simp only[RepL]at hd;subst hd;cases es with
  |nil=>rfl
  |cons e es=>simp only[RepL]at he;obtain⟨y,ys,z,_⟩:=he;cases z
 |d::ds,es,xs,hd,he=>by
  simp only[RepL]at hd;obtain⟨y,ys,rfl,r,rs⟩:=hd;cases es with
  |nil=>simp only[RepL]at he;cases he
  |cons e es=>
   simp only[RepL]at he;obtain⟨y',ys',z,r',rs'⟩:=he;cases z;rw[Ip I d e y r r',gq I ds es ys rs rs']
end
theorem g_(p:IsTup h a its):h.IsTuple a its:=by
 obtain⟨o,e,c,n,d⟩:=p;exact⟨o,e,c,n,d⟩
mutual
theorem sH(I:Inv X pins σ H s):∀(d e:D) (x y:V) (u v:Value) (A:Around),A.units+dep d<cLine->Rep X.K H d x->Rep X.K H e y->RelV x u->RelV y v->SeqAt.EqAt A s u v (deq d e)
 |.bj,e,x,y,u,v,A,hu,hd,he,rx,ry=>by
  have hu:A.units<cLine:=by omega
  simp only[Rep]at hd;subst hd;cases rx;cases e<;>simp only[Rep]at he
  ·subst he;cases ry;exact SeqAt.EqAt.same _
  ·subst he;cases ry;exact SeqAt.EqAt.none_bool _
  ·subst he;obtain⟨t,rfl⟩:=ry;exact SeqAt.EqAt.none_int _ _
  ·subst he;obtain⟨t,rfl⟩:=ry;exact SeqAt.EqAt.none_str _ _
  ·obtain⟨a,xs,rfl,hx,_⟩:=he;cases ry;obtain⟨_,_,p,_⟩:=I.list hx;exact SeqAt.EqAt.none_list p.isList hu
  ·obtain⟨a,xs,rfl,hx,_⟩:=he;cases ry;obtain⟨_,_,p,_⟩:=I.tuple hx;exact SeqAt.EqAt.none_tuple (g_ p) hu
 |.bl b,e,x,y,u,v,A,hu,hd,he,rx,ry=>by
  have hu:A.units<cLine:=by omega
  simp only[Rep]at hd;subst hd;cases rx;cases e<;>simp only[Rep]at he
  ·subst he;cases ry;exact SeqAt.EqAt.bool_none _
  ·subst he;cases ry;exact SeqAt.EqAt.bool_bool _ _
  ·subst he;obtain⟨t,rfl⟩:=ry;exact SeqAt.EqAt.bool_int _ _ _
  ·subst he;obtain⟨t,rfl⟩:=ry;exact SeqAt.EqAt.bool_str _ _ _
  ·obtain⟨a,xs,rfl,hx,_⟩:=he;cases ry;obtain⟨_,_,p,_⟩:=I.list hx;exact SeqAt.EqAt.bool_list _ p.isList hu
  ·obtain⟨a,xs,rfl,hx,_⟩:=he;cases ry;obtain⟨_,_,p,_⟩:=I.tuple hx;exact SeqAt.EqAt.bool_tuple _ (g_ p) hu
 |.int b,e,x,y,u,v,A,hu,hd,he,rx,ry=>by
  have hu:A.units<cLine:=by omega
  simp only[Rep]at hd;subst hd;obtain⟨t0,rfl⟩:=rx;cases e<;>simp only[Rep]at he
  ·subst he;cases ry;exact SeqAt.EqAt.int_none _ _
  ·subst he;cases ry;exact SeqAt.EqAt.int_bool _ _ _
  ·subst he;obtain⟨t,rfl⟩:=ry;exact SeqAt.EqAt.int_int _ _ _ _
  ·subst he;obtain⟨t,rfl⟩:=ry;exact SeqAt.EqAt.int_str _ _ _ _
  ·obtain⟨a,xs,rfl,hx,_⟩:=he;cases ry;obtain⟨_,_,p,_⟩:=I.list hx;exact SeqAt.EqAt.int_list _ _ p.isList hu
  ·obtain⟨a,xs,rfl,hx,_⟩:=he;cases ry;obtain⟨_,_,p,_⟩:=I.tuple hx;exact SeqAt.EqAt.int_tuple _ _ (g_ p) hu
 |.str b,e,x,y,u,v,A,hu,hd,he,rx,ry=>by
  have hu:A.units<cLine:=by omega
  simp only[Rep]at hd;subst hd;obtain⟨t0,rfl⟩:=rx;cases e<;>simp only[Rep]at he
  ·subst he;cases ry;exact SeqAt.EqAt.str_none _ _
  ·subst he;cases ry;exact SeqAt.EqAt.str_bool _ _ _
  ·subst he;obtain⟨t,rfl⟩:=ry;exact SeqAt.EqAt.str_int _ _ _ _
  ·subst he;obtain⟨t,rfl⟩:=ry;exact SeqAt.EqAt.str_str _ _ _ _
  ·obtain⟨a,xs,rfl,hx,_⟩:=he;cases ry;obtain⟨_,_,p,_⟩:=I.list hx;exact SeqAt.EqAt.str_list _ _ p.isList hu
  ·obtain⟨a,xs,rfl,hx,_⟩:=he;cases ry;obtain⟨_,_,p,_⟩:=I.tuple hx;exact SeqAt.EqAt.str_tuple _ _ (g_ p) hu
 |.lst ds,e,x,y,u,v,A,hu,hd,he,rx,ry=>by
  have hu0:A.units<cLine:=by omega
  simp only[dep]at hu;simp only[Rep]at hd;obtain⟨a,xs,rfl,hx,r⟩:=hd;cases rx;obtain⟨its,rv,p,hz⟩:=I.list hx;cases e<;>simp only[Rep]at he
  ·subst he;cases ry;exact SeqAt.EqAt.list_none p.isList hu0
  ·subst he;cases ry;exact SeqAt.EqAt.list_bool _ p.isList hu0
  ·subst he;obtain⟨t,rfl⟩:=ry;exact SeqAt.EqAt.list_int _ _ p.isList hu0
  ·subst he;obtain⟨t,rfl⟩:=ry;exact SeqAt.EqAt.list_str _ _ p.isList hu0
  ·rename_i es;obtain⟨b,ys,rfl,hy,r'⟩:=he;cases ry;obtain⟨its',rv',p',hz'⟩:=I.list hy;by_cases hab:a=b
   ·subst hab;have:=I.gx hx hy;subst this;rw[gq I ds es xs r r',kQ];exact SeqAt.EqAt.same _
   ·have l1:=r.len;have l2:=rv.length;have l3:=r'.len;have l4:=rv'.length;have key:=i7 ds es;simp only[deq];rw[<-key];by_cases hl:its.length=its'.length
    ·have:=SeqAt.EqAt.of_refs hab (SeqAt.RcAt.lists (e:=eAt ds es) p.isList p'.isList (by simpa using hl) hu0 (λj h1 h2=>by
      have q:=eN I ds es xs ys its its' A.in1 (by show A.units+1+depL ds<cLine;omega) r r' rv rv' j (by simpa using h1) (by simpa using h2);simpa using q))
     have e1:its.toArray.size=min ds.length es.length:=by rw[ij];omega
     rw[e1]at this;have e2:(ds.length == es.length)=true:=by simp;omega
     rw[e2,Bool.and_true];exact this
    ·have e2:(ds.length == es.length)=false:=by simp;omega
     rw[e2,Bool.and_false];exact SeqAt.EqAt.of_refs hab (SeqAt.RcAt.lists_lengths p.isList p'.isList (by simpa using hl) hu0)
  ·obtain⟨b,ys,rfl,hy,r'⟩:=he;cases ry;obtain⟨_,_,q,_⟩:=I.tuple hy;exact SeqAt.EqAt.list_tuple p.isList (g_ q) hu0
 |.tup ds,e,x,y,u,v,A,hu,hd,he,rx,ry=>by
  have hu0:A.units<cLine:=by omega
  simp only[dep]at hu;simp only[Rep]at hd;obtain⟨a,xs,rfl,hx,r⟩:=hd;cases rx;obtain⟨its,rv,p,hz⟩:=I.tuple hx;cases e<;>simp only[Rep]at he
  ·subst he;cases ry;exact SeqAt.EqAt.tuple_none (g_ p) hu0
  ·subst he;cases ry;exact SeqAt.EqAt.tuple_bool _ (g_ p) hu0
  ·subst he;obtain⟨t,rfl⟩:=ry;exact SeqAt.EqAt.tuple_int _ _ (g_ p) hu0
  ·subst he;obtain⟨t,rfl⟩:=ry;exact SeqAt.EqAt.tuple_str _ _ (g_ p) hu0
  ·obtain⟨b,ys,rfl,hy,r'⟩:=he;cases ry;obtain⟨_,_,q,_⟩:=I.list hy;exact SeqAt.EqAt.tuple_list (g_ p) q.isList hu0
  ·rename_i es;obtain⟨b,ys,rfl,hy,r'⟩:=he;cases ry;obtain⟨its',rv',p',hz'⟩:=I.tuple hy;by_cases hab:a=b
   ·subst hab;have:=I.jK hx hy;subst this;rw[gq I ds es xs r r',kQ];exact SeqAt.EqAt.same _
   ·have l1:=r.len;have l2:=rv.length;have l3:=r'.len;have l4:=rv'.length;have key:=i7 ds es;simp only[deq];rw[<-key];have:=SeqAt.EqAt.of_refs hab (SeqAt.RcAt.tuples (e:=eAt ds es) (g_ p) (g_ p') hu0 (λj h1 h2=>by
      have q:=eN I ds es xs ys its its' A.in1 (by show A.units+1+depL ds<cLine;omega) r r' rv rv' j (by simpa using h1) (by simpa using h2);simpa using q))
    have e1:its.toArray.size=ds.length:=by rw[ij];omega
    have e2:its'.toArray.size=es.length:=by rw[ij];omega
    rw[e1,e2]at this;exact this
theorem eN(I:Inv X pins σ H s):∀(ds es:List D) (xs ys:List V) (us vs:List Value) (A:Around),A.units+depL ds<cLine->RepL X.K H ds xs->RepL X.K H es ys->Vals xs us->Vals ys vs->
  ∀(j:Nat) (h1:j<us.length) (h2:j<vs.length),SeqAt.EqAt A s us[j] vs[j] (eAt ds es j)
 |[],es,xs,ys,us,vs,A,hu,hd,he,rx,ry,j,h1,h2=>by
  simp only[RepL]at hd;subst hd;cases rx;exact absurd h1 (by simp)
 |d::ds,es,xs,ys,us,vs,A,hu,hd,he,rx,ry,j,h1,h2=>by
  simp only[depL]at hu;simp only[RepL]at hd;obtain⟨x,xs',rfl,rd,rds⟩:=hd;cases rx with
  |cons r0 rr=>
   cases es with
   |nil=>
    simp only[RepL]at he;subst he;cases ry;exact absurd h2 (by simp)
   |cons e es=>
    simp only[RepL]at he;obtain⟨y,ys',rfl,re,res⟩:=he;cases ry with
    |cons q0 qr=>
     cases j with
     |zero=>
      have:eAt (d::ds) (e::es) 0=deq d e:=by simp[eAt]
      rw[this];exact sH I d e x y _ _ A (by omega) rd re r0 q0
     |succ j=>
      have:eAt (d::ds) (e::es) (j+1)=eAt ds es j:=by simp[eAt]
      rw[this];exact eN I ds es xs' ys' _ _ A (by omega) rds res rr qr j (by simpa using h1) (by simpa using h2)
end
def Mf(K:Wf):R2:=λx y H Q=>∃ds es,((Rep K H (.lst ds) x/\Rep K H (.lst es) y)\/(Rep K H (.tup ds) x/\Rep K H (.tup es) y))/\depL ds<=20/\Q (.bl (deqL ds es)) H
theorem Mo(hu:X.A.units+64<cLine):g8 X (compareOp .Eq) (Mf X.K):=by
 intro pins s σ H x y v u Q I rx ry h;obtain⟨ds,es,h,hdep,q⟩:=h;have hu0:X.A.units<cLine:=by omega
 have hin:X.A.in1.units+depL ds<cLine:=by show X.A.units+1+depL ds<cLine;omega
 have key:=i7 ds es;rcases h with ⟨h1,h2⟩|⟨h1,h2⟩
 ·simp only[Rep]at h1 h2;obtain⟨a,xs,rfl,hx,r⟩:=h1;obtain⟨b,ys,rfl,hy,r'⟩:=h2;cases rx;cases ry;obtain⟨its,rv,p,hz⟩:=I.list hx;obtain⟨its',rv',p',hz'⟩:=I.list hy;have l1:=r.len;have l2:=rv.length;have l3:=r'.len;have l4:=rv'.length;by_cases hl:its.length=its'.length
  ·refine SeqAt.eq_listAt (e:=eAt ds es) p.isList p'.isList (by simpa using hl) hu0 (λj h1 h2=>?_) ?_
   ·have q:=eN I ds es xs ys its its' X.A.in1 hin r r' rv rv' j (by simpa using h1) (by simpa using h2);simpa using q
   ·have e1:its.toArray.size=min ds.length es.length:=by rw[ij];omega
    have e2:(ds.length == es.length)=true:=by simp;omega
    rw[e2,Bool.and_true]at key;rw[e1,key];exact⟨.bl (deqL ds es),H,I,rfl,q⟩
  ·have e2:(ds.length == es.length)=false:=by simp;omega
   rw[e2,Bool.and_false]at key;rw[<-key]at q;exact SeqAt.eq_list_lengthsAt p.isList p'.isList (by simpa using hl) hu0 ⟨.bl false,H,I,rfl,q⟩
 ·simp only[Rep]at h1 h2;obtain⟨a,xs,rfl,hx,r⟩:=h1;obtain⟨b,ys,rfl,hy,r'⟩:=h2;cases rx;cases ry;obtain⟨its,rv,p,hz⟩:=I.tuple hx;obtain⟨its',rv',p',hz'⟩:=I.tuple hy;have l1:=r.len;have l2:=rv.length;have l3:=r'.len;have l4:=rv'.length;refine SeqAt.eq_tupleAt (e:=eAt ds es) (g_ p) (g_ p') hu0 (λj h1 h2=>?_) ?_
  ·have q:=eN I ds es xs ys its its' X.A.in1 hin r r' rv rv' j (by simpa using h1) (by simpa using h2);simpa using q
  ·have e1:its.toArray.size=ds.length:=by rw[ij];omega
   have e2:its'.toArray.size=es.length:=by rw[ij];omega
   rw[e1,e2,key];exact⟨.bl (deqL ds es),H,I,rfl,q⟩
def OX(K:Wf):R2:=λx y H Q=>∃ds es,((Rep K H (.lst ds) x/\Rep K H (.lst es) y)\/(Rep K H (.tup ds) x/\Rep K H (.tup es) y))/\depL ds<=20/\Q (.bl (!deqL ds es)) H
theorem Lr(hu:X.A.units+64<cLine):g8 X (compareOp .NotEq) (OX X.K):=by
 intro pins s σ H x y v u Q I rx ry h;obtain⟨ds,es,h,hdep,q⟩:=h;have hu0:X.A.units<cLine:=by omega
 have hin:X.A.in1.units+depL ds<cLine:=by show X.A.units+1+depL ds<cLine;omega
 have key:=i7 ds es;rcases h with ⟨h1,h2⟩|⟨h1,h2⟩
 ·simp only[Rep]at h1 h2;obtain⟨a,xs,rfl,hx,r⟩:=h1;obtain⟨b,ys,rfl,hy,r'⟩:=h2;cases rx;cases ry;obtain⟨its,rv,p,hz⟩:=I.list hx;obtain⟨its',rv',p',hz'⟩:=I.list hy;have l1:=r.len;have l2:=rv.length;have l3:=r'.len;have l4:=rv'.length;by_cases hl:its.length=its'.length
  ·refine SeqAt.RcNeAt.lists (e:=eAt ds es) p.isList p'.isList (by simpa using hl) hu0 (λj h1 h2=>?_) X.prog X.w X.xe _ ?_
   ·have q:=eN I ds es xs ys its its' X.A.in1 hin r r' rv rv' j (by simpa using h1) (by simpa using h2);simpa using q
   ·have e1:its.toArray.size=min ds.length es.length:=by rw[ij];omega
    have e2:(ds.length == es.length)=true:=by simp;omega
    rw[e2,Bool.and_true]at key;rw[e1,key];exact⟨.bl (!deqL ds es),H,I,rfl,q⟩
  ·have e2:(ds.length == es.length)=false:=by simp;omega
   rw[e2,Bool.and_false]at key;rw[<-key]at q;exact SeqAt.RcNeAt.lists_lengths p.isList p'.isList (by simpa using hl) hu0 X.prog X.w X.xe _ ⟨.bl true,H,I,rfl,q⟩
 ·simp only[Rep]at h1 h2;obtain⟨a,xs,rfl,hx,r⟩:=h1;obtain⟨b,ys,rfl,hy,r'⟩:=h2;cases rx;cases ry;obtain⟨its,rv,p,hz⟩:=I.tuple hx;obtain⟨its',rv',p',hz'⟩:=I.tuple hy;have l1:=r.len;have l2:=rv.length;have l3:=r'.len;have l4:=rv'.length;refine SeqAt.RcNeAt.tuples (e:=eAt ds es) (g_ p) (g_ p') hu0 (λj h1 h2=>?_) X.prog X.w X.xe _ ?_
  ·have q:=eN I ds es xs ys its its' X.A.in1 hin r r' rv rv' j (by simpa using h1) (by simpa using h2);simpa using q
  ·have e1:its.toArray.size=ds.length:=by rw[ij];omega
   have e2:its'.toArray.size=es.length:=by rw[ij];omega
   rw[e1,e2,key];exact⟨.bl (!deqL ds es),H,I,rfl,q⟩
theorem RepL.ints{K:Wf}{H:Hp}:∀ns:List Int,RepL K H (ns.map D.int) (ns.map V.int)
 |[]=>by simp only[List.map_nil,RepL]
 |n::ns=>by simp only[List.map_cons,RepL];exact⟨_,_,rfl,by simp only[Rep],RepL.ints ns⟩
end
section
variable{X:Cx}{K:Wf}
theorem dR(e:X.K=K):MZ X (Lf K):=e▸Jq
theorem Jm(e:X.K=K):MZ X (qD K):=e▸LM
theorem iS(e:X.K=K):N_ X (Pc K):=e▸Ij
theorem i5(e:X.K=K):N_ X (NQ K):=e▸Ly
theorem i8(e:X.K=K):g8 X (binaryOp .Add) (KN K):=e▸IE
theorem Fg(e:X.K=K):g8 X (binaryOp .Add) (Kr K):=e▸IG
theorem AA(e:X.K=K):g8 X (compareOp .In) (QL K false):=e▸AV
theorem wF(e:X.K=K):g8 X (compareOp .NotIn) (QL K true):=e▸tW
theorem o6(hu:X.A.units+64<cLine)(e:X.K=K):g8 X (compareOp .Eq) (Mf K):=e▸Mo hu
theorem yy(hu:X.A.units+64<cLine)(e:X.K=K):g8 X (compareOp .NotEq) (OX K):=e▸Lr hu
theorem j8(e:X.K=K):cX X (.builtin "len") (λxs H Q=>∃x n,xs=[x]/\Ow K x H n/\Q (.int n) H):=e▸Fz
theorem gS(e:X.K=K):cX X (.builtin "isinstance") (OE K):=e▸Cv
theorem cN(e:X.K=K):cX X (.type "list") (λxs H Q=>∃p ys,xs=[.ref p]/\(aD K H p ys\/aR K H p ys)/\∀l,H l=none->Q (.ref l) (upd H l (.lst ys))):=e▸oI
theorem eU(e:X.K=K)(hl:PE X l tl):PI X tg l (oo K tl):=e▸IW hl
theorem Io(e:X.K=K)(hl:PE X l tl):PI X tg l (HS K tl):=e▸Ma hl
theorem bN(e:X.K=K)(hc:X.calm=true)(h:OR X es t)
  (hn:(assignEach es X.env).length=n:=by rfl) (hst:(assignEach es X.env).findIdx? (·.1)=none:=by rfl):PG X (.Tuple es k pos) (PN K n t):=e▸LC hc h hn hst
end
section
variable{X:Cx}
noncomputable def QF:V->List V->Hp->VK->Prop:=λx vs H Q=>∃z y,x=.str z/\vs=[.str y]/\Q (.bl (Txt.startswith z y)) H
noncomputable def Ro:V->List V->Hp->VK->Prop:=λx vs H Q=>∃z y i,x=.str z/\vs=[.str y]/\(∃rest,Builtin.Str.occurrences z y 0 z.length 1=i::rest)/\Q (.int (i:Nat)) H
end
def ON(h:Heap)(e:Addr)(cls:Value)(dx:Option Addr)(fl:Value)(T:Addr):Prop:=
 ∃oe vs oT ts,h.get? e=some oe/\oe.cls=cls/\oe.dict=dx/\oe.data=.fields vs/\vs[1]?=some (.ref T)/\T≠e/\h.get? T=some oT/\oT.data=.fields ts/\ts[3]?=some fl
section
variable{M:Model}{A:Around}{E:Vs}{s:Shared}
end
noncomputable def Tt(P:Program)(w:World):B2:=λouter H s E e s'=>∃(a T:Addr) (cls:Value) (dx:Option Addr) (H':Hp),e=.ref a/\s'.os=s.os/\AllBare s'.gens/\Un (v_ outer) [] H H' s.heap s'.heap/\g7 P w H' s'.heap/\
 s.heap.get? a=none/\s.heap.get? T=none/\H' a=none/\H' T=none/\ON s'.heap a cls dx .none T/\E cls dx H'
theorem QA{K:Wf}{h:Heap}{C:Addr}{bmB:List Value}{newId:String}(X:K.In h)(q:excIn K C bmB newId=true):
  ∃bm N nm q bs hdct sn sub ab col dd k0 k1 k2 k3 k5 mN,h.get? C=some (excClassObj nm q C N bs bm hdct sn sub ab col dd k0 k1 k2 k3 k5 newId)/\h.Ns N mN/\mN "__init__" = none/\OwnTail h bmB bm:=by
 unfold excIn at q;split at q
 ·rename_i dd cd sl ho;split at q
  ·rename_i C' bm k0 k1 k2 k3 n k5 hm hs;simp only[Bool.and_eq_true,beq_iff_eq,Bool.not_eq_true']at q;obtain⟨⟨⟨⟨⟨rfl,rfl⟩,hdel⟩,ht⟩,aV⟩,hni⟩:=q;obtain⟨nm,bs,mro,ns,qn,hd,sn,sub,ab,col,del⟩:=cd;dsimp only at hm hdel aV hni;subst hm hdel;have hsl:sl=#[k0,k1,k2,k3,some (.builtin n),k5]:=by
    obtain⟨l⟩:=sl;simp only at hs;rw[hs]
   subst hsl;exact⟨bm,ns,nm,qn,bs,hd,sn,sub,ab,col,dd,k0,k1,k2,k3,k5,_,X _ _ ho,.of_isNs (PySem.W.isNs_of_in X aV),PySem.W.nsMap_none_of_in X aV hni,PySem.W.tail_of_in X ht⟩
  ·cases q
 ·cases q
section
variable{X:Cx}
def Q6(C:Addr)(E:XK)(t:TA):TS:=λ_ σ H=>t σ H λvs H1=>vs.length<=sizeLine/\E (.ref C) none H1
end
end L2
namespace L2
open PySem PySem.Spec PyProof.Rows PySem.W
structure NH(K:Frag)(C:Addr):Prop where
 ga:findIn K (.ref C) "__getattribute__" = some (some (.builtin "BaseException.__getattribute__"))
 gn:findIn K (.ref C) "__getattr__" = some none
 cl:findIn K (.ref C) "__class__" = some (some (.builtin "object.__class__"))
 sg:specialIn K (.builtin "object.__class__") "__get__" = some (some (.builtin "getset_descriptor.__get__"))
 tk:takesIn K (.builtin "object.__class__")=some true
 mo:mroIn K C (.type "object")=some true
 mb:mroIn K C (.type "BaseException")=some true
section
variable{prog:Program}{w:World}{A:Around}{E:Vs}{s:Shared}{K:Frag}{x C:Addr}{ox:Obj}{od:Option Obj}{name:Str}
end
end L2
namespace L2
open PySem PySem.Spec PyProof.Rows
structure Catch(K:Wf)(B C:Addr):Prop where
 ty:PySem.W.instIn K (.ref B) (.type "tuple")=some false
 bb:mroIn K B (.type "BaseException")=some true
 sub:mroIn K C (.ref B)=some true
section
variable{X:Cx}{pins:Lo}{σ:St}{H:Hp}{s:Shared}{a:Addr}
end
noncomputable def XO(a C:Addr)(dx:Option Addr):HO:=.ext λh=>∃ob vs,h.get? a=some ob/\ob.cls=.ref C/\ob.dict=dx/\ob.data=.fields vs
noncomputable abbrev XS:=St->XK
def XP(X:Cx)(pins:Lo)(E:XS)(e:Value)(s':Shared):Prop:=∃σ H s,Inv X pins σ H s/\Tt X.prog X.w X.stack H s (E σ) e s'
noncomputable abbrev Hw:=St->Hp->VK->XK->Prop
noncomputable abbrev Hz:=Ends->XS->St->Hp->Prop
section
variable{X:Cx}{k:Nat}{f C:Addr}{fd:FuncData}{ps:List Str}{sp:Sp}{dvs:List V}{ds:List Value}{x m:Str}{p pos apos:Pos}{e o:Expr}{es:List Expr}{ta:TE}{t:TA}
noncomputable def SJ(sp:Sp)(dvs:List V)(t:TA):Hw:=λσ H Q E=>t σ H λvs H1=>sp (vs++dvs) H1 Q E
noncomputable def Tf(C:Addr)(m:Str)(sp:Sp)(dvs:List V)(ta:TE)(t:TA):Hw:=λσ H Q E=>ta σ H λx H1=>∃a dx fs,x=.ref a/\H1 a=some (.ins C dx fs)/\fs.lookup m=none/\
 t σ H1 λvs H2=>sp (x::(vs++dvs)) H2 Q E
end
section
variable{X:Cx}{st:Stmt}{rest:List Stmt}{t:TS}{tx ux:Hz}{e:Expr}{te:Hw}{pos:Pos}
noncomputable def Ta(te:Hw):Hz:=λD E σ H=>te σ H (λ_ H1=>D.nx σ H1) (E σ)
noncomputable def Tq(i:Nat)(te:Hw):Hz:=λD E σ H=>te σ H (λv H1=>D.nx (σ.set i (some v)) H1) (E σ)
noncomputable def TX(te:Hw):Hz:=λD E σ H=>te σ H D.rt (E σ)
noncomputable def UG(t:TS):Hz:=λD _ σ H=>t D σ H
noncomputable def Ur(t u:Hz):Hz:=λD E σ H=>t { D with nx:=u D E } E σ H
end
section
variable{X:Cx}{pins:Lo}{σ:St}{H H':Hp}{s s':Shared}{a T:Addr}{cls:Value}{dx:Option Addr}{M:Model}{A:Around}{E:Vs}
def LH(dx:Option Addr)(H:Hp):Prop:=dx=none\/∃d fs,dx=some d/\H d=some (.xd fs)
end
noncomputable def Uk(i:Nat)(D:Ends):Ends:={ nx:=λσ H=>D.nx (σ.set i none) H,rt:=D.rt,bk:=λσ H=>D.bk (σ.set i none) H,ct:=λσ H=>D.ct (σ.set i none) H }
def R4(K:Wf)(B:Addr)(i:Nat)(tb:Hz)(th:TS):TS:=λD σ H=>
 tb D (λσ' cls dx H'=>∃C,cls=.ref C/\Catch K B C/\LH dx H'/\∀a,H' a=none->th (Uk i D) (σ'.set i (some (.ref a))) (upd H' a (XO a C dx))) σ H
def SO(K:Wf)(B:Addr)(tb:Hz)(th:TS):TS:=λD σ H=>
 tb D (λσ' cls dx H'=>∃C,cls=.ref C/\Catch K B C/\LH dx H'/\th D σ' H') σ H
section
variable{X:Cx}{body suite:List Stmt}{b₀:Stmt}{x n:Str}{B:Addr}{i:Nat}{np hpos pos:Pos}{tb:Hz}{th:TS}
end
section
variable{X:Cx}
def Sg(z:Str):Prop:=∀c∈z.cps.toList,c<16 ^ 8
def S6(t:TE):TE:=λσ H Q=>t σ H λx H1=>∃z,x=.str z/\(reprText z).length<=sizeLine/\Q (.str (reprText z)) H1
def Uo(t:TE):TE:=λσ H Q=>t σ H λx H1=>(∃z,x=.str z/\z.length<=sizeLine/\Q (.str z) H1)\/∃i:Int,x=.int i/\i.natAbs.log2<1920/\Q (.str (toString i)) H1
noncomputable abbrev TJ:=Str->St->Hp->VK->Prop
noncomputable def TK:TJ:=λacc _ H Q=>acc.length<=sizeLine/\Q (.str acc) H
noncomputable def SS(t:TE)(u:TJ):TJ:=λacc σ H Q=>t σ H λx H1=>∃y,x=.str y/\(acc++y).length<=sizeLine/\u (acc++y) σ H1 Q
def QQ(t:TJ):TE:=λσ H Q=>t Str.empty σ H Q
noncomputable def rJoin(K:Wf):V->List V->Hp->VK->Prop:=λx vs H Q=>∃z a zs,x=.str z/\vs=[.ref a]/\aD K H a (zs.map V.str)/\JoinOk z zs=true/\Q (.str (Txt.join z zs)) H
def S_(K:Wf)(H:Hp)(x:V)(t:Value):Prop:=jf K H x t\/∃a C dx,x=.ref a/\t=.ref C/\H a=some (XO a C dx)/\LH dx H/\NH K C
noncomputable def S7:V->Value
 |.ref a=>.ref a
 |.ty n=>.type n
 |_=>.none
noncomputable def PK:V->Bool
 |.ref _=>true
 |.ty _=>true
 |_=>false
noncomputable def Tn(K:Wf):List V->Hp->VK->Prop:=λxs H Q=>∃x c t b,xs=[x,c]/\PK c=true/\S_ K H x t/\kitOne K t (S7 c)=some b/\Q (.bl b) H
noncomputable def TH(K:Wf):List V->Hp->VK->Prop:=λxs H Q=>∃x tp cs t b,xs=[x,.ref tp]/\H tp=some (.tup cs)/\cs.all PK=true/\S_ K H x t/\PySem.W.kitAny K t (cs.map S7)=some b/\Q (.bl b) H
end
section
variable{P:Program}{w:World}{K:Wf}{mg:So}{base:Heap}
end
structure ax where
 a:Addr
 at_:Int
 rule:Str
 name:Str
 add:Int
 soft:Bool
structure aL where
 t:Addr
 lw:Addr
 lf:Addr
 kind:Str
 step:Int
 words:List Int
 fills:List ax
structure aj where
 a:Addr
 name:Str
 sort:Str
 st:Int
 off:Int
structure ah where
 t:Addr
 ls:Addr
 ln:Addr
 name:Str
 aI:List aL
 aK:List aj
noncomputable abbrev ax.v(f:ax):V:=.ref f.a
noncomputable abbrev aL.v(s:aL):V:=.ref s.t
noncomputable abbrev aj.v(n:aj):V:=.ref n.a
noncomputable abbrev ah.v(p:ah):V:=.ref p.t
def ax.At(H:Hp)(f:ax):Prop:=H f.a=some (.tup [.int f.at_,.str f.rule,.str f.name,.int f.add,.bl f.soft])
def aj.At(H:Hp)(n:aj):Prop:=H n.a=some (.tup [.str n.name,.str n.sort,.int n.st,.int n.off])
structure aL.At(H:Hp)(s:aL):Prop where
 top:H s.t=some (.tup [.str s.kind,.int s.step,.ref s.lw,.ref s.lf])
 wd:H s.lw=some (.lst (s.words.map V.int))
 fl:H s.lf=some (.lst (s.fills.map ax.v))
 fs:∀f∈s.fills,f.At H
structure ah.At(H:Hp)(p:ah):Prop where
 top:H p.t=some (.tup [.str p.name,.ref p.ls,.ref p.ln])
 sl:H p.ls=some (.lst (p.aI.map aL.v))
 nl:H p.ln=some (.lst (p.aK.map aj.v))
 ss:∀s∈p.aI,s.At H
 ns:∀n∈p.aK,n.At H
noncomputable def aL.lists(s:aL):List Addr:=[s.lw,s.lf]
noncomputable def ah.lists(p:ah):List Addr:=p.ls::p.ln::p.aI.flatMap aL.lists
noncomputable def aZ(ps:List ah):List Addr:=ps.flatMap ah.lists
structure eA(H:Hp)(L:Addr)(ps:List ah):Prop where
 top:H L=some (.lst (ps.map ah.v))
 at_:∀p∈ps,p.At H
 nd:(L::aZ ps).Nodup
theorem ax.At.mono{H H':Hp}{f:ax}(h:f.At H)(e:ay H H'):f.At H':=e _ _ h
theorem aj.At.mono{H H':Hp}{n:aj}(h:n.At H)(e:ay H H'):n.At H':=e _ _ h
theorem aL.At.mono{H H':Hp}{s:aL}(h:s.At H)(e:ay H H'):s.At H':=⟨e _ _ h.top,e _ _ h.wd,e _ _ h.fl,λf hf=>(h.fs f hf).mono e⟩
theorem ah.At.mono{H H':Hp}{p:ah}(h:p.At H)(e:ay H H'):p.At H':=⟨e _ _ h.top,e _ _ h.sl,e _ _ h.nl,λs hs=>(h.ss s hs).mono e,λn hn=>(h.ns n hn).mono e⟩
theorem eA.mono(h:eA H L ps)(e:ay H H'):eA H' L ps:=⟨e _ _ h.top,λp hp=>(h.at_ p hp).mono e,h.nd⟩
def fZ(H H':Hp)(l:Addr):Prop:=(∃xs,H l=some (.lst xs))/\∀b o,H b=some o->b≠l->H' b=some o
theorem fZ.upd(h:H l=some (.lst xs)):fZ H (L2.upd H l o) l:=⟨⟨xs,h⟩,λb u e n=>by rw[ae n];exact e⟩
theorem fZ.tup{H H':Hp}{l a:Addr}{xs:List V}(b:fZ H H' l)(h:H a=some (.tup xs)):H' a=some (.tup xs):=by
 obtain⟨ys,hl⟩:=b.1;exact b.2 _ _ h λe=>by rw[e,hl]at h;cases h
theorem ax.At.but{H H':Hp}{l:Addr}{f:ax}(h:f.At H)(b:fZ H H' l):f.At H':=b.tup h
theorem aj.At.but{H H':Hp}{l:Addr}{n:aj}(h:n.At H)(b:fZ H H' l):n.At H':=b.tup h
theorem aL.At.but{H H':Hp}{l:Addr}{s:aL}(h:s.At H)(b:fZ H H' l)(n:l∉s.lists):s.At H':=
 ⟨b.tup h.top,b.2 _ _ h.wd λe=>n (by simp[aL.lists,e]),b.2 _ _ h.fl λe=>n (by simp[aL.lists,e]),λf hf=>(h.fs f hf).but b⟩
theorem ah.At.but{H H':Hp}{l:Addr}{p:ah}(h:p.At H)(b:fZ H H' l)(n:l∉p.lists):p.At H':=
 ⟨b.tup h.top,b.2 _ _ h.sl λe=>n (by simp[ah.lists,e]),b.2 _ _ h.nl λe=>n (by simp[ah.lists,e]),
  λs hs=>(h.ss s hs).but b λz=>n (by simp only[ah.lists,List.mem_cons];exact .inr (.inr (List.mem_flatMap.mpr ⟨s,hs,z⟩))),λm hm=>(h.ns m hm).but b⟩
theorem aL.At.list{H:Hp}{s:aL}(h:s.At H){b:Addr}(hb:b∈s.lists):∃xs,H b=some (.lst xs):=by
 simp only[aL.lists,List.mem_cons,List.not_mem_nil,or_false]at hb;rcases hb with e|e
 ·rw[e];exact⟨_,h.wd⟩
 ·rw[e];exact⟨_,h.fl⟩
theorem ah.At.list{H:Hp}{p:ah}(h:p.At H){b:Addr}(hb:b∈p.lists):∃xs,H b=some (.lst xs):=by
 simp only[ah.lists,List.mem_cons]at hb;rcases hb with e|e|e
 ·rw[e];exact⟨_,h.sl⟩
 ·rw[e];exact⟨_,h.nl⟩
 ·obtain⟨s,hs,z⟩:=hW.mp e;exact(h.ss s hs).list z
theorem eA.list(h:eA H L ps){b:Addr}(hb:b∈L::aZ ps):∃xs,H b=some (.lst xs):=by
 rcases iG.mp hb with e|e
 ·rw[e];exact⟨_,h.top⟩
 ·obtain⟨p,hp,z⟩:=hW.mp e;exact(h.at_ p hp).list z
theorem eA.fresh(h:eA H L ps){b:Addr}(hb:H b=none):b∉L::aZ ps:=λz=>by
 obtain⟨xs,e⟩:=h.list z;rw[hb]at e;cases e
theorem hX(ps:List ah)(p:ah):aZ (ps++[p])=aZ ps++p.lists:=by simp[aZ,List.flatMap_append]
theorem eA.apart(h:eA H L (ps++[p])):(∀q∈ps,∀b∈p.lists,b∉q.lists)/\p.lists.Nodup/\L∉p.lists/\∀q∈ps,L∉q.lists:=by
 have n:=h.nd;rw[hX]at n;obtain⟨n1,n2⟩:=j7.mp n;obtain⟨n3,n4,n5⟩:=f_.mp n2;refine⟨λq hq b hb z=>n5 b (hW.mpr ⟨q,hq,z⟩) b hb rfl,n4,λz=>n1 (gR _ z),λq hq z=>n1 (gC _ (hW.mpr ⟨q,hq,z⟩))⟩
theorem eA.nil(h:H L=some (.lst [])):eA H L []:=⟨h,λp hp=>absurd hp (by simp),by simp[aZ]⟩
theorem eA.Dz(h:eA H L ps)(h1:H t=some (.tup [.str nm,.ref ls,.ref ln]))(h2:H ls=some (.lst []))(h3:H ln=some (.lst []))(n1:ls≠ln)
  (n2:ls∉L::aZ ps) (n3:ln∉L::aZ ps):eA (upd H L (.lst (ps.map ah.v++[.ref t]))) L (ps++[⟨t,ls,ln,nm,[],[]⟩]):=by
 have b:fZ H (upd H L (.lst (ps.map ah.v++[.ref t]))) L:=fZ.upd h.top;have nL:=(j7.mp h.nd).1;refine⟨by rw[aE];simp,λp hp=>?_,?_⟩
 ·rcases bF.mp hp with z|z
  ·exact(h.at_ p z).but b λq=>nL (hW.mpr ⟨p,z,q⟩)
  ·have e:=bX.mp z;subst e;refine⟨b.tup h1,b.2 _ _ h2 λ(e:ls=L)=>n2 (e▸lE),b.2 _ _ h3 λ(e:ln=L)=>n3 (e▸lE),λs hs=>absurd hs (by simp),λn hn=>absurd hn (by simp)⟩
 ·rw[hX];show(L::(aZ ps++[ls,ln])).Nodup;rw[<-O1];refine f_.mpr ⟨h.nd,by simp[n1],λx hx y hy e=>?_⟩;subst e;simp only[List.mem_cons,List.not_mem_nil,or_false]at hy;rcases hy with e|e
  ·subst e;exact n2 hx
  ·subst e;exact n3 hx
theorem eA.last(h:eA H L (ps++[p]))(hl:l∈p.lists)(ht:p'.t=p.t)(hp:p'.At (upd H l o))(hn:(L::aZ (ps++[p'])).Nodup):eA (upd H l o) L (ps++[p']):=by
 obtain⟨a1,a2,a3,a4⟩:=h.apart;obtain⟨xs,hx⟩:=(h.at_ p (by simp)).list hl;have b:fZ H (upd H l o) l:=fZ.upd hx;refine⟨?_,λq hq=>?_,hn⟩
 ·rw[b.2 _ _ h.top λe=>a3 (by rw[e];exact hl)];simp[ah.v,ht]
 ·rcases bF.mp hq with z|z
  ·exact(h.at_ q (gC _ z)).but b (a1 q z l hl)
  ·rw[bX.mp z];exact hp
theorem eA.wO{H:Hp}{L t lw lf:Addr}{kind:Str}{step:Int}{ps:List ah}{p:ah}(h:eA H L (ps++[p]))(h1:H t=some (.tup [.str kind,.int step,.ref lw,.ref lf]))(h2:H lw=some (.lst []))(h3:H lf=some (.lst []))
  (n1:lw≠lf) (n2:lw∉L::aZ (ps++[p])) (n3:lf∉L::aZ (ps++[p])):
  eA (upd H p.ls (.lst (p.aI.map aL.v++[.ref t]))) L (ps++[{ p with aI:=p.aI++[⟨t,lw,lf,kind,step,[],[]⟩] }]):=by
 have hp:=h.at_ p (by simp);obtain⟨a1,a2,a3,a4⟩:=h.apart;have b:fZ H (upd H p.ls (.lst (p.aI.map aL.v++[.ref t]))) p.ls:=fZ.upd hp.sl;have in1:∀x,x∈p.lists->x∈L::aZ (ps++[p]):=λx hx=>ka _ (by rw[hX];exact gR _ hx);have hls:p.ls∈p.lists:=by simp[ah.lists]
 have nd:p.ls≠p.ln/\p.ls∉p.aI.flatMap aL.lists:=by
  have:=a2;simp only[ah.lists,List.nodup_cons,List.mem_cons,not_or]at this;exact this.1
 refine h.last hls rfl ⟨b.tup hp.top,by rw[aE];simp,b.2 _ _ hp.nl (Ne.symm nd.1),λs hs=>?_,λn hn=>(hp.ns n hn).but b⟩ ?_
 ·rcases bF.mp hs with z|z
  ·exact(hp.ss s z).but b λq=>nd.2 (hW.mpr ⟨s,z,q⟩)
  ·have e:=bX.mp z;subst e;exact⟨b.tup h1,b.2 _ _ h2 λ(e:lw=p.ls)=>n2 (in1 _ (e▸hls)),b.2 _ _ h3 λ(e:lf=p.ls)=>n3 (in1 _ (e▸hls)),λf hf=>absurd hf (by simp)⟩
 ·have e:L::aZ (ps++[{ p with aI:=p.aI++[⟨t,lw,lf,kind,step,[],[]⟩] }])=(L::aZ (ps++[p]))++[lw,lf]:=by
   rw[hX,hX];simp[ah.lists,aL.lists,List.flatMap_append]
  rw[e];refine f_.mpr ⟨h.nd,by simp[n1],λx hx y hy e=>?_⟩;subst e;simp only[List.mem_cons,List.not_mem_nil,or_false]at hy;rcases hy with e|e
  ·subst e;exact n2 hx
  ·subst e;exact n3 hx
theorem eA.HP(h:eA H L (ps++[p]))(h1:n.At H):eA (upd H p.ln (.lst (p.aK.map aj.v++[n.v]))) L (ps++[{ p with aK:=p.aK++[n] }]):=by
 have hp:=h.at_ p (by simp);obtain⟨a1,a2,a3,a4⟩:=h.apart;have b:fZ H (upd H p.ln (.lst (p.aK.map aj.v++[n.v]))) p.ln:=fZ.upd hp.nl;have hln:p.ln∈p.lists:=by simp[ah.lists]
 have nd:p.ls≠p.ln/\p.ln∉p.aI.flatMap aL.lists:=by
  have:=a2;simp only[ah.lists,List.nodup_cons,List.mem_cons,not_or]at this;exact⟨this.1.1,this.2.1⟩
 refine h.last hln rfl ⟨b.tup hp.top,b.2 _ _ hp.sl nd.1,by rw[aE];simp,λs hs=>(hp.ss s hs).but b λq=>nd.2 (List.mem_flatMap.mpr ⟨s,hs,q⟩),λm hm=>?_⟩ ?_
 ·rcases bF.mp hm with z|z
  ·exact(hp.ns m z).but b
  ·rw[bX.mp z];exact h1.but b
 ·have:=h.nd;rw[hX]at this ⊢;exact this
theorem eA.lJ(h:eA H L (ps++[p]))(e:p.aI=ss++[s]):s.lw∈p.lists/\s.lf∈p.lists/\s.lw≠s.lf/\(∀b∈s.lists,b≠p.ls/\b≠p.ln/\∀r∈ss,b∉r.lists):=by
 obtain⟨a1,a2,a3,a4⟩:=h.apart;have hs:s∈p.aI:=by rw[e];simp
 have m:∀b∈s.lists,b∈p.aI.flatMap aL.lists:=λb hb=>hW.mpr ⟨s,hs,hb⟩;have m':∀b∈s.lists,b∈p.lists:=λb hb=>by simp only[ah.lists,List.mem_cons];exact .inr (.inr (m b hb))
 simp only[ah.lists,List.nodup_cons,List.mem_cons,not_or]at a2;obtain⟨⟨_,b1⟩,b2,b3⟩:=a2;rw[e,A3]at b3;obtain⟨_,c2,c3⟩:=f_.mp b3;have c2':s.lists.Nodup:=by simpa using c2
 refine⟨m' _ (by simp[aL.lists]),m' _ (by simp[aL.lists]),?_,λb hb=>⟨λz=>b1 (z▸m b hb),λz=>b2 (z▸m b hb),λr hr z=>c3 b (List.mem_flatMap.mpr ⟨r,hr,z⟩) b (by simpa using hb) rfl⟩⟩;simpa [aL.lists] using c2'
theorem eA.Js(h:eA H L (ps++[p]))(e:p.aI=ss++[s])(h1:f.At H):
  eA (upd H s.lf (.lst (s.fills.map ax.v++[f.v]))) L (ps++[{ p with aI:=ss++[{ s with fills:=s.fills++[f] }] }]):=by
 have hp:=h.at_ p (by simp);obtain⟨m1,m2,n1,n2⟩:=h.lJ e;have hs:s.At H:=hp.ss s (by rw[e];simp);have b:fZ H (upd H s.lf (.lst (s.fills.map ax.v++[f.v]))) s.lf:=fZ.upd hs.fl;obtain⟨q1,q2,q3⟩:=n2 s.lf (by simp[aL.lists]);refine h.last m2 rfl ⟨b.tup hp.top,?_,b.2 _ _ hp.nl (Ne.symm q2),λr hr=>?_,λn hn=>(hp.ns n hn).but b⟩ ?_
 ·rw[b.2 _ _ hp.sl (Ne.symm q1),e];simp[aL.v]
 ·rcases bF.mp hr with z|z
  ·exact(hp.ss r (by rw[e];exact gC _ z)).but b (q3 r z)
  ·have er:=bX.mp z;subst er;refine⟨b.tup hs.top,b.2 _ _ hs.wd n1,by rw[aE];simp,λg hg=>?_⟩;rcases bF.mp hg with y|y
   ·exact(hs.fs g y).but b
   ·rw[bX.mp y];exact h1.but b
 ·have:=h.nd;rw[hX]at this ⊢;simp only[ah.lists,e,List.flatMap_append]at this ⊢;exact this
theorem eA.AD(h:eA H L (ps++[p]))(e:p.aI=ss++[s]):
  eA (upd H s.lw (.lst (s.words.map V.int++[.int i]))) L (ps++[{ p with aI:=ss++[{ s with words:=s.words++[i] }] }]):=by
 have hp:=h.at_ p (by simp);obtain⟨m1,m2,n1,n2⟩:=h.lJ e;have hs:s.At H:=hp.ss s (by rw[e];simp);have b:fZ H (upd H s.lw (.lst (s.words.map V.int++[.int i]))) s.lw:=fZ.upd hs.wd;obtain⟨q1,q2,q3⟩:=n2 s.lw (by simp[aL.lists]);refine h.last m1 rfl ⟨b.tup hp.top,?_,b.2 _ _ hp.nl (Ne.symm q2),λr hr=>?_,λn hn=>(hp.ns n hn).but b⟩ ?_
 ·rw[b.2 _ _ hp.sl (Ne.symm q1),e];simp[aL.v]
 ·rcases bF.mp hr with z|z
  ·exact(hp.ss r (by rw[e];exact gC _ z)).but b (q3 r z)
  ·have er:=bX.mp z;subst er;exact⟨b.tup hs.top,by rw[aE];simp,b.2 _ _ hs.fl (Ne.symm n1),λg hg=>(hs.fs g hg).but b⟩
 ·have:=h.nd;rw[hX]at this ⊢;simp only[ah.lists,e,List.flatMap_append]at this ⊢;exact this
noncomputable def ax.d(f:ax):D:=.tup [.int f.at_,.str f.rule,.str f.name,.int f.add,.bl f.soft]
noncomputable def aL.d(s:aL):D:=.tup [.str s.kind,.int s.step,.lst (s.words.map D.int),.lst (s.fills.map ax.d)]
noncomputable def aj.d(n:aj):D:=.tup [.str n.name,.str n.sort,.int n.st,.int n.off]
noncomputable def ah.d(p:ah):D:=.tup [.str p.name,.lst (p.aI.map aL.d),.lst (p.aK.map aj.d)]
theorem RepL.map{K:Wf}{H:Hp}{α:Type}{f:α->D}{g:α->V}:∀{xs:List α},(∀x∈xs,Rep K H (f x) (g x))->RepL K H (xs.map f) (xs.map g)
 |[],_=>by simp[RepL]
 |x::xs,h=>by
  simp only[List.map_cons,RepL];exact⟨_,_,rfl,h x (lE ..),RepL.map λy hy=>h y (ka _ hy)⟩
theorem ax.At.rep{K:Wf}{H:Hp}{f:ax}(h:f.At H):Rep K H f.d f.v:=by
 simp only[ax.d,Rep];exact⟨_,_,rfl,aR.of h,by simp[RepL,Rep]⟩
theorem aj.At.rep{K:Wf}{H:Hp}{n:aj}(h:n.At H):Rep K H n.d n.v:=by
 simp only[aj.d,Rep];exact⟨_,_,rfl,aR.of h,by simp[RepL,Rep]⟩
theorem aL.At.rep{K:Wf}{H:Hp}{s:aL}(h:s.At H):Rep K H s.d s.v:=by
 simp only[aL.d,Rep];refine⟨_,_,rfl,aR.of h.top,?_⟩;simp only[RepL,Rep];exact⟨_,_,rfl,rfl,_,_,rfl,rfl,_,_,rfl,⟨_,_,rfl,aD.of h.wd,RepL.ints _⟩,_,_,rfl,⟨_,_,rfl,aD.of h.fl,RepL.map λf hf=>(h.fs f hf).rep⟩,rfl⟩
theorem ah.At.rep{K:Wf}{H:Hp}{p:ah}(h:p.At H):Rep K H p.d p.v:=by
 simp only[ah.d,Rep];refine⟨_,_,rfl,aR.of h.top,?_⟩;simp only[RepL,Rep];exact⟨_,_,rfl,rfl,_,_,rfl,⟨_,_,rfl,aD.of h.sl,RepL.map λs hs=>(h.ss s hs).rep⟩,_,_,rfl,⟨_,_,rfl,aD.of h.nl,RepL.map λn hn=>(h.ns n hn).rep⟩,rfl⟩
theorem dH{α:Type}{f:α->D}{n:Nat}:∀{xs:List α},(∀x∈xs,dep (f x)<=n)->depL (xs.map f)<=n
 |[],_=>by simp[depL]
 |x::xs,h=>by
  simp only[List.map_cons,depL];exact Nat.max_le.mpr ⟨h x (lE ..),dH λy hy=>h y (ka _ hy)⟩
theorem Ey(f:ax):dep f.d<=1:=by simp[ax.d,dep,depL]
theorem E3(n:aj):dep n.d<=1:=by simp[aj.d,dep,depL]
theorem Es(s:aL):dep s.d<=3:=by
 have h1:depL (s.words.map D.int)<=0:=dH λx _=>by simp[dep]
 have h2:depL (s.fills.map ax.d)<=1:=dH λx _=>Ey x;simp only[aL.d,dep,depL];omega
theorem Cm(p:ah):dep p.d<=5:=by
 have h1:depL (p.aI.map aL.d)<=3:=dH λx _=>Es x;have h2:depL (p.aK.map aj.d)<=1:=dH λx _=>E3 x;simp only[ah.d,dep,depL];omega
theorem lI(ds:List D):deqL ds []=decide (ds=[]):=by cases ds<;>simp[deqL]
theorem eA.rep{K:Wf}{H:Hp}{L:Addr}{ps:List ah}(h:eA H L ps):Rep K H (.lst (ps.map ah.d)) (.ref L):=by
 simp only[Rep];exact⟨_,_,rfl,aD.of h.top,RepL.map λp hp=>(h.at_ p hp).rep⟩
noncomputable def aL.core(s:aL):Str×Int×List Int×List ax:=(s.kind,s.step,s.words,s.fills)
structure ah.HV(p q:ah):Prop where
 name:q.name=p.name
 aK:q.aK=p.aK
 aI:q.aI.map aL.core=p.aI.map aL.core
end L2
namespace L2
open PySem PySem.Spec PyProof.Rows PySem.W
noncomputable abbrev VE:List Value:=[.type "ValueError", .type "Exception", .type "BaseException", .type "object"]
noncomputable def ownInit(K:Frag)(C fI:Addr):Bool:=
 match K.lookup C with
 |none=>false
 |some ob=>
  match ob.cls,ob.data,ob.slots.toList with
  |.type "type", .cls cd,[_,_,_,_,some (.builtin n),_]=>
   (match cd.mro with
    |.ref C'::bm=>C' == C&&(n == "ValueError.__new__" && (!cd.hasDel&&(tailIn K VE bm&&(nsOkIn K cd.ns&&(cd.hasDict&&nsIn K cd.ns "__init__" == some (some (.ref fI)))))))
    |_=>false)
  |_,_,_=>false
section
variable{prog:Program}{w:World}{A:Around}{E:Vs}{h:Heap}{g:Array GenState}{d:Drawn}{t:Nat}{os:OsState}
variable{nm q:Str}{C N:Addr}{bs bm bmB:List Value}{hdct:Bool}{sn:List Str}{sub:List Value}{ab:Bool}{col:Option Bool}{dd:Option Addr}{k0 k1 k2 k3 k5:Option Value}{B newId initId:String}
end
noncomputable def Ay:List Value->Bool
 |.ref _::r=>Ay r
 |l=>l == VE
noncomputable def OY(K:Frag)(C:Addr):Bool:=(clsIn K C).any λcd=>cd.hasDict&&Ay cd.mro
section
variable{prog:Program}{w:World}{A:Around}{E:Vs}{s:Shared}{K:Frag}{x C:Addr}{R:Result->Shared->Prop}
end
end L2
namespace L2
open PySem PySem.Spec PyProof.Rows PySem.W
section
variable{M:Model}{A:Around}{E:Vs}{env:Env}
variable{nm q:Str}{C N:Addr}{bs bm:List Value}{hdct:Bool}{sn:List Str}{sub:List Value}{ab:Bool}{col:Option Bool}{dd:Option Addr}{k0 k1 k2 k3 k5:Option Value}{newId:String}
end
section
variable{prog:Program}{w:World}{A:Around}{E:Vs}{s:Shared}{env:Env}
variable{nm q:Str}{C N:Addr}{bs bm bmB:List Value}{hdct:Bool}{sn:List Str}{sub:List Value}{ab:Bool}{col:Option Bool}{dd:Option Addr}{k0 k1 k2 k3 k5:Option Value}{B newId initId:String}
end
noncomputable def XN(a C:Addr)(dx:Option Addr):HO:=.ext λh=>∃ob vs v0,h.get? a=some ob/\ob.cls=.ref C/\ob.dict=dx/\ob.data=.fields vs/\vs[0]?=some v0/\vs[1]?=some .none
noncomputable def XD(d:Addr)(fs:List (Str×V)):HO:=.ext λh=>∃mA,h.Ns1 d mA/\(∀f,fM (fs.lookup f) (mA f))/\PySem.Within mA (fs.map (·.1))
noncomputable def del(H:Hp)(a:Addr):Hp:=λb=>if b=a then none else H b
section
variable{X:Cx}{pins:Lo}{σ:St}{H:Hp}{s:Shared}{a C:Addr}{φ:Heap->Prop}
end
end L2
namespace L2
open PySem PySem.Spec PyProof.Rows PySem.W
structure Pw(K:Frag)(C f:Addr):Prop where
 UA:ownInit K C f=true
 ei:OY K C=true
 sa:findIn K (.ref C) "__setattr__" = some (some (.builtin "object.__setattr__"))
 fn:isFn K (.ref f)=true
def QD(C:Addr)(sp:Sp)(E:XK)(t:TA):TS:=λ_ σ H=>t σ H λvs H1=>vs.length<=sizeLine/\∀x,H1 x=none->sp (.ref x::vs) (upd H1 x (XN x C none)) (λv H2=>v=.bj/\
 ((H2 x=some (XN x C none)/\E (.ref C) none (del H2 x))\/∃d fs,d≠x/\H2 x=some (XN x C (some d))/\H2 d=some (XD d fs)/\E (.ref C) (some d) (del (upd H2 d (.xd fs)) x))) E0
def RT(K:Frag)(t:TA):TE:=λσ H Q=>t σ H λvs H1=>∃a C dx rest f,vs=.ref a::rest/\H1 a=some (XN a C dx)/\Pw K C f/\rest.length<=sizeLine/\Q .bj H1
def SD(K:Frag)(ta tv:TE)(f:Str):TS:=λD σ H=>tv σ H λy H1=>ta σ H1 λx H2=>∃a C fI dx,x=.ref a/\H2 a=some (XN a C dx)/\Pw K C fI/\dk K C f/\
 ((dx=none/\∀d,H2 d=none->D.nx σ (upd (upd H2 d (XD d [(f,y)])) a (XN a C (some d))))\/∃d fs,dx=some d/\H2 d=some (XD d fs)/\fs.length<1000/\D.nx σ (upd H2 d (XD d (putF f y fs))))
def SK(K:Frag)(ta:TE)(f:Str):TE:=λσ H Q=>ta σ H λx H1=>∃a C d fs v,x=.ref a/\H1 a=some (XO a C (some d))/\H1 d=some (.xd fs)/\NH K C/\hasDictIn K C=true/\dk K C f/\fs.lookup f=some v/\Q v H1
section
variable{X:Cx}{x f:Str}{B C fI:Addr}{k:Nat}{fd:FuncData}{ps:List Str}{sp:Sp}{E:XK}{e o value:Expr}{es:List Expr}{p np apos cpos pos pos':Pos}{t:TA}{ta tv:TE}
end
end L2
namespace L2
open PySem PySem.Spec PyProof.Rows
section
variable{X:Cx}
theorem eB(h:vc X b t)(w:∀D σ H,u D σ H->t D σ H):vc X b u:=λpins s σ H D I q=>h pins s σ H D I (w D σ H q)
theorem Ap(h:PT X e t)(w:∀σ H R,u σ H R->t σ H R):PT X e u:=λpins s σ H R I q=>h pins s σ H R I (w σ H R q)
end
section
variable{X:Cx}
theorem fV{scope:Scope}(hN:X.N.Nodup)(hi':X.N[i]?=some y)(hy:Loc X.env.scope y)(B:gk X N' k fm scope)(hc:X.calm=true)(hi:PI X tg iter wi)
  (hb:∀fp s H,PG (Bn X N' scope fp s H) tg g/\Oo (Bn X N' scope fp s H) ifs tt/\PE (Bn X N' scope fp s H) elt te)
  (hsw:swapsWith (.ListComp elt [⟨tg,iter,ifs,0⟩] scope pos) (some (.Name y py)) spos.line X.env=pure true:=by rfl)
  (hs:∀x,foldedSetIterable iter X.env x=pure x:=by intro _;rfl) (hfn:X.fn y=true\/X.env.scope.names.lookup y=some .local:=by first|exact .inl rfl|exact .inr rfl|assumption):
  PS X (.Assign [.Name y py] (.ListComp elt [⟨tg,iter,ifs,0⟩] scope pos) spos) (HE (iT k fm wi g tt te) (j6 i)):=by
 intro pins s σ H DD I h;have hfree:∀x∈scope.names,x.2=.free->∃c,X.env.cells.lookup x.1=some c:=λx hx hk=>I.ok.has x.1 (B.free x hx hk);rw[exec_Assign_Name_used _ _ _ _ hsw];refine au (wpAny_standAt (au ?_));show wpAny _ X.A (do let _ <-comprehension (.ListComp elt [⟨tg,iter,ifs,0⟩] scope pos) scope X.env _ (newList []) false (eval iter X.env) (some (assign (.Name y py) X.env))) _ _ s;refine au (nF (wpAny_comprehension_free (use:=some (assign (.Name y py) X.env)) (Q:=λ_ s'=>SP X pins DD .next s') rfl hs (h_ hfree) B.kind B.names (bE (hi pins s σ H _ I h) λv s1 h1=>bE h1 λitv s2 h2=>?_)) (λ_ s' hq=>aP (aP hq)) λ_ _ e=>e);obtain⟨it,fp,tn,J,H2,e,I2,T,st2,f2,h2⟩:=h2;subst e;obtain⟨W,⟨m0,w0⟩,turn⟩:=h2 s2.heap.objs.size I2.fresh;refine yZ (wpAny_newFunctionEnv B.wH (by intro y hy;simp at hy) (λh4 hns4 hsb4=>?_) B.kind);have I3:=I2.MI (its:=[]) (ys:=[]) (t':=s2.toks) .nil (fe _);have hf3:∀b∈fp,e9 X pins (upd H2 s2.heap.objs.size (.lst [])) b:=λb hb=>by
  obtain⟨o,e,_⟩:=T.obj _ _ st2 b hb;refine⟨?_,(f2 b hb).2⟩;rw[ae (λz=>uH _ (z▸cV e))];exact(f2 b hb).1
 have ho3:∀b∈fp,∃o,(s2.heap.push { cls:=.type "list", data:=.seq ([]:List Value).toArray }).get? b=some o:=λb hb=>by
  obtain⟨o,e,_⟩:=T.obj _ _ st2 b hb;exact⟨o,cM _ e⟩
 have kp4:∀b o,(s2.heap.push { cls:=.type "list", data:=.seq ([]:List Value).toArray }).get? b=some o->h4.get? b=some o:=λb o e=>
  hsb4.extBut b o (λz=>uH _ (z▸cV e)) (cM _ e)
 have I4:=I3.block (fp:=fp) (h':=h4) (tk:=s2.toks+([]:List (Str×Value)).length) B hf3 ho3 hns4 kp4;generalize hs3:({ s2 with heap:=s2.heap.push { cls:=.type "list", data:=.seq ([]:List Value).toArray },toks:=s2.toks }:Shared)=s3 at *;obtain⟨hg,ht,he⟩:=hb fp s3 (upd H2 s2.heap.objs.size (.lst []));have st4:tn 0 h4:=T.keep _ _ _ st2 λb hb o e=>kp4 b o (cM _ e);have stat:∀{H':Hp},(∀b∈fp,H' b=none)->∀b∈fp,e9 (Bn X N' scope fp s3 (upd H2 s2.heap.objs.size (.lst []))) [] H' b:=λ{H'} hn b hb=>by
  obtain⟨f0,f1,f3,f4,f5,f6⟩:=hf3 b hb;obtain⟨g1,g2⟩:=I4.ok.OQ b hb;exact⟨hn b hb,g1,I4.ok.xE b hb,.inl hb,g2,λp hp=>f6 p ((bF.mp hp).elim (λz=>gC _ z) λz=>absurd z (by simp))⟩
 have loop:codeAny (model X.prog X.w) X.A (.compLoop (.ListComp elt [⟨tg,iter,ifs,0⟩] scope pos) 0 (.ref it) (.ref s2.heap.objs.size) (compEnvC scope (ke X.env scope.names []) s3.heap.objs.size X.env))
   (compPost (model X.prog X.w) X.A X.xe (some (assign (.Name y py) X.env)) (λ_ s'=>SP X pins DD .next s') (.ref s2.heap.objs.size) s3.heap.objs.size) { s3 with heap:=h4,toks:=s2.toks+([]:List (Str×Value)).length }:=by
  refine vO (X:=Bn X N' scope fp s3 (upd H2 s2.heap.objs.size (.lst []))) (D:=s2.heap.objs.size) (Q:=λv H'=>DD.nx (σ.set i (some v)) H') (W:=W) (m0:=m0) rfl hc T stat hg ht he turn I4 st4 (λb hb=>(hf3 b hb).1) w0 ?_;intro H' s' I' q;obtain⟨m,hn,_⟩:=I'.loc;have hCn:s3.heap.get? s3.heap.objs.size=none:=by
   cases e:s3.heap.get? s3.heap.objs.size with
   |none=>rfl
   |some o=>exact absurd (cV e) (uH _)
  have J:∀h'':Heap,(∀b o,b≠s3.heap.objs.size->s'.heap.get? b=some o->h''.get? b=some o)->Inv X pins σ H' { s' with heap:=h'' }:=λh'' hk=>by
   have u:Un (v_ X.stack) fp (upd H2 s2.heap.objs.size (.lst [])) H' s3.heap h'':=Un.tail I'.base hk hCn;refine I3.yS (s':={ s' with heap:=h'' }) (ch:=fp) I'.os u (I'.aV.tail hk I'.free) I'.bare λb hb=>?_;obtain⟨f0,f1,f3,f4,f5,f6⟩:=hf3 b hb;exact⟨f4,f1,f5,f6⟩
  have J1:Inv X pins σ H' s':=J s'.heap λ_ _ _ e=>e;obtain⟨oC,es,ep,hoC,hdC,rC⟩:=hn;have hCf:H' s3.heap.objs.size=none:=I'.free;have hCL:s3.heap.objs.size≠X.env.locals:=Ne.symm (eD I3.lt);have hCfs:=I3.Pq (bC _);have J2:Inv X (pins++[(s3.heap.objs.size,oC)]) σ H' s':=J1.kr λp hp=>by
   rcases bF.mp hp with z|z
   ·exact J1.pin p (gR _ z)
   ·rw[bX.mp z];exact⟨hoC,hCf,hCL,hCfs,λv e=>by rw[hdC]at e;cases e⟩
  show wpAny _ X.A (assign (.Name y py) X.env (.ref s2.heap.objs.size)) _ _ _;refine wpAny_assign_Name (i6 J2 hN hi' hy (v:=.ref s2.heap.objs.size) rfl (λs5 I5=>?_) hfn);have hC5:=(I5.pin (s3.heap.objs.size,oC) (gR _ (gR _ (bX.mpr rfl)))).1;refine⟨m,⟨oC,es,ep,hC5,hdC,rC⟩,λh'' hs''=>?_⟩;have I6:Inv X pins (σ.set i (some (.ref s2.heap.objs.size))) H' s5:=I5.kr λp hp=>I5.pin p (gR _ (gC _ hp));refine⟨_,H',I6.turned (t':=s5.toks) (it:=s3.heap.objs.size) (λb o hb e=>hs''.extBut b o hb e) hCf hCL (.inr I3.sz) (λx c e z=>?_) (λp hp z=>?_),q⟩
  ·obtain⟨v,o,ho,_⟩:=I3.cell x c e;rw[z]at ho;exact absurd (cV ho) (uH _)
  ·have z':=(I3.pin p hp).1;rw[z]at z';exact absurd (cV z') (uH _)
 subst hs3;exact codeAny_compStart_list loop (T.self X.A 0 _ _ _ st4 loop)
end
section
variable{prog:Program}{w:World}{K:Type} [DecidableEq K]{knd:KeyKind prog w K}{A:Around}{E:Vs}{s:Shared}
end
section
variable{X:Cx}
def QE(K:Wf):R2:=λx y H Q=>∃p q af,x=.ref p/\y=.ref q/\H p=some (.dK af)/\H q=some (.dK af)/\(∀kv∈af,∃d,Rep K H d kv.2/\dep d<=20)/\Q (.bl true) H
noncomputable def Qx:List V->Hp->VK->Prop:=λxs H Q=>∃p af,xs=[.ref p]/\H p=some (.dK af)/\∀q,H q=none->Q (.ref q) (upd H q (.dK af))
noncomputable def Sj(x:V)(xs:List V):Nat:=xs.countP λy=>Gx y x
noncomputable def Rk(K:Wf):V->List V->Hp->VK->Prop:=λx vs H Q=>∃p xs y,x=.ref p/\vs=[y]/\aD K H p xs/\gI y=true/\xs.all gI=true/\Q (.int (Sj y xs:Nat)) H
end
section
variable{M:Model}{A:Around}{E:Vs}{s:Shared}
end
section
variable{prog:Program}{w:World}{A:Around}{R:Result->Shared->Prop}{s:Shared}
end
section
variable{X:Cx}
def Lk(E:XK)(k:Nat)(fm:List Nat)(wi:TI)(g:TG)(tt:TT)(te:Hw):TE:=λσ H Q=>wi σ H λJ H1=>∀D,H1 D=none->∃W:Nat->Nat->List V->Hp->Prop,
 (∃m,W 0 m [] (upd H1 D (.lst [])))/\∀i m ys H2,W i m ys H2->H2 D=some (.lst ys)/\ys.length<sizeLine/\((J.stop i H2/\Q (.ref D) H2)\/(J.go i H2/\∃N:List V->Hp->Prop,(∀ys' H',N ys' H'->∃m',m'<m/\W (i+1) m' ys' H')/\∀x H3,J.B3 i H2 x H3->
  g x (d3 k fm σ) H3 λσ3 H4=>Ext (d3 k fm σ) σ3/\tt σ3 H4 λb H5=>if b=true then te σ3 H5 (λy H6=>H6 D=some (.lst ys)/\N (ys++[y]) (upd H6 D (.lst (ys++[y])))) E else N ys H5))
end
def La(E:XK)(g:TG)(tt:TT)(te:Hw)(σ0:St)(Q:VK)(J:It)(H1:Hp):Prop:=∀DD,H1 DD=none->∃W:Nat->Nat->List V->Hp->Prop,
 (∃m,W 0 m [] (upd H1 DD (.lst [])))/\∀i m ys H2,W i m ys H2->H2 DD=some (.lst ys)/\ys.length<sizeLine/\((J.stop i H2/\Q (.ref DD) H2)\/(J.go i H2/\∃N:List V->Hp->Prop,(∀ys' H',N ys' H'->∃m',m'<m/\W (i+1) m' ys' H')/\∀x H3,J.B3 i H2 x H3->
  g x σ0 H3 λσ3 H4=>Ext σ0 σ3/\tt σ3 H4 λb H5=>if b=true then te σ3 H5 (λy H6=>H6 DD=some (.lst ys)/\N (ys++[y]) (upd H6 DD (.lst (ys++[y])))) E else N ys H5))
def MK(K:Wf)(E:XK)(g:TG)(tt:TT)(te:Hw)(σ0:St)(Q:VK):VK:=λx H1=>∃a,x=.ref a/\(∃xs,aD K H1 a xs)/\La E g tt te σ0 Q (Dg K a) H1
section
variable{K:Wf}{k:Nat}{fm:List Nat}{tl:TE}{te:Hw}{g:TG}{tt:TT}{σ σ0:St}{H H1:Hp}{Q:VK}{E:XK}
theorem Ko:Lk E k fm (oo K tl) g tt te σ H Q=tl σ H (MK K E g tt te (d3 k fm σ) Q):=rfl
end
section
variable{M:Model}{A:Around}{E:Vs}{s:Shared}
end
section
variable{X:Cx}
end
def AL(a b:Str):Prop:=a.cps.toList<=b.cps.toList
theorem Bm(x:AL a b)(y:AL b c):AL a c:=List.le_trans x y
theorem nv:∀{l:List Str}{p:Str},risingS p l=true->(p::l).Pairwise AL
 |[],p,_=>List.pairwise_singleton ..
 |x::r,p,h=>by
  rw[risingS,lN,ltCps_eq]at h;have px:AL p x:=by
   have z:=h.1;rw[Bool.not_eq_true',decide_eq_false_iff_not]at z;exact z
  have ih:=nv h.2;refine List.Pairwise.cons (λy hy=>?_) ih;rcases iG.mp hy with rfl|hy
  ·exact px
  ·exact Bm px ((List.pairwise_cons.mp ih).1 y hy)
theorem BK:∀{l:List Str},sortedS l=true->l.Pairwise AL
 |[],_=>.nil
 |_::_,h=>nv h
theorem rR:∀{ss:List Str}{us:List Value},StrsAre us ss->Vals (ss.map V.str) us
 |_,_,.nil=>.nil
 |_,_,.cons x k t=>.cons ⟨k,rfl⟩ (rR t)
theorem oz:∀{us:List Value}{ss:List Str},us.length=ss.length->(∀(j:Nat) (v:Value),us[j]?=some v->∃y k,ss[j]?=some y/\v=Value.str y k)->StrsAre us ss
 |[],[],_,_=>.nil
 |u::us,s::ss,hl,h=>by
  obtain⟨y,k,e,rfl⟩:=h 0 u rfl;cases e;exact .cons _ k (oz (by simpa using hl) λj v hv=>by simpa using h (j+1) v (by simpa using hv))
theorem mO 
  (hc:wpAny (model prog w) A.in1 (collect a) (λvs s1=>∃ss:List Str,StrsAre vs ss/\vs.length<64/\
   ∀(h':Heap) (out:List Value) (ss':List Str) (D:Addr) (e:Nat),(∀b o,s1.heap.get? b=some o->h'.get? b=some o)->s1.heap.objs.size<=D->h'.get? D=some (seqObj "list" out.toArray e)->
    StrsAre out ss'->ss'.Perm ss->ss'.Pairwise AL->Q (.ref D) { s1 with heap:=h' }) E s):
  wpAny (model prog w) A (call (.builtin "sorted") [a]) Q E s:=by
 refine Calls.call_function_entry kind_sorted plain_sorted entry_sorted (args_sorted1 _) ?_;unfold Builtin.«sorted»;refine au (m:=checkCount "sorted" 1 1 _) (aP ?_);refine au (nF hc (λvs s1 hv=>?_) λ_ _ z=>z);obtain⟨ss,S,hz,q⟩:=hv;refine au (wpAny_newList ?_ (by rw[sizeLine_eq];omega));have hoL:(s1.heap.push (seqObj "list" vs.toArray 0)).get? s1.heap.objs.size=some (seqObj "list" vs.toArray 0):=gL _ rfl;refine au (v9 (B1 slot_list_sort ⟨_,hoL,rfl⟩ entry_list_sort
  (list_sort_treeK strKind_oneLt hoL S.keysOf (λv₁ v₂ rest z=>keyKind_strs (by rw[<-z];exact S)) hz λst a1 a2=>⟨_,rfl,?_⟩) (args_list_sort _)))
 obtain⟨ss',t1,t2,t3⟩:=sorted_out_str S a1 a2;obtain⟨e,he⟩:=sortedHeap_at (out:=(arrOf st).map (·.2)) hoL;refine aP ⟨_,rfl,q _ ((arrOf st).map (·.2)).toList ss' s1.heap.objs.size e (λb o z=>?_) (bC _) (by rw[Array.toArray_toList];exact he) t1 t2 (BK t3)⟩;have lt:=cV z;rw[sortedHeap_old (eD lt) (by rw[size_push'];exact Nat.lt_succ_of_lt lt)];exact cM _ z
section
variable{X:Cx}
noncomputable def Fq:List V->Hp->VK->Prop:=λxs H Q=>∃p af,∃ss:List Str,xs=[.ref p]/\H p=some (.dK af)/\af.map (·.1)=ss.map Sum.inr/\ss.length<64/\∀(l:Addr) (ss':List Str),H l=none->ss'.Perm ss->ss'.Pairwise AL->Q (.ref l) (upd H l (.lst (ss'.map V.str)))
theorem x_{af:List (Key×V)}{vs:List (Key×Value)}(r:KV af vs):af.map (·.1)=vs.map (·.1):=by
 unfold KV at r
 induction r with
 |nil=>rfl
 |cons h _ ih=>rw[fH,fH,h.1,ih]
theorem iM(hc:X.calm=true):cX X (.builtin "sorted") Fq:=by
 intro pins s σ H xs us Q I r h;obtain⟨p,af,ss,rfl,hq,hk,hz,q⟩:=h;obtain⟨u,rfl,rx⟩:=vals1 r;cases rx;obtain⟨z,hS,vs,rel,dd⟩:=nh I.aV hq;obtain⟨ep,da⟩:=dd.dictAt;have hh:X.A.in1.handled=none:=by simp[I.ok.hd hc]
 have hkeys:vs.map (·.1)=ss.map Sum.inr:=(x_ rel).symm.trans hk;have hlen:vs.length=ss.length:=by have e:=congrArg List.length hkeys;simpa using e
 refine mO (PySem.W.kdu_collect (PySem.W.kdl_dict hS) hh da (by rw[hlen,sizeLine_eq];omega) λh1 tk acc kp it=>?_);have hal:acc.toList.length=ss.length:=by rw[BX,it.1,hlen]
 refine⟨ss,oz hal (λj v hv=>?_),by rw[hal];exact hz,λh2 out ss' D e k2 hD hg S pm pw=>?_⟩
 ·rw[M5]at hv;obtain⟨k,x,e,hi⟩:=it.2 j v hv;have e1:(vs.map (·.1))[j]?=some k:=by rw[gh,e];rfl
  rw[hkeys,gh]at e1;cases hj:ss[j]? with
  |none=>rw[hj]at e1;cases e1
  |some y=>
   rw[hj]at e1;cases e1;obtain⟨t,rfl⟩:=Value.isStrOf_shape (x:=y) (v:=v) hi;exact⟨y,t,rfl,rfl⟩
 ·have I1:=I.kept (t':=tk) kp;exact⟨.ref D,_,I1.laid (a:=D) (o:=.lst (ss'.map V.str)) (t':=tk) k2 hD ⟨by rw[az,pm.length_eq,sizeLine_eq];omega,out,e,rR S,by simpa using hg⟩,rfl,q _ ss' (I1.aV.fresh hD) pm pw⟩
theorem iV:∀{as:List Addr}{us:List Value},Vals (as.map V.ref) us->us=as.map Value.ref
 |[],[],.nil=>rfl
 |a::as,u::us,.cons r t=>by
  cases r;rw[iV t];rfl
noncomputable def Q_(g:Addr->D)(d:D):Value->Bool
 |.ref a=>deq (g a) d
 |_=>false
def I0(K:Wf)(neg:Bool):R2:=λx y H Q=>∃(p:Addr) (as:List Addr) (g:Addr->D) (d:D),y=.ref p/\aD K H p (as.map V.ref)/\(∀a∈as,Rep K H (g a) (.ref a)/\dep (g a)<=20)/\Rep K H d x/\Q (.bl (if neg then !(as.any λa=>deq (g a) d) else as.any λa=>deq (g a) d)) H
theorem z8(g:Addr->D)(d:D)(as:List Addr):(as.map Value.ref).toArray.any (Q_ g d)=as.any λa=>deq (g a) d:=by
 rw[List.any_toArray,GF];rfl
theorem Li(hu:X.A.units+64<cLine):g8 X (compareOp .In) (I0 X.K false):=by
 intro pins s σ H x y v u Q I rx ry h;obtain⟨p,as,g,d,rfl,hq,ha,hd,q⟩:=h;cases ry;obtain⟨its,r,pl,hz⟩:=I.list hq;have e:=iV r;subst e;refine SeqAt.in_listAt (Q_ g d) pl.isList (λw hw=>?_) ⟨.bl _,H,I,rfl,by rw[z8];exact q⟩;obtain⟨a,hm,rfl⟩:=aM.mp (by simpa using hw);exact sH I (g a) d (.ref a) x (.ref a) v X.A.in1 (by have:=(ha a hm).2;show X.A.units+1+_<_;omega) (ha a hm).1 hd rfl rx
theorem Bx(hu:X.A.units+64<cLine):g8 X (compareOp .NotIn) (I0 X.K true):=by
 intro pins s σ H x y v u Q I rx ry h;obtain⟨p,as,g,d,rfl,hq,ha,hd,q⟩:=h;cases ry;obtain⟨its,r,pl,hz⟩:=I.list hq;have e:=iV r;subst e;refine SeqAt.notIn_listAt (Q_ g d) pl.isList (λw hw=>?_) ⟨.bl _,H,I,rfl,by rw[z8];exact q⟩;obtain⟨a,hm,rfl⟩:=aM.mp (by simpa using hw);exact sH I (g a) d (.ref a) x (.ref a) v X.A.in1 (by have:=(ha a hm).2;show X.A.units+1+_<_;omega) (ha a hm).1 hd rfl rx
theorem Jg{K:Wf}(hu:X.A.units+64<cLine)(e:X.K=K):g8 X (compareOp .In) (I0 K false):=e▸Li hu
theorem k8{K:Wf}(hu:X.A.units+64<cLine)(e:X.K=K):g8 X (compareOp .NotIn) (I0 K true):=e▸Bx hu
end
end L2
namespace L2
open PySem
section
variable{prog:Program}{w:World}{A:Around}{E:Vs}{s:Shared}
theorem rK:typeLookup (.type "list") "keys" = pure none:=by rw[typeLookup_type,builtinLookup_eq_fast];kernel_rfl
set_option maxHeartbeats 3200000 in
theorem gc(hL:PlainL s.heap a xs)(hA:A.handled=none)
  (h:∀h' tk,(∀b o,s.heap.get? b=some o->h'.get? b=some o)->Q none { s with heap:=h',toks:=tk }):
  wpAny (model prog w) A (getAttr? (.ref a) "keys") Q E s:=by
 obtain⟨o,k,hx,hc,hd,hdat⟩:=hL;obtain⟨c,dct,dat,sl⟩:=o;simp only at hc hdat hd;subst hc hdat hd;obtain⟨hp,g,d,tk,os⟩:=s;have hT:∀tk',(⟨hp,g,d,tk',os⟩:Shared).TypeIs (.ref a) "list" := λ_=>⟨_,hx,rfl⟩;have f1:=sub_AttributeError;have f3:=F.slot_list_getattribute.lookup;have f4:=F.slot_list_getattribute.bind (.ref a);have f5:=am_list_getattr_none;unfold getAttr? getAttrBy? getAttrBy
 repeat (any_goals (first|assumption|exact hT _|((with_reducible show wpAny _ _ (call (Value.builtin "list.__getattribute__") _ _) _ _ _);refine call_meets F.slot_list_getattribute (hT _) am_entry_list_getattribute (F.args_list_getattribute_2 _ _) (meets_getattribute_miss_list a xs k sl "keys" _ rK (by decide +kernel)) ⟨hx,hA,λh' tk' e hx'=>?_⟩)|wp_step))
 obtain⟨t',u',he⟩:=hx'.there;show wpAny _ _ (getattributeRaised _ _ _ _ _ _ _) _ _ _;unfold getattributeRaised
 repeat (any_goals (first|assumption|wp_step))
 exact h h' tk' hx'.keeps
theorem gU:entryFor table "dict.update.loop" = some Builtin.«dict.update.loop»:=entryFor_of_tree (by kernel_rfl)
theorem c6:plainId "dict.update.loop" = true:=by decide +kernel
def dz(h:Heap)(a:Addr)(u v:Value):Prop:=∃o n,h.get? a=some o/\o.cls=.type "tuple" /\ o.data=.seq #[u,v] n
theorem gW{K:Type} [DecidableEq K]{knd:KeyKind prog w K}{h h':Heap}{S:Addr}{af:List (K×Value)}(d:h.DictOf knd S af)(k:∀o,h.get? S=some o->h'.get? S=some o):h'.DictOf knd S af:=by
 obtain⟨o,es,ep,ho,r⟩:=d;exact⟨o,es,ep,k o ho,r⟩
set_option maxHeartbeats 3200000 in
theorem Fb{K:Type} [DecidableEq K]{knd:KeyKind prog w K}{R:Result->Shared->Prop}{I:Addr}{fp wr:List Addr}{G:Array GenState->Array GenState->Prop}{n:Nat}{P:Nat->Value->Prop}{St:Nat->Shared->Prop}(W:WalksS prog w A.in1 I fp wr G n P St)(S:Addr)(hSf:S∉fp)
  (at_:Nat->Addr) (us vs:Nat->Value) (ks:Nat->K) (hval:∀i v,P i v->v=.ref (at_ i)) (hk:∀i,i<n->knd.is (ks i) (us i)=true) (hne:∀i,i<n->at_ i≠S/\at_ i∉wr) (hb:n+1<sizeLine):
  ∀(k i:Nat) (s:Shared) (af:List (K×Value)),n - i=k->i<=n->St i s->s.heap.DictOf knd S af->af.length<=i->(∀j,j<n->dz s.heap (at_ j) (us j) (vs j))->af=merged [] ((List.range i).map λj=>(ks j,vs j))->∀t:Tok,
   (∀s',Moved (S::wr) G s s'->s'.heap.DictOf knd S (merged [] ((List.range n).map λj=>(ks j,vs j)))->R (.ok (.ret .none)) s')->
   codeAny (model prog w) A (.builtin "dict.update.loop" ⟨[.ref S,.ref I,.int i t,.none],[]⟩) R s:=by
 have hSw:S∉wr:=λh=>hSf (W.sub _ h);have sub:∀b∈wr,b∈S::wr:=λb hb=>ka _ hb;intro k
 induction k with
 |zero=>
  intro i s af hk' hi st hS hl hp em t hR;obtain rfl:i=n:=by omega
  refine codeAny_builtin gU ?_;rw[Around.under_plainId c6 _];show wpAny _ A.in1 (pyNext (.ref I) >>= _) _ _ s;refine au (W.done s _ _ st λs' mv=>?_);show wpAny _ _ (Builtin.Dict.addKeywords S [] >>= λ_=>ret Value.none) _ _ _;refine au (aP (aP ?_));exact hR s' (mv.mono sub) (em▸gW hS λo z=>mv.heap S o hSw z)
 |succ k ih=>
  intro i s af hk' hi st hS hl hp em t hR;have lt:i<n:=by omega
  refine codeAny_builtin gU ?_;rw[Around.under_plainId c6 _];show wpAny _ A.in1 (pyNext (.ref I) >>= _) _ _ s;refine au (W.item i s _ _ lt st λv s' hP st' mv=>?_);obtain rfl:=hval i v hP;have hS':s'.heap.DictOf knd S af:=gW hS λo z=>mv.heap S o hSw z;have hp':∀j,j<n->dz s'.heap (at_ j) (us j) (vs j):=λj hj=>by
   obtain⟨o,m,e,c,d⟩:=hp j hj;exact⟨o,m,mv.heap _ o (hne j hj).2 e,c,d⟩
  obtain⟨o,m,ho,hc,hd⟩:=hp' i lt;show wpAny _ A.in1 (holding [Value.ref (at_ i)] (Sem.tryCatch (Builtin.Dict.pairItems (Value.ref (at_ i))) _ >>= _) >>= _) _ _ s';refine au (v9 (au (wpAny_tryCatch ?_)));unfold Builtin.Dict.pairItems;refine au (NG ho ?_);rw[hc,if_pos (by decide)];refine au (wpAny_seqItems ho hd (aP ?_));show wpAny _ A.in1 (holding [us i,vs i] (dictSet S (us i) (vs i))) _ _ s';refine v9 (wpAny_dictSet_pairs (hk i lt) hS' (λh' dd sb=>?_) );have er:rawInt ((i:Int)+1)=Value.int ((i+1:Nat):Int) 0:=rfl;rw[er];refine aP ⟨plainId_quiet c6 _,ih (i+1) _ _ (by omega) lt (W.frame _ s' _ _ st' (Di _) λb hb o e=>?_) dd (f9 (stored_length_le af (ks i) (vs i)) (by omega)) (λj hj=>?_) ?_ _ λs'' mv' dd'=>?_⟩
  ·rw[sb.2 b (λh:b=S=>hSf (by rw[<-h];exact hb))];exact e
  ·obtain⟨o,m,e,c,d⟩:=hp' j hj;exact⟨o,m,(sb.2 _ (hne j hj).1).trans e,c,d⟩
  ·rw[em,List.range_succ,aY];unfold merged;rw[MP];rfl
  ·refine hR s'' (Moved.trans W.gtrans ((mv.mono sub).then_heap (Di _) λb o hb e=>?_) mv') dd';rw[sb.2 b (λh:b=S=>hb (by rw[h];exact lE))];exact e
set_option maxHeartbeats 3200000 in
theorem xJ{K:Type} [DecidableEq K]{knd:KeyKind prog w K}{s:Shared}{l:Addr}{items:Array Value}{at_:Nat->Addr}{us vs:Nat->Value}{ks:Nat->K}{Q:Vs}(hh:A.handled=none)(hl:PlainL s.heap l items)
  (hi:∀(i:Nat) (v:Value),items[i]?=some v->v=.ref (at_ i)) (hk:∀i,i<items.size->knd.is (ks i) (us i)=true) (hp:∀j,j<items.size->dz s.heap (at_ j) (us j) (vs j)) (hb:items.size+1<sizeLine)
  (h:∀(h':Heap) (tk:Nat),h'.DictOf knd s.heap.objs.size (merged [] ((List.range items.size).map λj=>(ks j,vs j)))->(∀b o,s.heap.get? b=some o->h'.get? b=some o)->Q (.ref s.heap.objs.size) { s with heap:=h',toks:=tk }):
  wpAny (model prog w) A (call (.type "dict") [.ref l]) Q E s:=by
 refine callType_codes (Q₁:=λobj s₁=>obj=.ref s.heap.objs.size/\s₁={ s with heap:=s.heap.push { cls:=.type "dict", data:=.dict #[] } }) F.kt_called_dict (F.kt_typeCall_dict_1 _) F.entry_dict_init (kt_code_dict_new _ ⟨rfl,rfl⟩) ?_;rintro obj s₁ ⟨rfl,rfl⟩;have hnew:(s.heap.push { cls:=.type "dict", data:=.dict #[] }).DictOf knd s.heap.objs.size []:=Heap.DictOf.new s.heap;refine⟨hnew.typeIs,F.args_dict_init_2 _ _,?_⟩;unfold Builtin.«dict.__init__»;refine au ?_;unfold Builtin.Dict.selfAndRest;refine au (wpAny_notOrdered_dict hnew.typeIs ?_);show wpAny _ _ (pure (s.heap.objs.size,[Value.ref l])) _ _ _;refine aP ?_;show wpAny _ _ (Builtin.Dict.updateFrom "dict.__init__" s.heap.objs.size (.ref l) [] .none) _ _ _;unfold Builtin.Dict.updateFrom;have hl1:PlainL (s.heap.push { cls:=.type "dict", data:=.dict #[] }) l items:=hl.keeps λb o e=>cM _ e;obtain⟨ol,nl,hol,hcl,_⟩:=id hl1;refine au (NG hol ?_);rw[hcl,if_pos (by decide)];refine au (gc hl1 (by simp[hh]) λh2 tk2 kp=>?_);rw[if_pos (show(none:Option Value).isNone=true from rfl)];have hl2:PlainL h2 l items:=hl1.keeps kp;have hn2:h2.DictOf knd s.heap.objs.size []:=gW hnew λo e=>kp _ o e;refine au (FR ?_);refine au (wpAny_pyIter_list hl2.isList ?_);have keep2:∀b o,s.heap.get? b=some o->h2.get? b=some o:=λb o e=>kp b o (cM _ e);have lS:s.heap.objs.size<h2.objs.size:=by
  obtain⟨o,_,_,ho,_⟩:=hn2;exact cV ho
 have lL:l<h2.objs.size:=hl2.lt;have h3:A.in1.in1.handled=none:=by simp[hh]
 have nI:l≠h2.objs.size:=eD lL;have lt0:∀j,j<items.size->at_ j<s.heap.objs.size:=λj hj=>by
  obtain⟨o,m,e,_⟩:=hp j hj;exact cV e
 have hSf:s.heap.objs.size∉[h2.objs.size,l]:=by
  simp only[List.mem_cons,List.not_mem_nil,or_false,not_or];exact⟨eD lS,Nat.ne_of_gt hl.lt⟩
 refine aP ⟨plainId_quiet c6 _,?_⟩;refine Fb (knd:=knd) ((Walks.list h3 _ l nI items).toS) s.heap.objs.size hSf at_ us vs ks hi hk (λj hj=>⟨eD (lt0 j hj),?_⟩) hb (items.size - 0) 0 _ [] (by omega) (fe _) ⟨⟨_,gL _ rfl,rfl,rfl⟩,hl2.isList.push _⟩ (gW hn2 λo z=>cM _ z) (fe _) (λj hj=>?_) rfl 0 λs' mv dd=>?_
 ·simp only[List.mem_cons,List.not_mem_nil,or_false];exact eD (Nat.lt_trans (lt0 j hj) lS)
 ·obtain⟨o,m,e,c,d⟩:=hp j hj;exact⟨o,m,cM _ (keep2 _ _ e),c,d⟩
 ·obtain⟨h',g',d',tk',os'⟩:=s';obtain rfl:g'=s.gens:=mv.gens;obtain rfl:d'=s.drawn:=mv.drawn;obtain rfl:os'=s.os:=mv.os;refine⟨rfl,h h' tk' dd λb o e=>?_⟩;have lt:=cV e;refine mv.heap b o ?_ (cM _ (keep2 _ _ e));simp only[List.mem_cons,List.not_mem_nil,or_false,not_or];exact⟨eD lt,eD (Nat.lt_trans lt lS)⟩
end
section
open PyProof.Rows PySem.Spec
variable{X:Cx}
theorem iC{α β γ:Type}{R:α->β->Prop}{f:γ->α}{g:γ->β}:∀(l:List γ),(∀j∈l,R (f j) (g j))->Paired R (l.map f) (l.map g)
 |[],_=>.nil
 |x::l,h=>.cons (h x (by simp)) (iC l λj hj=>h j (by simp[hj]))
theorem map_range{α β:Type}(xs:List α)(d:α)(f:α->β):xs.map f=(List.range xs.length).map λj=>f (xs.getD j d):=by
 refine List.ext_getElem (by simp) λi h1 h2=>?_;have hi:i<xs.length:=by simpa using h1
 simp[List.getD_eq_getElem?_getD,List.getElem?_eq_getElem hi]
noncomputable def LI(K:Wf):List V->Hp->VK->Prop:=λxs H Q=>∃(p:Addr) (ps:List (Addr×Key×V)),xs=[.ref p]/\aD K H p (ps.map λt=>V.ref t.1)/\(∀t∈ps,H t.1=some (.tup [kV t.2.1,t.2.2]))/\ps.length<4000/\∀d,H d=none->Q (.ref d) (upd H d (.dK (cb [] (ps.map (·.2)))))
theorem wj(hc:X.calm=true):cX X (.type "dict") (LI X.K):=by
 intro pins s σ H xs us Q I r h;obtain⟨p,ps,rfl,hq,hp,hz,q⟩:=h;obtain⟨u,rfl,rx⟩:=vals1 r;cases rx;obtain⟨its,r',pl,_⟩:=I.list hq;have hl:its.length=ps.length:=by rw[<-r'.length,az]
 have tp:∀i (hi:i<ps.length),∃u v,dz s.heap ps[i].1 u v/\RelV (kV ps[i].2.1) u/\RelV ps[i].2.2 v:=λi hi=>by
  obtain⟨ts,rt,it,_⟩:=I.tuple (aR.of (hp ps[i] (uJ hi)));obtain⟨o,ho,hcl,n,hd⟩:=it;cases rt with
  |cons r1 t1=>
   cases t1 with
   |cons r2 t2=>
    cases t2;exact⟨_,_,⟨o,n,ho,hcl,hd⟩,r1,r2⟩
 obtain⟨f,hf⟩:∃f:Nat->Value×Value,∀i (hi:i<ps.length),dz s.heap ps[i].1 (f i).1 (f i).2/\RelV (kV ps[i].2.1) (f i).1/\RelV ps[i].2.2 (f i).2:=
  ⟨λi=>if hi:i<ps.length then ⟨Classical.choose (tp i hi),Classical.choose (Classical.choose_spec (tp i hi))⟩ else ⟨.none,.none⟩,λi hi=>by
   simp only[dif_pos hi];exact Classical.choose_spec (Classical.choose_spec (tp i hi))⟩
 have gd:∀i (hi:i<ps.length),ps.getD i (0,.inl 0,.bj)=ps[i]:=λi hi=>by rw[P9,jo hi];rfl
 have sz:its.toArray.size=ps.length:=by rw[ij,hl]
 refine xJ (knd:=aW X.prog X.w) (at_:=λi=>(ps.getD i (0,.inl 0,.bj)).1) (us:=λi=>(f i).1) (vs:=λi=>(f i).2) (ks:=λi=>(ps.getD i (0,.inl 0,.bj)).2.1) (I.ok.hd hc) pl (λi v hv=>?_) (λi hi=>?_) (λi hi=>?_) (by rw[sz,sizeLine_eq];omega) λh' tk dd kp=>?_
 ·rw[Pd]at hv;have hi:i<ps.length:=by rw[<-hl];exact(ig.mp hv).1
  obtain⟨u,hu,ru⟩:=r'.get (i:=i) (x:=.ref ps[i].1) (by rw[gh,jo hi];rfl);rw[hv]at hu;cases hu;show v=Value.ref (ps.getD i (0,.inl 0,.bj)).1;rw[gd i hi];exact ru
 ·rw[sz]at hi;show(aW X.prog X.w).is (ps.getD i (0,.inl 0,.bj)).2.1 (f i).1=true;rw[gd i hi];exact iW (hf i hi).2.1
 ·rw[sz]at hi;show dz s.heap (ps.getD i (0,.inl 0,.bj)).1 _ _;rw[gd i hi];exact(hf i hi).1
 ·rw[sz]at dd;have rel:KV (ps.map (·.2)) ((List.range ps.length).map λj=>((ps.getD j (0,.inl 0,.bj)).2.1,(f j).2)):=by
   rw[map_range ps (0,.inl 0,.bj)];refine iC _ λj hj=>?_;have hj:=yJ.mp hj;rw[gd j hj];exact⟨rfl,(hf j hj).2.2⟩
  have rm:KV (cb [] (ps.map (·.2))) _:=KV.merge rel (.nil);have z:(cb [] (ps.map (·.2))).length<=sizeLine:=by
   have:=merged_length_le ([]:List (Key×Value)) ((List.range ps.length).map λj=>((ps.getD j (0,.inl 0,.bj)).2.1,(f j).2));rw[List.length_nil,az,Nc]at this;rw[KV.length rm,sizeLine_eq];omega
  exact⟨.ref s.heap.objs.size,_,I.laid (a:=s.heap.objs.size) (o:=.dK (cb [] (ps.map (·.2)))) (t':=tk) kp (bC _) (uv z (beq_eq_false_iff_ne.mpr (Ne.symm (eD I.big))) rm dd),rfl,q _ (I.aV.fresh (bC _))⟩
end
end L2
namespace L2
open PySem PySem.Spec PyProof.Rows
section
variable{X:Cx}{pins:Lo}{σ:List (Option V)}{H H':Hp}{s:Shared}{h':Heap}
theorem Inv.Jb{t':Nat}{fp:List Addr}(I:Inv X pins σ H s)(k:∀b o,b∉fp->s.heap.get? b=some o->h'.get? b=some o)(hf:∀b∈fp,e9 X pins H b):Inv X pins σ H { s with heap:=h',toks:=t' }:=by
 have nit:∀b u,H b=some u->b∉fp:=λb u e z=>by rw[(hf b z).1]at e;cases e
 have hL:X.env.locals∉fp:=λz=>(hf _ z).2.1 rfl;refine I.step (g':=s.gens) (d':=s.drawn) (ch:=fp) (λb hb=>?_) (λb o _ _ hc e _=>k b o hc e) (λb o _ _ hc e _=>⟨o.slots,k b o hc e⟩) (λ_ _ _ _ n=>n)
  (λb o hc e=>⟨o,k b o hc e⟩) (λ_ _ e=>e) (λ_ _ _ e=>e) (λb ps e=>⟨#[],by rw[e];simp⟩) (λm hm=>?_) (λb u e=>?_) I.bare
 ·obtain⟨_,a1,_,a2,a3,a4⟩:=hf b hb;exact⟨a2,a1,a3,a4⟩
 ·obtain⟨o,es,ep,ho,r⟩:=hm;exact⟨o,es,ep,k _ o hL ho,r⟩
 ·refine(I.aV b u e).iY (λc v hc q=>k c v ?_ q) (λ_ q=>q) λ_ _ q=>q;rcases hc with z|z
  ·rw[z];exact nit b u e
  ·exact nit c _ z
theorem Inv.Iw{t':Nat}{fp:List Addr}{q:Addr}{xs:List V}(I:Inv X pins σ H s)(k:∀b o,b∉fp->s.heap.get? b=some o->h'.get? b=some o)(hf:∀b∈fp,e9 X pins H b)(hq:s.heap.objs.size<=q)(new:a6 X.prog X.w (upd H q (.tup xs)) h' q (.tup xs)):
  Inv X pins σ (upd H q (.tup xs)) { s with heap:=h',toks:=t' }:=by
 have nit:∀b u,H b=some u->b∉fp:=λb u e z=>by rw[(hf b z).1]at e;cases e
 have hL:X.env.locals∉fp:=λz=>(hf _ z).2.1 rfl;have fq:H q=none:=I.aV.fresh hq;have ne:∀b u,H b=some u->b≠q:=λb u e z=>by rw[z,fq]at e;cases e
 have ne':∀b (o:Obj),s.heap.get? b=some o->b≠q:=λb o e z=>absurd (cV e) (by rw[z];exact Nat.not_lt.mpr hq);refine I.step (g':=s.gens) (d':=s.drawn) (ch:=fp) (λb hb=>?_) (λb o _ _ hc e _=>k b o hc e) (λb o _ _ hc e _=>⟨o.slots,k b o hc e⟩) (λb o _ e n=>by rw[ae (ne' b o e)];exact n)
  (λb o hc e=>⟨o,k b o hc e⟩) (λb _ e=>by rw[ae (ne b _ e)];exact e) (λb _ _ e=>by rw[ae (ne b _ e)];exact e) (λb ps e=>⟨#[],by rw[ae (ne b _ e),e];simp⟩) (λm hm=>?_) (λb u e=>?_) I.bare
 ·obtain⟨_,a1,_,a2,a3,a4⟩:=hf b hb;exact⟨a2,a1,a3,a4⟩
 ·obtain⟨o,es,ep,ho,r⟩:=hm;exact⟨o,es,ep,k _ o hL ho,r⟩
 ·by_cases z:b=q
  ·subst z;rw[aE]at e;cases e;exact new
  ·rw[ae z]at e;refine(I.aV b u e).iY (λc v hc q=>k c v ?_ q) (λc q=>?_) λc o q=>?_
   ·rcases hc with z|z
    ·rw[z];exact nit b u e
    ·exact nit c _ z
   ·rw[ae (ne c _ q)];exact q
   ·rw[ae (ne c _ q)];exact q
end
structure Zf(z TI TO i1 i2:Addr):Prop where
 TIz:TI≠z
 TOz:TO≠z
 i1z:i1≠z
 i2z:i2≠z
 TITO:TI≠TO
 TIi1:TI≠i1
 TIi2:TI≠i2
 TOi1:TO≠i1
 TOi2:TO≠i2
 i12:i1≠i2
noncomputable def Q0(K:Wf)(a b:Addr):It:=
 ⟨λi H=>∃ xs ys x y, aD K H a xs /\ aD K H b ys /\ xs[i]? = some x /\ ys[i]? = some y,
  λi H v H'=>∃q x y,v=.ref q/\H q=none/\(∀xs,aD K H a xs->xs[i]?=some x)/\(∀ys,aD K H b ys->ys[i]?=some y)/\H'=upd H q (.tup [x,y]),
  λi H=>∃xs ys,aD K H a xs/\aD K H b ys/\(xs.length<=i\/ys.length<=i)⟩
def Tz(z TI TO i1 i2 l1 l2:Addr)(i:Nat)(h:Heap):Prop:=IsZip h z TI TO .none/\IsPair h TI (.ref i1) (.ref i2)/\(∃a b,IsPair h TO a b)/\h.IsListIter i1 l1 i/\h.IsListIter i2 l2 i
theorem vy{h:Heap}{z TI TO i1 i2 l1 l2:Addr}{i:Nat}{xs ys:Array Value}(f:Zf z TI TO i1 i2)(t:Tz z TI TO i1 i2 l1 l2 i h)(p1:PlainL h l1 xs)(p2:PlainL h l2 ys):ZipApart z TI TO i1 i2 l1 l2:=by
 obtain⟨t1,t2,⟨a,b,t3⟩,⟨o4,t4,c4,_⟩,⟨o5,t5,c5,_⟩⟩:=t;have ne:∀{l:Addr}{its:Array Value},PlainL h l its->l≠z/\l≠TO/\l≠i1/\l≠i2:=λ{l its} p=>by
  obtain⟨o,n,e,c,_⟩:=p;refine⟨λq=>?_,λq=>?_,λq=>?_,λq=>?_⟩
  ·rw[q,t1]at e;cases e;exact absurd (Value.type.inj c) (by decide)
  ·rw[q,t3]at e;cases e;exact absurd (Value.type.inj c) (by decide)
  ·rw[q,t4]at e;cases e;rw[c4]at c;exact absurd (Value.type.inj c) (by decide)
  ·rw[q,t5]at e;cases e;rw[c5]at c;exact absurd (Value.type.inj c) (by decide)
 obtain⟨a1,a2,a3,a4⟩:=ne p1;obtain⟨b1,b2,b3,b4⟩:=ne p2;exact { TIz:=f.TIz,TOz:=f.TOz,i1z:=f.i1z,i2z:=f.i2z,TITO:=f.TITO,TIi1:=f.TIi1,TIi2:=f.TIi2,TOi1:=f.TOi1,TOi2:=f.TOi2,i12:=f.i12,l1z:=a1,l1TO:=a2,l1i1:=a3,l1i2:=a4,l2z:=b1,l2TO:=b2,l2i1:=b3,l2i2:=b4 }
theorem G_{P:Program}{w:World}{K:Wf}{elts:List Expr}{x1}{pos:Pos}{z TI TO i1 i2:Addr}(l1 l2:Addr)(f:Zf z TI TO i1 i2):Turn P w K (.Tuple elts x1 pos) (Q0 K l1 l2) [z,TI,TO,i1,i2] z (Tz z TI TO i1 i2 l1 l2) where
 mem:=by simp
 obj:=λi h st b hb=>by
  obtain⟨t1,t2,⟨a,b',t3⟩,⟨o4,t4,c4,d4⟩,⟨o5,t5,c5,d5⟩⟩:=st;simp only[List.mem_cons,List.not_mem_nil,or_false]at hb;rcases hb with rfl|rfl|rfl|rfl|rfl
  ·exact⟨_,t1,λv q=>by cases q⟩
  ·exact⟨_,t2,λv q=>by cases q⟩
  ·exact⟨_,t3,λv q=>by cases q⟩
  ·exact⟨_,t4,λv q=>by rw[d4]at q;cases q⟩
  ·exact⟨_,t5,λv q=>by rw[d5]at q;cases q⟩
 keep:=λi h h' st k=>by
  obtain⟨t1,t2,⟨a,b',t3⟩,t4,t5⟩:=st;exact⟨k z (by simp) _ t1,k TI (by simp) _ t2,⟨a,b',k TO (by simp) _ t3⟩,t4.at λo e=>k i1 (by simp) o e,t5.at λo e=>k i2 (by simp) o e⟩
 item:=by
  intro X hP hw hK hc i pins s σ H E I hf st hg;subst hP hw hK;obtain⟨xs,ys,x,y,q1,q2,hx,hy⟩:=hg;obtain⟨its1,rv1,p1,_⟩:=I.list q1;obtain⟨its2,rv2,p2,_⟩:=I.list q2;obtain⟨u,hu,ru⟩:=rv1.get hx;obtain⟨v,hv,rv⟩:=rv2.get hy;have D:=vy f st p1 p2;obtain⟨t1,t2,⟨a,b',t3⟩,t4,t5⟩:=id st;have lt:∀b∈[z,TI,TO,i1,i2],b<s.heap.objs.size:=λb hb=>by
   simp only[List.mem_cons,List.not_mem_nil,or_false]at hb;rcases hb with rfl|rfl|rfl|rfl|rfl
   ·exact cV t1
   ·exact cV t2
   ·exact cV t3
   ·obtain⟨_,e,_⟩:=t4;exact cV e
   ·obtain⟨_,e,_⟩:=t5;exact cV e
  refine wpAny_pyNext_zip_item D t1 t2 t3 t4 t5 p1.isList p2.isList (x:=u) (y:=v) (by simpa using hu) (by simpa using hv) λh' z' TO' i1' i2' pr sz kp=>⟨.ref s.heap.objs.size,rfl,?_⟩;refine wpAny_letOwnedTupleGo_zip z' λh'' z'' sb=>?_;have hTI:IsPair h' TI (.ref i1) (.ref i2):=kp _ _ f.TIz f.TITO f.TIi1 f.TIi2 t2;have nz:s.heap.objs.size≠z:=Nat.ne_of_gt (lt z (by simp));have kk:∀b o,b∉[z,TI,TO,i1,i2]->s.heap.get? b=some o->h''.get? b=some o:=λb o nb e=>by
   simp only[List.mem_cons,List.not_mem_nil,or_false,not_or]at nb;exact(sb.2 b nb.1).trans (kp b o nb.1 nb.2.2.1 nb.2.2.2.1 nb.2.2.2.2 e)
  have new:IsTup h'' s.heap.objs.size #[u,v]:=⟨_,(sb.2 _ nz).trans pr,rfl,0,rfl⟩
  refine⟨.ref s.heap.objs.size,_,I.Iw (q:=s.heap.objs.size) (xs:=[x,y]) (t':=s.toks) kk hf (bC _) ⟨by rw[sizeLine_eq];exact(by decide:(2:Nat)<=16777216),[u,v],.cons ru (.cons rv .nil),new⟩,rfl,⟨_,x,y,rfl,I.aV.fresh (bC _),λzs hz=>by rw[I.gx hz q1];exact hx,λzs hz=>by rw[I.gx hz q2];exact hy,rfl⟩,?_,λb hb=>?_⟩
  ·exact⟨z'',(sb.2 _ f.TIz).trans hTI,⟨u,v,(sb.2 _ f.TOz).trans TO'⟩,i1'.at λo e=>(sb.2 _ f.i1z).trans e,i2'.at λo e=>(sb.2 _ f.i2z).trans e⟩
  ·rw[ae (eD (lt b hb))];exact(hf b hb).1
 done:=by
  intro X hP hw hK hc i pins s σ H E I hf st hg;subst hP hw hK;obtain⟨xs,ys,q1,q2,hx⟩:=hg;obtain⟨its1,rv1,p1,_⟩:=I.list q1;obtain⟨its2,rv2,p2,_⟩:=I.list q2;have D:=vy f st p1 p2;obtain⟨t1,t2,⟨a,b',t3⟩,t4,t5⟩:=id st;have e1:=rv1.length;have e2:=rv2.length;refine wpAny_pyNext_zip_end (I.ok.hd hc) D t1 t2 t3 t4 t5 p1.isList p2.isList ?_ λh' kp=>⟨rfl,I.Jb (t':=s.toks) (λb o nb e=>?_) hf⟩
  ·rcases hx with z|z
   ·exact .inl (by simp;omega)
   ·exact .inr (by simp;omega)
  ·simp only[List.mem_cons,List.not_mem_nil,or_false,not_or]at nb;exact kp b o nb.1 nb.2.2.1 nb.2.2.2.1 nb.2.2.2.2 e
 self:=λ_ _ _ _ _ st h=>wpAny_pyIter_zip st.1 h
theorem zf(n:Nat):Zf (n+4) (n+2) (n+3) n (n+1):=by
 refine⟨?_,?_,?_,?_,?_,?_,?_,?_,?_,?_⟩<;>intro h<;>simp at h<;>omega
section
variable{X:Cx}
def O5(K:Wf)(ta:TA):TI:=λσ H R=>ta σ H λvs H1=>∃a b xs ys,vs=[.ref a,.ref b]/\aD K H1 a xs/\aD K H1 b ys/\R (Q0 K a b) H1
theorem Lc(hg:Gl X "zip")(hm:X.mg "zip" = none)(ha:PA X [a,b] ta)(hs:starEach [a,b] X.env=[(false,eval a X.env),(false,eval b X.env)]:=by rfl)(hs2:starEach [b] X.env=[(false,eval b X.env)]:=by rfl):
  PI X (.Tuple elts x1 tp) (.Call (.Name "zip" p) [a,b] [] pos) (O5 X.K ta):=by
 intro pins s σ H R I h;refine Call_ (iy I hg hm boot_zip (PyProof.Rows.callWith_type1 (bE (ha pos pins s σ H _ I h) λus s1 ⟨vs,H1,I1,r1,q1⟩=>?_) (by rw[hs,hs2]) (by rw[hs2];rfl)));obtain⟨l1,l2,xs,ys,e,h1,h2,q⟩:=q1;subst e;cases r1 with
 |cons r rr=>
  cases rr with
  |cons r' rr=>
   cases rr;cases r;cases r';obtain⟨its1,rv1,p1,_⟩:=I1.list h1;obtain⟨its2,rv2,p2,_⟩:=I1.list h2;refine call_zip_2 p1.isList p2.isList λh' z TI TO j1 j2 sz kp=>?_;have I2:=I1.kept (h':=h') (t':=s1.toks) kp;refine wpAny_pyIter_zip z ?_;refine⟨_,_,_,_,H1,rfl,I2,G_ l1 l2 (zf s1.heap.objs.size),⟨z,TI,⟨_,_,TO⟩,j1,j2⟩,λb hb=>?_,q⟩;have lb:s1.heap.objs.size<=b:=by
    simp only[List.mem_cons,List.not_mem_nil,or_false]at hb;rcases hb with rfl|rfl|rfl|rfl|rfl
    ·exact Nm _ 4
    ·exact Nm _ 2
    ·exact Nm _ 3
    ·exact bC _
    ·exact Nm _ 1
   exact I1.sP lb (I1.aV.fresh lb)
end
noncomputable def Af(K:Wf)(g:TG)(tt:TT)(te:TE)(σ0:St)(Q:VK):List V->Hp->Prop:=λvs H1=>∃a b xs ys,vs=[.ref a,.ref b]/\aD K H1 a xs/\aD K H1 b ys/\nK g tt te σ0 Q (Q0 K a b) H1
section
variable{K:Wf}{k:Nat}{fm:List Nat}{te:TE}{ta:TA}{g:TG}{tt:TT}{σ σ0:St}{H H1:Hp}{Q:VK}
theorem M0:iT k fm (O5 K ta) g tt te σ H Q=ta σ H (Af K g tt te (d3 k fm σ) Q):=rfl
theorem Af.of(hz:xs.length<sizeLine)(he:ys.length=xs.length)(hx:aD K H1 a xs)(hy:aD K H1 b ys)(Pv:Addr->Nat->List V->Hp->Prop)(h0:∀D,H1 D=none->Pv D 0 [] (upd H1 D (.lst [])))
  (hl:∀D i zs H',H1 D=none->i<=xs.length->Pv D i zs H'->aD K H' a xs/\aD K H' b ys/\H' D=some (.lst zs)/\zs.length<=i)
  (hs:∀D i x y zs H' q,H1 D=none->xs[i]?=some x->ys[i]?=some y->Pv D i zs H'->H' q=none->g (.ref q) σ0 (upd H' q (.tup [x,y])) λσ3 H4=>Ext σ0 σ3/\tt σ3 H4 λb H5=>if b=true then te σ3 H5 λy H6=>H6 D=some (.lst zs)/\Pv D (i+1) (zs++[y]) (upd H6 D (.lst (zs++[y]))) else Pv D (i+1) zs H5)
  (hd:∀D zs H',H1 D=none->Pv D xs.length zs H'->Q (.ref D) H'):Af K g tt te σ0 Q [.ref a,.ref b] H1:=by
 refine⟨a,b,xs,ys,rfl,hx,hy,λD hD=>⟨λi m zs H=>m=xs.length - i/\i<=xs.length/\Pv D i zs H,⟨xs.length,by simp,Nat.zero_le _,h0 D hD⟩,?_⟩⟩;rintro i m zs H2 ⟨rfl,hi,p⟩;obtain⟨l0,l0',l1,l2⟩:=hl D i zs H2 hD hi p;refine⟨l1,by omega,?_⟩;by_cases hlt:i<xs.length
 ·have hlt':i<ys.length:=by omega
  refine .inr ⟨⟨xs,ys,xs[i],ys[i],l0,l0',by simp[hlt],by simp[hlt']⟩,Pv D (i+1),λzs' H' p'=>⟨_,(by omega:xs.length - (i+1)<xs.length - i),rfl,hlt,p'⟩,λx H3 y=>?_⟩;obtain⟨q,u,v,rfl,nq,y1,y2,rfl⟩:=y;exact hs D i u v zs H2 q hD (y1 xs l0) (y2 ys l0') p nq
 ·have e:i=xs.length:=by omega
  subst e;exact .inl ⟨⟨xs,ys,l0,l0',.inl (bC _)⟩,hd D zs H2 hD p⟩
end
def K_(tk tv:TE):TE:=λσ H Q=>∀p,H p=none->tk σ (upd H p (.dT [])) λx H1=>tv σ H1 λy H2=>H2 p=some (.dT [])/\∃b ks,x=.ref b/\H2 b=some (.tup (ks.map kV))/\Q (.ref p) (upd H2 p (.dT [(ks,y)]))
theorem Cj(hu:X.A.units+1<cLine)(hk:PE X k tk)(hv:PE X v tv):PE X (.Dict [some k] [v] pos) (K_ tk tv):=by
 intro pins s σ H Q I q;have hn:=I.aV.fresh (bC s.heap.objs.size);have I1:=I.laid (a:=s.heap.objs.size) (o:=.dT []) (h':=s.heap.push { cls:=.type "dict", data:=.dict #[] }) (t':=s.toks) (λ_ _ q=>cM _ q) (bC _) (uZ s.heap I.big);refine wpAny_Dict_any rfl rfl (by intro z;cases z) (by show 1<=15;decide) ?_;refine pairTrees_cons_walk (bE (hk pins _ σ _ _ I1 (q _ hn)) λu s1 ⟨x,H1,J1,rx,q1⟩=>bE (hv pins s1 σ H1 _ J1 q1) λw2 s2 ⟨y,H2,I2,ry,e,b,ks,ex,eb,q2⟩=>pairTrees_nil_walk ?_);subst ex;cases rx;obtain⟨z,hd,xs,rel,dd⟩:=GN I2.aV e;have h0:xs.length=0:=by rw[<-Paired.length rel];rfl
 show wpAny _ _ (forIn [(Value.ref b,w2)] PUnit.unit λ(x:Value×Value) (_:PUnit)=>(do dictSet s.heap.objs.size x.1 x.2;pure (ForInStep.yield PUnit.unit):Sem (ForInStep PUnit))) _ _ _;rw[List.forIn_cons];refine au (au (wpAny_dictSet_heap (hsz:=by rw[h0];exact fe _) (knd:=tupleKind (aW X.prog X.w)) (show X.A.units<cLine by omega) (eZ I2.aV eb) dd λh' dd' hs=>aP ?_));show wpAny _ _ (forIn [] PUnit.unit _) _ _ _;rw[List.forIn_nil];refine aP ⟨.ref s.heap.objs.size,_,?_,rfl,q2⟩;obtain⟨q',es,ep,hq,h2,h3,h4,_,h5⟩:=dd';refine g6 I2 (by rw[e];exact True.intro) hs ⟨q',hq⟩ ⟨by rw[sizeLine_eq];exact(by decide:(1:Nat)<=16777216),hd,_,(rel.put ks eb ry).keeps λc ys ec=>?_,q',es,ep,hq,h2,h3,h4,h5⟩;rw[ae (bD ec e (λz=>nomatch z))];exact ec
section
variable{X:Cx}
end
section
variable{K:Wf}{te:TE}{ta:TA}{g:TG}{tb:TS}{D:Ends}{σ:St}{H:Hp}
end
theorem Inv.freeze(I:Inv X pins σ H s)(e:H a=some (.dK af)):
  ∃(o:Obj) (vs:List (Key×Value)) (ep:Nat),s.heap.get? a=some o/\(a == sysModules)=false/\KV af vs/\KdkAt (aW X.prog X.w) o vs ep/\Inv X pins σ (upd H a (.d9 o (.dK af))) s:=by
 obtain⟨z,hS,vs,rel,dd⟩:=nh I.aV e;obtain⟨ep,o,es,ho,r⟩:=dd.dictAt;refine⟨o,vs,ep,ho,hS,rel,⟨es,r⟩,?_⟩;have ne:∀{b:Addr}{u:HO},H b=some u->u≠.dK af->b≠a:=λ{b u} q n z=>by rw[z,e]at q;cases q;exact n rfl
 refine I.step (h':=s.heap) (g':=s.gens) (d':=s.drawn) (t':=s.toks) (ch:=[]) (λ_ z=>nomatch z) (λb o _ _ _ q _=>q) (λb o _ _ _ q _=>⟨o.slots,q⟩) (λb o _ _ n=>?_) (λb o _ q=>⟨o,q⟩)
  (λb xs q=>by rw[ae (ne q (λz=>nomatch z))];exact q) (λb o u q=>by rw[ae (ne q (λz=>nomatch z))];exact q) (λb ps q=>⟨#[],by rw[ae (ne q (λz=>nomatch z)),q];simp⟩) (λm hm=>hm) (λb u q=>?_) I.bare
 ·rw[ae (λz=>by rw[z,e]at n;cases n)];exact n
 ·by_cases z:b=a
  ·subst z;rw[aE]at q;cases q;exact⟨ho,I.aV b _ e⟩
  ·rw[ae z]at q;refine(I.aV b u q).iY (λc v _ r=>r) (λc r=>?_) λc xs r=>?_
   ·rw[ae (ne r (λz=>nomatch z))];exact r
   ·rw[ae (ne r (λz=>nomatch z))];exact r
noncomputable def QB(a:Addr)(o:Obj)(af:List (Key×V)):It:=
 ⟨λi H=>H a = some (.d9 o (.dK af)) /\ ∃ p, af[i]? = some p,
  λi H v H'=>H'=H/\∃p,af[i]?=some p/\v=kV p.1,
  λi H=>H a=some (.d9 o (.dK af))/\af.length<=i⟩
theorem KV.len(h:KV af vs):af.length=vs.length:=Paired.length h
theorem BW{P:Program}{w:World}{K:Wf}{tg:Expr}{a it:Addr}{o:Obj}{af:List (Key×V)}{vs:List (Key×Value)}{ep:Nat}(rel:KV af vs)(kd:KdkAt (aW P w) o vs ep):
  Turn P w K tg (QB a o af) [it] it (λi h=>h.IsKeyIter it a i vs.length ep) where
 mem:=by simp
 obj:=λi h st b hb=>by
  have e:b=it:=by simpa using hb
  subst e;obtain⟨o,e,c,d⟩:=st;exact⟨o,e,λv z=>by rw[d]at z;cases z⟩
 keep:=λi h h' st k=>st.at λo e=>k it (by simp) o e
 item:=by
  intro X hP hw hK hc i pins s σ H E I hf st hg;subst hP hw hK;obtain⟨hH,p,hp⟩:=hg;obtain⟨ho,_⟩:=(show a6 X.prog X.w H s.heap a (.d9 o (.dK af)) from I.aV a _ hH)
  have hl:=rel.len;have hil:=(ig.mp hp).1;have hv:vs[i]?=some vs[i]:=jo (by omega);have hk:vs[i].1=p.1:=by
   have e1:(af.map (·.1))[i]?=some p.1:=by rw[gh,hp];rfl
   rw[x_ rel,gh,hv]at e1;exact Option.some.inj e1
  obtain⟨f0,f1,f2,f3,f4,f5⟩:=hf it (by simp);refine wpAny_pyNext_dict_item st (KdkAt.dictAt kd ho) (k:=vs[i].1) (v:=vs[i].2) hv λkey h' hkey st' sb=>?_;have I1:Inv X pins σ H { s with heap:=h' }:=I.turned (t':=s.toks) (λb o hb e=>(sb.2 b hb).trans e) f0 f1 f3 f4 f5;obtain⟨oi,e,c,d⟩:=id st';rw[hk]at hkey;have rk:RelV (kV p.1) key:=by
   rcases mI hkey with ⟨n,t,e1,rfl⟩|⟨x,t,e1,rfl⟩
   ·rw[e1];exact⟨t,rfl⟩
   ·rw[e1];exact⟨t,rfl⟩
  exact⟨key,rfl,nT (s:={ s with heap:=h' }) e c d (by decide) ⟨kV p.1,H,I1,rk,⟨rfl,p,hp,rfl⟩,st',λb hb=>(hf b hb).1⟩⟩
 done:=by
  intro X hP hw hK hc i pins s σ H E I hf st hg;subst hP hw hK;obtain⟨hH,hi⟩:=hg;obtain⟨ho,_⟩:=(show a6 X.prog X.w H s.heap a (.d9 o (.dK af)) from I.aV a _ hH)
  obtain⟨f0,f1,f2,f3,f4,f5⟩:=hf it (by simp);have hl:=rel.len;exact wpAny_pyNext_dict_end (I.ok.hd hc) st (KdkAt.dictAt kd ho) (by simp;omega) λh' eb=>⟨rfl,I.turned (t':=s.toks) (λb o hb e=>eb b o hb e) f0 f1 f3 f4 f5⟩
 self:=λ_ _ _ _ _ st h=>wpAny_pyIter_keyiter st h
section
variable{X:Cx}
def GJ(te:TE):TI:=λσ H R=>te σ H λx H1=>∃a af,x=.ref a/\H1 a=some (.dK af)/\∀o,R (QB a o af) (upd H1 a (.d9 o (.dK af)))
theorem oO(hl:PE X l tl):PI X tg l (GJ tl):=by
 intro pins s σ H R I h;refine bE (hl pins s σ H _ I h) λv s1 ⟨x,H1,I1,r1,q1⟩=>?_;obtain⟨a,af,e,hq,q⟩:=q1;subst e;cases r1;obtain⟨o,vs,ep,ho,hS,rel,kd,I2⟩:=I1.freeze hq;refine wpAny_pyIter_dict hS (KdkAt.dictAt kd ho) ?_;refine⟨s1.heap.objs.size,[s1.heap.objs.size],_,_,_,rfl,I2.kept (t':=s1.toks) λb o e=>cM _ e,BW rel kd,⟨_,gL _ rfl,rfl,rfl⟩,λb hb=>?_,q o⟩;have e:b=s1.heap.objs.size:=by simpa using hb
 subst e;exact I2.sP (bC _) (I2.aV.fresh (bC _))
end
def Cr(g:TG)(tb:TS)(D:Ends)(σ:St):VK:=λx H1=>∃a af,x=.ref a/\H1 a=some (.dK af)/\∀o,uY g tb D σ (QB a o af) (upd H1 a (.d9 o (.dK af)))
section
variable{te:TE}{g:TG}{tb:TS}{D:Ends}{σ:St}{H:Hp}
theorem MX:mJ (GJ te) g tb D σ H=te σ H (Cr g tb D σ):=rfl
theorem Cr.of(hd:H a=some (.dK af))(Pv:Obj->Nat->St->Hp->Prop)(h0:∀o,Pv o 0 σ (upd H a (.d9 o (.dK af))))(hl:∀o i σ H,i<=af.length->Pv o i σ H->H a=some (.d9 o (.dK af)))
  (hs:∀o i p σ H,af[i]?=some p->Pv o i σ H->g (kV p.1) σ H λσ2 H2=>tb { D with nx:=Pv o (i+1),ct:=Pv o (i+1),bk:=D.nx } σ2 H2) (he:∀o σ H,Pv o af.length σ H->D.nx σ H):Cr g tb D σ (.ref a) H:=by
 refine⟨a,af,rfl,hd,λo=>⟨λi m σ H=>m=af.length - i/\i<=af.length/\Pv o i σ H,⟨af.length,by simp,Nat.zero_le _,h0 o⟩,?_⟩⟩;rintro i m σ H ⟨rfl,hi,p⟩;have q:=hl o i σ H hi p;by_cases hlt:i<af.length
 ·refine .inr ⟨⟨q,af[i],by simp[hlt]⟩,Pv o (i+1),λσ' H' p'=>⟨af.length - (i+1),by omega,rfl,hlt,p'⟩,λx H' y=>?_⟩;obtain⟨rfl,u,hu,rfl⟩:=y;exact hs o i u σ _ hu p
 ·have e:i=af.length:=by omega
  subst e;exact .inl ⟨⟨q,bC _⟩,he o σ H p⟩
end
section
variable{X:Cx}
end
section
variable{M:Model}{A:Around}{E:Vs}{s:Shared}{env:Env}
end
section
variable{prog:Program}{w:World}{A:Around}{E:Vs}{s:Shared}
end
section
variable{prog:Program}{w:World}{A:Around}{E:Vs}{s:Shared}
end
section
variable{prog:Program}{w:World}{A:Around}{E:Vs}{s:Shared}
end
section
variable{X:Cx}
end
section
variable{K:Wf}{te:TE}{ta:TA}{g:TG}{tb:TS}{D:Ends}{σ:St}{H:Hp}
end
section
variable{X:Cx}{o e:Expr}{ty:TE}{a:Addr}{af:List (Key×V)}{apos cpos:Pos}
end
section
variable{K:Wf}{te:TE}{g:TG}{tt:TT}{σ0:St}{H1:Hp}{Q:VK}
end
section
variable{M:Model}{A:Around}{E:Vs}{s:Shared}
end
section
variable{X:Cx}{tg:Expr}{E:XK}
end
end L2
namespace L2
open PySem
theorem mz(t:SetTable)(n:Nat):(t.orStandIn n).led=t.led:=by
 unfold SetTable.orStandIn;split<;>rfl
theorem xH(t:SetTable)(es:Array (Int×Value))(h:Int)(x:Value):(layNew t es h x).2.1.led=t.led:=by
 unfold layNew;split
 ·rename_i slot wd _;exact(mz (t.put slot).1 _)
 ·rfl
theorem D7(h:SetTable.laid m f v b c hs=some (t',o)):t'.led=b/\t'.plain=c:=by
 unfold SetTable.laid at h;cases hl:SetTable.layClean m hs with
 |none=>rw[hl]at h;cases h
 |some ow=>rw[hl]at h;cases h;exact⟨rfl,rfl⟩
theorem Bb(t:SetTable)(es:Array (Int×Value))(n:Nat):(relayAll t es n).2.1.led=t.led/\((relayAll t es n).2.1.plain=true->t.plain=true):=by
 unfold relayAll;split
 ·rename_i t' o hr;have z:=D7 hr;dsimp only;split
  ·exact⟨z.1,λq=>z.2▸q⟩
  ·exact⟨rfl,λq=>(nomatch q)⟩
 ·exact⟨rfl,λq=>(nomatch q)⟩
noncomputable def nH(w:World):Bool:=w.params.followText "set-order"
noncomputable def txtOf:Value->Str
 |.str x _=>x
 |_=>Str.empty
def hV(w:World)(h:Heap)(a:Addr)(L:List Str):Prop:=
 ∃(es:Array (Int×Value)) (ep:Nat) (t:SetTable),h.get? a=some { cls:=.type "set", dict:=none,data:=.set es ep t,slots:=#[] }/\
  (∀e∈es.toList,∃y k,e=(hashStr w y,Value.str y k))/\es.toList.map (λe=>txtOf e.2)=L/\es.size<scanBound/\t.fits es.size=true/\t.led = !nH w/\(t.plain=true->L=[])
section
variable{prog:Program}{w:World}{A:Around}{E:Vs}{s:Shared}{a:Addr}{L:List Str}
theorem lh(h:∀e∈es,∃y k,e=(hashStr w y,Value.str y k)):ElemsOf (PySem.strKind prog w) es:=λe he=>by
 obtain⟨y,k,rfl⟩:=h e he;exact⟨⟨y,by simp[PySem.strKind,Value.isStrOf],rfl⟩,rfl⟩
theorem kh{es:List (Int×Value)}(h:∀e∈es,∃y k,e=(hashStr w y,Value.str y k))(x:Str):x∈es.map (λe=>txtOf e.2)↔∃e∈es,(PySem.strKind prog w).is x e.2=true:=by
 constructor
 ·intro hx;obtain⟨e,he,rfl⟩:=aM.mp hx;obtain⟨y,k,rfl⟩:=h e he;exact⟨_,he,by simp[PySem.strKind,Value.isStrOf,txtOf]⟩
 ·rintro⟨e,he,hi⟩;obtain⟨y,k,rfl⟩:=h e he;obtain⟨t,z⟩:=Value.isStrOf_shape (x:=x) (v:=Value.str y k) hi;cases z;exact aM.mpr ⟨_,he,rfl⟩
theorem Fn(S:hV w s.heap a L)(hz:L.length+1<scanBound)
  (h:∀h' L' b,Heap.SameBut a s.heap h'->hV w h' a L'->L'.Perm (if x∈L then L else L++[x])->Q b { s with heap:=h' }):
  wpAny (model prog w) A (setAddHashed a (.str x k) (hashStr w x)) Q E s:=by
 obtain⟨es,ep,t,ho,he,hL,hb,hf,hl,hp⟩:=id S;have hel:=lh (prog:=prog) he;have hx:(PySem.strKind prog w).is x (.str x k)=true:=by simp[PySem.strKind,Value.isStrOf]
 have hn:es.size=L.length:=by rw[<-hL,az,BX]
 unfold setAddHashed setAddHashedIn;refine v9 (au (Ir ho rfl hf ?_));dsimp only;rw[byScan_of (knd:=PySem.strKind prog w) rfl hb hel,if_pos rfl];unfold setAddByScan;refine au (au (FR (au (wpAny_setScan_of (knd:=PySem.strKind prog w) (k:=x) hx ho rfl hf hel ?_))));have gw:∀(b:Bool) {s1:Shared}{Q':Unit->Shared->Prop},Q' () s1->wpAny (model prog w) A (match b with | true=>rule "set.scan.the-table-gave-way" |false=>pure ()) Q' E s1:=λb s1 Q' q=>by
  cases b
  ·exact aP q
  ·exact FR q
 cases hr:List.findIdx? (λe=>(PySem.strKind prog w).is x e.2) es.toList with
 |some j=>
  dsimp only;have hm:x∈L:=by
   obtain⟨hj,pj,_⟩:=List.findIdx?_eq_some_iff_getElem.mp hr;rw[<-hL];exact(kh he x).mpr ⟨_,uJ hj,pj⟩
  exact aP (aP (h s.heap L _ (Heap.SameBut.refl a s.heap) S (by rw[if_pos hm])))
 |none=>
  dsimp only;have hm:x∉L:=λhm=>by
   rw[<-hL]at hm;obtain⟨e,m,z⟩:=(kh (prog:=prog) he x).mp hm;have:=List.findIdx?_eq_none_iff.mp hr e m;rw[z]at this;cases this
  have lp:=layNew_perm t es (hashStr w x) (.str x k);have lf:=layNew_fits t es (hashStr w x) (.str x k);have ll:=xH t es (hashStr w x) (.str x k);generalize layNew t es (hashStr w x) (.str x k)=R at lp lf ll ⊢;obtain⟨e1,t1,wd,gv⟩:=R;dsimp only at lp lf ll ⊢;rw[Array.toList_push]at lp;refine au (gw _ ?_);have he1:∀e∈e1.toList,∃y k,e=(hashStr w y,Value.str y k):=λe m=>by
   rcases bF.mp (lp.mem_iff.mp m) with m|m
   ·exact he e m
   ·exact⟨x,k,bX.mp m⟩
  have hp1:(e1.toList.map (λe=>txtOf e.2)).Perm (if x∈L then L else L++[x]):=by
   rw[if_neg hm,<-hL];have z:=lp.map (λe=>txtOf e.2);rw[aY]at z;exact z
  have hs1:e1.size=L.length+1:=by
   rw[<-BX,lp.length_eq,cW,BX,hn];rfl
  have hb1:e1.size<scanBound:=by rw[hs1];exact hz
  have tail:∀t2:SetTable,t2.fits e1.size=true->t2.led=(!nH w)->t2.plain=false->
    wpAny (model prog w) A (do
     storeSet a e1 t2
     if (!wd&&t2.tooFull)=true then do
       (match (relayAll t2 e1 (SetTable.grown e1.size)).2.2 with | true=>rule "set.scan.the-table-gave-way" |false=>pure ())
       storeSet a (relayAll t2 e1 (SetTable.grown e1.size)).1 (relayAll t2 e1 (SetTable.grown e1.size)).2.1
       pure (some true)
      else pure (some true)) (λ(r:Option Bool) s'=>wpAny (model prog w) A (match r with | some b=>pure b | none=>setAddHashedIn a (.str x k) (hashStr w x) 99999) Q E s') E s:=by
   intro t2 f2 l2 p2;have u1:=(SetOf_store (knd:=PySem.strKind prog w) (S':=λy=>decide (y∈e1.toList.map (λe=>txtOf e.2))) (h:=s.heap) ho ⟨rfl,rfl,rfl⟩ rfl (lh he1) (λy=>by rw[decide_eq_true_eq];exact kh he1 y) hb1 f2).1;have sb1:=Heap.SameBut.update s.heap a (Obj.putSet e1 t2);refine au (wpAny_storeSet_of ho rfl ?_ (fits_of_scanBound hb1));have S1:hV w (s.heap.update a (Obj.putSet e1 t2)) a (e1.toList.map (λe=>txtOf e.2)):=⟨e1,ep+1,t2,u1,he1,rfl,hb1,f2,l2,λq=>by rw[p2]at q;cases q⟩
   split
   ·have rp:=relayAll_perm t2 e1 (SetTable.grown e1.size);have rf:=relayAll_fits t2 e1 (SetTable.grown e1.size);have rl:=Bb t2 e1 (SetTable.grown e1.size);generalize relayAll t2 e1 (SetTable.grown e1.size)=R at rp rf rl ⊢;obtain⟨e2,t3,g2⟩:=R;dsimp only at rp rf rl ⊢;have he2:∀e∈e2.toList,∃y k,e=(hashStr w y,Value.str y k):=λe m=>he1 e (rp.mem_iff.mp m);have hs2:e2.size=e1.size:=by rw[<-BX,rp.length_eq,BX]
    have hb2:e2.size<scanBound:=by rw[hs2];exact hb1
    refine au (gw _ ?_);refine au (wpAny_storeSet_of u1 rfl ?_ (fits_of_scanBound hb2));have u2:=(SetOf_store (knd:=PySem.strKind prog w) (S':=λy=>decide (y∈e2.toList.map (λe=>txtOf e.2))) u1 ⟨rfl,rfl,rfl⟩ rfl (lh he2) (λy=>by rw[decide_eq_true_eq];exact kh he2 y) hb2 rf).1;refine aP (aP (h _ (e2.toList.map (λe=>txtOf e.2)) _ (sb1.trans (Heap.SameBut.update _ a _)) ⟨e2,_,t3,u2,he2,rfl,hb2,rf,rl.1.trans l2,λq=>?_⟩ ((rp.map _).trans hp1)));rw[rl.2 q]at p2;cases p2
   ·exact aP (aP (h _ _ _ sb1 S1 hp1))
  rw[hl]at ll;cases pl:t1.plain with
  |true=>
   rw[if_pos rfl];refine au (wpAny_of_eq (hashByValue_scannable 8 rfl) ?_);exact tail { t1 with plain:=false } (SetTable.fits_plain_off lf) ll rfl
  |false=>
   rw[if_neg (by simp)];refine au (aP ?_);exact tail t1 lf ll pl
end
end L2
namespace L2
open PySem
theorem j9:Slot "set_iterator" "__next__" "set_iterator.__next__" := .of (owner := "set_iterator") (n := "__next__") (by rw[typeLookup_type,builtinLookup_eq_fast];kernel_rfl) (by decide +kernel) (by decide +kernel) (by decide +kernel) (by first|exact .inl (by decide +kernel)|exact .inr (by decide +kernel)) (by rw[isSubtype_type];kernel_rfl)
theorem dE:entryFor table "set_iterator.__next__" = some Builtin.«set_iterator.__next__»:=entryFor_of_tree (by kernel_rfl)
theorem eg(a:Value):argsOk "set_iterator.__next__" ⟨[a],[]⟩:=by unfold argsOk;kernel_rfl
theorem o_:entryFor table "set.__iter__" = some Builtin.«frozenset.__iter__»:=entryFor_alias (id' := "frozenset.__iter__") (by kernel_rfl) rfl (by decide +kernel) (by kernel_rfl)
noncomputable def B0(f:Value)(i:Nat)(a:Value)(n ep:Nat):Obj:={ cls:=.type "set_iterator", data:=.fields #[f,.int i 0,a,.int n 0,.int ep 0] }
section
variable{prog:Program}{w:World}{A:Around}{E:Vs}{s:Shared}{it a:Addr}{i n ep slot next:Nat}{es:Array (Int×Value)}{t:SetTable}{Q:Option Value->Shared->Prop}{x:Value}
theorem nU(ho:s.heap.get? it=some (B0 (.int slot 0) i (.ref a) n ep))(hs:s.heap.get? a=some { cls:=.type "set", dict:=none,data:=.set es ep t,slots:=#[] })(hf:t.fits es.size=true)(hn:es.size=n)
  (hx:∀(A:Around) (E:Vs) (Q':Option (Value×Nat)->Shared->Prop),Q' (some (x,next)) s->wpAny (model prog w) A (setNext a slot i ep) Q' E s)
  (hQ:∀h',h'.get? it=some (B0 (.int next 0) (i+1) (.ref a) n ep)->Heap.SameBut it s.heap h'->Q (some x) { s with heap:=h' }):wpAny (model prog w) A (pyNext (.ref it)) Q E s:=by
 have hT:s.TypeIs (.ref it) "set_iterator" := ⟨_,ho,rfl⟩
 unfold pyNext;refine au (JQ (Kw (name:=Str.ofString "__next__") hT j9 (B1 j9 hT dE ?_ (eg _))));unfold Builtin.«set_iterator.__next__»;refine au (aP (au (Ni ho rfl ?_)));dsimp only;refine au (NZ hs rfl hf ?_);rw[if_neg (by rw[hn];simp)];refine au (hx _ _ _ ?_);dsimp only;have u1:(s.heap.update it (Obj.mapFields (·.setIfInBounds 0 (rawInt next)))).get? it=some (B0 (.int next 0) i (.ref a) n ep):=JU (Obj.mapFields (·.setIfInBounds 0 (rawInt next))) ho rfl;refine au (MV ho rfl (by simp) (wpAny_bind (wpAny_setField (s:={ s with heap:=s.heap.update it (Obj.mapFields (·.setIfInBounds 0 (rawInt next))) }) u1 rfl (by simp) (wpAny_pure ⟨x,rfl,wpAny_pure (hQ _ ?_ ((Heap.SameBut.update ..).trans (Heap.SameBut.update ..)))⟩))));exact JU (Obj.mapFields (·.setIfInBounds 1 (rawInt ((i:Int)+1)))) u1 rfl
theorem vf(hh:A.handled=none){h0:Heap}(hQ:∀h',Heap.ExtBut it h0 h'->Q none { s with heap:=h' }):
  wpAny (model prog w) A.in1 (do let e <-newExc (Value.type "StopIteration") [];raiseNew e) (λ(fin:PySem.Fin) s'=>∃v,fin=Fin.done (Flow.ret v)/\wpAny (model prog w) A (pure (some v)) Q E s')
  (λe s'=>wpAny (model prog w) A (do let b <-isInstance e (Value.type "StopIteration");if b=true then pure none else throw e) Q E s') { s with heap:=h0 }:=by
 refine au ?_;simp only[newExc,newTuple];refine au (yZ ?_ (by size_fits));refine au (m:=firstArgMember _ _) (wpAny_of_eq (a:=Value.none) (by first|rfl|(simp only[firstArgMember];rfl)) (wpAny_newObj_type ?_ (by size_fits)));simp only[raiseNew];refine au (wpAny_handled ?_);rw[show A.in1.handled=none from hh];refine au (aP (wpAny_throw ?_));refine au (wpAny_isInstance (T := "StopIteration") ⟨_,gL _ rfl,rfl⟩ isSubtype_stop ?_);rw[if_pos rfl];refine aP (hQ _ λb o hb e=>?_);exact cM _ (cM _ e)
theorem mZ(hh:A.handled=none)(ho:s.heap.get? it=some (B0 (.int slot 0) i (.ref a) n ep))(hs:s.heap.get? a=some { cls:=.type "set", dict:=none,data:=.set es ep t,slots:=#[] })(hf:t.fits es.size=true)(hn:es.size=n)
  (hx:∀(A:Around) (E:Vs) (Q':Option (Value×Nat)->Shared->Prop),Q' none s->wpAny (model prog w) A (setNext a slot i ep) Q' E s)
  (hQ:∀h',Heap.ExtBut it s.heap h'->Q none { s with heap:=h' }):wpAny (model prog w) A (pyNext (.ref it)) Q E s:=by
 have hT:s.TypeIs (.ref it) "set_iterator" := ⟨_,ho,rfl⟩
 unfold pyNext;refine au (JQ (Kw (name:=Str.ofString "__next__") hT j9 (B1 j9 hT dE ?_ (eg _))));unfold Builtin.«set_iterator.__next__»;refine au (aP (au (Ni ho rfl ?_)));dsimp only;refine au (NZ hs rfl hf ?_);rw[if_neg (by rw[hn];simp)];refine au (hx _ _ _ ?_);dsimp only;refine au (MV ho rfl (by simp) ?_);exact vf hh λh' e=>hQ h' λb o hb z=>e b o hb (((Heap.SameBut.update s.heap it _).2 b hb).trans z)
theorem xx{p:Addr}{ps:List Nat}{j:Nat}{hv:Int}(ho:s.heap.get? it=some (B0 (.ref p) i (.ref a) n ep))(hs:s.heap.get? a=some { cls:=.type "set", dict:=none,data:=.set es ep t,slots:=#[] })(hf:t.fits es.size=true)(hn:es.size=n)
  (hp:s.heap.get? p=some { cls:=.type "tuple", data:=.seq (List.toArray (ps.map λj=>rawInt (j:Nat))) 0 }) (hj:ps[i]?=some j) (hx:es[j]?=some (hv,x))
  (hQ:∀h',h'.get? it=some (B0 (.ref p) (i+1) (.ref a) n ep)->Heap.SameBut it s.heap h'->Q (some x) { s with heap:=h' }):wpAny (model prog w) A (pyNext (.ref it)) Q E s:=by
 have hT:s.TypeIs (.ref it) "set_iterator" := ⟨_,ho,rfl⟩
 unfold pyNext;refine au (JQ (Kw (name:=Str.ofString "__next__") hT j9 (B1 j9 hT dE ?_ (eg _))));unfold Builtin.«set_iterator.__next__»;refine au (aP (au (Ni ho rfl ?_)));dsimp only;refine au (NZ hs rfl hf ?_);rw[if_neg (by rw[hn];simp)];refine au (wpAny_seqItems hp rfl ?_);have e1:(List.map (λj=>rawInt (j:Nat)) ps).toArray[(i:Int).toNat]?=some (.int (j:Nat) 0):=by
  rw[Jz,Pd,gh,hj];rfl
 dsimp only;rw[e1];dsimp only;unfold setNextDrawn;refine au (au (Ir hs rfl hf ?_));dsimp only;rw[Jz,Jz,if_neg (by simp),hx];refine aP ?_;refine au (MV ho rfl (by simp) (wpAny_pure ⟨x,rfl,wpAny_pure (hQ _ ?_ (Heap.SameBut.update ..))⟩));exact JU (Obj.mapFields (·.setIfInBounds 1 (rawInt ((i:Int)+1)))) ho rfl
theorem k_(hh:A.handled=none){p:Addr}{ps:List Nat}(ho:s.heap.get? it=some (B0 (.ref p) i (.ref a) n ep))(hs:s.heap.get? a=some { cls:=.type "set", dict:=none,data:=.set es ep t,slots:=#[] })(hf:t.fits es.size=true)(hn:es.size=n)
  (hp:s.heap.get? p=some { cls:=.type "tuple", data:=.seq (List.toArray (ps.map λj=>rawInt (j:Nat))) 0 }) (hj:ps[i]?=none)
  (hQ:∀h',Heap.ExtBut it s.heap h'->Q none { s with heap:=h' }):wpAny (model prog w) A (pyNext (.ref it)) Q E s:=by
 have hT:s.TypeIs (.ref it) "set_iterator" := ⟨_,ho,rfl⟩
 unfold pyNext;refine au (JQ (Kw (name:=Str.ofString "__next__") hT j9 (B1 j9 hT dE ?_ (eg _))));unfold Builtin.«set_iterator.__next__»;refine au (aP (au (Ni ho rfl ?_)));dsimp only;refine au (NZ hs rfl hf ?_);rw[if_neg (by rw[hn];simp)];refine au (wpAny_seqItems hp rfl ?_);have e1:(List.map (λj=>rawInt (j:Nat)) ps).toArray[(i:Int).toNat]?=none:=by
  rw[Jz,Pd,gh,hj];rfl
 dsimp only;rw[e1];dsimp only;have u1:(s.heap.update it (Obj.mapFields (·.setIfInBounds 0 (rawInt 0)))).get? it=some (B0 (.int 0 0) i (.ref a) n ep):=JU (Obj.mapFields (·.setIfInBounds 0 (rawInt 0))) ho rfl;refine au (MV ho rfl (by simp) (wpAny_bind (wpAny_setField (s:={ s with heap:=s.heap.update it (Obj.mapFields (·.setIfInBounds 0 (rawInt 0))) }) u1 rfl (by simp) ?_)));exact vf hh λh' e=>hQ h' λb o hb z=>e b o hb ((((Heap.SameBut.update s.heap it _).trans (Heap.SameBut.update _ it _)).2 b hb).trans z)
end
end L2
namespace L2
open PySem
theorem iN:Slot "set_iterator" "__iter__" "set_iterator.__iter__" := .of (owner := "set_iterator") (n := "__iter__") (by rw[typeLookup_type,builtinLookup_eq_fast];kernel_rfl) (by decide +kernel) (by decide +kernel) (by decide +kernel) (by first|exact .inl (by decide +kernel)|exact .inr (by decide +kernel)) (by rw[isSubtype_type];kernel_rfl)
theorem mD:entryFor table "set_iterator.__iter__" = some Builtin.«dict_keyiterator.__iter__»:=entryFor_alias (id' := "dict_keyiterator.__iter__") (by kernel_rfl) rfl (by decide +kernel) (by kernel_rfl)
theorem r9(a:Value):argsOk "set_iterator.__iter__" ⟨[a],[]⟩:=by unfold argsOk;kernel_rfl
theorem iA{α:Type}:∀{l:List α}{i:Nat}(h:i<l.length),(l[i]::l.eraseIdx i).Perm l
 |x::xs,0,_=>.rfl
 |x::xs,i+1,h=>(List.Perm.swap x _ _).trans ((iA (l:=xs) (i:=i) (Nat.lt_of_succ_lt_succ h)).cons x)
theorem zC{α:Type}(next:Nat->Nat):∀(f k:Nat) (l:List α) (out:Array α),f=l.length->(pickOrder.go next f k l out).toList.Perm (out.toList++l)
 |0,k,l,out,h=>by
  rw[List.length_eq_zero_iff.mp h.symm,uG];exact .rfl
 |f+1,k,l,out,h=>by
  have hl:next k%l.length<l.length:=Nat.mod_lt _ (by omega)
  unfold pickOrder.go;rw[jo hl];dsimp only;refine(zC next f (k+1) _ _ (by rw[List.length_eraseIdx_of_lt hl];omega)).trans ?_;rw[Array.toList_push,tI];exact List.Perm.append_left _ (iA hl)
theorem ju{α:Type}(next:Nat->Nat)(xs:Array α):(pickOrder next xs).toList.Perm xs.toList:=by
 have z:=zC next xs.size 0 xs.toList #[] (by rw[BX])
 exact z
section
variable{prog:Program}{w:World}{A:Around}{E:Vs}{s:Shared}{I a:Addr}{n ep:Nat}{es:Array (Int×Value)}{t:SetTable}
theorem ite_no{α:Type}{c:Prop} [Decidable c]{x y:Sem α}{Q:α->Shared->Prop}(hc:¬c)(h:wpAny (model prog w) A y Q E s):wpAny (model prog w) A (if c then x else y) Q E s:=by
 rw[if_neg hc];exact h
theorem ite_yes{α:Type}{c:Prop} [Decidable c]{x y:Sem α}{Q:α->Shared->Prop}(hc:c)(h:wpAny (model prog w) A x Q E s):wpAny (model prog w) A (if c then x else y) Q E s:=by
 rw[if_pos hc];exact h
theorem mK(h0:0<m)(h:∀i d,i<m->Q i { s with drawn:=d }):wpAny (model prog w) A (choose src m) Q E s:=λΓ p _=>by
 show Sem.wp _ _ (.choose src m .pure) _ _ _ _;rw[Sem.wp_choose];refine⟨by omega,?_⟩;show Sem.wp _ _ (pure _) _ _ _ _;rw[Sem.wp_pure'];exact h _ _ (Nat.mod_lt _ h0)
theorem uO{α:Type}:∀(m:Nat) (xs:List α) (s:Shared) {Q:List α->Shared->Prop},m=xs.length->(∀ys d,ys.Perm xs->Q ys { s with drawn:=d })->wpAny (model prog w) A (drawOrder m xs) Q E s
 |0,xs,s,Q,hm,h=>by
  unfold drawOrder;exact aP (h [] s.drawn (by rw[List.length_eq_zero_iff.mp hm.symm]))
 |m+1,[],s,Q,hm,h=>by simp at hm
 |m+1,x::xs,s,Q,hm,h=>by
  unfold drawOrder;refine au (mK (by simp) λi d hi=>?_);rw[jo hi];refine au (uO m _ _ (by rw[List.length_eraseIdx_of_lt hi];omega) λys d' hp=>aP ?_);exact h _ d' ((hp.cons _).trans (iA hi))
theorem jG{f:Value}{i:Nat}{a:Value}{Q:Vs}(ho:s.heap.get? I=some (B0 f i a n ep))(h:Q (.ref I) s):wpAny (model prog w) A (pyIter (.ref I)) Q E s:=by
 have hT:s.TypeIs (.ref I) "set_iterator" := ⟨_,ho,rfl⟩
 refine wpAny_pyIter_slot hT iN (B1 iN hT mD ?_ (r9 _));show wpAny _ _ (ret (.ref I)) _ _ s;exact aP ⟨_,rfl, "set_iterator", _,hT,j9.lookup,h⟩
noncomputable abbrev gG(es:Array (Int×Value))(ep:Nat)(t:SetTable):Obj:={ cls:=.type "set", dict:=none,data:=.set es ep t,slots:=#[] }
theorem mU(h:xs.size=1)(hx:xs[0]?=some j):SetTable.below xs 0=0/\SetTable.below xs (j+1)=1:=by
 obtain⟨l⟩:=xs
 match l,h with
 |[x],_=>
  simp at hx;subst hx;simp[SetTable.below,SetTable.below.go]
theorem HR(h:xs.size=0)(j:Nat):SetTable.below xs j=0:=by
 unfold SetTable.below;rw[h];rfl
theorem Bl(bt:nH w=true)(hh:A.handled=none)(hne:a≠I)(hf:t.fits es.size=true):
  Walks prog w A I [I,a] [I] es.size (λi v=>∃h,(pickOrder (w.params.setOrder a ep) es)[i]?=some (h,v)) (λi h=>h.get? I=some (B0 (.int 0 0) i (.ref a) es.size ep)/\h.get? a=some (gG es ep t)) where
 sub:=λb hb=>by simp at hb;simp[hb]
 frame:=λ_ _ _ st k=>⟨k I (by simp) _ st.1,k a (by simp) _ st.2⟩
 item:=λi s Q E hi st hQ=>by
  have hlen:(pickOrder (w.params.setOrder a ep) es).size=es.size:=by
   have z:=(ju (w.params.setOrder a ep) es).length_eq;simpa using z
  obtain⟨x,hx⟩:∃x,(pickOrder (w.params.setOrder a ep) es)[i]?=some x:=⟨_,Nk (by rw[hlen];exact hi)⟩
  refine nU (next:=0) (x:=x.2) st.1 st.2 hf rfl (λA E Q' q=>?_) λh' o' sb=>hQ x.2 h' s.toks ⟨x.1,hx⟩ ⟨o',(sb.2 a hne).trans st.2⟩ λb o hb e=>(sb.2 b (by simpa using hb)).trans e;unfold setNext setsByText;refine au (Ir st.2 rfl hf ?_);dsimp only;refine au (au (Hu (aP ?_)));rw[show(model prog w).w.params.followText "set-order" = true from bt,if_pos rfl,if_neg (by simp)];unfold setWalk setsByText;refine au (au (Ir st.2 rfl hf ?_));dsimp only;refine au (au (Hu (aP ?_)));rw[show(model prog w).w.params.followText "set-order" = true from bt,if_pos rfl];refine au (Hu (aP (aP ?_)));rw[show(pickOrder ((model prog w).w.params.setOrder a ep) es)[i]?=some x from hx];exact q
 done:=λs Q E st hQ=>by
  refine mZ hh st.1 st.2 hf rfl (λA E Q' q=>?_) λh' e=>hQ h' s.toks λb o hb z=>e b o (by simpa using hb) z;have hlen:(pickOrder (w.params.setOrder a ep) es).size=es.size:=by
   have z:=(ju (w.params.setOrder a ep) es).length_eq;simpa using z
  unfold setNext setsByText;refine au (Ir st.2 rfl hf ?_);dsimp only;refine au (au (Hu (aP ?_)));rw[show(model prog w).w.params.followText "set-order" = true from bt,if_pos rfl,if_neg (by simp)];unfold setWalk setsByText;refine au (au (Ir st.2 rfl hf ?_));dsimp only;refine au (au (Hu (aP ?_)));rw[show(model prog w).w.params.followText "set-order" = true from bt,if_pos rfl];refine au (Hu (aP (aP ?_)));rw[show(pickOrder ((model prog w).w.params.setOrder a ep) es)[es.size]?=none from Array.getElem?_eq_none (by rw[<-hlen];exact bC _)];exact q
 self:=λ_ _ _ _ st hQ=>jG st.1 hQ
theorem BL(bt:nH w=false)(hh:A.handled=none)(hne:a≠I)(hf:t.fits es.size=true)(hl:t.led=true)(h1:es.size<=1):
  Walks prog w A I [I,a] [I] es.size (λi v=>∃h,es[i]?=some (h,v)) (λi h=>(∃sl,h.get? I=some (B0 (.int (sl:Nat) 0) i (.ref a) es.size ep)/\(i=0->sl=0)/\(i=1->∃j,t.place[0]?=some j/\sl=j+1))/\h.get? a=some (gG es ep t)) where
 sub:=λb hb=>by simp at hb;simp[hb]
 frame:=λ_ _ _ st k=>by
  obtain⟨⟨sl,o,z⟩,q⟩:=st;exact⟨⟨sl,k I (by simp) _ o,z⟩,k a (by simp) _ q⟩
 item:=λi s Q E hi st hQ=>by
  obtain⟨⟨sl,o,z0,z1⟩,hs⟩:=st;have e1:es.size=1:=by omega
  have i0:i=0:=by omega
  subst i0;have s0:=z0 rfl;subst s0;have hp:t.place.size=1:=by
   have z:=hf;simp only[SetTable.fits,Bool.and_eq_true,beq_iff_eq]at z;omega
  obtain⟨j,hj⟩:∃j,t.place[0]?=some j:=⟨_,Nk (by omega)⟩
  obtain⟨⟨hv,x⟩,hx⟩:∃x,es[0]?=some x:=⟨_,Nk (by omega)⟩
  refine nU (next:=j+1) (x:=x) o hs hf rfl (λA E Q' q=>?_) λh' o' sb=>hQ x h' s.toks ⟨hv,hx⟩ ⟨⟨j+1,o',λz=>absurd z (by omega),λ_=>⟨j,hj,rfl⟩⟩,(sb.2 a hne).trans hs⟩ λb o hb e=>(sb.2 b (by simpa using hb)).trans e;unfold setNext setsByText;refine au (Ir hs rfl hf ?_);dsimp only;refine au (au (Hu (aP ?_)));rw[show(model prog w).w.params.followText "set-order" = false from bt,if_neg (by simp)];refine ite_no (λz=>absurd (show(!t.plain&&decide (es.size>1))=true from z) (by rw[e1];simp)) ?_;refine au ?_;show wpAny _ _ (if (!t.led && !es.isEmpty)=true then unsupported "set:maker-not-led" else pure ()) _ _ _;rw[hl,if_neg (by simp)];refine aP ?_;rw[(mU hp hj).1,hx,hj];exact aP q
 done:=λs Q E st hQ=>by
  obtain⟨⟨sl,o,z0,z1⟩,hs⟩:=st;refine mZ hh o hs hf rfl (λA E Q' q=>?_) λh' e=>hQ h' s.toks λb o hb z=>e b o (by simpa using hb) z;unfold setNext setsByText;refine au (Ir hs rfl hf ?_);dsimp only;refine au (au (Hu (aP ?_)));rw[show(model prog w).w.params.followText "set-order" = false from bt,if_neg (by simp)];refine ite_no (λz=>absurd (show(!t.plain&&decide (es.size>1))=true from z) (by simp;omega)) ?_;refine au ?_;show wpAny _ _ (if (!t.led && !es.isEmpty)=true then unsupported "set:maker-not-led" else pure ()) _ _ _;rw[hl,if_neg (by simp)];refine aP ?_;have hb:es[SetTable.below t.place sl]?=none:=by
   have z:=hf;simp only[SetTable.fits,Bool.and_eq_true,beq_iff_eq]at z;by_cases e1:es.size=1
   ·obtain⟨j,hj,rfl⟩:=z1 e1;rw[(mU (by omega) hj).2];exact Array.getElem?_eq_none (by omega)
   ·rw[HR (by omega)];exact Array.getElem?_eq_none (by omega)
  rw[hb];exact aP q
 self:=λ_ _ _ _ st hQ=>by
  obtain⟨⟨sl,o,_⟩,_⟩:=st;exact jG o hQ
theorem u0{p:Addr}{ps:List Nat}(hh:A.handled=none)(hne:a≠I)(hpI:p≠I)(hf:t.fits es.size=true)(hps:ps.Perm (List.range es.size)):
  Walks prog w A I [I,a,p] [I] es.size (λi v=>∃j h,ps[i]?=some j/\es[j]?=some (h,v)) (λi h=>h.get? I=some (B0 (.ref p) i (.ref a) es.size ep)/\h.get? a=some (gG es ep t)/\h.get? p=some { cls:=.type "tuple", data:=.seq (List.toArray (ps.map λj=>rawInt (j:Nat))) 0 }) where
 sub:=λb hb=>by simp at hb;simp[hb]
 frame:=λ_ _ _ st k=>⟨k I (by simp) _ st.1,k a (by simp) _ st.2.1,k p (by simp) _ st.2.2⟩
 item:=λi s Q E hi st hQ=>by
  have hl:ps.length=es.size:=by rw[hps.length_eq,Nc]
  obtain⟨j,hj⟩:∃j,ps[i]?=some j:=⟨_,jo (by omega)⟩
  have hj1:j<es.size:=yJ.mp (hps.mem_iff.mp (c_ hj));obtain⟨⟨hv,x⟩,hx⟩:∃x,es[j]?=some x:=⟨_,Nk hj1⟩
  exact xx st.1 st.2.1 hf rfl st.2.2 hj hx λh' o' sb=>hQ x h' s.toks ⟨j,hv,hj,hx⟩ ⟨o',(sb.2 a hne).trans st.2.1,(sb.2 p hpI).trans st.2.2⟩ λb o hb e=>(sb.2 b (by simpa using hb)).trans e
 done:=λs Q E st hQ=>k_ hh st.1 st.2.1 hf rfl st.2.2 (List.getElem?_eq_none (by rw[hps.length_eq,Nc];exact bC _)) λh' e=>hQ h' s.toks λb o hb z=>e b o (by simpa using hb) z
 self:=λ_ _ _ _ st hQ=>jG st.1 hQ
end
end L2
namespace L2
open PySem
section
variable{prog:Program}{w:World}{A:Around}{E:Vs}{s:Shared}{a:Addr}{L:List Str}
theorem GU{es:Array (Int×Value)}:∀(l:List Nat),(∀j∈l,j<es.size)->∀(i j:Nat),l[i]?=some j->(l.filterMap λj=>es[j]?)[i]?=es[j]?
 |[],_,i,j,q=>by simp at q
 |x::l,hl,i,j,q=>by
  have hx:=Nk (hl x (.head _));rw[List.filterMap_cons,hx];cases i with
  |zero=>simp at q;subst q;simp[hx]
  |succ i=>
   simp at q ⊢;exact GU l (λj hj=>hl j (.tail _ hj)) i j q
def Nn(w:World)(ord:List (Int×Value))(i:Nat)(v:Value):Prop:=∃h,ord[i]?=some (h,v)
theorem FU(ho:s.heap.get? a=some (gG es ep t))(hf:t.fits es.size=true)(hl:t.led = !nH w)(hp:t.plain=true->es.size=0)(hz:es.size<scanBound)
  (hQ:∀(s':Shared) (I:Addr) (fp:List Addr) (St:Nat->Heap->Prop) (P:Nat->Value->Prop) (ord:List (Int×Value)),(∀b o,s.heap.get? b=some o->s'.heap.get? b=some o)->s'.gens=s.gens->s'.os=s.os->
   (∀A':Around,A'.handled=none->Walks prog w A' I fp [I] es.size P St)->St 0 s'.heap->(∀b∈fp,b=a\/s.heap.objs.size<=b)->s.heap.objs.size<=I->ord.Perm es.toList->(∀i v,P i v->Nn w ord i v)->Q (.ref I) s'):
  wpAny (model prog w) A (pyIter (.ref a)) Q E s:=by
 have hT:s.TypeIs (.ref a) "set" := ⟨_,ho,rfl⟩
 have hlt:a<s.heap.objs.size:=cV ho;refine wpAny_pyIter_slot hT PySem.F.slot_set_iter (B1 PySem.F.slot_set_iter hT o_ ?_ (PySem.F.args_set_iter_1 _));unfold Builtin.«frozenset.__iter__» Builtin.Frozenset.sizeOf setDrawn setsByText;refine au (aP ?_);refine au (au (NZ ho rfl hf (aP ?_)));refine au (au (Ir ho rfl hf ?_));dsimp only;refine au (au (Hu (aP (aP ?_))));cases bt:nH w with
 |true=>
  refine ite_no (λz=>absurd (show(!(nH w)&&(!t.plain&&decide (es.size>1)))=true from z) (by rw[bt];simp)) ?_;refine au (aP (au (wpAny_setEpoch_of ho rfl hf (au (yZ ?_)))));refine aP ⟨_,rfl, "set_iterator", _,⟨_,gL _ rfl,rfl⟩,j9.lookup,?_⟩;exact hQ _ s.heap.objs.size [s.heap.objs.size,a] _ _ (pickOrder (w.params.setOrder a ep) es).toList (λb o z=>cM _ z) rfl rfl (λA' h'=>Bl bt h' (eD hlt) hf) ⟨gL _ rfl,cM _ ho⟩
   (λb hb=>by simp at hb;rcases hb with rfl|rfl<;>simp) (Nat.le_refl _) (ju _ _) λi v ⟨h,z⟩=>⟨h,by rw[Array.getElem?_toList];exact z⟩
 |false=>
  rw[bt]at hl;by_cases h1:es.size<=1
  ·refine ite_no (λz=>absurd (show(!(nH w)&&(!t.plain&&decide (es.size>1)))=true from z) (by simp;omega)) ?_;refine au (aP (au (wpAny_setEpoch_of ho rfl hf (au (yZ ?_)))));refine aP ⟨_,rfl, "set_iterator", _,⟨_,gL _ rfl,rfl⟩,j9.lookup,?_⟩;exact hQ _ s.heap.objs.size [s.heap.objs.size,a] _ _ es.toList (λb o z=>cM _ z) rfl rfl (λA' h'=>BL bt h' (eD hlt) hf hl h1) ⟨⟨0,gL _ rfl,λ_=>rfl,λz=>absurd z (by omega)⟩,cM _ ho⟩
    (λb hb=>by simp at hb;rcases hb with rfl|rfl<;>simp) (Nat.le_refl _) .rfl λi v ⟨h,z⟩=>⟨h,by rw[Array.getElem?_toList];exact z⟩
  ·have np:t.plain=false:=by
    cases z:t.plain with
    |false=>rfl
    |true=>exact absurd (hp z) (by omega)
   refine ite_yes (show(!(nH w)&&(!t.plain&&decide (es.size>1)))=true by rw[bt,np];simp;omega) ?_;refine au (uO es.size (List.range es.size) s (by simp) λps d hps=>?_);refine au <| wpAny_newTuple ?_ (by rw[az,hps.length_eq,Nc];exact fits_of_scanBound hz)
   have ho1:(s.heap.push { cls:=.type "tuple", data:=.seq (List.toArray (ps.map λj=>rawInt (j:Nat))) 0 }).get? a=some (gG es ep t):=cM _ ho;refine au (wpAny_setEpoch_of (s:={ s with heap:=s.heap.push { cls:=.type "tuple", data:=.seq (List.toArray (ps.map λj=>rawInt (j:Nat))) 0 },drawn:=d }) ho1 rfl hf (au (yZ ?_)));refine aP ⟨_,rfl, "set_iterator", _,⟨_,gL _ rfl,rfl⟩,j9.lookup,?_⟩;have hs1:(s.heap.push { cls:=.type "tuple", data:=.seq (List.toArray (ps.map λj=>rawInt (j:Nat))) 0 }).objs.size=s.heap.objs.size+1:=Heap.size_push ..;refine hQ _ _ [_,a,s.heap.objs.size] _ _ (ps.filterMap λj=>es[j]?) (λb o z=>cM _ (cM _ z)) rfl rfl (λA' h'=>u0 (ps:=ps) (p:=s.heap.objs.size) h' (hs1▸eD (Nat.lt_succ_of_lt hlt)) (hs1▸eD (K8 _)) hf hps)
    ⟨gL _ rfl,cM _ ho1,cM _ (gL _ rfl)⟩ (λb hb=>?_) (by first|exact Di _|exact hs1.symm▸Di _) ?_ λi v ⟨j,h,z1,z2⟩=>?_
   ·simp at hb;rcases hb with rfl|rfl|rfl
    ·exact .inr (by first|exact Di _|exact hs1.symm▸Di _)
    ·exact .inl rfl
    ·exact .inr (bC _)
   ·refine(hps.filterMap _).trans ?_;rw[filterMap_getElem?_range]
   ·exact⟨h,by rw[GU ps (λj hj=>yJ.mp (hps.mem_iff.mp hj)) i j z1,z2]⟩
theorem Cn(hT:s.TypeIs (.ref a) "set")(h:Q false s):wpAny (model prog w) A (Builtin.List.listLengthHint (.ref a)) Q E s:=by
 unfold Builtin.List.listLengthHint;refine au (wpAny_specialOf hT PySem.F.slot_set_len.lookup ?_);generalize hid:("set.__len__" : String)=id0
 wp_delta
 rw[show splitId id0=some ("set", "__len__") from by subst hid;decide +kernel];subst hid;refine au (wpAny_isInstance (T := "set") (b:=true) hT (by rw[isSubtype_type];kernel_rfl) ?_);refine ite_no (by decide) (ite_yes (by decide +kernel) ?_);exact au (wpAny_typeOf hT (aP h))
theorem vF(S:hV w s.heap a L)(hh:A.handled=none)
  (h:∀(s':Shared) (vs:List Value) (ord:List Str),(∀b o,s.heap.get? b=some o->s'.heap.get? b=some o)->s'.gens=s.gens->s'.os=s.os->ord.Perm L->vs.length=ord.length->(∀(j:Nat) (v:Value),vs[j]?=some v->∃y k,ord[j]?=some y/\v=Value.str y k)->R vs s'):
  wpAny (model prog w) A (collect (.ref a)) R E s:=by
 obtain⟨es,ep,t,ho,he,hL,hb,hf,hl,hp⟩:=id S;have hn:es.size=L.length:=by rw[<-hL,az,BX]
 have hlt:a<s.heap.objs.size:=cV ho;unfold collect;refine au (wpAny_runValue (codeAny_builtin PySem.F.entry_proto_collect ?_));rw[Around.under_plainId PySem.F.plain_proto_collect _];show wpAny _ A.in1 (newList [] >>= λl=>again (.builtin "list.__iadd__" ⟨[l,.ref a],[]⟩)) _ _ s;refine au (yZ (aP ⟨plainId_quiet PySem.F.plain_list_iadd _,codeAny_builtin PySem.F.entry_list_iadd ?_⟩));rw[Around.under_plainId PySem.F.plain_list_iadd _];show wpAny _ A.in1 (Builtin.List.listExtendWith (.ref s.heap.objs.size) (.ref a) (.ref s.heap.objs.size)) _ _ _;generalize hH:s.heap.push { cls:=.type "list", data:=.seq ([]:List Value).toArray }=H;have hHs:H.objs.size=s.heap.objs.size+1:=by rw[<-hH];exact Heap.size_push ..
 have hS0:H.get? s.heap.objs.size=some { cls:=.type "list", data:=.seq ([]:List Value).toArray }:=hH▸gL _ rfl;have ho1:H.get? a=some (gG es ep t):=hH▸cM _ ho;have kp:∀b o,s.heap.get? b=some o->H.get? b=some o:=λb o z=>hH▸cM _ z;unfold Builtin.List.listExtendWith;refine au (wpAny_typeOf (T := "set") ⟨_,ho1,rfl⟩ ?_);have h1:Builtin.List.listSameRef (.ref s.heap.objs.size) (.ref a)=false:=by simp[Builtin.List.listSameRef];exact Ne.symm (Nat.ne_of_lt hlt)
 refine ite_no (by rw[h1];decide) ?_;refine au (FU (s:={ s with heap:=H }) ho1 hf hl (λz=>by rw[hn,hp z];rfl) hb λs1 I fp St P ord k1 g1 o1 W st hfp hI hord hP=>?_);have hI':s.heap.objs.size+1<=I:=hHs▸hI;have hSI:s.heap.objs.size≠I:=eD hI';have hSf:s.heap.objs.size∉fp:=λz=>by
  rcases hfp _ z with q|q
  ·exact absurd q (Ne.symm (eD hlt))
  ·exact absurd (show H.objs.size<=s.heap.objs.size from q) (by rw[hHs];exact Nat.not_succ_le_self _)
 have hS1:=k1 _ _ hS0;have ord_len:(ord.map λe=>txtOf e.2).Perm L:=by rw[<-hL];exact hord.map _
 refine au (v9 (Cn (s:=s1) ⟨_,k1 _ _ ho1,rfl⟩ ?_));refine ite_yes (by decide +kernel) (au (FR (au ?_)));show wpAny _ _ (updateSeq s.heap.objs.size (λq=>q.push Value.none) >>= λ_=>updateSeq s.heap.objs.size (λq=>q.pop)) _ _ _;refine au (wpAny_updateSeq hS1 rfl ?_);have hS2:=JU (Obj.mapSeq (λq=>q.push Value.none)) hS1 rfl;refine wpAny_updateSeq (hz:=by seq_fits) hS2 rfl ?_;have hS3:=JU (Obj.mapSeq (λq=>q.pop)) hS2 rfl;have k2:∀b o,b≠s.heap.objs.size->s1.heap.get? b=some o->((s1.heap.update s.heap.objs.size (Obj.mapSeq λq=>q.push Value.none)).update s.heap.objs.size (Obj.mapSeq λq=>q.pop)).get? b=some o:=λb o hb z=>
  (Heap.get?_update_other _ _ (Ne.symm hb)).trans ((Heap.get?_update_other _ _ (Ne.symm hb)).trans z)
 have W1:=(W A.in1 hh).toS;refine aP ⟨plainId_quiet PySem.F.plain_extend_loop _,codeAny_extend_loopS W1 (fits_of_scanBound hb) _ hSf _ es.size 0 _ #[] _ rfl (fe _) ((W A.in1 hh).frame 0 _ _ st λb hb o z=>k2 b o (λq=>hSf (q▸hb)) z) hS3 (ItemsOf.nil _) λs2 acc c hm hS2 hacc=>?_⟩;show wpAny _ A (load s.heap.objs.size >>= _) _ _ s2;refine au (wpAny_load hS2 (aP (h s2 acc.toList (ord.map λe=>txtOf e.2) (λb o z=>?_) (hm.gens.trans g1) (hm.os.trans o1) ord_len ?_ λj v hv=>?_)))
 ·refine hm.heap b o (λq=>?_) (k2 b o (eD (cV z)) (k1 b o (kp b o z)));have lt:=cV z;rcases iG.mp q with q|q
  ·exact absurd lt (q▸uH _)
  ·rw[bX.mp q]at lt;exact absurd (mC (Nat.lt_succ_of_lt lt) hI') (uH _)
 ·rw[BX,hacc.1,az,hord.length_eq,BX]
 ·rw[M5]at hv;obtain⟨hh,z⟩:=hP j v (hacc.2 j v hv);obtain⟨y,k,e⟩:=he _ (hord.mem_iff.mp (c_ z));refine⟨y,k,?_,congrArg Prod.snd e⟩;rw[gh,z,e];rfl
end
end L2
namespace L2
open PySem PySem.Spec
section
variable{prog:Program}{w:World}{A:Around}{E:Vs}
theorem A1(a:Value){Q₁:Vs}(h:Q₁ (.ref s.heap.objs.size) { s with heap:=s.heap.push (gG #[] 0 (.fresh 0 0 (!nH w))) }):
  codeAny (model prog w) A (.call (.builtin "set.__new__") ⟨[.type "set", a],[]⟩) (wants Q₁ E) s:=by
 refine codeAny_of_tree ?_;show wpAny _ A.in1 (checkBuiltinCall "set.__new__" ⟨[.type "set", a],[]⟩ >>= λ_=>again (.builtin "set.__new__" ⟨[.type "set", a],[]⟩)) _ _ s;refine au (wpAny_of_eq (PySem.F.newCall_set_1 a) (aP ⟨plainId_quiet PySem.F.plain_set_new _,codeAny_builtin PySem.F.entry_set_new ?_⟩));rw[Around.under_plainId PySem.F.plain_set_new _];unfold Builtin.«set.__new__» Builtin.Frozenset.newClass;have hs:=sub_set_self;obtain⟨hp,g,d,tk,os⟩:=s;dsimp only
 wp_walk
 refine Hu (aP ?_);dsimp only;simp only[newObj];exact au (wpAny_alloc (aP (aP h)))
theorem xT{h:Heap}:hV w (h.push (gG #[] 0 (.fresh 0 0 (!nH w)))) h.objs.size []:=
 ⟨#[],0,_,gL _ rfl,λe he=>by simp at he,rfl,by decide,rfl,rfl,λ_=>rfl⟩
theorem hV.keep(S:hV w h a L)(k:∀o,h.get? a=some o->h'.get? a=some o):hV w h' a L:=
 let ⟨es,ep,t,ho,r⟩:=S;⟨es,ep,t,k _ ho,r⟩
theorem EG{L L':List Str}{x:Str}(h:L'.Perm (if x∈L then L else L++[x]))(hn:L.Nodup):L'.Nodup/\(∀y,y∈L'↔y∈L\/y=x)/\L'.length<=L.length+1:=by
 by_cases m:x∈L
 ·rw[if_pos m]at h;exact⟨h.symm.nodup hn,λy=>by rw[h.mem_iff];exact⟨.inl,λz=>z.elim id λe=>e▸m⟩,by rw[h.length_eq];omega⟩
 ·rw[if_neg m]at h;refine⟨h.symm.nodup ?_,λy=>by rw[h.mem_iff];simp,by rw[h.length_eq];simp⟩;rw[f_];exact⟨hn,by simp,λa ha b hb=>by simp at hb;subst hb;exact λe=>m (e▸ha)⟩
theorem EK{R:Result->Shared->Prop}{I:Addr}{fp wr:List Addr}{G:Array GenState->Array GenState->Prop}{n:Nat}{P:Nat->Value->Prop}{St:Nat->Shared->Prop}(W:WalksS prog w A.in1 I fp wr G n P St)(S:Addr)(hSf:S∉fp)
  (val:Nat->Str) (hval:∀i v,P i v->∃t,v=Value.str (val i) t) (hb:n+1<scanBound):
  ∀(k i:Nat) (s:Shared) (L:List Str),n - i=k->i<=n->St i s->hV w s.heap S L->L.Nodup->L.length<=i->(∀y,y∈L↔∃j,j<i/\val j=y)->
   (∀s' L',Moved (S::wr) G s s'->hV w s'.heap S L'->L'.Nodup->L'.length<=n->(∀y,y∈L'↔∃j,j<n/\val j=y)->R (.ok (.ret .none)) s')->
   codeAny (model prog w) A (.builtin "set.update.loop" ⟨[.ref S,.ref I],[]⟩) R s:=by
 have hSw:S∉wr:=λh=>hSf (W.sub _ h);have sub:∀b∈wr,b∈S::wr:=λb hb=>ka _ hb;intro k
 induction k with
 |zero=>
  intro i s L hk hi st hS hN hl hm hR;obtain rfl:i=n:=by omega
  refine codeAny_builtin PyProof.Rows.F.entry_set_update_loop ?_;rw[Around.under_plainId PyProof.Rows.F.plain_set_update_loop _];show wpAny _ A.in1 (pyNext (.ref I) >>= _) _ _ s;refine au (W.done s _ _ st λs' mv=>?_);exact aP (hR s' L (mv.mono sub) (hS.keep λo z=>mv.heap S o hSw z) hN hl hm)
 |succ k ih=>
  intro i s L hk hi st hS hN hl hm hR;have lt:i<n:=by omega
  refine codeAny_builtin PyProof.Rows.F.entry_set_update_loop ?_;rw[Around.under_plainId PyProof.Rows.F.plain_set_update_loop _];show wpAny _ A.in1 (pyNext (.ref I) >>= _) _ _ s;refine au (W.item i s _ _ lt st λv s' hP st' mv=>?_);obtain⟨t,rfl⟩:=hval i v hP;have hS':hV w s'.heap S L:=hS.keep λo z=>mv.heap S o hSw z;show wpAny _ A.in1 (holding [Value.str (val i) t] (setAdd S (.str (val i) t)) >>= _) _ _ s';refine au (v9 ?_);unfold setAdd;refine v9 (au ((PySem.strKind prog w).pyHash (k:=val i) (by simp[PySem.strKind,Value.isStrOf]) ?_));refine Fn (s:={ s' with toks:=s'.toks+1 }) hS' (by omega) λh' L' b sb S2 pm=>?_;obtain⟨n2,m2,l2⟩:=EG pm hN;refine aP ⟨plainId_quiet PyProof.Rows.F.plain_set_update_loop _,ih (i+1) _ L' (by omega) lt (W.frame _ s' _ _ st' (Di _) λb hb o e=>?_) S2 n2 (by omega) (λy=>?_) λs'' L'' mv' S3 n3 l3 m3=>?_⟩
  ·rw[sb.2 b (λh:b=S=>hSf (by rw[<-h];exact hb))];exact e
  ·rw[m2 y,hm y];constructor
   ·rintro (⟨j,hj,e⟩|e)
    ·exact⟨j,by omega,e⟩
    ·exact⟨i,by omega,e.symm⟩
   ·rintro⟨j,hj,e⟩;by_cases ji:j=i
    ·exact .inr (ji▸e.symm)
    ·exact .inl ⟨j,by omega,e⟩
  ·refine hR s'' L'' (Moved.trans W.gtrans ((mv.mono sub).then_heap (Di _) λb o hb e=>?_) mv') S3 n3 l3 m3;rw[sb.2 b (λh:b=S=>hb (by rw[h];exact lE))];exact e
set_option maxHeartbeats 3200000 in
theorem A7{s:Shared}{l:Addr}{items:Array Value}{val:Nat->Str}{Q:Vs}(hh:A.handled=none)(hl:s.heap.IsList l items)(hi:∀(i:Nat) (v:Value),items[i]?=some v->∃t,v=Value.str (val i) t)(hb:items.size+1<scanBound)
  (h:∀(h':Heap) (tk:Nat) (L:List Str),hV w h' s.heap.objs.size L->L.Nodup->L.length<=items.size->(∀y,y∈L↔∃j,j<items.size/\val j=y)->(∀b o,s.heap.get? b=some o->h'.get? b=some o)->Q (.ref s.heap.objs.size) { s with heap:=h',toks:=tk }):
  wpAny (model prog w) A (call (.type "set") [.ref l]) Q E s:=by
 obtain⟨c0,tl0,mro0⟩:=PySem.F.called_set.mro;have made0:=PySem.F.called_set.made;have sub0:=PySem.F.called_set.sub;refine wpAny_call (codeAny_of_tree (show wpAny _ _ (callAny (.type "set") _) _ _ _ from ?_));refine aP ⟨Code.quiet_builtin _ (by decide +kernel),codeAny_builtin PySem.F.entry_type_call ?_⟩;rw[Around.under_plain (weight_type_call_type "set" [.ref l] []) rfl];have n1:=PySem.F.called_set.notType;have n2:=PySem.F.called_set.canCreate;have n3:=PySem.F.typeCall_set_1 (.ref l)
 repeat (any_goals (first|assumption|wp_step))
 refine codeAny_mono (A1 (.ref l) (E:=E) (Q₁:=λobj s1=>obj=.ref s.heap.objs.size/\s1={ s with heap:=s.heap.push (gG #[] 0 (.fresh 0 0 (!nH w))) }) ⟨rfl,rfl⟩) λr s1 hr=>?_;cases r with
 |error e=>exact hr
 |ok fl=>
  cases fl with
  |ret obj=>
   obtain⟨rfl,rfl⟩:=hr;have hS:(s.heap.push (gG #[] 0 (.fresh 0 0 (!nH w)))).get? s.heap.objs.size=some (gG #[] 0 (.fresh 0 0 (!nH w))):=gL _ rfl;have hT:Shared.TypeIs { s with heap:=s.heap.push (gG #[] 0 (.fresh 0 0 (!nH w))) } (.ref s.heap.objs.size) "set" := ⟨_,hS,rfl⟩
   have li:=PySem.F.called_set.init.lookup;have bi:=PySem.F.called_set.init.bind (.ref s.heap.objs.size)
   repeat (any_goals (first|assumption|wp_step))
   refine codeAny_mono (codeAny_call_builtin (R:=wants (λr s2=>r=.none/\∃h' tk L,s2={ s with heap:=h',toks:=tk }/\hV w h' s.heap.objs.size L/\L.Nodup/\L.length<=items.size/\(∀y,y∈L↔∃j,j<items.size/\val j=y)/\∀b o,s.heap.get? b=some o->h'.get? b=some o) E) PySem.F.called_set.init.plain PySem.F.entry_set_init (check_set_init_1 hT ?_)) λr2 s2 hr2=>?_
   ·obtain⟨ol,hol,hcl,nl,hdl⟩:=hl;obtain⟨ocls,odict,odata,oslots⟩:=ol;simp only at hcl hdl;subst hcl hdl;have hol':(s.heap.push (gG #[] 0 (.fresh 0 0 (!nH w)))).get? l=some { cls:=.type "list", dict:=odict,data:=.seq items nl,slots:=oslots }:=cM _ hol;have q1:=PySem.F.sub_list_set;have q2:=PySem.F.sub_list_frozenset;have q3:(Value.type "list" == Value.type "dict")=false:=by decide
    have hl1:(s.heap.push (gG #[] 0 (.fresh 0 0 (!nH w)))).IsList l items:=⟨_,hol',rfl,nl,rfl⟩
    unfold Builtin.«set.__init__» noKeywords Builtin.Frozenset.updateFrom;generalize hPI:pyIter=PI
    wp_walk
    subst hPI;refine wpAny_pyIter_list hl1 (au (wpAny_runValue ?_));have hlS:l<s.heap.objs.size:=cV hol;have hs1:(s.heap.push (gG #[] 0 (.fresh 0 0 (!nH w)))).objs.size=s.heap.objs.size+1:=Heap.size_push ..;have h3:A.in1.in1.in1.handled=none:=by simp[hh]
    have nI:l≠(s.heap.push (gG #[] 0 (.fresh 0 0 (!nH w)))).objs.size:=hs1▸eD (Nat.lt_succ_of_lt hlS);have hSf:s.heap.objs.size∉[(s.heap.push (gG #[] 0 (.fresh 0 0 (!nH w)))).objs.size,l]:=by
     rw[hs1];simp only[List.mem_cons,List.not_mem_nil,or_false,not_or];exact⟨eD (K8 _),Nat.ne_of_gt hlS⟩
    refine EK ((Walks.list h3 _ l nI items).toS) s.heap.objs.size hSf val hi hb (items.size - 0) 0 _ [] (by omega) (fe _) ⟨⟨_,gL _ rfl,rfl,rfl⟩,(hl1.push _)⟩
     (xT.keep λo z=>cM _ z) .nil (fe _) (λy=>by simp) λs' L' mv S' N' l' m'=>?_
    obtain⟨h',g',d',tk',os'⟩:=s';obtain rfl:g'=s.gens:=mv.gens;obtain rfl:d'=s.drawn:=mv.drawn;obtain rfl:os'=s.os:=mv.os;show wpAny _ _ _ _ _ _;refine aP ?_;show wpAny _ _ (ret Value.none) _ _ _;refine aP ⟨rfl,h',tk',L',rfl,S',N',l',m',λb o e=>?_⟩;have lt:=cV e;exact mv.heap b o (by rw[hs1];simp only[List.mem_cons,List.not_mem_nil,or_false,not_or];exact⟨Nat.ne_of_lt lt,Nat.ne_of_lt (Nat.lt_succ_of_lt lt)⟩) (Heap.get?_push_of_some _ (Heap.get?_push_of_some _ e))
   ·cases r2 with
    |error e=>exact hr2
    |ok f2=>
     cases f2 with
     |ret r=>
      obtain⟨rfl,h',tk,L,rfl,S',N',l',m',k'⟩:=hr2
      repeat (any_goals (first|assumption|wp_step))
      exact h _ _ _ S' N' l' m' k'
     |_=>exact hr2.elim
  |_=>exact hr.elim
end
section
open PyProof.Rows
variable{X:Cx}
noncomputable def wM(w:World)(L:List Str)(a:Addr):HO:=.ext λh=>hV w h a L
theorem wM.ok(S:hV w h a L):a6 P w H h a (wM w L a):=
 ⟨S,let ⟨_,_,_,ho,_⟩:=S;⟨_,ho⟩,λ_ _ s k=>s.keep k⟩
noncomputable def Qt(w:World)(K:Wf):List V->Hp->VK->Prop:=λxs H Q=>∃(p:Addr) (ss:List Str),xs=[.ref p]/\aD K H p (ss.map V.str)/\ss.length<4000/\∀(q:Addr) (L:List Str),H q=none->L.Nodup->L.length<=ss.length->(∀y,y∈L↔y∈ss)->Q (.ref q) (upd H q (wM w L q))
theorem FG(hc:X.calm=true):cX X (.type "set") (Qt X.w X.K):=by
 intro pins s σ H xs us Q I r h;obtain⟨p,ss,rfl,hq,hz,q⟩:=h;obtain⟨u,rfl,rx⟩:=vals1 r;cases rx;obtain⟨its,r',pl,_⟩:=I.list hq;have hl:its.length=ss.length:=by rw[<-r'.length,az]
 have at_:∀(i:Nat) (v:Value),its.toArray[i]?=some v->∃t,v=Value.str (ss.getD i Str.empty) t:=λi v hv=>by
  rw[Pd]at hv;have hi:i<ss.length:=by rw[<-hl];exact(ig.mp hv).1
  obtain⟨u,hu,ru⟩:=r'.get (i:=i) (x:=.str ss[i]) (by rw[gh,jo hi];rfl);rw[hv]at hu;cases hu;obtain⟨t,rfl⟩:=ru;exact⟨t,by rw[P9,jo hi];rfl⟩
 refine A7 (I.ok.hd hc) pl.isList at_ (by rw[ij,hl];show _<4096;omega) λh' tk L S N hle hm kp=>?_;rw[ij,hl]at hle;refine⟨.ref s.heap.objs.size,_,I.laid (a:=s.heap.objs.size) (o:=wM X.w L s.heap.objs.size) (t':=tk) kp (bC _) (wM.ok S),rfl,q _ L (I.aV.fresh (bC _)) N hle λy=>?_⟩;rw[hm y,ij,hl];constructor
 ·rintro⟨j,hj,rfl⟩;rw[P9,jo hj];exact uJ hj
 ·intro z;obtain⟨j,hj,rfl⟩:=wm z;exact⟨j,hj,by rw[P9,jo hj];rfl⟩
noncomputable def vE(w:World):List V->Hp->VK->Prop:=λxs H Q=>∃(p:Addr) (L:List Str),xs=[.ref p]/\H p=some (wM w L p)/\L.length<64/\∀(l:Addr) (ss':List Str),H l=none->ss'.Perm L->ss'.Pairwise AL->Q (.ref l) (upd H l (.lst (ss'.map V.str)))
theorem qy(hc:X.calm=true):cX X (.builtin "sorted") (vE X.w):=by
 intro pins s σ H xs us Q I r h;obtain⟨p,L,rfl,hq,hz,q⟩:=h;obtain⟨u,rfl,rx⟩:=vals1 r;cases rx;have S:hV X.w s.heap p L:=(I.aV p _ hq).1;have hh:X.A.in1.handled=none:=by simp[I.ok.hd hc]
 refine mO (vF S hh λs1 vs ord kp g1 o1 pm hl at_=>?_);refine⟨ord,oz hl at_,by rw[hl,pm.length_eq];exact hz,λh2 out ss' D e k2 hD hg S2 pm2 pw=>?_⟩;have I1:Inv X pins σ H s1:=I.yS (ch:=[]) o1 (Un.kept kp) (I.aV.kept kp) (g1▸I.bare) λb hb=>nomatch hb
 exact⟨.ref D,_,I1.laid (a:=D) (o:=.lst (ss'.map V.str)) (t':=s1.toks) k2 hD ⟨by rw[az,pm2.length_eq,pm.length_eq,sizeLine_eq];omega,out,e,rR S2,by simpa using hg⟩,rfl,q _ ss' (I1.aV.fresh hD) (pm2.trans pm) pw⟩
end
end L2
namespace L2
open PySem PySem.Spec PyProof.Rows
section
variable{X:Cx}
end
structure Pr(H:Hp)(p:ah):Prop where
 sl:H p.ls=some (.lst (p.aI.map aL.v))
 nl:H p.ln=some (.lst (p.aK.map aj.v))
 ss:∀s∈p.aI,s.At H
 ns:∀n∈p.aK,n.At H
 nd:p.lists.Nodup
section
variable{prog:Program}{w:World}{K:Type} [DecidableEq K]{knd:HeapKind prog w K}{A:Around}{E:Vs}{s:Shared}
theorem grown(ho:h.get? d=some o)(hd:o.data=.dict es ep)(hc:o.ExactDict)
  (he:es.toList=xs.map (entryOfKey knd)) (his:∀x∈xs,knd.is h x.1 x.2.1) (hn:(xs.map (·.1)).Nodup) (hkey:knd.is h k a) (hno:∀(j:Nat) (p:Addr×Value),xs[j]?≠some (k,p)):
  (h.update d (Obj.mapDictKeys λl=>l.push ⟨knd.hash k,.ref a,v⟩)).DictOfH knd d (storedH xs k a v):=by
 have e:storedH xs k a v=xs++[(k,a,v)]:=storedH_new (atKey_none_of_get hno) a v;have keep:∀{c:K}{b:Addr},knd.is h c b->knd.is (h.update d (Obj.mapDictKeys λl=>l.push ⟨knd.hash k,.ref a,v⟩)) c b:=λq=>knd.keeps q ho hd (Heap.SameBut.update ..);have dat:=Obj.data_mapDictKeys hd λl=>l.push ⟨knd.hash k,.ref a,v⟩;refine e▸⟨_,es.push ⟨knd.hash k,.ref a,v⟩,ep+1,JU _ ho (Obj.isFreed_of_dict dat),hc.mapDictKeys _,dat,?_,?_,?_⟩
 ·rw[Array.toList_push,he,aY];rfl
 ·exact λx hx=>(bF.mp hx).elim (λq=>keep (his x q)) λq=>by cases bX.mp q;exact keep hkey
 ·rw[aY];refine f_.mpr ⟨hn,by simp,λx hx y hy q=>not_mem_keys_of_get hno ?_⟩;have ey:y=k:=by simpa using hy
  rw[<-ey,<-q];exact hx
theorem vH(hu:knd.room A)(hkey:knd.is s.heap k a)(hm:s.heap.DictOfH knd d xs)(hsz:xs.length<=sizeLine)
  (there:∀u,(atKey xs k).map (·.2)=some u->Q u { s with toks:=s.toks+knd.draws k })
  (new:(atKey xs k).map (·.2)=none->∀h',h'.DictOfH knd d (storedH xs k a v)->Heap.SameBut d s.heap h'->Q v { s with heap:=h',toks:=s.toks+knd.draws k }):
  wpAny (model prog w) A (dictSetDefault d (.ref a) v) Q E s:=by
 obtain⟨o,es,ep,ho,hc,hd,he,his,hn⟩:=hm;have hes:es.size<=sizeLine:=by rw[size_of_entries he];exact hsz
 have none_of:∀hno:(∀(j:Nat) (p:Addr×Value),xs[j]?≠some (k,p)),(atKey xs k).map (·.2)=none:=λhno=>by rw[atKey_none_of_get hno];rfl
 exact v9 (au (knd.pyHash hu hkey (au (wpAny_dictFind_heap (s:={ s with toks:=s.toks+knd.draws k }) hu hkey ho hd he his hn
  (λhno=>au (FR (au (wpAny_updateDictKeys (hz:=hes) (s:={ s with toks:=s.toks+knd.draws k }) ho hd (aP (new (none_of hno) _ (grown ho hd hc he his hn hkey hno) (Heap.SameBut.update ..)))))))
  λj p hj=>au (Ot (s:={ s with toks:=s.toks+knd.draws k }) ho hd (by
   rw[entry_at he j,hj];exact au (FR (aP (there p.2 (by rw[atKey_of_get hn hj];rfl))))))))))
theorem Fu(knd:HeapKind prog w K){d:Addr}(a:Addr)(hd:(d == sysModules)=false)(x:Value):
  MeetsIn prog w (Builtin.«dict.setdefault» ⟨[.ref d,.ref a,x],[]⟩) λA R s=>knd.room A.in1/\∃k xs,knd.is s.heap k a/\s.heap.DictOfH knd d xs/\xs.length<=sizeLine/\
   (∀v,(atKey xs k).map (·.2)=some v->R (.ok (.ret v)) { s with toks:=s.toks+knd.draws k })/\
   ((atKey xs k).map (·.2)=none->∀h',h'.DictOfH knd d (storedH xs k a x)->Heap.SameBut d s.heap h'->R (.ok (.ret x)) { s with heap:=h',toks:=s.toks+knd.draws k }):=by
 refine .of_wp ?_;rintro A R s ⟨hu,k,xs,hkey,hm,hz,there,new⟩;have main:=vH (v:=x) (E:=λe s'=>R (.error e) s') (Q:=λv s'=>R (.ok (.ret v)) s') hu hkey hm hz there new;refine au (au (wpAny_notOrdered_dict hm.typeIs (aP ?_)));simp only[hd,Bool.false_eq_true,if_false];exact au (nF main (λv s' q=>aP ⟨v,rfl,q⟩) λ_ _ q=>q)
end
section
variable{X:Cx}{pins:Lo}{σ:St}{H:Hp}{s:Shared}{a:Addr}{y d:V}{u r:Value}{o:Option V}{A:Around}{E:Vs}
theorem F3(hu:A.units+1<cLine)(I:Inv X pins σ H s)(g:bx H a y o)(p:eM H a y d H')(ry:RelV y u)(rd:RelV d r)
  (h1:∀v w' s',o=some v->Inv X pins σ H s'->RelV v w'->Q w' s') (h2:∀w' s',o=none->Inv X pins σ H' s'->RelV d w'->Q w' s'):
  wpAny (model X.prog X.w) A (call (.builtin "dict.setdefault") [.ref a,u,r]) Q E s:=by
 rcases p with ⟨af,k,e,ey,l,eH⟩|⟨af,k,b,e,ey,eb,l,eH⟩
 ·subst ey eH;obtain⟨z,hd,vs,rel,dd⟩:=nh I.aV e;have go:o=a8 af k:=by
   rcases g with ⟨kvs',k',e',ey',l'⟩|⟨kvs',k',b,e',ey',eb',l'⟩
   ·have ek:k'=k:=by cases k<;>cases k'<;>simp_all [kV]
    rcases e' with e'|⟨ob,e'⟩
    ·rw[e]at e';cases e';rw[l',ek]
    ·rw[e]at e';cases e'
   ·cases k<;>cases ey'
  have hz:vs.length<=sizeLine:=by rw[<-rel.length];exact z
  have hl:(putK af k d).length<=sizeLine:=by have:=cY af k d;omega
  refine call_meetsIn PySem.F.slot_dict_setdefault dd.typeIs PySem.F.entry_dict_setdefault (PySem.F.args_dict_setdefault_3 _ _ _) (kt_meets_setdefault (aW X.prog X.w) a (iW ry) hd r) ⟨vs,dd,hz,λv hv=>?_,λhn h' dd' hs=>?_⟩
  ·have q:=rel.val k;rw[hv]at q;cases ho:a8 af k with
   |none=>rw[ho]at q;exact q.elim
   |some v'=>rw[ho]at q;exact h1 v' v _ (by rw[go,ho]) (I.tok _) q
  ·have q:=rel.val k;rw[hn]at q;have ho:a8 af k=none:=by
    cases ho:a8 af k with
    |none=>rfl
    |some v'=>rw[ho]at q;exact q.elim
   have he:∃q,h'.get? a=some q:=let ⟨q,_,_,hq,_⟩:=dd';⟨q,hq⟩
   exact h2 r _ (by rw[go,ho]) (g6 I (by rw[e];exact True.intro) hs he (uv hl hd (rel.put k rd) dd')) rd
 ·subst ey eH;cases (show u=Value.ref b from ry);obtain⟨z,hd,xs,rel,dd⟩:=GN I.aV e;have go:o=a8 af k:=by
   rcases g with ⟨kvs',k',e',ey',l'⟩|⟨kvs',k',b',e',ey',eb',l'⟩
   ·cases k'<;>cases ey'
   ·cases ey';have ek:k'=k:=by
     rw[eb]at eb';injection eb' with eb';injection eb' with eb';exact(List.map_inj_right (f:=kV) (by intro x y q;cases x<;>cases y<;>simp_all [kV])).mp eb'.symm
    rcases e' with e'|⟨ob,e'⟩
    ·rw[e]at e';cases e';rw[l',ek]
    ·rw[e]at e';cases e'
  have hz:xs.length<=sizeLine:=by rw[<-Paired.length rel];exact z
  have hl:(putK af k d).length<=sizeLine:=by have:=cY af k d;omega
  refine call_meetsIn PySem.F.slot_dict_setdefault dd.typeIs PySem.F.entry_dict_setdefault (PySem.F.args_dict_setdefault_3 _ _ _) (Fu (tupleKind (aW X.prog X.w)) b hd r) ⟨tupleKind_room_in1 hu,k,xs,eZ I.aV eb,dd,hz,λv hv=>?_,λhn h' dd' hs=>?_⟩
  ·have q:=rel.val k;rw[hv]at q;cases ho:a8 af k with
   |none=>rw[ho]at q;exact q.elim
   |some v'=>rw[ho]at q;exact h1 v' v _ (by rw[go,ho]) (I.tok _) q
  ·have q:=rel.val k;rw[hn]at q;have ho:a8 af k=none:=by
    cases ho:a8 af k with
    |none=>rfl
    |some v'=>rw[ho]at q;exact q.elim
   obtain⟨qo,es,ep,hq,g2,g3,g4,_,g5⟩:=dd';refine h2 r _ (by rw[go,ho]) (g6 I (by rw[e];exact True.intro) hs ⟨qo,hq⟩ ⟨hl,hd,_,(rel.put k eb rd).keeps λc ys ec=>?_,qo,es,ep,hq,g2,g3,g4,g5⟩) rd;rw[ae (bD ec e (λz=>nomatch z))];exact ec
end
def Rb(td ty tx:TE):TE:=λσ H Q=>td σ H λx H1=>∃a,x=.ref a/\Qy H1 a/\ty σ H1 λy H2=>tx σ H2 λz H3=>∃o H4,bx H3 a y o/\eM H3 a y z H4/\(∀v,o=some v->Q v H3)/\(o=none->Q z H4)
section
variable{X:Cx}{o e f:Expr}{apos cpos:Pos}{td ty tx:TE}
theorem E5(hu:X.A.units+1<cLine)(ho:PE X o td)(he:PE X e ty)(hf:PE X f tx)(m:M2 X o "setdefault" apos e f cpos):PE X (.Call (.Attribute o "setdefault" apos) [e,f] [] cpos) (Rb td ty tx):=by
 intro pins s σ H Q I h;refine wpAny_Call_method m.base m.cy m.line PySem.F.plainAttrs_dict PySem.F.slot_dict_setdefault PySem.F.type_dict_setdefault (bE (ho pins s σ H _ I h) λu s1 ⟨x,H1,I1,rx,a,ex,d,q1⟩=>?_);subst ex;obtain rfl:u=Value.ref a:=rx;obtain⟨t1,t2,_⟩:=xK I1 d;refine⟨t1,t2,?_⟩;rw[m.trees];refine Calls.callWith_builtin rfl (Calls.evalArgs_plain (Calls.spliced_cons (bE (he pins s1 σ H1 _ I1 q1) λiv s2 ⟨y,H2,I2,ry,q2⟩=>
  Calls.spliced_cons (bE (hf pins s2 σ H2 _ I2 q2) λfv s3 ⟨z,H3,I3,rz,ov,H4,g,p,q3,q4⟩=>Calls.spliced_nil ?_))))
 exact F3 hu I3 g p ry rz (λv w' s4 e4 I4 rw'=>⟨v,H3,I4,rw',q3 v e4⟩) (λw' s4 e4 I4 rw'=>⟨z,H4,I4,rw',q4 e4⟩)
end
section
variable{prog:Program}{w:World}{A:Around}{E:Vs}{s:Shared}{kd:SortKind}{r:Keyed->Nat}{base:Array Keyed}
noncomputable def rk(r:Keyed->Nat)(xs:Array Keyed)(i:Nat):Nat:=(xs[i]?.map r).getD 0
def dW(r:Keyed->Nat)(xs:Array Keyed)(n:Nat):Prop:=∀i j,i<=j->j<n->rk r xs i<=rk r xs j
def jd(r:Keyed->Nat)(xs:Array Keyed)(n:Nat):Prop:=∀i j,i<=j->j<n->rk r xs j<=rk r xs i
def Flat(r:Keyed->Nat)(xs:Array Keyed)(n q:Nat):Prop:=q+1<=n/\∀i,n<=i+(q+1)->i<n->rk r xs i=rk r xs (n - 1)
theorem dW.one(xs:Array Keyed):dW r xs 1:=λi j a b=>by rw[show i=j by omega];exact bC _
theorem jd.one(xs:Array Keyed):jd r xs 1:=λi j a b=>by rw[show i=j by omega];exact bC _
theorem dW.more(h:dW r xs n)(h1:1<=n)(hn:rk r xs (n - 1)<=rk r xs n):dW r xs (n+1):=λi j a b=>by
 by_cases z:j<n
 ·exact h i j a z
 ·rw[show j=n by omega];by_cases y:i=n
  ·rw[y];exact bC _
  ·exact f9 (h i (n - 1) (by omega) (by omega)) hn
theorem jd.more(h:jd r xs n)(h1:1<=n)(hn:rk r xs n<=rk r xs (n - 1)):jd r xs (n+1):=λi j a b=>by
 by_cases z:j<n
 ·exact h i j a z
 ·rw[show j=n by omega];by_cases y:i=n
  ·rw[y];exact bC _
  ·exact f9 hn (h i (n - 1) (by omega) (by omega))
theorem kq(hj:j<=xs.size)(k:Nat):rk r (mirror xs i j ((j - i)/2)) k=if i<=k/\k<j then rk r xs (i+j - 1 - k) else rk r xs k:=by
 unfold rk;rw[getElem?_mirror_all hj k];by_cases z:i<=k/\k<j
 ·rw[if_pos z,if_pos z]
 ·rw[if_neg z,if_neg z]
theorem yB(h:Flat r xs n q)(hn:n<=xs.size)(k:Nat):rk r (mirror xs (n - (q+1)) n ((n - (n - (q+1)))/2)) k=rk r xs k:=by
 rw[kq hn];by_cases z:n - (q+1)<=k/\k<n
 ·rw[if_pos z,h.2 _ (by omega) (by omega),h.2 k (by omega) (by omega)]
 ·rw[if_neg z]
theorem jd.turned(h:jd r xs n)(hn:n<=xs.size):dW r (mirror xs 0 n ((n - 0)/2)) n:=λi j a b=>by
 rw[kq hn,kq hn,if_pos (by omega),if_pos (by omega)];exact h _ _ (by omega) (by omega)
structure kC(kd:SortKind)(base:Array Keyed)(st:SortSt):Prop where
 pm:(arrOf st).Perm base
 kd:kindOf st=kd
 ok:failedOf st=none
 pn:pendingOf st=#[]
theorem kC.len{st:SortSt}(h:kC kd base st):(arrOf st).size=base.size:=h.pm.size_eq
theorem kC.put{st:SortSt}(h:kC kd base st){xs:Array Keyed}(p:xs.Perm (arrOf st)):kC kd base (setArr st xs):=⟨p.trans h.pm,h.kd,h.ok,h.pn⟩
def mh(prog:Program)(w:World)(A:Around)(E:Vs)(s:Shared)(kd:SortKind)(r:Keyed->Nat)(base:Array Keyed):Prop:=
 ∀x∈base.toList,∀y∈base.toList,∀Q:Bool->Shared->Prop,Q (decide (r x<r y)) s->wpAny (model prog w) A (keyLt' kd x.1 y.1) Q (λ_ _=>False) s
theorem asked{st:SortSt}{i j:Nat}{Q:Option Bool->SortSt->Prop}(ask:mh prog w A E s kd r base)(S:kC kd base st)(hi:i<base.size)(hj:j<base.size)
  (q:Q (some (decide (rk r (arrOf st) i<rk r (arrOf st) j))) st):wpS (model prog w) A E s (ltAt' i j) Q st:=by
 have li:i<(arrOf st).size:=by rw[S.len];exact hi
 have lj:j<(arrOf st).size:=by rw[S.len];exact hj
 have ei:(arrOf st)[i]?=some (arrOf st)[i]:=getElem?_pos _ i li;have ej:(arrOf st)[j]?=some (arrOf st)[j]:=getElem?_pos _ j lj;have mem:∀{k:Nat}(h:k<(arrOf st).size),(arrOf st)[k]∈base.toList:=λ{k} h=>(Array.perm_iff_toList_perm.mp S.pm).mem_iff.mp (Array.getElem_mem_toList h);unfold rk at q;rw[ei,ej]at q;rw[ltAt'_eq];refine wpS_bind (wpS_get ?_);dsimp only;rw[elem'_eq,elem'_eq,ei,ej];refine wpS_bind (wpS_pure (wpS_bind (wpS_pure ?_)));rw[lt'_eq];refine wpS_bind (wpS_get (wpS_bind (wpS_lift (JQ ?_))));rw[S.kd];exact nF (ask _ (mem li) _ (mem lj) (λb s'=>b=decide (r (arrOf st)[i]<r (arrOf st)[j])/\s'=s) ⟨rfl,rfl⟩) (λb s' ⟨e1,e2⟩=>⟨e2,by subst e1;exact wpS_pure q⟩) λ_ _ z=>z.elim
theorem vM{st:SortSt}{a n:Nat}{Q:AscSt->SortSt->Prop}(ask:mh prog w A E s kd r base)(S:kC kd base st)(ha:1<=a)(han:a<=n)(hn:n<=base.size)(up:dW r (arrOf st) a)
  (k:∀m,a<=m->m<=n->dW r (arrOf st) m->(m=n\/rk r (arrOf st) m<rk r (arrOf st) (m - 1))->Q (none,m) st):wpS (model prog w) A E s (ascLoop a n) Q st:=by
 refine wpS_forRange (I:=λm c st'=>st'=st/\c=(none,m)/\dW r (arrOf st) m) (λm c st' am mn ⟨e1,e2,up'⟩=>?_) (λc st' ⟨e1,e2,up'⟩=>?_) ⟨rfl,rfl,up⟩
 ·subst e1 e2;refine wpS_bind (asked ask S (by omega) (by show m - 1<_;omega) ?_);by_cases lt:rk r (arrOf st') m<rk r (arrOf st') (m - 1)
  ·simp only[decide_eq_true lt,if_true];exact wpS_pure (k m am (by omega) up' (.inr lt))
  ·simp only[decide_eq_false lt,Bool.false_eq_true,if_false];exact wpS_pure ⟨rfl,rfl,up'.more (by omega) (by omega)⟩
 ·subst e1 e2;have e:max a n=n:=by omega
  rw[e]at up' ⊢;exact k n han (bC _) up' (.inl rfl)
theorem nE{st:SortSt}{m n:Nat}{Q:Option Nat->SortSt->Prop}(ask:mh prog w A E s kd r base)(S:kC kd base st)(h1:1<=m)(hm:m<=n)(hn:n<=base.size)(dn:jd r (arrOf st) m)
  (k:∀j st',kC kd base st'->1<=j->j<=n->dW r (arrOf st') j->Q (some j) st'):wpS (model prog w) A E s (tail3 m n) Q st:=by
 have up:=dn.turned (by rw[S.len];omega);have S':=S.put (mirror_perm (arrOf st) 0 m ((m - 0)/2));exact wpS_bind (wpS_reverse (wpS_bind (vM ask S' h1 hm hn up λj mj jn up' _=>wpS_pure (k j _ S' (by omega) jn up'))))
theorem BJ{st:SortSt}{a n:Nat}{Q:DescSt->SortSt->Prop}(ask:mh prog w A E s kd r base)(S:kC kd base st)(ha:1<=a)(han:a<=n)(hn:n<=base.size)(dn:jd r (arrOf st) a)
  (k:∀m q st',kC kd base st'->a<=m->m<=n->jd r (arrOf st') m->Flat r (arrOf st') m q->Q (none,m,q) st'):wpS (model prog w) A E s (descLoop a n) Q st:=by
 refine wpS_forRange (I:=λm c st'=>kC kd base st'/\∃q,c=(none,m,q)/\jd r (arrOf st') m/\Flat r (arrOf st') m q) (λm c st' am mn ⟨S',q,e,dn',fl⟩=>?_) (λc st' ⟨S',q,e,dn',fl⟩=>?_)
  ⟨S,0,rfl,dn,ha,λi p1 p2=>by rw[show i=a - 1 by omega]⟩
 ·subst e;have sz:m<(arrOf st').size:=by rw[S'.len];omega
  have one:∀xs:Array Keyed,Flat r xs (m+1) 0:=λxs=>⟨by omega,λi a b=>by rw[show i=m by omega];rfl⟩;refine wpS_bind (asked ask S' (by show m<_;omega) (by show m - 1<_;omega) ?_);by_cases lt:rk r (arrOf st') m<rk r (arrOf st') (m - 1)
  ·simp only[decide_eq_true lt,if_true];by_cases q0:q>0
   ·rw[if_pos q0];have same:=yB fl (Ht sz);refine wpS_bind (wpS_reverse (wpS_pure ⟨S'.put (mirror_perm ..),0,rfl,jd.more (λi j a b=>?_) (by omega) ?_,one _⟩))
    ·show rk r (mirror _ _ _ _) j<=rk r (mirror _ _ _ _) i;rw[same,same];exact dn' i j a b
    ·show rk r (mirror _ _ _ _) m<=rk r (mirror _ _ _ _) (m - 1);rw[same,same];exact Ht lt
   ·rw[if_neg q0];exact wpS_pure ⟨S',0,rfl,dn'.more (by omega) (Ht lt),one _⟩
  ·simp only[decide_eq_false lt,Bool.false_eq_true,if_false];refine wpS_bind (asked ask S' (by show m - 1<_;omega) (by show m<_;omega) ?_);by_cases gt:rk r (arrOf st') (m - 1)<rk r (arrOf st') m
   ·simp only[decide_eq_true gt,if_true];exact wpS_pure (k m q st' S' am (by omega) dn' fl)
   ·simp only[decide_eq_false gt,Bool.false_eq_true,if_false];refine wpS_pure ⟨S',q+1,rfl,dn'.more (by omega) (by omega),by have:=fl.1;omega,λi a b=>?_⟩;show _=rk r (arrOf st') m;by_cases z:i=m
    ·rw[z]
    ·have:=fl.2 i (by omega) (by omega);omega
 ·subst e;have e:max a n=n:=by omega
  rw[e]at dn' fl ⊢;exact k n q st' S' han (bC _) dn' fl
theorem mR{st:SortSt}{m n:Nat}{Q:Option Nat->SortSt->Prop}(ask:mh prog w A E s kd r base)(S:kC kd base st)(hm:m+1<=n)(hn:n<=base.size)(dn:jd r (arrOf st) (m+1))
  (k:∀j st',kC kd base st'->1<=j->j<=n->dW r (arrOf st') j->Q (some j) st'):wpS (model prog w) A E s (descPart m n) Q st:=by
 refine wpS_bind (wpS_lift (FR ⟨rfl,wpS_bind (BJ ask S (by omega) hm hn dn λj q st' S' mj jn dn' fl=>?_)⟩));by_cases q0:q>0
 ·have same:=yB fl (by rw[S'.len];omega);simp only[q0,if_true];exact wpS_bind (wpS_reverse (nE ask (S'.put (mirror_perm ..)) (by omega) jn hn (λi l a b=>by show rk r (mirror _ _ _ _) l<=rk r (mirror _ _ _ _) i;rw[same,same];exact dn' i l a b) k))
 ·simp only[q0,if_false];exact nE ask S' (by omega) jn hn dn' k
theorem BB{st:SortSt}{n:Nat}{Q:Option Nat->SortSt->Prop}(ask:mh prog w A E s kd r base)(S:kC kd base st)(h1:1<=n)(hn:n<=base.size)
  (k:∀j st',kC kd base st'->1<=j->j<=n->dW r (arrOf st') j->Q (some j) st'):wpS (model prog w) A E s (countRun' 0 n) Q st:=by
 rw[countRun0_eq];refine wpS_bind (vM ask S (bC 1) h1 hn (dW.one _) λm m1 mn up why=>?_);by_cases z:m=n
 ·simp only[beq_iff_eq,z,if_true];exact wpS_pure (k n st S h1 (bC _) (z▸up))
 ·have lt:=why.resolve_left z;simp only[beq_iff_eq,z,if_false];by_cases m2:m>1
  ·rw[if_pos m2];refine wpS_bind (asked ask S (by omega) (by show m - 1<_;omega) ?_);by_cases rose:rk r (arrOf st) 0<rk r (arrOf st) (m - 1)
   ·simp only[decide_eq_true rose,if_true];exact wpS_pure (k m st S m1 mn up)
   ·simp only[decide_eq_false rose,Bool.false_eq_true,if_false];have eq:∀i,i<m->rk r (arrOf st) i=rk r (arrOf st) (m - 1):=λi hi=>by
     have a:=up 0 i (by omega) hi;have b:=up i (m - 1) (by omega) (by omega);omega
    have sz:m<=(arrOf st).size:=by rw[S.len];omega
    have same:∀i,rk r (mirror (arrOf st) 0 m ((m - 0)/2)) i=rk r (arrOf st) i:=λi=>by
     rw[kq sz];by_cases y:0<=i/\i<m
     ·rw[if_pos y,eq _ (by omega),eq i y.2]
     ·rw[if_neg y]
    refine wpS_bind (wpS_reverse (mR ask (S.put (mirror_perm ..)) (by omega) hn (λi j a b=>?_) k));show rk r (mirror (arrOf st) 0 m ((m - 0)/2)) j<=rk r (mirror (arrOf st) 0 m ((m - 0)/2)) i;rw[same,same];by_cases jm:j=m
    ·by_cases im:i=m
     ·rw[jm,im];exact bC _
     ·have:=eq i (by omega);rw[jm];omega
    ·have a1:=eq i (by omega);have a2:=eq j (by omega);omega
  ·rw[if_neg m2];have e:m=1:=by omega
   subst e;exact mR ask S (by omega) hn ((jd.one _).more (bC _) (Ht lt)) k
theorem u6(hk:k<xs.size)(hl:l<=k)(i:Nat):rk r (bubble xs k (k - l)) i=if i=l then rk r xs k else if l<i/\i<=k then rk r xs (i - 1) else rk r xs i:=by
 have e:=getElem?_bubble hk (k - l) (by omega) i;rw[show k - (k - l)=l by omega]at e;unfold rk;rw[e];by_cases a:i=l
 ·rw[if_pos a,if_pos a]
 ·rw[if_neg a,if_neg a];by_cases b:l<i/\i<=k
  ·rw[if_pos b,if_pos b]
  ·rw[if_neg b,if_neg b]
theorem MR{st:SortSt}{n ok:Nat}{Q:Bool->SortSt->Prop}(ask:mh prog w A E s kd r base)(S:kC kd base st)(h1:1<=ok)(aV:ok<=n)(hn:n<=base.size)(up:dW r (arrOf st) ok)
  (q:∀st',kC kd base st'->dW r (arrOf st') n->Q true st'):wpS (model prog w) A E s (binarySort' 0 n ok) Q st:=by
 rw[binarySort'_eq];simp only[Nat.zero_add];have e1:max ok 1=ok:=by omega
 rw[e1];refine wpS_bind (wpS_mono (wpS_forRange (I:=λk c st'=>c=(none,())/\kC kd base st'/\dW r (arrOf st') k) (Q:=λc st'=>c=(none,())/\kC kd base st'/\dW r (arrOf st') n) (λk c st' ak kn ⟨e,S',up'⟩=>?step) (λc st' ⟨e,S',up'⟩=>?fin) ⟨rfl,S,up⟩) ?post)
 case step=>
  subst e;have hk:k<(arrOf st').size:=by rw[S'.len];omega
  refine wpS_bind (wpS_mono (wpS_forRange (I:=λx c st2=>st2=st'/\∃l u,c=(none,l,u)/\l<=u/\u<=k/\u - l+x<=k/\(∀i,i<l->rk r (arrOf st') i<=rk r (arrOf st') k)/\∀i,u<=i->i<k->rk r (arrOf st') k<rk r (arrOf st') i)
   (Q:=λc st2=>st2=st'/\∃l u,c=(none,l,u)/\l<=k/\(∀i,i<l->rk r (arrOf st') i<=rk r (arrOf st') k)/\∀i,l<=i->i<k->rk r (arrOf st') k<rk r (arrOf st') i)
   (λx c st2 _ xk ⟨e,l,u,ec,lu,uk,small,lo,hi⟩=>?look) (λc st2 ⟨e,l,u,ec,lu,uk,small,lo,hi⟩=>⟨e,l,u,ec,by omega,lo,λi a b=>hi i (by omega) b⟩) ⟨rfl,0,k,rfl,by omega,by omega,by omega,λi a=>by omega,λi a b=>by omega⟩) ?move)
  case look=>
   subst e ec;dsimp only;by_cases z:l≥u
   ·rw[if_pos z];exact wpS_pure ⟨rfl,l,u,rfl,by omega,lo,λi a b=>hi i (by omega) b⟩
   ·rw[if_neg z];refine wpS_bind (asked ask S' (by omega) (by omega) ?_);by_cases lt:rk r (arrOf st2) k<rk r (arrOf st2) ((l+u)/2)
    ·simp only[decide_eq_true lt,if_true];exact wpS_pure ⟨rfl,l,(l+u)/2,rfl,by omega,by omega,by omega,lo,λi a b=>mC lt (up' _ _ a b)⟩
    ·simp only[decide_eq_false lt,Bool.false_eq_true,if_false];exact wpS_pure ⟨rfl,(l+u)/2+1,u,rfl,by omega,by omega,by omega,λi a=>f9 (up' i ((l+u)/2) (by omega) (by omega)) (by omega),hi⟩
  case move=>
   rintro c st2 ⟨rfl,l,u,rfl,lk,lo,hi⟩;dsimp only;rw[moveDown'_eq];refine wpS_bind (wpS_modify (wpS_pure ⟨rfl,S'.put (bubble_perm ..),λi j a b=>?_⟩));show rk r (bubble (arrOf st2) k (k - l)) i<=rk r (bubble (arrOf st2) k (k - l)) j;rw[u6 hk lk,u6 hk lk];have U:=λx y (p:x<=y) (q:y<k)=>up' x y p q;by_cases c1:i=l
   ·rw[if_pos c1];by_cases c2:j=l
    ·rw[if_pos c2];exact bC _
    ·rw[if_neg c2,if_pos (by omega)];exact Ht (hi _ (by omega) (by omega))
   ·rw[if_neg c1];by_cases c3:l<i/\i<=k
    ·rw[if_pos c3,if_neg (by omega),if_pos (by omega)];exact U _ _ (by omega) (by omega)
    ·rw[if_neg c3];by_cases c2:j=l
     ·rw[if_pos c2];exact lo i (by omega)
     ·rw[if_neg c2];by_cases c4:l<j/\j<=k
      ·rw[if_pos c4];exact U _ _ (by omega) (by omega)
      ·rw[if_neg c4];exact U _ _ (by omega) (by omega)
 case fin=>
  have e2:max ok n=n:=by omega
  rw[e2]at up';exact⟨e,S',up'⟩
 case post=>
  rintro c st' ⟨rfl,S',up'⟩;exact wpS_pure (q st' S' up')
theorem uV{st:SortSt}{Q:Unit->SortSt->Prop}(ask:mh prog w A E s kd r base)(S:kC kd base st)(h2:2<=base.size)(h64:base.size<64)
  (k:∀st',(arrOf st').Perm base->failedOf st'=none->dW r (arrOf st') base.size->Q () st'):wpS (model prog w) A E s sortRuns' Q st:=by
 have run:minRun' base.size base.size 0=base.size:=by
  generalize base.size=n at h2 h64;cases n with
  |zero=>omega
  |succ f=>rw[minRun'_succ,if_pos h64]
 rw[sortRuns'_eq];refine wpS_bind (wpS_get ?_);simp only[S.len,run];refine wpS_bind (wpS_mono (wpS_forRange (I:=λx c st'=>if x=0 then c=(none,0)/\kC kd base st' else c=(none,base.size)/\(arrOf st').Perm base/\failedOf st'=none/\(pendingOf st').size=1/\dW r (arrOf st') base.size)
  (Q:=λc st'=>c=(none,base.size)/\(arrOf st').Perm base/\failedOf st'=none/\(pendingOf st').size=1/\dW r (arrOf st') base.size) (λx c st' _ xn h=>?turn) (λc st' h=>?end_) ?start) ?rest)
 case start=>rw[if_pos rfl];exact⟨rfl,S⟩
 case end_=>rwa [if_neg (by omega)]at h
 case turn=>
  by_cases x0:x=0
  ·rw[if_pos x0]at h;obtain⟨rfl,S'⟩:=h;have pend:∀{st2:SortSt},kC kd base st2->dW r (arrOf st2) base.size->(arrOf (setPending st2 ((pendingOf st2).push (0,base.size,0)))).Perm base/\failedOf (setPending st2 ((pendingOf st2).push (0,base.size,0)))=none/\(pendingOf (setPending st2 ((pendingOf st2).push (0,base.size,0)))).size=1/\dW r (arrOf (setPending st2 ((pendingOf st2).push (0,base.size,0)))) base.size:=λ{st2} S2 up=>by
    refine⟨S2.pm,S2.ok,?_,up⟩;show((pendingOf st2).push (0,base.size,0)).size=1;rw[S2.pn];rfl
   dsimp only;rw[if_neg (by omega)];simp only[Nat.sub_zero,Nat.min_self,Nat.zero_add];refine wpS_bind (BB ask S' (by omega) (bC _) λm st2 S2 m1 mn up=>?_);have last:∀{st3:SortSt},kC kd base st3->(pendingOf st3).back?=none:=λ{st3} S3=>by rw[S3.pn];rfl
   dsimp only;by_cases lt:m<base.size
   ·rw[if_pos lt];refine wpS_bind (wpS_lift (FR ⟨rfl,wpS_bind (MR ask S2 m1 mn (bC _) up λst3 S3 up3=>?_)⟩));simp only[Bool.not_true,Bool.false_eq_true,if_false];refine wpS_bind (wpS_get ?_);rw[last S3];refine wpS_bind (wpS_modify (wpS_pure ?_));dsimp only;rw[if_neg (by omega)];exact⟨rfl,pend S3 up3⟩
   ·rw[if_neg lt];have e:m=base.size:=by omega
    subst e;refine wpS_bind (wpS_get ?_);rw[last S2];refine wpS_bind (wpS_modify (wpS_pure ?_));dsimp only;rw[if_neg (by omega)];exact⟨rfl,pend S2 up⟩
  ·rw[if_neg x0]at h;obtain⟨rfl,h⟩:=h;dsimp only;rw[if_pos (bC _)];exact wpS_pure ⟨rfl,h⟩
 case rest=>
  rintro c st' ⟨rfl,p1,p2,p3,p4⟩;refine wpS_bind (wpS_mono (wpS_forRange (I:=λ_ c st2=>c=(none,())/\st2=st') (Q:=λc st2=>c=(none,())/\st2=st') (λx c st2 _ _ ⟨e1,e2⟩=>?iY) (λ_ _ h=>h) ⟨rfl,rfl⟩) ?done)
  case iY=>
   subst e1 e2;refine wpS_bind (wpS_get ?_);rw[if_pos (Nat.le_of_eq p3)];exact wpS_pure ⟨rfl,rfl⟩
  case done=>
   rintro c st2 ⟨rfl,rfl⟩;exact wpS_pure (k st2 p1 p2 p4)
end
noncomputable abbrev aH:=Str×Int
noncomputable def kX(a b:aH):Bool:=if a.1=b.1 then decide (a.2<b.2) else decide (a.1.cps.toList<b.1.cps.toList)
def jE(a b:aH):Prop:=kX b a=false
theorem yE{a b:Str}(h:a.cps.toList=b.cps.toList):a=b:=by
 cases a;cases b;congr 1;exact Array.toList_inj.mp h
theorem Ae(a:aH):kX a a=false:=by unfold kX;rw[if_pos rfl];simp
theorem fz(a b:aH):kX a b=true↔a.1.cps.toList<b.1.cps.toList\/(a.1=b.1/\a.2<b.2):=by
 unfold kX;by_cases h:a.1=b.1
 ·rw[if_pos h,decide_eq_true_eq];exact⟨λq=>.inr ⟨h,q⟩,λq=>q.elim (λz=>absurd z (by rw[h];exact List.lt_irrefl _)) (·.2)⟩
 ·rw[if_neg h,decide_eq_true_eq];exact⟨.inl,λq=>q.elim id λz=>absurd z.1 h⟩
theorem jM(h1:kX a b=true)(h2:kX b c=true):kX a c=true:=by
 rw[fz]at *;rcases h1 with h1|⟨e1,h1⟩<;>rcases h2 with h2|⟨e2,h2⟩
 ·exact .inl (List.lt_trans h1 h2)
 ·exact .inl (by rw[<-e2];exact h1)
 ·exact .inl (by rw[e1];exact h2)
 ·exact .inr ⟨e1.trans e2,by omega⟩
theorem jD(h1:kX a b=false)(h2:kX b a=false):a=b:=by
 have n1:¬(a.1.cps.toList<b.1.cps.toList\/(a.1=b.1/\a.2<b.2)):=λq=>by rw[(fz a b).mpr q]at h1;cases h1
 have n2:¬(b.1.cps.toList<a.1.cps.toList\/(b.1=a.1/\b.2<a.2)):=λq=>by rw[(fz b a).mpr q]at h2;cases h2
 have e:a.1=b.1:=yE (List.le_antisymm (List.not_lt.mp λq=>n2 (.inl q)) (List.not_lt.mp λq=>n1 (.inl q)));have e2:a.2=b.2:=by
  have m1:¬a.2<b.2:=λq=>n1 (.inr ⟨e,q⟩);have m2:¬b.2<a.2:=λq=>n2 (.inr ⟨e.symm,q⟩);omega
 exact Prod.ext e e2
theorem Bk(h1:jE a b)(h2:jE b c):jE a c:=by
 unfold jE at *;cases h:kX c a with
 |false=>rfl
 |true=>
  exfalso
  cases hb:kX b a with
  |true=>rw[hb]at h1;cases h1
  |false=>
   cases ha:kX a b with
   |true=>rw[jM h ha]at h2;cases h2
   |false=>rw[jD ha hb]at h;rw[h]at h2;cases h2
theorem vP(h1:jE a b)(h2:jE b a):a=b:=jD h2 h1
noncomputable def jR(ds:List aH)(d:aH):Nat:=ds.countP λe=>kX e d
theorem ni{α:Type}{p q:α->Bool}:∀{l:List α},(∀x∈l,p x=true->q x=true)->(∃x∈l,q x=true/\p x=false)->l.countP p<l.countP q
 |[],_,⟨x,hx,_⟩=>nomatch hx
 |y::l,h,⟨x,hx,h1,h2⟩=>by
  have le:l.countP p<=l.countP q:=List.countP_mono_left λz hz hp=>h z (.tail _ hz) hp;rw[List.countP_cons,List.countP_cons];rcases iG.mp hx with rfl|hx
  ·rw[if_pos h1,if_neg (by rw[h2];simp)];omega
  ·have:=ni (λz hz=>h z (.tail _ hz)) ⟨x,hx,h1,h2⟩;by_cases z:p y=true
   ·rw[if_pos z,if_pos (h y (.head _) z)];omega
   ·rw[if_neg z];split<;>omega
theorem iX(ha:a∈ds):decide (jR ds a<jR ds b)=kX a b:=by
 cases h:kX a b with
 |true=>exact decide_eq_true (ni (λx _ q=>jM q h) ⟨a,ha,h,Ae a⟩)
 |false=>
  refine decide_eq_false (Nat.not_lt.mpr (List.countP_mono_left λx _ q=>?_));have le:jE x a:=Bk (a:=x) (b:=b) (c:=a) (by
   unfold jE;cases z:kX b x with
   |false=>rfl
   |true=>have:=jM q z;rw[Ae]at this;cases this) h
  cases z:kX x a with
  |true=>rfl
  |false=>
   have e:x=a:=jD z le;rw[e]at q;rw[q]at h;cases h
section
variable{prog:Program}{w:World}{A:Around}{E:Vs}{s:Shared}
def AN(h:Heap)(b:Addr)(d:aH):Prop:=∃t u,dz h b (.str d.1 t) (.int d.2 u)
theorem vI(f:Bool)(x y:Value):keyLt' (tuples' f) x y=(do
  let xs <-Builtin.List.listItems x
  let ys <-Builtin.List.listItems y
  for ((p,q),i) in (xs.toList.zip ys.toList).zipIdx do
   if !(<-eqBool p q) then return <-oneLt' (f&&i == 0) p q
  return decide (xs.size<ys.size)):=rfl
theorem lt_num(q:Q (decide (a<b)) s):wpAny (model prog w) A (oneLt' false (.int a t) (.int b u)) Q E s:=
 au (wpAny_lt_int (Lb q))
theorem GK(hb:AN s.heap b x)(hc:AN s.heap c y)(q:Q (kX x y) s):wpAny (model prog w) A (keyLt' (tuples' true) (.ref b) (.ref c)) Q E s:=by
 obtain⟨t,u,o1,n1,g1,_,d1⟩:=hb;obtain⟨t',u',o2,n2,g2,_,d2⟩:=hc;rw[vI];refine au (listItems_at g1 d1 (au (listItems_at g2 d2 ?_)));simp only[List.zip_cons_cons,List.zipIdx_cons,List.zip_nil_left,List.zipIdx_nil,List.forIn_cons,List.forIn_nil];unfold kX at q;refine au (au (au (wpAny_eqBool_str ?_)));by_cases h:x.1=y.1
 ·rw[if_pos h]at q;simp only[decide_eq_true h,Bool.not_true,Bool.false_eq_true,if_false];refine aP (au (au (wpAny_eqBool_int ?_)));by_cases h2:x.2=y.2
  ·rw[decide_eq_false (by omega)]at q;simp only[beq_iff_eq.mpr h2,Bool.not_true,Bool.false_eq_true,if_false];exact aP (aP (aP q))
  ·have e:(x.2 == y.2)=false:=by simpa using h2
   simp only[e,Bool.not_false,if_true];exact au (lt_num (aP (aP (aP q))))
 ·rw[if_neg h]at q;simp only[decide_eq_false h,Bool.not_false,if_true];exact au (oneLt_str (aP (aP (aP q))))
noncomputable def IF(h:Heap)(b:Addr):Option Value:=match h.get? b with
 |some o=>(match o.data with | .seq xs _=>xs[0]? | _=>none)
 |none=>none
theorem yq(g:h.get? b=some o)(e:o.data=.seq #[u,v] n):IF h b=some u:=by unfold IF;rw[g];dsimp only;rw[e];rfl
theorem pK{α β:Type}{f:α->Sem β}{g:α->β}:∀{l:List α}{Q:List β->Shared->Prop},(∀x∈l,∀Q:β->Shared->Prop,Q (g x) s->wpAny (model prog w) A (f x) Q E s)->Q (l.map g) s->wpAny (model prog w) A (l.mapM f) Q E s
 |[],Q,_,q=>by rw[List.mapM_nil];exact aP q
 |x::l,Q,h,q=>by
  rw[List.mapM_cons];exact au (h x (.head _) _ (au (pK (λy hy=>h y (.tail _ hy)) (aP q))))
theorem wo{bs:List Addr}{d:Addr->aH}(h2:bs≠[])(hd:∀b∈bs,AN s.heap b (d b)){Q:SortKind->Shared->Prop}(q:Q (tuples' true) s):wpAny (model prog w) A (keyKind' (bs.map Value.ref).toArray) Q E s:=by
 have firsts:∃g:Value->Option Value,(∀v∈bs.map Value.ref,∃z t,g v=some (Value.str z t))/\∀v∈bs.map Value.ref,∀Q:Option Value->Shared->Prop,Q (g v) s->wpAny (model prog w) A (firstOfTuple' v) Q E s:=by
  refine⟨λv=>match v with | .ref b=>IF s.heap b | _=>none,λv hv=>?_,λv hv Q q=>?_⟩
  ·obtain⟨b,hb,rfl⟩:=aM.mp hv;obtain⟨t,u,o,n,g,c,e⟩:=hd b hb;exact⟨(d b).1,t,yq g e⟩
  ·obtain⟨b,hb,rfl⟩:=aM.mp hv;obtain⟨t,u,o,n,g,c,e⟩:=hd b hb;have q:Q (IF s.heap b) s:=q;rw[yq g e]at q;refine au (NG g ?_);rw[c];exact au (listItems_at g e (aP q))
 obtain⟨g,g1,g2⟩:=firsts;rw[keyKind'_eq,List.mapM_toArray];refine au ?_;show wpAny _ _ (List.toArray <$> (bs.map Value.ref).mapM firstOfTuple') _ _ s;rw[map_eq_pure_bind];refine au (pK g2 (aP ?_));have all:(((bs.map Value.ref).map g).toArray.all λx=>x.isSome)=true:=by
  rw[List.all_toArray,Ol];intro x hx;obtain⟨v,hv,rfl⟩:=aM.mp hx;obtain⟨z,t,e⟩:=g1 v hv;rw[e];rfl
 rw[if_pos all];refine au (FR (au ?_));have fm:(((bs.map Value.ref).map g).toArray.filterMap id)=((bs.map Value.ref).filterMap g).toArray:=by
  rw[List.filterMap_toArray,List.filterMap_map];rfl
 rw[fm,oneTypeOnly'_eq,List.mapM_toArray];refine au ?_;rw[map_eq_pure_bind];refine au (pK (g:=λ_=>Value.type "str") (λv hv Q q=>?_) (aP ?_))
 ·obtain⟨r,hr,e⟩:=Ky.mp hv;obtain⟨z,t,e2⟩:=g1 r hr;rw[e2]at e;cases e;exact wpAny_typeOf (typeIs_str s z t) q
 ·have ne:(bs.map Value.ref).filterMap g≠[]:=by
   obtain⟨b,r,e⟩:∃b r,bs=b::r:=by cases bs with|nil=>exact absurd rfl h2|cons b r=>exact⟨b,r,rfl⟩
   obtain⟨z,t,e2⟩:=g1 (.ref b) (aM.mpr ⟨b,by rw[e];exact .head _,rfl⟩);intro z0;have:Value.str z t∈(bs.map Value.ref).filterMap g:=Ky.mpr ⟨.ref b,aM.mpr ⟨b,by rw[e];exact .head _,rfl⟩,e2⟩;rw[z0]at this;cases this
  generalize (bs.map Value.ref).filterMap g=l at ne;cases l with
  |nil=>exact absurd rfl ne
  |cons v l=>
   have e0:(((v::l).map λ_=>Value.type "str").toArray)[0]?=some (Value.type "str"):=rfl;rw[e0];have al:((((v::l).map λ_=>Value.type "str").toArray).all λx=>x == Value.type "str")=true:=by
    rw[List.all_toArray,Ol];intro x hx;obtain⟨_,_,rfl⟩:=aM.mp hx;rfl
   simp only[al,if_true];exact aP (aP q)
end
section
variable{prog:Program}{w:World}{A:Around}{E:Vs}{s:Shared}
noncomputable def adr:Value->Addr
 |.ref b=>b
 |_=>0
noncomputable def twice(bs:List Addr):List Keyed:=bs.map λb=>(Value.ref b,Value.ref b)
theorem fJ(bs:List Addr):(pairsOf (bs.map Value.ref)).toList=twice bs:=by
 rw[pairsOf_toList]
 induction bs with
 |nil=>rfl
 |cons b r ih=>rw[fH,List.zip_cons_cons,ih];rfl
theorem wU(p:l.Perm (twice bs)):∃bs':List Addr,l=twice bs'/\bs'.Perm bs:=by
 refine⟨l.map λx=>adr x.2,?_,?_⟩
 ·unfold twice;rw[ck];have e:∀x∈l,((λb=>(Value.ref b,Value.ref b)) ∘ λx:Keyed=>adr x.2) x=x:=λx hx=>by
   obtain⟨b,_,rfl⟩:=aM.mp (p.mem_iff.mp hx);rfl
  rw[xq e,List.map_id']
 ·have q:=p.map λx:Keyed=>adr x.2;unfold twice at q;rw[ck]at q;have e:((λx:Keyed=>adr x.2) ∘ λb:Addr=>(Value.ref b,Value.ref b))=id:=rfl
  rwa [e,List.map_id]at q
noncomputable def QH(bs:List Addr)(d:Addr->aH)(x:Keyed):Nat:=jR (bs.map d) (d (adr x.1))
theorem xy(e:xs.toList=twice bs')(p:bs'.Perm bs)(up:dW (QH bs d) xs bs'.length):(bs'.map d).Pairwise jE:=by
 rw[BZ];intro i j hi hj lt;rw[az]at hi hj;have at_:∀k (hk:k<bs'.length),rk (QH bs d) xs k=jR (bs.map d) (d bs'[k]):=λk hk=>by
  unfold rk;rw[<-M5,e];unfold twice;rw[gh,jo hk];rfl
 have h:=up i j (Ht lt) hj;rw[at_ i hi,at_ j hj]at h;rw[nO,nO];unfold jE;rw[<-iX (ds:=bs.map d) (aM.mpr ⟨_,p.mem_iff.mp (uJ hj),rfl⟩)];exact decide_eq_false (Nat.not_lt.mpr h)
theorem xt(ho:s.heap.get? a=some (seqObj "list" (bs.map Value.ref).toArray n))(hd:∀b∈bs,AN s.heap b (d b))(h64:bs.length<64)
  (k:∀bs':List Addr,bs'.Perm bs->(bs'.map d).Pairwise jE->P (.done (.ret .none)) { s with heap:=sortedHeap s.heap a (bs.map Value.ref) (bs'.map Value.ref).toArray }):wpAny (model prog w) A (Builtin.«list.sort» ⟨[.ref a],[]⟩) P E s:=by
 have la:a<s.heap.objs.size:=cV ho;have e1:=get?_update_seq ho λ_=>#[];generalize (if (#[]:Array Value).size == (bs.map Value.ref).toArray.size then n else n+1)=n1 at e1;have off:∀{b:Addr}{o:Obj},b≠a->s.heap.get? b=some o->((((s.heap.update a (Obj.mapSeq λ_=>#[])).push (seqObj "tuple" (bs.map Value.ref).toArray 0)).push (seqObj "list" #[] 0)).get? b=some o):=λ{b o} ne g=>
  cM _ (cM _ (by rw[JH _ _ _ _ ne];exact g))
 have at_:(((s.heap.update a (Obj.mapSeq λ_=>#[])).push (seqObj "tuple" (bs.map Value.ref).toArray 0)).push (seqObj "list" #[] 0)).get? a=some (seqObj "list" #[] n1):=
  cM _ (cM _ e1)
 have pr:∀b∈bs,AN (((s.heap.update a (Obj.mapSeq λ_=>#[])).push (seqObj "tuple" (bs.map Value.ref).toArray 0)).push (seqObj "list" #[] 0)) b (d b):=λb hb=>by
  obtain⟨t,u,o,m,g,c,e⟩:=hd b hb;refine⟨t,u,o,m,off (λz=>?_) g,c,e⟩;rw[z,ho]at g;cases g;exact absurd (Value.type.inj c) (by decide)
 have sz:(bs.map Value.ref).toArray.size=bs.length:=by simp
 rw[list_sort_plain];refine au (listItems_at ho rfl (au (listUpdate_at ho rfl (au (seqEpoch_at e1 rfl (au (wpAny_newTuple (au (wpAny_newList (v9 ?_) ?_)) ?_)))))))
 ·have out:∀bs':List Addr,(sortedHeap s.heap a (bs.map Value.ref) (bs'.map Value.ref).toArray)=(((s.heap.update a (Obj.mapSeq λ_=>#[])).push (seqObj "tuple" (bs.map Value.ref).toArray 0)).push (seqObj "list" #[] 0)).update a (Obj.mapSeq λ_=>(bs'.map Value.ref).toArray):=λ_=>rfl;simp only[out]at k;generalize ((s.heap.update a (Obj.mapSeq λ_=>#[])).push (seqObj "tuple" (bs.map Value.ref).toArray 0)).push (seqObj "list" #[] 0)=h6 at at_ pr k ⊢;dsimp only;have epi:∀(st:SortSt) (bs':List Addr),failedOf st=none->(arrOf st).toList=twice bs'->bs'.Perm bs->(bs'.map d).Pairwise jE->
    wpAny (model prog w) A (seqEpoch a >>= λe=>Builtin.List.listUpdate (.ref a) (λ_=>(arrOf st).map λx=>x.2) >>= λ_=>if (e != n1)=true then rule "list.sort.modified" >>= λ_=>(raiseError "ValueError" "list modified during sort" : Sem Unit) >>= λ_=>ret .none else ret .none) P E { s with heap:=h6 }:=λst bs' f e p pw=>by
   have ea:((arrOf st).map λx=>x.2)=(bs'.map Value.ref).toArray:=by
    apply Array.ext';rw[Array.toList_map,e];unfold twice;rw[ck];rfl
   rw[ea];refine au (seqEpoch_at at_ rfl (au (listUpdate_at at_ rfl ?_ (hsz2 := ?_))))
   ·simp only[bne_self_eq_false,Bool.false_eq_true,if_false];exact aP (k bs' p pw)
   ·rw[ij,az,p.length_eq,sizeLine_eq];omega
  rw[sz];by_cases cy:bs.length<2
  ·rw[if_pos cy,if_pos cy];refine au (aP ?_);rw[StateT.run_pure];refine au (aP ?_);refine epi (SortSt.mk' general' (pairsOf (bs.map Value.ref)) #[] 7 none) bs rfl (fJ bs) (.refl _) ?_;rw[BZ];intro i j hi hj lt;rw[az]at hj;omega
  ·rw[if_neg cy,if_neg cy];refine au (wo (d:=d) (λz=>cy (by rw[z];decide)) pr ?_);have bz:(pairsOf (bs.map Value.ref)).size=bs.length:=by rw[pairsOf_size,az]
   have ask:mh prog w A E { s with heap:=h6 } (tuples' true) (QH bs d) (pairsOf (bs.map Value.ref)):=λx hx y hy Q q=>by
    rw[fJ]at hx hy;obtain⟨b,hb,rfl⟩:=aM.mp hx;obtain⟨c,hc,rfl⟩:=aM.mp hy;refine GK (pr b hb) (pr c hc) ?_;rw[<-iX (ds:=bs.map d) (aM.mpr ⟨b,hb,rfl⟩)];exact q
   refine au (nF (uV (Q:=λ_ st=>(arrOf st).Perm (pairsOf (bs.map Value.ref))/\failedOf st=none/\dW (QH bs d) (arrOf st) bs.length) ask (st:=SortSt.mk' (tuples' true) (pairsOf (bs.map Value.ref)) #[] 7 none) ⟨.refl _,rfl,rfl,rfl⟩ (by rw[bz];omega) (by rw[bz];exact h64) λst p f up=>⟨p,f,by rw[bz]at up;exact up⟩) ?_ λ_ _ z=>z);rintro⟨⟨⟩,st⟩ s' ⟨rfl,p,f,up⟩;have p':=Array.perm_iff_toList_perm.mp p;rw[fJ]at p';obtain⟨bs',e,pb⟩:=wU p';dsimp only;rw[f];refine epi st bs' f e pb (xy e pb ?_);rw[pb.length_eq];exact up
 ·exact fe _
 ·rw[List.toList_toArray,az,sizeLine_eq];omega
theorem qz(hl:s.heap.IsList l (bs.map Value.ref).toArray)(hd:∀b∈bs,AN s.heap b (d b))(h64:bs.length<64)
  (k:∀bs':List Addr,bs'.Perm bs->(bs'.map d).Pairwise jE->Q (.ref (s.heap.objs.size+1)) { s with heap:=sortedAll s.heap (bs.map Value.ref) (bs'.map Value.ref).toArray }):wpAny (model prog w) A (call (.builtin "sorted") [.ref l]) Q E s:=by
 have one:((s.heap.push (seqObj "list" #[] 0)).update s.heap.objs.size (Obj.mapSeq (·++(bs.map Value.ref).toArray))).objs.size=s.heap.objs.size+1:=by rw[Heap.size_update,size_push']
 have keep:∀{b:Addr}{o:Obj},s.heap.get? b=some o->(((s.heap.push (seqObj "list" #[] 0)).update s.heap.objs.size (Obj.mapSeq (·++(bs.map Value.ref).toArray))).push (seqObj "list" (bs.map Value.ref).toArray 0)).get? b=some o:=λ{b o} g=>
  cM _ (by rw[JH _ _ _ _ (eD (cV g))];exact cM _ g)
 have new:(((s.heap.push (seqObj "list" #[] 0)).update s.heap.objs.size (Obj.mapSeq (·++(bs.map Value.ref).toArray))).push (seqObj "list" (bs.map Value.ref).toArray 0)).get? (s.heap.objs.size+1)=some (seqObj "list" (bs.map Value.ref).toArray 0):=by
  have:=gL ((s.heap.push (seqObj "list" #[] 0)).update s.heap.objs.size (Obj.mapSeq (·++(bs.map Value.ref).toArray))) (o:=seqObj "list" (bs.map Value.ref).toArray 0) rfl
  rwa [one]at this
 have fit:(bs.map Value.ref).length<=sizeLine:=by rw[az,sizeLine_eq];omega
 refine Calls.call_function_entry kind_sorted plain_sorted entry_sorted (args_sorted1 _) (au (m:=checkCount "sorted" 1 1 _) (aP (au (collect_list hl (au (wpAny_newList ?_ fit)) fit))));dsimp only;rw[one];refine au (v9 (B1 slot_list_sort ⟨_,new,rfl⟩ entry_list_sort (xt new (λb hb=>?_) h64 λbs' p pw=>⟨_,rfl,aP ⟨_,rfl,k bs' p pw⟩⟩) (args_list_sort _)));obtain⟨t,u,o,m,g,c,e⟩:=hd b hb;exact⟨t,u,o,m,keep g,c,e⟩
end
section
variable{X:Cx}
noncomputable def EL(K:Wf):List V->Hp->VK->Prop:=λxs H Q=>∃(p:Addr) (bs:List Addr) (d:Addr->aH),xs=[.ref p]/\aD K H p (bs.map V.ref)/\(∀b∈bs,H b=some (.tup [.str (d b).1,.int (d b).2]))/\bs.length<64/\
 ∀(l:Addr) (bs':List Addr),H l=none->bs'.Perm bs->(bs'.map d).Pairwise jE->Q (.ref l) (upd H l (.lst (bs'.map V.ref)))
theorem jy:∀{as:List Addr},Vals (as.map V.ref) (as.map Value.ref)
 |[]=>.nil
 |_::_=>.cons rfl jy
theorem xp:cX X (.builtin "sorted") (EL X.K):=by
 intro pins s σ H xs us Q I r h;obtain⟨p,bs,d,rfl,hq,hd,hz,q⟩:=h;obtain⟨u,rfl,rx⟩:=vals1 r;cases rx;obtain⟨its,r',pl,_⟩:=I.list hq;have e:=iV r';subst e;refine qz (d:=d) pl.isList (λb hb=>?_) hz λbs' pb pw=>?_
 ·obtain⟨_,its,r2,o,h1,h2,n,h3⟩:=(show a6 X.prog X.w H s.heap b (.tup [.str (d b).1,.int (d b).2]) from I.aV b _ (hd b hb))
  cases r2 with
  |cons ra rb=>
   cases rb with
   |cons rc rd=>
    cases rd;obtain⟨t1,rfl⟩:=ra;obtain⟨t2,rfl⟩:=rc;exact⟨t1,t2,o,n,h1,h2,h3⟩
 ·obtain⟨e,he⟩:=sortedAll_at s.heap (bs.map Value.ref) (bs'.map Value.ref).toArray;refine⟨.ref (s.heap.objs.size+1),_,I.laid (a:=s.heap.objs.size+1) (o:=.lst (bs'.map V.ref)) (t':=s.toks) (λb o=>sortedAll_old) (Di _) ⟨?_,bs'.map Value.ref,e,jy,he⟩,rfl,q _ bs' (I.aV.fresh (Di _)) pb pw⟩;rw[az,pb.length_eq,sizeLine_eq];omega
theorem j4{K:Wf}(e:X.K=K):cX X (.builtin "sorted") (EL K):=e▸xp
end
section
variable{X:Cx}
end
section
variable{prog:Program}{w:World}{A:Around}{E:Vs}{s:Shared}
end
section
variable{X:Cx}{e:Expr}{te:TE}{p1 p2 pos1 pos2:Pos}
def SX(K:Wf)(te:TE):TE:=λσ H Q=>te σ H λx H1=>∃p ys,x=.ref p/\aD K H1 p ys/\ys.length<sizeLine/\∀l,H1 l=none->Q (.ref l) (upd H1 l (.lst ys.reverse))
end
section
variable{prog:Program}{w:World}{A:Around}{R:Result->Shared->Prop}{I S:Addr}{fp wr:List Addr}{n:Nat}{P:Nat->Value->Prop}{St:Nat->Heap->Prop}{d:Value}{f:Nat->Int}
end
section
variable{prog:Program}{w:World}{A:Around}{E:Vs}{s:Shared}
end
section
variable{X:Cx}{e:Expr}{te:TE}{p pos cp kp:Pos}{n:Int}{j:Nat}
end
section
variable{X:Cx}{a b c d:Expr}{ta tb tc td:TE}{pos:Pos}
end
section
open PySem.SeqAt
open PySem.AutoSeq1 (wpAny_loadPart')
open PySem.MeetsSeq PySem.MeetsSeq2 PySem.MeetsSeq3
end
def eT(P:Addr)(H H':Hp):Prop:=∀b o,b≠P->H b=some o->H' b=some o
noncomputable def CS(c:Addr)(q:Str):HO:=.ext λh=>h.CodeRec (.ref c) q
noncomputable def BU(f:Addr)(o:Obj):HO:=.ext λh=>h.get? f=some o
def c7(P:Addr)(pos:Pos)(q:Str)(H:Hp):Prop:=∃ps:Array Value,H P=some (.iH ps)/\TriplesOk ps.toList/\(codeAmong pos ps.toList=none\/∃c,codeAmong pos ps.toList=some (.ref c)/\H c=some (CS c q))
theorem c7.more(h:c7 P pos q H)(s:∀b o,H b=some o->H' b=some o):c7 P pos q H':=by
 obtain⟨ps,h1,h2,h3⟩:=h;exact⟨ps,s _ _ h1,h2,h3.imp id λ⟨c,h4,h5⟩=>⟨c,h4,s _ _ h5⟩⟩
theorem Jd(e:h.CodeRec (.ref c) q):a6 P w H h c (CS c q):=by
 refine⟨e,?_,?_⟩
 ·obtain⟨c',o,_,_,e1,e2,_⟩:=e;cases e1;exact⟨o,e2⟩
 ·rintro h1 h2 ⟨c',o,vs,t,e1,e2,e3⟩ k;cases e1;exact⟨c,o,vs,t,rfl,k o e2,e3⟩
theorem Ag(e:h.get? f=some o):a6 P w H h f (BU f o):=⟨e,⟨o,e⟩,λ_ _ e1 k=>k o e1⟩
def BMod(K:Wf)(mg:So):Prop:=∃(bm:Addr) (sl:Array (Option Value)),mg (Str.ofString "__builtins__")=some (.ref bm)/\bm≠builtinsNs/\bm≠mainGlobals/\K.lookup bm=some ⟨.type "module", some builtinsNs,.plain,sl⟩
section
variable{X:Cx}{pins:Lo}{σ:St}{H:Hp}{s:Shared}
theorem Inv.grow(I:Inv X pins σ H s)(hP:H P=some (.iH ps))(k:∀b o,b≠P->s.heap.get? b=some o->h'.get? b=some o)(hP':h'.get? P=some (tabObj (ps++more)))
  (hc:s.heap.objs.size<=c) (hf:s.heap.objs.size<=f) (hcf:c≠f) (ok1:∀H'',a6 X.prog X.w H'' h' c o1) (ok2:∀H'',a6 X.prog X.w H'' h' f o2):
  Inv X pins σ (upd (upd (upd H P (.iH (ps++more))) c o1) f o2) { s with heap:=h',toks:=t' }:=by
 have c0:H c=none:=I.aV.fresh hc;have f0:H f=none:=I.aV.fresh hf;have cP:P≠c:=bH hP c0;have fP:P≠f:=bH hP f0;have get:∀b,b≠P->b≠c->b≠f->upd (upd (upd H P (.iH (ps++more))) c o1) f o2 b=H b:=λb n1 n2 n3=>by rw[ae n3,ae n2,ae n1]
 have old:∀b o,s.heap.get? b=some o->b≠c/\b≠f:=λb o e=>⟨eD (mC (cV e) hc),eD (mC (cV e) hf)⟩;have wb:∀b o,H b=some o->b≠P->upd (upd (upd H P (.iH (ps++more))) c o1) f o2 b=some o:=λb o e n=>by
  rw[get b n (bH e c0) (bH e f0)];exact e
 have atP:upd (upd (upd H P (.iH (ps++more))) c o1) f o2 P=some (.iH (ps++more)):=by rw[ae fP,ae cP,aE]
 refine I.un ⟨λb o e n _ _=>k b o (λz=>by rw[z,hP]at n;cases n) e,λb o e n _ _=>⟨o.slots,k b o (λz=>by rw[z,hP]at n;cases n) e⟩,λb o e n _=>?_,λb o e _=>?_,λb xs e=>wb b _ e (λz=>by rw[z,hP]at e;cases e),λb o u e=>wb b _ e (λz=>by rw[z,hP]at e;cases e),λb ps' e=>?_⟩ λb u e=>?_
 ·rw[get b (λz=>by rw[z,hP]at n;cases n) (old b o e).1 (old b o e).2];exact n
 ·by_cases z:b=P
  ·rw[z];exact⟨_,hP'⟩
  ·exact⟨o,k b o z e⟩
 ·by_cases z:b=P
  ·rw[z,hP]at e;cases e;rw[z];exact⟨more,atP⟩
  ·exact⟨#[],by rw[wb b _ e z];simp⟩
 ·by_cases z3:b=f
  ·rw[z3,aE]at e;cases e;rw[z3];exact ok2 _
  ·by_cases z2:b=c
   ·rw[z2,ae hcf,aE]at e;cases e;rw[z2];exact ok1 _
   ·by_cases z1:b=P
    ·rw[z1,atP]at e;cases e;rw[z1];exact hP'
    ·rw[get b z1 z2 z3]at e;refine(I.aV b u e).iY (λd v hd q=>k d v ?_ q) (λd q=>wb d _ q (λz=>by rw[z,hP]at q;cases q)) λd xs q=>wb d _ q (λz=>by rw[z,hP]at q;cases q);rcases hd with z|z
     ·rw[z];exact z1
     ·intro y;rw[y,hP]at z;cases z
theorem FJ(I:Inv X pins σ H s)(hcl:closureFor sc X.env=pure [])(hcd:X.env.code=.ref c)(hc:codeHdIn X.K c P=true)(hb:BMod X.K X.mg)(ht:c7 P pos q H)
  (k:∀(f c':Addr) (ctv pm:Value) (H':Hp) (s':Shared),Inv X pins σ H' s'->eT P H H'->c7 P pos q H'->H f=none->f≠P->H' f=some (BU f (kla_obj x q pr bd sc [] pm c' ctv))->H' c'=some (CS c' q)->Q (.ref f) s'):
  wpAny (model X.prog X.w) A (makeFunction x q pr (.expr bd) sc X.env [] [] [] pos line) Q E s:=by
 obtain⟨ps,hP,tri,cs⟩:=ht;have gP:s.heap.get? P=some (tabObj ps):=I.aV P _ hP;have ns:s.heap.Ns mainGlobals X.mg:=I.ok.mod.glob.keeps I.bk;have nP:∀b o,X.base.get? b=some o->b≠P:=λb o e z=>by
  have:=(I.bs b o e).2;rw[z,hP]at this;cases this
 have mP:mainGlobals≠P:=by
  obtain⟨o,_,_,e,_⟩:=I.ok.mod.glob;exact nP _ o e
 have hd:PySem.W.CodeHd s.heap c P:=codeHd_of_K I.jH hc;have bl:s.heap.BuiltinsAt X.mg P:=by
  obtain⟨bm,sl,e1,e2,e3,e4⟩:=hb;exact⟨bm,_,e1,e2,e3,nP bm _ (I.ok.mod.Ng _ _ e4),I.jH _ _ e4,rfl,rfl,rfl⟩
 rcases cs with cs|⟨c',cs,hc'⟩
 ·refine PySem.W.kla_makeFunction hcl I.ok.glob ns hcd hd gP tri cs mP bl λc' ctv h' tk ext h1 h2 h3 h4=>?_;have pk:∀b o,h'.get? b=some o->(h'.push (kla_obj x q pr bd sc [] ((X.mg (Str.ofString "__name__")).getD .none) c' ctv)).get? b=some o:=λb o e=>cM _ e;have sz:s.heap.objs.size<=h'.objs.size:=by omega
  have fP:P≠h'.objs.size:=eD (cV h4);have cP:P≠c':=eD (mC (cV gP) h1);have J:=I.grow (P:=P) (c:=c') (f:=h'.objs.size) (t':=tk) (h':=h'.push (kla_obj x q pr bd sc [] ((X.mg (Str.ofString "__name__")).getD .none) c' ctv)) (o1:=CS c' q) (o2:=BU h'.objs.size (kla_obj x q pr bd sc [] ((X.mg (Str.ofString "__name__")).getD .none) c' ctv)) hP
   (λb o n e=>pk b o (ext b o n e)) (pk _ _ h4) h1 sz (eD h2) (λH''=>Jd (by
    obtain⟨c2,o,vs,t,e1,e2,e3⟩:=h3;exact⟨c2,o,vs,t,e1,pk _ _ e2,e3⟩)) (λH''=>Ag (gL _ rfl))
  refine k _ c' ctv _ _ _ J (λb o n e=>?_) ⟨_,by rw[ae fP,ae cP,aE],?_,.inr ⟨c',?_,by rw[ae (eD h2),aE]⟩⟩ (I.aV.fresh sz) (Ne.symm fP) aE (by rw[ae (eD h2),aE])
  ·rw[ae (bH e (I.aV.fresh sz)),ae (bH e (I.aV.fresh h1)),ae n];exact e
  ·rw[Array.toList_append];exact TriplesOk_snoc _ _ _ _ tri
  ·rw[Array.toList_append];exact codeAmong_snoc _ tri cs
 ·refine PySem.W.kla_makeFunctionHit hcl I.ok.glob ns hcd hd gP tri cs bl λctv h' tk kp sz=>?_;have J:=I.laid (a:=h'.objs.size) (t':=tk) (h':=h'.push (kla_obj x q pr bd sc [] ((X.mg (Str.ofString "__name__")).getD .none) c' ctv)) (o:=BU h'.objs.size (kla_obj x q pr bd sc [] ((X.mg (Str.ofString "__name__")).getD .none) c' ctv)) (λb o e=>cM _ (kp b o e)) sz (Ag (gL _ rfl));have f0:=I.aV.fresh sz;have st:∀b o,H b=some o->upd H h'.objs.size (BU h'.objs.size (kla_obj x q pr bd sc [] ((X.mg (Str.ofString "__name__")).getD .none) c' ctv)) b=some o:=λb o e=>by rw[ae (bH e f0)];exact e
  exact k _ c' ctv _ _ _ J (λb o _ e=>st b o e) ⟨ps,st _ _ hP,tri,.inr ⟨c',cs,st _ _ hc'⟩⟩ f0 (λz=>by rw[z,hP]at f0;cases f0) aE (st _ _ hc')
end
theorem Ii{P:Program}{w:World}{K:Wf}{mg:So}{base:Heap}{A:Around}{outer:List Env}{s:Shared}{H:Hp}{f c:Addr}{x q:Str}{pr:Arguments}{bd:Expr}{sc:Scope}{pm ct:Value}{N ps:List Str}{us:List Value}{vs:List V}{Q:VK}{t:TE}
  (ho:s.heap.get? f=some (kla_obj x q pr bd sc [] pm c ct)) (hc:s.heap.CodeRec (.ref c) q) (S:aA N ps sc) (hr:cL 1 A) (e0:lW P w K mg base A outer s H)
  (hb:BindsTo s (kla_fn x q pr bd sc [] pm (.ref c) ct) ⟨us,[]⟩ (ps.zip us)) (hl:vs.length=ps.length) (r:Vals vs us)
  (ht:PE (lM dm P w K mg base N q sc f (.ref c) A outer s H E0) bd t) (hq:t (start N vs) H Q):codeAny (model P w) A (.call (.ref f) ⟨us,[]⟩) (CR dm outer P w H s Q E0) s:=by
 have lim:s.heap.NoLimit:=e0.mod.nolimit.keeps λb o e=>(e0.bs b o e).1;have hkind:∀y∈ps.zip us,sc.names.lookup y.1=some .local\/(sc.names.lookup y.1=some .cell/\((cellsFrom (s.heap.objs.size+1) sc.names []).lookup y.1).isSome=true):=λ⟨n,v⟩ hy=>by
  rcases S.par n (List.of_mem_zip hy).1 with q|q
  ·exact .inl q
  ·exact .inr ⟨q,cellsFrom_some _ _ _ (.inl q)⟩
 refine PySem.W.kla_callFunE hr.depth ho rfl S.co S.gen rfl hc (hb _ _ _ _ ?_);refine wpAny_newFunctionEnv_cells S.kind hkind λenv he s1 x=>?_;subst he;refine⟨lim.keeps x.toInCall.keep,PySem.W.kla_codeExpr ?_⟩;have I:=oj (CX:=dm) (E:=E0) (f:=f) (cd:=.ref c) (qual:=q) S hr.hd e0 hl r x;refine nF (ht [] s1 (start N vs) H Q I hq) (λu s' ⟨v,H',J,rv,q⟩=>?_) λe s' hs=>hs;exact⟨v,H',J.os,J.bare,J.base,J.aV,rv,q⟩
theorem uU{bs:List Addr}{z:Addr->Str}(h:bs.length<2):(bs.map λb=>((z b,0):aH)).Pairwise jE:=by
 rw[BZ];intro i j hi hj lt;rw[az]at hj;omega
noncomputable def keyed(kt:List Value)(bs:List Addr):List Keyed:=kt.zip (bs.map Value.ref)
noncomputable def OU:Value->Str
 |.str x _=>x
 |_=>Str.ofString ""
section
variable{X:Cx}{pins:Lo}{σ:St}{H:Hp}{s:Shared}{A:Around}{E:Vs}
theorem xY:∀{kt:List Value}{ss:List Str}{i:Nat}{k:Value},StrsAre kt ss->kt[i]?=some k->ss[i]?=some (OU k)/\∃t,k=.str (OU k) t
 |_,_,0,_,.cons y t h,e=>by cases e;exact⟨rfl,t,rfl⟩
 |_,_,i+1,_,.cons _ _ h,e=>xY (i:=i) h e
theorem lF:∀{kt:List Value}{ss:List Str},StrsAre kt ss->kt.length=ss.length
 |_,_,.nil=>rfl
 |_,_,.cons _ _ h=>by rw[je,je,lF h]
theorem nQ:∀{kt:List Value}{ss:List Str}{y:Str}{t:Tok},StrsAre kt ss->StrsAre (kt++[.str y t]) (ss++[y])
 |_,_,y,t,.nil=>.cons y t .nil
 |_,_,_,_,.cons a b h=>.cons a b (nQ h)
theorem jA(h:StrsAre kt (bs.map z))(hx:x∈keyed kt bs):∃b t,b∈bs/\x=(.str (z b) t,.ref b):=by
 obtain⟨i,hi⟩:=List.getElem?_of_mem hx;unfold keyed at hi;rw[List.getElem?_zip_eq_some]at hi;obtain⟨h1,h2⟩:=hi;rw[gh]at h2;obtain⟨b,h3,h4⟩:=d_.mp h2;obtain⟨h5,t,h6⟩:=xY h h1;rw[gh,h3]at h5;refine⟨b,t,c_ h3,?_⟩;rw[<-Option.some.inj h5]at h6;exact Prod.ext h6 h4.symm
theorem Fp(I:Inv X pins σ H s)(fa:e9 X pins H a)(fk:e9 X pins H kS)(nak:a≠kS)(ha:s.heap.get? a=some (seqObj "list" #[] n))(hk:s.heap.get? kS=some (seqObj "list" kt.toArray e))(hz:StrsAre kt (bs.map z))(h64:bs.length<64)
  (k:∀(s':Shared) (bs':List Addr) (e':Nat),Inv X pins σ H s'->bs'.Perm bs->(bs'.map λb=>((z b,0):aH)).Pairwise jE->s'.heap.get? a=some (seqObj "list" (bs'.map Value.ref).toArray e')->Q (.done (.ret .none)) s'):
  wpAny (model X.prog X.w) A (ksk_end a false (bs.map Value.ref).toArray n (.ref kS) kt.toArray) Q E s:=by
 have kl:kt.length=bs.length:=by have:=lF hz;rwa [az]at this
 have sl:(kt.toArray.zip (bs.map Value.ref).toArray).toList=keyed kt bs:=ksk_zip kt.toArray (bs.map Value.ref);have epi:∀(st:SortSt) (bs':List Addr),failedOf st=none->(arrOf st).toList.map (·.2)=bs'.map Value.ref->bs'.Perm bs->(bs'.map λb=>((z b,0):aH)).Pairwise jE->wpAny (model X.prog X.w) A (ksk_tail a false n (.ref kS) st) Q E s:=λst bs' f ea p pw=>by
  unfold ksk_tail;have ea':((arrOf st).map λx=>x.2)=(bs'.map Value.ref).toArray:=by
   apply Array.ext';rw[Array.toList_map,ea]
  rw[f,ea'];refine au (listUpdate_at hk rfl ?_ (hsz2:=by simp));have k1:∀b o,b≠kS->s.heap.get? b=some o->(s.heap.update kS (Obj.mapSeq λ_=>#[])).get? b=some o:=λb o nb g=>by rw[JH _ _ _ _ nb];exact g
  have I1:=I.turned (t':=s.toks) k1 fk.1 fk.2.1 fk.2.2.2.1 fk.2.2.2.2.1 fk.2.2.2.2.2;have ha1:=k1 a _ nak ha;generalize s.heap.update kS (Obj.mapSeq λ_=>#[])=h1 at k1 I1 ha1;refine au (wpAny_letGo (au (seqEpoch_at ha1 rfl (au (listUpdate_at ha1 rfl ?_ (hsz2 := ?_))))))
  ·have k2:∀b o,b≠a->h1.get? b=some o->(h1.update a (Obj.mapSeq λ_=>(bs'.map Value.ref).toArray)).get? b=some o:=λb o nb g=>by rw[JH _ _ _ _ nb];exact g
   have I2:=I1.turned (t':=s.toks) k2 fa.1 fa.2.1 fa.2.2.2.1 fa.2.2.2.2.1 fa.2.2.2.2.2;have e2:=get?_update_seq ha1 λ_=>(bs'.map Value.ref).toArray;simp only[bne_self_eq_false,Bool.false_eq_true,if_false];exact aP (k _ bs' _ I2 p pw e2)
  ·simp only[Bool.false_eq_true,if_false];rw[ij,az,p.length_eq,sizeLine_eq];omega
 unfold ksk_end;simp only[Bool.false_eq_true,if_false,List.size_toArray,List.length_map];by_cases cy:bs.length<2
 ·simp only[if_pos cy];refine au (aP ?_);rw[StateT.run_pure];refine au (aP ?_);refine epi _ bs rfl ?_ (.refl _) (uU cy);show(kt.toArray.zip (bs.map Value.ref).toArray).toList.map (·.2)=_;rw[sl];unfold keyed;exact List.map_snd_zip (by rw[az,kl];exact bC _)
 ·simp only[if_neg cy];have kk:keyKind' kt.toArray=pure oneType':=by
   match kt,hz,kl with
   |[],_,kl=>exact absurd kl (by simp;omega)
   |[_],_,kl=>exact absurd kl (by simp;omega)
   |_::_::_,hz,_=>exact keyKind_strs hz
  refine au (wpAny_of_eq kk ?_);have bz:(kt.toArray.zip (bs.map Value.ref).toArray).size=bs.length:=by rw[<-BX,sl];unfold keyed;rw[List.length_zip,List.length_map,kl,Nat.min_self]
  have ask:mh X.prog X.w A E s oneType' (λx=>jR (bs.map λb=>((z b,0):aH)) (OU x.1,0)) (kt.toArray.zip (bs.map Value.ref).toArray):=λx hx y hy Q q=>by
   rw[sl]at hx hy;obtain⟨b,t,hb,rfl⟩:=jA hz hx;obtain⟨c,u,hc,rfl⟩:=jA hz hy;refine oneLt_str (?_:Q (decide ((z b).cps.toList<(z c).cps.toList)) s);have e:=iX (ds:=bs.map λb=>((z b,0):aH)) (a:=(z b,0)) (b:=(z c,0)) (aM.mpr ⟨b,hb,rfl⟩);have e2:kX ((z b,0):aH) (z c,0)=decide ((z b).cps.toList<(z c).cps.toList):=by
    unfold kX;by_cases h:z b=z c
    ·rw[if_pos h,h,decide_eq_false (by omega),decide_eq_false (List.lt_irrefl _)]
    ·rw[if_neg h]
   rw[<-e2,<-e];exact q
  refine au (nF (uV (Q:=λ_ st=>(arrOf st).Perm (kt.toArray.zip (bs.map Value.ref).toArray)/\failedOf st=none/\dW (λx=>jR (bs.map λb=>((z b,0):aH)) (OU x.1,0)) (arrOf st) bs.length) ask (st:=SortSt.mk' oneType' (kt.toArray.zip (bs.map Value.ref).toArray) #[] 7 none) ⟨.refl _,rfl,rfl,rfl⟩ (by rw[bz];omega) (by rw[bz];exact h64) λst p f up=>⟨p,f,by rw[bz]at up;exact up⟩) ?_ λ_ _ z=>z);rintro⟨⟨⟩,st⟩ s' ⟨rfl,p,f,up⟩;have p':=Array.perm_iff_toList_perm.mp p;rw[sl]at p';have all:∀x∈(arrOf st).toList,∃b t,b∈bs/\x=(Value.str (z b) t,Value.ref b):=λx hx=>jA hz (p'.mem_iff.mp hx);have e2:(arrOf st).toList.map (·.2)=((arrOf st).toList.map λx=>adr x.2).map Value.ref:=by
   rw[ck];refine xq λx hx=>?_;obtain⟨b,t,_,rfl⟩:=all x hx;rfl
  have pb:((arrOf st).toList.map λx=>adr x.2).Perm bs:=by
   have:=p'.map λx:Keyed=>adr x.2;have e3:(keyed kt bs).map (λx:Keyed=>adr x.2)=bs:=by
    unfold keyed;have:(λx:Keyed=>adr x.2)=adr ∘ (·.2):=rfl;rw[this,<-ck,List.map_snd_zip (by rw[az,kl];exact bC _),ck];exact(xq λ_ _=>rfl).trans (List.map_id _)
   rwa [e3]at this
  refine epi st _ f e2 pb ?_;rw[BZ];intro i j hi hj lt;rw[az,az]at hi hj;have at_:∀m (hm:m<(arrOf st).toList.length),rk (λx=>jR (bs.map λb=>((z b,0):aH)) (OU x.1,0)) (arrOf st) m=jR (bs.map λb=>((z b,0):aH)) (z (adr ((arrOf st).toList[m]).2),0):=λm hm=>by
   unfold rk;rw[<-M5,jo hm];obtain⟨b,t,_,e⟩:=all _ (uJ hm);rw[e];rfl
  have len:(arrOf st).toList.length=bs.length:=by rw[<-pb.length_eq,az]
  have h:=up i j (Ht lt) (by omega);rw[at_ i hi,at_ j hj]at h;simp only[List.getElem_map];unfold jE;rw[<-iX (ds:=bs.map λb=>((z b,0):aH))]
  ·exact decide_eq_false (Nat.not_lt.mpr h)
  ·obtain⟨b,t,hb,e⟩:=all _ (uJ hj);rw[e];exact aM.mpr ⟨b,hb,rfl⟩
theorem A_{a f:Addr}{bs:List Addr}{z:Addr->Str}{n:Nat}{Q:Fin->Shared->Prop}(I:Inv X pins σ H s)(fa:e9 X pins H a)(ha:s.heap.get? a=some (seqObj "list" (bs.map Value.ref).toArray n))(h64:bs.length<64)
  (key:∀s',Inv X pins σ H s'->∀b∈bs,wpAny (model X.prog X.w) A (call (.ref f) [.ref b]) (λu s''=>∃t,u=.str (z b) t/\Inv X pins σ H s''/\∀d o,e9 X pins H d->s'.heap.get? d=some o->s''.heap.get? d=some o) (λ_ _=>False) s')
  (k:∀(s':Shared) (bs':List Addr) (e':Nat),Inv X pins σ H s'->bs'.Perm bs->(bs'.map λb=>((z b,0):aH)).Pairwise jE->s'.heap.get? a=some (seqObj "list" (bs'.map Value.ref).toArray e')->Q (.done (.ret .none)) s'):
  wpAny (model X.prog X.w) A (ksk_tree a (.ref f) false) Q E s:=by
 unfold ksk_tree;refine au (listItems_at ha rfl (au (listUpdate_at ha rfl ?_ (hsz2:=by simp))));have k1:∀b o,b≠a->s.heap.get? b=some o->(s.heap.update a (Obj.mapSeq λ_=>#[])).get? b=some o:=λb o nb g=>by rw[JH _ _ _ _ nb];exact g
 have I1:=I.turned (t':=s.toks) k1 fa.1 fa.2.1 fa.2.2.2.1 fa.2.2.2.2.1 fa.2.2.2.2.2;have e1:=get?_update_seq ha λ_=>#[];generalize (if (#[]:Array Value).size == (bs.map Value.ref).toArray.size then n else n+1)=n1 at e1;generalize s.heap.update a (Obj.mapSeq λ_=>#[])=h1 at k1 I1 e1;refine au (seqEpoch_at e1 rfl (au (wpAny_newTuple (au (wpAny_newList (v9 ?_) (fe _))) ?_)))
 ·have I2:=I1.kept (h':=h1.push { cls:=Value.type "tuple", data:=Data.seq (bs.map Value.ref).toArray.toList.toArray }) (t':=s.toks) λb o g=>cM _ g;have e2:(h1.push { cls:=Value.type "tuple", data:=Data.seq (bs.map Value.ref).toArray.toList.toArray }).get? a=some (seqObj "list" #[] n1):=cM _ e1;generalize h1.push { cls:=Value.type "tuple", data:=Data.seq (bs.map Value.ref).toArray.toList.toArray }=h2 at I2 e2;have fk:e9 X pins H h2.objs.size:=I2.sP (bC _) (I2.aV.fresh (bC _));have nak:a≠h2.objs.size:=eD (cV e2);have I3:=I2.kept (h':=h2.push { cls:=Value.type "list", data:=Data.seq ([]:List Value).toArray }) (t':=s.toks) λb o g=>cM _ g;have e3:(h2.push { cls:=Value.type "list", data:=Data.seq ([]:List Value).toArray }).get? a=some (seqObj "list" #[] n1):=cM _ e2;have k3:(h2.push { cls:=Value.type "list", data:=Data.seq ([]:List Value).toArray }).get? h2.objs.size=some (seqObj "list" ([]:List Value).toArray 0):=gL _ rfl;dsimp only;generalize h2.objs.size=kS at fk nak k3 ⊢;generalize h2.push { cls:=Value.type "list", data:=Data.seq ([]:List Value).toArray }=h3 at I3 e3 k3;unfold ksk_rest;refine au (FR (au ?_));rw[List.forIn_toArray];refine ksk_fold (λi s'=>∃(kt:List Value) (e:Nat),Inv X pins σ H s'/\s'.heap.get? a=some (seqObj "list" #[] n1)/\s'.heap.get? kS=some (seqObj "list" kt.toArray e)/\StrsAre kt ((bs.take i).map z)) (bs.map Value.ref) 0 _ ⟨[],0,I3,e3,k3,.nil⟩ (λj v s' hv hI=>?_) λs' hI=>?_
  ·rw[Nat.zero_add]at hI ⊢;obtain⟨kt,e,J,ja,jk,jz⟩:=hI;rw[gh]at hv;obtain⟨b,hb,rfl⟩:=d_.mp hv;have jl:=lF jz;rw[az,jr]at jl;refine au (JQ (nF (key s' J b (c_ hb)) (λu s'' hu=>?_) λ_ _ h=>h.elim));obtain⟨t,rfl,J2,kp⟩:=hu;have ja2:=kp a _ fa ja;have jk2:=kp kS _ fk jk;dsimp only;have up:=get?_update_seq jk2 λx=>x.push (.str (z b) t);rw[List.push_toArray]at up;refine au (listUpdate_at jk2 rfl (aP ⟨rfl,kt++[.str (z b) t],_,J2.turned (t':=s''.toks) (λd o nd g=>by rw[JH _ _ _ _ nd];exact g) fk.1 fk.2.1 fk.2.2.2.1 fk.2.2.2.2.1 fk.2.2.2.2.2,by rw[JH _ _ _ _ nak];exact ja2,up,?_⟩) ?_ ?_)
   ·rw[fX,hb,aY];exact nQ jz
   ·rw[ij,sizeLine_eq];omega
   ·rw[Array.size_push,ij,sizeLine_eq];omega
  ·rw[Nat.zero_add,az,iF]at hI;obtain⟨kt,e,J,ja,jk,jz⟩:=hI;refine au (listItems_at jk rfl ?_);exact Fp J fa fk nak ja jk jz h64 k
 ·rw[List.toList_toArray,az,sizeLine_eq];omega
theorem Inv.OJ(I:Inv X pins σ H s)(fa:e9 X pins H a)(new:∀H'',a6 X.prog X.w H'' s.heap a o):Inv X pins σ (upd H a o) s:=by
 have n0:=fa.1;have wb:∀b u,H b=some u->upd H a o b=some u:=λb u e=>by rw[ae (bH e n0)];exact e
 refine I.step (g':=s.gens) (d':=s.drawn) (t':=s.toks) (h':=s.heap) (ch:=[a]) (λb hb=>?_) (λb o _ _ _ e _=>e) (λb o _ _ _ e _=>⟨o.slots,e⟩) (λb u hb _ n=>?_) (λb u _ e=>⟨u,e⟩) (λb xs e=>wb b _ e) (λb u v e=>wb b _ e) (λb ps e=>⟨#[],by rw[wb b _ e];simp⟩) (λm hm=>hm) (λb u e=>?_) I.bare
 ·rw[bX.mp hb];exact⟨fa.2.2.2.1,fa.2.1,fa.2.2.2.2.1,fa.2.2.2.2.2⟩
 ·rw[ae (λz=>hb (by rw[z];exact List.mem_singleton_self _))];exact n
 ·by_cases z:b=a
  ·rw[z,aE]at e;cases e;rw[z];exact new _
  ·rw[ae z]at e;exact(I.aV b u e).iY (λ_ _ _ q=>q) (λd q=>wb d _ q) λd xs q=>wb d _ q
theorem vS{p f c:Addr}{bs:List Addr}{z:Addr->Str}{x q:Str}{pr:Arguments}{bd:Expr}{sc:Scope}{pm ct:Value}{y:Str}{rs:Addr->List V}{Q:VK}(I:Inv X pins σ H s)(hr:cL 4 X.A)(hp:aD X.K H p (bs.map V.ref))(hd:∀b∈bs,H b=some (.tup (.str (z b)::rs b)))(h64:bs.length<64)
  (hf:H f=some (BU f (kla_obj x q pr bd sc [] pm c ct))) (hc:H c=some (CS c q)) (S:aA [y] [y] sc) (hb:∀(s:Shared) (u:Value),BindsTo s (kla_fn x q pr bd sc [] pm (.ref c) ct) ⟨[u],[]⟩ [(y,u)])
  (ht:∀A outer s H,PE (lM dm X.prog X.w X.K X.mg X.base [y] q sc f (.ref c) A outer s H E0) bd (yt (qD X.K) (mB 0) (tC (.int 0))))
  (k:∀(l:Addr) (bs':List Addr),H l=none->bs'.Perm bs->(bs'.map λb=>((z b,0):aH)).Pairwise jE->Q (.ref l) (upd H l (.lst (bs'.map V.ref)))):
  wpAny (model X.prog X.w) X.A (call (.builtin "sorted") [.ref p] [(Str.ofString "key", .ref f)]) (EP X pins σ Q) X.xe s:=by
 obtain⟨its,r',pl,_⟩:=I.list hp;have e:=iV r';subst e;have fit:(bs.map Value.ref).length<=sizeLine:=by rw[az,sizeLine_eq];omega
 refine call_function_entry_kw kind_sorted plain_sorted entry_sorted (ksk_s1 _ _) (au (m:=checkCount "sorted" 1 1 _) (aP (au (collect_list pl.isList (au (wpAny_newList ?_ fit)) fit))));dsimp only;have k1:∀b o,s.heap.get? b=some o->((s.heap.push (seqObj "list" #[] 0)).update s.heap.objs.size (Obj.mapSeq (·++(bs.map Value.ref).toArray))).get? b=some o:=λb o g=>by
  rw[JH _ _ _ _ (eD (cV g))];exact cM _ g
 have I1:=I.kept (t':=s.toks) k1;generalize (s.heap.push (seqObj "list" #[] 0)).update s.heap.objs.size (Obj.mapSeq (·++(bs.map Value.ref).toArray))=h1 at k1 I1;have I2:=I1.kept (t':=s.toks) (h':=h1.push { cls:=.type "list", data:=.seq (bs.map Value.ref).toArray }) λb o g=>cM _ g;have new:(h1.push { cls:=.type "list", data:=.seq (bs.map Value.ref).toArray }).get? h1.objs.size=some (seqObj "list" (bs.map Value.ref).toArray 0):=gL _ rfl;have fa:e9 X pins H h1.objs.size:=I1.sP (bC _) (I1.aV.fresh (bC _));refine au (v9 (wpAny_call_entry_kw slot_list_sort ⟨_,new,rfl⟩ entry_list_sort ?_ (ksk_l1 _ _)));rw[ksk_t1];refine A_ (z:=z) I2 fa new h64 (λs' J b hb'=>?_) λs' bs' e' J pb pw g=>?_
 ·refine wpAny_call (codeAny_mono (Ii (vs:=[.ref b]) (us:=[.ref b]) (Q:=λv H'=>v=.str (z b)/\H'=H) (J.aV f _ hf).1 (J.aV c _ hc).1 S (hr.in1.in1.mono (by decide)) J.Lz.in1.in1 (hb s' _) rfl (.cons rfl .nil) (ht _ _ _ _) ?_) λr s'' hq=>?_)
  ·show yt _ _ _ [some (V.ref b)] _ _;exact⟨b,_,0,_,rfl,rfl,aR.of (hd b hb'),show iI (V.str (z b)::rs b) ((0:Nat):Int)=_ from cw rfl,rfl,rfl⟩
  ·cases r with
   |error e=>exact hq.elim
   |ok fl=>
    cases fl with
    |next=>exact False.elim hq
    |brk=>exact False.elim hq
    |cont=>exact False.elim hq
    |ret u=>
     obtain⟨v,H',os,bare,un,aV,rv,hv,hH⟩:=hq;subst hv hH;obtain⟨t,rfl⟩:=rv;refine⟨t,rfl,J.yS (ch:=[]) os un aV bare (λb z=>absurd z (by simp)),λd o fd g=>un.keep d o g fd.1 (λz=>?_) (by simp)⟩;exact(iG.mp (J.ua d z)).elim fd.2.1 fd.2.2.1
 ·refine⟨_,rfl,aP ⟨_,rfl,.ref h1.objs.size,upd H h1.objs.size (.lst (bs'.map V.ref)),?_,rfl,k _ bs' fa.1 pb pw⟩⟩;exact J.OJ fa λH''=>⟨by rw[az,pb.length_eq,sizeLine_eq];omega,bs'.map Value.ref,e',jy,g⟩
def LO(K:Wf)(P:Addr)(lp:Pos)(q:Str)(te:TE):TE:=λσ H Q=>te σ H λx H1=>∃(p:Addr) (bs:List Addr) (z:Addr->Str) (rs:Addr->List V),x=.ref p/\aD K H1 p (bs.map V.ref)/\(∀b∈bs,H1 b=some (.tup (.str (z b)::rs b)))/\bs.length<64/\c7 P lp q H1/\
 ∀(l:Addr) (bs':List Addr) (H2:Hp),H1 l=none->bs'.Perm bs->(bs'.map λb=>((z b,0):aH)).Pairwise jE->eT P H1 H2->c7 P lp q H2->H2 l=some (.lst (bs'.map V.ref))->Q (.ref l) H2
theorem uS{K:Wf}{P c:Addr}{e:Expr}{te:TE}{p kp lp pos:Pos}{pr:Arguments}{bd:Expr}{sc:Scope}{y q:Str}(eK:X.K=K)(hr:cL 4 X.A)(he:PE X e te)(hg:Gl X "sorted")(hm:X.mg "sorted" = none)(hcd:X.env.code=.ref c)(hc:codeHdIn K c P=true)(bm:BMod K X.mg)(S:aA [y] [y] sc)
  (ht:∀(f c:Addr) A outer s H,PE (lM dm X.prog X.w X.K X.mg X.base [y] q sc f (.ref c) A outer s H E0) bd (yt (qD X.K) (mB 0) (tC (.int 0))))
  (hb:∀(pm cd ct u:Value),bindArgs (kla_fn (Str.ofString "<lambda>") q pr bd sc [] pm cd ct) ⟨[u],[]⟩=pure [(y,u)]:=by intros;rfl)
  (hcl:closureFor sc X.env=pure []:=by rfl) (hq:X.env.qual++Str.ofString "<lambda>" = q:=by rfl) (hdf:defaultsOf pr X.env=([],[]):=by rfl) (s1:starEach [e] X.env=[(false,eval e X.env)]:=by rfl):
  PE X (.Call (.Name "sorted" p) [e] [⟨some "key", .Lambda pr bd sc lp,kp⟩] pos) (LO K P lp q te):=by
 subst eK;intro pins s σ H Q I h;refine M6 (iy I hg hm (show bootBuiltins "sorted" = some (.builtin "sorted") by kernel_rfl) ?_);refine PyProof.Rows.callWith_kw ?_ (by rw[s1];rfl) (by rw[s1];rfl);rw[s1];refine Calls.spliced_cons (bE (he pins s σ H _ I h) λu s2 hh=>?_);obtain⟨x,H1,I1,r1,p',bs,z,rs,ex,hp,hd,h64,tb,k⟩:=hh;refine Calls.spliced_nil (kws_cons (PySem.W.kla_eval hdf ?_));subst ex;cases r1;rw[hq];refine FJ I1 hcl hcd hc bm tb λf c' ctv pm H' s' J sx tb' f0 fP hf hc'=>kws_nil ?_;have pt:∀(b:Addr) (o:HO),(∀ps,o≠.iH ps)->H1 b=some o->H' b=some o:=λb o ne e=>sx b o (λzz=>by
  obtain⟨ps,hP,_⟩:=tb;rw[zz,hP]at e;exact ne ps (Option.some.inj e).symm) e
 have hp':aD X.K H' p' (bs.map V.ref):=by
  rcases hp with hp|hp
  ·rcases hp with hp|⟨o,hp⟩
   ·exact .inl (.inl (pt _ _ (λps z=>by cases z) hp))
   ·exact .inl (.inr ⟨o,pt _ _ (λps z=>by cases z) hp⟩)
  ·exact .inr hp
 refine vS (z:=z) (rs:=rs) J hr hp' (λb hb=>pt _ _ (λps z=>by cases z) (hd b hb)) h64 hf hc' S (λs u=>.of_eq (hb _ _ _ _)) (λA outer s H=>ht f c' A outer s H) λl bs' l0 pb pw=>?_;have st:∀b o,H' b=some o->upd H' l (.lst (bs'.map V.ref)) b=some o:=λb o e=>by rw[ae (bH e l0)];exact e
 have l1:H1 l=none:=by
  cases e:H1 l with
  |none=>rfl
  |some o=>
   obtain⟨ps,hP,_⟩:=tb';have:=sx l o (λzz=>by rw[zz,hP]at l0;cases l0) e;rw[l0]at this;cases this
 exact k l bs' _ l1 pb pw (λb o n e=>st b o (sx b o n e)) (tb'.more st) aE
end
section
variable{P:Program}{w:World}{K:Wf}{mg:So}{base:Heap}
def RN(K:Wf)(fd:FuncData)(T:Addr):Prop:=∃c,fd.code=.ref c/\codeHdIn K c T=true
theorem dQ.SQ{x qual:Str}{st:Stmt}{f T:Addr}{fd:FuncData}{N ps:List Str}{k:Nat}{sp:Sp}(F:dQ K x qual st f fd)(L:RN K fd T)(S:aA N ps (ai st))(len:∀vs H Q E,sp vs H Q E->vs.length=ps.length)
  (hbody:∀(c:Addr) (cdv:Value) (A:Around) (outer:List Env) (s:Shared) (H:Hp) (vs:List V) (Q:VK) (E:XK),cdv=.ref c->codeHdIn K c T=true->cL k (A.deeper (envOfC qual (ai st) s.heap.objs.size f cdv))->sp vs H Q E->
   ∃t,vc (lM dm P w K mg base N qual (ai st) f cdv A outer s H E).M3 (d6 st) t/\t { nx:=λ_ H'=>Q .bj H',rt:=Q } (start N vs) H):bg P w K mg base dm (k+1) f fd ps sp:=by
 obtain⟨oc,od,kV,doc,pm,an,cdv,ct,osl,rfl,lk,hcd⟩:=F.ex;obtain⟨c,e1,e2⟩:=L;refine Kl lk hcd S len λA outer s H vs Q E hr hsp=>?_;obtain⟨t,h,q⟩:=hbody c cdv A outer s H vs Q E e1 e2 hr hsp;exact⟨t,h.M3,q⟩
end
def oG(Ts:List Addr)(H:Hp):Prop:=∀T∈Ts,H T=some (.iH #[])
theorem Bf{P:Program}{w:World}{K:Wf}{mg mb:So}{CX:B2}{k:Nat}{fa a:Addr}{fd:FuncData}{x:Str}{sp:Sp}{s₁:Shared}{vs:List Value}{ns:List Int}{Ts:List Addr}
  (KX:K.In s₁.heap) (hns:s₁.heap.Ns mainGlobals mg) (hb:s₁.heap.Ns builtinsNs mb) (hbb:∀x:Str,x ≠ "__name__" -> mb x=bootBuiltins x) (hlim:s₁.heap.NoLimit) (hg:s₁.gens=#[])
  (ha:s₁.heap.get? a=some { cls:=.type "list", data:=.seq vs.toArray }) (hi:IntsAre vs ns) (hl:ns.length<=sizeLine) (hr:cL k callerA)
  (hT:∀T∈Ts,s₁.heap.get? T=some (tabObj #[])/\isCodeTable s₁.heap T/\K.lookup T=none)
  (F:∀base:Heap,K.In base->base.Ns mainGlobals mg->bg P w K mg base CX k fa fd [x] sp) (hbind:∀(s:Shared) (u:Value),BindsTo s fd ⟨[u],[]⟩ [(x,u)])
  (hsp:∀H:Hp,oG Ts H->aD K H a (ns.map V.int)->sp [.ref a] H (λv _=>v=.bl true) λ_ _ _=>False)
  (hCX:∀H e s',CX [] H s₁ (λ_ _ _=>False) e s'->False):
  codeAny (model P w) callerA (.call (.ref fa) ⟨[.ref a],[]⟩) (λr s'=>r=.ok (.ret (.bool true))/\OldK s₁.heap s'.heap/\s'.os=s₁.os/\AllBare s'.gens) s₁:=by
 have rv:=mW hi;have lenV:=hi.length;have aT:a∉Ts:=λz=>by
  have:=(hT a z).1;rw[ha]at this;cases this
 have core:∀H:Hp,aD K H a (ns.map V.int)->(∀b,H b=none\/(b=a/\K.lookup a=none/\H b=some (.d9 { cls:=.type "list", data:=.seq vs.toArray } (.lst (ns.map V.int))))\/(b∈Ts/\H b=some (.iH #[])))->oG Ts H->
   codeAny (model P w) callerA (.call (.ref fa) ⟨[.ref a],[]⟩) (λr s'=>r=.ok (.ret (.bool true))/\OldK s₁.heap s'.heap/\s'.os=s₁.os/\AllBare s'.gens) s₁:=by
  intro H hS hO hE;have aV:g7 P w H s₁.heap:=λb u z=>by
   rcases hO b with y|⟨rfl,_,y⟩|⟨y1,y⟩
   ·rw[y]at z;cases z
   ·rw[y]at z;cases z;exact⟨ha,by rw[az];exact hl,vs,_,rv,ha⟩
   ·rw[y]at z;cases z;exact(hT b y1).1
  have base_of:∀{b:Addr}{o:Obj},s₁.heap.get? b=some o->H b=none->(oY s₁.heap H).get? b=some o:=λe n=>El e n;have noA:∀{b:Addr}{o:Obj}{es:Array DictEntry}{ep:Nat},s₁.heap.get? b=some o->o.data=.dict es ep->H b=none:=λ{b o es ep} e d=>by
   rcases hO b with y|⟨rfl,_,y⟩|⟨y1,y⟩
   ·exact y
   ·rw[ha]at e;cases e;have d':Data.seq vs.toArray _=Data.dict es ep:=d;cases d'
   ·rw[(hT b y1).1]at e;cases e;have d':Data.fields #[]=Data.dict es ep:=d;cases d'
  have nsK:∀{b:Addr}{m:So},s₁.heap.Ns b m->(oY s₁.heap H).Ns b m:=λ{b m} ⟨o,es,ep,e,d,r⟩=>⟨o,es,ep,base_of e (noA e d),d,r⟩;have hKb:K.In (oY s₁.heap H):=λb o e=>base_of (KX b o e) (by
   rcases hO b with y|⟨rfl,y1,y⟩|⟨y1,y⟩
   ·exact y
   ·rw[y1]at e;cases e
   ·rw[(hT b y1).2.2]at e;cases e)
  have hM:Mod K mg (oY s₁.heap H):=⟨hKb,nsK hns,⟨mb,nsK hb,hbb⟩,let ⟨mc,h1,h2⟩:=hlim;⟨mc,nsK h1,h2⟩⟩
  have e0:lW P w K mg (oY s₁.heap H) callerA [] s₁ H:=⟨rfl,hM,λb o e=>Jl e,Nat.le_of_eq (Bh _ _),trivial,λb hb=>absurd (show b∈([]:List Addr) from hb) (by simp),aV,.of_eq hg⟩
  refine codeAny_mono ((F _ hKb (nsK hns)).run callerA [] s₁ H ⟨[.ref a],[]⟩ [.ref a] [.ref a] _ _ hr e0 (hbind s₁ (.ref a)) (.cons rfl .nil) (hsp H hE hS)) λr s' h=>?_;cases r with
  |error e=>exact(hCX H e s' h).elim
  |ok fl=>
   cases fl with
   |next=>exact False.elim h
   |brk=>exact False.elim h
   |cont=>exact False.elim h
   |ret u=>
    obtain⟨v,H',os,bare,un,hok',r',q⟩:=h;have q':v=.bl true:=q;subst q';obtain rfl:u=Value.bool true:=r';have nf:∀b:Addr,b∉v_ []:=λb z=>absurd (show b∈([]:List Addr) from z) (by simp);refine⟨rfl,⟨λb o e=>?_,λb o e=>un.there b o e (by simp)⟩,os,bare⟩;rcases hO b with y|⟨_,_,y⟩|⟨y1,y⟩
    ·exact .inl (un.keep b o e y (nf b) (by simp))
    ·obtain⟨e1,_⟩:=aV b _ y;obtain⟨e2,_⟩:=hok' b _ (un.mw b _ _ y);rw[e]at e1;cases e1;exact .inl e2
    ·obtain⟨more,z⟩:=un.mf b _ y;have e2:s'.heap.get? b=some { cls:=.none,data:=.fields (#[]++more) }:=hok' b _ z;obtain⟨t1,t2,_⟩:=hT b y1;rw[e]at t1;cases t1;exact .inr (.inl ⟨t2,rfl,#[],more,rfl,e2⟩)
 cases hk:K.lookup a with
 |some o=>
  have e:=KX a o hk;rw[ha]at e;cases e;refine core (λb=>if b∈Ts then some (.iH #[]) else none) (.inr ⟨_,vs.toArray,_,hk,rfl,rfl,rfl,by rw[ij,lenV];exact hl,by simpa using rv⟩) (λb=>?_) λT hT'=>if_pos hT';by_cases z:b∈Ts
  ·exact .inr (.inr ⟨z,if_pos z⟩)
  ·exact .inl (if_neg z)
 |none=>
  refine core (λb=>if b∈Ts then some (.iH #[]) else if b=a then some (.d9 { cls:=.type "list", data:=.seq vs.toArray } (.lst (ns.map V.int))) else none) (.inl (.inr ⟨{ cls:=.type "list", data:=.seq vs.toArray },(if_neg aT).trans (if_pos rfl)⟩)) (λb=>?_) λT hT'=>if_pos hT';by_cases z:b∈Ts
  ·exact .inr (.inr ⟨z,if_pos z⟩)
  ·by_cases y:b=a
   ·exact .inr (.inl ⟨y,hk,(if_neg z).trans (if_pos y)⟩)
   ·exact .inl ((if_neg z).trans (if_neg y))
def RA(K:Wf)(f T:Addr)(st:Stmt)(x q:Str):Prop:=∃(oc:Value) (od an:Option Addr) (sl:Array (Option Value)) (kV dc pm ct:Value) (c:Addr),K.lookup f=some ⟨oc,od,.func (fnOf x q (fT st) (d6 st) (ai st) .none kV dc pm an (.ref c) ct),sl⟩/\codeIn K (.ref c) q=true/\keepIn K (.ref f)=true/\codeHdIn K c T=true
def D9(K:Wf)(h:Heap)(T:Addr):Prop:=h.get? T=some (tabObj #[])/\(∃c,codeHdIn K c T=true)/\K.lookup T=none
theorem Fc{q:Program}{loose:List Str}{mean:ExcName->Option Value}{mg mb:So}{h:Heap}{K:Wf}{f T:Addr}{st:Stmt}{x y:Str}(KX:K.In h)(TP:Top q loose mean mg mb h)(hrec:((recsOf q).any λd=>d.name == x)=true)(a:nsIn K mainGlobals x=some (some (.ref f)))(l:RA K f T st x y)(n:K.lookup T=none):D9 K h T:=by
 obtain⟨oc,od,an,sl,kV,dc,pm,ct,c,lk,_,_,hc⟩:=l;obtain⟨d,hd,en⟩:=lP.mp hrec;have en:d.name=x:=by simpa using en
 obtain⟨a',o,fd,c',P,e1,e2,e3,e4,_,e6⟩:=TP.tab d hd;have ef:=mg_of KX TP.g a;rw[en,ef]at e1;cases e1;rw[KX _ _ lk]at e2;cases e2;cases e3;have ec:c=c':=Value.ref.inj e4;subst ec;obtain⟨⟨o2,vs2,g1,g2,g3,g4⟩,g5⟩:=e6;obtain⟨o3,vs3,_,_,_,_,_,_,_,k1,k2,k3,k4,_⟩:=codeHd_of_K KX hc;rw[k1]at g1;cases g1;rw[k3]at g3;cases g3;rw[k4]at g4;cases g4;exact⟨g5,⟨c,hc⟩,n⟩
theorem B4{l:PySem.W.OpenLaw}{n k:Nat}{q:Program}{loose:List Str}{XP:(Str->Option Value)->Heap->Prop}{YP:World->Heap->Prop}{d:DefRec}{K:Params->Wf}{CX:World->B2}{sp:World->Sp}{x:Str}{Ts:List Addr}
  (hn:l.most=some n) (hn2:n<=sizeLine) (hdf:d.params.defaults=[]) (hr:cL k callerA)
  (hY:∀(w:World) (h:Heap),YP w h->(K w.params).In h)
  (hT:∀(w:World) (h:Heap) (lo:List Str) (mean:ExcName->Option Value) (mg mb:So),(K w.params).In h->Top q lo mean mg mb h->∀T∈Ts,D9 (K w.params) h T)
  (F:∀(w:World) (mg:So) (fa:Addr) (h:Heap),(K w.params).In h->h.Ns mainGlobals mg->mg d.name=some (.ref fa)->
   ∃fd:FuncData,(∀(s:Shared) (u:Value),BindsTo s fd ⟨[u],[]⟩ [(x,u)])/\
    ∀base:Heap,(K w.params).In base->base.Ns mainGlobals mg->bg l.prog w (K w.params) mg base (CX w) k fa fd [x] (sp w))
  (hsp:∀(w:World) (H:Hp) (a:Addr) (ns:List Int),ns.length<=n->oG Ts H->aD (K w.params) H a (ns.map V.int)->sp w [.ref a] H (λv _=>v=.bl true) λ_ _ _=>False)
  (hCX:∀(w:World) (H:Hp) (s:Shared) (e:Value) (s':Shared),CX w [] H s (λ_ _ _=>False) e s'->False):
  PySem.W.WalkO q loose XP YP l.row.toRowW d [] (λf vs=>PySem.call f vs):=by
 refine Att.attach_call hn hdf λw s₀ s₁ mg mb fa o pm cd doc a vs ns G Y ho hd hcd hmg hobj hints hlen hg=>?_;have KX:=hY w _ Y;obtain⟨fd,hb,hF⟩:=F w mg fa _ KX G.T.g hmg;refine Bf KX G.T.g G.T.b G.T.builtins G.T.nolimit hg hobj hints (f9 hlen hn2) hr (λT hT'=>?_) hF hb (λH hO hS=>hsp w H a ns hlen hO hS) λH e s'=>hCX w H s₁ e s';obtain⟨t1,⟨c,t2⟩,t3⟩:=hT w _ _ _ mg mb KX G.T T hT';obtain⟨o',vs',_,_,_,_,_,_,_,e1,e2,e3,e4,_⟩:=codeHd_of_K KX t2;exact⟨t1,⟨c,o',vs',e1,e2,e3,e4⟩,t3⟩
theorem eT.get(s:eT P H H')(hP:H P=some (.iH ps)){b:Addr}{o:HO}(e:H b=some o)(n:∀ps,o≠.iH ps):H' b=some o:=
 s b o (λz=>by rw[z,hP]at e;exact n ps (Option.some.inj e).symm) e
noncomputable def HC(P:Addr)(H:Hp):Hp:=λb=>if b=P then none else H b
theorem eX(hP:H P=some (.iH ps))(e:H b=some o)(n:∀ps,o≠.iH ps):HC P H b=some o:=by
 unfold HC;rw[if_neg (λz=>by rw[z,hP]at e;exact n ps (Option.some.inj e).symm)];exact e
theorem eT.same(s:eT P H H'):ay (HC P H) H':=λb o e=>by
 unfold HC at e;by_cases z:b=P
 ·rw[if_pos z]at e;cases e
 ·rw[if_neg z]at e;exact s b o z e
theorem eT.free(s:eT P H H'){b:Addr}(hb:b≠P)(h:H' b=none):H b=none:=by
 cases e:H b with
 |none=>rfl
 |some o=>rw[s b o hb e]at h;cases h
theorem aL.At.HC{P:Addr}{ps:Array Value}{H:Hp}{s:aL}(hP:H P=some (.iH ps))(h:s.At H):s.At (HC P H):=
 ⟨eX hP h.top (λ_ z=>by cases z),eX hP h.wd (λ_ z=>by cases z),eX hP h.fl (λ_ z=>by cases z),λf hf=>eX hP (h.fs f hf) (λ_ z=>by cases z)⟩
theorem ah.At.HC{P:Addr}{ps:Array Value}{H:Hp}{p:ah}(hP:H P=some (.iH ps))(h:p.At H):p.At (HC P H):=
 ⟨eX hP h.top (λ_ z=>by cases z),eX hP h.sl (λ_ z=>by cases z),eX hP h.nl (λ_ z=>by cases z),λs hs=>(h.ss s hs).HC hP,λn hn=>eX hP (h.ns n hn) (λ_ z=>by cases z)⟩
theorem ah.At.keep{P:Addr}{ps:Array Value}{H H':Hp}{p:ah}(h:p.At H)(hP:H P=some (.iH ps))(s:eT P H H'):p.At H':=(h.HC hP).mono s.same
noncomputable def RF(K:Wf)(a:Addr)(xs:List V):It:=
 ⟨λi H=>aD K H a xs/\i<xs.length,λi H x H'=>H'=H/\xs.reverse[i]?=some x,λi H=>aD K H a xs/\xs.length<=i⟩
theorem Eo{P:Program}{w:World}{K:Wf}{tg:Expr}(a it:Addr)(xs:List V):Turn P w K tg (RF K a xs) [it] it (λi h=>i<=xs.length/\h.IsRevIter it a ((xs.length:Int) - 1 - i)) where
 mem:=by simp
 obj:=λi h st b hb=>by
  have e:b=it:=by simpa using hb
  subst e;obtain⟨_,o,e,c,d⟩:=st;exact⟨o,e,λv z=>by rw[d]at z;cases z⟩
 keep:=λi h h' st k=>⟨st.1,st.2.at λo e=>k it (by simp) o e⟩
 item:=by
  intro X hP hw hK hc i pins s σ H E I hf st hg;subst hP hw hK;obtain⟨hq,hi⟩:=hg;obtain⟨its,rv,p,hz⟩:=I.list hq;obtain⟨f0,f1,f2,f3,f4,f5⟩:=hf it (by simp);have hl:=rv.length;have hx:xs[xs.length - 1 - i]?=some xs[xs.length - 1 - i]:=jo (by omega);generalize hxx:xs[xs.length - 1 - i]=x at hx;obtain⟨u,hu,ru⟩:=rv.get hx;have st2:s.heap.IsRevIter it a ((xs.length - 1 - i:Nat):Int):=by
   have:=st.2
   rwa [show((xs.length:Int) - 1 - i)=((xs.length - 1 - i:Nat):Int) by omega]at this
  refine wpAny_pyNext_rev_item st2 p.isList (x:=u) (by simpa using hu) λh' st' sb=>?_;have I1:Inv X pins σ H { s with heap:=h' }:=I.turned (t':=s.toks) (λb o hb e=>(sb.2 b hb).trans e) f0 f1 f3 f4 f5;obtain⟨o,e,c,d⟩:=id st';refine⟨u,rfl,nT (s:={ s with heap:=h' }) e c d (by decide) ⟨x,H,I1,ru,⟨rfl,?_⟩,⟨by omega,?_⟩,λb hb=>(hf b hb).1⟩⟩
  ·rw[List.getElem?_reverse hi];exact hx
  ·rwa [show((xs.length:Int) - 1 - ((i+1:Nat):Int))=((xs.length - 1 - i:Nat):Int) - 1 by omega]
 done:=by
  intro X hP hw hK hc i pins s σ H E I hf st hg;subst hP hw hK;obtain⟨hq,hi⟩:=hg;obtain⟨f0,f1,f2,f3,f4,f5⟩:=hf it (by simp);have st2:s.heap.IsRevIter it a (-1):=by
   have:=st.2
   rwa [show((xs.length:Int) - 1 - i) = -1 by have:=st.1;omega]at this
  exact wpAny_pyNext_rev_end (I.ok.hd hc) st2 λh' eb=>⟨rfl,I.turned (t':=s.toks) (λb o hb e=>eb b o hb e) f0 f1 f3 f4 f5⟩
 self:=λ_ _ _ _ _ st h=>wpAny_pyIter_revIter st.2 h
section
variable{X:Cx}{tg:Expr}{K:Wf}
def OP(K:Wf)(tl:TE):TI:=λσ H R=>tl σ H λx H1=>∃a xs,x=.ref a/\aD K H1 a xs/\R (RF K a xs) H1
theorem L4(eK:X.K=K)(hg:Gl X "reversed")(hm:X.mg "reversed" = none)(hl:PE X l tl)(hs:starEach [l] X.env=[(false,eval l X.env)]:=by rfl):PI X tg (.Call (.Name "reversed" p) [l] [] pos) (OP K tl):=by
 subst eK;intro pins s σ H R I h;refine M6 (iy I hg hm (show bootBuiltins "reversed" = some (.type "reversed") by kernel_rfl) ?_);refine PyProof.Rows.callWith_type1 ?_ (by rw[hs];rfl) rfl;rw[hs];show wpAny _ _ (spliced ((false,eval l X.env)::[])) _ _ s;refine Calls.spliced_cons (bE (hl pins s σ H _ I h) λu s1 ⟨x,H1,I1,r1,a,xs,ex,hq,q⟩=>Calls.spliced_nil ?_);subst ex;cases r1;obtain⟨its,r',pl,hz'⟩:=I1.list hq;refine call_reversed_list pl.isList ?_;have ln:=r'.length;have it0:(s1.heap.push (revObj a ((its.toArray.size:Int) - 1))).IsRevIter s1.heap.objs.size a ((xs.length:Int) - 1 - ((0:Nat):Int)):=⟨_,gL _ rfl,rfl,by
  show(revObj a ((its.toArray.size:Int) - 1)).data=_;rw[ij,<-ln,show((xs.length:Int) - 1 - ((0:Nat):Int))=(xs.length:Int) - 1 by omega];rfl⟩
 refine wpAny_pyIter_revIter it0 ?_;refine⟨s1.heap.objs.size,[s1.heap.objs.size],_,_,H1,rfl,I1.kept (t':=s1.toks) λb o e=>cM _ e,Eo a _ xs,⟨fe _,it0⟩,λb hb=>?_,q⟩;have e:b=s1.heap.objs.size:=by simpa using hb
 subst e;exact I1.sP (bC _) (I1.aV.fresh (bC _))
def Ib(K:Wf)(g:TG)(tb:TS)(D:Ends)(σ:St):VK:=λx H1=>∃a xs,x=.ref a/\aD K H1 a xs/\uY g tb D σ (RF K a xs) H1
section
variable{te:TE}{g:TG}{tb:TS}{D:Ends}{σ:St}{H:Hp}
theorem Nz:mJ (OP K te) g tb D σ H=te σ H (Ib K g tb D σ):=rfl
theorem Ib.of(Pv:Nat->St->Hp->Prop)(h0:Pv 0 σ H)(hl:∀i σ H,i<=xs.length->Pv i σ H->aD K H a xs)
  (hs:∀i x σ H,xs.reverse[i]?=some x->Pv i σ H->g x σ H λσ2 H2=>tb { D with nx:=Pv (i+1),ct:=Pv (i+1),bk:=D.nx } σ2 H2) (hd:∀σ H,Pv xs.length σ H->D.nx σ H):Ib K g tb D σ (.ref a) H:=by
 refine⟨a,xs,rfl,hl 0 _ _ (fe _) h0,λi m σ H=>m=xs.length - i/\i<=xs.length/\Pv i σ H,⟨xs.length,by simp,Nat.zero_le _,h0⟩,?_⟩;rintro i m σ H ⟨rfl,hi,p⟩;have q:=hl i σ H hi p;by_cases hlt:i<xs.length
 ·refine .inr ⟨⟨q,hlt⟩,Pv (i+1),λσ' H' p'=>⟨xs.length - (i+1),by omega,rfl,hlt,p'⟩,λx H' y=>?_⟩;obtain⟨rfl,hx⟩:=y;exact hs i x σ _ hx p
 ·have e:i=xs.length:=by omega
  subst e;exact .inl ⟨⟨q,bC _⟩,hd σ H p⟩
end
noncomputable def PU:V->List V->Hp->VK->Prop:=λx vs H Q=>∃d o af more,x=.ref d/\vs=[.ref o]/\H d=some (.dK af)/\H o=some (.dK more)/\d≠o/\af.length+more.length<=100000/\Q .bj (upd H d (.dK (cb af more)))
theorem wD:QI X "dict.update" PU:=by
 intro pins s σ H x vs v us Q I rx rv h;obtain⟨d,o,af,more,rfl,rfl,hd,ho,ne,z,q⟩:=h;cases rx;obtain⟨u,rfl,ru⟩:=vals1 rv;cases ru;obtain⟨_,hS,ws,rel,dd⟩:=nh I.aV hd;obtain⟨_,hS2,ws2,rel2,dd2⟩:=nh I.aV ho;have l1:af.length=ws.length:=Paired.length rel;have l2:more.length=ws2.length:=Paired.length rel2;have l3:=ia more af;refine call_meetsIn PySem.F.slot_dict_update dd.typeIs PySem.F.entry_dict_update (PySem.F.args_dict_update_2 _ _) (meets_dict_update (aW X.prog X.w) d o ne hS2) ⟨ws,ws2,dd,dd2,by rw[sizeLine_eq];omega,λh' d1 d2 sb=>?_⟩;have he:∃q,h'.get? d=some q:=let ⟨q,_,_,hq,_⟩:=d1;⟨q,hq⟩
 exact⟨.bj,_,g6 (t':=s.toks) I (by rw[hd];exact True.intro) sb he (uv (by rw[sizeLine_eq];omega) hS (KV.merge rel2 rel) d1),rfl,q⟩
def An(g:TG)(tt:TT)(te:TE)(σ0:St)(Q:VK):VK:=λx H1=>∃a af,x=.ref a/\H1 a=some (.dK af)/\∀o,nK g tt te σ0 Q (QB a o af) (upd H1 a (.d9 o (.dK af)))
section
variable{k:Nat}{fm:List Nat}{tl te:TE}{g:TG}{tt:TT}{σ σ0:St}{H H1:Hp}{Q:VK}
theorem L9:iT k fm (GJ tl) g tt te σ H Q=tl σ H (An g tt te (d3 k fm σ) Q):=rfl
theorem An.of(hz:af.length<sizeLine)(hx:H1 a=some (.dK af))(Pv:Obj->Addr->Nat->List V->Hp->Prop)(h0:∀o D,H1 D=none->Pv o D 0 [] (upd (upd H1 a (.d9 o (.dK af))) D (.lst [])))
  (hl:∀o D i ys H',H1 D=none->i<=af.length->Pv o D i ys H'->H' a=some (.d9 o (.dK af))/\H' D=some (.lst ys)/\ys.length<=i)
  (hs:∀o D i p ys H',H1 D=none->af[i]?=some p->Pv o D i ys H'->g (kV p.1) σ0 H' λσ3 H4=>Ext σ0 σ3/\tt σ3 H4 λb H5=>if b=true then te σ3 H5 λy H6=>H6 D=some (.lst ys)/\Pv o D (i+1) (ys++[y]) (upd H6 D (.lst (ys++[y]))) else Pv o D (i+1) ys H5)
  (hd:∀o D ys H',H1 D=none->Pv o D af.length ys H'->Q (.ref D) H'):An g tt te σ0 Q (.ref a) H1:=by
 refine⟨a,af,rfl,hx,λo D hD0=>?_⟩;have nD:D≠a:=λe=>by rw[e,aE]at hD0;cases hD0
 have hD:H1 D=none:=by rwa [ae nD]at hD0
 refine⟨λi m ys H=>m=af.length - i/\i<=af.length/\Pv o D i ys H,⟨af.length,by simp,Nat.zero_le _,h0 o D hD⟩,?_⟩;rintro i m ys H2 ⟨rfl,hi,p⟩;obtain⟨l0,l1,l2⟩:=hl o D i ys H2 hD hi p;refine⟨l1,by omega,?_⟩;by_cases hlt:i<af.length
 ·refine .inr ⟨⟨l0,af[i],by simp[hlt]⟩,Pv o D (i+1),λys' H' p'=>⟨_,(by omega:af.length - (i+1)<af.length - i),rfl,hlt,p'⟩,λx H3 y=>?_⟩;obtain⟨rfl,u,hu,rfl⟩:=y;exact hs o D i u ys _ hD hu p
 ·have e:i=af.length:=by omega
  subst e;exact .inl ⟨⟨l0,bC _⟩,hd o D ys H2 hD p⟩
end
section
variable{te:TE}{g:TG}{tb:TS}{D:Ends}{σ:St}{H:Hp}
end
end
section
variable{X:Cx}
end
section
variable{X:Cx}
end
section
variable{X:Cx}
end
section
open PySem.SeqAt
open PySem.AutoSeq1 (wpAny_loadPart')
open PySem.MeetsSeq PySem.MeetsSeq2 PySem.MeetsSeq3
end
section
variable{prog:Program}{w:World}{A:Around}{R:Result->Shared->Prop}{I S:Addr}{fp wr:List Addr}{n:Nat}{P:Nat->Value->Prop}{St:Nat->Heap->Prop}{a:Nat->Addr}{lt:Nat->Nat->Bool}{Kp:Heap->Prop}
end
section
variable{prog:Program}{w:World}{A:Around}{E:Vs}{s:Shared}
end
section
variable{X:Cx}
end
end L2
namespace L2
open PySem
section
variable{prog:Program}{w:World}{A:Around}{E:Vs}{s:Shared}
theorem CF(hit:s.heap.IsKeyIter it d i es.size ep)(ho:s.heap.get? d=some o)(hd:o.data=.dict es ep)(hlt:i<es.size)
  (hQ:∀h',h'.IsKeyIter it d (i+1) es.size ep->Heap.SameBut it s.heap h'->Q (some es[i].key) { s with heap:=h' }):wpAny (model prog w) A (pyNext (.ref it)) Q E s:=by
 have T:=hit.typeIs;obtain⟨oi,hi,hc,hf⟩:=id hit;have st:(s.heap.update it (Obj.mapFields (·.setIfInBounds 1 (rawInt ((i:Int)+1))))).IsKeyIter it d (i+1) es.size ep:=⟨_,JU _ hi (Obj.isFreed_of_fields (Obj.data_mapFields hf _)),(Obj.cls_mapFields ..).trans hc,by rw[Obj.data_mapFields hf];simp[rawInt]⟩
 have no:Builtin.Dict_items.ownsTuple "dict_keyiterator" = false:=by decide
 have pos:¬((i:Int)<0):=by omega
 unfold pyNext;apply au;apply JQ;apply Kw (name:=Str.ofString "__next__") T F.slot_dict_keyiterator_next;apply B1 F.slot_dict_keyiterator_next T F.entry_dict_keyiterator_next _ (F.args_dict_keyiterator_next_1 _);apply au;apply aP;apply au;apply au;apply au;apply QP T;apply aP;apply au;apply Ni hi hf;simp only[no,Bool.false_eq_true,if_false];show wpAny _ _ (if (Value.ref d == Value.none)=true then _ else _) _ _ s;rw[if_neg (λz=>nomatch z)];apply au;apply aP;apply au;apply Ot ho hd;rw[if_neg (by simp)];apply au;apply aP;apply au;apply wpAny_dictEpoch ho hd;rw[if_neg (by simp)];apply aP;simp only[pos,if_false,Int.toNat_natCast,Array.getElem?_eq_getElem hlt];apply au;apply au;apply QP T;apply aP;apply au;apply wpAny_isOneOf_keyiter T;show wpAny _ _ (setField (.ref it) 1 (rawInt ((i:Int)+1)) >>= _) _ _ s;apply au;apply MV hi hf (by simp);apply wpAny_bind;apply wpAny_holding;apply wpAny_bind;apply wpAny_isOneOf_keyiter (s:={ s with heap:=s.heap.update it (Obj.mapFields (·.setIfInBounds 1 (rawInt ((i:Int)+1)))) }) st.typeIs;show wpAny _ _ (pure es[i].key) _ _ _;exact aP (aP ⟨_,rfl,aP (hQ _ st (Heap.SameBut.update ..))⟩)
theorem Cc(hh:A.handled=none)(hit:s.heap.IsKeyIter it d i es.size ep)(ho:s.heap.get? d=some o)(hd:o.data=.dict es ep)(hge:es.size<=i)
  (hQ:∀h',Heap.ExtBut it s.heap h'->Q none { s with heap:=h' }):wpAny (model prog w) A (pyNext (.ref it)) Q E s:=by
 have T:=hit.typeIs;obtain⟨oi,hi,hc,hf⟩:=id hit;have no:Builtin.Dict_items.ownsTuple "dict_keyiterator" = false:=by decide
 have pos:¬((i:Int)<0):=by omega
 unfold pyNext;apply au;apply JQ;apply Kw (name:=Str.ofString "__next__") T F.slot_dict_keyiterator_next;apply B1 F.slot_dict_keyiterator_next T F.entry_dict_keyiterator_next _ (F.args_dict_keyiterator_next_1 _);apply au;apply aP;apply au;apply au;apply au;apply QP T;apply aP;apply au;apply Ni hi hf;simp only[no,Bool.false_eq_true,if_false];show wpAny _ _ (if (Value.ref d == Value.none)=true then _ else _) _ _ s;rw[if_neg (λz=>nomatch z)];apply au;apply aP;apply au;apply Ot ho hd;rw[if_neg (by simp)];apply au;apply aP;apply au;apply wpAny_dictEpoch ho hd;rw[if_neg (by simp)];apply aP;simp only[pos,if_false,Int.toNat_natCast,Array.getElem?_eq_none hge];apply au;apply au;apply QP T;apply aP;show wpAny _ _ (setField (.ref it) 0 .none >>= _) _ _ s;apply au;apply MV hi hf (by simp);show wpAny _ _ (newExc (.type "StopIteration") [] >>= _) _ _ _;apply au;simp only[newExc,newTuple];apply au;refine yZ ?_ (by size_fits);apply au (m:=firstArgMember _ _);refine wpAny_of_eq (a:=Value.none) (by first|rfl|(simp only[firstArgMember];rfl)) ?_;refine yZ ?_ (by size_fits);simp only[raiseNew];apply au;apply wpAny_handled;rw[show A.in1.handled=none from hh];refine au (aP (wpAny_throw ?_));apply au;refine wpAny_isInstance (T := "StopIteration") (b:=true) ⟨_,gL _ rfl,rfl⟩ isSubtype_stop ?_;exact aP (hQ _ (((Heap.SameBut.update ..).extBut.push _).push _))
theorem Gf(hT:s.TypeIs (.ref d) "dict")(hS:(d == sysModules)=false)(ho:s.heap.get? d=some o)(hd:o.data=.dict es ep)
  (hQ:Q (.ref s.heap.objs.size) { s with heap:=s.heap.push { cls:=.type "dict_keyiterator", data:=.fields #[.ref d,.int 0 0,.int es.size 0,.int ep 0] } }):wpAny (model prog w) A (pyIter (.ref d)) Q E s:=by
 apply wpAny_pyIter_slot hT F.slot_dict_iter;apply B1 F.slot_dict_iter hT F.entry_dict_iter _ (F.args_dict_iter_1 _);unfold Builtin.«dict.__iter__»;apply au;unfold Builtin.Dict.dictSlotNone;apply wpAny_bind;apply wpAny_notOrdered_dict hT;show wpAny _ _ (pure (Value.ref d)) _ _ s;apply aP;show wpAny _ _ (Builtin.Dict.showsAll d >>= _) _ _ s;unfold Builtin.Dict.showsAll;rw[if_neg (by rw[hS];decide)];apply au;apply aP;apply au;apply Ot ho hd;apply au;apply wpAny_dictEpoch ho hd;exact au (yZ (aP ⟨_,rfl, "dict_keyiterator", _,⟨_,gL _ rfl,rfl⟩,F.slot_dict_keyiterator_next.lookup,by simpa [rawInt] using hQ⟩))
theorem Im(hT:s.TypeIs (.ref d) "dict")(hS:(d == sysModules)=false)(ho:s.heap.get? d=some o)(hd:o.data=.dict es ep)(hz:(es.size:Int)<2 ^ 63)
  (h:Q (.int es.size (s.toks+1)) { s with toks:=s.toks+1+1 }):wpAny (model prog w) A (call (.builtin "len") [.ref d]) Q E s:=by
 refine Calls.call_function_entry kind_len plain_len entry_len (args_len1 _) ?_;have m:MeetsIn prog w (Builtin.«dict.__len__» ⟨[.ref d],[]⟩) (λ_ R s=>s.heap.get? d=some o/\R (.ok (.ret (.int es.size s.toks))) { s with toks:=s.toks+1 }):=.of_wp λA R s ⟨ho,h⟩=>by
  show wpAny _ _ (dictSize d >>= _) _ _ s;unfold dictSize;apply au;apply au;apply Ot ho hd;apply aP;show wpAny _ _ (Builtin.Dict.pendingCount d >>= _) _ _ s;exact au (wpAny_pendingCount_other hS (wpAny_ret_mkInt h))
 unfold Builtin.«len»;apply au (m:=oneArg "len" _);apply aP;apply au (m:=callSpecial? (.ref d) (Str.ofString "__len__"));apply Kw (name:=Str.ofString "__len__") hT F.slot_dict_len;refine call_meetsIn F.slot_dict_len hT F.entry_dict_len (F.args_dict_len_1 _) m ⟨ho,?_⟩;show wpAny _ _ _ _ _ { s with toks:=s.toks+1 };apply au;apply v9;apply aP;apply au;apply wpAny_letGo;show wpAny _ _ (if ((es.size:Nat):Int)<0 then _ else _) _ _ _;rw[if_neg (by omega)];show wpAny _ _ (if ((es.size:Nat):Int)≥2 ^ 63 then _ else _) _ _ _;rw[if_neg (by omega)];exact au (wpAny_mkInt (aP ⟨_,rfl,h⟩))
theorem fL{K:Type} [DecidableEq K]{knd:HeapKind prog w K}{h h':Heap}{S:Addr}{xs:List (K×Addr×Value)}(d:h.DictOfH knd S xs)(k:∀o,h.get? S=some o->h'.get? S=some o)(hk:∀x∈xs,knd.is h' x.1 x.2.1):h'.DictOfH knd S xs:=by
 obtain⟨o,es,ep,ho,h1,h2,h3,_,h5⟩:=d;exact⟨o,es,ep,k o ho,h1,h2,h3,hk,h5⟩
noncomputable def kB{K:Type} [DecidableEq K](l:List (K×Addr×Value)):List (K×Addr×Value):=l.foldl (λxs t=>storedH xs t.1 t.2.1 t.2.2) []
theorem vT{K:Type} [DecidableEq K](xs:List (K×Addr×Value))(k:K)(a:Addr)(v:Value):(storedH xs k a v).length<=xs.length+1:=by
 unfold storedH;split
 ·rw[az];omega
 ·rw[cW];simp
theorem vK{K:Type} [DecidableEq K]{xs:List (K×Addr×Value)}{k:K}{a:Addr}{v:Value}{x:K×Addr×Value}(h:x∈storedH xs k a v):(∃y∈xs,y.1=x.1/\y.2.1=x.2.1)\/(x.1=k/\x.2.1=a):=by
 unfold storedH at h;split at h
 ·obtain⟨y,hy,rfl⟩:=aM.mp h;refine .inl ⟨y,hy,?_⟩;unfold putAt;split<;>exact⟨rfl,rfl⟩
 ·rcases bF.mp h with z|z
  ·exact .inl ⟨x,z,rfl,rfl⟩
  ·rw[bX.mp z];exact .inr ⟨rfl,rfl⟩
set_option maxHeartbeats 3200000 in
theorem R8{K:Type} [DecidableEq K]{knd:HeapKind prog w K}{R:Result->Shared->Prop}{I:Addr}{fp wr:List Addr}{G:Array GenState->Array GenState->Prop}{n:Nat}{P:Nat->Value->Prop}{St:Nat->Shared->Prop}(W:WalksS prog w A.in1 I fp wr G n P St)(S:Addr)(hSf:S∉fp)(hu:knd.room A.in1)
  (at_ kt:Nat->Addr) (vs:Nat->Value) (ks:Nat->K) (hval:∀i v,P i v->v=.ref (at_ i)) (hmv:∀{h h':Heap}{i:Nat},i<n->knd.is h (ks i) (kt i)->(∀o,h.get? (kt i)=some o->h'.get? (kt i)=some o)->knd.is h' (ks i) (kt i)) (hne:∀i,i<n->at_ i≠S/\at_ i∉wr/\kt i≠S/\kt i∉wr) (hb:n+1<sizeLine):
  ∀(k i:Nat) (s:Shared) (af:List (K×Addr×Value)),n - i=k->i<=n->St i s->s.heap.DictOfH knd S af->af.length<=i->(∀x∈af,∃j,j<n/\x.1=ks j/\x.2.1=kt j)->(∀j,j<n->dz s.heap (at_ j) (.ref (kt j)) (vs j)/\knd.is s.heap (ks j) (kt j))->af=kB ((List.range i).map λj=>(ks j,kt j,vs j))->∀t:Tok,
   (∀s',Moved (S::wr) G s s'->s'.heap.DictOfH knd S (kB ((List.range n).map λj=>(ks j,kt j,vs j)))->R (.ok (.ret .none)) s')->
   codeAny (model prog w) A (.builtin "dict.update.loop" ⟨[.ref S,.ref I,.int i t,.none],[]⟩) R s:=by
 have hSw:S∉wr:=λh=>hSf (W.sub _ h);have sub:∀b∈wr,b∈S::wr:=λb hb=>ka _ hb;intro k
 induction k with
 |zero=>
  intro i s af hk' hi st hS hl hx hp em t hR;obtain rfl:i=n:=by omega
  apply codeAny_builtin gU;rw[Around.under_plainId c6 _];show wpAny _ A.in1 (pyNext (.ref I) >>= _) _ _ s;refine au (W.done s _ _ st λs' mv=>?_);show wpAny _ _ (Builtin.Dict.addKeywords S [] >>= λ_=>ret Value.none) _ _ _;refine au (aP (aP ?_));refine hR s' (mv.mono sub) (em▸fL hS (λo z=>mv.heap S o hSw z) λx hxx=>?_);obtain⟨j,hj,e1,e2⟩:=hx x hxx;rw[e1,e2];exact hmv hj (hp j hj).2 λo z=>mv.heap _ o (hne j hj).2.2.2 z
 |succ k ih=>
  intro i s af hk' hi st hS hl hx hp em t hR;have lt:i<n:=by omega
  apply codeAny_builtin gU;rw[Around.under_plainId c6 _];show wpAny _ A.in1 (pyNext (.ref I) >>= _) _ _ s;refine au (W.item i s _ _ lt st λv s' hP st' mv=>?_);obtain rfl:=hval i v hP;have hp':∀j,j<n->dz s'.heap (at_ j) (.ref (kt j)) (vs j)/\knd.is s'.heap (ks j) (kt j):=λj hj=>by
   obtain⟨⟨o,m,e,c,d⟩,ik⟩:=hp j hj;exact⟨⟨o,m,mv.heap _ o (hne j hj).2.1 e,c,d⟩,hmv hj ik λo z=>mv.heap _ o (hne j hj).2.2.2 z⟩
  have hS':s'.heap.DictOfH knd S af:=fL hS (λo z=>mv.heap S o hSw z) λx hxx=>by
   obtain⟨j,hj,e1,e2⟩:=hx x hxx;rw[e1,e2];exact(hp' j hj).2
  obtain⟨⟨o,m,ho,hc,hd⟩,hkey⟩:=hp' i lt;show wpAny _ A.in1 (holding [Value.ref (at_ i)] (Sem.tryCatch (Builtin.Dict.pairItems (Value.ref (at_ i))) _ >>= _) >>= _) _ _ s';apply au;apply v9;apply au;apply wpAny_tryCatch;unfold Builtin.Dict.pairItems;refine au (NG ho ?_);rw[hc,if_pos (by decide)];refine au (wpAny_seqItems ho hd (aP ?_));show wpAny _ A.in1 (holding [.ref (kt i),vs i] (dictSet S (.ref (kt i)) (vs i))) _ _ s';apply v9;refine wpAny_dictSet_heap (hsz:=by omega) hu hkey hS' λh' dd sb=>?_;rw[show rawInt ((i:Int)+1)=Value.int ((i+1:Nat):Int) 0 from rfl];refine aP ⟨plainId_quiet c6 _,ih (i+1) _ _ (by omega) lt (W.frame _ s' _ _ st' (Nm _ _) λb hb o e=>?_) dd (f9 (vT af (ks i) (kt i) (vs i)) (by omega)) (λx hxx=>?_) (λj hj=>?_) ?_ _ λs'' mv' dd'=>?_⟩
  ·rw[sb.2 b (λh:b=S=>hSf (by rw[<-h];exact hb))];exact e
  ·rcases vK hxx with ⟨y,hy,e1,e2⟩|⟨e1,e2⟩
   ·obtain⟨j,hj,f1,f2⟩:=hx y hy;exact⟨j,hj,e1.symm.trans f1,e2.symm.trans f2⟩
   ·exact⟨i,lt,e1,e2⟩
  ·obtain⟨⟨o,m,e,c,d⟩,ik⟩:=hp' j hj;exact⟨⟨o,m,(sb.2 _ (hne j hj).1).trans e,c,d⟩,hmv hj ik λo z=>(sb.2 _ (hne j hj).2.2.1).trans z⟩
  ·rw[em,List.range_succ,aY];unfold kB;rw[MP];rfl
  ·refine hR s'' (Moved.trans W.gtrans ((mv.mono sub).then_heap (Nm _ _) λb o hb e=>?_) mv') dd';rw[sb.2 b (λh:b=S=>hb (by rw[h];exact lE))];exact e
set_option maxHeartbeats 3200000 in
theorem wY{K:Type} [DecidableEq K]{knd:HeapKind prog w K}{s:Shared}{l:Addr}{items:Array Value}{at_ kt:Nat->Addr}{vs:Nat->Value}{ks:Nat->K}{Q:Vs}(hh:A.handled=none)(hu:∀A':Around,A'.units<=A.units+4->knd.room A')(hl:PlainL s.heap l items)
  (hi:∀(i:Nat) (v:Value),items[i]?=some v->v=.ref (at_ i)) (hp:∀j,j<items.size->dz s.heap (at_ j) (.ref (kt j)) (vs j)/\knd.is s.heap (ks j) (kt j)/\kt j<s.heap.objs.size) (hmv:∀{h h':Heap}{i:Nat},i<items.size->knd.is h (ks i) (kt i)->(∀o,h.get? (kt i)=some o->h'.get? (kt i)=some o)->knd.is h' (ks i) (kt i)) (hb:items.size+1<sizeLine)
  (h:∀(h':Heap) (tk:Nat),h'.DictOfH knd s.heap.objs.size (kB ((List.range items.size).map λj=>(ks j,kt j,vs j)))->(∀b o,s.heap.get? b=some o->h'.get? b=some o)->Q (.ref s.heap.objs.size) { s with heap:=h',toks:=tk }):
  wpAny (model prog w) A (call (.type "dict") [.ref l]) Q E s:=by
 refine callType_codes (Q₁:=λobj s₁=>obj=.ref s.heap.objs.size/\s₁={ s with heap:=s.heap.push { cls:=.type "dict", data:=.dict #[] } }) F.kt_called_dict (F.kt_typeCall_dict_1 _) F.entry_dict_init (kt_code_dict_new _ ⟨rfl,rfl⟩) ?_;rintro obj s₁ ⟨rfl,rfl⟩;have new0:(s.heap.push { cls:=.type "dict", data:=.dict #[] }).DictOfH knd s.heap.objs.size []:=Heap.DictOfH.new s.heap;refine⟨new0.typeIs,F.args_dict_init_2 _ _,?_⟩;unfold Builtin.«dict.__init__»;apply au;unfold Builtin.Dict.selfAndRest;apply wpAny_bind;apply wpAny_notOrdered_dict new0.typeIs;show wpAny _ _ (pure (s.heap.objs.size,[Value.ref l])) _ _ _;apply aP;show wpAny _ _ (Builtin.Dict.updateFrom "dict.__init__" s.heap.objs.size (.ref l) [] .none) _ _ _;unfold Builtin.Dict.updateFrom;have l1:PlainL (s.heap.push { cls:=.type "dict", data:=.dict #[] }) l items:=hl.keeps λb o e=>cM _ e;obtain⟨ol,nl,hol,hcl,_⟩:=id l1;refine au (NG hol ?_);rw[hcl,if_pos (by decide)];refine au (gc l1 (by simp[hh]) λh2 tk2 kp=>?_);rw[if_pos (show(none:Option Value).isNone=true from rfl)];have l2:PlainL h2 l items:=l1.keeps kp;have n2:h2.DictOfH knd s.heap.objs.size []:=fL new0 (λo e=>kp _ o e) λx hx=>nomatch hx
 refine au (FR (au (wpAny_pyIter_list l2.isList ?_)));have kp2:∀b o,s.heap.get? b=some o->h2.get? b=some o:=λb o e=>kp b o (cM _ e);have lS:s.heap.objs.size<h2.objs.size:=by
  obtain⟨o,_,_,ho,_⟩:=n2;exact cV ho
 have lt0:∀j,j<items.size->at_ j<s.heap.objs.size:=λj hj=>by
  obtain⟨⟨o,m,e,_⟩,_⟩:=hp j hj;exact cV e
 have hSf:s.heap.objs.size∉[h2.objs.size,l]:=by
  simp only[List.mem_cons,List.not_mem_nil,or_false,not_or];exact⟨eD lS,Nat.ne_of_gt hl.lt⟩
 have off:∀b,b<s.heap.objs.size->b≠s.heap.objs.size/\b∉[h2.objs.size]:=λb lt=>⟨eD lt,by simp only[List.mem_cons,List.not_mem_nil,or_false];exact Nat.ne_of_lt (Nat.lt_trans lt lS)⟩;refine aP ⟨plainId_quiet c6 _,?_⟩;refine R8 (knd:=knd) ((Walks.list (by simp[hh]) _ l (Nat.ne_of_lt l2.lt) items).toS) s.heap.objs.size hSf (hu _ (by simp[Around.in1])) at_ kt vs ks hi hmv (λj hj=>⟨(off _ (lt0 j hj)).1,(off _ (lt0 j hj)).2,off _ (hp j hj).2.2⟩) hb (items.size - 0) 0 _ [] (by omega) (Nat.zero_le _) ⟨⟨_,Heap.get?_push_size _ rfl,rfl,rfl⟩,l2.isList.push _⟩ (fL n2 (λo z=>Heap.get?_push_of_some _ z) λx hx=>nomatch hx) (Nat.zero_le _) (λx hx=>nomatch hx) (λj hj=>?_) rfl 0 λs' mv dd=>?_
 ·obtain⟨⟨o,m,e,c,d⟩,ik,_⟩:=hp j hj;exact⟨⟨o,m,cM _ (kp2 _ _ e),c,d⟩,hmv hj ik λo z=>cM _ (kp2 _ _ z)⟩
 ·obtain⟨h',g',d',tk',os'⟩:=s';obtain rfl:g'=s.gens:=mv.gens;obtain rfl:d'=s.drawn:=mv.drawn;obtain rfl:os'=s.os:=mv.os;refine⟨rfl,h h' tk' dd λb o e=>?_⟩;have lt:=cV e;refine mv.heap b o ?_ (cM _ (kp2 _ _ e));simp only[List.mem_cons,List.not_mem_nil,or_false,not_or];exact⟨eD lt,eD (Nat.lt_trans lt lS)⟩
end
section
open PySem.Spec PyProof.Rows
noncomputable def Ra(a:Addr)(o:Obj)(af:List (List Key×V))(ks:List Addr):It:=
 ⟨λi H=>H a = some (.d9 o (.dT af)) /\ ∃ b, ks[i]? = some b,
  λi H v H'=>H'=H/\∃b,ks[i]?=some b/\v=.ref b,
  λi H=>H a=some (.d9 o (.dT af))/\ks.length<=i⟩
def ie(H:Hp)(af:List (List Key×V))(ks:List Addr):Prop:=Paired (λ(p:List Key×V) (b:Addr)=>H b=some (.tup (p.1.map kV))) af ks
def lV(o:Obj)(ks:List Addr)(ep:Nat):Prop:=∃es:Array DictEntry,o.data=.dict es ep/\es.toList.map DictEntry.key=ks.map Value.ref
theorem lV.size{o:Obj}{ks:List Addr}{ep:Nat}{es:Array DictEntry}(hk:es.toList.map DictEntry.key=ks.map Value.ref):es.size=ks.length:=by
 have:=congrArg List.length hk;simpa using this
theorem By{P:Program}{w:World}{K:Wf}{tg:Expr}{a it:Addr}{o:Obj}{af:List (List Key×V)}{ks:List Addr}{ep:Nat}(he:lV o ks ep):
  Turn P w K tg (Ra a o af ks) [it] it (λi h=>h.IsKeyIter it a i ks.length ep) where
 mem:=by simp
 obj:=λi h st b hb=>by
  have e:b=it:=by simpa using hb
  subst e;obtain⟨o,e,c,d⟩:=st;exact⟨o,e,λv z=>by rw[d]at z;cases z⟩
 keep:=λi h h' st k=>st.at λo e=>k it (by simp) o e
 item:=by
  intro X hP hw hK hc i pins s σ H E I hf st hg;subst hP hw hK;obtain⟨hH,b,hb⟩:=hg;obtain⟨es,hd,hk⟩:=he;have sz:=lV.size (o:=o) (ep:=ep) hk;obtain⟨ho,_⟩:=(show a6 X.prog X.w H s.heap a (.d9 o (.dT af)) from I.aV a _ hH)
  have hi:=(ig.mp hb).1;obtain⟨f0,f1,f2,f3,f4,f5⟩:=hf it (by simp);rw[<-sz]at st;refine CF st ho hd (by omega) λh' st' sb=>?_;have ek:(es[i]'(by omega)).key=Value.ref b:=by
   have e1:(es.toList.map DictEntry.key)[i]?=some (Value.ref b):=by rw[hk,gh,hb];rfl
   rw[gh,M5,Nk (by omega)]at e1;exact Option.some.inj e1
  rw[sz]at st';have I1:Inv X pins σ H { s with heap:=h' }:=I.turned (t':=s.toks) (λb o hb e=>(sb.2 b hb).trans e) f0 f1 f3 f4 f5;obtain⟨oi,e,c,d⟩:=id st';exact⟨_,rfl,nT (s:={ s with heap:=h' }) e c d (by decide) ⟨.ref b,H,I1,ek,⟨rfl,b,hb,rfl⟩,st',λb hb=>(hf b hb).1⟩⟩
 done:=by
  intro X hP hw hK hc i pins s σ H E I hf st hg;subst hP hw hK;obtain⟨hH,hi⟩:=hg;obtain⟨es,hd,hk⟩:=he;have sz:=lV.size (o:=o) (ep:=ep) hk;obtain⟨ho,_⟩:=(show a6 X.prog X.w H s.heap a (.d9 o (.dT af)) from I.aV a _ hH)
  obtain⟨f0,f1,f2,f3,f4,f5⟩:=hf it (by simp);rw[<-sz]at st;exact Cc (I.ok.hd hc) st ho hd (by omega) λh' eb=>⟨rfl,I.turned (t':=s.toks) (λb o hb e=>eb b o hb e) f0 f1 f3 f4 f5⟩
 self:=λ_ _ _ _ _ st h=>wpAny_pyIter_keyiter st h
variable{X:Cx}
noncomputable def gA(af more:List (List Key×V)):List (List Key×V):=more.foldl (λacc kv=>putK acc kv.1 kv.2) af
noncomputable def Ln(K:Wf):List V->Hp->VK->Prop:=λxs H Q=>∃(p:Addr) (ps:List (Addr×Addr×List Key×V)),xs=[.ref p]/\aD K H p (ps.map λt=>V.ref t.1)/\(∀t∈ps,H t.1=some (.tup [.ref t.2.1,t.2.2.2])/\H t.2.1=some (.tup (t.2.2.1.map kV)))/\ps.length<4000/\∀d,H d=none->Q (.ref d) (upd H d (.dT (gA [] (ps.map (·.2.2)))))
theorem IQ(k:(tupleKind (aW P w)).is h ks a)(e:∀o,h.get? a=some o->h'.get? a=some o):(tupleKind (aW P w)).is h' ks a:=by
 obtain⟨o,its,n,h1,r⟩:=k;exact⟨o,its,n,e o h1,r⟩
theorem KT.merge:∀{ps:List (Addr×Addr×List Key×V)}{vs:List Value}{af:List (List Key×V)}{xs:List (List Key×Addr×Value)},KT H af xs->(∀t∈ps,H t.2.1=some (.tup (t.2.2.1.map kV)))->Paired (λ(t:Addr×Addr×List Key×V) (v:Value)=>RelV t.2.2.2 v) ps vs->
  KT H (gA af (ps.map (·.2.2))) (((ps.zip vs).map λz=>(z.1.2.2.1,z.1.2.1,z.2)).foldl (λxs t=>storedH xs t.1 t.2.1 t.2.2) xs)
 |[],vs,af,xs,r,_,q=>by cases q;exact r
 |t::ps,vs,af,xs,r,hk,q=>by
  cases q with
  |@cons _ v _ vs q1 q2=>
   have:=KT.merge (ps:=ps) (vs:=vs) (af:=putK af t.2.2.1 t.2.2.2) (xs:=storedH xs t.2.2.1 t.2.1 v) (r.put t.2.2.1 (hk t (by simp)) q1) (λx hx=>hk x (by simp[hx])) q2;exact this
theorem l_:∀(l pre:List (List Key×V)),(gA pre l).length<=pre.length+l.length
 |[],pre=>bC _
 |x::l,pre=>by
  have:=l_ l (putK pre x.1 x.2);have h2:=cY pre x.1 x.2;simp only[gA,List.foldl_cons,List.length_cons]at this ⊢;omega
theorem wQ(hc:X.calm=true)(hu:X.A.units+64<cLine):cX X (.type "dict") (Ln X.K):=by
 intro pins s σ H xs us Q I r h;obtain⟨p,ps,rfl,hq,hp,hz,q⟩:=h;obtain⟨u,rfl,rx⟩:=vals1 r;cases rx;obtain⟨its,r',pl,_⟩:=I.list hq;have hl:its.length=ps.length:=by rw[<-r'.length,az]
 have tp:∀i (hi:i<ps.length),∃v,dz s.heap ps[i].1 (.ref ps[i].2.1) v/\RelV ps[i].2.2.2 v:=λi hi=>by
  obtain⟨ts,rt,it,_⟩:=I.tuple (aR.of (hp ps[i] (uJ hi)).1);obtain⟨o,ho,hcl,n,hd⟩:=it;cases rt with
  |cons r1 t1=>
   cases t1 with
   |cons r2 t2=>
    cases t2;cases r1;exact⟨_,⟨o,n,ho,hcl,hd⟩,r2⟩
 obtain⟨f,hf⟩:∃f:Nat->Value,∀i (hi:i<ps.length),dz s.heap ps[i].1 (.ref ps[i].2.1) (f i)/\RelV ps[i].2.2.2 (f i):=
  ⟨λi=>if hi:i<ps.length then Classical.choose (tp i hi) else .none,λi hi=>by
   simp only[dif_pos hi];exact Classical.choose_spec (tp i hi)⟩
 have z0:∃z0:Addr×Addr×List Key×V,z0=(0,0,[],.bj):=⟨_,rfl⟩
 obtain⟨z0,_⟩:=z0;have gd:∀i (hi:i<ps.length),ps.getD i z0=ps[i]:=λi hi=>by rw[P9,jo hi];rfl
 have sz:its.toArray.size=ps.length:=by rw[ij,hl]
 refine wY (knd:=tupleKind (aW X.prog X.w)) (at_:=λi=>(ps.getD i z0).1) (kt:=λi=>(ps.getD i z0).2.1) (vs:=f) (ks:=λi=>(ps.getD i z0).2.2.1) (I.ok.hd hc) (λA' hA=>show A'.units<cLine by omega) pl (λi v hv=>?_) (λi hi=>?_) (λ{h h' i} hi k e=>IQ k e) (by rw[sz,sizeLine_eq];omega) λh' tk dd kp=>?_
 ·rw[Pd]at hv;have hi:i<ps.length:=by rw[<-hl];exact(ig.mp hv).1
  obtain⟨u,hu,ru⟩:=r'.get (i:=i) (x:=.ref ps[i].1) (by rw[gh,jo hi];rfl);rw[hv]at hu;cases hu;show v=Value.ref (ps.getD i z0).1;rw[gd i hi];exact ru
 ·rw[sz]at hi;show dz s.heap (ps.getD i z0).1 _ _/\_;rw[gd i hi];have hk:=(hp ps[i] (uJ hi)).2;exact⟨(hf i hi).1,eZ I.aV hk,(I.aV _ _ hk).lt⟩
 ·rw[sz]at dd;have ez:(List.range ps.length).map (λj=>((ps.getD j z0).2.2.1,(ps.getD j z0).2.1,f j))=(ps.zip ((List.range ps.length).map f)).map λz=>(z.1.2.2.1,z.1.2.1,z.2):=by
   refine List.ext_getElem (by simp) λi h1 h2=>?_;have hi:i<ps.length:=by simpa using h1
   simp[List.getD_eq_getElem?_getD,List.getElem?_eq_getElem hi]
  rw[ez]at dd;have rv:Paired (λ(t:Addr×Addr×List Key×V) (v:Value)=>RelV t.2.2.2 v) ps ((List.range ps.length).map f):=by
   have e:ps=(List.range ps.length).map λj=>ps.getD j z0:=by
    have:=map_range ps z0 id;simpa using this
   have:=iC (R:=λ(t:Addr×Addr×List Key×V) (v:Value)=>RelV t.2.2.2 v) (f:=λj=>ps.getD j z0) (g:=f) (List.range ps.length) λj hj=>by
    have hj:=yJ.mp hj;show RelV (ps.getD j z0).2.2.2 _;rw[gd j hj];exact(hf j hj).2
   rw[<-e]at this;exact this
  have rm:=KT.merge (H:=H) (af:=[]) (xs:=[]) .nil (λt ht=>(hp t ht).2) rv;have z:=l_ (ps.map (·.2.2)) [];rw[az,List.length_nil]at z;obtain⟨o,es,ep,h1,h2,h3,h4,_,h5⟩:=dd;have fr:H s.heap.objs.size=none:=I.aV.fresh (bC _);refine⟨.ref s.heap.objs.size,_,I.laid (a:=s.heap.objs.size) (o:=.dT (gA [] (ps.map (·.2.2)))) (t':=tk) kp (bC _) ⟨by rw[sizeLine_eq];omega,beq_eq_false_iff_ne.mpr (Ne.symm (eD I.big)),_,rm.keeps λb ys e=>?_,o,es,ep,h1,h2,h3,h4,h5⟩,rfl,q _ fr⟩;rw[ae (bH e fr)];exact e
theorem Inv.Ih(I:Inv X pins σ H s)(hq:Rd H a (.dT af)):
  ∃(o:Obj) (ks:List Addr) (ep:Nat) (H2:Hp),s.heap.get? a=some o/\o.ExactDict/\(a == sysModules)=false/\lV o ks ep/\ie H2 af ks/\H2 a=some (.d9 o (.dT af))/\(∀b,b≠a->H2 b=H b)/\Inv X pins σ H2 s:=by
 obtain⟨z,hS,xs,rel,o,es,ep,ho,hx,hd,he,hn⟩:=(show a6 X.prog X.w H s.heap a (.dT af) from hq.ok I.aV)
 have hE:lV o (xs.map (·.2.1)) ep:=⟨es,hd,by rw[he,ck,ck];rfl⟩
 have hK:ie H af (xs.map (·.2.1)):=by
  unfold ie;clear he hn hE z hq
  induction rel with
  |nil=>exact .nil
  |cons h t ih=>exact .cons h.2.1 ih
 have go:∀H2:Hp,H2 a=some (.d9 o (.dT af))->(∀b,b≠a->H2 b=H b)->ie H2 af (xs.map (·.2.1)):=λH2 e1 e2=>Paired.Iy hK λp b e=>by
  rw[e2 b]
  ·exact e
  ·rintro rfl;rcases hq with q|⟨_,q⟩<;>· rw[e]at q;cases q
 rcases hq with q|⟨o',q⟩
 ·refine⟨o,_,ep,upd H a (.d9 o (.dT af)),ho,hx,hS,hE,go _ aE λb hb=>ae hb,aE,λb hb=>ae hb,?_⟩;have ne:∀{b:Addr}{u:HO},H b=some u->u≠.dT af->b≠a:=λ{b u} r n z=>by rw[z,q]at r;cases r;exact n rfl
  refine I.step (h':=s.heap) (g':=s.gens) (d':=s.drawn) (t':=s.toks) (ch:=[]) (λ_ z=>nomatch z) (λb o _ _ _ q _=>q) (λb o _ _ _ q _=>⟨o.slots,q⟩) (λb o _ _ n=>?_) (λb o _ q=>⟨o,q⟩)
   (λb xs q=>by rw[ae (ne q (λz=>nomatch z))];exact q) (λb o u q=>by rw[ae (ne q (λz=>nomatch z))];exact q) (λb ps q=>⟨#[],by rw[ae (ne q (λz=>nomatch z)),q];simp⟩) (λm hm=>hm) (λb u r=>?_) I.bare
  ·rw[ae (λz=>by rw[z,q]at n;cases n)];exact n
  ·have st:∀{b:Addr}{u:HO},a6 X.prog X.w H s.heap b u->a6 X.prog X.w (upd H a (.d9 o (.dT af))) s.heap b u:=λ{b u} k=>k.iY (λc v _ r=>r) (λc r=>by rw[ae (ne r (λz=>nomatch z))];exact r) λc xs r=>by rw[ae (ne r (λz=>nomatch z))];exact r
   by_cases y:b=a
   ·subst y;rw[aE]at r;cases r;exact⟨ho,st (I.aV b _ q)⟩
   ·rw[ae y]at r;exact st (I.aV b u r)
 ·obtain⟨e0,_⟩:=(show a6 X.prog X.w H s.heap a (.d9 o' (.dT af)) from I.aV a _ q)
  rw[ho]at e0;cases e0;exact⟨o,_,ep,H,ho,hx,hS,hE,hK,q,λ_ _=>rfl,I⟩
def Hr(te:TE):TI:=λσ H R=>te σ H λx H1=>∃a af,x=.ref a/\Rd H1 a (.dT af)/\∀o ks H2,H2 a=some (.d9 o (.dT af))->(∀b,b≠a->H2 b=H1 b)->ie H2 af ks->R (Ra a o af ks) H2
theorem DY(hl:PE X l tl):PI X tg l (Hr tl):=by
 intro pins s σ H R I h;refine bE (hl pins s σ H _ I h) λv s1 ⟨x,H1,I1,r1,q1⟩=>?_;obtain⟨a,af,e,hq,q⟩:=q1;subst e;cases r1;obtain⟨o,ks,ep,H2,ho,hx,hS,hE,hK,e1,e2,I2⟩:=I1.Ih hq;obtain⟨es,hd,hk⟩:=id hE;refine Gf ⟨o,ho,hx.1⟩ hS ho hd ?_;rw[lV.size (o:=o) (ep:=ep) hk];refine⟨s1.heap.objs.size,[s1.heap.objs.size],_,_,_,rfl,I2.kept (t':=s1.toks) λb o e=>cM _ e,By hE,⟨_,gL _ rfl,rfl,rfl⟩,λb hb=>?_,q o ks H2 e1 e2 hK⟩;have e:b=s1.heap.objs.size:=by simpa using hb
 subst e;exact I2.sP (bC _) (I2.aV.fresh (bC _))
theorem vU:∀{af:List (List Key×V)}{ks:List Addr}{i:Nat}{p:List Key×V}{b:Addr},ie H af ks->af[i]?=some p->ks[i]?=some b->H b=some (.tup (p.1.map kV))
 |_,_,0,_,_,.cons h _,h1,h2=>by simp at h1 h2;subst h1;subst h2;exact h
 |_,_,i+1,_,_,.cons _ t,h1,h2=>vU (i:=i) t (by simpa using h1) (by simpa using h2)
def z9(g:TG)(tb:TS)(D:Ends)(σ:St):VK:=λx H1=>∃a af,x=.ref a/\Rd H1 a (.dT af)/\∀o ks H2,H2 a=some (.d9 o (.dT af))->(∀b,b≠a->H2 b=H1 b)->ie H2 af ks->uY g tb D σ (Ra a o af ks) H2
section
variable{te:TE}{g:TG}{tb:TS}{D:Ends}{σ:St}{H:Hp}
theorem LB:mJ (Hr te) g tb D σ H=te σ H (z9 g tb D σ):=rfl
theorem z9.of(hd:Rd H a (.dT af))(Pv:Obj->Nat->St->Hp->Prop)(h0:∀o H2,H2 a=some (.d9 o (.dT af))->(∀b,b≠a->H2 b=H b)->Pv o 0 σ H2)(hl:∀o i σ H,i<=af.length->Pv o i σ H->H a=some (.d9 o (.dT af)))
  (kp:∀(o:Obj) (i:Nat) (σ:St) (H' H2:Hp),H2 a=some (.d9 o (.dT af))->(∀b,b≠a->H2 b=H b)->Pv o i σ H'->∀b xs,H2 b=some (.tup xs)->H' b=some (.tup xs))
  (hs:∀o i p b σ H,af[i]?=some p->H b=some (.tup (p.1.map kV))->Pv o i σ H->g (.ref b) σ H λσ2 H2=>tb { D with nx:=Pv o (i+1),ct:=Pv o (i+1),bk:=D.nx } σ2 H2) (he:∀o σ H,Pv o af.length σ H->D.nx σ H):z9 g tb D σ (.ref a) H:=by
 refine⟨a,af,rfl,hd,λo ks H2 e1 e2 hK=>⟨λi m σ H=>m=af.length - i/\i<=af.length/\Pv o i σ H,⟨af.length,by simp,Nat.zero_le _,h0 o H2 e1 e2⟩,?_⟩⟩;have kl:ks.length=af.length:=(Paired.length hK).symm;rintro i m σ H ⟨rfl,hi,p⟩;have q:=hl o i σ H hi p;by_cases hlt:i<af.length
 ·refine .inr ⟨⟨q,ks[i]'(by omega),by simp[hlt,kl]⟩,Pv o (i+1),λσ' H' p'=>⟨af.length - (i+1),by omega,rfl,hlt,p'⟩,λx H' y=>?_⟩;obtain⟨rfl,b,hb,rfl⟩:=y;have hp:=vU hK (jo hlt) hb;exact hs o i _ b σ _ (by simp[hlt]) (kp o i σ _ H2 e1 e2 p _ _ hp) p
 ·have e:i=af.length:=by omega
  subst e;exact .inl ⟨⟨q,by omega⟩,he o σ H p⟩
end
theorem og:cX X (.builtin "len") (λxs H Q=>∃a af,xs=[V.ref a]/\Rd H a (.dT af)/\Q (.int af.length) H):=by
 intro pins s σ H xs us Q I r h;obtain⟨a,af,rfl,hq,q⟩:=h;obtain⟨u,rfl,rx⟩:=vals1 r;cases rx;obtain⟨z,hS,xs,rel,o,es,ep,ho,hx,hd,he,hn⟩:=(show a6 X.prog X.w H s.heap a (.dT af) from hq.ok I.aV)
 have sz:es.size=af.length:=(size_of_entries he).trans (Paired.length rel).symm;have hn:=jI;exact Im ⟨o,ho,hx.1⟩ hS ho hd (by omega) ⟨.int af.length,H,I.tok _,⟨s.toks+1,by rw[sz]⟩,q⟩
end
end L2
set_option maxHeartbeats 0
set_option pp.deepTerms true
set_option pp.maxSteps 100000
namespace L2
open PySem PySem.Spec PyProof.Rows
section
variable{X:Cx}
theorem tx(K:Wf){a:Expr}{ta:TE}{n:Int}{j:Nat}{p pos:Pos}(ha:PE X a ta)(e:X.K=K:=by rfl):PE X (.Subscript a (.Constant (.int n) j p) pos) (yt (qD K) ta (tC (.int n))):=bT (Jm e) ha ag (λ_ _=>rfl)
theorem pn(i:Nat){x:Str}{pos:Pos}(hN:X.N.Nodup)(hi:X.N[i]?=some x:=by rfl)(hx:Loc X.env.scope x:=by first|exact Or.inl rfl|exact Or.inr rfl)(hf:X.fn x=true\/X.env.scope.names.lookup x=some .local:=by first|exact .inl rfl|exact .inr rfl|assumption):PG X (.Name x pos) (j6 i):=Iq hN hi hx hf
theorem pS(i:Nat){x:Str}{e:Expr}{te:TE}{pos pos':Pos}(hN:X.N.Nodup)(he:PE X e te)(hi:X.N[i]?=some x:=by rfl)(hx:Loc X.env.scope x:=by first|exact Or.inl rfl|exact Or.inr rfl)(hs:swapsWith e (some (.Name x pos')) pos.line X.env=pure false:=by rfl)(hf:X.fn x=true\/X.env.scope.names.lookup x=some .local:=by first|exact .inl rfl|exact .inr rfl|assumption):PS X (.Assign [.Name x pos'] e pos) (HE te (j6 i)):=MU hN hi hx he hs hf
theorem pC(F:bg X.prog X.w X.K X.mg X.base dm k f fd ps sp)(hr:cL n X.A)(hm:X.mg x=some (.ref f))(hk:keepIn X.K (.ref f)=true)(hb:Binds X.K fd ps [])(ha:PA X (e::es) t)(hl:k<=n:=by decide)(hg:Gl X x:=by rfl)(hdb:(x == ("__debug__" : Str))=false:=by decide)(he:starEach (e::es) X.env=(false,eval e X.env)::starEach es X.env:=by rfl)(hpl:(backTo pos (starEach es X.env)).any (·.1)=false:=by rfl):PE X (.Call (.Name x p) (e::es) [] pos) (Eb sp [] E0 t):=Ie F (hr.mono hl) hg hm hk hb .nil vx ha hdb he hpl
theorem gu(own:List Str){scope:Scope}(kind:scope.kind=.function:=by rfl)(h1:∀y∈scope.names,y.2≠.cell:=by decide +kernel)(h2:∀y∈scope.names,y.2=.local->scope.names.lookup y.1=some .local:=by decide +kernel)(h3:∀y∈scope.names,y.2=.free->y.1∈([]:List Str):=by decide +kernel):gk X (own++[]) own.length [] scope:=l8 kind h1 h2 h3 .nil
theorem cJ(ho:PE X o to)(ha:PA X (e::es) t)(hbase:attributeBase o "append" X.env (eval o X.env)=eval o X.env:=by rfl)(hfew:((backTo cpos (starEach (e::es) X.env)).all (λx=>!x.1)&&(backToKw cpos (keywordEach [] X.env)).all (λx=>x.1.isSome)&&decide ((e::es).length+([]:List Keyword).length+(if ([]:List Keyword).isEmpty then 0 else 1)<30))=true:=by rfl)(hline:(apos.endLine == cpos.line)=true:=by rfl)(hs:starEach (e::es) X.env=(false,eval e X.env)::starEach es X.env:=by rfl)(hp:(backTo cpos (starEach es X.env)).any (·.1)=false:=by rfl):PE X (.Call (.Attribute o "append" apos) (e::es) [] cpos) (Sv X.K "list" zK to t):=FT PySem.F.plainAttrs_list PySem.F.slot_list_append PySem.F.type_list_append mM ho ha hbase hfew hline hs hp
theorem pF(hi:PI X tg iter wi)(hg:PG X tg g)(hb:vc X body tb)(hc:X.calm=true:=by rfl)(hs:∀x,foldedSetIterable iter X.env x=pure x:=by intro _;rfl)(hn:PassesOwn (model X.prog X.w) X.A X.env X.xe:=by exact PassesOwn.never):PS X (.For tg iter body [] pos) (mJ wi g tb):=LQ hn hc hi hg hb hs
end
end L2
namespace My
open PySem PySem.Spec PyProof.Rows L2
noncomputable abbrev Le(a:Addr):List (Str×V):=putF (Str.ofString "pieces") (V.ref a) []
noncomputable abbrev MO(a b:Addr):List (Str×V):=putF (Str.ofString "reasons") (V.ref b) (Le a)
noncomputable abbrev Nd(a b c:Addr):List (Str×V):=putF (Str.ofString "told_by_given") (V.ref c) (MO a b)
noncomputable abbrev PV(a b c d:Addr):List (Str×V):=putF (Str.ofString "on_shelves") (V.ref d) (Nd a b c)
noncomputable abbrev QG(a b c d e:Addr):List (Str×V):=putF (Str.ofString "from_shelves") (V.ref e) (PV a b c d)
set_option hygiene false in
local macro_rules | `(tactic| walk_at "0") => `(tactic| rw [gh] at hx)
set_option hygiene false in
local macro_rules | `(tactic| walk_at "1") => `(tactic| rw [az, iF] at e)
set_option hygiene false in
local macro_rules | `(tactic| walk_at "2") => `(tactic| have mem : ∀ b ∈ p.lists, b ∈ L :: aZ (ps ++ [p]) := fun b hb => ka _ (by rw [hX]; exact gR _ hb))
set_option hygiene false in
local macro_rules | `(tactic| walk_at "3") => `(tactic| have tk : (p.aK.take (i + 1)) = p.aK.take i ++ [n] := by rw [fX, hn]; rfl)
set_option hygiene false in
local macro_rules | `(tactic| walk_at "4") => `(tactic| rw [az, az] at this)
set_option hygiene false in
local macro_rules | `(tactic| walk_at "5") => `(tactic| have tj : aG (p.aI.take i) ++ st.fills.take (j + 1) = (aG (p.aI.take i) ++ st.fills.take j) ++ [f] := by rw [fX, hf, tI]; rfl)
set_option hygiene false in
local macro_rules | `(tactic| walk_at "6") => `(tactic| rw [gh] at hv)
set_option hygiene false in
local macro_rules | `(tactic| walk_at "7") => `(tactic| obtain ⟨p, hp, rfl⟩ := d_.mp hv)
set_option hygiene false in
local macro_rules | `(tactic| walk_at "8") => `(tactic| have tk : ps.take (i + 1) = ps.take i ++ [p] := by rw [fX, hp]; rfl)
set_option hygiene false in
local macro_rules | `(tactic| walk_at "9") => `(tactic| rw [az, az, jr] at this)
set_option hygiene false in
local macro_rules | `(tactic| walk_at "10") => `(tactic| have inL : ∀ x ∈ R, x ∈ R ++ [r] := fun x hx => gC _ hx)
set_option hygiene false in
local macro_rules | `(tactic| walk_at "11") => `(tactic| have KC : iI (((c0, G') :: ys).map fun y => V.ref y.1) 0 = some (V.ref c0) := (show iI (V.ref c0 :: ys.map fun y => V.ref y.1) ((0 : Nat) : Int) = _ from cw rfl))
local macro_rules | `(tactic| walk_at "o") => `(tactic| first | exact Or.inl rfl | exact Or.inr rfl)
local macro_rules | `(tactic| walk_at "s") => `(tactic| (rw [sizeLine_eq]; decide))
local macro_rules | `(tactic| walk_at "p") => `(tactic| first | exact Or.inl rfl | exact Or.inr (Or.inl rfl) | exact Or.inr (Or.inr rfl))
local macro_rules | `(tactic| walk_at "q") => `(tactic| first | exact .inl rfl | exact .inr rfl | assumption)
local macro_rules | `(tactic| walk_at "n") => `(tactic| exact of_decide_eq_true (by kernel_rfl))
local macro_rules | `(tactic| walk_at "F") => `(tactic| exact ⟨rfl, rfl, rfl, by decide +kernel, rfl, by decide +kernel, by decide +kernel⟩)
noncomputable def top(i:Nat):Stmt:=PySem.Challenge.pw_joinload_k35_places_told.main.body.getD i (.Pass ⟨0,0,0,0⟩)
noncomputable abbrev Dk:Stmt:=top 7
noncomputable abbrev Dp:Stmt:=top 9
noncomputable abbrev Dw:Stmt:=top 10
noncomputable abbrev DI:Stmt:=top 11
noncomputable abbrev xW:Stmt:=top 13
noncomputable abbrev CD:Stmt:=top 14
noncomputable abbrev GA:Stmt:=top 15
noncomputable abbrev Dy:Stmt:=top 16
noncomputable abbrev pE:Stmt:=top 18
noncomputable abbrev pI:Stmt:=top 19
noncomputable abbrev y9:Stmt:=top 20
noncomputable abbrev Gw:Stmt:=top 21
noncomputable abbrev xO:Stmt:=top 22
noncomputable abbrev DG:Stmt:=top 23
noncomputable abbrev Er:Stmt:=top 24
noncomputable abbrev kH:Stmt:=top 26
noncomputable abbrev B9:Stmt:=inClass (top 27) 0
noncomputable abbrev Fv:Stmt:=inClass (top 27) 1
noncomputable abbrev Gv:Stmt:=inClass (top 27) 2
noncomputable abbrev C1:Stmt:=top 28
noncomputable abbrev DU:Stmt:=top 29
noncomputable abbrev DE:Stmt:=top 30
noncomputable abbrev Hq:Stmt:=top 32
noncomputable abbrev FZ:Stmt:=top 33
noncomputable abbrev F2:Stmt:=top 35
noncomputable abbrev wB:Stmt:=top 36
noncomputable abbrev E4:Stmt:=top 38
noncomputable abbrev CI:Stmt:=top 39
noncomputable abbrev ED:Stmt:=top 40
noncomputable abbrev Cq:Stmt:=top 41
noncomputable abbrev GI:Stmt:=top 42
noncomputable abbrev F5:Stmt:=top 43
noncomputable abbrev CG:Stmt:=top 44
noncomputable abbrev Gq:Stmt:=top 45
noncomputable abbrev Ho:Stmt:=top 46
noncomputable abbrev DX:Stmt:=top 47
noncomputable abbrev F0:Stmt:=top 48
noncomputable abbrev Em:Stmt:=top 49
noncomputable abbrev CL:Stmt:=top 50
noncomputable abbrev FQ:Stmt:=top 51
noncomputable abbrev DP:Stmt:=top 52
noncomputable abbrev Fw:Stmt:=top 53
noncomputable abbrev CB:Stmt:=top 54
noncomputable abbrev G6:Stmt:=top 55
noncomputable abbrev E9:Stmt:=top 56
theorem Lq:bootBuiltins "abs" = some (.builtin "abs"):=by decide +kernel
theorem Jf:bootBuiltins "bool" = some (.type "bool"):=by decide +kernel
theorem oM:bootBuiltins "dict" = some (.type "dict"):=by decide +kernel
theorem qA:bootBuiltins "int" = some (.type "int"):=by decide +kernel
theorem dG:bootBuiltins "isinstance" = some (.builtin "isinstance"):=by decide +kernel
theorem dj:bootBuiltins "len" = some (.builtin "len"):=by decide +kernel
theorem iP:bootBuiltins "list" = some (.type "list"):=by decide +kernel
theorem LD:bootBuiltins "set" = some (.type "set"):=by decide +kernel
theorem ff:bootBuiltins "sorted" = some (.builtin "sorted"):=by decide +kernel
theorem QX:RelV (.int i) (.int i t):=⟨t,rfl⟩
theorem IS:RelV (.ty n) (.type n):=rfl
structure Ad where
 Nu:Addr
 rq:FuncData
 O7:Addr
 tR:FuncData
 NT:Addr
 qL:FuncData
 OL:Addr
 tT:FuncData
 laid:Addr
 kJ:FuncData
 OF:Addr
 p8:FuncData
 Oy:Addr
 qN:FuncData
 Py:Addr
 qq:FuncData
 tells:Addr
 iZ:FuncData
 wants:Addr
 iU:FuncData
 OI:Addr
 lQ:FuncData
 Np:Addr
 oN:FuncData
 mE:Addr
 ku:FuncData
 NM:Addr
 se:FuncData
 OV:Addr
 pY:FuncData
 taken:Addr
 gb:FuncData
 OM:Addr
 s_:FuncData
 Pm:Addr
 t7:FuncData
 NV:Addr
 p6:FuncData
 O2:Addr
 sN:FuncData
 Oj:Addr
 pz:FuncData
 Pk:Addr
 sI:FuncData
 O_:Addr
 rB:FuncData
 NJ:Addr
 uB:FuncData
 N0:Addr
 sY:FuncData
 kept:Addr
 kE:FuncData
 Od:Addr
 uF:FuncData
 Of:Addr
 qJ:FuncData
 NA:Addr
 qt:FuncData
 Oh:Addr
 qB:FuncData
 NB:Addr
 qK:FuncData
 N8:Addr
 o7:FuncData
 OK:Addr
 qd:FuncData
 Og:Addr
 qh:FuncData
 P5:Addr
 pM:FuncData
 OD:Addr
 tG:FuncData
 Ob:Addr
 oZ:FuncData
 NN:Addr
 qR:FuncData
 NK:Addr
 sV:FuncData
 Qq:Addr
 oE:FuncData
 Qu:Addr
 rD:FuncData
 NP:Addr
 oB:FuncData
 NR:Addr
 o9:FuncData
 Pe:Addr
 qx:FuncData
 Nq:Addr
 pU:FuncData
 br:Addr
 aN:Addr
 vQ:Tok
 aO:Addr
structure Txt(K:Wf)(mg:So)(A:Ad):Prop where
 JM:mg "wrapped" = some (.ref A.Nu)
 Fx:keepIn K (.ref A.Nu)=true
 DV:Binds K A.rq ["number"] []
 ye:dQ K "wrapped" "wrapped" Dk A.Nu A.rq
 CU:mg "pieces_by_name" = some (.ref A.O7)
 zG:keepIn K (.ref A.O7)=true
 AB:Binds K A.tR ["pieces"] []
 yk:dQ K "pieces_by_name" "pieces_by_name" Dp A.O7 A.tR
 KA:mg "copied_piece" = some (.ref A.NT)
 Ee:keepIn K (.ref A.NT)=true
 B_:Binds K A.qL ["piece"] []
 yx:dQ K "copied_piece" "copied_piece" Dw A.NT A.qL
 Kx:mg "copied_fills" = some (.ref A.OL)
 DH:keepIn K (.ref A.OL)=true
 EX:Binds K A.tT ["fills"] []
 yi:dQ K "copied_fills" "copied_fills" DI A.OL A.tT
 FK:mg "laid" = some (.ref A.laid)
 xf:keepIn K (.ref A.laid)=true
 wJ:Binds K A.kJ ["pieces", "keys"] []
 qW:dQ K "laid" "laid" xW A.laid A.kJ
 JA:mg "laid_with_ends" = some (.ref A.OF)
 C4:keepIn K (.ref A.OF)=true
 Ff:Binds K A.p8 ["pieces", "keys"] []
 xX:dQ K "laid_with_ends" "laid_with_ends" CD A.OF A.p8
 Jy:mg "in_order" = some (.ref A.Oy)
 EY:keepIn K (.ref A.Oy)=true
 Gk:Binds K A.qN ["by_name", "keys"] []
 yb:dQ K "in_order" "in_order" GA A.Oy A.qN
 JN:mg "multiple_from" = some (.ref A.Py)
 CZ:keepIn K (.ref A.Py)=true
 DQ:Binds K A.qq ["number", "step"] []
 zH:dQ K "multiple_from" "multiple_from" Dy A.Py A.qq
 yw:mg "tells" = some (.ref A.tells)
 pX:keepIn K (.ref A.tells)=true
 qj:Binds K A.iZ ["piece"] []
 kG:dQ K "tells" "tells" pE A.tells A.iZ
 yK:mg "wants" = some (.ref A.wants)
 tS:keepIn K (.ref A.wants)=true
 rP:Binds K A.iU ["piece"] []
 kL:dQ K "wants" "wants" pI A.wants A.iU
 KG:mg "names_of" = some (.ref A.OI)
 zp:keepIn K (.ref A.OI)=true
 G0:Binds K A.lQ ["pieces"] []
 yo:dQ K "names_of" "names_of" y9 A.OI A.lQ
 JR:mg "refuse_twice" = some (.ref A.Np)
 DF:keepIn K (.ref A.Np)=true
 C2:Binds K A.oN ["ordered"] []
 yH:dQ K "refuse_twice" "refuse_twice" Gw A.Np A.oN
 Gi:mg "aims" = some (.ref A.mE)
 wA:keepIn K (.ref A.mE)=true
 xh:Binds K A.ku ["piece", "names", "fills"] []
 oJ:dQ K "aims" "aims" xO A.mE A.ku
 KD:mg "aim_by" = some (.ref A.NM)
 D4:keepIn K (.ref A.NM)=true
 Ep:Binds K A.se ["piece_name", "own", "names", "fill"] []
 yl:dQ K "aim_by" "aim_by" DG A.NM A.se
 vh:mg "places_told" = some (.ref A.OV)
 nY:keepIn K (.ref A.OV)=true
 m6:Binds K A.pY ["piece", "told_by"] []
 zu:dQ K "places_told" "places_told" Er A.OV A.pY
 zL:mg "taken" = some (.ref A.taken)
 kA:keepIn K (.ref A.taken)=true
 uC:Binds K A.gb ["given", "shelves", "entry"] []
 ki:dQ K "taken" "taken" kH A.taken A.gb
 Kk:keepIn K (.ref A.OM)=true
 Ca:Binds K A.s_ ["self", "given", "shelves", "entry"] []
 zm:dQ K "__init__" "Taking.__init__" B9 A.OM A.s_
 DZ:keepIn K (.ref A.Pm)=true
 DR:Binds K A.t7 ["self"] []
 zj:dQ K "take_for_pieces" "Taking.take_for_pieces" Fv A.Pm A.t7
 Dq:keepIn K (.ref A.NV)=true
 zA:Binds K A.p6 ["self", "name", "by"] []
 z7:dQ K "take_for" "Taking.take_for" Gv A.NV A.p6
 JF:mg "pieces_on" = some (.ref A.O2)
 CH:keepIn K (.ref A.O2)=true
 CM:Binds K A.sN ["shelves"] []
 zQ:dQ K "pieces_on" "pieces_on" C1 A.O2 A.sN
 JX:mg "refuse_same_name" = some (.ref A.Oj)
 GZ:keepIn K (.ref A.Oj)=true
 Dd:Binds K A.pz ["pieces"] []
 Ao:dQ K "refuse_same_name" "refuse_same_name" DU A.Oj A.pz
 E8:mg "first_tellers" = some (.ref A.Pk)
 yu:keepIn K (.ref A.Pk)=true
 Aw:Binds K A.sI ["pieces"] []
 zh:dQ K "first_tellers" "first_tellers" DE A.Pk A.sI
 JZ:mg "reached" = some (.ref A.O_)
 E6:keepIn K (.ref A.O_)=true
 DO:Binds K A.rB ["pieces", "names", "root"] []
 x6:dQ K "reached" "reached" Hq A.O_ A.rB
 Kb:mg "keys_aimed_at" = some (.ref A.NJ)
 B8:keepIn K (.ref A.NJ)=true
 B5:Binds K A.uB ["piece", "number", "names"] []
 AF:dQ K "keys_aimed_at" "keys_aimed_at" FZ A.NJ A.uB
 Gp:mg "map_of" = some (.ref A.N0)
 Ak:keepIn K (.ref A.N0)=true
 yf:Binds K A.sY ["given", "shelves", "entry"] []
 zN:dQ K "map_of" "map_of" F2 A.N0 A.sY
 C0:mg "kept" = some (.ref A.kept)
 wN:keepIn K (.ref A.kept)=true
 xw:Binds K A.kE ["pieces", "names", "entry"] []
 qO:dQ K "kept" "kept" wB A.kept A.kE
 vd:mg "_law_cell_at" = some (.ref A.Od)
 nA:keepIn K (.ref A.Od)=true
 mV:Binds K A.uF ["_law_script", "_law_k"] []
 zd:dQ K "_law_cell_at" "_law_cell_at" E4 A.Od A.uF
 lq:mg "_law_name_by" = some (.ref A.Of)
 jO:keepIn K (.ref A.Of)=true
 jY:Binds K A.qJ ["_law_cell", "_law_k"] []
 y6:dQ K "_law_name_by" "_law_name_by" CI A.Of A.qJ
 JY:mg "_law_word_row" = some (.ref A.NA)
 F9:keepIn K (.ref A.NA)=true
 ER:Binds K A.qt ["_law_cell", "_law_names_by"] []
 Al:dQ K "_law_word_row" "_law_word_row" ED A.NA A.qt
 KR:mg "_law_told_by" = some (.ref A.Oh)
 Gy:keepIn K (.ref A.Oh)=true
 G2:Binds K A.qB ["_law_pieces", "_law_cell", "_law_names_by", "_law_strict"] []
 zM:dQ K "_law_told_by" "_law_told_by" Cq A.Oh A.qB
 Kh:mg "_law_drawn" = some (.ref A.NB)
 Ei:keepIn K (.ref A.NB)=true
 GR:Binds K A.qK ["_law_cells", "_law_names_by", "_law_titles_by", "_law_strict"] []
 yP:dQ K "_law_drawn" "_law_drawn" GI A.NB A.qK
 Jx:mg "_law_copy" = some (.ref A.N8)
 G9:keepIn K (.ref A.N8)=true
 Dv:Binds K A.o7 ["_law_piece"] []
 AH:dQ K "_law_copy" "_law_copy" F5 A.N8 A.o7
 Kt:mg "_law_shelved" = some (.ref A.OK)
 FA:keepIn K (.ref A.OK)=true
 Df:Binds K A.qd ["_law_pieces", "_law_cell"] []
 yc:dQ K "_law_shelved" "_law_shelved" CG A.OK A.qd
 Kg:mg "_law_rest" = some (.ref A.Og)
 GC:keepIn K (.ref A.Og)=true
 C6:Binds K A.qh ["_law_names_by", "_law_titles_by", "_law_there"] []
 zk:dQ K "_law_rest" "_law_rest" Gq A.Og A.qh
 JS:mg "_law_told" = some (.ref A.P5)
 ES:keepIn K (.ref A.P5)=true
 Fy:Binds K A.pM ["_law_piece"] []
 ym:dQ K "_law_told" "_law_told" Ho A.P5 A.pM
 De:mg "_law_wanted" = some (.ref A.OD)
 AI:keepIn K (.ref A.OD)=true
 zi:Binds K A.tG ["_law_piece"] []
 yX:dQ K "_law_wanted" "_law_wanted" DX A.OD A.tG
 Ju:mg "_law_first" = some (.ref A.Ob)
 Ga:keepIn K (.ref A.Ob)=true
 CT:Binds K A.oZ ["_law_some", "_law_name"] []
 yL:dQ K "_law_first" "_law_first" F0 A.Ob A.oZ
 KL:mg "_law_gone" = some (.ref A.NN)
 EF:keepIn K (.ref A.NN)=true
 Gh:Binds K A.qR ["_law_some", "_law_entry"] []
 yT:dQ K "_law_gone" "_law_gone" Em A.NN A.qR
 JD:mg "_law_stands" = some (.ref A.NK)
 B6:keepIn K (.ref A.NK)=true
 DB:Binds K A.sV ["_law_there"] []
 xZ:dQ K "_law_stands" "_law_stands" CL A.NK A.sV
 K0:mg "_law_spot" = some (.ref A.Qq)
 Gj:keepIn K (.ref A.Qq)=true
 GB:Binds K A.oE ["_law_piece", "_law_due", "_law_fill"] []
 zw:dQ K "_law_spot" "_law_spot" FQ A.Qq A.oE
 KQ:mg "_law_kept" = some (.ref A.Qu)
 F8:keepIn K (.ref A.Qu)=true
 Cg:Binds K A.rD ["_law_there", "_law_due", "_law_root"] []
 zq:dQ K "_law_kept" "_law_kept" DP A.Qu A.rD
 KW:mg "_law_laid" = some (.ref A.NP)
 FF:keepIn K (.ref A.NP)=true
 Dl:Binds K A.oB ["_law_there", "_law_keys"] []
 zI:dQ K "_law_laid" "_law_laid" Fw A.NP A.oB
 Ks:mg "_law_whole" = some (.ref A.NR)
 CO:keepIn K (.ref A.NR)=true
 Ed:Binds K A.o9 ["_law_found"] []
 zo:dQ K "_law_whole" "_law_whole" CB A.NR A.o9
 CP:mg "_law_alike" = some (.ref A.Pe)
 yp:keepIn K (.ref A.Pe)=true
 zT:Binds K A.qx ["_law_found", "_law_due"] []
 zx:dQ K "_law_alike" "_law_alike" G6 A.Pe A.qx
 Qj:mg "law" = some (.ref A.Nq)
 Gn:keepIn K (.ref A.Nq)=true
 Kd:Binds K A.pU ["_law_script"] []
 Av:dQ K "law" "law" E9 A.Nq A.pU
 z_:mg "WORD_COUNT" = some (.int 4294967296 A.vQ)
 yI:mg "abs" = none
 qg:mg "bool" = none
 jx:mg "dict" = none
 kY:mg "int" = none
 bZ:mg "isinstance" = none
 dJ:mg "len" = none
 gH:mg "list" = none
 iR:mg "range" = none
 fO:mg "reversed" = none
 yR:mg "set" = none
 cQ:mg "sorted" = none
 yQ:mg "zip" = none
 bm:BMod K mg
 Dc:RN K A.lQ A.br
 vp:RN K A.gb A.aN
 EU:mg "Taking" = some (.ref A.aO)
 bS:Cs K A.aO
 J8:specialIn K (.builtin "object.__class__") "__get__" = some (some (.builtin "getset_descriptor.__get__"))
 J3:takesIn K (.builtin "object.__class__")=some true
 F4:Mk K A.aO A.OM
 xM:Meth K A.aO "take_for" A.NV
 E1:Meth K A.aO "take_for_pieces" A.Pm
 bR:dk K A.aO "pieces"
 dq:dk K A.aO "reasons"
 bM:dk K A.aO "told_by_given"
 bO:dk K A.aO "on_shelves"
 bw:dk K A.aO "from_shelves"
 c8:dk K A.aO "unmet"
theorem LZ:aA ["number"] ["number"] (ai Dk):=by walk_at "F"
theorem Mz:aA ["pieces"] ["pieces"] (ai Dp):=by walk_at "F"
theorem w6:aA ["piece", "stretches", "names"] ["piece"] (ai Dw):=by walk_at "F"
theorem LX:aA ["fills"] ["fills"] (ai DI):=by walk_at "F"
theorem Jp:aA ["pieces", "keys"] ["pieces", "keys"] (ai xW):=by walk_at "F"
theorem gy:aA ["pieces", "keys", "by_name", "rows", "end", "key", "stretch", "place"] ["pieces", "keys"] (ai CD):=by walk_at "F"
theorem qF:aA ["by_name", "keys", "ordered", "code", "data"] ["by_name", "keys"] (ai GA):=by walk_at "F"
theorem L7:aA ["number", "step"] ["number", "step"] (ai Dy):=by walk_at "F"
theorem CV:aA ["piece"] ["piece"] (ai pE):=by walk_at "F"
theorem cj:aA ["piece", "own", "wanted", "kind", "step", "words", "fills", "at", "rule", "name", "add", "soft"] ["piece"] (ai pI):=by walk_at "F"
theorem l9:aA ["pieces", "ordered", "names", "sort", "piece"] ["pieces"] (ai y9):=by walk_at "F"
theorem kM:aA ["ordered", "tellers", "piece", "name", "twice", "least"] ["ordered"] (ai Gw):=by walk_at "F"
theorem zJ:aA ["piece", "names", "fills", "own"] ["piece", "names", "fills"] (ai xO):=by walk_at "F"
theorem k6:aA ["piece_name", "own", "names", "fill", "name", "add", "soft", "place"] ["piece_name", "own", "names", "fill"] (ai DG):=by walk_at "F"
theorem jN:aA ["piece", "told_by", "places", "name", "sort", "stretch", "offset"] ["piece", "told_by"] (ai Er):=by walk_at "F"
theorem kR:aA ["given", "shelves", "entry", "taking", "ordered"] ["given", "shelves", "entry"] (ai kH):=by walk_at "F"
theorem EA:aA ["self", "given", "shelves", "entry", "on_shelves", "least"] ["self", "given", "shelves", "entry"] (ai B9):=by walk_at "F"
theorem lZ:aA ["self", "done", "piece", "name"] ["self"] (ai Fv):=by walk_at "F"
theorem Gu:aA ["self", "name", "by", "piece"] ["self", "name", "by"] (ai Gv):=by walk_at "F"
theorem xC:aA ["shelves", "pieces", "shelf"] ["shelves"] (ai C1):=by walk_at "F"
theorem rH:aA ["pieces", "seen", "again", "piece"] ["pieces"] (ai DU):=by walk_at "F"
theorem qI:aA ["pieces", "first", "piece", "name"] ["pieces"] (ai DE):=by walk_at "F"
theorem e_:aA ["pieces", "names", "root", "by_name", "first", "ways", "seen", "done", "by", "key", "at"] ["pieces", "names", "root"] (ai Hq):=by walk_at "F"
theorem wW:aA ["piece", "number", "names", "fills", "aimed"] ["piece", "number", "names"] (ai FZ):=by walk_at "F"
theorem GQ:aA ["given", "shelves", "entry", "pieces"] ["given", "shelves", "entry"] (ai F2):=by walk_at "F"
theorem z6:aA ["pieces", "names", "entry", "root"] ["pieces", "names", "entry"] (ai wB):=by walk_at "F"
theorem MD:aA ["_law_script", "_law_k"] ["_law_script", "_law_k"] (ai E4):=by walk_at "F"
theorem eL:aA ["_law_cell", "_law_k", "_law_signs", "_law_size", "_law_at", "_law_name", "_law_j", "_law_many", "_law_place"] ["_law_cell", "_law_k"] (ai CI):=by walk_at "F"
theorem ip:aA ["_law_cell", "_law_names_by", "_law_what", "_law_rest_here", "_law_soft", "_law_add", "_law_rule"] ["_law_cell", "_law_names_by"] (ai ED):=by walk_at "F"
theorem jF:aA ["_law_pieces", "_law_cell", "_law_names_by", "_law_strict", "_law_piece", "_law_name", "_law_sort", "_law_other"] ["_law_pieces", "_law_cell", "_law_names_by", "_law_strict"] (ai Cq):=by walk_at "F"
theorem iz:aA ["_law_cells", "_law_names_by", "_law_titles_by", "_law_strict", "_law_pieces", "_law_cell", "_law_what", "_law_step", "_law_stretch", "_law_more"] ["_law_cells", "_law_names_by", "_law_titles_by", "_law_strict"] (ai GI):=by walk_at "F"
theorem G7:aA ["_law_piece", "_law_stretches"] ["_law_piece"] (ai F5):=by walk_at "F"
theorem lH:aA ["_law_pieces", "_law_cell", "_law_some", "_law_mix", "_law_piece"] ["_law_pieces", "_law_cell"] (ai CG):=by walk_at "F"
theorem tZ:aA ["_law_names_by", "_law_titles_by", "_law_there", "_law_told_here", "_law_k", "_law_name"] ["_law_names_by", "_law_titles_by", "_law_there"] (ai Gq):=by walk_at "F"
theorem Lw:aA ["_law_piece"] ["_law_piece"] (ai Ho):=by walk_at "F"
theorem eE:aA ["_law_piece", "_law_some", "_law_kind", "_law_step", "_law_words", "_law_fills", "_law_at", "_law_rule", "_law_name", "_law_add", "_law_soft"] ["_law_piece"] (ai DX):=by walk_at "F"
theorem xA:aA ["_law_some", "_law_name", "_law_shelf", "_law_piece"] ["_law_some", "_law_name"] (ai F0):=by walk_at "F"
theorem iq:aA ["_law_some", "_law_entry", "_law_there", "_law_left", "_law_piece"] ["_law_some", "_law_entry"] (ai Em):=by walk_at "F"
theorem fK:aA ["_law_there", "_law_due", "_law_weak", "_law_title", "_law_name", "_law_sort", "_law_stretch", "_law_offset"] ["_law_there"] (ai CL):=by walk_at "F"
theorem iE:aA ["_law_piece", "_law_due", "_law_fill", "_law_spot_here", "_law_name", "_law_sort", "_law_stretch", "_law_offset"] ["_law_piece", "_law_due", "_law_fill"] (ai FQ):=by walk_at "F"
theorem iw:aA ["_law_there", "_law_due", "_law_root", "_law_keys", "_law_k", "_law_piece", "_law_fill", "_law_spot_here"] ["_law_there", "_law_due", "_law_root"] (ai DP):=by walk_at "F"
theorem e7:aA ["_law_there", "_law_keys", "_law_places", "_law_end", "_law_sort", "_law_key", "_law_kind", "_law_step", "_law_words", "_law_fills"] ["_law_there", "_law_keys"] (ai Fw):=by walk_at "F"
theorem Mh:aA ["_law_found"] ["_law_found"] (ai CB):=by walk_at "F"
theorem FP:aA ["_law_found", "_law_due", "_law_key"] ["_law_found", "_law_due"] (ai G6):=by walk_at "F"
theorem dU:aA ["_law_script", "_law_names_by", "_law_titles_by", "_law_by", "_law_some", "_law_entry", "_law_handed", "_law_there", "_law_due", "_law_places", "_law_found", "_law_again"] ["_law_script"] (ai E9):=by walk_at "F"
theorem cK{CX P w K mg base N qual scope f cd Ar outer s H E}:(lM CX P w K mg base N qual scope f cd Ar outer s H E).K=K:=rfl
theorem bK{scope:Scope}:(Bn X N' scope fp s H).K=X.K:=rfl
theorem wZ{α:Type}{xs:List α}{i:Int}(h1 : -(xs.length:Int)<=i)(h2:i<xs.length):∃v,iI xs i=some v/\v∈xs:=by
 unfold iI Hv;by_cases h0:0<=i
 ·have hl:i.toNat<xs.length:=by omega
  refine⟨xs[i.toNat],?_,uJ hl⟩;rw[if_pos h0,if_pos h2];show xs[i.toNat]?=_;rw[jo hl]
 ·have hl:(i+xs.length).toNat<xs.length:=by omega
  refine⟨xs[(i+xs.length).toNat],?_,uJ hl⟩;rw[if_neg h0,if_pos h1];show xs[(i+xs.length).toNat]?=_;rw[jo hl]
def S4(z:Str):Prop:=z=Str.ofString "whole" \/ z=Str.ofString "high" \/ z=Str.ofString "low" \/ z=Str.ofString "near" \/ z=Str.ofString "split"
def isSort(z:Str):Prop:=z=Str.ofString "tell" \/ z=Str.ofString "weak" \/ z=Str.ofString "own"
def DM(z:Str):Prop:=z=Str.ofString "code" \/ z=Str.ofString "data"
noncomputable def signs:Str:=Str.ofString "abcdefghijklmnopqrstuvwxyz0123456789_"
noncomputable def sgn(i:Int):Nat:=(iI signs.cps.toList i).getD 0
noncomputable def fb(c k:Int):Int:=if c/256%3=0 then 1+k%16 else 1+c%16
noncomputable def rX(c:Int):Int:=if c/256%3=0 then 16 else c/16%(1+c%16)
noncomputable def jL(c k:Int)(j:Int):Int:=(c/(j+3)+j*j+k*(if decide (j=rX c)=true then 1 else 0))%(37 - 11*(if decide (j=0)=true then 1 else 0))
noncomputable def j_(c k:Int)(n:Nat):Str:=⟨((List.range n).map λj:Nat=>sgn (jL c k j)).toArray⟩
noncomputable def nameOf(c k:Int):Str:=j_ c k (fb c k).toNat
def Bv(c:Int)(z:Str):Prop:=∃k:Int,0<=k/\k<12/\z=nameOf c k
structure wt(c:Int)(n:Nat)(f:ax):Prop where
 rule:S4 f.rule
 name:Bv c f.name
 lo:0<=f.at_
 hi:f.at_<n
 Ez : -2147483648<=f.add
 Fo:f.add<2147483648
 soft:f.soft=true->f.rule=Str.ofString "whole" \/ f.rule=Str.ofString "high" \/ f.rule=Str.ofString "low"
structure mG(c:Int)(s:aL):Prop where
 kind:DM s.kind
 step:s.step=1\/s.step=2\/s.step=4\/s.step=16\/s.step=65536
 words:∀i∈s.words,0<=i/\i<4294967296
 fills:∀f∈s.fills,wt c s.words.length f
 asc:s.fills.Pairwise λf g=>f.at_<g.at_
 cy:s.fills.length<=s.words.length
structure Ec(c:Int)(ss:List aL)(n:aj):Prop where
 name:Bv c n.name
 sort:isSort n.sort
 at_:∃(k:Nat) (s:aL),ss[k]?=some s/\n.st=k/\0<=n.off/\n.off<=s.words.length
structure hU(c:Int)(p:ah):Prop where
 aI:∀s∈p.aI,mG c s
 aK:∀n∈p.aK,Ec c p.aI n
 nd:(p.aK.map aj.name).Nodup
noncomputable def _root_.L2.ah.size(p:ah):Nat:=1+p.aI.length+(p.aI.map λs=>s.words.length).sum+p.aK.length
structure Drawn(c t:Int)(n:Nat)(ps:List ah):Prop where
 ok:∀p∈ps,hU c p
 cy:ps.length<=12
 names:ps.map ah.name=(List.range ps.length).map λi:Nat=>nameOf t i
 size:(ps.map ah.size).sum<=n
 tw:ps.Pairwise λp q=>∀x∈p.aK,∀y∈q.aK,x.sort=Str.ofString "tell" -> y.sort=Str.ofString "tell" -> x.name≠y.name
structure DC(H0:Hp)(a L:Addr)(c t v:Int)(i:Nat)(ps:List ah)(σ:L2.St)(H:Hp):Prop where
 st:∃b7 b8 b9,σ=[some (V.ref a),some (V.int c),some (V.int t),some (V.bl false),some (V.ref L),some (V.int v),some (V.int (v%9)),b7,b8,b9]
 same:ay H0 H
 Nh:eA H L ps
 new:∀b∈L::aZ ps,H0 b=none
 dr:Drawn c t i ps
 lt:i<61
theorem DC.mono(d:DC H0 a L c t v i ps σ H)(e:ay H H'):DC H0 a L c t v i ps σ H':=⟨d.st,d.same.trans e,d.Nh.mono e,d.new,d.dr,d.lt⟩
def DN(H0:Hp)(a L:Addr)(c t:Int)(i:Nat)(D:Ends):Prop:=∀ps σ H,(∃b5 b6 b7 b8 b9,σ=[some (V.ref a),some (V.int c),some (V.int t),some (V.bl false),some (V.ref L),b5,b6,b7,b8,b9])->ay H0 H->eA H L ps->(∀b∈L::aZ ps,H0 b=none)->Drawn c t (i+1) ps->D.nx σ H
def To:TS:=λD σ H=>∃H0 a L c t v i ps,DC H0 a L c t v i ps σ H/\ps.length<12/\DN H0 a L c t i D
def Ub:TS:=λD σ H=>∃H0 a L c t v i ps p,DC H0 a L c t v i (ps++[p]) σ H/\DN H0 a L c t i D
def TC:TS:=λD σ H=>∃H0 a L c t v i ps p ss s,DC H0 a L c t v i (ps++[p]) σ H/\p.aI=ss++[s]/\DN H0 a L c t i D
def Tj:TS:=λD σ H=>∃H0 a L c t v i ps p ss s,DC H0 a L c t v i (ps++[p]) σ H/\p.aI=ss++[s]/\DN H0 a L c t i D
def T6:TT:=λσ H R=>∃H0 a L c t v i ps,DC H0 a L c t v i ps σ H/\∀(b:Bool) H',ay H H'->(b=true->ps.length<12)->(b=false->ps≠[])->R b H'
def T9:TT:=λσ H R=>∃H0 a L c t v i ps p,DC H0 a L c t v i (ps++[p]) σ H/\∀(b:Bool) H',ay H H'->(b=false->p.aI≠[])->R b H'
def AX(K:Wf):Sp:=λvs H Q _=>∃(a:Addr) (ns:List Int) (k:Int),vs=[.ref a,.int k]/\aD K H a (ns.map V.int)/\ns.length<=63/\0<=k/\∀i:Int,Q (.int i) H
def A6:Sp:=λvs H Q _=>∃c k:Int,vs=[.int c,.int k]/\Q (.str (nameOf c k)) H
def xS:Sp:=λvs H Q _=>∃c n:Int,vs=[.int c,.int n]/\∀H',ay H H'->Q .bj H'/\∀f:ax,wt n 1 { f with at_:=0 }->H' f.a=some (.tup [.str f.rule,.str f.name,.int f.add,.bl f.soft])->H f.a=none->Q (.ref f.a) H'
def Be(K:Wf):Sp:=λvs H Q _=>∃(L:Addr) (c n:Int) (ps:List ah) (p:ah) (ss:List aL) (s:aL),vs=[.ref L,.int c,.int n,.bl false]/\eA H L (ps++[p])/\p.aI=ss++[s]/\ps.length<=12/\p.aK.length<=61/\p.aI.length<=61/\s.words.length<=61/\(∀q∈ps,q.aK.length<=61)/\
 (∀H',ay H H'->Q .bj H')/\∀(m:aj) (H':Hp),ay H H'->m.At H'->Bv n m.name->m.name∉p.aK.map aj.name->isSort m.sort->m.st=ss.length->m.off=s.words.length->(m.sort=Str.ofString "tell" -> ∀q∈ps,∀x∈q.aK,x.sort=Str.ofString "tell" -> x.name≠m.name)->Q .bj (upd H' p.ln (.lst (p.aK.map aj.v++[m.v])))
def E2(K:Wf):Sp:=λvs H Q _=>∃(a:Addr) (ns:List Int) (c t:Int),vs=[.ref a,.int c,.int t,.bl false]/\aD K H a (ns.map V.int)/\ns.length<=61/\∀(L:Addr) (ps:List ah) (H':Hp),ay H H'->eA H' L ps->(∀b∈L::aZ ps,H b=none)->Drawn c t ns.length ps->Q (.ref L) H'
def zy(K:Wf):Sp:=λvs H Q _=>∃p:ah,vs=[p.v]/\p.At H/\p.aI.length<=61/\p.aK.length<=62/\(∀s∈p.aI,s.words.length<=61/\s.fills.length<=61)/\∀(q:ah) (H':Hp),ay H H'->q.At H'->p.HV q->(∀b∈q.lists,H b=none)->q.lists.Nodup->Q q.v H'
structure ao where
 name:Str
 t:Addr
 a:Str
 b:Int
 c:Int
noncomputable def ao.kv(m:ao):Key×V:=(.inr m.name,.ref m.t)
def ao.At(H:Hp)(m:ao):Prop:=H m.t=some (.tup [.str m.a,.int m.b,.int m.c])
structure Tab(H:Hp)(d:Addr)(ms:List ao):Prop where
 top:H d=some (.dK (ms.map ao.kv))
 at_:∀m∈ms,ao.At H m
noncomputable def aB(ms:List ao)(z:Str):Option ao:=ms.find? λm=>decide (m.name=z)
noncomputable def d7(ms:List ao)(m:ao):List ao:=if (ms.any λn=>decide (n.name=m.name))=true then ms.map (λn=>if n.name=m.name then m else n) else ms++[m]
theorem lO(ms:List ao)(z:Str):a8 (ms.map ao.kv) (.inr z)=(aB ms z).map λm=>V.ref m.t:=by
 unfold a8 aB;rw[Hs,Jr];congr 1;congr 1;funext m;simp[ao.kv]
theorem MJ(ms:List ao)(z:Str):((ms.map ao.kv).any λkv=>decide (kv.1=(.inr z:Key)))=ms.any λn=>decide (n.name=z):=by
 rw[GF];congr 1;funext m;simp[ao.kv]
theorem FD(ms:List ao)(m:ao):putK (ms.map ao.kv) (.inr m.name) (.ref m.t)=(d7 ms m).map ao.kv:=by
 unfold putK d7;rw[MJ];by_cases h:(ms.any λn=>decide (n.name=m.name))=true
 ·rw[if_pos h,if_pos h,ck,ck];congr 1;funext n;by_cases e:n.name=m.name
  ·simp[ao.kv,e]
  ·simp[ao.kv,e]
 ·rw[if_neg h,if_neg h,aY];rfl
theorem vW(h:n∈d7 ms m):n∈ms\/n=m:=by
 unfold d7 at h;split at h
 ·obtain⟨x,hx,e⟩:=aM.mp h;split at e
  ·exact .inr e.symm
  ·exact .inl (e▸hx)
 ·rcases bF.mp h with z|z
  ·exact .inl z
  ·exact .inr (bX.mp z)
theorem iL:(d7 ms m).length<=ms.length+1:=by
 unfold d7;split
 ·rw[az];omega
 ·rw[cW];simp
theorem CN(h:m.name∉ms.map ao.name):d7 ms m=ms++[m]:=by
 unfold d7;rw[if_neg];intro z;obtain⟨n,hn,e⟩:=lP.mp z;exact h (aM.mpr ⟨n,hn,of_decide_eq_true e⟩)
theorem Tab.mono(h:Tab H d ms)(e:ay H H'):Tab H' d ms:=⟨e _ _ h.top,λm hm=>e _ _ (h.at_ m hm)⟩
theorem Tab.put(h:Tab H d ms)(hm:ao.At H m):Tab (upd H d (.dK (putK (ms.map ao.kv) (.inr m.name) (.ref m.t)))) d (d7 ms m):=by
 refine⟨by rw[aE,FD],λn hn=>?_⟩;have tup:∀n:ao,ao.At H n->ao.At (upd H d (.dK (putK (ms.map ao.kv) (.inr m.name) (.ref m.t)))) n:=λn hn=>by
  unfold ao.At;rw[ae (bD hn h.top (by intro z;cases z))];exact hn
 rcases vW hn with z|z
 ·exact tup n (h.at_ n z)
 ·rw[z];exact tup m hm
noncomputable def cS:Str:=Str.ofString "own"
noncomputable def bJ(p:ah)(ms:List ao)(f:ax):Option (Str×Int×Int):=
 match p.aK.find? λn=>decide (n.name=f.name)&&decide (n.sort=cS) with
 |some n=>some (p.name,n.st,n.off)
 |none=>(aB ms f.name).map λm=>(m.a,m.b,m.c)
noncomputable def N9(a:Str)(b c:Int):HO:=.tup [.str a,.int b,.int c]
def MA:Sp:=λvs H Q _=>∃i:Int,vs=[.int i]/\Q (.int (i%4294967296)) H
def Ba:Sp:=λvs H Q _=>∃(p:ah) (z:Str),vs=[p.v,.str z]/\p.At H/\p.aK.length<=61/\(p.aK.map aj.name).Nodup/\
 ∀d ms H',ay H H'->Tab H' d ms->ms.map (λm=>(m.name,m.a,m.b,m.c))=(p.aK.filter λn=>decide (n.sort=z)).map (λn=>(n.name,p.name,n.st,n.off))->H d=none->Q (.ref d) H'
structure PL(H:Hp)(L:Addr)(ps:List ah):Prop where
 top:H L=some (.lst (ps.map ah.v))
 at_:∀p∈ps,p.At H
noncomputable def cg:Str:=Str.ofString "tell"
noncomputable def cO:Str:=Str.ofString "weak"
noncomputable def bQ(ps:List ah):List (Str×aj):=ps.flatMap λp=>p.aK.map λn=>(p.name,n)
noncomputable def Mq(r:Str×aj):Str×Int×Int:=(r.1,r.2.st,r.2.off)
noncomputable def ao.vl(m:ao):Str×Int×Int:=(m.a,m.b,m.c)
def SR(a b:Str):Prop:=¬b.cps.toList<a.cps.toList
structure eQ(R:List (Str×aj))(ms:List ao):Prop where
 nd:(ms.map ao.name).Nodup
 MM:∀z m,aB ms z=some m->(∃r∈R,r.2.name=z/\r.2.sort=cg/\ao.vl m=Mq r)\/((∀r∈R,r.2.name=z->r.2.sort≠cg)/\∃r∈R,r.2.name=z/\r.2.sort=cO/\ao.vl m=Mq r/\∀r'∈R,r'.2.name=z->r'.2.sort=cO->SR r.1 r'.1)
 bj:∀z,aB ms z=none->∀r∈R,r.2.name=z->r.2.sort≠cg/\r.2.sort≠cO
structure HB(ps:List ah):Prop where
 cy:ps.length<=14
 nd:(ps.map ah.name).Nodup
 aK:∀p∈ps,p.aK.length<=61/\(p.aK.map aj.name).Nodup
 tw:ps.Pairwise λp q=>∀x∈p.aK,∀y∈q.aK,x.sort=cg->y.sort=cg->x.name≠y.name
def A9:Sp:=λvs H Q _=>∃(L:Addr) (ps:List ah),vs=[.ref L]/\PL H L ps/\HB ps/\∀H',ay H H'->Q .bj H'
noncomputable def xB:Pos:=⟨67,33,67,55⟩
noncomputable def wV:Str:=(Str.ofString "names_of" ++ Str.ofString ".<locals>.")++Str.ofString "<lambda>"
def w_(A:Ad):Sp:=λvs H Q _=>∃(L:Addr) (ps:List ah),vs=[.ref L]/\PL H L ps/\HB ps/\c7 A.br xB wV H/\
 ∀(d:Addr) (ms:List ao) (H':Hp),eT A.br H H'->c7 A.br xB wV H'->Tab H' d ms->eQ (bQ ps) ms->H d=none->Q (.ref d) H'
noncomputable def fY(p:ah):List Str:=(p.aK.filter λn=>decide (n.sort≠cS)).map aj.name
noncomputable def cB(p:ah)(z:Str):Bool:=p.aK.any λn=>decide (n.name=z)&&decide (n.sort=cS)
noncomputable def addW(W:List Str)(y:Str):List Str:=if y∈W then W else W++[y]
noncomputable def kx(y:Str):Key×V:=(.inr y,.bl true)
noncomputable def iQ(p:ah)(W:List Str)(f:ax):List Str:=if (!f.soft && !cB p f.name)=true then addW W f.name else W
noncomputable def aG(ss:List aL):List ax:=ss.flatMap aL.fills
noncomputable def uQ(p:ah):List Str:=(aG p.aI).foldl (iQ p) []
def uN(l:Addr)(N:List Str)(H:Hp):Prop:=∃ss:List Str,ss.Perm N/\ss.Pairwise AL/\H l=some (.lst (ss.map V.str))
structure n_(p:ah):Prop where
 nm:p.aK.length<=61
 st:p.aI.length<=61
 ss:∀s∈p.aI,s.words.length<=61/\s.fills.length<=61
 fl:(aG p.aI).length<=61
 nd:(p.aK.map aj.name).Nodup
def GP:Sp:=λvs H Q _=>∃p:ah,vs=[p.v]/\p.At H/\n_ p/\∀l H',ay H H'->uN l (fY p) H'->H l=none->Q (.ref l) H'
def Dt:Sp:=λvs H Q _=>∃p:ah,vs=[p.v]/\p.At H/\n_ p/\∀l H',ay H H'->uN l (uQ p) H'->H l=none->Q (.ref l) H'
noncomputable abbrev Co:=Str×List aj×List (Str×Int×List Int×List ax)
noncomputable def aj.e(n:aj):aj:={ n with a:=0 }
noncomputable def ax.e(f:ax):ax:={ f with a:=0 }
noncomputable def aL.e(s:aL):Str×Int×List Int×List ax:=(s.kind,s.step,s.words,s.fills.map ax.e)
noncomputable def ar(p:ah):Co:=(p.name,p.aK.map aj.e,p.aI.map aL.e)
noncomputable def cA(z:Str)(c:Co):Bool:=c.2.1.any λn=>decide (n.name=z) && !decide (n.sort=cS)
noncomputable def DT(z:Str)(c:Co):Bool:=c.2.1.any λn=>decide (n.name=z)&&decide (n.sort=cS)
noncomputable def bW(z:Str)(c:Co):Bool := !DT z c&&c.2.2.any λs=>s.2.2.2.any λf=>decide (f.name=z) && !f.soft
noncomputable def cH(cs:List Co)(z:Str):Option Co:=cs.find? (cA z)
noncomputable def bo(ps:List ah)(z:Str):Option ah:=ps.find? λp=>cA z (ar p)
structure jW(G S:List Co)(e:Str)(T:List Co)(rs:List (Str×Str×Str)):Prop where
 nd:(T.map (·.1)).Nodup
 sub:∀p∈T,p∈S
 len:rs.map (·.1)=T.map (·.1)
 Pp:∀(i:Nat) (p:Co) (r:Str×Str×Str),T[i]?=some p->rs[i]?=some r->cH G r.2.1=none/\cH S r.2.1=some p/\(r.2.2=Str.ofString "" /\ r.2.1=e\/∃q∈G++T.take i,q.1=r.2.2/\bW r.2.1 q=true)
def eO(G S T:List Co)(z:Str):Prop:=(cH G z).isSome=true\/∃p∈T,cH S z=some p
def fc(G S:List Co)(e:Str)(T:List Co):Prop:=eO G S T e/\∀q∈G++T,∀z,bW z q=true->eO G S T z
def BP(G S:List Co)(z:Str):Prop:=(cH G z).isSome=true\/(cH S z).isSome=true
structure BG(G S:List ah)(e:Str):Prop where
 cy:(G++S).length<=14
 uW:∀p∈G++S,n_ p
 nd:((G++S).map ah.name).Nodup
 ent:BP (G.map ar) (S.map ar) e
 met:∀p∈G++S,∀z,bW z (ar p)=true->BP (G.map ar) (S.map ar) z
structure v5(H:Hp)(S:Addr)(xs:List (Addr×List ah)):Prop where
 top:H S=some (.lst (xs.map λx=>V.ref x.1))
 at_:∀x∈xs,PL H x.1 x.2
noncomputable def flat(xs:List (Addr×List ah)):List ah:=xs.flatMap (·.2)
def ND:Sp:=λvs H Q _=>∃(S:Addr) (xs:List (Addr×List ah)),vs=[.ref S]/\v5 H S xs/\(flat xs).length<=100/\∀(l:Addr) (H':Hp),ay H H'->H l=none->H' l=some (.lst ((flat xs).map ah.v))->Q (.ref l) H'
def AW:Sp:=λvs H Q _=>∃(L:Addr) (ps:List ah),vs=[.ref L]/\PL H L ps/\ps.length<=100/\(ps.map ah.name).Nodup/\∀H',ay H H'->Q .bj H'
def Sl(H:Hp)(d:Addr)(ps:List ah):Prop:=∃af:List (Key×V),H d=some (.dK af)/\∀z,a8 af (.inr z)=(bo ps z).map ah.v
def Cd:Sp:=λvs H Q _=>∃(L:Addr) (ps:List ah),vs=[.ref L]/\PL H L ps/\ps.length<=14/\(∀p∈ps,n_ p)/\∀(d:Addr) (H':Hp),ay H H'->H d=none->Sl H' d ps->Q (.ref d) H'
structure jq where
 x:Addr
 dx:Addr
 lp:Addr
 lr:Addr
 dg:Addr
 ds:Addr
 df:Addr
 du:Addr
noncomputable def jq.attrs(t:jq):List (Str×V):=putF (Str.ofString "unmet") (.ref t.du) (putF (Str.ofString "from_shelves") (.ref t.df) (putF (Str.ofString "on_shelves") (.ref t.ds) (putF (Str.ofString "told_by_given") (.ref t.dg) (putF (Str.ofString "reasons") (.ref t.lr) (putF (Str.ofString "pieces") (.ref t.lp) [])))))
noncomputable abbrev Hx:=Addr×Str×Str×Str
structure xG(C:Addr)(H:Hp)(t:jq)(G S T:List ah)(rs:List Hx):Prop where
 top:H t.x=some (.ins C t.dx t.attrs)
 lp:H t.lp=some (.lst ((G++T).map ah.v))
 lr:H t.lr=some (.lst (rs.map λr=>V.ref r.1))
 rs:∀r∈rs,H r.1=some (.tup [.str r.2.1,.str r.2.2.1,.str r.2.2.2])
 dg:Sl H t.dg G
 ds:Sl H t.ds S
 df:H t.df=some (.dK ((T.map ah.name).map kx))
 du:H t.du=some (.dK [])
 at_:∀p∈G++S,p.At H/\t.lp∉p.lists/\t.lr∉p.lists
 ne:t.lp≠t.lr
 nf:t.dg≠t.df/\t.ds≠t.df/\t.du≠t.df
 sub:∀p∈T,p∈S
def IZ(t:jq)(H H':Hp):Prop:=∀b o,b≠t.lp->b≠t.lr->b≠t.df->H b=some o->H' b=some o
def xF(C:Addr):Sp:=λvs H Q _=>∃(t:jq) (z b e:Str) (G S T:List ah) (rs:List Hx),vs=[.ref t.x,.str z,.str b]/\xG C H t G S T rs/\BG G S e/\BP (G.map ar) (S.map ar) z/\jW (G.map ar) (S.map ar) e (T.map ar) (rs.map (·.2))/\(b=Str.ofString "" /\ z=e\/∃q∈G++T,q.name=b/\bW z (ar q)=true)/\
 ∀(T':List ah) (rs':List Hx) (H':Hp),xG C H' t G S (T++T') rs'->IZ t H H'->jW (G.map ar) (S.map ar) e ((T++T').map ar) (rs'.map (·.2))->eO (G.map ar) (S.map ar) ((T++T').map ar) z->Q .bj H'
def Mv(C:Addr):Sp:=λvs H Q _=>∃(t:jq) (e:Str) (G S T:List ah) (rs:List Hx),vs=[.ref t.x]/\xG C H t G S T rs/\BG G S e/\jW (G.map ar) (S.map ar) e (T.map ar) (rs.map (·.2))/\eO (G.map ar) (S.map ar) (T.map ar) e/\
 ∀(T':List ah) (rs':List Hx) (H':Hp),xG C H' t G S T' rs'->IZ t H H'->jW (G.map ar) (S.map ar) e (T'.map ar) (rs'.map (·.2))->fc (G.map ar) (S.map ar) e (T'.map ar)->Q .bj H'
def Q4(H:Hp)(g s:Addr)(e:Str)(G:List ah)(xs:List (Addr×List ah)):Prop:=PL H g G/\v5 H s xs/\BG G (flat xs) e
def Bs(C:Addr):Sp:=λvs H Q _=>∃(x dx g s:Addr) (e:Str) (G:List ah) (xs:List (Addr×List ah)),vs=[.ref x,.ref g,.ref s,.str e]/\H x=some (.ins C dx [])/\Q4 H g s e G xs/\
 ∀(t:jq) (T:List ah) (rs:List Hx) (H':Hp),t.x=x->xG C H' t G (flat xs) T rs->(∀b o,b≠x->H b=some o->H' b=some o)->H t.lp=none->H t.lr=none->jW (G.map ar) ((flat xs).map ar) e (T.map ar) (rs.map (·.2))->fc (G.map ar) ((flat xs).map ar) e (T.map ar)->Q .bj H'
noncomputable def Kn:Pos:=⟨105,40,105,62⟩
noncomputable def Kc:Str:=(Str.ofString "taken" ++ Str.ofString ".<locals>.")++Str.ofString "<lambda>"
def BA:Sp:=λvs H Q _=>∃(l:Addr) (fs:List ax),vs=[.ref l]/\H l=some (.lst (fs.map ax.v))/\(∀f∈fs,f.At H)/\fs.length<=62/\∀(l':Addr) (gs:List ax) (H':Hp),ay H H'->H l'=none->H' l'=some (.lst (gs.map ax.v))->(∀f∈gs,f.At H')->gs.map ax.e=fs.map ax.e->Q (.ref l') H'
def Bi:Sp:=λvs H Q _=>∃p:ah,vs=[p.v]/\p.At H/\p.aI.length<=62/\p.aK.length<=62/\(∀s∈p.aI,s.fills.length<=62)/\∀(q:ah) (H':Hp),ay H H'->q.At H'->ar q=ar p->(∀b∈q.lists,H b=none)->q.lists.Nodup->Q q.v H'
def EV(A:Ad):Sp:=λvs H Q _=>∃(g s:Addr) (e:Str) (G:List ah) (xs:List (Addr×List ah)),vs=[.ref g,.ref s,.str e]/\Q4 H g s e G xs/\c7 A.aN Kn Kc H/\
 ∀(l:Addr) (T:List Co) (rs:List (Str×Str×Str)) (qs:List ah) (H':Hp),eT A.aN H H'->c7 A.aN Kn Kc H'->eA H' l qs->(∀b∈l::aZ qs,H b=none)->jW (G.map ar) ((flat xs).map ar) e T rs->fc (G.map ar) ((flat xs).map ar) e T->(qs.map ar).Perm (G.map ar++T)->(qs.map ah.name).Pairwise AL->Q (.ref l) H'
def dC(H H':Hp):Prop:=∀b o,((∃xs,o=.lst xs)\/∃xs,o=.tup xs)->H b=some o->H' b=some o
noncomputable def Kq(c:Co):D:=.tup [.str c.1,.lst (c.2.2.map λs=>D.tup [.str s.1,.int s.2.1,.lst (s.2.2.1.map D.int),.lst (s.2.2.2.map ax.d)]),.lst (c.2.1.map aj.d)]
def xQ:Sp:=λvs H Q _=>∃(L:Addr) (c:Int) (ps:List ah),vs=[.ref L,.int c]/\PL H L ps/\ps.length<=12/\
 ∀(S:Addr) (xs:List (Addr×List ah)) (H':Hp),ay H H'->v5 H' S xs->(∀b∈S::xs.map (·.1),H b=none)->(S::xs.map (·.1)).Nodup->xs.length=4->(flat xs).Perm ps->Q (.ref S) H'
structure AZ(c t:Int)(p:ah):Prop where
 name:p.name=nameOf t 14
 aK:p.aK.map aj.name=(List.range 12).map λk:Nat=>nameOf c k
 weak:∀n∈p.aK,n.sort=Str.ofString "weak"
 aI:∃s,p.aI=[s]/\s.words.length=1/\s.fills=[]
 kd:∀s∈p.aI,s.kind=Str.ofString "data" /\ s.step=1
 Uc:∀n∈p.aK,n.st=0
def Jj:Sp:=λvs H Q _=>∃(c t:Int) (l:Addr),vs=[.int c,.int t,.ref l]/\H l=some (.lst [])/\
 ∀(p:ah) (H':Hp),ay H H'->p.At H'->AZ c t p->(∀b∈p.lists,H b=none)->Q p.v H'
def F7:Sp:=λvs H Q _=>∃p:ah,vs=[p.v]/\p.At H/\n_ p/\∀l H',ay H H'->H l=none->H' l=some (.lst ((fY p).map V.str))->Q (.ref l) H'
noncomputable def cn(p:ah)(fs:List ax):List Str:=(fs.filter λf=>!f.soft && !cB p f.name).map ax.name
def xj:Sp:=λvs H Q _=>∃p:ah,vs=[p.v]/\p.At H/\n_ p/\∀l H',ay H H'->H l=none->H' l=some (.lst ((cn p (aG p.aI)).map V.str))->Q (.ref l) H'
noncomputable def Rw:Option ah->V
 |some p=>p.v
 |none=>.bj
def Bu:Sp:=λvs H Q _=>∃(S:Addr) (z:Str) (xs:List (Addr×List ah)),vs=[.ref S,.str z]/\v5 H S xs/\(∀p∈flat xs,n_ p)/\∀H',ay H H'->Q (Rw (bo (flat xs) z)) H'
def AU:Sp:=λvs H Q _=>∃(L:Addr) (ps:List ah),vs=[.ref L]/\eA H L ps/\ps.length<=100/\∀(d:Addr) (H':Hp),ay H H'->H' d=some (.dK (cb [] (ps.map λp=>(.inr p.name,p.v))))->H d=none->Q (.ref d) H'
noncomputable def fU(ps:List ah)(n:Str):Option ah:=ps.find? λp=>decide (p.name=n)
noncomputable def gr(ps:List ah)(k:aH):Option aL:=(fU ps k.1).bind λp=>if 0<=k.2 then p.aI[k.2.toNat]? else none
structure jV(H:Hp)(ps:List ah):Prop where
 at_:∀p∈ps,p.At H
 nd:(ps.map ah.name).Nodup
 st:∀p∈ps,∀s∈p.aI,1<=s.step/\s.step<=65536/\(s.kind=Str.ofString "code" \/ s.kind=Str.ofString "data")/\s.words.length<=1000
def uP(H:Hp)(a:Addr)(qs:List (Addr×aH)):Prop:=H a=some (.lst (qs.map λq=>V.ref q.1))/\∀q∈qs,H q.1=some (.tup [.str q.2.1,.int q.2.2])
noncomputable def bP(n st:Int):Int:=(n+st - 1)/st*st
def HI:Sp:=λvs H Q _=>∃n st:Int,vs=[.int n,.int st]/\0<=n/\n<=10 ^ 12/\1<=st/\st<=65536/\Q (.int (bP n st)) H
noncomputable def bA(ps:List ah)(kd:Str)(k:aH):Bool:=decide ((gr ps k).map aL.kind=some kd)
def jT(ps:List ah)(ks ls:List aH):Prop:=∃ss:List aH,ss.Perm ks/\ss.Pairwise jE/\ls=ss.filter (bA ps (Str.ofString "code"))++ss.filter (bA ps (Str.ofString "data"))
def C3:Sp:=λvs H Q _=>∃(d a:Addr) (ps:List ah) (qs:List (Addr×aH)),vs=[.ref d,.ref a]/\H d=some (.dK (cb [] (ps.map λp=>(.inr p.name,p.v))))/\jV H ps/\uP H a qs/\qs.length<64/\(∀q∈qs,(gr ps q.2).isSome=true)/\
 ∀(l:Addr) (rs:List (Addr×aH)) (H':Hp),ay H H'->H l=none->uP H' l rs->jT ps (qs.map (·.2)) (rs.map (·.2))->Q (.ref l) H'
noncomputable def bI:Int->List aL->List (Int×Int)
 |_,[]=>[]
 |e,s::r=>(bP e s.step,bP e s.step+(s.words.length:Int))::bI (bP e s.step+(s.words.length:Int)) r
structure f7 where
 t:Addr
 b:Addr
 k:aH
 p:Int
 e:Int
noncomputable def f7.vs(r:f7)(full:Bool):List V:=if full=true then [.ref r.b,.int r.p,.int r.e] else [.ref r.b,.int r.p]
structure t_(H:Hp)(full:Bool)(l:Addr)(ps:List ah)(ks:List aH)(rs:List f7):Prop where
 top:H l=some (.lst (rs.map λr=>V.ref r.t))
 row:∀r∈rs,H r.t=some (.tup (r.vs full))
 key:∀r∈rs,H r.b=some (.tup [.str r.k.1,.int r.k.2])
 ord:jT ps ks (rs.map (·.k))
 lay:∃ss:List aL,rs.map (λr=>gr ps r.k)=ss.map some/\rs.map (λr=>(r.p,r.e))=bI 0 ss
def Lg:Sp:=λvs H Q _=>∃(L a:Addr) (ps:List ah) (qs:List (Addr×aH)),vs=[.ref L,.ref a]/\eA H L ps/\ps.length<=100/\jV H ps/\uP H a qs/\qs.length<64/\(∀q∈qs,(gr ps q.2).isSome=true)/\
 ∀(l:Addr) (rs:List f7) (H':Hp),ay H H'->H l=none->t_ H' true l ps (qs.map (·.2)) rs->Q (.ref l) H'
def TV(H:Hp)(vs:List V)(ps:List ah)(ks:List aH):Prop:=∃(L a:Addr) (qs:List (Addr×aH)),vs=[.ref L,.ref a]/\ks=qs.map (·.2)/\eA H L ps/\ps.length<=100/\jV H ps/\uP H a qs/\qs.length<64/\∀q∈qs,(gr ps q.2).isSome=true
def Jo:Sp:=λvs H Q _=>∃(ps:List ah) (ks:List aH),TV H vs ps ks/\∀(l:Addr) (rs:List f7) (H':Hp),ay H H'->H l=none->t_ H' false l ps ks rs->Q (.ref l) H'
def AJ:Sp:=λvs H Q _=>∃(pn:Str) (dO dN:Addr) (f:ax) (mo mn:List ao),vs=[.str pn,.ref dO,.ref dN,f.v]/\f.At H/\Tab H dO mo/\Tab H dN mn/\
 (∀m,((aB mo f.name).or (aB mn f.name))=some m->∀q,H q=none->Q (.ref q) (upd H q (N9 m.a m.b (m.c+f.add))))/\((aB mo f.name).or (aB mn f.name)=none->f.soft=true/\Q (.int (f.add%4294967296)) H)
def IA(H:Hp)(p:ah)(mn:List ao)(f:ax)(v:V):Prop:=(∃a b c q,bJ p mn f=some (a,b,c)/\v=.ref q/\H q=some (N9 a b (c+f.add)))\/(bJ p mn f=none/\v=.int (f.add%4294967296))
def C_:Sp:=λvs H Q _=>∃(p:ah) (dN l:Addr) (fs:List ax) (mn:List ao),vs=[p.v,.ref dN,.ref l]/\p.At H/\p.aK.length<=61/\(p.aK.map aj.name).Nodup/\Tab H dN mn/\H l=some (.lst (fs.map ax.v))/\fs.length<=61/\(∀f∈fs,f.At H/\(bJ p mn f=none->f.soft=true))/\
 ∀(l':Addr) (ys:List V) (H':Hp),ay H H'->H' l'=some (.lst ys)->ys.length=fs.length->(∀(i:Nat) f v,fs[i]?=some f->ys[i]?=some v->IA H' p mn f v)->H l'=none->Q (.ref l') H'
structure IC where
 t:Addr
 k:Addr
 a:Str
 b:Int
 at_:Int
def IC.At(H:Hp)(w:IC):Prop:=H w.t=some (.tup [.ref w.k,.int w.at_])/\H w.k=some (.tup [.str w.a,.int w.b])
noncomputable def keysOf(p:ah)(mn:List ao)(fs:List ax):List (Str×Int×Int):=fs.filterMap λf=>(bJ p mn f).map λr=>(r.1,r.2.1,f.at_)
def Jk:Sp:=λvs H Q _=>∃(p:ah) (n:Int) (dN:Addr) (mn:List ao) (st:aL),vs=[p.v,.int n,.ref dN]/\p.At H/\p.aK.length<=61/\(p.aK.map aj.name).Nodup/\Tab H dN mn/\0<=n/\p.aI[n.toNat]?=some st/\st.fills.length<=61/\(∀f∈st.fills,bJ p mn f=none->f.soft=true)/\
 ∀(l':Addr) (ws:List IC) (H':Hp),ay H H'->H' l'=some (.lst (ws.map λw=>V.ref w.t))->(∀w∈ws,w.At H')->ws.map (λw=>(w.a,w.b,w.at_))=keysOf p mn st.fills->H l'=none->Q (.ref l') H'
noncomputable abbrev K2:=Str×Int
structure Wy where
 key:K2
 QN:Option (K2×Int)
noncomputable def cU(ps:List ah)(mn:List ao)(k:K2):List (K2×Int):=
 match fU ps k.1 with
 |none=>[]
 |some p=>match p.aI[k.2.toNat]? with
  |none=>[]
  |some st=>(keysOf p mn st.fills).map λt=>((t.1,t.2.1),t.2.2)
noncomputable def r_(acc:List Wy)(k:K2):Bool:=acc.any λw=>decide (w.key=k)
noncomputable def dt(b:K2)(acc:List Wy)(t:K2×Int):List Wy:=if r_ acc t.1=true then acc else acc++[⟨t.1,some (b,t.2)⟩]
noncomputable def eW(ps:List ah)(mn:List ao)(acc:List Wy)(k:K2):List Wy:=(cU ps mn k).foldl (dt k) acc
noncomputable def reachF(ps:List ah)(mn:List ao):Nat->Nat->List Wy->List Wy
 |0,_,acc=>acc
 |n+1,d,acc=>match acc[d]? with
  |none=>acc
  |some w=>reachF ps mn n (d+1) (eW ps mn acc w.key)
noncomputable def aC(ps:List ah):List K2:=ps.flatMap λp=>(List.range p.aI.length).map λi:Nat=>(p.name,(i:Int))
noncomputable def bV(ps:List ah)(mn:List ao)(r:K2):List Wy:=reachF ps mn ((aC ps).length+1) 0 [⟨r,none⟩]
structure C7 where
 t:Addr
 k:Addr
 b:Addr
 w:Wy
noncomputable def kT(k:K2):List V:=[.str k.1,.int k.2]
structure C7.At(H:Hp)(r:C7):Prop where
 k:H r.k=some (.tup (kT r.w.key))
 n:r.w.QN=none->H r.t=some (.tup [.ref r.k,.bj,.bj])
 s:∀y a,r.w.QN=some (y,a)->H r.t=some (.tup [.ref r.k,.ref r.b,.int a])/\H r.b=some (.tup (kT y))
structure Bz(H:Hp)(L dN:Addr)(ps:List ah)(mn:List ao):Prop where
 Nh:eA H L ps
 tab:Tab H dN mn
 nd:(ps.map ah.name).Nodup
 cy:ps.length<=100
 all:(aC ps).length<=1000
 aK:∀p∈ps,p.aK.length<=61/\(p.aK.map aj.name).Nodup
 QK:∀p∈ps,∀st∈p.aI,st.fills.length<=61/\∀f∈st.fills,(bJ p mn f=none->f.soft=true)/\∀r,bJ p mn f=some r->(r.1,r.2.1)∈aC ps
def Ld:Sp:=λvs H Q _=>∃(L dN R:Addr) (ps:List ah) (mn:List ao) (r:K2),vs=[.ref L,.ref dN,.ref R]/\H R=some (.tup (kT r))/\r∈aC ps/\Bz H L dN ps mn/\
 ∀(l:Addr) (rows:List C7) (H':Hp),ay H H'->H' l=some (.lst (rows.map λr=>V.ref r.t))->(∀r∈rows,r.At H')->rows.map C7.w=bV ps mn r->H l=none->Q (.ref l) H'
def HK:Sp:=λvs H Q _=>∃(L dN:Addr) (e:Str) (ps:List ah) (mn:List ao) (m:ao),vs=[.ref L,.ref dN,.str e]/\Bz H L dN ps mn/\aB mn e=some m/\(m.a,m.b)∈aC ps/\
 ∀(l:Addr) (qs:List (Addr×aH)) (H':Hp),ay H H'->H l=none->uP H' l qs->qs.map (·.2)=(bV ps mn (m.a,m.b)).map Wy.key->Q (.ref l) H'
noncomputable def cu(ls:List aH)(rs:List (Int×Int)):List (List Key×V):=(ls.zip rs).map λx=>([.inr x.1.1,.inl x.1.2],.int x.2.1)
structure pQ(ps:List ah)(e:Str)(ms:List ao)(m:ao)(ls:List aH)(ss:List aL)(af:List (List Key×V)):Prop where
 nm:eQ (bQ ps) ms
 ent:aB ms e=some m
 ord:jT ps ((bV ps ms (m.a,m.b)).map Wy.key) ls
 aI:ls.map (gr ps)=ss.map some
 af:af=cu ls (bI 0 ss)
structure zW(ps:List ah):Prop where
 aK:∀p∈ps,∀n∈p.aK,0<=n.st/\n.st<p.aI.length/\(n.sort=cg\/n.sort=cO\/n.sort=cS)
 aI:∀p∈ps,∀s∈p.aI,1<=s.step/\s.step<=65536/\(s.kind=Str.ofString "code" \/ s.kind=Str.ofString "data")
 tw:∀p∈ps,∀q∈ps,p.name≠q.name->∀x∈p.aK,∀y∈q.aK,x.sort=cg->y.sort=cg->x.name≠y.name
 all:(aC ps).length<=62
def fA(H H':Hp):Prop:=∀b o,(∀ps,o≠.iH ps)->H b=some o->H' b=some o
def Dn(A:Ad):Sp:=λvs H Q _=>∃(g s:Addr) (e:Str) (G:List ah) (xs:List (Addr×List ah)),vs=[.ref g,.ref s,.str e]/\Q4 H g s e G xs/\zW (G++flat xs)/\c7 A.aN Kn Kc H/\c7 A.br xB wV H/\A.br≠A.aN/\
 ∀(d:Addr) (T:List Co) (rs:List (Str×Str×Str)) (qs:List ah) (ms:List ao) (m:ao) (ls:List aH) (ss:List aL) (af:List (List Key×V)) (H':Hp),fA H H'->c7 A.aN Kn Kc H'->c7 A.br xB wV H'->H d=none->H' d=some (.dT af)->jW (G.map ar) ((flat xs).map ar) e T rs->fc (G.map ar) ((flat xs).map ar) e T->(qs.map ar).Perm (G.map ar++T)->pQ qs e ms m ls ss af->Q (.ref d) H'
noncomputable def dX(ps:List ah):List (Key×V):=ps.map λp=>(.inr p.name,p.v)
structure A4(H:Hp)(l:Addr)(ks:List (Addr×K2)):Prop where
 top:H l=some (.lst (ks.map λk=>V.ref k.1))
 at_:∀k∈ks,H k.1=some (.tup (kT k.2))
def IV:Sp:=λvs H Q _=>∃(S a0:Addr) (e:Str) (G:List ah) (xs:List (Addr×List ah)),vs=[.ref S,.str e]/\v5 H S ((a0,G)::xs)/\BG G (flat xs) e/\
 ∀(d:Addr) (Tp:List ah) (rs:List (Str×Str×Str)) (H':Hp),ay H H'->H d=none->H' d=some (.dK (dX (G++Tp)))->(∀p∈Tp,p∈flat xs)->jW (G.map ar) ((flat xs).map ar) e (Tp.map ar) rs->fc (G.map ar) ((flat xs).map ar) e (Tp.map ar)->Q (.ref d) H'
structure Jw(H:Hp)(d:Addr)(ps:List ah):Prop where
 top:H d=some (.dK (dX ps))
 at_:∀p∈ps,p.At H
 nd:(ps.map ah.name).Nodup
 uW:∀p∈ps,n_ p
 cy:ps.length<=14
def BR:Sp:=λvs H Q _=>∃(d:Addr) (ps:List ah),vs=[.ref d]/\Jw H d ps/\zW ps/\
 ∀(dN:Addr) (ms:List ao) (H':Hp),ay H H'->H dN=none->Tab H' dN ms->eQ (bQ ps) ms->Q (.ref dN) H'
def G5:Sp:=λvs H Q _=>∃(p:ah) (dN:Addr) (f:ax) (mn:List ao),vs=[p.v,.ref dN,f.v]/\p.At H/\n_ p/\f.At H/\Tab H dN mn/\
 (∀a b c,bJ p mn f=some (a,b,c)->∀q H',ay H H'->H' q=some (.tup [.str a,.int b,.int (c+f.add)])->Q (.ref q) H')/\(bJ p mn f=none->∀H',ay H H'->Q .bj H')
def DK:Sp:=λvs H Q _=>∃(d dN R:Addr) (ps:List ah) (mn:List ao) (r:K2),vs=[.ref d,.ref dN,.ref R]/\Jw H d ps/\Tab H dN mn/\H R=some (.tup (kT r))/\r∈aC ps/\(aC ps).length<=62/\(∀k∈aC ps,∀t∈cU ps mn k,t.1∈aC ps)/\
 ∀(l:Addr) (ks:List (Addr×K2)) (H':Hp),ay H H'->H l=none->A4 H' l ks->ks.map (·.2)=(bV ps mn r).map Wy.key->Q (.ref l) H'
def F1:Sp:=λvs H Q _=>∃(d l:Addr) (ps:List ah) (ks:List (Addr×K2)),vs=[.ref d,.ref l]/\Jw H d ps/\zW ps/\A4 H l ks/\ks.length<=62/\(ks.map (·.2)).Nodup/\(∀k∈ks,(gr ps k.2).isSome=true)/\
 ∀(q dd:Addr) (n:Int) (ls:List aH) (ss:List aL) (H':Hp),ay H H'->H dd=none->H' q=some (.tup [.ref dd,.int n])->jT ps (ks.map (·.2)) ls->ls.map (gr ps)=ss.map some->H' dd=some (.dT (cu ls (bI 0 ss)))->Q (.ref q) H'
def BV:Sp:=λvs H Q _=>∃n:Int,vs=[.int n]/\Q (.bl true) H
def AR:Sp:=λvs H Q _=>∃(a b:Addr) (af:List (List Key×V)),vs=[.ref a,.ref b]/\H a=some (.dT af)/\Rd H b (.dT af)/\a≠b/\(af.map (·.1)).Nodup/\(∀x∈af,∃i:Int,x.2=.int i)/\af.length<=100/\
 ∀H',(∀x o,x≠b->H x=some o->H' x=some o)->Rd H' b (.dT af)->Q (.bl true) H'
def uu(K:Wf)(tn tb:Addr):Sp:=λvs H Q _=>∃(a:Addr) (ns:List Int),vs=[.ref a]/\aD K H a (ns.map V.int)/\ns.length<=63/\H tn=some (.iH #[])/\H tb=some (.iH #[])/\tn≠tb/\∀H',Q (.bl true) H'
structure LS(A:Ad)(H:Hp)(S D a0 b0:Addr)(e:Str)(G G':List ah)(xs ys:List (Addr×List ah)):Prop where
 u7:v5 H S ((a0,G)::xs)
 hand:v5 H D ((b0,G')::ys)
 cp:((b0,G')::ys).map (λy=>y.2.map ar)=((a0,G)::xs).map λx=>x.2.map ar
 bs:BG G (flat xs) e
 bh:BG G' (flat ys) e
 js:zW (G++flat xs)
 jh:zW (G'++flat ys)
 tt:c7 A.aN Kn Kc H
 tn:c7 A.br xB wV H
 ne:A.br≠A.aN
def lB(A:Ad):TS:=λE σ H=>∃(b0 b1 b2 b3:Option V) (S D a0 c0:Addr) (e:Str) (G G':List ah) (xs ys:List (Addr×List ah)),σ=[b0,b1,b2,b3,some (.ref S),some (.str e),some (.ref D),none,none,none,none,none]/\LS A H S D a0 c0 e G G' xs ys/\∀H',E.rt (.bl true) H'
def lC(K:Wf)(A:Ad):TS:=λE σ H=>∃(b0 b1 b2 b3 b7 b8:Option V) (S D a0 c0 dd:Addr) (e:Str) (G G' Tp:List ah) (xs ys:List (Addr×List ah)) (rs:List (Str×Str×Str)) (ms:List ao) (m:ao) (ls:List aH) (ss:List aL) (af:List (List Key×V)),σ=[b0,b1,b2,b3,some (.ref S),some (.str e),some (.ref D),b7,b8,some (.ref dd),none,none]/\LS A H S D a0 c0 e G G' xs ys/\jW (G.map ar) ((flat xs).map ar) e (Tp.map ar) rs/\fc (G.map ar) ((flat xs).map ar) e (Tp.map ar)/\pQ (G++Tp) e ms m ls ss af/\Rd H dd (.dT af)/\∀H',E.rt (.bl true) H'
def lD(K:Wf)(A:Ad):TS:=λE σ H=>∃(b0 b1 b2 b3 b7 b8 b10:Option V) (S D a0 c0 dd:Addr) (e:Str) (G G' Tp:List ah) (xs ys:List (Addr×List ah)) (rs:List (Str×Str×Str)) (ms:List ao) (m:ao) (ls:List aH) (ss:List aL) (af:List (List Key×V)),σ=[b0,b1,b2,b3,some (.ref S),some (.str e),some (.ref D),b7,b8,some (.ref dd),b10,none]/\LS A H S D a0 c0 e G G' xs ys/\jW (G.map ar) ((flat xs).map ar) e (Tp.map ar) rs/\fc (G.map ar) ((flat xs).map ar) e (Tp.map ar)/\pQ (G++Tp) e ms m ls ss af/\Rd H dd (.dT af)/\∀H',E.rt (.bl true) H'
def Sz:Array Lean.Ident:=("Rv HE j6 tC yt TQ mB Q7 Rr QY Tw RV Q8 Jt tB QT SN J6 Mx Eb T7 HH PH Qc P7 R5 RC MB Qe Nt Tx L2.start List.set List.map List.length List.replicate List.cons_append List.nil_append List.append_nil cK bK M7 rI rU RD Lf qD O4 Pc QL Kr PN Oe Q1 QD RT KP L_ Lm Sb Iu PJ Lh Qx QE Rk Ko SJ SD SK Ua Sw TY Uz Uy Uw UC UD Uv Uu UB UE UH Ti Ue TZ Ug KN OE Ow Um Nb Pa Qb Nj MW Lx Na M_ Me d3 Sv zK QF Ro Ux PQ KU Sd R6 S6 Uo TK SS QQ rJoin Tn TH Q6 R4 SO Uk Tf Ta Tq TX UG Ur List.getElem?_cons_zero List.getElem?_cons_succ Option.some.injEq V.int.injEq V.str.injEq V.bl.injEq V.ref.injEq V.ty.injEq List.cons.injEq exists_eq_left' exists_eq_left exists_eq' and_assoc if_true if_false Bool.not_false Bool.not_true Bool.not_not Bool.false_eq_true exists_and_left and_true true_and List.set_cons_zero List.set_cons_succ Option.join_some false_and or_false false_or exists_false AX A6 xS Be E2 zy Ba GP Dt ND AW Cd xF Mv Bs BA Bi EV A9 w_ MA AJ C_ AU Jk Ld HI C3 Lg Jo HK Dn xQ Jj F7 xj Bu IV BR G5 DK F1 BV AR Qt vE Fq NQ I0 LO Rb Up RP PU Nz MX L9 SX LI K_ O5 M0 EL Mm Qx RO R_ LB Ln Ends.nx Nat.reduceSub Nat.reduceAdd".splitOn " ").toArray.map λs=>Lean.mkIdent s.toName
local macro_rules | `(tactic| walk_at "rdd") => do
 let a<-Sz.mapM λx=>`(Lean.Parser.Tactic.simpLemma| $x:ident)
 `(tactic| try dsimp only [$a,*])
local macro_rules | `(tactic| walk_at "rd") => do
 let a<-Sz.mapM λx=>`(Lean.Parser.Tactic.simpLemma| $x:ident)
 let a:=a.push (<-`(Lean.Parser.Tactic.simpLemma| reduceCtorEq))
 `(tactic| (walk_at "rdd";try simp only [$a,*]))
section
variable{P:Program}{w:World}{K:Wf}{mg:So}{base:Heap}{A:Ad}
theorem nC(c k:Int)(n:Nat):j_ c k (n+1)=j_ c k n++(⟨#[sgn (jL c k n)]⟩:Str):=by
 show(⟨_⟩:Str)=⟨_⟩;congr 1;rw[List.range_succ,aY];apply Array.ext';unfold j_;simp
theorem fE(c k:Int)(n:Nat):(j_ c k n).length=n:=by
 show((List.range n).map _).toArray.size=n;simp
theorem Gg(h0:0<=i)(h1:i<37):iI signs.cps.toList i=some (sgn i):=by
 have hl:signs.cps.toList.length=37:=by decide +kernel
 obtain⟨v,hv,_⟩:=wZ (xs:=signs.cps.toList) (i:=i) (by omega) (by omega);unfold sgn;rw[hv];rfl
theorem eY(c k:Int)(j:Nat):0<=jL c k j/\jL c k j<37:=by
 unfold jL;generalize c/((j:Int)+3)+(j:Int)*(j:Int)+k*(if decide ((j:Int)=rX c)=true then 1 else 0)=x;split<;>omega
theorem ML(h0:0<=i)(h1:i<37):sgn i<16 ^ 8:=by
 have hl:signs.cps.toList.length=37:=by decide +kernel
 obtain⟨v,hv,hm⟩:=wZ (xs:=signs.cps.toList) (i:=i) (by omega) (by omega);unfold sgn;rw[hv];have all:signs.cps.toList.all (λc=>decide (c<16 ^ 8))=true:=by decide +kernel
 exact of_decide_eq_true (Ol.mp all v hm)
theorem BE(c k:Int)(hk:0<=k):(nameOf c k).length<=16/\Sg (nameOf c k):=by
 unfold nameOf;refine⟨?_,λx hx=>?_⟩
 ·rw[fE];unfold fb;split<;>omega
 ·unfold j_ at hx;simp only[List.mem_toArray,List.mem_map,List.mem_range]at hx;obtain⟨j,_,rfl⟩:=hx;exact ML (eY c k j).1 (eY c k j).2
theorem zY(T:Txt K mg A):bg P w K mg base dm 1 A.Od A.uF ["_law_script", "_law_k"] (AX K):=by
 refine T.zd.ok MD (λvs H Q E h=>?_) (λcdv Ar outer s H vs Q E hr h=>?_)
 ·obtain⟨a,ns,k,rfl,_⟩:=h;rfl
 ·obtain⟨a,ns,i,rfl,hS,hl,h0,k⟩:=h;refine⟨_,(aQ (bq (fF jS (pv 1) (eh (j8 (K:=K) rfl) (by rfl) T.dJ dj (aq (pv 0) aa)) (aS _)) (bf (aJ (bT (dR (K:=K) rfl) (pv 0) (pv 1) (λ_ _=>rfl)))) cI) (bf (aJ ag))),?_⟩;walk_at "rd";refine⟨ns.length,.inl ⟨_,hS,by simp⟩,dM (λhi=>?_) (λ_=>k 0)⟩;have hi:=of_decide_eq_true hi;obtain⟨v,hv,hm⟩:=wZ (xs:=ns.map V.int) (i:=i) (by simp;omega) (by simpa using hi);obtain⟨j,_,rfl⟩:=aM.mp hm;exact⟨_,hS,_,hv,k j⟩
theorem nj(T:Txt K mg A):bg P w K mg base dm 1 A.Of A.qJ ["_law_cell", "_law_k"] A6:=by
 refine T.y6.ok eL (λvs H Q E h=>?_) (λcdv Ar outer s H vs Q E hr h=>?_)
 ·obtain⟨c,k,rfl,_⟩:=h;rfl
 ·obtain⟨c,i,rfl,k⟩:=h;refine⟨_,(aQ (pS 2 eL.nd a5) (aQ (pS 3 eL.nd (aF dw ag (aF bB (pv 0) ag))) (aQ (pS 4 eL.nd (aF bB (aF b_ (pv 0) ag) (pv 3))) (aQ (bq (fF dZ (aF bB (aF b_ (pv 0) ag) ag) ag (aS _)) (aQ (pS 3 eL.nd (aF dw ag (aF bB (pv 1) ag))) (bf (pS 4 eL.nd ag))) cI) (aQ (pS 5 eL.nd a5) (aQ (pF (nW rfl T.iR (aq (pv 3) aa)) (pn 6 eL.nd) (aQ (pS 7 eL.nd (aF jv ag (aF iD ag (cq n9 (by rfl) T.kY qA (aq (jg dZ (pv 6) ag (aS _)) aa))))) (aQ (pS 8 eL.nd (aF dw (aF dw (aF b_ (pv 0) (aF dw (pv 6) ag)) (aF iD (pv 6) (pv 6))) (aF iD (pv 1) (cq n9 (by rfl) T.kY qA (aq (jg dZ (pv 6) (pv 4) (aS _)) aa))))) (bf (pS 5 eL.nd (aF wC (pv 5) (bT K9 (pv 2) (aF bB (pv 8) (pv 7)) (λ_ _=>rfl)))))))) (bf (aJ (pv 5))))))))),?_⟩;walk_at "rd";refine⟨by decide,⟨by decide,by decide⟩,by omega,⟨by decide,by decide⟩,by decide,dM (λhc=>⟨by decide,?_⟩) (λhc=>?_)⟩
  ·have hc:=of_decide_eq_true hc;have e1:fb c i=1+i%16:=by unfold fb;rw[if_pos hc]
   have e2:rX c=16:=by unfold rX;rw[if_pos hc]
   refine AQ.of (by omega) (by omega) (λn σ H'=>H'=H/\∃b6 b7 b8,σ=[some (.int c),some (.int i),some (.str signs),some (.int (1+i%16)),some (.int 16),some (.str (j_ c i n)),b6,b7,b8]) ⟨rfl,_,_,_,rfl⟩ ?_ ?_
   ·rintro n σ H' hn ⟨rfl,b6,b7,b8,rfl⟩;walk_at "rd";have lo:=eY c i n;have at_:=Gg lo.1 lo.2;unfold jL at at_ lo;rw[e2]at at_ lo;exact⟨.inl ⟨by decide,by decide⟩,⟨by omega,by omega⟩,.inl ⟨by omega,by omega⟩,.inr (by split<;>exact⟨by decide,by decide⟩),by split<;>decide,by rw[sizeLine_eq];decide +kernel,_,at_,by rw[fE,sizeLine_eq];show n+1<=_;omega,by rw[nC];unfold jL;rw[e2]⟩
   ·rintro σ H' ⟨rfl,b6,b7,b8,rfl⟩;walk_at "rd";rw[<-e1];exact k
  ·have hc:¬c/256%3=0:=by simpa using hc
   have e1:fb c i=1+c%16:=by unfold fb;rw[if_neg hc]
   have e2:rX c=c/16%(1+c%16):=by unfold rX;rw[if_neg hc]
   refine AQ.of (by omega) (by omega) (λn σ H'=>H'=H/\∃b6 b7 b8,σ=[some (.int c),some (.int i),some (.str signs),some (.int (1+c%16)),some (.int (c/16%(1+c%16))),some (.str (j_ c i n)),b6,b7,b8]) ⟨rfl,_,_,_,rfl⟩ ?_ ?_
   ·rintro n σ H' hn ⟨rfl,b6,b7,b8,rfl⟩;walk_at "rd";have lo:=eY c i n;have at_:=Gg lo.1 lo.2;unfold jL at at_ lo;rw[e2]at at_ lo;exact⟨.inl ⟨by decide,by decide⟩,⟨by omega,by omega⟩,.inl ⟨by omega,by omega⟩,.inr (by split<;>exact⟨by decide,by decide⟩),by split<;>decide,by rw[sizeLine_eq];decide +kernel,_,at_,by rw[fE,sizeLine_eq];show n+1<=_;omega,by rw[nC];unfold jL;rw[e2]⟩
   ·rintro σ H' ⟨rfl,b6,b7,b8,rfl⟩;walk_at "rd";rw[<-e1];exact k
theorem N3(T:Txt K mg A):bg P w K mg base dm 2 A.NA A.qt ["_law_cell", "_law_names_by"] xS:=by
 refine T.Al.ok ip (λvs H Q E h=>?_) (λcdv Ar outer s H vs Q E hr h=>?_)
 ·obtain⟨c,n,rfl,_⟩:=h;rfl
 ·obtain⟨c,n,rfl,k⟩:=h;refine⟨_,(aQ (pS 2 ip.nd (aF bB (pv 0) ag)) (aQ (pS 3 ip.nd (aF b_ (pv 0) ag)) (aQ (pS 4 ip.nd (wR (jg dZ (aF bB (aF b_ (pv 3) ag) ag) ag (aS _)) (xV (jg jS (aF bB (pv 3) ag) ag (aS _))))) (aQ (pS 5 ip.nd (aF jv (aF bB (aF b_ (pv 3) ag) ag) ag)) (aQ (bq (fF dZ (aF bB (aF b_ (pv 3) ag) ag) ag (aS _)) (bf (pS 5 ip.nd (aF jv (aF bB (aF iD (aF b_ (pv 3) ag) ag) ag) ag))) cI) (aQ (pS 6 ip.nd (bT (dR (K:=K) rfl) (a9 (aq a5 (aq a5 (aq a5 (aq a5 (aq a5 aa)))))) (aF bB (pv 3) ag) (λ_ _=>rfl))) (aQ (bq (fF dZ (pv 2) ag (aS _)) (bf (aJ fW)) cI) (bf (aJ (aX (aq (pv 6) (aq (pC (nj T) hr T.lq T.jO T.jY (aq (pv 1) (aq (aF bB (aF b_ (pv 3) ag) ag) aa))) (aq (pv 5) (aq (pv 4) aa)))))))))))))),?_⟩;walk_at "rd";have five:∀(p:Addr) (sf:Bool) (add:Int),H p=none->(sf=true->c/9%5<3) -> -2147483648<=add->add<2147483648->
    (0:Int)<5/\∃x,aD K (upd H p (HO.lst [V.str (Str.ofString "whole"),V.str (Str.ofString "high"),V.str (Str.ofString "low"),V.str (Str.ofString "near"),V.str (Str.ofString "split")])) p x/\
     ∃x_1,iI x (c/9%5)=some x_1/\
      if decide (c%9=2)=true then Q V.bj (upd H p (HO.lst [V.str (Str.ofString "whole"),V.str (Str.ofString "high"),V.str (Str.ofString "low"),V.str (Str.ofString "near"),V.str (Str.ofString "split")]))
      else NS (c/9) 5/\(0:Int)<12/\4<=sizeLine/\∀(p_1:Addr),
       upd H p (HO.lst [V.str (Str.ofString "whole"),V.str (Str.ofString "high"),V.str (Str.ofString "low"),V.str (Str.ofString "near"),V.str (Str.ofString "split")]) p_1=none->
       Q (V.ref p_1) (upd (upd H p (HO.lst [V.str (Str.ofString "whole"),V.str (Str.ofString "high"),V.str (Str.ofString "low"),V.str (Str.ofString "near"),V.str (Str.ofString "split")])) p_1 (HO.tup [x_1,V.str (nameOf n (c/9/5%12)),V.int add,V.bl sf])):=by
   intro p sf add hp hsf h1 h2;refine⟨by decide,_,aD.of aE,?_⟩;obtain⟨z,hz,hT,hS⟩:∃z:Str,iI [V.str (Str.ofString "whole"),V.str (Str.ofString "high"),V.str (Str.ofString "low"),V.str (Str.ofString "near"),V.str (Str.ofString "split")] (c/9%5)=some (V.str z)/\S4 z/\(c/9%5<3->z=Str.ofString "whole" \/ z=Str.ofString "high" \/ z=Str.ofString "low"):=by
    have hd:c/9%5=0\/c/9%5=1\/c/9%5=2\/c/9%5=3\/c/9%5=4:=by omega
    rcases hd with e|e|e|e|e<;>rw[e]
    ·exact⟨_,rfl,.inl rfl,λ_=>.inl rfl⟩
    ·exact⟨_,rfl,.inr (.inl rfl),λ_=>.inr (.inl rfl)⟩
    ·exact⟨_,rfl,.inr (.inr (.inl rfl)),λ_=>.inr (.inr rfl)⟩
    ·exact⟨_,rfl,.inr (.inr (.inr (.inl rfl))),λh=>absurd h (by decide)⟩
    ·exact⟨_,rfl,.inr (.inr (.inr (.inr rfl))),λh=>absurd h (by decide)⟩
   refine⟨_,hz,dM (λ_=>(k _ λb o e=>?_).1) (λ_=>⟨⟨by decide,by decide⟩,by decide,by walk_at "s", λq hq=>?_⟩)⟩
   ·rw[ae (bH e hp)];exact e
   ·have hqp:q≠p:=λe=>by rw[e,aE]at hq;cases hq
    have hq':H q=none:=by rw[ae hqp]at hq;exact hq
    refine(k _ λb o e=>?_).2 ⟨q,0,z,nameOf n (c/9/5%12),add,sf⟩ ⟨hT,⟨_,by omega,by omega,rfl⟩,by show(0:Int)<=0;decide,by show(0:Int)<(1:Nat);decide,h1,h2,λh=>hS (hsf h)⟩ aE hq';rw[ae (bH e hq'),ae (bH e hp)];exact e
  refine⟨by decide,⟨by decide,by decide⟩,⟨by decide,by decide⟩,by decide,dM (λ_=>⟨by decide,⟨by decide,by decide⟩,by decide,⟨by decide,by decide⟩,by decide,dM (λ_=>⟨⟨by decide,by decide⟩,.inr ⟨by decide,by decide⟩,by decide,by walk_at "s", λp hp=>?_⟩) (λ_=>⟨by rw[sizeLine_eq];decide,λp hp=>?_⟩)⟩)
   (λhs=>⟨⟨by decide,by decide⟩,by decide,⟨by decide,by decide⟩,by decide,dM (λ_=>⟨⟨by decide,by decide⟩,.inr ⟨by decide,by decide⟩,by decide,by walk_at "s", λp hp=>?_⟩) (λ_=>⟨by rw[sizeLine_eq];decide,λp hp=>?_⟩)⟩)⟩
  ·refine five p _ _ hp (λh=>of_decide_eq_true h) ?_ ?_<;>omega
  ·refine five p _ _ hp (λh=>of_decide_eq_true h) ?_ ?_<;>omega
  ·refine five p _ _ hp (λh=>absurd h (by decide)) ?_ ?_<;>omega
  ·refine five p _ _ hp (λh=>absurd h (by decide)) ?_ ?_<;>omega
theorem aU(h:H p=none):ay H (upd H p o):=λb u e=>by rw[ae (bH e h)];exact e
theorem cG(h:upd H p o q=none):q≠p/\H q=none:=by
 have n:q≠p:=λe=>by rw[e,aE]at h;cases h
 exact⟨n,by rw[ae n]at h;exact h⟩
theorem eI{α:Type}{xs:List α}{x:α}:iI (xs++[x]) (-1)=some x:=by
 unfold iI Hv;rw[if_neg (by decide),if_pos (by simp;omega)];show(xs++[x])[(-1+((xs++[x]).length:Int)).toNat]?=some x;have e:(-1+((xs++[x]).length:Int)).toNat=xs.length:=by simp;omega
 rw[e];simp
theorem yh{z:Str}{xs:List Str}:Nl (.str z) (xs.map V.str)=true↔z∈xs:=by
 unfold Nl;rw[GF,lP];constructor
 ·rintro⟨y,hy,e⟩;have:y=z:=by simpa [Function.comp,Gx] using e
  exact this▸hy
 ·intro h;exact⟨z,h,by simp[Function.comp,Gx]⟩
theorem Ja:∃z:Str,iI [V.str (Str.ofString "tell"),V.str (Str.ofString "weak"),V.str (Str.ofString "own")] (c%3)=some (V.str z)/\isSort z:=by
 have hd:c%3=0\/c%3=1\/c%3=2:=by omega
 rcases hd with e|e|e<;>rw[e]
 ·exact⟨_,rfl,.inl rfl⟩
 ·exact⟨_,rfl,.inr (.inl rfl)⟩
 ·exact⟨_,rfl,.inr (.inr rfl)⟩
theorem Mw(m:Nat):HT.sIx (m+1) (m+1) (some (-1))=m:=by
 unfold HT.sIx;simp;try omega
noncomputable def gO:Option HO->D
 |some (.tup [.str n,.str s])=>.tup [.str n,.str s]
 |_=>.bj
noncomputable def iu(n:aj):Option HO:=some (.tup [.str n.name,.str n.sort])
noncomputable def Nw(p:ah)(z s:Str):Bool:=p.aK.any λn=>decide (n.name=z)&&decide (n.sort=s)
theorem HY{H:Hp}{as:List Addr}{p:ah}{z s:Str}(e:as.map H=p.aK.map iu):(as.any λa=>deq (gO (H a)) (.tup [.str z,.str s]))=Nw p z s:=by
 have h:(as.any λa=>deq (gO (H a)) (.tup [.str z,.str s]))=(as.map H).any λo=>deq (gO o) (.tup [.str z,.str s]):=by rw[GF];rfl
 rw[h,e,GF];unfold Nw;congr 1;funext n;show deq (.tup [.str n.name,.str n.sort]) (.tup [.str z,.str s])=_;simp only[deq,deqL,Bool.and_true];by_cases a:n.name=z<;>by_cases b:n.sort=s<;>simp[a,b]
theorem iK{H:Hp}{as:List Addr}{ns:List aj}(e:as.map H=ns.map iu){a:Addr}(ha:a∈as):∃n∈ns,H a=iu n:=by
 have h:H a∈ns.map iu:=by rw[<-e];exact aM.mpr ⟨a,ha,rfl⟩
 obtain⟨n,hn,q⟩:=aM.mp h;exact⟨n,hn,q.symm⟩
theorem m9{H H':Hp}{as:List Addr}{ns:List aj}(e:as.map H=ns.map iu)(s:∀a∈as,∀o,H a=some o->H' a=some o):as.map H'=ns.map iu:=by
 rw[<-e];refine xq λa ha=>?_;obtain⟨n,_,q⟩:=iK e ha;rw[s a ha _ q,q];rfl
theorem eR(h:H0 L=none)(e:ay H0 H):ay H0 (upd H L o):=λb u q=>by rw[ae (bH q h)];exact e b u q
theorem N2(T:Txt K mg A):bg P w K mg base dm 2 A.Oh A.qB ["_law_pieces", "_law_cell", "_law_names_by", "_law_strict"] (Be K):=by
 refine T.zM.ok jF (λvs H Q E h=>?_) (λcdv Ar outer s H vs Q E hr h=>?_)
 ·obtain⟨L,c,n,ps,p,ss,st,rfl,_⟩:=h;rfl
 ·obtain⟨L,c,n,ps,p,ss,st,rfl,hP,hst,b1,b2,b3,b4,b5,k0,k1⟩:=h
  refine⟨_,(aQ (pS 4 jF.nd (bT (dR (K:=K) rfl) (pv 0) (l7 iB ag) (λ_ _=>rfl))) (aQ (pS 5 jF.nd (pC (nj T) hr T.lq T.jO T.jY (aq (pv 2) (aq (aF bB (aF b_ (pv 1) ag) ag) aa)))) (aQ (bq (fF (AA (K:=K) rfl) (pv 5) (cx (gu ["_law_row"]) rfl (eU (K:=K) rfl (tx K (pv 4))) (λ_ _ _=>⟨(pn 0 (by walk_at "n")),bY,(tx K (pv 0))⟩)) (by with_unfolding_all rfl)) (bf qG) cI) (aQ (pS 6 jF.nd (bT (dR (K:=K) rfl) (a9 (aq a5 (aq a5 (aq a5 aa)))) (aF bB (pv 1) ag) (λ_ _=>rfl))) (aQ (pF (eU (K:=K) rfl (c9 (iS (K:=K) rfl) (pv 0) eV (dI (l7 iB ag)))) (pn 7 jF.nd) (bf (bq (PW.pt (gE (fF dZ (pv 6) a5 (aS _)) (gE (ir (gD (pv 3))) (fR (fF (Jg hr.units (K:=K) rfl) (aX (aq (pv 5) (aq a5 aa))) (cx (gu ["_law_row"]) rfl (eU (K:=K) rfl (tx K (pv 7))) (λ_ _ _=>⟨(pn 0 (by walk_at "n")),bY,(c9 (i5 (K:=K) rfl) (pv 0) eV (dI ag))⟩)) (by with_unfolding_all rfl)))))) (bf (pS 6 jF.nd a5)) cI))) (bf (dY (cJ (tx K (pv 4)) (aq (aX (aq (pv 5) (aq (pv 6) (aq (aF jv (eh (j8 (K:=K) rfl) (by rfl) T.dJ dj (aq (tx K (pv 4)) aa)) ag) (aq (eh (j8 (K:=K) rfl) (by rfl) T.dJ dj (aq (tx K (bT (dR (K:=K) rfl) (tx K (pv 4)) (l7 iB ag) (λ_ _=>rfl))) aa)) aa))))) aa))))))))),?_⟩
  walk_at "rd";have hp:=hP.at_ p (by simp);refine⟨_,aD.of hP.top,V.ref p.t,by rw[aY];exact eI,⟨by decide,by decide⟩,by decide,p.t,rfl,_,aR.of hp.top,_,rfl,?_⟩;refine cD.of (by rw[az,sizeLine_eq];omega) (aD.of hp.nl) (λD i ys H'=>ys=(p.aK.take i).map (λm=>V.str m.name)/\H'=upd H D (.lst ys)) (λD hD=>⟨rfl,rfl⟩) (λD i ys H' hD hi ⟨e1,e2⟩=>?_) (λD i x ys H' hD hx ⟨e1,e2⟩=>?_) (λD ys H' hD ⟨e1,e2⟩=>?_)
  ·subst e2;refine⟨aD.of (by rw[ae (bH hp.nl hD)];exact hp.nl),aE,?_⟩;rw[e1,az];exact List.length_take_le ..
  ·subst e2;walk_at "0";obtain⟨m,hm,rfl⟩:=d_.mp hx;have ma:=hp.ns m (c_ hm);walk_at "rd";refine⟨.no .nil,_,aR.of (by rw[ae (bH ma hD)];exact ma),_,rfl,aE,?_,zD⟩;rw[e1,fX,hm,aY];rfl
  ·subst e2;have e3:ys=(p.aK.map aj.name).map V.str:=by rw[e1,az,iF,ck];rfl
   refine⟨D,rfl,ys,.inl (aD.of aE),rfl,?_,dM (λ_=>k0 _ (aU hD)) (λhin=>⟨by rw[sizeLine_eq];decide,λp1 h1=>?_⟩)⟩
   ·rw[e3,List.all_map];exact Ol.mpr λ_ _=>rfl
   ·obtain⟨z,hz,hs⟩:=Ja (c:=c);have sm:ay H (upd (upd H D (.lst ys)) p1 (.lst [V.str (Str.ofString "tell"),V.str (Str.ofString "weak"),V.str (Str.ofString "own")])):=(aU hD).trans (aU h1);refine⟨by decide,_,aD.of aE,_,hz,_,aD.of (sm _ _ hP.top),λp2 h2=>?_⟩;have sm2:=sm.trans (aU (o:=HO.lst (gp ((ps++[p]).map ah.v) none (some (-1)))) h2);generalize hH4:upd (upd (upd H D (.lst ys)) p1 (.lst [V.str (Str.ofString "tell"),V.str (Str.ofString "weak"),V.str (Str.ofString "own")])) p2 (HO.lst (gp ((ps++[p]).map ah.v) none (some (-1))))=H4 at *;have hl4:H4 p2=some (HO.lst (gp ((ps++[p]).map ah.v) none (some (-1)))):=by rw[<-hH4];exact aE
    have ecut:gp ((ps++[p]).map ah.v) none (some (-1))=ps.map ah.v:=by
     unfold gp;have e:HT.sIx ((ps++[p]).map ah.v).length ((ps++[p]).map ah.v).length (some (-1))=ps.length:=by
      rw[az,cW,JK];exact Mw ps.length
     have e0:HT.sIx ((ps++[p]).map ah.v).length 0 none=0:=rfl;rw[e,e0,List.drop_zero,Nat.sub_zero,aY,QM (by rw[az];exact bC _),List.take_of_length_le (by rw[az];exact bC _)]
    rw[ecut]at hl4;have tl:z=Str.ofString "tell" \/ z≠Str.ofString "tell" := Decidable.em _;refine dv.of (xs:=ps.map ah.v) (λi σ H'=>∃(zz:Str) (b7:Option V),σ=[some (V.ref L),some (V.int c),some (V.int n),some (V.bl false),some (V.ref p.t),some (V.str (nameOf n (c/9%12))),some (V.str zz),b7]/\ay H4 H'/\isSort zz/\(zz=Str.ofString "tell" -> ∀q∈ps.take i,∀x∈q.aK,x.sort=Str.ofString "tell" -> x.name≠nameOf n (c/9%12))) ⟨z,_,rfl,ay.refl _,hs,λ_ q hq=>by simp at hq⟩ (λi σ H' _ ⟨_,_,_,s5,_⟩=>aD.of (s5 _ _ hl4)) ?_ ?_
    ·rintro i x σ H' hx ⟨zz,b7,rfl,s5,hzz,no⟩;walk_at "0";obtain⟨ot,hot,rfl⟩:=d_.mp hx;have om:=c_ hot;have oa:=((hP.at_ ot (gC _ om)).mono sm2).mono s5;have tk:ps.take (i+1)=ps.take i++[ot]:=by rw[fX,hot];rfl
     walk_at "rd";refine dM (λh1=>?_) (λh1=>⟨s5,hzz,λe=>absurd (decide_eq_true e) h1⟩);have ez:zz=Str.ofString "tell" := of_decide_eq_true h1;refine⟨by rw[sizeLine_eq];decide,λq hq=>⟨_,aR.of (aU hq _ _ oa.top),_,rfl,?_⟩⟩;have sq:=aU (o:=HO.tup [V.str (nameOf n (c/9%12)),V.str (Str.ofString "tell")]) hq;have hqq:upd H' q (HO.tup [V.str (nameOf n (c/9%12)),V.str (Str.ofString "tell")]) q=some (HO.tup [V.str (nameOf n (c/9%12)),V.str (Str.ofString "tell")]):=aE;have oa3:=oa.mono sq;have s53:=s5.trans sq;generalize upd H' q (HO.tup [V.str (nameOf n (c/9%12)),V.str (Str.ofString "tell")])=H3 at *;refine cD.of (xs:=ot.aK.map aj.v) (by rw[az,sizeLine_eq];have:=b5 ot om;omega) (aD.of oa3.nl) (λD i ys H6=>ay H3 H6/\H6 D=some (.lst ys)/\∃as:List Addr,ys=as.map V.ref/\as.map H6=(ot.aK.take i).map iu)
      (λD hD=>⟨aU hD,aE,[],rfl,rfl⟩) ?_ ?_ ?_
     ·rintro D i ys H6 hD hi ⟨s6,hDD,as,rfl,e⟩;refine⟨aD.of (s6 _ _ oa3.nl),hDD,?_⟩;have h:=congrArg List.length e;rw[az,az,jr]at h;rw[az];omega
     ·rintro D i x ys H6 hD hx ⟨s6,hDD,as,rfl,e⟩;walk_at "0";obtain⟨n',hn,rfl⟩:=d_.mp hx;have na:=s6 _ _ (oa3.ns n' (c_ hn));have tk':(ot.aK.take (i+1))=ot.aK.take i++[n']:=by rw[fX,hn];rfl
      walk_at "rd";refine⟨.no .nil,_,aR.of na,λz=>absurd (show HT.sIx 4 4 (some 2)=4 from z.2) (by decide),λq2 hq2=>⟨by rw[ae (bH hDD hq2)];exact hDD,eR hD (s6.trans (aU hq2)),aE,as++[q2],by rw[aY];rfl,?_⟩⟩;rw[tk',aY,aY];congr 1
      ·refine m9 e λa ha o ho=>?_;obtain⟨_,_,q'⟩:=iK e ha;have nD:a≠D:=λz=>by rw[z,hDD]at q';cases q'
       rw[ae nD,ae (bH ho hq2)];exact ho
      ·show [upd (upd H6 q2 _) D _ q2]=[iu n'];rw[ae (Ne.symm (bH hDD hq2)),aE];rfl
     ·rintro D ys H6 hD ⟨s6,hDD,as,rfl,e⟩;walk_at "1";have any:=HY (z:=nameOf n (c/9%12)) (s:=Str.ofString "tell") e;refine⟨D,rfl,as,aD.of hDD,λa=>gO (H6 a),λa ha=>?_,.tup [.str (nameOf n (c/9%12)),.str (Str.ofString "tell")],?_,dM (λh2=>⟨s53.trans s6,.inr (.inl rfl),λe=>absurd e (by decide +kernel)⟩) (λh2=>⟨s53.trans s6,hzz,λ_ y hy x hx hxs hxn=>?_⟩)⟩
      ·obtain⟨n',_,q'⟩:=iK e ha;show Rep K H6 (gO (H6 a)) (V.ref a)/\dep (gO (H6 a))<=20;rw[q'];refine⟨?_,by simp[gO,iu,dep,depL]⟩;simp only[gO,iu,Rep];exact⟨_,_,rfl,aR.of q',by simp[RepL,Rep]⟩
      ·simp only[Rep];exact⟨_,_,rfl,aR.of (s6 _ _ hqq),by simp[RepL,Rep]⟩
      ·rw[tk]at hy;rcases bF.mp hy with hy|hy
       ·exact no ez y hy x hx hxs hxn
       ·rw[bX.mp hy]at hx;rw[any]at h2;exact h2 (lP.mpr ⟨x,hx,by rw[decide_eq_true hxn,decide_eq_true hxs];rfl⟩)
    ·rintro σ H' ⟨zz,b7,rfl,s5,hzz,no⟩;rw[az,iF]at no;have sm2:=sm2.trans s5;walk_at "rd";have hs':=hp.ss st (by rw[hst];simp);refine⟨_,aR.of (sm2 _ _ hp.top),_,rfl,.inl ⟨rfl,_,aD.of (sm2 _ _ hp.nl)⟩,_,aR.of (sm2 _ _ hp.top),_,rfl,p.aI.length,.inl ⟨_,aD.of (sm2 _ _ hp.sl),by simp⟩,_,aR.of (sm2 _ _ hp.top),_,rfl,p.ls,rfl,_,aD.of (sm2 _ _ hp.sl),st.v,(by rw[hst,List.map_append];exact eI),st.t,rfl,_,aR.of (sm2 _ _ hs'.top),_,rfl,st.words.length,.inl ⟨_,aD.of (sm2 _ _ hs'.wd),by simp⟩,by walk_at "s", λm hm=>⟨p.ln,rfl,p.aK.map aj.v,?_,?_,?_⟩⟩
     ·rw[ae (bH (sm2 _ _ hp.nl) hm)];exact sm2 _ _ hp.nl
     ·rw[az,sizeLine_eq];omega
     ·refine k1 ⟨m,nameOf n (c/9%12),zz,(p.aI.length:Int) - 1,st.words.length⟩ _ (sm2.trans (aU hm)) aE ⟨_,by omega,by omega,rfl⟩ (λhn=>hin ?_) hzz ?_ rfl no
      ·rw[e3];exact yh.mpr hn
      ·show(p.aI.length:Int) - 1=ss.length;rw[hst,cW];simp
theorem hU.empty:hU c ⟨t,ls,ln,nm,[],[]⟩:=⟨λs hs=>absurd hs (by simp),λn hn=>absurd hn (by simp),by simp⟩
theorem Drawn.push(d:Drawn c t i ps)(h:ps.length<12):Drawn c t (i+1) (ps++[⟨a,ls,ln,nameOf t ps.length,[],[]⟩]):=by
 refine⟨λp hp=>?_,by rw[cW];simp;omega,?_,?_,List.pairwise_append.mpr ⟨d.tw,by simp,λx hx y hy u hu v hv=>by rw[List.mem_singleton.mp hy]at hv;cases hv⟩⟩
 ·rcases bF.mp hp with z|z
  ·exact d.ok p z
  ·rw[bX.mp z];exact hU.empty
 ·rw[aY,d.names,cW,JK,List.range_succ,aY];rfl
 ·have:=d.size;rw[aY,Lu];simp[ah.size];exact this
theorem Drawn.last(d:Drawn c t i (ps++[p]))(h:hU c p')(hn:p'.name=p.name)(hs:p'.size<=p.size+1)(ht:∀m∈p'.aK,m∈p.aK\/(m.sort=Str.ofString "tell" -> ∀q∈ps,∀x∈q.aK,x.sort=Str.ofString "tell" -> x.name≠m.name)):Drawn c t (i+1) (ps++[p']):=by
 refine⟨λq hq=>?_,by have:=d.cy;simpa using this,?_,?_,?_⟩
 ·rcases bF.mp hq with z|z
  ·exact d.ok q (gC _ z)
  ·rw[bX.mp z];exact h
 ·have:=d.names;simpa [hn] using this
 ·have:=d.size;rw[aY,Lu]at this ⊢;simp at this ⊢;omega
 ·obtain⟨t1,_,t3⟩:=QJ.mp d.tw;refine QJ.mpr ⟨t1,by simp,λx hx y hy u hu v hv h1 h2=>?_⟩;rw[bX.mp hy]at hv;rcases ht v hv with z|z
  ·exact t3 x hx p (by simp) u hu v z h1 h2
  ·exact z h2 x hx u hu h1
theorem Drawn.kZ(d:Drawn c t i (ps++[p])):p.size<=i:=by
 have:=d.size;rw[aY,Lu]at this;simp at this;omega
theorem MH{ps:List ah}{p:ah}(h:p∈ps):p.size<=(ps.map ah.size).sum:=by
 induction ps with
 |nil=>cases h
 |cons q r ih=>
  rw[fH,List.sum_cons];rcases iG.mp h with e|e
  ·rw[e];omega
  ·have:=ih e;omega
theorem Drawn.RS(d:Drawn c t i ps)(h:p∈ps)(hi:i<61):p.aK.length<=61:=by
 have h1:=MH h;have h2:=d.size;have h3:p.aK.length<=p.size:=by unfold ah.size;omega
 omega
theorem Drawn.keep(d:Drawn c t i ps):Drawn c t (i+1) ps:=⟨d.ok,d.cy,d.names,P8 d.size,d.tw⟩
theorem hU.HZ(h:hU c p)(hs:mG c s):hU c { p with aI:=p.aI++[s] }:=by
 refine⟨λr hr=>?_,λn hn=>?_,h.nd⟩
 ·rcases bF.mp hr with z|z
  ·exact h.aI r z
  ·rw[bX.mp z];exact hs
 ·obtain⟨a,b,k,r,e,q⟩:=h.aK n hn;exact⟨a,b,k,r,by rw[JB (ig.mp e).1];exact e,q⟩
theorem hU.lJ(h:hU c p)(e:p.aI=ss++[s])(hs:mG c s')(hw:s.words.length<=s'.words.length):hU c { p with aI:=ss++[s'] }:=by
 refine⟨λr hr=>?_,λn hn=>?_,h.nd⟩
 ·rcases bF.mp hr with z|z
  ·exact h.aI r (by rw[e];exact gC _ z)
  ·rw[bX.mp z];exact hs
 ·obtain⟨a,b,k,r,g,q1,q2,q3⟩:=h.aK n hn;rw[e]at g;by_cases hk:k<ss.length
  ·rw[JB hk]at g;exact⟨a,b,k,r,by show(ss++[s'])[k]?=some r;rw[JB hk];exact g,q1,q2,q3⟩
  ·rw[H_ (by omega)]at g;have hk0:k - ss.length=0:=by
    have:=(ig.mp g).1;simp at this;omega
   rw[hk0]at g;simp at g;subst g;exact⟨a,b,k,s',by show(ss++[s'])[k]?=some s';rw[H_ (by omega),hk0];rfl,q1,q2,Int.le_trans q3 (by omega)⟩
theorem hU.told(h:hU c p)(hm:Ec c p.aI m)(hn:m.name∉p.aK.map aj.name):hU c { p with aK:=p.aK++[m] }:=by
 refine⟨h.aI,λn hn=>?_,?_⟩
 ·rcases bF.mp hn with z|z
  ·exact h.aK n z
  ·rw[bX.mp z];exact hm
 ·show((p.aK++[m]).map aj.name).Nodup;rw[aY];refine f_.mpr ⟨h.nd,by simp,λx hx y hy e=>?_⟩;have:y=m.name:=by simpa using hy
  subst this;exact hn (e▸hx)
theorem step_at:∃z:Int,iI [V.int 1,V.int 1,V.int 2,V.int 4,V.int 16,V.int 65536] (v%6)=some (V.int z)/\(z=1\/z=2\/z=4\/z=16\/z=65536):=by
 have hd:v%6=0\/v%6=1\/v%6=2\/v%6=3\/v%6=4\/v%6=5:=by omega
 rcases hd with e|e|e|e|e|e<;>rw[e]<;>exact⟨_,rfl,by decide⟩
theorem IL:∃z:Str,iI [V.str (Str.ofString "code"),V.str (Str.ofString "data")] (v%2)=some (V.str z)/\DM z:=by
 have hd:v%2=0\/v%2=1:=by omega
 rcases hd with e|e<;>rw[e]
 ·exact⟨_,rfl,.inl rfl⟩
 ·exact⟨_,rfl,.inr rfl⟩
theorem oq{p:ah}{ss:List aL}{s:aL}(e:p.aI=ss++[s]):s.words.length+p.aI.length+p.aK.length<p.size:=by
 unfold ah.size;rw[e,aY,Lu];simp;omega
theorem zZ{p:ah}{ss:List aL}{s s':aL}(e:p.aI=ss++[s])(h:s'.words.length=s.words.length+1):({ p with aI:=ss++[s'] }:ah).size<=p.size+1:=by
 unfold ah.size;rw[e,aY,Lu,aY,Lu];simp[h];omega
theorem mG.word(h:mG c s)(h1:0<=wd)(h2:wd<4294967296):mG c { s with words:=s.words++[wd] }:=by
 refine⟨h.kind,h.step,λi hi=>?_,λf hf=>?_,h.asc,?_⟩
 ·rcases bF.mp hi with z|z
  ·exact h.words i z
  ·rw[bX.mp z];exact⟨h1,h2⟩
 ·have g:=h.fills f hf;exact⟨g.rule,g.name,g.lo,by have:=g.hi;show f.at_<((s.words++[wd]).length:Int);rw[cW];simp;omega,g.Ez,g.Fo,g.soft⟩
 ·have:=h.cy;show s.fills.length<=(s.words++[wd]).length;rw[cW];simp;omega
theorem mG.fill{c:Int}{s:aL}{f:ax}{wd:Int}(h:mG c s)(hf:wt c 1 { f with at_:=0 })(ha:f.at_=s.words.length)(h1:0<=wd)(h2:wd<4294967296):mG c { s with fills:=s.fills++[f],words:=s.words++[wd] }:=by
 have w:=h.word h1 h2;refine⟨h.kind,h.step,w.words,λg hg=>?_,?_,?_⟩
 ·rcases bF.mp hg with z|z
  ·exact w.fills g z
  ·rw[bX.mp z];exact⟨hf.rule,hf.name,by omega,by show f.at_<((s.words++[wd]).length:Int);rw[cW];simp;omega,hf.Ez,hf.Fo,hf.soft⟩
 ·show(s.fills++[f]).Pairwise _;refine QJ.mpr ⟨h.asc,by simp,λg hg y hy=>?_⟩;rw[bX.mp hy,ha];exact(h.fills g hg).hi
 ·have:=h.cy;show(s.fills++[f]).length<=(s.words++[wd]).length;rw[cW,cW];simp;omega
theorem PZ(T:Txt K mg A):bg P w K mg base dm 3 A.NB A.qK ["_law_cells", "_law_names_by", "_law_titles_by", "_law_strict"] (E2 K):=by
 refine T.yP.ok iz (λvs H Q E h=>?_) (λcdv Ar outer s H vs Q E hr h=>?_)
 ·obtain⟨a,ns,c,t,rfl,_⟩:=h;rfl
 ·obtain⟨a,ns,c,t,rfl,hS,hl,k⟩:=h
  refine⟨_,(aQ (pS 4 iz.nd (a9 aa)) (aQ (pF (eU (K:=K) rfl (pv 0)) (pn 5 iz.nd) (aQ (pS 6 iz.nd (aF bB (pv 5) ag)) (bf (bq (Ap (u:=T6) (PW.pt (mS (PW.pt (gE (fF dZ (pv 6) ag (aS _)) (fR (fF jS (eh (j8 (K:=K) rfl) (by rfl) T.dJ dj (aq (pv 4) aa)) ag (aS _))))) (lR (fF (o6 hr.units (K:=K) rfl) (pv 4) (a9 aa) (aS _))))) ?wt1) (eB (u:=To) (bf (dY (cJ (pv 4) (aq (aX (aq (pC (nj T) hr T.lq T.jO T.jY (aq (pv 2) (aq (eh (j8 (K:=K) rfl) (by rfl) T.dJ dj (aq (pv 4) aa)) aa))) (aq (a9 aa) (aq (a9 aa) aa)))) aa)))) ?wb1) (bf (bq (Ap (u:=T9) (PW.pt (mS (fF jS (pv 6) ag (aS _)) (lR (fF (o6 hr.units (K:=K) rfl) (tx K (bT (dR (K:=K) rfl) (pv 4) (l7 iB ag) (λ_ _=>rfl))) (a9 aa) (aS _))))) ?wt2) (eB (u:=Ub) (aQ (pS 7 iz.nd (bT (dR (K:=K) rfl) (a9 (aq ag (aq ag (aq ag (aq ag (aq ag (aq ag aa))))))) (aF bB (aF b_ (pv 5) ag) ag) (λ_ _=>rfl))) (bf (dY (cJ (tx K (bT (dR (K:=K) rfl) (pv 4) (l7 iB ag) (λ_ _=>rfl))) (aq (aX (aq (bT (dR (K:=K) rfl) (a9 (aq a5 (aq a5 aa))) (aF bB (aF b_ (pv 5) ag) ag) (λ_ _=>rfl)) (aq (pv 7) (aq (a9 aa) (aq (a9 aa) aa))))) aa))))) ?wb2) (bf (bq (fF jS (pv 6) ag (aS _)) (eB (u:=TC) (aQ (pS 8 iz.nd (bT (dR (K:=K) rfl) (tx K (bT (dR (K:=K) rfl) (pv 4) (l7 iB ag) (λ_ _=>rfl))) (l7 iB ag) (λ_ _=>rfl))) (aQ (pS 9 iz.nd (pC (N3 T) hr T.JY T.F9 T.ER (aq (pv 5) (aq (pv 1) aa)))) (aQ (bq (fF pV (pv 9) fW (aS _)) (bf (dY (cJ (tx K (pv 8)) (aq (aF (Fg (K:=K) rfl) (aX (aq (eh (j8 (K:=K) rfl) (by rfl) T.dJ dj (aq (tx K (pv 8)) aa)) aa)) (pv 9)) aa)))) cI) (bf (dY (cJ (tx K (pv 8)) (aq (aF bB (aF iD (pv 5) ag) ag) aa))))))) ?wb3) (eB (u:=Tj) (bf (dY (pC (N2 T) hr T.KR T.Gy T.G2 (aq (pv 4) (aq (pv 5) (aq (pv 1) (aq (pv 3) aa))))))) ?wb4))))))))) (bf (aJ (pv 4))))),?main⟩
  case wt1=>
   rintro σ H R ⟨H0,a,L,c,t,v,i,ps,⟨⟨b7,b8,b9,rfl⟩,sm,hP,hf,hd,hi⟩,k⟩;walk_at "rd";have z:(0:Nat)<=sizeLine:=fe _;have eqd:∀q,H q=none->Mf K (V.ref L) (V.ref q) (upd H q (HO.lst [])) λx H'=>∃k,x=V.bl k/\R k H':=λq hq=>by
    refine⟨ps.map ah.d,[],.inl ⟨(hP.mono (aU hq)).rep,⟨q,[],rfl,aD.of aE,by simp[RepL]⟩⟩,Nat.le_trans (dH λp _=>Cm p) (by decide),_,rfl,k _ _ (aU hq) (λh=>?_) λh e=>?_⟩
    ·rw[lI]at h;have e:=of_decide_eq_true h;rw[List.map_eq_nil_iff.mp e];decide
    ·rw[lI,e]at h;simp at h
   exact dM (λ_=>⟨ps.length,.inl ⟨_,aD.of hP.top,by simp⟩,dM (λh=>k true H (ay.refl _) (λ_=>by have:=of_decide_eq_true h;omega) (λh=>by cases h)) (λ_=>⟨z,eqd⟩)⟩) (λ_=>⟨z,eqd⟩)
  case wt2=>
   rintro σ H R ⟨H0,a,L,c,t,v,i,ps,p,⟨⟨b7,b8,b9,rfl⟩,sm,hP,hf,hd,hi⟩,k⟩;walk_at "rd";have hp:=hP.at_ p (by simp);refine dM (λ_=>k true H (ay.refl _) (λh=>by cases h)) (λ_=>⟨_,aD.of hP.top,V.ref p.t,by rw[aY];exact eI,p.t,rfl,_,aR.of hp.top,_,rfl,fe _,λq hq=>?_⟩);refine⟨p.aI.map aL.d,[],.inl ⟨⟨p.ls,_,rfl,aD.of (aU hq _ _ hp.sl),RepL.map λs hs=>((hp.ss s hs).mono (aU hq)).rep⟩,⟨q,[],rfl,aD.of aE,by simp[RepL]⟩⟩,Nat.le_trans (dH λp _=>Es p) (by decide),_,rfl,k _ _ (aU hq) λh e=>?_⟩;rw[lI,e]at h;simp at h
  case wb1=>
   rintro D σ H ⟨H0,a,L,c,t,v,i,ps,⟨⟨b7,b8,b9,rfl⟩,sm,hP,hf,hd,hi⟩,hz,k⟩;walk_at "rd";refine⟨.inl ⟨rfl,_,aD.of hP.top⟩,ps.length,.inl ⟨_,aD.of hP.top,by simp⟩,Nat.zero_le _,λls h1=>⟨Nat.zero_le _,λln h2=>⟨by rw[sizeLine_eq];decide,λtt h3=>?_⟩⟩⟩;obtain⟨n2,h2'⟩:=cG h2;obtain⟨n3,h3a⟩:=cG h3;obtain⟨n4,h3'⟩:=cG h3a;have s3:=((aU (o:=HO.lst []) h1).trans (aU (o:=HO.lst []) h2)).trans (aU (o:=HO.tup [V.str (nameOf t (ps.length:Int)),V.ref ls,V.ref ln]) h3);refine⟨_,s3 _ _ hP.top,by rw[az,sizeLine_eq];omega,?_⟩;have hL0:=hf L lE;refine k _ _ _ ⟨_,_,_,_,_,rfl⟩ (eR hL0 (sm.trans s3)) ((hP.mono s3).Dz aE (by rw[ae (Ne.symm n4),ae (Ne.symm n2),aE]) (by rw[ae (Ne.symm n3),aE]) (Ne.symm n2) (hP.fresh h1) (hP.fresh h2')) (λb hb=>?_) (hd.push hz);rw[hX,<-O1]at hb;rcases bF.mp hb with e|e
   ·exact hf b e
   ·simp[ah.lists]at e;rcases e with e|e
    ·rw[e];exact sm.free h1
    ·rw[e];exact sm.free h2'
  case wb2=>
   rintro D σ H ⟨H0,a,L,c,t,v,i,ps,p,⟨⟨b7,b8,b9,rfl⟩,sm,hP,hf,hd,hi⟩,k⟩;walk_at "rd";have hp:=hP.at_ p (by simp);have hsz:=hd.kZ;obtain⟨z,hz,hz'⟩:=step_at (v:=v/9);obtain⟨kd,hk,hk'⟩:=IL (v:=v/54);refine⟨by rw[sizeLine_eq];decide,λq1 h1=>⟨⟨by decide,by decide⟩,by decide,_,aD.of aE,_,hz,_,aD.of (aU h1 _ _ hP.top),V.ref p.t,by rw[aY];exact eI,p.t,rfl,_,aR.of (aU h1 _ _ hp.top),_,rfl,.inl ⟨rfl,_,aD.of (aU h1 _ _ hp.sl)⟩,by walk_at "s", λq2 h2=>⟨⟨by decide,by decide⟩,by decide,_,aD.of aE,_,hk,fe _,λlw h3=>⟨fe _,λlf h4=>⟨by rw[sizeLine_eq];decide,λtt h5=>⟨p.ls,rfl,?_⟩⟩⟩⟩⟩⟩;have s2:=(aU (o:=HO.lst [V.int 1,V.int 1,V.int 2,V.int 4,V.int 16,V.int 65536]) h1).trans (aU (o:=HO.lst [V.str (Str.ofString "code"),V.str (Str.ofString "data")]) h2);generalize upd (upd H q1 (HO.lst [V.int 1,V.int 1,V.int 2,V.int 4,V.int 16,V.int 65536])) q2 (HO.lst [V.str (Str.ofString "code"),V.str (Str.ofString "data")])=H2 at *;obtain⟨n4,h4'⟩:=cG h4;obtain⟨n5,h5a⟩:=cG h5;obtain⟨n6,h5'⟩:=cG h5a;have sA:=s2.trans (((aU (o:=HO.lst []) h3).trans (aU (o:=HO.lst []) h4)).trans (aU (o:=HO.tup [V.str kd,V.int z,V.ref lw,V.ref lf]) h5));refine⟨_,sA _ _ hp.sl,by rw[az,sizeLine_eq];unfold ah.size at hsz;omega,?_⟩;walk_at "2"
   refine k _ _ _ ⟨_,_,_,_,_,rfl⟩ (eR (hf p.ls (mem _ (by simp[ah.lists]))) (sm.trans sA)) ((hP.mono sA).wO aE (by rw[ae (Ne.symm n6),ae (Ne.symm n4),aE]) (by rw[ae (Ne.symm n5),aE]) (Ne.symm n4) ((hP.mono s2).fresh h3) ((hP.mono s2).fresh h4')) (λb hb=>?_) (hd.last ((hd.ok p (by simp)).HZ ⟨hk',hz',by simp,by simp,by simp,by simp⟩) rfl ?_ λm hm=>.inl hm)
   ·have hb':b∈L::aZ (ps++[p])\/b=lw\/b=lf:=by
     rw[hX]at hb ⊢;simp only[ah.lists,List.flatMap_append,List.mem_cons,List.mem_append,List.flatMap_cons,List.flatMap_nil,aL.lists,List.append_nil,List.not_mem_nil,or_false]at hb ⊢
     grind
    rcases hb' with e|e|e
    ·exact hf b e
    ·rw[e];exact(sm.trans s2).free h3
    ·rw[e];exact(sm.trans s2).free h4'
   ·unfold ah.size;simp;omega
  case wb3=>
   rintro D σ H ⟨H0,a,L,c,t,v,i,ps,p,ss,s,⟨⟨b7,b8,b9,rfl⟩,sm,hP,hf,hd,hi⟩,hs,k⟩;walk_at "rd";have hp:=hP.at_ p (by simp);have hsz:=hd.kZ;have hs':=hp.ss s (by rw[hs];simp);have hw:=oq hs;walk_at "2";refine⟨_,aD.of hP.top,V.ref p.t,by rw[aY];exact eI,p.t,rfl,_,aR.of hp.top,_,rfl,p.ls,rfl,_,aD.of hp.sl,s.v,by rw[hs,aY];exact eI,λH' s1=>⟨?_,λf hf1 hf2 hf3=>?_⟩⟩
   ·rw[if_neg (by simp)];refine⟨s.t,rfl,_,aR.of (s1 _ _ hs'.top),_,rfl,.inl ⟨rfl,_,aD.of (s1 _ _ hs'.wd)⟩,.inr ⟨by decide,by decide⟩,by decide,s.lw,rfl,_,s1 _ _ hs'.wd,by rw[az,sizeLine_eq];omega,?_⟩;refine k _ _ _ ⟨_,_,_,_,_,rfl⟩ (eR (hf _ (mem _ (by simp[ah.lists,hs,aL.lists]))) (sm.trans s1)) ((hP.mono s1).AD hs) (λb hb=>hf b ?_) (hd.last (hU.lJ (hd.ok p (by simp)) hs (((hd.ok p (by simp)).aI s (by rw[hs];simp)).word (by omega) (by omega)) (by simp)) rfl (zZ hs (by simp)) λm hm=>.inl hm);rw[hX]at hb ⊢;simpa [ah.lists,hs,aL.lists] using hb
   ·rw[if_pos (by simp)];refine⟨s.t,rfl,_,aR.of (s1 _ _ hs'.top),_,rfl,.inl ⟨rfl,_,aD.of (s1 _ _ hs'.fl)⟩,s.t,rfl,_,aR.of (s1 _ _ hs'.top),_,rfl,s.words.length,.inl ⟨_,aD.of (s1 _ _ hs'.wd),by simp⟩,by walk_at "s", λq1 h1=>⟨_,aR.of aE,_,aR.of (aU h1 _ _ hf2),by simp,by rw[sizeLine_eq];simp,λe=>(by cases e),λ_ q2 h2=>⟨s.lf,rfl,?_⟩⟩⟩;have s3:=s1.trans ((aU (o:=HO.tup [V.int (s.words.length:Int)]) h1).trans (aU (o:=HO.tup ([V.int (s.words.length:Int)]++[V.str f.rule,V.str f.name,V.int f.add,V.bl f.soft])) h2));have hat:ax.At (upd (upd H' q1 (HO.tup [V.int (s.words.length:Int)])) q2 (HO.tup ([V.int (s.words.length:Int)]++[V.str f.rule,V.str f.name,V.int f.add,V.bl f.soft]))) ⟨q2,s.words.length,f.rule,f.name,f.add,f.soft⟩:=aE;generalize upd (upd H' q1 (HO.tup [V.int (s.words.length:Int)])) q2 (HO.tup ([V.int (s.words.length:Int)]++[V.str f.rule,V.str f.name,V.int f.add,V.bl f.soft]))=H3 at *;have P1:=(hP.mono s3).Js hs hat;have ok:=hU.lJ (p:=p) (s':={ s with fills:=s.fills++[⟨q2,s.words.length,f.rule,f.name,f.add,f.soft⟩],words:=s.words++[v*48271%4294967296] }) (hd.ok p (by simp)) hs (mG.fill ((hd.ok p (by simp)).aI s (by rw[hs];simp)) (f:=⟨q2,s.words.length,f.rule,f.name,f.add,f.soft⟩) ⟨hf1.rule,hf1.name,hf1.lo,hf1.hi,hf1.Ez,hf1.Fo,hf1.soft⟩ rfl (by omega) (by omega)) (by simp)
    have sz:=zZ (p:=p) (s':={ s with fills:=s.fills++[⟨q2,s.words.length,f.rule,f.name,f.add,f.soft⟩],words:=s.words++[v*48271%4294967296] }) hs (by simp);have a1:=(P1.at_ _ (gR _ (bX.mpr rfl))).ss _ (gR _ (bX.mpr rfl));refine⟨_,s3 _ _ hs'.fl,by rw[az,sizeLine_eq];have:=((hd.ok p (by simp)).aI s (by rw[hs];simp)).cy;omega,s.t,rfl,_,aR.of a1.top,_,rfl,.inl ⟨rfl,_,aD.of a1.wd⟩,.inr ⟨by decide,by decide⟩,by decide,s.lw,rfl,_,a1.wd,by rw[List.length_map,sizeLine_eq];show s.words.length<_;omega,?_⟩;have P2:=P1.AD (i:=v*48271%4294967296) rfl;refine k (ps++[({ p with aI:=ss++[{ s with fills:=s.fills++[⟨q2,s.words.length,f.rule,f.name,f.add,f.soft⟩],words:=s.words++[v*48271%4294967296] }] }:ah)]) _ _ ⟨_,_,_,_,_,rfl⟩ (eR (hf _ (mem _ (by simp[ah.lists,hs,aL.lists]))) (eR (hf _ (mem _ (by simp[ah.lists,hs,aL.lists]))) (sm.trans s3))) (by exact P2) (λb hb=>hf b ?_) (hd.last ok rfl sz λm hm=>.inl hm);rw[hX]at hb ⊢;simpa [ah.lists,hs,aL.lists] using hb
  case wb4=>
   rintro D σ H ⟨H0,a,L,c,t,v,i,ps,p,ss,s,⟨⟨b7,b8,b9,rfl⟩,sm,hP,hf,hd,hi⟩,hs,k⟩;walk_at "rd";have hsz:=hd.kZ;have hw:=oq hs;have hfew:=hd.cy;walk_at "2";refine⟨ps,p,hP,ss,s,hs,by simp at hfew;omega,by omega,by omega,by omega,λq hq=>hd.RS (List.mem_append_left _ hq) hi,λH' s1=>k _ _ _ ⟨_,_,_,_,_,rfl⟩ (sm.trans s1) (hP.mono s1) hf hd.keep,λm H' s1 hm hn hne hso hst hoff htw=>?_⟩;refine k _ _ _ ⟨_,_,_,_,_,rfl⟩ (eR (hf _ (mem _ (by simp[ah.lists]))) (sm.trans s1)) ((hP.mono s1).HP hm) (λb hb=>hf b ?_) (hd.last ((hd.ok p (by simp)).told ⟨hn,hso,ss.length,s,by rw[hs];simp,hst,by omega,by omega⟩ hne) rfl ?_ λx hx=>?_)
   ·rw[hX]at hb ⊢;exact hb
   ·unfold ah.size;simp;omega
   ·rcases bF.mp hx with y|y
    ·exact .inl y
    ·rw[bX.mp y];exact .inr htw
  case main=>
  walk_at "rd";refine⟨by rw[sizeLine_eq];decide,λL hL=>?_⟩;refine dv.of (xs:=ns.map V.int) (λi σ H'=>∃ps b5 b6 b7 b8 b9,σ=[some (V.ref a),some (V.int c),some (V.int t),some (V.bl false),some (V.ref L),b5,b6,b7,b8,b9]/\ay H H'/\eA H' L ps/\(∀b∈L::aZ ps,H b=none)/\Drawn c t i ps)
   ⟨[],_,_,_,_,_,rfl,aU hL,eA.nil aE,by simpa [aZ] using hL,⟨by simp,by simp,rfl,by simp,.nil⟩⟩ (λi σ H' _ ⟨_,_,_,_,_,_,_,sm,_⟩=>sm.seq hS) ?_ ?_
  ·rintro i x σ H' hx ⟨ps,b5,b6,b7,b8,b9,rfl,sm,hP,hf,hd⟩;walk_at "0";obtain⟨v,hv,rfl⟩:=d_.mp hx;have hi:i<61:=mC (ig.mp hv).1 hl;walk_at "rd";have dc:DC H a L c t v i ps [some (V.ref a),some (V.int c),some (V.int t),some (V.bl false),some (V.ref L),some (V.int v),some (V.int (v%9)),b7,b8,b9] H':=⟨⟨_,_,_,rfl⟩,sm,hP,hf,hd,hi⟩
   refine⟨by decide,H,a,L,c,t,v,i,ps,dc,λb H1 s1 ht hn=>?_⟩;cases b with
   |true=>exact⟨H,a,L,c,t,v,i,ps,dc.mono s1,ht rfl,λps' σ' H'' ⟨b5,b6,b7,b8,b9,e⟩ s1 s2 s3 s4=>⟨ps',b5,b6,b7,b8,b9,e,s1,s2,s3,s4⟩⟩
   |false=>
    obtain⟨ps0,p,e⟩:∃ps0 p,ps=ps0++[p]:=by
     rcases List.eq_nil_or_concat ps with e|⟨l,x,e⟩
     ·exact absurd e (hn rfl)
     ·exact⟨l,x,by rw[e,List.concat_eq_append]⟩
    subst e;refine⟨H,a,L,c,t,v,i,ps0,p,dc.mono s1,λb H2 s2 hn2=>?_⟩;cases b with
    |true=>exact⟨H,a,L,c,t,v,i,ps0,p,(dc.mono s1).mono s2,λps' σ' H'' ⟨b5,b6,b7,b8,b9,e⟩ s1 s2 s3 s4=>⟨ps',b5,b6,b7,b8,b9,e,s1,s2,s3,s4⟩⟩
    |false=>
     obtain⟨ss,r,e⟩:∃ss r,p.aI=ss++[r]:=by
      rcases List.eq_nil_or_concat p.aI with e|⟨l,x,e⟩
      ·exact absurd e (hn2 rfl)
      ·exact⟨l,x,by rw[e,List.concat_eq_append]⟩
     by_cases h6:v%9<6
     ·rw[if_neg (by decide),if_pos (decide_eq_true h6)];exact⟨H,a,L,c,t,v,i,ps0,p,ss,r,(dc.mono s1).mono s2,e,λps' σ' H'' ⟨b5,b6,b7,b8,b9,e⟩ s1 s2 s3 s4=>⟨ps',b5,b6,b7,b8,b9,e,s1,s2,s3,s4⟩⟩
     ·rw[if_neg (by decide),if_neg (by simpa using h6)];exact⟨H,a,L,c,t,v,i,ps0,p,ss,r,(dc.mono s1).mono s2,e,λps' σ' H'' ⟨b5,b6,b7,b8,b9,e⟩ s1 s2 s3 s4=>⟨ps',b5,b6,b7,b8,b9,e,s1,s2,s3,s4⟩⟩
  ·rintro σ H' ⟨ps,b5,b6,b7,b8,b9,rfl,sm,hP,hf,hd⟩;rw[az]at hd;walk_at "rd";exact k L ps H' sm hP hf hd
theorem Oq(T:Txt K mg A):bg P w K mg base dm 1 A.N8 A.o7 ["_law_piece"] (zy K):=by
 refine T.AH.ok G7 (λvs H Q E h=>?_) (λcdv Ar outer s H vs Q E hr h=>?_)
 ·obtain⟨p,rfl,_⟩:=h;rfl
 ·obtain⟨p,rfl,hp,b1,b2,b3,k⟩:=h;refine⟨_,(aQ (fV (i:=1) G7.nd rfl (by walk_at "o") (gu ["_law_row"]) rfl (eU (K:=K) rfl (tx K (pv 0))) (λ_ _ _=>⟨(pn 0 (by walk_at "n")),bY,(aX (aq (tx K (pv 0)) (aq (tx K (pv 0)) (aq (cq (cN (K:=K) rfl) (by rfl) T.gH iP (aq (tx K (pv 0)) aa)) (aq (cq (cN (K:=K) rfl) (by rfl) T.gH iP (aq (tx K (pv 0)) aa)) aa)))))⟩)) (bf (aJ (aX (aq (tx K (pv 0)) (aq (pv 1) (aq (cq (cN (K:=K) rfl) (by rfl) T.gH iP (aq (tx K (pv 0)) aa)) aa))))))),?_⟩;walk_at "rd";refine⟨_,aR.of hp.top,_,rfl,?_⟩;refine cD.of (by rw[az,sizeLine_eq];omega) (aD.of hp.sl) (λD i ys H'=>∃qs:List aL,ys=qs.map aL.v/\qs.map aL.core=(p.aI.take i).map aL.core/\ay H H'/\H' D=some (.lst ys)/\(∀q∈qs,q.At H')/\(∀b∈qs.flatMap aL.lists,H b=none/\b≠D)/\(qs.flatMap aL.lists).Nodup)
   (λD hD=>⟨[],rfl,rfl,aU hD,aE,by simp,by simp,by simp⟩) ?_ ?_ ?_
  ·rintro D i ys H' hD hi ⟨qs,rfl,hc,sm,hDD,_⟩;refine⟨aD.of (sm _ _ hp.sl),hDD,?_⟩;have e:=congrArg List.length hc;rw[az,az]at e;rw[az,e];exact List.length_take_le ..
  ·rintro D i x ys H' hD hx ⟨qs,rfl,hc,sm,hDD,hat,hnew,hnd⟩;walk_at "0";obtain⟨s,hs,rfl⟩:=d_.mp hx;have hs':=hp.ss s (c_ hs);walk_at "rd";refine⟨.no .nil,_,aR.of (sm _ _ hs'.top),_,rfl,_,aR.of (sm _ _ hs'.top),_,rfl,_,aR.of (sm _ _ hs'.top),_,rfl,s.lw,rfl,_,.inl (aD.of (sm _ _ hs'.wd)),λlw h1=>⟨_,aR.of (aU h1 _ _ (sm _ _ hs'.top)),_,rfl,s.lf,rfl,_,.inl (aD.of (aU h1 _ _ (sm _ _ hs'.fl))),λlf h2=>⟨by rw[sizeLine_eq];decide,λt h3=>?_⟩⟩⟩;obtain⟨n2,h2'⟩:=cG h2;obtain⟨n3,h3a⟩:=cG h3;obtain⟨n4,h3'⟩:=cG h3a;have s3:=((aU (o:=HO.lst (s.words.map V.int)) h1).trans (aU (o:=HO.lst (s.fills.map ax.v)) h2)).trans (aU (o:=HO.tup [V.str s.kind,V.int s.step,V.ref lw,V.ref lf]) h3);have e1:upd (upd (upd H' lw (HO.lst (s.words.map V.int))) lf (HO.lst (s.fills.map ax.v))) t (HO.tup [V.str s.kind,V.int s.step,V.ref lw,V.ref lf]) lw=some (HO.lst (s.words.map V.int)):=by rw[ae (Ne.symm n4),ae (Ne.symm n2),aE]
   have e2:upd (upd (upd H' lw (HO.lst (s.words.map V.int))) lf (HO.lst (s.fills.map ax.v))) t (HO.tup [V.str s.kind,V.int s.step,V.ref lw,V.ref lf]) lf=some (HO.lst (s.fills.map ax.v)):=by rw[ae (Ne.symm n3),aE]
   have e3:upd (upd (upd H' lw (HO.lst (s.words.map V.int))) lf (HO.lst (s.fills.map ax.v))) t (HO.tup [V.str s.kind,V.int s.step,V.ref lw,V.ref lf]) t=some (HO.tup [V.str s.kind,V.int s.step,V.ref lw,V.ref lf]):=aE;generalize upd (upd (upd H' lw (HO.lst (s.words.map V.int))) lf (HO.lst (s.fills.map ax.v))) t (HO.tup [V.str s.kind,V.int s.step,V.ref lw,V.ref lf])=H3 at *;have bt:fZ H3 (upd H3 D (HO.lst (qs.map aL.v++[V.ref t]))) D:=fZ.upd (s3 _ _ hDD);have d1:lw≠D:=Ne.symm (bH hDD h1);have d2:lf≠D:=Ne.symm (bH hDD h2');refine⟨s3 _ _ hDD,qs++[⟨t,lw,lf,s.kind,s.step,s.words,s.fills⟩],by simp,?_,eR hD (sm.trans s3),aE,λq hq=>?_,λb hb=>?_,?_⟩
   ·rw[aY,hc,fX,hs,aY];rfl
   ·rcases bF.mp hq with z|z
    ·exact((hat q z).mono s3).but bt λy=>(hnew D (hW.mpr ⟨q,z,y⟩)).2 rfl
    ·rw[bX.mp z];exact⟨bt.tup e3,bt.2 _ _ e1 d1,bt.2 _ _ e2 d2,λf hf=>(((hs'.fs f hf).mono sm).mono s3).but bt⟩
   ·rw[A3]at hb;rcases bF.mp hb with z|z
    ·exact hnew b z
    ·simp[aL.lists]at z;rcases z with e|e
     ·rw[e];exact⟨sm.free h1,d1⟩
     ·rw[e];exact⟨sm.free h2',d2⟩
   ·rw[A3];refine f_.mpr ⟨hnd,by simp[aL.lists,Ne.symm n2],λx hx y hy e=>?_⟩;obtain⟨q,hq,hb'⟩:=hW.mp hx;obtain⟨xs,he⟩:=(hat q hq).list hb';simp[aL.lists]at hy;rcases hy with z|z
    ·rw[e,z,h1]at he;cases he
    ·rw[e,z,h2']at he;cases he
  ·rintro D ys H' hD ⟨qs,rfl,hc,sm,hDD,hat,hnew,hnd⟩;rw[az,iF]at hc;refine⟨_,aR.of (sm _ _ hp.top),_,rfl,_,aR.of (sm _ _ hp.top),_,rfl,p.ln,rfl,_,.inl (aD.of (sm _ _ hp.nl)),λl hl=>⟨by rw[sizeLine_eq];decide,λt ht=>?_⟩⟩;obtain⟨n1,ht'⟩:=cG ht;have s2:=(aU (o:=HO.lst (p.aK.map aj.v)) hl).trans (aU (o:=HO.tup [V.str p.name,V.ref D,V.ref l]) ht);have nl:∀b∈qs.flatMap aL.lists,b≠l/\b≠t:=λb hb=>by
    obtain⟨q,hq,hb'⟩:=hW.mp hb;obtain⟨xs,e⟩:=(hat q hq).list hb';exact⟨bH e hl,bH e ht'⟩
   refine k ⟨t,D,l,p.name,qs,p.aK⟩ _ (sm.trans s2) ⟨aE,s2 _ _ hDD,by rw[ae (Ne.symm n1),aE],λq hq=>(hat q hq).mono s2,λn hn=>((hp.ns n hn).mono sm).mono s2⟩ ⟨rfl,rfl,hc⟩ (λb hb=>?_) ?_
   ·simp only[ah.lists,List.mem_cons]at hb;rcases hb with e|e|e
    ·rw[e];exact hD
    ·rw[e];exact sm.free hl
    ·exact(hnew b e).1
   ·show(D::l::qs.flatMap aL.lists).Nodup;refine j7.mpr ⟨λz=>?_,j7.mpr ⟨λz=>(nl l z).1 rfl,hnd⟩⟩;rcases iG.mp z with e|e
    ·exact bH hDD hl e
    ·exact(hnew D e).2 rfl
theorem lK:∀{a b:List Str},a.Nodup->b.Nodup->(∀x,x∈a↔x∈b)->a.Perm b
 |[],b,_,_,h=>by
  have:b=[]:=List.eq_nil_iff_forall_not_mem.mpr λx hx=>by simpa using (h x).mpr hx
  rw[this]
 |x::a,b,ha,hb,h=>by
  have hx:x∈b:=(h x).mp (.head _);refine((lK (j7.mp ha).2 (hb.erase x) λy=>?_).cons x).trans (List.perm_cons_erase hx).symm;rw[hb.mem_erase_iff];constructor
  ·intro hy;exact⟨λe=>(j7.mp ha).1 (e▸hy),(h y).mp (.tail _ hy)⟩
  ·rintro⟨ne,hy⟩;exact(iG.mp ((h y).mpr hy)).resolve_left ne
theorem LJ(W:List Str)(y:Str):putK (W.map kx) (.inr y) (.bl true)=(addW W y).map kx:=by
 unfold putK addW;have e:((W.map kx).any λkv=>decide (kv.1=(.inr y:Key)))=decide (y∈W):=by
  rw[GF,J9,lP,decide_eq_true_eq];constructor
  ·rintro⟨z,hz,q⟩;have:z=y:=by simpa [kx] using q
   exact this▸hz
  ·intro hy;exact⟨y,hy,by simp[kx]⟩
 rw[e];by_cases m:y∈W
 ·rw[if_pos (decide_eq_true m),if_pos m,ck];refine xq λz hz=>?_;by_cases q:z=y
  ·simp[kx,q]
  ·simp[kx,q]
 ·rw[if_neg (by simpa using m),if_neg m,List.map_append];rfl
theorem Ex(W:List Str)(y:Str):(addW W y).length<=W.length+1:=by
 unfold addW;split
 ·omega
 ·simp
theorem Gb(p:ah)(W:List Str)(f:ax):(iQ p W f).length<=W.length+1:=by
 unfold iQ;split
 ·exact Ex W f.name
 ·omega
theorem lU(p:ah):∀(fs:List ax) (W:List Str),(fs.foldl (iQ p) W).length<=W.length+fs.length
 |[],W=>by simp
 |f::fs,W=>by
  have h1:=lU p fs (iQ p W f);have h2:=Gb p W f;rw[MC,je];omega
theorem qS(h:¬(!f.soft && !cB p f.name)=true):iQ p W f=W:=if_neg h
theorem uT(h:(!f.soft && !cB p f.name)=true):iQ p W f=addW W f.name:=if_pos h
theorem AM(hc:X.calm=true){w:World}(ew:X.w=w){K:Wf}(e:X.K=K):cX X (.type "set") (Qt w K):=ew▸e▸FG hc
theorem mH(hc:X.calm=true){w:World}(ew:X.w=w):cX X (.builtin "sorted") (vE w):=ew▸qy hc
theorem eP(e:ay H H')(h:H' l=none):H l=none:=by
 cases q:H l with
 |none=>rfl
 |some o=>rw[e _ _ q]at h;cases h
theorem xm(h:(p.aK.map aj.name).Nodup):(fY p).Nodup:=List.Nodup.sublist (List.Sublist.map _ List.filter_sublist) h
theorem FW(e:ms.map (λm=>(m.name,m.a,m.b,m.c))=(p.aK.filter λn=>decide (n.sort=Str.ofString "own")).map (λn=>(n.name,p.name,n.st,n.off)))(z:Str):(aB ms z).isSome=cB p z:=by
 have e1:ms.map ao.name=(p.aK.filter λn=>decide (n.sort=Str.ofString "own")).map aj.name:=by
  have h:=congrArg (List.map (·.1)) e;rw[ck,ck]at h;exact h
 have a:(aB ms z).isSome=decide (z∈ms.map ao.name):=by
  unfold aB;rw[J9,List.find?_isSome,decide_eq_true_eq];constructor
  ·rintro⟨m,hm,q⟩;exact aM.mpr ⟨m,hm,of_decide_eq_true q⟩
  ·intro h;obtain⟨m,hm,q⟩:=aM.mp h;exact⟨m,hm,decide_eq_true q⟩
 rw[a,e1];unfold cB;rw[J9,decide_eq_true_eq,lP];constructor
 ·intro h;obtain⟨n,hn,q⟩:=aM.mp h;obtain⟨h1,h2⟩:=uI.mp hn;exact⟨n,h1,by rw[lN];exact⟨decide_eq_true q,h2⟩⟩
 ·rintro⟨n,hn,q⟩;rw[lN]at q;exact aM.mpr ⟨n,uI.mpr ⟨hn,q.2⟩,of_decide_eq_true q.1⟩
theorem Pf(W:List Str):List.map (λx=>x.fst) (W.map kx)=W.map Sum.inr:=by rw[ck];rfl
theorem zr(h:(!decide (V.str z=V.str (Str.ofString "own")))=true):z≠cS:=λe=>by
 rw[e]at h;exact absurd h (by simp[cS])
theorem GY(h:¬(!decide (V.str z=V.str (Str.ofString "own")))=true):z=cS:=by
 have q:V.str z=V.str (Str.ofString "own"):=by simpa using h
 injection q
theorem k7{p:ah}{i:Nat}{st:aL}(h:p.aI[i]?=some st):aG (p.aI.take (i+1))=aG (p.aI.take i)++st.fills:=by
 unfold aG;rw[fX,h,A3];simp
theorem uR{p:ah}(i:Nat):(aG (p.aI.take i)).length<=(aG p.aI).length:=by
 have h:aG p.aI=aG (p.aI.take i)++aG (p.aI.drop i):=by
  unfold aG;rw[<-A3,Ph]
 rw[h,cW];omega
theorem zt(T:Txt K mg A):bg P w K mg base dm 1 A.OV A.pY ["piece", "told_by"] Ba:=by
 refine T.zu.ok jN (λvs H Q E h=>?_) (λcdv Ar outer s H vs Q E hr h=>?_)
 ·obtain⟨p,z,rfl,_⟩:=h;rfl
 ·obtain⟨p,z,rfl,hp,hf,hd,k⟩:=h;refine⟨_,(aQ (pS 2 jN.nd cF) (aQ (pF (eU (K:=K) rfl (tx K (pv 0))) (bN (K:=K) (n:=4) rfl rfl (cT (pn 3 jN.nd) (cT (pn 4 jN.nd) (cT (pn 5 jN.nd) (cT (pn 6 jN.nd) bL))))) (bf (bq (fF dZ (pv 4) (pv 1) (aS _)) (bf (cR (a7 hr) (pv 2) (pv 3) (aX (aq (tx K (pv 0)) (aq (pv 5) (aq (pv 6) aa)))) rfl)) cI))) (bf (aJ (pv 2))))),?_⟩;walk_at "rd";intro d hdn;refine⟨_,aR.of (aU hdn _ _ hp.top),_,rfl,?_⟩;refine dv.of (xs:=p.aK.map aj.v) (λi σ H'=>∃ms b3 b4 b5 b6,σ=[some p.v,some (V.str z),some (V.ref d),b3,b4,b5,b6]/\ay H H'/\Tab H' d ms/\ms.map (λm=>(m.name,m.a,m.b,m.c))=((p.aK.take i).filter λn=>decide (n.sort=z)).map (λn=>(n.name,p.name,n.st,n.off)))
   ⟨[],_,_,_,_,rfl,aU hdn,⟨aE,by simp⟩,rfl⟩ (λi σ H' _ ⟨_,_,_,_,_,_,sm,_⟩=>aD.of (sm _ _ hp.nl)) ?_ ?_
  ·rintro i x σ H' hx ⟨ms,b3,b4,b5,b6,rfl,sm,tab,e⟩;walk_at "0";obtain⟨n,hn,rfl⟩:=d_.mp hx;have na:=sm _ _ (hp.ns n (c_ hn));walk_at "3";have hnew:n.name∉ms.map ao.name:=by
    have e1:ms.map ao.name=((p.aK.take i).filter λn=>decide (n.sort=z)).map aj.name:=by
     have:=congrArg (List.map (·.1)) e;rw[ck,ck]at this;exact this
    rw[e1];intro h;obtain⟨n',h1,h2⟩:=aM.mp h;have h3:=(uI.mp h1).1;have nd:((p.aK.take (i+1)).map aj.name).Nodup:=List.Nodup.sublist (List.Sublist.map _ (Kf _ _)) hd;rw[tk,aY]at nd;exact(f_.mp nd).2.2 n'.name (aM.mpr ⟨n',h3,rfl⟩) n.name (by simp) h2
   have hlen:ms.length<=61:=by
    have:=congrArg List.length e;walk_at "4";have h1:=wc (λn:aj=>decide (n.sort=z)) (p.aK.take i);have h2:=List.length_take_le i p.aK;have h3:(p.aK.take i).length<=p.aK.length:=by rw[jr];omega
    omega
   walk_at "rd";refine⟨_,aR.of na,rfl,_,_,rfl,_,_,rfl,_,_,rfl,_,_,rfl,rfl,rfl,dM (λhz=>?_) (λhz=>?_)⟩
   ·have hz':n.sort=z:=by
     have:=of_decide_eq_true hz;injection this
    refine⟨_,aR.of (sm _ _ hp.top),_,rfl,by walk_at "s", λq hq=>⟨_,eM.k (k:=Sum.inr n.name) (aU hq _ _ tab.top) (by rw[az,sizeLine_eq];omega),eR hdn (sm.trans (aU hq)),_,(tab.mono (aU hq)).put (m:=⟨n.name,q,p.name,n.st,n.off⟩) aE,?_⟩⟩;rw[CN hnew,aY,e,tk,HA,aY];simp[hz']
   ·have hz':n.sort≠z:=λy=>hz (decide_eq_true (by rw[y]));refine⟨sm,ms,tab,?_⟩;rw[tk,HA,e];simp[hz']
  ·rintro σ H' ⟨ms,b3,b4,b5,b6,rfl,sm,tab,e⟩;walk_at "1";walk_at "rd";exact k d ms H' sm tab e hdn
theorem HD(T:Txt K mg A):bg P w K mg base dm 2 A.tells A.iZ ["piece"] GP:=by
 refine T.kG.ok CV (λvs H Q E h=>?_) (λcdv Ar outer s H vs Q E hr h=>?_)
 ·obtain⟨p,rfl,_⟩:=h;rfl
 ·obtain⟨p,rfl,hp,hb,k⟩:=h;refine⟨_,(bf (aJ (eh (mH rfl (w:=w) rfl) (by rfl) T.cQ ff (aq (cq (AM rfl (w:=w) rfl (K:=K) rfl) (by rfl) T.yR LD (aq (cx (gu ["name", "sort", "stretch", "offset"]) rfl (eU (K:=K) rfl (tx K (pv 0))) (λ_ _ _=>⟨(bN (K:=K) (n:=4) rfl rfl (cT (pn 0 (by walk_at "n")) (cT (pn 1 (by walk_at "n")) (cT (pn 2 (by walk_at "n")) (cT (pn 3 (by walk_at "n")) bL))))),(gQ (fF yd (pv 1) a5 (aS _))),(pv 0)⟩)) aa)) aa)))),?_⟩;walk_at "rd";refine⟨_,aR.of hp.top,_,rfl,?_⟩;refine cD.of (xs:=p.aK.map aj.v) (by rw[az,sizeLine_eq];have:=hb.nm;omega) (aD.of hp.nl) (λD i ys H'=>ay H H'/\H' D=some (.lst ys)/\ys=(((p.aK.take i).filter λn=>decide (n.sort≠cS)).map aj.name).map V.str)
   (λD hD=>⟨aU hD,aE,rfl⟩) ?_ ?_ ?_
  ·rintro D i ys H' hD hi ⟨sm,hDD,e⟩;refine⟨sm.seq (aD.of hp.nl),hDD,?_⟩;rw[e,az,az];exact f9 (wc _ _) (by rw[jr];omega)
  ·rintro D i x ys H' hD hx ⟨sm,hDD,e⟩;walk_at "0";obtain⟨n,hn,rfl⟩:=d_.mp hx;have na:=sm _ _ (hp.ns n (c_ hn));walk_at "3";walk_at "rd";refine⟨_,aR.of na,rfl,_,_,rfl,_,_,rfl,_,_,rfl,_,_,rfl,rfl,.no (.no (.no (.no .nil))),rfl,dM (λh=>?_) (λh=>?_)⟩
   ·have hz:=zr h;refine⟨hDD,eR hD sm,aE,?_⟩;rw[e,tk,HA,aY,aY];simp[hz]
   ·have hz:=GY h;refine⟨sm,hDD,?_⟩;rw[e,tk,HA];simp[hz]
  ·rintro D ys H' hD ⟨sm,hDD,e⟩;walk_at "1";have hle:(fY p).length<=61:=by
    unfold fY;rw[az];exact f9 (wc _ _) hb.nm
   refine⟨D,rfl,fY p,aD.of (by rw[hDD,e];rfl),by omega,λq L hq nd hL hm=>⟨L,aE,by omega,λl ss hl pm pw=>?_⟩⟩;have s2:=sm.trans (aU (o:=wM w L q) hq);exact k l _ (s2.trans (aU hl)) ⟨ss,pm.trans (lK nd (xm hb.nd) hm),pw,aE⟩ (eP s2 hl)
theorem Iv(T:Txt K mg A):bg P w K mg base dm 2 A.wants A.iU ["piece"] Dt:=by
 refine T.kL.ok cj (λvs H Q E h=>?_) (λcdv Ar outer s H vs Q E hr h=>?_)
 ·obtain⟨p,rfl,_⟩:=h;rfl
 ·obtain⟨p,rfl,hp,hb,k⟩:=h;refine⟨_,(aQ (pS 1 cj.nd (pC (zt T) hr T.vh T.nY T.m6 (aq (pv 0) (aq a5 aa)))) (aQ (pS 2 cj.nd cF) (aQ (pF (eU (K:=K) rfl (tx K (pv 0))) (bN (K:=K) (n:=4) rfl rfl (cT (pn 3 cj.nd) (cT (pn 4 cj.nd) (cT (pn 5 cj.nd) (cT (pn 6 cj.nd) bL))))) (bf (pF (eU (K:=K) rfl (pv 6)) (bN (K:=K) (n:=5) rfl rfl (cT (pn 7 cj.nd) (cT (pn 8 cj.nd) (cT (pn 9 cj.nd) (cT (pn 10 cj.nd) (cT (pn 11 cj.nd) bL)))))) (bf (bq (PW.pt (gE (ir (gD (pv 11))) (fR (e8 (cZ (a7 hr) (pv 9) (pv 1)))))) (bf (cR (a7 hr) (pv 2) (pv 9) ib rfl)) cI))))) (bf (aJ (eh (iM rfl) (by rfl) T.cQ ff (aq (pv 2) aa))))))),?_⟩;walk_at "rd";refine⟨p,rfl,hp,hb.nm,hb.nd,λdO ms H1 s1 tab eo hdO d hd=>⟨_,aR.of (aU hd _ _ (s1 _ _ hp.top)),_,rfl,?_⟩⟩;have p1:=hp.mono s1;refine dv.of (xs:=p.aI.map aL.v) (λi σ H'=>∃b3 b4 b5 b6 b7 b8 b9 b10 b11,σ=[some p.v,some (V.ref dO),some (V.ref d),b3,b4,b5,b6,b7,b8,b9,b10,b11]/\ay H1 H'/\H' d=some (.dK (((aG (p.aI.take i)).foldl (iQ p) []).map kx)))
   ⟨_,_,_,_,_,_,_,_,_,rfl,aU hd,aE⟩ (λi σ H' _ ⟨_,_,_,_,_,_,_,_,_,_,sm,_⟩=>aD.of (sm _ _ p1.sl)) ?_ ?_
  ·rintro i x σ H' hx ⟨b3,b4,b5,b6,b7,b8,b9,b10,b11,rfl,sm,hd'⟩;walk_at "0";obtain⟨st,hst,rfl⟩:=d_.mp hx;have sa0:=p1.ss st (c_ hst);have sa:=sa0.mono sm;have tk:=k7 hst;have bd:=uR (p:=p) (i+1);have bd2:=hb.fl;rw[tk,cW]at bd;walk_at "rd";refine⟨_,aR.of sa.top,rfl,_,_,rfl,_,_,rfl,_,_,rfl,_,_,rfl,rfl,?_⟩;refine dv.of (xs:=st.fills.map ax.v) (λj σ H2=>∃b7 b8 b9 b10 b11,σ=[some p.v,some (V.ref dO),some (V.ref d),some (V.str st.kind),some (V.int st.step),some (V.ref st.lw),some (V.ref st.lf),b7,b8,b9,b10,b11]/\ay H1 H2/\H2 d=some (.dK (((aG (p.aI.take i)++st.fills.take j).foldl (iQ p) []).map kx)))
    ⟨_,_,_,_,_,rfl,sm,by rw[hd'];simp⟩ (λj σ H' _ ⟨_,_,_,_,_,_,sm,_⟩=>aD.of (sm _ _ sa0.fl)) ?_ ?_
   ·rintro j x σ H2 hx ⟨b7,b8,b9,b10,b11,rfl,sm2,hd2⟩;walk_at "0";obtain⟨f,hf,rfl⟩:=d_.mp hx;have fa:=sm2 _ _ (sa0.fs f (c_ hf));have tb:=tab.mono sm2;have hj:j<st.fills.length:=(ig.mp hf).1;have gO:bx H2 dO (V.str f.name) ((aB ms f.name).map λm=>V.ref m.t):=by rw[<-lO];exact bx.k (k:=Sum.inr f.name) tb.top
    walk_at "5";have ow:=FW eo f.name;have flen:((aG (p.aI.take i)++st.fills.take j).foldl (iQ p) []).length<=61:=by
     have h1:=lU p (aG (p.aI.take i)++st.fills.take j) [];rw[cW,jr,List.length_nil]at h1;omega
    have step:(aG (p.aI.take i)++st.fills.take (j+1)).foldl (iQ p) []=iQ p ((aG (p.aI.take i)++st.fills.take j).foldl (iQ p) []) f:=by rw[tj,MP];rfl
    walk_at "rd";refine⟨_,aR.of fa,rfl,_,_,rfl,_,_,rfl,_,_,rfl,_,_,rfl,_,_,rfl,rfl,_,rfl,dM (λh1=>⟨_,gO,dM (λh2=>?_) (λh2=>?_)⟩) (λh1=>?_)⟩
    ·rw[M8,ow]at h2;refine⟨_,eM.k (k:=Sum.inr f.name) hd2 (by rw[az,sizeLine_eq];omega),eR hd sm2,?_⟩;rw[aE,LJ,step,uT (by rw[h1,h2];rfl)]
    ·rw[M8,ow]at h2;refine⟨sm2,?_⟩;rw[hd2,step];rw[qS (by rw[lN];exact λz=>h2 z.2)]
    ·refine⟨sm2,?_⟩;rw[hd2,step];rw[qS (by rw[lN];exact λz=>h1 z.1)]
   ·rintro σ H2 ⟨b7,b8,b9,b10,b11,rfl,sm2,hd2⟩;rw[az,iF]at hd2;exact⟨_,_,_,_,_,_,_,_,_,rfl,sm2,by rw[hd2,tk]⟩
  ·rintro σ H' ⟨b3,b4,b5,b6,b7,b8,b9,b10,b11,rfl,sm,hd'⟩;rw[az,iF]at hd';have hle:(uQ p).length<=61:=f9 (lU p _ []) (by have:=hb.fl;simpa using this);walk_at "rd";have s2:=s1.trans sm;exact⟨_,hd',uQ p,Pf _,by omega,λl ss hl pm pw=>k l _ (s2.trans (aU hl)) ⟨ss,pm,pw,aE⟩ (eP s2 hl)⟩
theorem ME{β:Type}{es:List (Str×Addr×β)}{z:Str}(h:z∉es.map (·.1)):a8 (es.map λe=>((.inr e.1:Key),V.ref e.2.1)) (.inr z)=none:=by
 unfold a8;rw[v7.mpr]
 ·rfl
 ·intro x hx;obtain⟨e,he,rfl⟩:=aM.mp hx;intro q;exact h (aM.mpr ⟨e,he,Sum.inr.inj (of_decide_eq_true q)⟩)
theorem Ds{β:Type}{es:List (Str×Addr×β)}{z:Str}{v:V}(h:z∉es.map (·.1)):putK (es.map λe=>((.inr e.1:Key),V.ref e.2.1)) (.inr z) v=(es.map λe=>((.inr e.1:Key),V.ref e.2.1))++[(.inr z,v)]:=by
 unfold putK;rw[if_neg];intro q;obtain⟨x,hx,q⟩:=lP.mp q;obtain⟨e,he,rfl⟩:=aM.mp hx;exact h (aM.mpr ⟨e,he,Sum.inr.inj (of_decide_eq_true q)⟩)
theorem Mj{af:List (Key×V)}{k:Key}{v:V}(h:(k,v)∈af):∃v',a8 af k=some v'/\(k,v')∈af:=by
 unfold a8;cases hf:af.find? λkv=>decide (kv.1=k) with
 |none=>exact absurd (decide_eq_true (rfl:k=k)) (v7.mp hf (k,v) h)
 |some x=>
  have h1:=GD hf;have h2:=qw hf;refine⟨x.2,rfl,?_⟩;rw[<-(of_decide_eq_true h1:x.1=k)];exact h2
noncomputable def zF(H:Hp)(b:Addr):Str:=match H b with | some (.tup (.str n::_))=>n | _=>Str.ofString ""
noncomputable def rF(H:Hp)(b:Addr):List V:=match H b with | some (.tup (.str _::r))=>r | _=>[]
theorem G1(at_:∀p∈ps,p.At H)(nd:(ps.map ah.name).Nodup)(pm:bs.Perm (ps.map ah.t)):∃so:List ah,so.Perm ps/\so.map ah.t=bs:=by
 have one:∀p∈ps,∀q∈ps,p.t=q.t->p=q:=λp hp q hq e=>by
  have h1:=(at_ p hp).top;have h2:=(at_ q hq).top;rw[e,h2]at h1;have en:q.name=p.name:=by
   have:=Option.some.inj h1;injection this with this;injection this with this _;injection this
  obtain⟨i,hi,rfl⟩:=wm hp;obtain⟨j,hj,rfl⟩:=wm hq;have pw:=BZ.mp nd;rcases MY i j with z|z|z
  ·exact absurd (by rw[nO,nO];exact en.symm) (pw i j (by simpa using hi) (by simpa using hj) z)
  ·subst z;rfl
  ·exact absurd (by rw[nO,nO];exact en) (pw j i (by simpa using hj) (by simpa using hi) z)
 let g:Addr->ah:=λb=>(ps.find? λp=>decide (p.t=b)).getD ⟨0,0,0,Str.ofString "", [],[]⟩
 have hg:∀p∈ps,g p.t=p:=λp hp=>by
  show(ps.find? λq=>decide (q.t=p.t)).getD _=p;cases hf:ps.find? λq=>decide (q.t=p.t) with
  |none=>exact absurd (decide_eq_true rfl) (v7.mp hf p hp)
  |some q=>exact(one p hp q (qw hf) (of_decide_eq_true (GD (p:=λq:ah=>decide (q.t=p.t)) hf)).symm).symm
 refine⟨bs.map g,?_,?_⟩
 ·have:=pm.map g;rw[ck,(xq (f:=g ∘ ah.t) (g:=id) λp hp=>hg p hp),List.map_id]at this;exact this
 ·rw[ck];refine(xq (g:=id) λb hb=>?_).trans (List.map_id _);obtain⟨p,hp,rfl⟩:=aM.mp (pm.mem_iff.mp hb);show(g p.t).t=p.t;rw[hg p hp]
noncomputable def dB(p:ah)(s z:Str):Option (Str×Int×Int):=(p.aK.find? λn=>decide (n.name=z)&&decide (n.sort=s)).map λn=>(p.name,n.st,n.off)
noncomputable def dA(so:List ah)(s z:Str):Option (Str×Int×Int):=so.findSome? λp=>dB p s z
theorem fu(ms:List ao)(m:ao)(z:Str):aB (d7 ms m) z=if m.name=z then some m else aB ms z:=by
 unfold d7 aB;by_cases h:(ms.any λn=>decide (n.name=m.name))=true
 ·rw[if_pos h];by_cases e:m.name=z
  ·rw[if_pos e]
   induction ms with
   |nil=>cases h
   |cons n r ih=>
    rw[fH,BY];by_cases q:n.name=m.name
    ·rw[if_pos q,decide_eq_true e]
    ·rw[if_neg q,decide_eq_false (λy=>q (y.trans e.symm))];refine ih ?_;rw[M4,decide_eq_false q]at h;exact h
  ·rw[if_neg e];clear h
   induction ms with
   |nil=>rfl
   |cons n r ih=>
    rw[fH,BY,BY];by_cases q:n.name=m.name
    ·rw[if_pos q,decide_eq_false e,decide_eq_false (λy=>e (q.symm.trans y))];exact ih
    ·rw[if_neg q];by_cases y:n.name=z
     ·rw[decide_eq_true y]
     ·rw[decide_eq_false y];exact ih
 ·rw[if_neg h,IY];by_cases e:m.name=z
  ·rw[if_pos e,v7.mpr]
   ·rw[BY,decide_eq_true e];rfl
   ·intro n hn q;exact h (lP.mpr ⟨n,hn,decide_eq_true ((of_decide_eq_true q).trans e.symm)⟩)
  ·rw[if_neg e,BY,decide_eq_false e];cases ms.find? λn=>decide (n.name=z)<;>rfl
theorem sQ(h:(ms.map ao.name).Nodup):((d7 ms m).map ao.name).Nodup:=by
 unfold d7;by_cases q:(ms.any λn=>decide (n.name=m.name))=true
 ·rw[if_pos q,ck];have e:(ao.name ∘ λn=>if n.name=m.name then m else n)=ao.name:=by
   funext n;show ao.name (if n.name=m.name then m else n)=n.name;by_cases y:n.name=m.name
   ·rw[if_pos y,y]
   ·rw[if_neg y]
  rw[e];exact h
 ·rw[if_neg q,aY];refine f_.mpr ⟨h,by simp,λx hx y hy e=>?_⟩;obtain⟨n,hn,rfl⟩:=aM.mp hx;rw[List.map_singleton,bX]at hy;exact q (lP.mpr ⟨n,hn,decide_eq_true (e.trans hy)⟩)
theorem zX:∀(ns ms:List ao),cb (ms.map ao.kv) (ns.map ao.kv)=(ns.foldl d7 ms).map ao.kv
 |[],ms=>rfl
 |n::ns,ms=>by
  rw[fH,MC,<-zX ns,<-FD];rfl
theorem vG:∀{ns ms:List ao},(ms.map ao.name).Nodup->((ns.foldl d7 ms).map ao.name).Nodup
 |[],_,h=>h
 |n::ns,ms,h=>vG (ns:=ns) (sQ h)
theorem mY:∀{ns ms:List ao}{m:ao},m∈ns.foldl d7 ms->m∈ns\/m∈ms
 |[],_,_,h=>.inr h
 |n::ns,ms,m,h=>by
  rcases mY (ns:=ns) h with z|z
  ·exact .inl (ka _ z)
  ·rcases vW z with y|y
   ·exact .inr y
   ·exact .inl (y▸lE)
theorem mQ:∀{ns ms:List ao},(ns.foldl d7 ms).length<=ms.length+ns.length
 |[],_=>bC _
 |n::ns,ms=>by
  have h1:=mQ (ns:=ns) (ms:=d7 ms n);have h2:=iL (ms:=ms) (m:=n);rw[MC,je];omega
theorem lx:∀{ns ms:List ao}{z:Str},(ns.map ao.name).Nodup->aB (ns.foldl d7 ms) z=(aB ns z).or (aB ms z)
 |[],ms,z,_=>rfl
 |n::ns,ms,z,h=>by
  rw[fH]at h;obtain⟨h1,h2⟩:=j7.mp h;rw[MC,lx h2,fu];by_cases e:n.name=z
  ·rw[if_pos e];have:aB ns z=none:=v7.mpr λm hm q=>h1 (aM.mpr ⟨m,hm,(of_decide_eq_true q).trans e.symm⟩);rw[this];unfold aB;rw[BY,decide_eq_true e];rfl
  ·rw[if_neg e];unfold aB;rw[BY,decide_eq_false e]
theorem Bd(e:ms.map (λm=>(m.name,m.a,m.b,m.c))=(p.aK.filter λn=>decide (n.sort=s)).map (λn=>(n.name,p.name,n.st,n.off))):(aB ms z).map ao.vl=dB p s z:=by
 have h1:(aB ms z).map ao.vl=((ms.map (λm=>(m.name,m.a,m.b,m.c))).find? λt=>decide (t.1=z)).map (·.2):=by
  unfold aB;rw[Hs,Jr];rfl
 rw[h1,e,Hs,Jr,List.find?_filter];unfold dB;congr 1;refine congrArg (λf=>List.find? f p.aK) (funext λn=>?_);show decide (decide (n.sort=s)=true/\decide (n.name=z)=true)=_;by_cases a:n.name=z<;>by_cases b:n.sort=s<;>simp[a,b]
theorem Iz{p:ah}{s:Str}{ms:List ao}(h:(p.aK.map aj.name).Nodup)(e:ms.map (λm=>(m.name,m.a,m.b,m.c))=(p.aK.filter λn=>decide (n.sort=s)).map (λn=>(n.name,p.name,n.st,n.off))):(ms.map ao.name).Nodup:=by
 have e1:ms.map ao.name=(p.aK.filter λn=>decide (n.sort=s)).map aj.name:=by
  have:=congrArg (List.map (·.1)) e;rw[ck,ck]at this;exact this
 rw[e1];exact List.Nodup.sublist (List.Sublist.map _ List.filter_sublist) h
theorem Gd{p:ah}{s:Str}{ms:List ao}(e:ms.map (λm=>(m.name,m.a,m.b,m.c))=(p.aK.filter λn=>decide (n.sort=s)).map (λn=>(n.name,p.name,n.st,n.off))):ms.length<=p.aK.length:=by
 have:=congrArg List.length e;walk_at "4";have h1:=wc (λn:aj=>decide (n.sort=s)) p.aK;omega
theorem ng(h:dB p s z=some v):∃n∈p.aK,n.name=z/\n.sort=s/\v=Mq (p.name,n):=by
 unfold dB at h;obtain⟨n,h1,h2⟩:=d_.mp h;have h3:=GD h1;rw[lN]at h3;exact⟨n,qw h1,of_decide_eq_true h3.1,of_decide_eq_true h3.2,h2.symm⟩
theorem gM(h:dB p s z=none):∀n∈p.aK,n.name=z->n.sort≠s:=λn hn h1 h2=>by
 unfold dB at h;have:=v7.mp (Option.map_eq_none_iff.mp h) n hn;exact this (by rw[decide_eq_true h1,decide_eq_true h2];rfl)
theorem bu:r∈bQ ps↔∃p∈ps,p.name=r.1/\r.2∈p.aK:=by
 unfold bQ;rw[hW];constructor
 ·rintro⟨p,hp,h⟩;obtain⟨n,hn,rfl⟩:=aM.mp h;exact⟨p,hp,rfl,hn⟩
 ·rintro⟨p,hp,h1,h2⟩;exact⟨p,hp,aM.mpr ⟨r.2,h2,by rw[h1]⟩⟩
theorem Qo(pm:so.Perm ps)(pw:(so.map λp=>((p.name,0):aH)).Pairwise jE)(nd:(ms.map ao.name).Nodup)(h:∀z,(aB ms z).map ao.vl=(dA so cg z).or (dA so cO z)):eQ (bQ ps) ms:=by
 refine⟨nd,λz m hm=>?_,λz hz r hr hn=>?_⟩
 ·have e:=h z;rw[hm]at e;cases h1:dA so cg z with
  |some v=>
   rw[h1]at e;obtain⟨p,hp,hv⟩:=List.exists_of_findSome?_eq_some h1;obtain⟨n,hn,q1,q2,q3⟩:=ng hv;exact .inl ⟨(p.name,n),bu.mpr ⟨p,pm.mem_iff.mp hp,rfl,hn⟩,q1,q2,(Option.some.inj e).trans q3⟩
  |none=>
   rw[h1]at e;refine .inr ⟨λr hr hn=>?_,?_⟩
   ·obtain⟨p,hp,q1,q2⟩:=bu.mp hr;exact gM (List.findSome?_eq_none_iff.mp h1 p (pm.mem_iff.mpr hp)) r.2 q2 hn
   ·obtain⟨l1,p,l2,el,hv,nn⟩:=List.findSome?_eq_some_iff.mp (show dA so cO z=some (ao.vl m) from e.symm);obtain⟨n,hn,q1,q2,q3⟩:=ng hv;have hp:p∈so:=by rw[el];simp
    refine⟨(p.name,n),bu.mpr ⟨p,pm.mem_iff.mp hp,rfl,hn⟩,q1,q2,q3,λr' hr' n' s'=>?_⟩;obtain⟨q,hq,y1,y2⟩:=bu.mp hr';have hq':=pm.mem_iff.mpr hq;rw[el]at hq';rcases bF.mp hq' with y|y
    ·exact absurd s' (gM (nn q y) r'.2 y2 n')
    ·rcases iG.mp y with y|y
     ·rw[<-y1,y];exact List.lt_irrefl _
     ·rw[el,aY,fH]at pw;have:=(List.pairwise_cons.mp (QJ.mp pw).2.1).1 (q.name,0) (aM.mpr ⟨q,y,rfl⟩);show ¬r'.1.cps.toList<p.name.cps.toList;rw[<-y1];intro z;unfold jE at this;rw[(fz (q.name,0) (p.name,0)).mpr (.inl z)]at this;cases this
 ·have e:=h z;rw[hz]at e;have e:(dA so cg z).or (dA so cO z)=none:=e.symm;obtain⟨e1,e2⟩:=Qz.mp e;obtain⟨p,hp,q1,q2⟩:=bu.mp hr;have hp':=pm.mem_iff.mpr hp;exact⟨gM (List.findSome?_eq_none_iff.mp e1 p hp') r.2 q2 hn,gM (List.findSome?_eq_none_iff.mp e2 p hp') r.2 q2 hn⟩
theorem xU(so:List ah)(s z:Str)(b:Option (Str×Int×Int)):so.reverse.foldl (λb p=>(dB p s z).or b) b=(dA so s z).or b:=by
 induction so with
 |nil=>rfl
 |cons p r ih=>
  rw[List.reverse_cons,MP,ih];unfold dA;rw[List.findSome?_cons];show(dB p s z).or ((r.findSome? λp=>dB p s z).or b)=_;cases dB p s z<;>rfl
structure S5(H:Hp)(d:Addr)(es:List (Str×Addr×Str)):Prop where
 top:H d=some (.dK (es.map λe=>((.inr e.1:Key),V.ref e.2.1)))
 one:∀e∈es,H e.2.1=some (.lst [.str e.2.2])
theorem NU(T:Txt K mg A):bg P w K mg base dm 2 A.Np A.oN ["ordered"] A9:=by
 refine T.yH.ok kM (λvs H Q E h=>?_) (λcdv Ar outer s H vs Q E hr h=>?_)
 ·obtain⟨L,ps,rfl,_⟩:=h;rfl
 ·obtain⟨L,ps,rfl,hP,hN,k⟩:=h;refine⟨_,(aQ (pS 1 kM.nd cF) (aQ (pF (eU (K:=K) rfl (pv 0)) (pn 2 kM.nd) (bf (pF (oO (pC (zt T) hr T.vh T.nY T.m6 (aq (pv 2) (aq a5 aa)))) (pn 3 kM.nd) (bf (dY (cJ (E5 (a7 hr) (pv 1) (pv 3) (a9 aa) ⟨rfl,rfl,rfl,rfl⟩) (aq (tx K (pv 2)) aa))))))) (aQ (fV (i:=4) kM.nd rfl (by walk_at "o") (l8 (own:=["name"]) (fr:=["tellers"]) (fm:=[1]) rfl (by decide +kernel) (by decide +kernel) (by decide +kernel) (.cons rfl (by walk_at "o") rfl .nil)) rfl (oO (pv 1)) (λ_ _ _=>⟨(pn 0 (by walk_at "n")),(gQ (fF Pg (eh (j8 (K:=K) rfl) (by rfl) T.dJ dj (aq (bU (a7 hr) (pv 1) (pv 0) (λ_ _=>rfl)) aa)) ag (aS _))),(pv 0)⟩)) (bf (bq (md (pv 4) (λ_=>rfl)) (aQ eC (bf eC)) cI))))),?_⟩;walk_at "rd";intro d hd;refine dv.of (xs:=ps.map ah.v) (λi σ H'=>∃(es:List (Str×Addr×Str)) (b2 b3:Option V),σ=[some (.ref L),some (.ref d),b2,b3,none,none]/\ay H H'/\S5 H' d es/\es.length<=61*i/\∀e∈es,∃p∈ps.take i,∃n∈p.aK,n.sort=cg/\n.name=e.1)
   ⟨[],_,_,rfl,aU hd,⟨aE,λe he=>by cases he⟩,by simp,λe he=>by cases he⟩ ?_ ?_ ?_
  ·rintro i σ H' hi ⟨es,b2,b3,rfl,s1,_⟩;exact aD.of (s1 _ _ hP.top)
  ·rintro i v σ H' hv ⟨es,b2,b3,rfl,s1,tw,el,ek⟩;walk_at "6";walk_at "7";have hm:=c_ hp;have pa:=(hP.at_ p hm).mono s1;obtain⟨n1,n2⟩:=hN.aK p hm;walk_at "rd";refine⟨p,rfl,pa,n1,n2,λd2 ms H2 s2 tab em f2=>?_⟩;refine Cr.of tab.top (λo j σ H3=>∃(es':List (Str×Addr×Str)) (b3:Option V),σ=[some (.ref L),some (.ref d),some p.v,b3,none,none]/\ay H H3/\H3 d2=some (.d9 o (.dK (ms.map ao.kv)))/\S5 H3 d es'/\es'.map (·.1)=es.map (·.1)++(ms.take j).map ao.name) ?_ ?_ ?_ ?_
   ·intro o;have nd2:d2≠d:=λe=>by rw[e,tw.top]at f2;cases f2
    have nf:∀x u,H' x=some u->upd H2 d2 (.d9 o (.dK (ms.map ao.kv))) x=some u:=λx u e=>by rw[ae (bH e f2)];exact s2 _ _ e
    exact⟨es,_,rfl,λx u e=>nf x u (s1 _ _ e),aE,⟨nf _ _ tw.top,λe he=>nf _ _ (tw.one e he)⟩,by simp⟩
   ·rintro o j σ H3 hj ⟨es',b3,rfl,s3,hz,_⟩;exact hz
   ·rintro o j pr σ H3 hv ⟨es',b3,rfl,s3,hz,tw',ek'⟩;walk_at "6";obtain⟨m,hj,rfl⟩:=d_.mp hv;have new:m.name∉es'.map (·.1):=by
     have nn:∀m∈ms,∃n∈p.aK,n.sort=cg/\n.name=m.name:=λm hm=>by
      have:(m.name,m.a,m.b,m.c)∈ms.map λm=>(m.name,m.a,m.b,m.c):=aM.mpr ⟨m,hm,rfl⟩;rw[em]at this;obtain⟨n,hn,e⟩:=aM.mp this;obtain⟨q1,q2⟩:=uI.mp hn;exact⟨n,q1,of_decide_eq_true q2,congrArg (·.1) e⟩
     have mnd:(ms.map ao.name).Nodup:=by
      have e1:ms.map ao.name=(p.aK.filter λn=>decide (n.sort=cg)).map aj.name:=by
       have:=congrArg (List.map (·.1)) em;rw[ck,ck]at this;exact this
      rw[e1];exact List.Nodup.sublist (List.Sublist.map _ List.filter_sublist) n2
     rw[ek'];intro z;rcases bF.mp z with z|z
     ·obtain⟨e,he,ee⟩:=aM.mp z;obtain⟨q,hq,n,hn,q1,q2⟩:=ek e he;obtain⟨n',hn',q3,q4⟩:=nn m (c_ hj);have pw:=hN.tw;obtain⟨k',hk',hqk⟩:=wm hq;rw[jr]at hk';rw[List.getElem_take]at hqk;have pi:=(ig.mp hp)
      obtain⟨pi1,pi2⟩:=pi;have:=BZ.mp pw k' i (by omega) pi1 (by omega);rw[hqk,pi2]at this;exact this n hn n' hn' q1 q3 (by rw[q2,q4,ee])
     ·have:(ms.take (j+1)).map ao.name=(ms.take j).map ao.name++[m.name]:=by rw[fX,hj,aY];rfl
      have nd':((ms.take (j+1)).map ao.name).Nodup:=List.Nodup.sublist (List.Sublist.map _ (Kf _ _)) mnd;rw[this]at nd';exact(f_.mp nd').2.2 _ z _ (by simp) rfl
    have pa3:=(hP.at_ p hm).mono s3;walk_at "rd";have vn:a8 (es'.map λe=>((.inr e.1:Key),V.ref e.2.1)) (.inr m.name)=none:=ME new;have pn:putK (es'.map λe=>((.inr e.1:Key),V.ref e.2.1)) (.inr m.name) (V.ref 0)=(es'.map λe=>((.inr e.1:Key),V.ref e.2.1))++[(.inr m.name,V.ref 0)]:=Ds new;have el':=congrArg List.length ek';rw[cW,az,az,az,jr]at el';have ml:ms.length<=61:=by
     have:=congrArg List.length em;walk_at "4";have h1:=wc (λn:aj=>decide (n.sort=Str.ofString "tell")) p.aK;omega
    have il:=(ig.mp hp).1;have fw:=hN.cy;refine⟨.inl ⟨_,.inl tw'.top⟩,fe _,λl hl=>?_⟩;have sl:=aU (o:=HO.lst []) hl;have nl:d≠l:=bH tw'.top hl;refine⟨none,.inl ⟨_,.inr m.name,.inl (sl _ _ tw'.top),rfl,vn.symm⟩,_,eM.k (k:=.inr m.name) (sl _ _ tw'.top) (by rw[az,sizeLine_eq];omega),(λv hv=>by cases hv),λ_=>?_⟩;have l1:upd (upd H3 l (.lst [])) d (.dK (putK (es'.map λe=>((.inr e.1:Key),V.ref e.2.1)) (.inr m.name) (.ref l))) l=some (.lst []):=by rw[ae (Ne.symm nl),aE]
    have tp:upd (upd H3 l (.lst [])) d (.dK (putK (es'.map λe=>((.inr e.1:Key),V.ref e.2.1)) (.inr m.name) (.ref l))) p.t=some (.tup [.str p.name,.ref p.ls,.ref p.ln]):=by
     rw[ae (bD pa3.top tw'.top (by intro z;cases z))];exact sl _ _ pa3.top
    refine⟨.inl ⟨rfl,_,aD.of l1⟩,_,aR.of tp,_,rfl,_,l1,by walk_at "s", ?_,?_,es'++[(m.name,l,p.name)],⟨?_,λe he=>?_⟩,?_⟩
    ·exact eR (s3.free hl) (eR hd (s3.trans sl))
    ·have n2':d2≠d:=λe=>by rw[e,tw'.top]at hz;cases hz
     rw[ae (bH hz hl),ae n2'];exact sl _ _ hz
    ·rw[ae nl,aE,Ds new,aY];rfl
    ·rcases bF.mp he with z|z
     ·have e1:=tw'.one e z;rw[ae (bH e1 hl),ae (bD e1 tw'.top (by intro z;cases z))];exact sl _ _ e1
     ·rw[bX.mp z];exact aE
    ·rw[aY,ek',tI,fX,hj,aY];rfl
   ·rintro o σ H3 ⟨es',b3,rfl,s3,hz,tw',ek'⟩;rw[az,iF]at ek';have ml:ms.length<=61:=by
     have:=congrArg List.length em;walk_at "4";have h1:=wc (λn:aj=>decide (n.sort=Str.ofString "tell")) p.aK;omega
    have el':=congrArg List.length ek';rw[cW,az,az,az]at el';walk_at "8";refine⟨es',_,_,rfl,s3,tw',by omega,λe he=>?_⟩;have:e.1∈es'.map (·.1):=aM.mpr ⟨e,he,rfl⟩;rw[ek']at this;rcases bF.mp this with z|z
    ·obtain⟨e0,he0,e1⟩:=aM.mp z;obtain⟨q,hq,n,hn,q1,q2⟩:=ek e0 he0;exact⟨q,by rw[tk];exact gC _ hq,n,hn,q1,by rw[q2,e1]⟩
    ·obtain⟨m,hm',e1⟩:=aM.mp z;have:(m.name,m.a,m.b,m.c)∈ms.map λm=>(m.name,m.a,m.b,m.c):=aM.mpr ⟨m,hm',rfl⟩;rw[em]at this;obtain⟨n,hn,e2⟩:=aM.mp this;obtain⟨q1,q2⟩:=uI.mp hn;exact⟨p,by rw[tk];simp,n,q1,of_decide_eq_true q2,by rw[<-e1];exact congrArg (·.1) e2⟩
  ·rintro σ H' ⟨es,b2,b3,rfl,s1,tw,el,ek⟩;walk_at "rd";rw[az]at el;have cy:=hN.cy;refine An.of (by rw[az,sizeLine_eq];omega) tw.top (λo D i ys H2=>ys=[]/\H2=upd (upd H' d (.d9 o (.dK (es.map λe=>((.inr e.1:Key),V.ref e.2.1))))) D (.lst [])) (λo D hD=>⟨rfl,rfl⟩) ?_ ?_ ?_
   ·rintro o D i ys H2 hD hi ⟨rfl,rfl⟩;exact⟨by rw[ae (bH tw.top hD),aE],aE,fe _⟩
   ·rintro o D i pr ys H2 hD hv ⟨rfl,rfl⟩;walk_at "6";obtain⟨e,he,rfl⟩:=d_.mp hv;walk_at "rd";obtain⟨v',v1,v2⟩:=Mj (aM.mpr ⟨e,c_ he,rfl⟩:((.inr e.1:Key),V.ref e.2.1)∈es.map λe=>((.inr e.1:Key),V.ref e.2.1));obtain⟨e',he',ee⟩:=aM.mp v2;have ev:V.ref e'.2.1=v':=congrArg (·.2) ee;subst ev;have hd2:upd (upd H' d (.d9 o (.dK (es.map λe=>((.inr e.1:Key),V.ref e.2.1))))) D (.lst []) d=some (.d9 o (.dK (es.map λe=>((.inr e.1:Key),V.ref e.2.1)))):=by rw[ae (bH tw.top hD),aE]
    have o1:=tw.one e' he';refine⟨.no (.yes .nil),_,.inl ⟨_,.inr e.1,.inr ⟨o,hd2⟩,rfl,v1.symm⟩,1,.inl ⟨[.str e'.2.2],aD.of (by rw[ae (bH o1 hD),ae (bD o1 tw.top (by intro z;cases z))];exact o1),rfl⟩,?_⟩;rw[if_neg (by decide)];trivial
   ·rintro o D ys H2 hD ⟨rfl,rfl⟩;refine⟨false,.inl ⟨[],aD.of aE,rfl⟩,?_⟩;rw[if_neg (by decide)];exact k _ (eR (s1.free hD) (eR hd s1))
theorem HB.perm(h:HB ps)(pm:so.Perm ps):HB so:=
 ⟨by rw[pm.length_eq];exact h.cy,(pm.map _).nodup_iff.mpr h.nd,λp hp=>h.aK p (pm.mem_iff.mp hp),(pm.pairwise_iff λ{x y} r a ha b hb h1 h2 e=>r b hb a ha h2 h1 e.symm).mpr h.tw⟩
theorem Qv(T:Txt K mg A):bg P w K mg base dm 6 A.OI A.lQ ["pieces"] (w_ A):=by
 refine T.yo.SQ T.Dc l9 (λvs H Q E h=>?_) (λc cdv Ar outer s H vs Q E hcd hcc hr h=>?_)
 ·obtain⟨L,ps,rfl,_⟩:=h;rfl
 ·obtain⟨L,ps,rfl,hP,hN,tb,k⟩:=h;refine⟨_,(aQ (pS 1 l9.nd (uS (K:=K) (P:=A.br) (y := "piece") rfl (hr.mono (by decide)) (pv 0) (by rfl) T.cQ hcd hcc T.bm ⟨rfl,rfl,rfl,by decide +kernel,rfl,by decide +kernel,by decide +kernel⟩ (λ_ _ _ _ _ _=>(tx K (pv 0))))) (aQ (dY (pC (NU T) hr T.JR T.DF T.C2 (aq (pv 1) aa))) (aQ (pS 2 l9.nd cF) (aQ (pF (Io (K:=K) rfl (aX (aq a5 (aq a5 aa)))) (pn 3 l9.nd) (bf (pF (L4 (K:=K) rfl rfl T.fO (pv 1)) (pn 4 l9.nd) (bf (dY (FT PySem.F.plainAttrs_dict PySem.F.slot_dict_update PySem.F.type_dict_update wD (pv 2) (aq (pC (zt T) hr T.vh T.nY T.m6 (aq (pv 4) (aq (pv 3) aa))) aa))))))) (bf (aJ (pv 2))))))),?_⟩;walk_at "rd";obtain⟨ps0,hT,_⟩:=id tb;have hz:∀p∈ps,zF H p.t=p.name/\rF H p.t=[.ref p.ls,.ref p.ln]:=λp hp=>by
   unfold zF rF;rw[(hP.at_ p hp).top];exact⟨rfl,rfl⟩
  refine⟨ps.map ah.t,by rw[ck];exact aD.of hP.top,zF H,rF H,λb hb=>?_,by rw[az];have:=hN.cy;omega,tb,λl bs H2 l0 pm pw sx tb2 hl=>?_⟩
  ·obtain⟨p,hp,rfl⟩:=aM.mp hb;rw[(hz p hp).1,(hz p hp).2];exact(hP.at_ p hp).top
  obtain⟨so,sp,rfl⟩:=G1 hP.at_ hN.nd pm;have pw2:(so.map λp=>((p.name,0):aH)).Pairwise jE:=by
   rw[ck]at pw
   rwa [xq (g:=λp:ah=>((p.name,0):aH)) λp hp=>by show(zF H p.t,(0:Int))=_;rw[(hz p (sp.mem_iff.mp hp)).1]]at pw
  have hP2:PL H2 l so:=⟨by rw[ck]at hl;exact hl,λp hp=>(hP.at_ p (sp.mem_iff.mp hp)).keep hT sx⟩
  have hN2:=hN.perm sp;refine⟨so,hP2,hN2,λH3 s3 d hd=>⟨by rw[sizeLine_eq];decide,λq hq=>?_⟩⟩;have s4:=aU (o:=HO.dK []) hd;have s5:=aU (o:=HO.tup [V.str (Str.ofString "weak"),V.str (Str.ofString "tell")]) hq;have d5:upd (upd H3 d (.dK [])) q (.tup [V.str (Str.ofString "weak"),V.str (Str.ofString "tell")]) d=some (.dK []):=s5 _ _ aE;have q5:upd (upd H3 d (.dK [])) q (.tup [V.str (Str.ofString "weak"),V.str (Str.ofString "tell")]) q=some (.tup [V.str (Str.ofString "weak"),V.str (Str.ofString "tell")]):=aE;have s25:ay H2 (upd (upd H3 d (.dK [])) q (.tup [V.str (Str.ofString "weak"),V.str (Str.ofString "tell")])):=s3.trans (s4.trans s5);have d2:H2 d=none:=s3.free hd;have ndq:d≠q:=bH (aE (H:=H3) (a:=d) (o:=HO.dK [])) hq;have cy:=hN2.cy;generalize upd (upd H3 d (.dK [])) q (.tup [V.str (Str.ofString "weak"),V.str (Str.ofString "tell")])=H5 at *;refine IK.of (xs:=[V.str (Str.ofString "weak"),V.str (Str.ofString "tell")]) (λa σ H'=>∃(ms:List ao) (b3 b4:Option V),σ=[some (.ref L),some (.ref l),some (.ref d),b3,b4]/\ay H2 H'/\H' q=some (.tup [V.str (Str.ofString "weak"),V.str (Str.ofString "tell")])/\Tab H' d ms/\ms.length<=61*14*a/\(ms.map ao.name).Nodup/\∀z,(aB ms z).map ao.vl=if a=0 then none else if a=1 then dA so cO z else (dA so cg z).or (dA so cO z))
   ⟨[],_,_,rfl,s25,q5,⟨d5,λm hm=>by cases hm⟩,by simp,by simp,λz=>rfl⟩ ?_ ?_ ?_
  ·rintro a σ H' ha ⟨ms,b3,b4,rfl,s6,hq6,_⟩;exact aR.of hq6
  ·rintro a v σ H' hv ⟨ms,b3,b4,rfl,s6,hq6,tab,len,nd,look⟩;obtain⟨s,hs,rfl,ha⟩:∃s:Str,True/\v=.str s/\((a=0/\s=cO)\/(a=1/\s=cg)):=by
    match a,hv with
    |0,hv=>cases hv;exact⟨_,trivial,rfl,.inl ⟨rfl,rfl⟩⟩
    |1,hv=>cases hv;exact⟨_,trivial,rfl,.inr ⟨rfl,rfl⟩⟩
   walk_at "rd";refine Ib.of (xs:=so.map ah.v) (λi σ H'=>∃(ms':List ao) (b4:Option V),σ=[some (.ref L),some (.ref l),some (.ref d),some (.str s),b4]/\ay H2 H'/\H' q=some (.tup [V.str (Str.ofString "weak"),V.str (Str.ofString "tell")])/\Tab H' d ms'/\ms'.length<=61*14*a+61*i/\(ms'.map ao.name).Nodup/\∀z,(aB ms' z).map ao.vl=(so.reverse.take i).foldl (λb p=>(dB p s z).or b) ((aB ms z).map ao.vl))
    ⟨ms,_,rfl,s6,hq6,tab,by omega,nd,λz=>rfl⟩ ?_ ?_ ?_
   ·rintro i σ H7 hi ⟨ms',b4,rfl,s7,_⟩;exact aD.of (s7 _ _ hP2.top)
   ·rintro i v σ H7 hv ⟨ms',b4,rfl,s7,hq7,tab7,len7,nd7,look7⟩;rw[<-List.map_reverse,gh]at hv;walk_at "7";have pm':p∈so:=List.mem_reverse.mp (c_ hp);have il:=(ig.mp hp).1;rw[List.length_reverse]at il;have pa:=(hP2.at_ p pm').mono s7;obtain⟨n1,n2⟩:=hN2.aK p pm';walk_at "rd";refine⟨.inr (.inr (.inl ⟨rfl,.inl ⟨_,tab7.top⟩⟩)),p,rfl,pa,n1,n2,λd8 ns H8 s8 tab8 em f8=>?_⟩;have nd8:d≠d8:=bH tab7.top f8;have tl:=Gd em;have tab7':=tab7.mono s8;refine⟨_,tab7'.top,_,tab8.top,nd8,by rw[az,az];rcases ha with ⟨rfl,_⟩|⟨rfl,_⟩<;>omega,?_⟩;rw[zX];refine⟨eR d2 (s7.trans s8),?_,ns.foldl d7 ms',⟨aE,λm hm=>?_⟩,?_,vG nd7,λz=>?_⟩
    ·rw[ae (bD hq7 tab7.top (by intro z;cases z))];exact s8 _ _ hq7
    ·have key:ao.At H8 m:=(mY hm).elim (λy=>tab8.at_ m y) λy=>tab7'.at_ m y;unfold ao.At;rw[ae (bD key tab7'.top (by intro z;cases z))];exact key
    ·have:=mQ (ns:=ns) (ms:=ms');omega
    ·rw[lx (Iz n2 em),fX,hp,MP];show _=(dB p s z).or _;rw[<-look7 z,<-Bd em];cases aB ns z<;>rfl
   ·rintro σ H7 ⟨ms',b4,rfl,s7,hq7,tab7,len7,nd7,look7⟩;rw[az]at len7;refine⟨ms',_,_,rfl,s7,hq7,tab7,by omega,nd7,λz=>?_⟩;rw[look7 z,az,List.take_of_length_le (by rw[List.length_reverse];exact bC _),xU,look z];rcases ha with ⟨rfl,rfl⟩|⟨rfl,rfl⟩
    ·show(dA so cO z).or none=dA so cO z;rw[Option.or_none]
    ·rfl
  ·rintro σ H' ⟨ms,b3,b4,rfl,s6,hq6,tab,len,nd,look⟩;walk_at "rd";have dP:d≠A.br:=λe=>by
    obtain⟨_,e1,_⟩:=tb2;rw[e,e1]at d2;cases d2
   exact k d ms H' (λb o n e=>s6 _ _ (sx b o n e)) (tb2.more s6) tab (Qo sp pw2 nd λz=>by rw[look z];rfl) (sx.free dP d2)
theorem Ic(h0:0<=i)(h1:i<37)(g0:0<=j)(g1:j<37)(e:sgn i=sgn j):i=j:=by
 obtain⟨m,rfl⟩:=Pj h0;obtain⟨n,rfl⟩:=Pj g0;have hm:m<37:=by omega
 have hn:n<37:=by omega
 have:∀a:Nat,a<37->∀b:Nat,b<37->sgn (a:Int)=sgn (b:Int)->a=b:=by decide +kernel
 rw[this m hm n hn e]
theorem kO(h0:0<=k)(h1:k<16)(g0:0<=k')(g1:k'<16)(e:nameOf t k=nameOf t k'):k=k':=by
 unfold nameOf at e;by_cases hc:t/256%3=0
 ·have l:=congrArg Str.length e;rw[fE,fE]at l;unfold fb at l;rw[if_pos hc,if_pos hc]at l;omega
 ·unfold fb at e;rw[if_neg hc,if_neg hc]at e;have a0:0<=t/16%(1+t%16):=Int.emod_nonneg _ (by omega);have a1:t/16%(1+t%16)<1+t%16:=Int.emod_lt_of_pos _ (by omega);have ea:rX t=t/16%(1+t%16):=by unfold rX;rw[if_neg hc]
  obtain⟨j,ej⟩:=Pj a0;have hj:j<(1+t%16).toNat:=by omega
  have e1:=congrArg (λz:Str=>z.cps.toList[j]?) e;have get:∀k:Int,(j_ t k (1+t%16).toNat).cps.toList[j]?=some (sgn (jL t k j)):=λk=>by
   unfold j_;simp[hj]
  have e2:sgn (jL t k j)=sgn (jL t k' j):=by
   have e1:(j_ t k (1+t%16).toNat).cps.toList[j]?=(j_ t k' (1+t%16).toNat).cps.toList[j]?:=e1;rw[get,get]at e1;exact Option.some.inj e1
  have e3:=Ic (eY t k j).1 (eY t k j).2 (eY t k' j).1 (eY t k' j).2 e2;unfold jL at e3;rw[decide_eq_true (show(j:Int)=rX t by rw[ea,ej])]at e3;simp only[if_true,Int.mul_one]at e3;generalize t/((j:Int)+3)+(j:Int)*(j:Int)=y at e3;by_cases hj0:(j:Int)=0
  ·rw[decide_eq_true hj0]at e3;simp at e3;omega
  ·rw[decide_eq_false hj0]at e3;simp at e3;omega
theorem u9:∀n:Nat,n<=12->(((List.range n).map λi:Nat=>nameOf t i)++[nameOf t 14]).Nodup:=λn hn=>by
 rw[f_];refine⟨?_,by simp,λx hx y hy e=>?_⟩
 ·rw[List.Nodup,NL];refine List.Pairwise.imp_of_mem (λ{a b} ha hb hne e=>hne ?_) (List.nodup_range (n:=n));have:=kO (k:=(a:Int)) (k':=(b:Int)) (by omega) (by have:=yJ.mp ha;omega) (by omega) (by have:=yJ.mp hb;omega) e;omega
 ·obtain⟨i,hi,rfl⟩:=aM.mp hx;rw[bX.mp hy]at e;have:=kO (k:=(i:Int)) (k':=14) (by omega) (by have:=yJ.mp hi;omega) (by omega) (by omega) e;have:=yJ.mp hi;omega
theorem rV{l:List Nat}{x:Nat}(h:x∈l):x<=l.sum:=by
 induction l with
 |nil=>cases h
 |cons a l ih=>
  rw[List.sum_cons];rcases iG.mp h with e|e
  ·omega
  ·have:=ih e;omega
theorem Drawn.pc(d:Drawn c t n ps)(h:p∈ps):(p.name.length<=16/\Sg p.name)/\p.aK.length<=n/\p.aI.length<=n/\∀s∈p.aI,s.words.length<=n/\s.fills.length<=n:=by
 have h1:p.size<=n:=f9 (rV (aM.mpr ⟨p,h,rfl⟩)) d.size;have h2:p.name∈(List.range ps.length).map λi:Nat=>nameOf t i:=by rw[<-d.names];exact aM.mpr ⟨p,h,rfl⟩
 obtain⟨i,_,e⟩:=aM.mp h2;unfold ah.size at h1;refine⟨by rw[<-e];exact BE t i (Int.natCast_nonneg i),by omega,by omega,λs hs=>?_⟩;have h3:=rV (aM.mpr ⟨s,hs,rfl⟩:s.words.length∈p.aI.map λs=>s.words.length);have h4:=((d.ok p h).aI s hs).cy;exact⟨by omega,by omega⟩
theorem nV:∀{ss:List aL},(∀s∈ss,s.fills.length<=s.words.length)->(aG ss).length<=(ss.map λs=>s.words.length).sum
 |[],_=>bC _
 |s::ss,h=>by
  have h1:=nV (ss:=ss) λr hr=>h r (.tail _ hr);have h2:=h s (.head _);unfold aG at h1 ⊢;rw[List.flatMap_cons,cW,fH,List.sum_cons];omega
theorem Drawn.uW(d:Drawn c t n ps)(hn:n<=61)(h:p∈ps):n_ p:=by
 have h1:p.size<=n:=f9 (rV (aM.mpr ⟨p,h,rfl⟩)) d.size;obtain⟨_,h2,h3,h4⟩:=d.pc h;have h5:=nV λs hs=>((d.ok p h).aI s hs).cy;unfold ah.size at h1;exact⟨by omega,by omega,λs hs=>⟨f9 (h4 s hs).1 hn,f9 (h4 s hs).2 hn⟩,by omega,(d.ok p h).nd⟩
theorem HM(b:n_ p):(fY p).length<=61:=by
 unfold fY;rw[az];exact f9 (wc _ _) b.nm
theorem lX:z∈fY p↔cA z (ar p)=true:=by
 unfold fY cA ar;simp only[List.any_map,List.any_eq_true,List.mem_map,List.mem_filter];constructor
 ·rintro⟨n,⟨h1,h2⟩,rfl⟩;have h2:n.sort≠cS:=of_decide_eq_true h2;refine⟨n,h1,?_⟩;show(decide (n.name=n.name) && !decide (n.sort=cS))=true;rw[decide_eq_true rfl,decide_eq_false h2];rfl
 ·rintro⟨n,h1,h2⟩;have h2:(decide (n.name=z) && !decide (n.sort=cS))=true:=h2;rw[lN,Bool.not_eq_true',decide_eq_false_iff_not]at h2;exact⟨n,⟨h1,decide_eq_true h2.2⟩,of_decide_eq_true h2.1⟩
def yD(p:ah)(z:Str):Prop:=∃f∈aG p.aI,(!f.soft && !cB p f.name)=true/\f.name=z
theorem FN(p:ah)(z:Str):DT z (ar p)=cB p z:=by
 unfold DT cB ar;rw[GF];rfl
theorem fC:yD p z↔bW z (ar p)=true:=by
 unfold yD bW;rw[FN,lN];have e:(ar p).2.2=p.aI.map aL.e:=rfl;rw[e,GF,lP];constructor
 ·rintro⟨f,hf,h,rfl⟩;obtain⟨s,hs,hf⟩:=hW.mp hf;rw[lN]at h;exact⟨h.2,s,hs,lP.mpr ⟨ax.e f,aM.mpr ⟨f,hf,rfl⟩,by rw[lN];exact⟨decide_eq_true rfl,h.1⟩⟩⟩
 ·rintro⟨h0,s,hs,h⟩;obtain⟨g,hg,h⟩:=lP.mp h;obtain⟨f,hf,rfl⟩:=aM.mp hg;rw[lN]at h;have hn:f.name=z:=of_decide_eq_true h.1;exact⟨f,hW.mpr ⟨s,hs,hf⟩,by rw[lN,hn];exact⟨h.2,h0⟩,hn⟩
theorem G3:z∈addW W y↔z∈W\/z=y:=by
 unfold addW;split
 ·rename_i h;exact⟨.inl,λq=>q.elim id λe=>e▸h⟩
 ·simp
theorem vD(p:ah){z:Str}:∀(fs:List ax) (W:List Str),z∈fs.foldl (iQ p) W↔z∈W\/∃f∈fs,(!f.soft && !cB p f.name)=true/\f.name=z
 |[],W=>by simp
 |f::fs,W=>by
  rw[MC,vD p fs];by_cases h:(!f.soft && !cB p f.name)=true
  ·rw[uT h,G3];constructor
   ·rintro ((q|q)|⟨g,hg,q⟩)
    ·exact .inl q
    ·exact .inr ⟨f,lE,h,q.symm⟩
    ·exact .inr ⟨g,ka _ hg,q⟩
   ·rintro (q|⟨g,hg,q⟩)
    ·exact .inl (.inl q)
    ·rcases iG.mp hg with e|e
     ·exact .inl (.inr (by rw[<-q.2,e]))
     ·exact .inr ⟨g,e,q⟩
  ·rw[qS h];constructor
   ·rintro (q|⟨g,hg,q⟩)
    ·exact .inl q
    ·exact .inr ⟨g,ka _ hg,q⟩
   ·rintro (q|⟨g,hg,q⟩)
    ·exact .inl q
    ·rcases iG.mp hg with e|e
     ·rw[e]at q;exact absurd q.1 h
     ·exact .inr ⟨g,e,q⟩
theorem ve:z∈uQ p↔bW z (ar p)=true:=by
 rw[<-fC];unfold uQ;rw[vD];simp[yD]
theorem dy(ps:List ah)(z:Str):cH (ps.map ar) z=(bo ps z).map ar:=by
 unfold cH bo;rw[Hs];rfl
theorem xI(s:dC H H'){b:Addr}{xs:List V}(h:H b=some (.lst xs)):H' b=some (.lst xs):=s b _ (.inl ⟨_,rfl⟩) h
theorem IJ(s:dC H H'){b:Addr}{xs:List V}(h:H b=some (.tup xs)):H' b=some (.tup xs):=s b _ (.inr ⟨_,rfl⟩) h
theorem AE(s:dC H H'){p:ah}(q:p.At H):p.At H':=
 ⟨IJ s q.top,xI s q.sl,xI s q.nl,λst hs=>have y:=q.ss st hs;⟨IJ s y.top,xI s y.wd,xI s y.fl,λf hf=>IJ s (y.fs f hf)⟩,λn hn=>IJ s (q.ns n hn)⟩
theorem JI(s:dC H H')(h:PL H L ps):PL H' L ps:=⟨xI s h.top,λp hp=>AE s (h.at_ p hp)⟩
theorem ko(s:ay H H'):dC H H':=λb o _ e=>s b o e
theorem lt_trans(s:dC H H')(t:dC H' H''):dC H H'':=λb o h e=>t b o h (s b o h e)
theorem GS(hx:H x=some u)(n:(∀xs,u≠.lst xs)/\∀xs,u≠.tup xs)(s:∀b o,b≠x->H b=some o->H' b=some o):dC H H':=λb o h e=>s b o (λq=>by
 rw[q,hx]at e;have e:=Option.some.inj e;rcases h with ⟨xs,h⟩|⟨xs,h⟩
 ·exact n.1 xs (e.trans h)
 ·exact n.2 xs (e.trans h)) e
theorem gK(h:PL H L ps)(s:ay H H'):PL H' L ps:=⟨s _ _ h.top,λp hp=>(h.at_ p hp).mono s⟩
theorem kU(h:v5 H S xs)(s:ay H H'):v5 H' S xs:=⟨s _ _ h.top,λx hx=>gK (h.at_ x hx) s⟩
theorem jw{xs:List (Addr×List ah)}{i:Nat}{x:Addr×List ah}(h:xs[i]?=some x):flat (xs.take (i+1))=flat (xs.take i)++x.2:=by
 unfold flat;rw[fX,h,A3];simp
theorem IB(xs:List (Addr×List ah))(i:Nat):(flat (xs.take i)).length<=(flat xs).length:=by
 have h:flat xs=flat (xs.take i)++flat (xs.drop i):=by
  unfold flat;rw[<-A3,Ph]
 rw[h,cW];omega
theorem NO(T:Txt K mg A):bg P w K mg base dm 1 A.O2 A.sN ["shelves"] ND:=by
 refine T.zQ.ok xC (λvs H Q E h=>?_) (λcdv Ar outer s H vs Q E hr h=>?_)
 ·obtain⟨S,xs,rfl,_⟩:=h;rfl
 ·obtain⟨S,xs,rfl,hS,hl,k⟩:=h;refine⟨_,(aQ (pS 1 xC.nd (a9 aa)) (aQ (pF (eU (K:=K) rfl (pv 0)) (pn 2 xC.nd) (bf (dY (FT PySem.F.plainAttrs_list PySem.F.slot_list_extend PySem.F.type_list_extend AS (pv 1) (aq (pv 2) aa))))) (bf (aJ (pv 1))))),?_⟩;walk_at "rd";refine⟨fe _,λl hn=>?_⟩;refine dv.of (xs:=xs.map λx=>V.ref x.1) (λi σ H'=>∃b2:Option V,σ=[some (.ref S),some (.ref l),b2]/\ay H H'/\H' l=some (.lst ((flat (xs.take i)).map ah.v)))
   ⟨_,rfl,aU hn,aE⟩ ?_ ?_ ?_
  ·rintro i σ H' hi ⟨b2,rfl,s1,_⟩;exact aD.of (s1 _ _ hS.top)
  ·rintro i v σ H' hv ⟨b2,rfl,s1,h1⟩;walk_at "6";obtain⟨x,hx,rfl⟩:=d_.mp hv;have hm:=c_ hx;have px:=s1 _ _ (hS.at_ x hm).top;have tk:=jw hx;have fl:=IB xs (i+1);rw[tk,cW]at fl;walk_at "rd";refine⟨.inl ⟨rfl,_,aD.of h1⟩,l,x.1,_,_,rfl,rfl,h1,px,by rw[az,az,sizeLine_eq];omega,eR hn s1,?_⟩;rw[aE,tk,aY]
  ·rintro σ H' ⟨b2,rfl,s1,h1⟩;walk_at "rd";rw[az,iF]at h1;exact k l H' s1 hn h1
theorem ze{W:List Str}{z:Str}(h:z∉W):a8 (W.map kx) (.inr z)=none:=by
 cases q:a8 (W.map kx) (.inr z) with
 |none=>rfl
 |some v=>
  have a:=eJ (.inr z:Key) (W.map kx);rw[q]at a;obtain⟨x,hx,e⟩:=lP.mp (a.trans rfl);obtain⟨y,hy,rfl⟩:=aM.mp hx;exact absurd (Sum.inr.inj (of_decide_eq_true e:(Sum.inr y:Key)=Sum.inr z)▸hy) h
theorem Ea{W:List Str}{z:Str}(h:z∈W):a8 (W.map kx) (.inr z)=some (.bl true):=by
 have a:=eJ (.inr z:Key) (W.map kx);have b:((W.map kx).any λkv=>decide (kv.1=(.inr z:Key)))=true:=lP.mpr ⟨kx z,aM.mpr ⟨z,h,rfl⟩,decide_eq_true rfl⟩;rw[b]at a;cases q:a8 (W.map kx) (.inr z) with
 |none=>rw[q]at a;cases a
 |some v=>
  unfold a8 at q;obtain⟨x,hx,e⟩:=d_.mp q;obtain⟨y,hy,e2⟩:=aM.mp (qw hx);rw[<-e,<-e2];rfl
theorem Po(T:Txt K mg A):bg P w K mg base dm 1 A.Oj A.pz ["pieces"] AW:=by
 refine T.Ao.ok rH (λvs H Q E h=>?_) (λcdv Ar outer s H vs Q E hr h=>?_)
 ·obtain⟨L,ps,rfl,_⟩:=h;rfl
 ·obtain⟨L,ps,rfl,hP,hl,nd,k⟩:=h;refine⟨_,(aQ (pS 1 rH.nd cF) (aQ (pS 2 rH.nd (a9 aa)) (aQ (pF (eU (K:=K) rfl (pv 0)) (pn 3 rH.nd) (aQ (bq (e8 (EH (a7 hr) (tx K (pv 3)) (pv 1))) (bf (dY (cJ (pv 2) (aq (tx K (pv 3)) aa)))) cI) (bf (cR (a7 hr) (pv 1) (tx K (pv 3)) ib rfl)))) (bf (bq (md (pv 2) (λ_=>rfl)) (bf eC) cI))))),?_⟩;walk_at "rd";refine λd hd=>⟨fe _,λl hn=>?_⟩;have s0:=(aU (o:=HO.dK []) hd).trans (aU (o:=HO.lst []) hn);have hln:H l=none:=(cG hn).2;have nld:l≠d:=(cG hn).1;refine dv.of (xs:=ps.map ah.v) (λi σ H'=>∃b3:Option V,σ=[some (.ref L),some (.ref d),some (.ref l),b3]/\ay H H'/\H' l=some (.lst [])/\H' d=some (.dK (((ps.take i).map ah.name).map kx)))
   ⟨_,rfl,s0,aE,by rw[ae (Ne.symm nld),aE];rfl⟩ ?_ ?_ ?_
  ·rintro i σ H' hi ⟨b2,rfl,s1,_⟩;exact aD.of (s1 _ _ hP.top)
  ·rintro i v σ H' hv ⟨b3,rfl,s1,h1,h2⟩;walk_at "6";walk_at "7";have hm:=c_ hp;have pa:=s1 _ _ (hP.at_ p hm).top;have hi:=(ig.mp hp).1;walk_at "8";have new:p.name∉(ps.take i).map ah.name:=λz=>by
    have h:((ps.take (i+1)).map ah.name).Nodup:=List.Nodup.sublist (List.Sublist.map _ (Kf _ _)) nd;rw[tk,aY]at h;exact(f_.mp h).2.2 p.name z p.name (by simp) rfl
   have g:bx H' d (V.str p.name) none:=by
    have:=bx.k (k:=Sum.inr p.name) h2;rw[ze new]at this;exact this
   walk_at "rd";refine⟨_,aR.of pa,_,rfl,none,g,?_⟩;rw[if_neg (by decide)];refine⟨_,aR.of pa,_,rfl,_,eM.k (k:=Sum.inr p.name) h2 (by rw[az,az,jr,sizeLine_eq];omega),eR hd s1,by rw[ae nld];exact h1,?_⟩;rw[aE,LJ];unfold addW;rw[if_neg new,tk];simp
  ·rintro σ H' ⟨b3,rfl,s1,h1,h2⟩;walk_at "rd";refine⟨false,?_,?_⟩
   ·exact .inl ⟨[],aD.of h1,rfl⟩
   ·exact k H' s1
theorem KJ(T:Txt K mg A):bg P w K mg base dm 3 A.Pk A.sI ["pieces"] Cd:=by
 refine T.zh.ok qI (λvs H Q E h=>?_) (λcdv Ar outer s H vs Q E hr h=>?_)
 ·obtain⟨L,ps,rfl,_⟩:=h;rfl
 ·obtain⟨L,ps,rfl,hP,hl,hb,k⟩:=h;refine⟨_,(aQ (pS 1 qI.nd cF) (aQ (pF (eU (K:=K) rfl (pv 0)) (pn 2 qI.nd) (bf (pF (eU (K:=K) rfl (pC (HD T) hr T.yw T.pX T.qj (aq (pv 2) aa))) (pn 3 qI.nd) (bf (dY (E5 (a7 hr) (pv 1) (pv 3) (pv 2) ⟨rfl,rfl,rfl,rfl⟩)))))) (bf (aJ (pv 1))))),?_⟩;walk_at "rd";intro d hd;refine dv.of (xs:=ps.map ah.v) (λi σ H'=>∃(b2 b3:Option V) (af:List (Key×V)),σ=[some (.ref L),some (.ref d),b2,b3]/\ay H H'/\H' d=some (.dK af)/\af.length<=61*i/\∀z,a8 af (.inr z)=(bo (ps.take i) z).map ah.v)
   ⟨_,_,[],rfl,aU hd,aE,by simp,λz=>rfl⟩ ?_ ?_ ?_
  ·rintro i σ H' hi ⟨b2,b3,af,rfl,s1,_⟩;exact aD.of (s1 _ _ hP.top)
  ·rintro i v σ H' hv ⟨b2,b3,af,rfl,s1,h1,hk,hz⟩;walk_at "6";walk_at "7";have hm:=c_ hp;have hi:=(ig.mp hp).1;walk_at "8";walk_at "rd";refine⟨p,rfl,(hP.at_ p hm).mono s1,hb p hm,λl H2 s2 ⟨ss,pm,pw,hl2⟩ hn=>?_⟩;have sl:ss.length<=61:=by rw[pm.length_eq];exact HM (hb p hm)
   have nld:l≠d:=λe=>by rw[e,h1]at hn;cases hn
   refine dv.of (xs:=ss.map V.str) (λj σ H3=>∃(b3:Option V) (kvs':List (Key×V)),σ=[some (.ref L),some (.ref d),some p.v,b3]/\ay H H3/\H3 l=some (.lst (ss.map V.str))/\H3 d=some (.dK kvs')/\kvs'.length<=af.length+j/\∀z,a8 kvs' (.inr z)=((bo (ps.take i) z).map ah.v).or (if z∈ss.take j then some p.v else none))
    ⟨_,af,rfl,s1.trans s2,hl2,s2 _ _ h1,by omega,λz=>by rw[hz];simp⟩ ?_ ?_ ?_
   ·rintro j σ H3 hj ⟨b3,kvs',rfl,s3,h3,_⟩;exact aD.of h3
   ·rintro j v σ H3 hv ⟨b3,kvs',rfl,s3,h3,h4,hk',hz'⟩;walk_at "6";obtain⟨y,hy,rfl⟩:=d_.mp hv;have hj:=(ig.mp hy).1;have tj:ss.take (j+1)=ss.take j++[y]:=by rw[fX,hy];rfl
    walk_at "rd";have gd:=bx.k (k:=Sum.inr y) h4;refine⟨.inl ⟨_,.inl h4⟩,_,gd,_,eM.k (k:=Sum.inr y) h4 (by rw[sizeLine_eq];omega),λv hv=>⟨s3,h3,kvs',h4,by omega,λz=>?_⟩,λhv=>⟨eR hd s3,by rw[ae nld];exact h3,_,aE,?_,λz=>?_⟩⟩
    ·rw[hz',tj];by_cases e:z=y
     ·rw[e];have hv:=(hz' y).symm.trans hv;cases q:bo (ps.take i) y with
      |some u=>simp
      |none=>
       rw[q]at hv;have:y∈ss.take j:=by
        by_cases m:y∈ss.take j
        ·exact m
        ·rw[if_neg m]at hv;cases hv
       simp[this]
     ·simp[e]
    ·rw[GX _ hv,cW,JK];omega
    ·rw[Gr,hz',tj];by_cases e:z=y
     ·rw[e,if_pos rfl];have hv:=(hz' y).symm.trans hv;cases q:bo (ps.take i) y with
      |some u=>rw[q]at hv;cases hv
      |none=>simp
     ·rw[if_neg (λh=>e (Sum.inr.inj h))];simp[e]
   ·rintro σ H3 ⟨b3,kvs',rfl,s3,h3,h4,hk',hz'⟩;rw[az,iF]at hz';refine⟨_,_,rfl,s3,kvs',h4,by rw[az]at hk';omega,λz=>?_⟩;have e:(z∈ss)=(cA z (ar p)=true):=propext (pm.mem_iff.trans lX);rw[hz',tk];unfold bo;rw[IY];cases q:(ps.take i).find? (λp=>cA z (ar p)) with
    |some u=>simp
    |none=>
     by_cases t:cA z (ar p)=true
     ·simp[e,t]
     ·simp[e,t]
  ·rintro σ H' ⟨b2,b3,af,rfl,s1,h1,hk,hz⟩;rw[az,iF]at hz;walk_at "rd";exact k d H' s1 hd ⟨af,h1,hz⟩
theorem Qh(T:Txt K mg A):bg P w K mg base dm 1 A.OL A.tT ["fills"] BA:=by
 refine T.yi.ok LX (λvs H Q E h=>?_) (λcdv Ar outer s H vs Q E hr h=>?_)
 ·obtain⟨l,fs,rfl,_⟩:=h;rfl
 ·obtain⟨l,fs,rfl,hl,ha,hn,k⟩:=h;refine⟨_,(bf (aJ (cx (gu ["at", "rule", "name", "add", "soft"]) rfl (eU (K:=K) rfl (pv 0)) (λ_ _ _=>⟨(bN (K:=K) (n:=5) rfl rfl (cT (pn 0 (by walk_at "n")) (cT (pn 1 (by walk_at "n")) (cT (pn 2 (by walk_at "n")) (cT (pn 3 (by walk_at "n")) (cT (pn 4 (by walk_at "n")) bL)))))),bY,(aX (aq (pv 0) (aq (pv 1) (aq (pv 2) (aq (pv 3) (aq (pv 4) aa))))))⟩)))),?_⟩;walk_at "rd";refine cD.of (xs:=fs.map ax.v) (by rw[az,sizeLine_eq];omega) (aD.of hl) (λD i ys H'=>∃gs:List ax,ys=gs.map ax.v/\ay H H'/\H' D=some (.lst ys)/\(∀g∈gs,ax.At H' g)/\gs.map ax.e=(fs.take i).map ax.e)
   (λD hD=>⟨[],rfl,aU hD,aE,(λq hq=>by cases hq),rfl⟩) ?_ ?_ ?_
  ·rintro D i ys H' hD hi ⟨gs,rfl,s1,hDD,ga,e⟩;refine⟨aD.of (s1 _ _ hl),hDD,?_⟩;have:=congrArg List.length e;walk_at "9";rw[az];omega
  ·rintro D i x ys H' hD hx ⟨gs,rfl,s1,hDD,ga,e⟩;walk_at "0";obtain⟨f,hf,rfl⟩:=d_.mp hx;have fa:=s1 _ _ (ha f (c_ hf));walk_at "rd";refine⟨_,aR.of fa,rfl,_,_,rfl,_,_,rfl,_,_,rfl,_,_,rfl,_,_,rfl,rfl,.no (.no (.no (.no (.no .nil)))),by walk_at "s", λq hq=>?_⟩;have s2:=aU (o:=HO.tup [V.int f.at_,V.str f.rule,V.str f.name,V.int f.add,V.bl f.soft]) hq;refine⟨s2 _ _ hDD,gs++[{ f with a:=q }],by simp,eR hD (s1.trans s2),aE,λg hg=>?_,?_⟩
   ·have bt:fZ (upd H' q (HO.tup [V.int f.at_,V.str f.rule,V.str f.name,V.int f.add,V.bl f.soft])) (upd (upd H' q (HO.tup [V.int f.at_,V.str f.rule,V.str f.name,V.int f.add,V.bl f.soft])) D (HO.lst (gs.map ax.v++[V.ref q]))) D:=fZ.upd (s2 _ _ hDD);rcases bF.mp hg with z|z
    ·exact ax.At.but (ax.At.mono (ga g z) s2) bt
    ·rw[bX.mp z];exact bt.tup aE
   ·rw[aY,e,fX,hf,aY];rfl
  ·rintro D ys H' hD ⟨gs,rfl,s1,hDD,ga,e⟩;walk_at "1";exact k D gs H' s1 hD hDD ga e
theorem Qr(T:Txt K mg A):bg P w K mg base dm 2 A.NT A.qL ["piece"] Bi:=by
 refine T.yx.ok w6 (λvs H Q E h=>?_) (λcdv Ar outer s H vs Q E hr h=>?_)
 ·obtain⟨p,rfl,_⟩:=h;rfl
 ·obtain⟨p,rfl,hp,b1,b2,b3,k⟩:=h;refine⟨_,(aQ (fV (i:=1) w6.nd rfl (by walk_at "o") (gu ["kind", "step", "words", "fills"]) rfl (eU (K:=K) rfl (tx K (pv 0))) (λ_ _ _=>⟨(bN (K:=K) (n:=4) rfl rfl (cT (pn 0 (by walk_at "n")) (cT (pn 1 (by walk_at "n")) (cT (pn 2 (by walk_at "n")) (cT (pn 3 (by walk_at "n")) bL))))),bY,(aX (aq (pv 0) (aq (pv 1) (aq (cq (cN (K:=K) rfl) (by rfl) T.gH iP (aq (pv 2) aa)) (aq (pC (Qh T) hr T.Kx T.DH T.EX (aq (pv 3) aa)) aa)))))⟩)) (aQ (fV (i:=2) w6.nd rfl (by walk_at "o") (gu ["name", "sort", "stretch", "offset"]) rfl (eU (K:=K) rfl (tx K (pv 0))) (λ_ _ _=>⟨(bN (K:=K) (n:=4) rfl rfl (cT (pn 0 (by walk_at "n")) (cT (pn 1 (by walk_at "n")) (cT (pn 2 (by walk_at "n")) (cT (pn 3 (by walk_at "n")) bL))))),bY,(aX (aq (pv 0) (aq (pv 1) (aq (pv 2) (aq (pv 3) aa)))))⟩)) (bf (aJ (aX (aq (tx K (pv 0)) (aq (pv 1) (aq (pv 2) aa)))))))),?_⟩;walk_at "rd";refine⟨_,aR.of hp.top,_,rfl,?_⟩;refine cD.of (xs:=p.aI.map aL.v) (by rw[az,sizeLine_eq];omega) (aD.of hp.sl) (λD i ys H'=>∃qs:List aL,ys=qs.map aL.v/\qs.map aL.e=(p.aI.take i).map aL.e/\ay H H'/\H' D=some (.lst ys)/\(∀q∈qs,q.At H')/\(∀b∈qs.flatMap aL.lists,H b=none/\b≠D)/\(qs.flatMap aL.lists).Nodup)
   (λD hD=>⟨[],rfl,rfl,aU hD,aE,by simp,by simp,by simp⟩) ?_ ?_ ?_
  ·rintro D i ys H' hD hi ⟨qs,rfl,hc,sm,hDD,_⟩;refine⟨aD.of (sm _ _ hp.sl),hDD,?_⟩;have e:=congrArg List.length hc;rw[az,az]at e;rw[az,e];exact List.length_take_le ..
  ·rintro D i x ys H' hD hx ⟨qs,rfl,hc,sm,hDD,hat,hnew,hnd⟩;walk_at "0";obtain⟨s,hs,rfl⟩:=d_.mp hx;have hm:=c_ hs;have hs':=(hp.ss s hm).mono sm;walk_at "rd";refine⟨_,aR.of hs'.top,rfl,_,_,rfl,_,_,rfl,_,_,rfl,_,_,rfl,rfl,.no (.no (.no (.no .nil))),s.lw,rfl,_,.inl (aD.of hs'.wd),λlw h1=>?_⟩;have s1:=aU (o:=HO.lst (s.words.map V.int)) h1;have ew:upd H' lw (HO.lst (s.words.map V.int)) lw=some (HO.lst (s.words.map V.int)):=aE;generalize upd H' lw (HO.lst (s.words.map V.int))=H1 at *;refine⟨s.lf,rfl,s.fills,s1 _ _ hs'.fl,λf hf=>s1 _ _ (hs'.fs f hf),b3 s hm,λlf gs H2 s2 h2 el ga ge=>⟨by rw[sizeLine_eq];decide,λt h3=>?_⟩⟩;have s3:=aU (o:=HO.tup [V.str s.kind,V.int s.step,V.ref lw,V.ref lf]) h3;have e1:upd H2 t (HO.tup [V.str s.kind,V.int s.step,V.ref lw,V.ref lf]) lw=some (HO.lst (s.words.map V.int)):=s3 _ _ (s2 _ _ ew);have e2:=s3 _ _ el;have e3:upd H2 t (HO.tup [V.str s.kind,V.int s.step,V.ref lw,V.ref lf]) t=some (HO.tup [V.str s.kind,V.int s.step,V.ref lw,V.ref lf]):=aE;have n2:lw≠lf:=bH ew h2;have d1:lw≠D:=Ne.symm (bH hDD h1);have d2:lf≠D:=Ne.symm (bH (s1 _ _ hDD) h2);have sA:=(s1.trans s2).trans s3;generalize upd H2 t (HO.tup [V.str s.kind,V.int s.step,V.ref lw,V.ref lf])=H3 at *;have bt:fZ H3 (upd H3 D (HO.lst (qs.map aL.v++[V.ref t]))) D:=fZ.upd (sA _ _ hDD);refine⟨sA _ _ hDD,qs++[⟨t,lw,lf,s.kind,s.step,s.words,gs⟩],by simp,?_,eR hD (sm.trans sA),aE,λq hq=>?_,λb hb=>?_,?_⟩
   ·rw[aY,hc,fX,hs,aY];congr 1;show [(s.kind,s.step,s.words,gs.map ax.e)]=[(s.kind,s.step,s.words,s.fills.map ax.e)];rw[ge]
   ·rcases bF.mp hq with z|z
    ·exact((hat q z).mono sA).but bt λy=>(hnew D (hW.mpr ⟨q,z,y⟩)).2 rfl
    ·rw[bX.mp z];exact⟨bt.tup e3,bt.2 _ _ e1 d1,bt.2 _ _ e2 d2,λf hf=>ax.At.but (ax.At.mono (ga f hf) s3) bt⟩
   ·rw[A3]at hb;rcases bF.mp hb with z|z
    ·exact hnew b z
    ·simp[aL.lists]at z;rcases z with e|e
     ·rw[e];exact⟨sm.free h1,d1⟩
     ·rw[e];exact⟨(sm.trans s1).free h2,d2⟩
   ·rw[A3];refine f_.mpr ⟨hnd,by simp[aL.lists,n2],λx hx y hy e=>?_⟩;obtain⟨q,hq,hb'⟩:=hW.mp hx;obtain⟨xs,he⟩:=(hat q hq).list hb';simp[aL.lists]at hy;rcases hy with z|z
    ·rw[e,z,h1]at he;cases he
    ·have:=s1 _ _ he;rw[e,z,h2]at this;cases this
  ·rintro D ys H' hD ⟨qs,rfl,hc,sm,hDD,hat,hnew,hnd⟩;rw[az,iF]at hc;have hpm:=hp.mono sm;refine⟨_,aR.of hpm.top,_,rfl,?_⟩;refine cD.of (xs:=p.aK.map aj.v) (by rw[az,sizeLine_eq];omega) (aD.of hpm.nl) (λD2 i ys H2=>∃gs:List aj,ys=gs.map aj.v/\ay H' H2/\H2 D2=some (.lst ys)/\(∀g∈gs,aj.At H2 g)/\gs.map aj.e=(p.aK.take i).map aj.e)
    (λD2 hD2=>⟨[],rfl,aU hD2,aE,(λq hq=>by cases hq),rfl⟩) ?_ ?_ ?_
   ·rintro D2 i ys H2 hD2 hi ⟨gs,rfl,s1,hDD2,ga,e⟩;refine⟨aD.of (s1 _ _ hpm.nl),hDD2,?_⟩;have:=congrArg List.length e;walk_at "9";rw[az];omega
   ·rintro D2 i x ys H2 hD2 hx ⟨gs,rfl,s1,hDD2,ga,e⟩;walk_at "0";obtain⟨f,hf,rfl⟩:=d_.mp hx;have fa:=s1 _ _ (hpm.ns f (c_ hf));walk_at "rd";refine⟨_,aR.of fa,rfl,_,_,rfl,_,_,rfl,_,_,rfl,_,_,rfl,rfl,.no (.no (.no (.no .nil))),by walk_at "s", λq hq=>?_⟩;have s2:=aU (o:=HO.tup [V.str f.name,V.str f.sort,V.int f.st,V.int f.off]) hq;refine⟨s2 _ _ hDD2,gs++[{ f with a:=q }],by simp,eR hD2 (s1.trans s2),aE,λg hg=>?_,?_⟩
    ·have bt:fZ (upd H2 q (HO.tup [V.str f.name,V.str f.sort,V.int f.st,V.int f.off])) (upd (upd H2 q (HO.tup [V.str f.name,V.str f.sort,V.int f.st,V.int f.off])) D2 (HO.lst (gs.map aj.v++[V.ref q]))) D2:=fZ.upd (s2 _ _ hDD2);rcases bF.mp hg with z|z
     ·exact aj.At.but (aj.At.mono (ga g z) s2) bt
     ·rw[bX.mp z];exact bt.tup aE
    ·rw[aY,e,fX,hf,aY];rfl
   ·rintro D2 ys H2 hD2 ⟨gs,rfl,s1,hDD2,ga,e⟩;walk_at "1";refine⟨_,aR.of (s1 _ _ hpm.top),_,rfl,by walk_at "s", λt ht=>?_⟩;have s2:=aU (o:=HO.tup [V.str p.name,V.ref D,V.ref D2]) ht;have nl:∀b∈qs.flatMap aL.lists,b≠D2:=λb hb=>by
     obtain⟨q,hq,hb'⟩:=hW.mp hb;obtain⟨xs,e⟩:=(hat q hq).list hb';exact bH e hD2
    refine k ⟨t,D,D2,p.name,qs,gs⟩ _ ((sm.trans s1).trans s2) ⟨aE,s2 _ _ (s1 _ _ hDD),s2 _ _ hDD2,λq hq=>(hat q hq).mono (s1.trans s2),λn hn=>aj.At.mono (ga n hn) s2⟩ ?_ (λb hb=>?_) ?_
    ·unfold ar;rw[hc,e]
    ·simp only[ah.lists,List.mem_cons]at hb;rcases hb with e|e|e
     ·rw[e];exact hD
     ·rw[e];exact sm.free hD2
     ·exact(hnew b e).1
    ·show(D::D2::qs.flatMap aL.lists).Nodup;refine j7.mpr ⟨λz=>?_,j7.mpr ⟨λz=>nl D2 z rfl,hnd⟩⟩;rcases iG.mp z with e|e
     ·exact bH hDD hD2 e
     ·exact(hnew D e).2 rfl
theorem jq.l1(t:jq):List.lookup (Str.ofString "pieces") t.attrs=some (.ref t.lp):=rfl
theorem jq.l2(t:jq):List.lookup (Str.ofString "reasons") t.attrs=some (.ref t.lr):=rfl
theorem jq.l3(t:jq):List.lookup (Str.ofString "told_by_given") t.attrs=some (.ref t.dg):=rfl
theorem jq.l4(t:jq):List.lookup (Str.ofString "on_shelves") t.attrs=some (.ref t.ds):=rfl
theorem jq.l5(t:jq):List.lookup (Str.ofString "from_shelves") t.attrs=some (.ref t.df):=rfl
theorem jq.l6(t:jq):List.lookup (Str.ofString "unmet") t.attrs=some (.ref t.du):=rfl
theorem Ew(o:xG C H t G S T rs)(kp:IZ t H H'){b:Addr}{xs:List V}(h:H b=some (.lst xs))(n1:b≠t.lp)(n2:b≠t.lr):H' b=some (.lst xs):=kp b _ n1 n2 (λe=>by rw[e,o.df]at h;cases h) h
theorem kN(o:xG C H t G S T rs)(kp:IZ t H H'){b:Addr}{xs:List V}(h:H b=some (.tup xs)):H' b=some (.tup xs):=kp b _ (λe=>by rw[e,o.lp]at h;cases h) (λe=>by rw[e,o.lr]at h;cases h) (λe=>by rw[e,o.df]at h;cases h) h
theorem N4(o:xG C H t G S T rs)(kp:IZ t H H'){p:ah}(h:p.At H)(n1:t.lp∉p.lists)(n2:t.lr∉p.lists):p.At H':=by
 have ls:∀b∈p.lists,∀xs,H b=some (.lst xs)->H' b=some (.lst xs):=λb hb xs e=>Ew o kp e (λq=>n1 (q▸hb)) (λq=>n2 (q▸hb));refine⟨kN o kp h.top,ls _ (by simp[ah.lists]) _ h.sl,ls _ (by simp[ah.lists]) _ h.nl,λs hs=>?_,λn hn=>kN o kp (h.ns n hn)⟩;have hs':=h.ss s hs;have m:∀b∈s.lists,b∈p.lists:=λb hb=>by
  simp only[ah.lists,List.mem_cons];exact .inr (.inr (hW.mpr ⟨s,hs,hb⟩))
 exact⟨kN o kp hs'.top,ls _ (m _ (by simp[aL.lists])) _ hs'.wd,ls _ (m _ (by simp[aL.lists])) _ hs'.fl,λf hf=>kN o kp (hs'.fs f hf)⟩
theorem len_sub{l m:List Str}(h:l.Nodup)(s:∀x∈l,x∈m):l.length<=m.length:=by
 induction l generalizing m with
 |nil=>exact fe _
 |cons x r ih=>
  obtain⟨h1,h2⟩:=j7.mp h;have hx:=s x lE;have:=ih (m:=m.erase x) h2 λy hy=>(List.mem_erase_of_ne (λ(e:y=x)=>h1 (e▸hy))).mpr (s y (ka _ hy));rw[List.length_erase_of_mem hx]at this;have:=List.length_pos_of_mem hx;rw[je];omega
theorem vv{ps:List ah}(nd:(ps.map ah.name).Nodup){p q:ah}(hp:p∈ps)(hq:q∈ps)(e:p.name=q.name):p=q:=by
 induction ps with
 |nil=>cases hp
 |cons x r ih=>
  rw[fH,j7]at nd;rcases iG.mp hp with a|a<;>rcases iG.mp hq with b|b
  ·rw[a,b]
  ·exact absurd (aM.mpr ⟨q,b,by rw[<-e,a]⟩) nd.1
  ·exact absurd (aM.mpr ⟨p,a,by rw[e,b]⟩) nd.1
  ·exact ih nd.2 a b
theorem jW.snoc(h:jW G S e T rs)(h1:cH G z=none)(h2:cH S z=some p)(n:p.1∉T.map (·.1))(wy:b=Str.ofString "" /\ z=e\/∃q∈G++T,q.1=b/\bW z q=true):jW G S e (T++[p]) (rs++[(p.1,z,b)]):=by
 have hl:rs.length=T.length:=by have:=congrArg List.length h.len;rwa [az,az]at this
 refine⟨?_,λq hq=>?_,by rw[aY,aY,h.len];rfl,λi q r hq hr=>?_⟩
 ·rw[aY];exact f_.mpr ⟨h.nd,by simp,λx hx y hy e=>n (by rw[List.map_cons,List.map_nil,List.mem_singleton]at hy;rw[<-hy,<-e];exact hx)⟩
 ·rcases bF.mp hq with y|y
  ·exact h.sub q y
  ·rw[bX.mp y];exact qw h2
 ·by_cases hi:i<T.length
  ·rw[JB hi]at hq;rw[JB (by omega)]at hr;rw[QM (by omega)];exact h.Pp i q r hq hr
  ·have hi2:i=T.length:=by
    have:=(ig.mp hq).1;rw[cW,JK]at this;omega
   rw[hi2,H_ (bC _),Nat.sub_self]at hq;rw[hi2,<-hl,H_ (bC _),Nat.sub_self]at hr;have hq:=Option.some.inj hq;have hr:=Option.some.inj hr;rw[<-hq,<-hr,hi2,QM (bC _),iF];exact⟨h1,h2,wy⟩
theorem K5(T:Txt K mg A):bg P w K mg base dm 1 A.NV A.p6 ["self", "name", "by"] (xF A.aO):=by
 refine T.z7.ok Gu (λvs H Q E h=>?_) (λcdv Ar outer s H vs Q E hr h=>?_)
 ·obtain⟨t,z,b,e,G,S,T,rs,rfl,_⟩:=h;rfl
 ·obtain⟨t,z,b,e,G,S,Tp,rs,rfl,o,bd,mt,tc,wy,k⟩:=h;refine⟨_,(aQ (bq (e8 (EH (a7 hr) (pv 1) (eF (pv 0) rfl))) (bf qG) cI) (aQ (bq (e8 (cZ (a7 hr) (pv 1) (eF (pv 0) rfl))) (aQ eC (bf qG)) cI) (aQ (pS 3 Gu.nd (bU (a7 hr) (eF (pv 0) rfl) (pv 1) (λ_ _=>rfl))) (bf (bq (e8 (cZ (a7 hr) (tx K (pv 3)) (eF (pv 0) rfl))) (aQ (cR (a7 hr) (eF (pv 0) rfl) (tx K (pv 3)) ib rfl) (aQ (dY (cJ (eF (pv 0) rfl) (aq (pv 3) aa))) (bf (dY (cJ (eF (pv 0) rfl) (aq (aX (aq (tx K (pv 3)) (aq (pv 1) (aq (pv 2) aa)))) aa)))))) cI))))),?_⟩;walk_at "rd";obtain⟨kg,hkg,vg⟩:=o.dg;obtain⟨ks,hks,vs⟩:=o.ds;have gg:=bx.k (k:=Sum.inr z) hkg;have gs:=bx.k (k:=Sum.inr z) hks;rw[vg]at gg;rw[vs]at gs;have fG:=dy G z;have fS:=dy S z;refine⟨_,_,_,o.top,T.bS,T.bM,_,t.l3,t.dg,rfl,_,gg,dM (λh=>?_) (λh=>?_)⟩
  ·refine k [] rs H (by rw[uG];exact o) (λb o _ _ _ e=>e) (by rw[uG];exact tc) (.inl ?_);rw[fG];cases q:bo G z with
   |none=>rw[q]at h;cases h
   |some u=>rfl
  ·have nG:bo G z=none:=by
    cases q:bo G z with
    |none=>rfl
    |some u=>rw[q]at h;exact absurd rfl h
   rw[nG]at fG;cases q:bo S z with
   |none=>
    rcases mt with m|m
    ·rw[fG]at m;cases m
    ·rw[fS,q]at m;cases m
   |some p=>
    rw[q]at gs fS;have pS:p∈S:=qw q;obtain⟨pa,n1,n2⟩:=o.at_ p (gR _ pS);refine⟨_,_,_,o.top,T.bS,T.bO,_,t.l4,t.ds,rfl,_,gs,?_⟩;rw[if_neg (by simp)];have ndS:(S.map ah.name).Nodup:=by have:=bd.nd;rw[aY]at this;exact(f_.mp this).2.1
    have gf:=bx.k (k:=Sum.inr p.name) o.df;refine⟨_,_,_,o.top,T.bS,T.bO,_,t.l4,t.ds,rfl,_,gs,_,rfl,_,aR.of pa.top,_,rfl,_,_,_,o.top,T.bS,T.bw,_,t.l5,t.df,rfl,_,gf,?_⟩;by_cases m:p.name∈Tp.map ah.name
    ·rw[Ea m,if_neg (by decide)];obtain⟨u,hu,eu⟩:=aM.mp m;have eu:=vv ndS (o.sub u hu) pS eu;exact k [] rs H (by rw[uG];exact o) (λb o _ _ _ e=>e) (by rw[uG];exact tc) (.inr ⟨ar p,aM.mpr ⟨p,by rw[uG,<-eu];exact hu,rfl⟩,fS⟩)
    ·rw[ze m,if_pos (by decide)];have hl:Tp.length<=14:=by
      have h1:=tc.nd;have:(Tp.map ah.name).length<=(S.map ah.name).length:=len_sub (by rw[ck]at h1;exact h1) λy hy=>by
       obtain⟨u,hu,rfl⟩:=aM.mp hy;exact aM.mpr ⟨u,o.sub u hu,rfl⟩
      walk_at "4";have b:=bd.cy;rw[cW]at b;omega
     have hlG:G.length<=14:=by have b:=bd.cy;rw[cW]at b;omega
     have hrl:rs.length=Tp.length:=by have:=congrArg List.length tc.len;rwa [az,az,az,az]at this
     have nx1:t.x≠t.df:=λe=>by have:=o.top;rw[e,o.df]at this;cases this
     have nx2:t.x≠t.lp:=λe=>by have:=o.top;rw[e,o.lp]at this;cases this
     have nx3:t.x≠t.lr:=λe=>by have:=o.top;rw[e,o.lr]at this;cases this
     have nl1:t.lp≠t.df:=λe=>by have:=o.lp;rw[e,o.df]at this;cases this
     have nl2:t.lr≠t.df:=λe=>by have:=o.lr;rw[e,o.df]at this;cases this
     have np1:p.t≠t.df:=λe=>by have:=pa.top;rw[e,o.df]at this;cases this
     have np2:p.t≠t.lp:=λe=>by have:=pa.top;rw[e,o.lp]at this;cases this
     refine⟨_,_,_,o.top,T.bS,T.bw,_,t.l5,_,rfl,_,aR.of pa.top,_,rfl,t.df,rfl,_,eM.k (k:=Sum.inr p.name) o.df (by rw[az,az,sizeLine_eq];omega),?_⟩;rw[LJ];unfold addW;rw[if_neg m];have a1:upd H t.df (HO.dK ((Tp.map ah.name++[p.name]).map kx)) t.df=some (HO.dK ((Tp.map ah.name++[p.name]).map kx)):=aE;have k1:∀b u,b≠t.df->H b=some u->upd H t.df (HO.dK ((Tp.map ah.name++[p.name]).map kx)) b=some u:=λb u n e=>by rw[ae n];exact e
     generalize upd H t.df (HO.dK ((Tp.map ah.name++[p.name]).map kx))=H1 at *;have lp1:=k1 _ _ nl1 o.lp;refine⟨_,_,_,k1 _ _ nx1 o.top,T.bS,T.bR,_,t.l1,.inl ⟨rfl,_,aD.of lp1⟩,t.lp,rfl,_,lp1,by rw[az,cW,sizeLine_eq];omega,?_⟩;have a2:upd H1 t.lp (HO.lst ((G++Tp).map ah.v++[V.ref p.t])) t.lp=some (HO.lst ((G++Tp).map ah.v++[V.ref p.t])):=aE;have k2:∀b u,b≠t.lp->H1 b=some u->upd H1 t.lp (HO.lst ((G++Tp).map ah.v++[V.ref p.t])) b=some u:=λb u n e=>by rw[ae n];exact e
     generalize upd H1 t.lp (HO.lst ((G++Tp).map ah.v++[V.ref p.t]))=H2 at *;have lr2:=k2 _ _ (Ne.symm o.ne) (k1 _ _ nl2 o.lr);refine⟨_,_,_,k2 _ _ nx2 (k1 _ _ nx1 o.top),T.bS,T.dq,_,t.l2,.inl ⟨rfl,_,aD.of lr2⟩,_,rfl,_,aR.of (k2 _ _ np2 (k1 _ _ np1 pa.top)),_,rfl,by walk_at "s", λr hr=>⟨t.lr,rfl,_,aU hr _ _ lr2,by rw[az,sizeLine_eq];omega,?_⟩⟩;have s3:=aU (o:=HO.tup [V.str p.name,V.str z,V.str b]) hr;have a3:upd H2 r (HO.tup [V.str p.name,V.str z,V.str b]) r=some (HO.tup [V.str p.name,V.str z,V.str b]):=aE;generalize upd H2 r (HO.tup [V.str p.name,V.str z,V.str b])=H3 at *;have k4:∀b u,b≠t.lr->H3 b=some u->upd H3 t.lr (HO.lst (rs.map (λr=>V.ref r.1)++[V.ref r])) b=some u:=λb u n e=>by rw[ae n];exact e
     have kp:IZ t H (upd H3 t.lr (HO.lst (rs.map (λr=>V.ref r.1)++[V.ref r]))):=λb u m1 m2 m3 e=>k4 b u m2 (s3 _ _ (k2 _ _ m1 (k1 _ _ m3 e)));have nr:r≠t.lr:=Ne.symm (bH lr2 hr);refine k [p] (rs++[(r,p.name,z,b)]) _ ⟨?_,?_,?_,?_,?_,?_,?_,?_,?_,o.ne,o.nf,?_⟩ kp ?_ ?_
     ·exact kp _ _ nx2 nx3 nx1 o.top
     ·rw[<-tI,aY];exact k4 _ _ o.ne (s3 _ _ a2)
     ·rw[aE,aY];rfl
     ·intro y hy;rcases bF.mp hy with c|c
      ·exact kN o kp (o.rs y c)
      ·rw[bX.mp c];exact k4 _ _ nr a3
     ·exact⟨kg,kp _ _ (λe=>by rw[e,o.lp]at hkg;cases hkg) (λe=>by rw[e,o.lr]at hkg;cases hkg) o.nf.1 hkg,vg⟩
     ·exact⟨ks,kp _ _ (λe=>by rw[e,o.lp]at hks;cases hks) (λe=>by rw[e,o.lr]at hks;cases hks) o.nf.2.1 hks,vs⟩
     ·rw[aY];exact k4 _ _ (Ne.symm nl2) (s3 _ _ (k2 _ _ (Ne.symm nl1) a1))
     ·have du:=o.du;exact kp _ _ (λe=>by rw[e,o.lp]at du;cases du) (λe=>by rw[e,o.lr]at du;cases du) o.nf.2.2 du
     ·intro y hy;obtain⟨ya,m1,m2⟩:=o.at_ y hy;exact⟨N4 o kp ya m1 m2,m1,m2⟩
     ·intro y hy;rcases bF.mp hy with c|c
      ·exact o.sub y c
      ·rw[bX.mp c];exact pS
     ·rw[aY,aY];refine tc.snoc fG fS (λc=>m ?_) (wy.imp id λ⟨y,hy,e1,e2⟩=>⟨ar y,by rw[<-aY];exact aM.mpr ⟨y,hy,rfl⟩,e1,e2⟩);rw[ck]at c;exact c
     ·exact .inr ⟨ar p,aM.mpr ⟨p,by simp,rfl⟩,fS⟩
theorem D_(bd:BG G S e)(tc:jW (G.map ar) (S.map ar) e (T.map ar) rs)(sub:∀p∈T,p∈S):(G++T).length<=14:=by
 have h1:=tc.nd;have:(T.map ah.name).length<=(S.map ah.name).length:=len_sub (by rw[ck]at h1;exact h1) λy hy=>by
  obtain⟨u,hu,rfl⟩:=aM.mp hy;exact aM.mpr ⟨u,sub u hu,rfl⟩
 walk_at "4";have b:=bd.cy;rw[cW]at b ⊢;omega
theorem lY(U:List Co)(h:eO G S T z):eO G S (T++U) z:=h.imp id λ⟨p,hp,e⟩=>⟨p,gC _ hp,e⟩
theorem xG.mono{C:Addr}{H H':Hp}{t:jq}{G S T:List ah}{rs:List Hx}(o:xG C H t G S T rs)(s:ay H H'):xG C H' t G S T rs:=
 ⟨s _ _ o.top,s _ _ o.lp,s _ _ o.lr,λr hr=>s _ _ (o.rs r hr),o.dg.imp λ_ h=>⟨s _ _ h.1,h.2⟩,o.ds.imp λ_ h=>⟨s _ _ h.1,h.2⟩,s _ _ o.df,s _ _ o.du,λp hp=>have h:=o.at_ p hp;⟨h.1.mono s,h.2⟩,o.ne,o.nf,o.sub⟩
theorem Qg(T:Txt K mg A):bg P w K mg base dm 3 A.Pm A.t7 ["self"] (Mv A.aO):=by
 refine T.zj.ok lZ (λvs H Q E h=>?_) (λcdv Ar outer s H vs Q E hr h=>?_)
 ·obtain⟨t,e,G,S,T,rs,rfl,_⟩:=h;rfl
 ·obtain⟨t,e,G,S,Tp,rs,rfl,o,bd,tc,cv,k⟩:=h;refine⟨_,(aQ (pS 1 lZ.nd ag) (bf (jc PassesOwn.never (fF jS (pv 1) (eh (j8 (K:=K) rfl) (by rfl) T.dJ dj (aq (eF (pv 0) rfl) aa)) (aS _)) (aQ (pS 2 lZ.nd (bT (dR (K:=K) rfl) (eF (pv 0) rfl) (pv 1) (λ_ _=>rfl))) (aQ (pF (eU (K:=K) rfl (pC (Iv T) hr T.yK T.tS T.rP (aq (pv 2) aa))) (pn 3 lZ.nd) (bf (dY (As (pv 0) T.bS T.xM (K5 T) (hr.mono (by decide)) T.zA .nil vx (aq (pv 3) (aq (tx K (pv 2)) aa)))))) (bf (EN (i:=1) lZ.nd rfl (by walk_at "o") ag Fd))))))),?_⟩;walk_at "rd";refine⟨λm σ Hc=>∃(dn:Nat) (Tc:List ah) (rc:List Hx) (b2 b3:Option V),σ=[some (V.ref t.x),some (V.int dn),b2,b3]/\xG A.aO Hc t G S Tc rc/\IZ t H Hc/\jW (G.map ar) (S.map ar) e (Tc.map ar) (rc.map (·.2))/\eO (G.map ar) (S.map ar) (Tc.map ar) e/\m+dn=15/\dn<=(G++Tc).length/\∀q∈(G++Tc).take dn,∀z,bW z (ar q)=true->eO (G.map ar) (S.map ar) (Tc.map ar) z,
   ⟨15,0,Tp,rs,_,_,rfl,o,λb o _ _ _ e=>e,tc,cv,rfl,fe _,λq hq=>by simp at hq⟩,?_⟩
  rintro m σ Hc ⟨dn,Tc,rc,b2,b3,rfl,oc,kc,tcc,cvc,hm,hd,cl⟩;have bl:=D_ bd tcc oc.sub;walk_at "rd";refine⟨_,_,_,oc.top,T.bS,T.bR,_,t.l1,_,.inl ⟨_,aD.of oc.lp,by rw[az]⟩,dM (λhlt=>?_) (λhge=>?_)⟩
  ·have hlt:dn<(G++Tc).length:=by have:=of_decide_eq_true hlt;omega
   obtain⟨m',rfl⟩:∃m',m=m'+1:=⟨m - 1,by omega⟩
   have hp:(G++Tc)[dn]?=some (G++Tc)[dn]:=jo hlt;have hmem:(G++Tc)[dn]∈G++Tc:=uJ hlt;generalize (G++Tc)[dn]=p at hp hmem;have hpS:p∈G++S:=(bF.mp hmem).elim (gC _) λy=>gR _ (oc.sub p y);obtain⟨pa,n1,n2⟩:=oc.at_ p hpS;refine⟨λσ' H'=>∃(dn:Nat) (Tc:List ah) (rc:List Hx) (b2 b3:Option V),σ'=[some (V.ref t.x),some (V.int dn),b2,b3]/\xG A.aO H' t G S Tc rc/\IZ t H H'/\jW (G.map ar) (S.map ar) e (Tc.map ar) (rc.map (·.2))/\eO (G.map ar) (S.map ar) (Tc.map ar) e/\m'+dn=15/\dn<=(G++Tc).length/\∀q∈(G++Tc).take dn,∀z,bW z (ar q)=true->eO (G.map ar) (S.map ar) (Tc.map ar) z,λσ' H' z=>⟨m',K8 _,z⟩,?_⟩;refine⟨_,_,_,oc.top,T.bS,T.bR,_,t.l1,_,rfl,_,aD.of oc.lp,_,cw (by rw[gh,hp];rfl),p,rfl,pa,bd.uW p hpS,λl H2 s2 ⟨ss,pm,pw,hl2⟩ hl=>?_⟩;have o2:=oc.mono s2;have nl1:l≠t.lp:=Ne.symm (bH oc.lp hl);have nl2:l≠t.lr:=Ne.symm (bH oc.lr hl);refine dv.of (xs:=ss.map V.str) (λj σ H3=>∃(T':List ah) (rc':List Hx) (b3:Option V),σ=[some (V.ref t.x),some (V.int dn),some p.v,b3]/\xG A.aO H3 t G S (Tc++T') rc'/\IZ t H2 H3/\jW (G.map ar) (S.map ar) e ((Tc++T').map ar) (rc'.map (·.2))/\∀z∈ss.take j,eO (G.map ar) (S.map ar) ((Tc++T').map ar) z)
    ⟨[],rc,_,rfl,by rw[uG];exact o2,(λb o _ _ _ e=>e),by rw[uG];exact tcc,λz hz=>by simp at hz⟩ ?_ ?_ ?_
   ·rintro j σ H3 hj ⟨T',rc',b3,rfl,o3,k3,_⟩;exact aD.of (Ew o2 k3 hl2 nl1 nl2)
   ·rintro j v σ H3 hv ⟨T',rc',b3,rfl,o3,k3,tc3,c3⟩;walk_at "6";obtain⟨y,hy,rfl⟩:=d_.mp hv;have tj:ss.take (j+1)=ss.take j++[y]:=by rw[fX,hy];rfl
    have wy:bW y (ar p)=true:=ve.mp (pm.mem_iff.mp (c_ hy));obtain⟨pa3,_⟩:=o3.at_ p hpS;walk_at "rd";refine⟨_,_,o3.top,rfl,_,aR.of pa3.top,_,rfl,t,rfl,_,rfl,e,G,S,Tc++T',rc',o3,bd,bd.met p hpS y wy,tc3,.inr ⟨p,?_,rfl,wy⟩,λU rc2 H4 o4 k4 tc4 c4=>⟨T'++U,rc2,?_⟩⟩
    ·rw[<-tI];exact gC _ hmem
    ·rw[<-tI];refine⟨o4,λb u m1 m2 m3 h=>k4 b u m1 m2 m3 (k3 b u m1 m2 m3 h),tc4,λz hz=>?_⟩;rw[tj]at hz;rcases bF.mp hz with y1|y1
     ·rw[aY];exact lY _ (c3 z y1)
     ·rw[bX.mp y1];exact c4
   ·rintro σ H3 ⟨T',rc',b3,rfl,o3,k3,tc3,c3⟩;rw[az,iF]at c3;walk_at "rd";refine⟨dn+1,by simp,Tc++T',rc',o3,λb u m1 m2 m3 h=>k3 b u m1 m2 m3 (s2 _ _ (kc b u m1 m2 m3 h)),tc3,by rw[List.map_append];exact lY _ cvc,by omega,by rw[<-List.append_assoc,List.length_append];omega,λq hq z hz=>?_⟩;rw[<-tI,QM (by omega),fX,hp]at hq;rcases bF.mp hq with y1|y1
    ·rw[aY];exact lY _ (cl q y1 z hz)
    ·have e1:q=p:=bX.mp y1;rw[e1]at hz;exact c3 z (pm.mem_iff.mpr (ve.mpr hz))
  ·have hge:dn=(G++Tc).length:=by
    have:=of_decide_eq_false (Bool.eq_false_iff.mpr hge);omega
   rw[hge,iF]at cl;refine k Tc rc Hc oc kc tcc ⟨cvc,λq hq z hz=>?_⟩;rw[<-aY]at hq;obtain⟨u,hu,rfl⟩:=aM.mp hq;exact cl u hu z hz
theorem vw{H0 H:Hp}{x:Addr}{o:HO}(fr:∀b o,b≠x->H0 b=some o->H b=some o):∀b u,b≠x->H0 b=some u->upd H x o b=some u:=λb u n e=>by rw[ae n];exact fr b u n e
theorem O0(T:Txt K mg A):bg P w K mg base dm 4 A.OM A.s_ ["self", "given", "shelves", "entry"] (Bs A.aO):=by
 refine T.zm.ok EA (λvs H Q E h=>?_) (λcdv Ar outer s H vs Q E hr h=>?_)
 ·obtain⟨x,dx,g,s,e,G,xs,rfl,_⟩:=h;rfl
 ·obtain⟨x,dx,g,s,e,G,xs,rfl,hx,⟨hG,hS,bd⟩,k⟩:=h;refine⟨_,(aQ (pS 4 EA.nd (pC (NO T) hr T.JF T.CH T.CM (aq (pv 2) aa))) (aQ (dY (pC (Po T) hr T.JX T.GZ T.Dd (aq (aF (i8 (K:=K) rfl) (pv 1) (pv 4)) aa))) (aQ (jt (pv 0) (cq (cN (K:=K) rfl) (by rfl) T.gH iP (aq (pv 1) aa)) rfl) (aQ (jt (pv 0) (a9 aa) rfl) (aQ (jt (pv 0) (pC (KJ T) hr T.E8 T.yu T.Aw (aq (pv 1) aa)) rfl) (aQ (jt (pv 0) (pC (KJ T) hr T.E8 T.yu T.Aw (aq (pv 4) aa)) rfl) (aQ (jt (pv 0) cF rfl) (aQ (jt (pv 0) cF rfl) (aQ (dY (As (pv 0) T.bS T.xM (K5 T) (hr.mono (by decide)) T.zA .nil vx (aq (pv 3) (aq a5 aa)))) (aQ (dY (Cf (pv 0) T.bS T.E1 (Qg T) (hr.mono (by decide)) T.DR .nil vx )) (bf (bq (md (eF (pv 0) rfl) (λ_=>rfl)) (aQ eC (bf eC)) cI)))))))))))),?_⟩;walk_at "rd";have cy:=bd.cy;rw[cW]at cy;refine⟨xs,hS,by omega,λl H1 s1 hl e1=>⟨_,aD.of (s1 _ _ hG.top),_,aD.of e1,by rw[az,az,sizeLine_eq];omega,λp hp=>?_⟩⟩;have atA:∀q∈G++flat xs,q.At H:=λq hq=>(bF.mp hq).elim (hG.at_ q) λy=>by
   obtain⟨x',hx',y⟩:=hW.mp y;exact(hS.at_ x' hx').at_ q y
  have s2:=s1.trans (aU (o:=HO.lst (G.map ah.v++(flat xs).map ah.v)) hp);refine⟨G++flat xs,⟨by rw[aE,aY],λq hq=>(atA q hq).mono s2⟩,by rw[cW];omega,bd.nd,λH2 s3=>⟨_,.inl (aD.of (s3 _ _ (s2 _ _ hG.top))),λlp hlp=>?_⟩⟩;have s4:=s2.trans s3;have e4:=s3 _ _ (aU hp _ _ e1);clear s1 s2 s3 e1 hp;have s5:=s4.trans (aU (o:=HO.lst (G.map ah.v)) hlp);have e5:=aU (o:=HO.lst (G.map ah.v)) hlp _ _ e4;have lp5:upd H2 lp (HO.lst (G.map ah.v)) lp=some (HO.lst (G.map ah.v)):=aE;have lpn:H lp=none:=s4.free hlp;have nx5:=s5 _ _ hx;have n1:lp≠x:=Ne.symm (bH (s4 _ _ hx) hlp);have n1l:l≠lp:=bH e4 hlp;generalize upd H2 lp (HO.lst (G.map ah.v))=H5 at *;refine⟨_,_,_,nx5,T.bS,T.bR,by show 0<1000;decide,fe _,λlr hlr=>?_⟩;have ra:=vw (x:=x) (o:=HO.ins A.aO dx (Le lp)) (λb o _ e=>s5 b o e);have lpa:=ae n1 (H:=H5) (o:=HO.ins A.aO dx (Le lp))▸lp5;have nlx:l≠x:=λe=>by rw[e,hx]at hl;cases hl
  have la:upd H5 x (HO.ins A.aO dx (Le lp)) l=some (HO.lst ((flat xs).map ah.v)):=by rw[ae nlx];exact e5
  have xa:upd H5 x (HO.ins A.aO dx (Le lp)) x=some (HO.ins A.aO dx (Le lp)):=aE;generalize upd H5 x (HO.ins A.aO dx (Le lp))=Ha at *;have n2:lr≠x:=Ne.symm (bH xa hlr);have n12:lp≠lr:=bH lpa hlr;have lrn:H lr=none:=by
   cases q:H lr with
   |none=>rfl
   |some u=>rw[ra lr u n2 q]at hlr;cases hlr
  have sb:=aU (o:=HO.lst []) hlr;have lrb:upd Ha lr (HO.lst []) lr=some (HO.lst []):=aE;generalize upd Ha lr (HO.lst [])=Hb at *;refine⟨_,_,_,sb _ _ xa,T.bS,T.dq,by show 1<1000;decide,?_⟩;have rc:=vw (x:=x) (o:=HO.ins A.aO dx (MO lp lr)) (λb o n e=>sb b o (ra b o n e));have rac:=vw (x:=x) (o:=HO.ins A.aO dx (MO lp lr)) (λb o _ e=>sb b o e);have lrc:upd Hb x (HO.ins A.aO dx (MO lp lr)) lr=some (HO.lst []):=by rw[ae n2];exact lrb
  have xc:upd Hb x (HO.ins A.aO dx (MO lp lr)) x=some (HO.ins A.aO dx (MO lp lr)):=aE;generalize upd Hb x (HO.ins A.aO dx (MO lp lr))=Hc at *;have insx:(∀xs:List V,HO.ins A.aO dx []≠.lst xs)/\∀xs:List V,HO.ins A.aO dx []≠.tup xs:=⟨(λ_ z=>by cases z),(λ_ z=>by cases z)⟩
  refine⟨G,JI (GS hx insx rc) hG,by omega,λp hp=>bd.uW p (gC _ hp),λdg Hd sd hdg fg=>⟨_,_,_,sd _ _ xc,T.bS,T.bM,by show 2<1000;decide,?_⟩⟩;have n3:dg≠x:=Ne.symm (bH xc hdg);have rce:=vw (x:=x) (o:=HO.ins A.aO dx (Nd lp lr dg)) (λb o _ e=>sd b o e);have rde:=vw (H0:=Hd) (x:=x) (o:=HO.ins A.aO dx (Nd lp lr dg)) (λb o _ e=>e);have xe:upd Hd x (HO.ins A.aO dx (Nd lp lr dg)) x=some (HO.ins A.aO dx (Nd lp lr dg)):=aE;generalize upd Hd x (HO.ins A.aO dx (Nd lp lr dg))=He at *;have re:∀b o,b≠x->H b=some o->He b=some o:=λb o n e=>rce b o n (rc b o n e);have le:=rce _ _ nlx (rac _ _ nlx la);refine⟨flat xs,⟨le,λp hp=>AE (GS hx insx re) (atA p (gR _ hp))⟩,by omega,λp hp=>bd.uW p (gR _ hp),λds Hf sf hds fs=>⟨_,_,_,sf _ _ xe,T.bS,T.bO,by show 3<1000;decide,λdf hdf=>?_⟩⟩;obtain⟨kg,hkg,vg⟩:=fg;obtain⟨ks,hks,vs⟩:=fs;have n4:ds≠x:=Ne.symm (bH xe hds);have rfg:=vw (H0:=Hf) (x:=x) (o:=HO.ins A.aO dx (PV lp lr dg ds)) (λb o _ e=>e);have xg:upd Hf x (HO.ins A.aO dx (PV lp lr dg ds)) x=some (HO.ins A.aO dx (PV lp lr dg ds)):=aE;generalize upd Hf x (HO.ins A.aO dx (PV lp lr dg ds))=Hg at *;have reg:∀b o,b≠x->He b=some o->Hg b=some o:=λb o n e=>rfg b o n (sf b o e);have dgg:=reg _ _ n3 (rde _ _ n3 hkg);have dsg:=rfg _ _ n4 hks;have n5:df≠x:=Ne.symm (bH xg hdf);have sh:=aU (o:=HO.dK []) hdf;have dfh:upd Hg df (HO.dK []) df=some (HO.dK []):=aE
  have dfn:H df=none:=by
   cases q:H df with
   |none=>rfl
   |some u=>rw[reg df u n5 (re df u n5 q)]at hdf;cases hdf
  have n35:dg≠df:=bH dgg hdf;have n45:ds≠df:=bH dsg hdf;generalize upd Hg df (HO.dK [])=Hh at *;refine⟨_,_,_,sh _ _ xg,T.bS,T.bw,by show 4<1000;decide,λdu hdu=>?_⟩;have rhi:=vw (H0:=Hh) (x:=x) (o:=HO.ins A.aO dx (QG lp lr dg ds df)) (λb o _ e=>e);have xi:upd Hh x (HO.ins A.aO dx (QG lp lr dg ds df)) x=some (HO.ins A.aO dx (QG lp lr dg ds df)):=aE;generalize upd Hh x (HO.ins A.aO dx (QG lp lr dg ds df))=Hi at *;have n6:du≠x:=Ne.symm (bH xi hdu);have n65:du≠df:=Ne.symm (bH (rhi _ _ n5 dfh) hdu);have sj:=aU (o:=HO.dK []) hdu;have duj:upd Hi du (HO.dK []) du=some (HO.dK []):=aE;generalize upd Hi du (HO.dK [])=Hj at *;refine⟨_,_,_,sj _ _ xi,T.bS,T.c8,by show 5<1000;decide,?_⟩;have rjk:=vw (H0:=Hj) (x:=x) (o:=HO.ins A.aO dx (jq.attrs ⟨x,dx,lp,lr,dg,ds,df,du⟩)) (λb o _ e=>e);have xk:upd Hj x (HO.ins A.aO dx (jq.attrs ⟨x,dx,lp,lr,dg,ds,df,du⟩)) x=some (HO.ins A.aO dx (jq.attrs ⟨x,dx,lp,lr,dg,ds,df,du⟩)):=aE;show ∃x_18 x_19,upd Hj x (HO.ins A.aO dx (jq.attrs ⟨x,dx,lp,lr,dg,ds,df,du⟩)) x=some (HO.ins A.aO x_18 x_19)/\_;have rgk:∀b o,b≠x->Hg b=some o->upd Hj x (HO.ins A.aO dx (jq.attrs ⟨x,dx,lp,lr,dg,ds,df,du⟩)) b=some o:=λb o n e=>rjk b o n (sj _ _ (rhi b o n (sh _ _ e)));refine⟨_,_,xk,rfl,⟨x,dx,lp,lr,dg,ds,df,du⟩,rfl,e,G,flat xs,[],[],?_⟩
  have rHk:∀b o,b≠x->H b=some o->upd Hj x (HO.ins A.aO dx (jq.attrs ⟨x,dx,lp,lr,dg,ds,df,du⟩)) b=some o:=λb o n e=>rgk b o n (reg b o n (re b o n e));have o:xG A.aO (upd Hj x (HO.ins A.aO dx (jq.attrs ⟨x,dx,lp,lr,dg,ds,df,du⟩))) ⟨x,dx,lp,lr,dg,ds,df,du⟩ G (flat xs) [] []:=by
   refine⟨xk,?_,?_,(λr hr=>by cases hr),⟨kg,rgk _ _ n3 dgg,vg⟩,⟨ks,rgk _ _ n4 dsg,vs⟩,rjk _ _ n5 (sj _ _ (rhi _ _ n5 dfh)),rjk _ _ n6 duj,λp hp=>⟨AE (GS hx insx rHk) (atA p hp),λy=>?_,λy=>?_⟩,n12,⟨n35,n45,n65⟩,(λp hp=>by cases hp)⟩
   ·rw[uG];exact rgk _ _ n1 (reg _ _ n1 (rce _ _ n1 (rac _ _ n1 lpa)))
   ·exact rgk _ _ n2 (reg _ _ n2 (rce _ _ n2 lrc))
   ·obtain⟨ys,z⟩:=(atA p hp).list y;rw[lpn]at z;cases z
   ·obtain⟨ys,z⟩:=(atA p hp).list y;rw[lrn]at z;cases z
  refine⟨o,bd,bd.ent,⟨List.nodup_nil,(λp hp=>by cases hp),rfl,(λi p r hp=>by cases hp)⟩,.inl rfl,λT' rs' Hl ol kl tl cl=>?_⟩;refine⟨_,_,ol.top,rfl,⟨x,dx,lp,lr,dg,ds,df,du⟩,rfl,e,G,flat xs,_,rs',ol,bd,tl,cl,λT2 rs2 Hm om km tm cm=>⟨_,_,_,om.top,T.bS,T.c8,_,jq.l6 _,false,.inr (.inr ⟨[],om.du,rfl⟩),?_⟩⟩;rw[if_neg (by decide)];refine k ⟨x,dx,lp,lr,dg,ds,df,du⟩ T2 rs2 Hm rfl om (λb u n h=>km b u ?_ ?_ ?_ (kl b u ?_ ?_ ?_ (rHk b u n h))) lpn lrn tm cm
  ·exact λq=>by rw[q,lpn]at h;cases h
  ·exact λq=>by rw[q,lrn]at h;cases h
  ·exact λq=>by rw[q,dfn]at h;cases h
  ·exact λq=>by rw[q,lpn]at h;cases h
  ·exact λq=>by rw[q,lrn]at h;cases h
  ·exact λq=>by rw[q,dfn]at h;cases h
theorem Nv(bd:BG G S e)(tc:jW (G.map ar) (S.map ar) e (T.map ar) rs)(sub:∀p∈T,p∈S):((G++T).map ah.name).Nodup:=by
 have h:=bd.nd;rw[aY]at h ⊢;obtain⟨h1,h2,h3⟩:=f_.mp h;refine f_.mpr ⟨h1,?_,λx hx y hy=>?_⟩
 ·have:=tc.nd;rw[ck]at this;exact this
 ·obtain⟨u,hu,rfl⟩:=aM.mp hy;exact h3 x hx _ (aM.mpr ⟨u,sub u hu,rfl⟩)
theorem le_str{so:List ah}(h:(so.map λp=>((p.name,0):aH)).Pairwise jE):(so.map ah.name).Pairwise AL:=by
 rw[NL]at h ⊢;refine h.imp λ{a b} h=>List.not_lt.mp λq=>?_;have h:kX (b.name,0) (a.name,0)=false:=h;rw[(fz _ _).mpr (.inl q)]at h;cases h
theorem Bo(h:eA H L ps)(hq:q.At H)(nq:q.lists.Nodup)(fr:∀b∈q.lists,b∉L::aZ ps):eA (upd H L (.lst (ps.map ah.v++[q.v]))) L (ps++[q]):=by
 have b:fZ H (upd H L (.lst (ps.map ah.v++[q.v]))) L:=fZ.upd h.top;have nL:=(j7.mp h.nd).1;refine⟨by rw[aE];simp,λp hp=>?_,?_⟩
 ·rcases bF.mp hp with z|z
  ·exact(h.at_ p z).but b λy=>nL (hW.mpr ⟨p,z,y⟩)
  ·rw[bX.mp z];exact hq.but b λy=>fr _ y lE
 ·rw[hX,<-O1];exact f_.mpr ⟨h.nd,nq,λx hx y hy e=>fr y hy (e▸hx)⟩
theorem Ik(T:Txt K mg A):bg P w K mg base dm 6 A.taken A.gb ["given", "shelves", "entry"] (EV A):=by
 refine T.ki.SQ T.vp kR (λvs H Q E h=>?_) (λc cdv Ar outer s H vs Q E hcd hcc hr h=>?_)
 ·obtain⟨g,s,e,G,xs,rfl,_⟩:=h;rfl
 ·obtain⟨g,s,e,G,xs,rfl,hp,tb,k⟩:=h;refine⟨_,(aQ (pS 3 kR.nd (IT T.F4 (O0 T) (hr.mono (by decide)) rfl T.EU T.Ca .nil vx (aq (pv 0) (aq (pv 1) (aq (pv 2) aa))))) (aQ (pS 4 kR.nd (uS (K:=K) (P:=A.aN) (y := "piece") rfl (hr.mono (by decide)) (eF (pv 3) rfl) (by rfl) T.cQ hcd hcc T.bm ⟨rfl,rfl,rfl,by decide +kernel,rfl,by decide +kernel,by decide +kernel⟩ (λ_ _ _ _ _ _=>(tx K (pv 0))))) (bf (aJ (cx (gu ["piece"]) rfl (eU (K:=K) rfl (pv 4)) (λ_ _ _=>⟨(pn 0 (by walk_at "n")),bY,(pC (Qr T) hr T.KA T.Ee T.B_ (aq (pv 0) aa))⟩)))))),?_⟩;walk_at "rd";obtain⟨hG,hS,bd⟩:=hp;intro x dx hx hdx n;have s1:ay H (upd (upd H dx (HO.own x)) x (HO.ins A.aO dx [])):=(aU hdx).trans (aU (by rw[ae (Ne.symm n)];exact hx));refine⟨_,aE,G,xs,⟨gK hG s1,kU hS s1,bd⟩,λt T' rs H1 ex o r f1 f2 tc cl=>⟨_,_,_,by rw[<-ex];exact o.top,T.bS,T.bR,_,t.l1,?_⟩⟩;have s2:ay H H1:=λb u e=>r b u (bH e hx) (s1 _ _ e);have tb1:=tb.more s2;have bl:=D_ bd tc o.sub;have inS:∀p∈G++T',p∈G++flat xs:=λp hp=>(bF.mp hp).elim (gC _) λy=>gR _ (o.sub p y);have ndT:=Nv bd tc o.sub;have atA:∀p∈G++T',p.At H1:=λp hp=>(o.at_ p (inS p hp)).1;have hz:∀p∈G++T',zF H1 p.t=p.name/\rF H1 p.t=[.ref p.ls,.ref p.ln]:=λp hp=>by
   unfold zF rF;rw[(atA p hp).top];exact⟨rfl,rfl⟩
  refine⟨_,rfl,(G++T').map ah.t,by rw[ck];exact aD.of o.lp,zF H1,rF H1,λb hb=>?_,by rw[az];omega,tb1,λl bs H2 hl pm pw sx tb2 hl2=>?_⟩
  ·obtain⟨p,hp,rfl⟩:=aM.mp hb;rw[(hz p hp).1,(hz p hp).2];exact(atA p hp).top
  obtain⟨ps0,hT,_⟩:=id tb1;obtain⟨so,sp,rfl⟩:=G1 atA ndT pm;have pw2:(so.map ah.name).Pairwise AL:=by
   rw[ck]at pw;rw[xq (g:=λp:ah=>((p.name,0):aH)) λp hp=>by show(zF H1 p.t,(0:Int))=_;rw[(hz p (sp.mem_iff.mp hp)).1]]at pw;exact le_str pw
  have at2:∀p∈so,p.At H2:=λp hp=>(atA p (sp.mem_iff.mp hp)).keep hT sx;rw[ck]at hl2;have hl2:H2 l=some (.lst (so.map ah.v)):=hl2;have sln:so.length<=14:=by rw[sp.length_eq];exact bl
  have lT:l≠A.aN:=λe=>by rw[e,hT]at hl;cases hl
  refine cD.of (xs:=so.map ah.v) (by rw[az,sizeLine_eq];omega) (aD.of hl2) (λD i ys H'=>∃qs:List ah,ys=qs.map ah.v/\ay H2 H'/\eA H' D qs/\qs.map ar=(so.take i).map ar/\∀b∈D::aZ qs,H2 b=none)
   (λD hD=>⟨[],rfl,aU hD,eA.nil aE,rfl,λb hb=>by simp[aZ]at hb;rw[hb];exact hD⟩) ?_ ?_ ?_
  ·rintro D i ys H' hD hi ⟨qs,rfl,s3,hQ,e,_⟩;refine⟨aD.of (s3 _ _ hl2),hQ.top,?_⟩;have:=congrArg List.length e;walk_at "9";rw[az];omega
  ·rintro D i x ys H' hD hx ⟨qs,rfl,s3,hQ,e,fr⟩;walk_at "0";obtain⟨p,hp,rfl⟩:=d_.mp hx;have hm:=c_ hp;have pb:=bd.uW p (inS p (sp.mem_iff.mp hm));walk_at "rd";refine⟨.no .nil,p,rfl,(at2 p hm).mono s3,P8 pb.st,P8 pb.nm,λs hs=>P8 (pb.ss s hs).2,λq H4 s4 qa qe qf qn=>⟨s4 _ _ hQ.top,qs++[q],by simp,eR hD (s3.trans s4),?_,?_,λb hb=>?_⟩⟩
   ·exact Bo (hQ.mono s4) qa qn λb hb=>hQ.fresh (qf b hb)
   ·rw[aY,e,fX,hp,aY];congr 1;show [ar q]=[ar p];rw[qe]
   ·rw[hX,<-O1]at hb;rcases bF.mp hb with z|z
    ·exact fr b z
    ·exact s3.free (qf b z)
  ·rintro D ys H' hD ⟨qs,rfl,s3,hQ,e,fr⟩;walk_at "1";have f2:∀b,H2 b=none->H b=none:=λb hb=>by
    cases q:H b with
    |none=>rfl
    |some u=>
     by_cases n:b=A.aN
     ·obtain⟨w,hw,_⟩:=tb2;rw[n,hw]at hb;cases hb
     ·rw[sx b u n (s2 _ _ q)]at hb;cases hb
   have en:qs.map ah.name=so.map ah.name:=by
    have:=congrArg (List.map (·.1)) e;rw[ck,ck]at this;exact this
   refine k D (T'.map ar) (rs.map (·.2)) qs H' (λb u n h=>s3 _ _ (sx b u n (s2 _ _ h))) (tb2.more s3) hQ (λb hb=>f2 b (fr b hb)) tc cl ?_ (by rw[en];exact pw2);rw[e,<-aY];exact sp.map _
theorem Oi(T:Txt K mg A):bg P w K mg base dm 1 A.OK A.qd ["_law_pieces", "_law_cell"] xQ:=by
 refine T.yc.ok lH (λvs H Q E h=>?_) (λcdv Ar outer s H vs Q E hr h=>?_)
 ·obtain⟨L,c,ps,rfl,_⟩:=h;rfl
 ·obtain⟨L,c,ps,rfl,hP,hl,k⟩:=h;refine⟨_,(aQ (pS 2 lH.nd (a9 (aq (a9 aa) (aq (a9 aa) (aq (a9 aa) (aq (a9 aa) aa)))))) (aQ (pS 3 lH.nd (aF bB (aF iD (aF dw (pv 1) ag) ag) ag)) (aQ (pF (eU (K:=K) rfl (pv 0)) (pn 4 lH.nd) (aQ (dY (cJ (bT (dR (K:=K) rfl) (pv 2) (aF bB (pv 3) ag) (λ_ _=>rfl)) (aq (pv 4) aa))) (bf (pS 3 lH.nd (aF b_ (pv 3) ag))))) (bf (aJ (pv 2)))))),?_⟩;walk_at "rd";refine⟨fe _,λa0 h0=>⟨fe _,λa1 h1=>⟨fe _,λa2 h2=>⟨fe _,λa3 h3=>⟨by rw[sizeLine_eq];decide,λS h4=>⟨.inr ⟨by decide,by decide⟩,by decide,?_⟩⟩⟩⟩⟩⟩;have s1:=aU (o:=HO.lst []) h0;have s2:=aU (o:=HO.lst []) h1;have s3:=aU (o:=HO.lst []) h2;have s4:=aU (o:=HO.lst []) h3;have s5:=aU (o:=HO.lst [V.ref a0,V.ref a1,V.ref a2,V.ref a3]) h4;have e0:=s5 _ _ (s4 _ _ (s3 _ _ (s2 _ _ (aE (H:=H) (a:=a0) (o:=HO.lst [])))));have e1:=s5 _ _ (s4 _ _ (s3 _ _ (aE (H:=upd H a0 (HO.lst [])) (a:=a1) (o:=HO.lst []))));have e2:=s5 _ _ (s4 _ _ (aE (H:=upd (upd H a0 (HO.lst [])) a1 (HO.lst [])) (a:=a2) (o:=HO.lst [])));have e3:=s5 _ _ (aE (H:=upd (upd (upd H a0 (HO.lst [])) a1 (HO.lst [])) a2 (HO.lst [])) (a:=a3) (o:=HO.lst []));have e4:=aE (H:=upd (upd (upd (upd H a0 (HO.lst [])) a1 (HO.lst [])) a2 (HO.lst [])) a3 (HO.lst [])) (a:=S) (o:=HO.lst [V.ref a0,V.ref a1,V.ref a2,V.ref a3])
  have sA:=((((s1.trans s2).trans s3).trans s4).trans s5)
  have f1:=s1.free h1;have f2:=(s1.trans s2).free h2;have f3:=((s1.trans s2).trans s3).free h3;have f4:=(((s1.trans s2).trans s3).trans s4).free h4;have nd:[S,a0,a1,a2,a3].Nodup:=by
   have m01:=(cG h1).1;have m02:=(cG (cG h2).2).1;have m12:=(cG h2).1;have m23:=(cG h3).1;have m13:=(cG (cG h3).2).1;have m03:=(cG (cG (cG h3).2).2).1;have m34:=(cG h4).1;have m24:=(cG (cG h4).2).1;have m14:=(cG (cG (cG h4).2).2).1;have m04:=(cG (cG (cG (cG h4).2).2).2).1;simp[m04,m14,m24,m34,Ne.symm m01,Ne.symm m02,Ne.symm m03,Ne.symm m12,Ne.symm m13,Ne.symm m23]
  generalize upd (upd (upd (upd (upd H a0 (HO.lst [])) a1 (HO.lst [])) a2 (HO.lst [])) a3 (HO.lst [])) S (HO.lst [V.ref a0,V.ref a1,V.ref a2,V.ref a3])=H5 at *;clear s1 s2 s3 s4 s5;refine dv.of (xs:=ps.map ah.v) (λi σ H'=>∃(xs:List (Addr×List ah)) (mx:Int) (b4:Option V),σ=[some (.ref L),some (.int c),some (.ref S),some (.int mx),b4]/\ay H H'/\H' S=some (.lst (xs.map λx=>V.ref x.1))/\(∀x∈xs,H' x.1=some (.lst (x.2.map ah.v)))/\xs.map (·.1)=[a0,a1,a2,a3]/\(flat xs).Perm (ps.take i))
   ⟨[(a0,[]),(a1,[]),(a2,[]),(a3,[])],_,_,rfl,sA,e4,?_,rfl,by simp[flat]⟩ ?_ ?_ ?_
  ·intro x hx;simp at hx;rcases hx with rfl|rfl|rfl|rfl
   ·exact e0
   ·exact e1
   ·exact e2
   ·exact e3
  ·rintro i σ H' hi ⟨xs,mx,b4,rfl,s1,_⟩;exact aD.of (s1 _ _ hP.top)
  ·rintro i v σ H' hv ⟨xs,mx,b4,rfl,s1,hT,hx,hn,pm⟩;walk_at "6";walk_at "7";walk_at "8";have xl:xs.length=4:=by have:=congrArg List.length hn;rwa [az]at this
   obtain⟨m,em⟩:=Pj (show 0<=mx%4 by omega);have hm4:m<xs.length:=by omega
   have hxm:xs[m]?=some xs[m]:=jo hm4;have hmem:xs[m]∈xs:=uJ hm4;have ex:xs=xs.take m++xs[m]::xs.drop (m+1):=by
    have h1:=Ph (m+1) xs;rw[fX,hxm,tI]at h1;exact h1.symm
   generalize xs[m]=x at hxm hmem ex;have fl:x.2.length<=12:=by
    have h1:x.2.length<=(flat xs).length:=by
     rw[ex];unfold flat;rw[A3,List.flatMap_cons,cW,cW];omega
    rw[pm.length_eq,jr]at h1;omega
   have hxx:=hx x hmem;have nS:S≠x.1:=λe=>by
    have h1:x.1∈xs.map (·.1):=aM.mpr ⟨x,hmem,rfl⟩;rw[hn,<-e]at h1;exact(j7.mp nd).1 h1
   have xn:H x.1=none:=by
    have h1:x.1∈xs.map (·.1):=aM.mpr ⟨x,hmem,rfl⟩;rw[hn]at h1;simp at h1;rcases h1 with e|e|e|e<;>rw[e]<;>assumption
   have ndx:(xs.map (·.1)).Nodup:=by rw[hn];exact(j7.mp nd).2
   walk_at "rd";refine⟨by decide,_,aD.of hT,V.ref x.1,by rw[em];exact cw (by rw[gh,hxm];rfl),.inl ⟨rfl,_,aD.of hxx⟩,x.1,rfl,_,hxx,by rw[az,sizeLine_eq];omega,⟨by decide,by decide⟩,eR xn s1,xs.take m++(x.1,x.2++[p])::xs.drop (m+1),?_,λy hy=>?_,?_,?_⟩
   ·rw[ae nS,hT]
    conv=>lhs;rw[ex]
    simp
   ·have ey:y∈xs/\y.1≠x.1\/y=(x.1,x.2++[p]):=by
     rw[ex,aY,fH]at ndx;have h3:=(f_.mp ndx).2.2;have h4:=(j7.mp (f_.mp ndx).2.1).1;rcases bF.mp hy with q|q
     ·exact .inl ⟨List.mem_of_mem_take q,h3 y.1 (aM.mpr ⟨y,q,rfl⟩) x.1 lE⟩
     ·rcases iG.mp q with q|q
      ·exact .inr q
      ·exact .inl ⟨List.mem_of_mem_drop q,λe=>h4 (aM.mpr ⟨y,q,e⟩)⟩
    rcases ey with ⟨h1,h2⟩|h1
    ·rw[ae h2];exact hx y h1
    ·rw[h1,aE,aY];rfl
   ·rw[<-hn]
    conv=>rhs;rw[ex]
    simp
   ·rw[tk];refine List.Perm.trans ?_ (pm.append_right [p])
    conv=>rhs;rw[ex]
    unfold flat;simp only[List.flatMap_append,List.flatMap_cons,List.append_assoc];refine List.Perm.append_left _ (List.Perm.append_left _ ?_);exact List.perm_append_comm
  ·rintro σ H' ⟨xs,mx,b4,rfl,s1,hT,hx,hn,pm⟩;walk_at "rd";rw[az,iF]at pm;refine k S xs H' s1 ⟨hT,λx hx'=>⟨hx x hx',λp hp=>(hP.at_ p (pm.mem_iff.mp (hW.mpr ⟨x,hx',hp⟩))).mono s1⟩⟩ ?_ (by rw[hn];exact nd) (by have:=congrArg List.length hn;rwa [az]at this) pm;rw[hn];intro b hb;simp at hb;rcases hb with e|e|e|e|e<;>rw[e]<;>assumption
theorem Ql(T:Txt K mg A):bg P w K mg base dm 2 A.Og A.qh ["_law_names_by", "_law_titles_by", "_law_there"] Jj:=by
 refine T.zk.ok tZ (λvs H Q E h=>?_) (λcdv Ar outer s H vs Q E hr h=>?_)
 ·obtain⟨c,t,l,rfl,_⟩:=h;rfl
 ·obtain⟨c,t,l,rfl,hl,k⟩:=h;refine⟨_,(aQ (pS 3 tZ.nd (a9 aa)) (aQ (pF (nW rfl T.iR (aq ag aa)) (pn 4 tZ.nd) (aQ (pS 5 tZ.nd (pC (nj T) hr T.lq T.jO T.jY (aq (pv 0) (aq (pv 4) aa)))) (bf (bq (fF (wF (K:=K) rfl) (pv 5) (pv 2) (by with_unfolding_all rfl)) (bf (dY (cJ (pv 3) (aq (aX (aq (pv 5) (aq a5 (aq ag (aq (aF b_ (pv 4) ag) aa))))) aa)))) cI)))) (bf (aJ (aX (aq (pC (nj T) hr T.lq T.jO T.jY (aq (pv 1) (aq ag aa))) (aq (a9 (aq (aX (aq a5 (aq ag (aq (a9 (aq ag aa)) (aq (a9 aa) aa))))) aa)) (aq (pv 3) aa)))))))),?_⟩;walk_at "rd";refine⟨fe _,λd hd=>?_⟩;refine AQ.of (n:=12) (by decide) (by decide) (λi σ H'=>∃(ns:List aj) (b4 b5:Option V),σ=[some (.int c),some (.int t),some (.ref l),some (.ref d),b4,b5]/\ay H H'/\H' d=some (.lst (ns.map aj.v))/\(∀n∈ns,n.At H')/\ns.map aj.name=(List.range i).map (λk:Nat=>nameOf c k)/\∀n∈ns,n.sort=Str.ofString "weak" /\ n.st=0)
   ⟨[],_,_,rfl,aU hd,aE,(λn hn=>by cases hn),rfl,(λn hn=>by cases hn)⟩ ?_ ?_
  ·rintro i σ H' hi ⟨ns,b4,b5,rfl,s1,h1,ha,hn,hw⟩;have hi:i<12:=by omega
   have nl:ns.length=i:=by have:=congrArg List.length hn;rwa [az,az,Nc]at this
   walk_at "rd";refine⟨_,.inl (aD.of (s1 _ _ hl)),rfl,rfl,?_⟩;rw[if_pos (show(!Nl (V.str (nameOf c i)) [])=true from rfl)];refine⟨.inl ⟨rfl,_,aD.of h1⟩,⟨by decide,by decide⟩,by walk_at "s", λq hq=>?_⟩;have s2:=aU (o:=HO.tup [V.str (nameOf c i),V.str (Str.ofString "weak"),V.int 0,V.int ((i:Int)/6)]) hq;have eq:upd H' q (HO.tup [V.str (nameOf c i),V.str (Str.ofString "weak"),V.int 0,V.int ((i:Int)/6)]) q=some (HO.tup [V.str (nameOf c i),V.str (Str.ofString "weak"),V.int 0,V.int ((i:Int)/6)]):=aE;generalize upd H' q (HO.tup [V.str (nameOf c i),V.str (Str.ofString "weak"),V.int 0,V.int ((i:Int)/6)])=H2 at *;have bt:fZ H2 (upd H2 d (HO.lst (ns.map aj.v++[V.ref q]))) d:=fZ.upd (s2 _ _ h1);refine⟨_,s2 _ _ h1,by rw[az,sizeLine_eq];omega,eR hd (s1.trans s2),ns++[⟨q,nameOf c i,Str.ofString "weak", 0,(i:Int)/6⟩],by rw[aE,aY];rfl,λn hn'=>?_,?_,λn hn'=>?_⟩
   ·rcases bF.mp hn' with z|z
    ·exact aj.At.but (aj.At.mono (ha n z) s2) bt
    ·rw[bX.mp z];exact bt.tup eq
   ·rw[aY,hn,List.range_succ,aY];rfl
   ·rcases bF.mp hn' with z|z
    ·exact hw n z
    ·rw[bX.mp z];exact⟨rfl,rfl⟩
  ·rintro σ H' ⟨ns,b4,b5,rfl,s1,h1,ha,hn,hw⟩;walk_at "rd";refine⟨by rw[sizeLine_eq];decide,λlw g1=>⟨fe _,λlf g2=>⟨by rw[sizeLine_eq];decide,λst g3=>⟨by rw[sizeLine_eq];decide,λls g4=>⟨by rw[sizeLine_eq];decide,λtp g5=>?_⟩⟩⟩⟩⟩;have t1:=aU (o:=HO.lst [V.int 5]) g1;have t2:=aU (o:=HO.lst []) g2;have t3:=aU (o:=HO.tup [V.str (Str.ofString "data"),V.int 1,V.ref lw,V.ref lf]) g3;have t4:=aU (o:=HO.lst [V.ref st]) g4;have t5:=aU (o:=HO.tup [V.str (nameOf t 14),V.ref ls,V.ref d]) g5;have tA:=((((t1.trans t2).trans t3).trans t4).trans t5)
   refine k ⟨tp,ls,d,nameOf t 14,[⟨st,lw,lf,Str.ofString "data", 1,[5],[]⟩],ns⟩ _ (s1.trans tA) ⟨aE,t5 _ _ aE,tA _ _ h1,λq hq=>?_,λn hn'=>aj.At.mono (ha n hn') tA⟩ ⟨rfl,hn,λn hm=>(hw n hm).1,⟨_,rfl,rfl,rfl⟩,(λs hs=>by rw[bX.mp hs];exact⟨rfl,rfl⟩),λn hm=>(hw n hm).2⟩ (λb hb=>?_)
   ·rw[bX.mp hq];exact⟨t5 _ _ (t4 _ _ aE),t5 _ _ (t4 _ _ (t3 _ _ (t2 _ _ aE))),t5 _ _ (t4 _ _ (t3 _ _ aE)),(λf hf=>by cases hf)⟩
   ·have u1:=s1.free g1;have u2:=(s1.trans t1).free g2;have u4:=((s1.trans t1).trans (t2.trans t3)).free g4;simp[ah.lists,aL.lists]at hb;rcases hb with e|e|e|e<;>rw[e]<;>assumption
theorem NW(T:Txt K mg A):bg P w K mg base dm 1 A.P5 A.pM ["_law_piece"] F7:=by
 refine T.ym.ok Lw (λvs H Q E h=>?_) (λcdv Ar outer s H vs Q E hr h=>?_)
 ·obtain⟨p,rfl,_⟩:=h;rfl
 ·obtain⟨p,rfl,hp,hb,k⟩:=h;refine⟨_,(bf (aJ (cx (gu ["_law_row"]) rfl (eU (K:=K) rfl (tx K (pv 0))) (λ_ _ _=>⟨(pn 0 (by walk_at "n")),(gQ (fF yd (tx K (pv 0)) a5 (aS _))),(tx K (pv 0))⟩)))),?_⟩;walk_at "rd";refine⟨_,aR.of hp.top,_,rfl,?_⟩;refine cD.of (xs:=p.aK.map aj.v) (by rw[az,sizeLine_eq];have:=hb.nm;omega) (aD.of hp.nl) (λD i ys H'=>ay H H'/\H' D=some (.lst ys)/\ys=(((p.aK.take i).filter λn=>decide (n.sort≠cS)).map aj.name).map V.str)
   (λD hD=>⟨aU hD,aE,rfl⟩) ?_ ?_ ?_
  ·rintro D i ys H' hD hi ⟨sm,hDD,e⟩;refine⟨sm.seq (aD.of hp.nl),hDD,?_⟩;rw[e,az,az];exact f9 (wc _ _) (by rw[jr];omega)
  ·rintro D i x ys H' hD hx ⟨sm,hDD,e⟩;walk_at "0";obtain⟨n,hn,rfl⟩:=d_.mp hx;have na:=sm _ _ (hp.ns n (c_ hn));walk_at "3";walk_at "rd";refine⟨.no .nil,_,aR.of na,_,rfl,rfl,dM (λh=>?_) (λh=>?_)⟩
   ·have hz:=zr h;refine⟨_,aR.of na,_,rfl,hDD,eR hD sm,aE,?_⟩;rw[e,tk,HA,aY,aY];simp[hz]
   ·have hz:=GY h;refine⟨sm,hDD,?_⟩;rw[e,tk,HA];simp[hz]
  ·rintro D ys H' hD ⟨sm,hDD,e⟩;walk_at "1";exact k D H' sm hD (by rw[hDD,e];rfl)
theorem Jc{H:Hp}{as:List Addr}{p:ah}{z:Str}(e:as.map H=p.aK.map iu):(as.any λa=>deq (gO (H a)) (.tup [.str z,.str (Str.ofString "own")]))=cB p z:=by
 have h:(as.any λa=>deq (gO (H a)) (.tup [.str z,.str (Str.ofString "own")]))=(as.map H).any λo=>deq (gO o) (.tup [.str z,.str (Str.ofString "own")]):=by rw[GF];rfl
 rw[h,e,GF];unfold cB;congr 1;funext n;show deq (.tup [.str n.name,.str n.sort]) (.tup [.str z,.str (Str.ofString "own")])=_;simp only[deq,deqL,Bool.and_true,cS];by_cases a:n.name=z<;>by_cases b:n.sort=Str.ofString "own" <;> simp[a,b]
theorem BM(h:(!f.soft && !cB p f.name)=true):cn p [f]=[f.name]:=by
 unfold cn;rw[EC,if_pos h];rfl
theorem u5(h:¬(!f.soft && !cB p f.name)=true):cn p [f]=[]:=by
 unfold cn;rw[EC,if_neg h];rfl
theorem gT:z∈cn p (aG p.aI)↔bW z (ar p)=true:=by
 rw[<-fC];unfold cn yD;rw[aM];exact⟨λ⟨f,h,e⟩=>⟨f,(uI.mp h).1,(uI.mp h).2,e⟩,λ⟨f,h1,h2,e⟩=>⟨f,uI.mpr ⟨h1,h2⟩,e⟩⟩
theorem fD(h:n_ p):(cn p (aG p.aI)).length<=61:=by
 unfold cn;rw[az];exact f9 (wc _ _) h.fl
theorem JG(T:Txt K mg A):bg P w K mg base dm 1 A.OD A.tG ["_law_piece"] xj:=by
 refine T.yX.ok eE (λvs H Q E h=>?_) (λcdv Ar outer s H vs Q E hr h=>?_)
 ·obtain⟨p,rfl,_⟩:=h;rfl
 ·obtain⟨p,rfl,hp,hb,k⟩:=h;refine⟨_,(aQ (pS 1 eE.nd (a9 aa)) (aQ (pF (eU (K:=K) rfl (tx K (pv 0))) (bN (K:=K) (n:=4) rfl rfl (cT (pn 2 eE.nd) (cT (pn 3 eE.nd) (cT (pn 4 eE.nd) (cT (pn 5 eE.nd) bL))))) (bf (pF (eU (K:=K) rfl (pv 5)) (bN (K:=K) (n:=5) rfl rfl (cT (pn 6 eE.nd) (cT (pn 7 eE.nd) (cT (pn 8 eE.nd) (cT (pn 9 eE.nd) (cT (pn 10 eE.nd) bL)))))) (bf (bq (PW.pt (gE (ir (gD (pv 10))) (fR (fF (k8 hr.units (K:=K) rfl) (aX (aq (pv 8) (aq a5 aa))) (cx (gu ["_law_row"]) rfl (eU (K:=K) rfl (tx K (pv 0))) (λ_ _ _=>⟨(pn 0 (by walk_at "n")),bY,(c9 (i5 (K:=K) rfl) (pv 0) eV (dI ag))⟩)) (by with_unfolding_all rfl))))) (bf (dY (cJ (pv 1) (aq (pv 8) aa)))) cI))))) (bf (aJ (pv 1))))),?_⟩;walk_at "rd";refine⟨fe _,λd hd=>⟨_,aR.of (aU hd _ _ hp.top),_,rfl,?_⟩⟩;refine dv.of (xs:=p.aI.map aL.v) (λi σ H'=>∃b2 b3 b4 b5 b6 b7 b8 b9 b10,σ=[some p.v,some (V.ref d),b2,b3,b4,b5,b6,b7,b8,b9,b10]/\ay H H'/\H' d=some (.lst ((cn p (aG (p.aI.take i))).map V.str)))
   ⟨_,_,_,_,_,_,_,_,_,rfl,aU hd,aE⟩ (λi σ H' _ ⟨_,_,_,_,_,_,_,_,_,_,sm,_⟩=>aD.of (sm _ _ hp.sl)) ?_ ?_
  ·rintro i x σ H' hx ⟨b2,b3,b4,b5,b6,b7,b8,b9,b10,rfl,sm,hd'⟩;walk_at "0";obtain⟨st,hst,rfl⟩:=d_.mp hx;have sa0:=hp.ss st (c_ hst);have sa:=sa0.mono sm;have tk:=k7 hst;have bd:=uR (p:=p) (i+1);have bd2:=hb.fl;rw[tk,cW]at bd;walk_at "rd";refine⟨_,aR.of sa.top,rfl,_,_,rfl,_,_,rfl,_,_,rfl,_,_,rfl,rfl,?_⟩;refine dv.of (xs:=st.fills.map ax.v) (λj σ H2=>∃b6 b7 b8 b9 b10,σ=[some p.v,some (V.ref d),some (V.str st.kind),some (V.int st.step),some (V.ref st.lw),some (V.ref st.lf),b6,b7,b8,b9,b10]/\ay H H2/\H2 d=some (.lst ((cn p (aG (p.aI.take i)++st.fills.take j)).map V.str)))
    ⟨_,_,_,_,_,rfl,sm,by rw[hd'];simp⟩ (λj σ H' _ ⟨_,_,_,_,_,_,sm,_⟩=>aD.of (sm _ _ sa0.fl)) ?_ ?_
   ·rintro j x σ H2 hx ⟨b6,b7,b8,b9,b10,rfl,sm2,hd2⟩;walk_at "0";obtain⟨f,hf,rfl⟩:=d_.mp hx;have fa:=sm2 _ _ (sa0.fs f (c_ hf));have hj:j<st.fills.length:=(ig.mp hf).1;walk_at "5";have flen:(cn p (aG (p.aI.take i)++st.fills.take j)).length<=61:=by
     unfold cn;rw[az];refine f9 (wc _ _) ?_;rw[cW,jr];omega
    have step:cn p (aG (p.aI.take i)++st.fills.take (j+1))=cn p (aG (p.aI.take i)++st.fills.take j)++cn p [f]:=by
     rw[tj];unfold cn;rw[HA,aY]
    walk_at "rd";refine⟨_,aR.of fa,rfl,_,_,rfl,_,_,rfl,_,_,rfl,_,_,rfl,_,_,rfl,rfl,_,rfl,dM (λh1=>?_) (λh1=>?_)⟩
    ·refine⟨by rw[sizeLine_eq];decide,λq hq=>?_⟩;have sq:=aU (o:=HO.tup [V.str f.name,V.str (Str.ofString "own")]) hq;have hqq:upd H2 q (HO.tup [V.str f.name,V.str (Str.ofString "own")]) q=some (HO.tup [V.str f.name,V.str (Str.ofString "own")]):=aE;have s3:=sm2.trans sq;have hd3:=sq _ _ hd2;generalize upd H2 q (HO.tup [V.str f.name,V.str (Str.ofString "own")])=H3 at *;refine⟨_,aR.of (s3 _ _ hp.top),_,rfl,?_⟩;refine cD.of (xs:=p.aK.map aj.v) (by rw[az,sizeLine_eq];have:=hb.nm;omega) (aD.of (s3 _ _ hp.nl)) (λD i ys H4=>ay H3 H4/\H4 D=some (.lst ys)/\∃as:List Addr,ys=as.map V.ref/\as.map H4=(p.aK.take i).map iu)
      (λD hD=>⟨aU hD,aE,[],rfl,rfl⟩) ?_ ?_ ?_
     ·rintro D i ys H4 hD hi ⟨s4,hDD,as,rfl,e⟩;refine⟨aD.of (s4 _ _ (s3 _ _ hp.nl)),hDD,?_⟩;have h:=congrArg List.length e;rw[az,az,jr]at h;rw[az];omega
     ·rintro D i x ys H4 hD hx ⟨s4,hDD,as,rfl,e⟩;walk_at "0";obtain⟨n,hn,rfl⟩:=d_.mp hx;have na:=s4 _ _ (s3 _ _ (hp.ns n (c_ hn)));walk_at "3";walk_at "rd";refine⟨.no .nil,_,aR.of na,λz=>absurd (show HT.sIx 4 4 (some 2)=4 from z.2) (by decide),λq2 hq2=>⟨by rw[ae (bH hDD hq2)];exact hDD,eR hD (s4.trans (aU hq2)),aE,as++[q2],by rw[aY];rfl,?_⟩⟩;rw[tk,aY,aY];congr 1
      ·refine m9 e λa ha o ho=>?_;obtain⟨n',_,q'⟩:=iK e ha;have nD:a≠D:=λz=>by rw[z,hDD]at q';cases q'
       rw[ae nD,ae (bH ho hq2)];exact ho
      ·show [upd (upd H4 q2 _) D _ q2]=[iu n];rw[ae (Ne.symm (bH hDD hq2)),aE];rfl
     ·rintro D ys H4 hD ⟨s4,hDD,as,rfl,e⟩;walk_at "1";have any:=Jc (z:=f.name) e;refine⟨D,rfl,as,aD.of hDD,λa=>gO (H4 a),λa ha=>?_,.tup [.str f.name,.str (Str.ofString "own")],?_,dM (λh2=>?_) (λh2=>?_)⟩
      ·obtain⟨n,_,q⟩:=iK e ha;show Rep K H4 (gO (H4 a)) (V.ref a)/\dep (gO (H4 a))<=20;rw[q];refine⟨?_,by simp[gO,iu,dep,depL]⟩;simp only[gO,iu,Rep];exact⟨_,_,rfl,aR.of q,by simp[RepL,Rep]⟩
      ·simp only[Rep];exact⟨_,_,rfl,aR.of (s4 _ _ hqq),by simp[RepL,Rep]⟩
      ·rw[any]at h2;refine⟨.inl ⟨rfl,_,aD.of (s4 _ _ hd3)⟩,_,s4 _ _ hd3,by rw[az,sizeLine_eq];omega,eR hd (s3.trans s4),?_⟩;rw[aE,step,BM (by rw[h1,h2];rfl),aY];rfl
      ·rw[any]at h2;refine⟨s3.trans s4,?_⟩;rw[s4 _ _ hd3,step,u5 (by rw[lN];exact λz=>h2 z.2),uG]
    ·refine⟨sm2,?_⟩;rw[hd2,step];rw[u5 (by rw[lN];exact λz=>h1 z.1),uG]
   ·rintro σ H2 ⟨b6,b7,b8,b9,b10,rfl,sm2,hd2⟩;rw[az,iF]at hd2;exact⟨_,_,_,_,_,_,_,_,_,rfl,sm2,by rw[hd2,tk]⟩
  ·rintro σ H' ⟨b2,b3,b4,b5,b6,b7,b8,b9,b10,rfl,sm,hd'⟩;rw[az,iF]at hd';walk_at "rd";exact k d H' sm hd hd'
theorem AY(l:List Str):(l.map V.str).all gI=true:=by
 rw[List.all_map,Ol];intro x _;rfl
theorem HW{l:List Str}{z:Str}:Nl (V.str z) (l.map V.str)=decide (z∈l):=by
 rw[J9,yh,decide_eq_true_eq]
theorem Qs(T:Txt K mg A):bg P w K mg base dm 2 A.Ob A.oZ ["_law_some", "_law_name"] Bu:=by
 refine T.yL.ok xA (λvs H Q E h=>?_) (λcdv Ar outer s H vs Q E hr h=>?_)
 ·obtain⟨S,z,xs,rfl,_⟩:=h;rfl
 ·obtain⟨S,z,xs,rfl,hS,hb,k⟩:=h;refine⟨_,(aQ (pF (eU (K:=K) rfl (pv 0)) (pn 2 xA.nd) (bf (pF (eU (K:=K) rfl (pv 2)) (pn 3 xA.nd) (bf (bq (fF (AA (K:=K) rfl) (pv 1) (pC (NW T) hr T.JS T.ES T.Fy (aq (pv 3) aa)) (by with_unfolding_all rfl)) (bf (aJ (pv 3))) cI))))) (bf (aJ fW))),?_⟩;walk_at "rd";refine dv.of (xs:=xs.map λx=>V.ref x.1) (λi σ H'=>∃b2 b3:Option V,σ=[some (.ref S),some (.str z),b2,b3]/\ay H H'/\bo (flat (xs.take i)) z=none)
   ⟨_,_,rfl,ay.refl _,rfl⟩ ?_ ?_ ?_
  ·rintro i σ H' hi ⟨b2,b3,rfl,s1,_⟩;exact aD.of (s1 _ _ hS.top)
  ·rintro i v σ H' hv ⟨b2,b3,rfl,s1,no⟩;walk_at "6";obtain⟨x,hx,rfl⟩:=d_.mp hv;have hm:=c_ hx;have px:=hS.at_ x hm;have tk:=jw hx;walk_at "rd";refine dv.of (xs:=x.2.map ah.v) (λj σ H2=>∃b3:Option V,σ=[some (.ref S),some (.str z),some (.ref x.1),b3]/\ay H H2/\bo (flat (xs.take i)++x.2.take j) z=none)
    ⟨_,rfl,s1,by simpa using no⟩ ?_ ?_ ?_
   ·rintro j σ H2 hj ⟨b3,rfl,s2,_⟩;exact aD.of (s2 _ _ px.top)
   ·rintro j v σ H2 hv ⟨b3,rfl,s2,no2⟩;walk_at "6";walk_at "7";have hpm:=c_ hp;have pf:p∈flat xs:=hW.mpr ⟨x,hm,hpm⟩;walk_at "rd";refine⟨p,rfl,(px.at_ p hpm).mono s2,hb p pf,λl H3 s3 hl el=>⟨_,.inl (aD.of el),rfl,AY _,?_⟩⟩;rw[HW];have tj:x.2.take (j+1)=x.2.take j++[p]:=by rw[fX,hp];rfl
    have tm:(decide (z∈fY p)=true)↔cA z (ar p)=true:=by rw[decide_eq_true_eq];exact lX
    refine dM (λh=>?_) (λh=>⟨s2.trans s3,?_⟩)
    ·have e:bo (flat xs) z=some p:=by
      have fx:flat xs=(flat (xs.take i)++x.2.take j)++p::(x.2.drop (j+1)++flat (xs.drop (i+1))):=by
       have e1:flat xs=flat (xs.take i)++(x.2++flat (xs.drop (i+1))):=by
        have h1:=Ph (i+1) xs;unfold flat;rw[<-tI];have h2:=jw hx;unfold flat at h2;rw[<-h2,<-A3,h1]
       have e2:x.2=x.2.take j++p::x.2.drop (j+1):=by
        have h1:=Ph (j+1) x.2;rw[tj]at h1;rw[tI]at h1;exact h1.symm
       rw[e1]
       conv=>lhs;rw[e2]
       simp
      unfold bo at no2 ⊢;rw[fx,IY,no2];simp[List.find?_cons,tm.mp h]
     have:=k H3 (s2.trans s3);rw[e]at this;exact this
    ·unfold bo at no2 ⊢;rw[tj,<-tI,IY,no2];have q:cA z (ar p)=false:=Bool.eq_false_iff.mpr λq=>h (tm.mpr q);simp[List.find?_cons,q]
   ·rintro σ H2 ⟨b3,rfl,s2,no2⟩;rw[az,iF]at no2;exact⟨_,_,rfl,s2,by rw[tk];exact no2⟩
  ·rintro σ H' ⟨b2,b3,rfl,s1,no⟩;rw[az,iF]at no;walk_at "rd";have:=k H' s1;rw[no]at this;exact this
theorem yn(bd:BG G S e)(tc:jW (G.map ar) (S.map ar) e T rs):T.length<=14:=by
 have:(T.map (·.1)).length<=(S.map ah.name).length:=len_sub tc.nd λy hy=>by
  obtain⟨u,hu,rfl⟩:=aM.mp hy;obtain⟨v,hv,e⟩:=aM.mp (tc.sub u hu);exact aM.mpr ⟨v,hv,by rw[<-e];rfl⟩
 walk_at "4";have b:=bd.cy;rw[cW]at b;omega
theorem EW(hS:v5 H S ((a0,G)::xs)):∀p∈G++flat xs,p.At H:=λp hp=>by
 rcases bF.mp hp with y|y
 ·exact(hS.at_ (a0,G) lE).at_ p y
 ·obtain⟨x,hx,y⟩:=hW.mp y;exact(hS.at_ x (ka _ hx)).at_ p y
theorem D3(s:dC H H')(h:v5 H S xs):v5 H' S xs:=⟨xI s h.top,λx hx=>JI s (h.at_ x hx)⟩
theorem HV.e(h:p.HV q):ar q=ar p:=by
 have e:∀l:List aL,l.map aL.e=(l.map aL.core).map λc=>(c.1,c.2.1,c.2.2.1,c.2.2.2.map ax.e):=λl=>by rw[ck];rfl
 unfold ar;rw[h.name,h.aK,e,h.aI,<-e]
theorem OG(p:ah):p.d=Kq (ar p):=by
 unfold ah.d Kq ar;simp only[List.map_map];congr 3
 ·congr 1;refine xq λs _=>?_;show aL.d s=_;unfold aL.d;simp only[Function.comp,aL.e,List.map_map];rfl
theorem wz(hS:v5 H S xs)(cy:xs.length<=100)(bd:∀x∈xs,x.2.length<=100/\∀p∈x.2,n_ p)
  (k:∀(D:Addr) (ys:List (Addr×List ah)) (H':Hp),ay H H'->v5 H' D ys->H D=none->ys.map (λy=>y.2.map ar)=xs.map (λx=>x.2.map ar)->Q (.ref D) H'):
  cD K (j6 0) MB (iT 1 [] (oo K (mB 0)) (j6 0) MB (Eb (zy K) [] E0 (J6 (mB 0) Mx))) [none] Q (V.ref S) H:=by
 refine cD.of (xs:=xs.map λx=>V.ref x.1) (by rw[az,sizeLine_eq];omega) (aD.of hS.top) (λD i vs H'=>∃ys:List (Addr×List ah),vs=ys.map (λy=>V.ref y.1)/\ay H H'/\H' D=some (.lst vs)/\(∀y∈ys,PL H' y.1 y.2/\y.1≠D/\∀p∈y.2,D∉p.lists)/\ys.map (λy=>y.2.map ar)=(xs.take i).map λx=>x.2.map ar)
  (λD hD=>⟨[],rfl,aU hD,aE,(λq hq=>by cases hq),rfl⟩) ?_ ?_ ?_
 ·rintro D i vs H' hD hi ⟨ys,rfl,s1,hDD,ya,e⟩;refine⟨aD.of (s1 _ _ hS.top),hDD,?_⟩;have:=congrArg List.length e;walk_at "9";rw[az];omega
 ·rintro D i v vs H' hD hv ⟨ys,rfl,s1,hDD,ya,e⟩;walk_at "6";obtain⟨x,hx,rfl⟩:=d_.mp hv;have hm:=c_ hx;have px:=hS.at_ x hm;obtain⟨b1,b2⟩:=bd x hm;walk_at "rd";refine⟨.no .nil,?_⟩;refine cD.of (xs:=x.2.map ah.v) (by rw[az,sizeLine_eq];omega) (aD.of (s1 _ _ px.top)) (λD2 j vs H2=>∃qs:List ah,vs=qs.map ah.v/\ay H' H2/\H2 D2=some (.lst vs)/\(∀q∈qs,q.At H2/\D2∉q.lists/\D∉q.lists)/\qs.map ar=(x.2.take j).map ar)
   (λD2 hD2=>⟨[],rfl,aU hD2,aE,(λq hq=>by cases hq),rfl⟩) ?_ ?_ ?_
  ·rintro D2 j vs H2 hD2 hj ⟨qs,rfl,s2,hDD2,qa,e2⟩;refine⟨aD.of (s2 _ _ (s1 _ _ px.top)),hDD2,?_⟩;have:=congrArg List.length e2;walk_at "9";rw[az];omega
  ·rintro D2 j v vs H2 hD2 hv ⟨qs,rfl,s2,hDD2,qa,e2⟩;walk_at "6";walk_at "7";have hpm:=c_ hp;have pb:=b2 p hpm;walk_at "rd";refine⟨.no .nil,p,rfl,(px.at_ p hpm).mono (s1.trans s2),pb.st,P8 pb.nm,pb.ss,λq H3 s3 ra cp fr nd=>⟨s3 _ _ hDD2,qs++[q],by simp,eR hD2 (s2.trans s3),aE,λy hy=>?_,?_⟩⟩
   ·have bt:fZ H3 (upd H3 D2 (.lst (qs.map ah.v++[q.v]))) D2:=fZ.upd (s3 _ _ hDD2);rcases bF.mp hy with z|z
    ·obtain⟨y1,y2,y3⟩:=qa y z;exact⟨(y1.mono s3).but bt y2,y2,y3⟩
    ·rw[bX.mp z];have z1:D2∉q.lists:=λz=>by have:=fr D2 z;rw[hDD2]at this;cases this
     have z2:D∉q.lists:=λz=>by have:=fr D z;rw[s2 _ _ hDD]at this;cases this
     exact⟨ra.but bt z1,z1,z2⟩
   ·rw[aY,e2,fX,hp,aY];congr 1;show [ar q]=[ar p];rw[HV.e cp]
  ·rintro D2 vs H2 hD2 ⟨qs,rfl,s2,hDD2,qa,e2⟩;rw[az,iF]at e2;have bt:fZ H2 (upd H2 D (.lst (ys.map (λy=>V.ref y.1)++[V.ref D2]))) D:=fZ.upd (s2 _ _ hDD);refine⟨s2 _ _ hDD,ys++[(D2,qs)],by simp,eR hD (s1.trans s2),aE,λy hy=>?_,?_⟩
   ·rcases bF.mp hy with z|z
    ·obtain⟨y1,y2,y3⟩:=ya y z;exact⟨⟨bt.2 _ _ (s2 _ _ y1.top) y2,λp hp=>((y1.at_ p hp).mono s2).but bt (y3 p hp)⟩,y2,y3⟩
    ·rw[bX.mp z];have n:D2≠D:=Ne.symm (bH hDD hD2);exact⟨⟨bt.2 _ _ hDD2 n,λp hp=>(qa p hp).1.but bt (qa p hp).2.2⟩,n,λp hp=>(qa p hp).2.2⟩
   ·rw[aY,e,fX,hx,aY];congr 1;show [qs.map ar]=[x.2.map ar];rw[e2]
 ·rintro D vs H' hD ⟨ys,rfl,s1,hDD,ya,e⟩;walk_at "1";exact k D ys H' s1 ⟨hDD,λy hy=>(ya y hy).1⟩ hD e
theorem Qf(xs:List V):gp xs (some 1) none=xs.drop 1:=by
 unfold gp;have e:HT.sIx xs.length 0 (some 1)=min 1 xs.length:=HT.sIx_nat _ _ 1;have e0:HT.sIx xs.length xs.length none=xs.length:=rfl;rw[e,e0];cases xs with
 |nil=>rfl
 |cons x r=>
  rw[show min 1 (x::r).length=1 by simp,List.take_of_length_le (by rw[List.length_drop];omega)]
theorem jJ(h:ys.map (λy=>y.2.map ar)=xs.map λx=>x.2.map ar):(flat ys).map ar=(flat xs).map ar:=by
 have e:∀l:List (Addr×List ah),(flat l).map ar=(l.map λx=>x.2.map ar).flatten:=λl=>by
  unfold flat;rw[List.map_flatMap,List.flatMap_def]
 rw[e,e,h]
theorem CY{α:Type}{l:List α}(h:l.length=4):∃a b c d,l=[a,b,c,d]:=by
 match l,h with
 |[a,b,c,d],_=>exact⟨a,b,c,d,rfl⟩
theorem AG(c:List (Str×Int×List Int×List ax)):∀{ss:List aL},ss.map aL.e=c->(aG ss).length=(c.map λs=>s.2.2.2.length).sum/\ss.length=c.length/\∀s∈ss,∃x∈c,s.words.length=x.2.2.1.length/\s.fills.length=x.2.2.2.length
 := by
 intro ss h;subst h;refine⟨?_,by rw[az],λs hs=>⟨aL.e s,aM.mpr ⟨s,hs,rfl⟩,rfl,by unfold aL.e;rw[List.length_map]⟩⟩;unfold aG;rw[List.length_flatMap,ck];refine congrArg List.sum (xq λs _=>?_);show s.fills.length=(s.fills.map ax.e).length;rw[az]
theorem vA(h:n_ p)(e:ar q=ar p):n_ q:=by
 have e1:q.aK.map aj.e=p.aK.map aj.e:=congrArg (·.2.1) e;have e2:q.aI.map aL.e=p.aI.map aL.e:=congrArg (·.2.2) e;have l1:q.aK.length=p.aK.length:=by have:=congrArg List.length e1;rwa [az,az]at this
 have l2:q.aI.length=p.aI.length:=by have:=congrArg List.length e2;rwa [az,az]at this
 obtain⟨f1,_,_⟩:=AG _ e2;obtain⟨g1,_,_⟩:=AG _ (rfl:p.aI.map aL.e=_);refine⟨by rw[l1];exact h.nm,by rw[l2];exact h.st,λs hs=>?_,by rw[f1,<-g1];exact h.fl,?_⟩
 ·have m:aL.e s∈q.aI.map aL.e:=aM.mpr ⟨s,hs,rfl⟩;rw[e2]at m;obtain⟨s',hs',es⟩:=aM.mp m;have h1:=h.ss s' hs';have w:s'.words=s.words:=congrArg (·.2.2.1) es;have f:(s'.fills.map ax.e).length=(s.fills.map ax.e).length:=congrArg (λx:Str×Int×List Int×List ax=>x.2.2.2.length) es;rw[az,az]at f;rw[<-w,<-f];exact h1
 ·have n:∀l:List aj,l.map aj.name=(l.map aj.e).map aj.name:=λl=>by rw[ck];rfl
  rw[n,e1,<-n];exact h.nd
theorem mT:∀(l pre:List (Key×V)),((pre++l).map (·.1)).Nodup->cb pre l=pre++l
 |[],pre,_=>by unfold cb;simp
 |x::l,pre,h=>by
  show cb (putK pre x.1 x.2) l=_;have e:putK pre x.1 x.2=pre++[x]:=by
   unfold putK;rw[if_neg];intro z;obtain⟨y,hy,e⟩:=lP.mp z;rw[aY,fH]at h;exact(f_.mp h).2.2 y.1 (aM.mpr ⟨y,hy,rfl⟩) x.1 (by simp) (of_decide_eq_true e)
  rw[e,mT l (pre++[x]) (by rw[tI];exact h),tI];rfl
theorem gJ(nd:(ps.map ah.name).Nodup)(hp:p∈ps):fU ps p.name=some p:=by
 unfold fU
 induction ps with
 |nil=>cases hp
 |cons q ps ih=>
  rw[fH,j7]at nd;rcases iG.mp hp with rfl|hp
  ·simp
  ·have:q.name≠p.name:=λe=>nd.1 (e▸aM.mpr ⟨p,hp,rfl⟩);rw[List.find?_cons_of_neg (by simpa using this)];exact ih nd.2 hp
theorem oh{ps:List ah}{p:ah}(nd:(ps.map ah.name).Nodup)(hp:p∈ps):a8 (cb [] (ps.map λp=>((.inr p.name:Key),p.v))) (.inr p.name)=some p.v:=by
 have e:cb [] (ps.map λp=>((.inr p.name:Key),p.v))=ps.map λp=>((.inr p.name:Key),p.v):=by
  refine mT _ [] ?_;rw[List.nil_append,ck];have e:(Prod.fst ∘ λp:ah=>((.inr p.name:Key),p.v))=(Sum.inr:Str->Key) ∘ ah.name:=rfl;rw[e,<-ck];exact List.Pairwise.map _ (λ_ _ h z=>h (Sum.inr.inj z)) nd
 rw[e];unfold a8;rw[Hs,Jr];have h:=gJ nd hp;unfold fU at h;have e2:((λkv:Key×V=>decide (kv.1=(.inr p.name:Key))) ∘ λp:ah=>((.inr p.name:Key),p.v))=λq:ah=>decide (q.name=p.name):=by
  funext q;simp
 rw[e2,h];rfl
theorem J0(T:Txt K mg A):bg P w K mg base dm 1 A.O7 A.tR ["pieces"] AU:=by
 refine T.yk.ok Mz (λvs H Q E h=>?_) (λcdv Ar outer s H vs Q E hr h=>?_)
 ·obtain⟨L,ps,rfl,_⟩:=h;rfl
 ·obtain⟨L,ps,rfl,hP,hn,k⟩:=h;refine⟨_,(bf (aJ (cq (wj rfl) (by rfl) T.jx oM (aq (cx (gu ["piece"]) rfl (eU (K:=K) rfl (pv 0)) (λ_ _ _=>⟨(pn 0 (by walk_at "n")),bY,(aX (aq (tx K (pv 0)) (aq (pv 0) aa)))⟩)) aa)))),?_⟩;walk_at "rd";refine cD.of (xs:=ps.map ah.v) (by rw[az,sizeLine_eq];omega) (aD.of hP.top) (λD i ys H2=>ay H H2/\H2 D=some (.lst ys)/\∃ts:List (Addr×Key×V),ys=ts.map (λt=>V.ref t.1)/\ts.map (·.2)=(ps.take i).map (λp=>((.inr p.name:Key),p.v))/\∀t∈ts,H2 t.1=some (.tup [kV t.2.1,t.2.2]))
   (λD hD=>⟨aU hD,aE,[],rfl,rfl,λt h=>(nomatch h)⟩) ?_ ?_ ?_
  ·rintro D i ys H2 hD hi ⟨s2,hDD,ts,rfl,e,_⟩;have hl:=congrArg List.length e;rw[az,az,jr]at hl;exact⟨aD.of (s2 _ _ hP.top),hDD,by rw[az];omega⟩
  ·rintro D i x ys H2 hD hx ⟨s2,hDD,ts,rfl,e,ht⟩;walk_at "0";obtain⟨p,hp,rfl⟩:=d_.mp hx;have pa:=hP.at_ p (c_ hp);walk_at "rd";refine⟨.no .nil,_,aR.of (s2 _ _ pa.top),_,rfl,by walk_at "s", λq hq=>?_⟩;have hqD:D≠q:=bH hDD hq;refine⟨by rw[ae hqD];exact hDD,eR hD (s2.trans (aU hq)),aE,ts++[(q,.inr p.name,p.v)],by simp,?_,λt h=>?_⟩
   ·rw[fX,hp,aY,aY,e];rfl
   ·rcases bF.mp h with z|z
    ·have:=ht t z;rw[ae (bD this hDD (by intro z;cases z)),ae (bH this hq)];exact this
    ·rw[bX.mp z,ae (Ne.symm hqD),aE];rfl
  ·rintro D ys H2 hD ⟨s2,hDD,ts,rfl,e,ht⟩;walk_at "1";have hl:=congrArg List.length e;rw[az,az]at hl;refine⟨D,rfl,ts,aD.of hDD,ht,by omega,λd hd=>?_⟩;rw[e];exact k d _ (s2.trans (aU hd)) aE (eP s2 hd)
theorem Nr(T:Txt K mg A):bg P w K mg base dm 1 A.Py A.qq ["number", "step"] HI:=by
 refine T.zH.ok L7 (λvs H Q E h=>?_) (λcdv Ar outer s H vs Q E hr h=>?_)
 ·obtain⟨n,st,rfl,_⟩:=h;rfl
 ·obtain⟨n,st,rfl,h0,h1,h2,h3,k⟩:=h;refine⟨_,(bf (aJ (aF iD (aF b_ (aF jv (aF dw (pv 0) (pv 1)) ag) (pv 1)) (pv 1)))),?_⟩;walk_at "rd";exact⟨⟨by omega,by omega⟩,.inr ⟨by omega,by omega⟩,k⟩
theorem vV(h:(gr ps k).isSome=true):∃p s,p∈ps/\p.name=k.1/\0<=k.2/\p.aI[k.2.toNat]?=some s/\gr ps k=some s:=by
 unfold gr at h ⊢;cases hp:fU ps k.1 with
 |none=>rw[hp]at h;cases h
 |some p=>
  rw[hp]at h;have e:(if 0<=k.2 then p.aI[k.2.toNat]? else none).isSome=true:=h;by_cases z:0<=k.2
  ·rw[if_pos z]at e;obtain⟨s,hs⟩:=QC.mp e;refine⟨p,s,qw hp,by have:=GD hp;simpa using this,z,hs,?_⟩;show(if 0<=k.2 then p.aI[k.2.toNat]? else none)=some s;rw[if_pos z,hs]
  ·rw[if_neg z]at e;cases e
theorem En(hd:H d=some (.dK (cb [] (ps.map λp=>(.inr p.name,p.v)))))(hS:jV H ps)(h:(gr ps k).isSome=true):
  ∃(p:ah) (s:aL),gr ps k=some s/\p∈ps/\s∈p.aI/\a8 (cb [] (ps.map λp=>((.inr p.name:Key),p.v))) (.inr k.1)=some p.v/\H p.t=some (.tup [.str p.name,.ref p.ls,.ref p.ln])/\H p.ls=some (.lst (p.aI.map aL.v))/\iI (p.aI.map aL.v) k.2=some s.v/\s.At H:=by
 obtain⟨p,s,hp,e,z,hs,es⟩:=vV h;have pa:=hS.at_ p hp;have hm:=c_ hs;refine⟨p,s,es,hp,hm,by rw[<-e];exact oh hS.nd hp,pa.top,pa.sl,?_,pa.ss s hm⟩;obtain⟨i,hi⟩:=Pj z;rw[hi]at hs ⊢;exact cw (by rw[gh];exact congrArg (Option.map aL.v) hs)
noncomputable def dF(H:Hp)(b:Addr):aH:=match H b with | some (.tup [.str z,.int n])=>(z,n) | _=>(Str.ofString "", 0)
theorem vo(h:H b=some (.tup [.str k.1,.int k.2])):dF H b=k:=by unfold dF;rw[h]
theorem B7(hd:H d=some (.dK (cb [] (ps.map λp=>(.inr p.name,p.v)))))(hS:jV H ps)(hK:uP H l qs)(hl:qs.length<64)(hin:∀q∈qs,(gr ps q.2).isSome=true)
  (k:∀(D:Addr) (H':Hp),ay H H'->uP H' D (qs.filter λq=>bA ps kd q.2)->R (.ref D) H'):
  cD K (j6 0) (Jt (yt Sw (yt (qD K) (yt (Lf K) (yt (qD K) (KP (mB 1) (yt (qD K) (mB 0) (tC (V.int 0)))) (tC (V.int 1))) (yt (qD K) (mB 0) (tC (V.int 1)))) (tC (V.int 0))) (tC (V.str kd)))) (mB 0) [none,some (V.ref d)] R (V.ref l) H:=by
 refine cD.of (xs:=qs.map λq=>V.ref q.1) (by rw[sizeLine_eq,az];omega) (aD.of hK.1) (λD i ys H'=>ay H H'/\H' D=some (.lst ys)/\ys=((qs.take i).filter λq=>bA ps kd q.2).map λq=>V.ref q.1) (λD hD=>⟨aU hD,aE,rfl⟩) ?_ ?_ ?_
 ·rintro D i ys H' hD hi ⟨s1,hDD,rfl⟩;refine⟨aD.of (s1 _ _ hK.1),hDD,?_⟩;rw[az];exact f9 (wc _ _) (by rw[jr];omega)
 ·rintro D i x ys H' hD hx ⟨s1,hDD,rfl⟩;walk_at "0";obtain⟨q,hq,rfl⟩:=d_.mp hx;have hm:=c_ hq;obtain⟨p,st,es,hp,hst,e1,e2,e3,e4,sa⟩:=En hd hS (hin q hm);have qa:=hK.2 q hm;have sa':=sa.mono s1;have dg:bx H' d (V.str q.2.1) (some p.v):=by
   have:=bx.k (k:=(.inr q.2.1:Key)) (s1 _ _ hd);rw[e1]at this;exact this
  walk_at "rd";refine⟨.no (.yes .nil),_,aR.of (s1 _ _ qa),_,rfl,_,dg,_,rfl,_,aR.of (s1 _ _ e2),_,rfl,_,aR.of (s1 _ _ qa),_,rfl,_,rfl,_,_,rfl,aD.of (s1 _ _ e3),_,e4,_,rfl,_,aR.of sa'.top,_,rfl,rfl,?_⟩;have ek:bA ps kd q.2=decide (st.kind=kd):=by unfold bA;rw[es];simp
  have et:(qs.take (i+1)).filter (λq=>bA ps kd q.2)=(qs.take i).filter (λq=>bA ps kd q.2)++if st.kind=kd then [q] else []:=by
   rw[fX,hq,HA];refine congrArg (λz=>List.filter (λq:Addr×aH=>bA ps kd q.2) (List.take i qs)++z) ?_;show List.filter _ [q]=_;rw[EC,ek];by_cases z:st.kind=kd<;>simp[z]
  by_cases z:st.kind=kd
  ·rw[decide_eq_true (congrArg V.str z),if_pos rfl];rw[if_pos z]at et;refine⟨hDD,eR hD s1,aE,?_⟩;rw[et,aY];rfl
  ·rw[decide_eq_false (λe=>z (V.str.inj e)),if_neg (by decide)];rw[if_neg z,uG]at et;exact⟨s1,hDD,by rw[et]⟩
 ·rintro D ys H' hD ⟨s1,hDD,rfl⟩;rw[az,iF]at hDD;exact k D H' s1 ⟨hDD,λq hq=>s1 _ _ (hK.2 q ((uI.mp hq).1))⟩
theorem PR(T:Txt K mg A):bg P w K mg base dm 1 A.Oy A.qN ["by_name", "keys"] C3:=by
 refine T.yb.ok qF (λvs H Q E h=>?_) (λcdv Ar outer s H vs Q E hr h=>?_)
 ·obtain⟨d,a,ps,qs,rfl,_⟩:=h;rfl
 ·obtain⟨d,a,ps,qs,rfl,hd,hS,hK,hl,hin,k⟩:=h;refine⟨_,(aQ (pS 2 qF.nd (eh (j4 (K:=K) rfl) (by rfl) T.cQ ff (aq (cx (gu ["name", "number"]) rfl (eU (K:=K) rfl (pv 1)) (λ_ _ _=>⟨(bN (K:=K) (n:=2) rfl rfl (cT (pn 0 (by walk_at "n")) (cT (pn 1 (by walk_at "n")) bL))),bY,(aX (aq (pv 0) (aq (pv 1) aa)))⟩)) aa))) (aQ (fV (i:=3) qF.nd rfl (by walk_at "o") (l8 (own:=["key"]) (fr:=["by_name"]) (fm:=[0]) rfl (by decide +kernel) (by decide +kernel) (by decide +kernel) (.cons rfl (by walk_at "o") rfl .nil)) rfl (eU (K:=K) rfl (pv 2)) (λ_ _ _=>⟨(pn 0 (by walk_at "n")),(gQ (fF dZ (tx K (bT (dR (K:=K) rfl) (tx K (bU (a7 hr) (pv 1) (tx K (pv 0)) (λ_ _=>rfl))) (tx K (pv 0)) (λ_ _=>rfl))) a5 (aS _))),(pv 0)⟩)) (aQ (fV (i:=4) qF.nd rfl (by walk_at "o") (l8 (own:=["key"]) (fr:=["by_name"]) (fm:=[0]) rfl (by decide +kernel) (by decide +kernel) (by decide +kernel) (.cons rfl (by walk_at "o") rfl .nil)) rfl (eU (K:=K) rfl (pv 2)) (λ_ _ _=>⟨(pn 0 (by walk_at "n")),(gQ (fF dZ (tx K (bT (dR (K:=K) rfl) (tx K (bU (a7 hr) (pv 1) (tx K (pv 0)) (λ_ _=>rfl))) (tx K (pv 0)) (λ_ _=>rfl))) a5 (aS _))),(pv 0)⟩)) (bf (aJ (aF (i8 (K:=K) rfl) (pv 3) (pv 4))))))),?_⟩;walk_at "rd"
  refine cD.of (xs:=qs.map λq=>V.ref q.1) (by rw[sizeLine_eq,az];omega) (aD.of hK.1) (λD i ys H'=>ay H H'/\H' D=some (.lst ys)/\∃rs:List (Addr×aH),ys=rs.map (λr=>V.ref r.1)/\rs.map (·.2)=(qs.take i).map (·.2)/\∀r∈rs,H' r.1=some (.tup [.str r.2.1,.int r.2.2]))
   (λD hD=>⟨aU hD,aE,[],rfl,rfl,λr h=>nomatch h⟩) ?_ ?_ ?_
  ·rintro D i ys H' hD hi ⟨s1,hDD,rs,rfl,e,_⟩;have hl:=congrArg List.length e;rw[az,az,jr]at hl;exact⟨aD.of (s1 _ _ hK.1),hDD,by rw[az];omega⟩
  ·rintro D i x ys H' hD hx ⟨s1,hDD,rs,rfl,e,ht⟩;walk_at "0";obtain⟨q,hq,rfl⟩:=d_.mp hx;have qa:=s1 _ _ (hK.2 q (c_ hq));walk_at "rd";refine⟨_,aR.of qa,rfl,_,_,rfl,_,_,rfl,rfl,.no (.no .nil),by walk_at "s", λp hp=>?_⟩;have hpD:D≠p:=bH hDD hp;refine⟨by rw[ae hpD];exact hDD,eR hD (s1.trans (aU hp)),aE,rs++[(p,q.2)],by simp,?_,λr h=>?_⟩
   ·rw[fX,hq,aY,aY,e];rfl
   ·rcases bF.mp h with z|z
    ·have:=ht r z;rw[ae (bD this hDD (by intro z;cases z)),ae (bH this hp)];exact this
    ·rw[bX.mp z,ae (Ne.symm hpD),aE]
  ·rintro D ys H1 hD ⟨s1,hDD,rs,rfl,e,ht⟩;walk_at "1";have el:rs.length=qs.length:=by have:=congrArg List.length e;rwa [az,az]at this
   walk_at "rd";refine⟨rs.map (·.1),by rw[ck];exact aD.of hDD,dF H1,λb hb=>?_,by rw[az];omega,λl bs' hl0 pm pw=>?_⟩
   ·obtain⟨r,hr,rfl⟩:=aM.mp hb;rw[vo (ht r hr)];exact ht r hr
   ·have s2:=s1.trans (aU (o:=HO.lst (bs'.map V.ref)) hl0);have hb:∀b∈bs',∃r∈rs,r.1=b:=λb hb=>by
     obtain⟨r,hr,e⟩:=aM.mp (pm.mem_iff.mp hb);exact⟨r,hr,e⟩
    have K1:uP (upd H1 l (HO.lst (bs'.map V.ref))) l (bs'.map λb=>(b,dF H1 b)):=by
     refine⟨by rw[aE,ck];rfl,λq hq=>?_⟩;obtain⟨b,hb',rfl⟩:=aM.mp hq;obtain⟨r,hr,rfl⟩:=hb b hb';rw[vo (ht r hr)];exact aU hl0 _ _ (ht r hr)
    have pk:(bs'.map (dF H1)).Perm (qs.map (·.2)):=by
     have:=pm.map (dF H1);rw[ck]at this;have e3:rs.map (dF H1 ∘ λr=>r.1)=rs.map (·.2):=xq λr hr=>vo (ht r hr);rw[e3,e]at this;exact this
    have in1:∀q∈bs'.map (λb=>(b,dF H1 b)),(gr ps q.2).isSome=true:=λq hq=>by
     obtain⟨b,hb',rfl⟩:=aM.mp hq;obtain⟨q',h1,h2⟩:=aM.mp (pk.mem_iff.mp (aM.mpr ⟨b,hb',rfl⟩));show(gr ps (dF H1 b)).isSome=true;rw[<-h2];exact hin q' h1
    have l1:(bs'.map λb=>(b,dF H1 b)).length<64:=by rw[az];have:=pm.length_eq;rw[az]at this;omega
    have sh:∀H',ay H H'->jV H' ps:=λH' s=>⟨λp hp=>(hS.at_ p hp).mono s,hS.nd,hS.st⟩;refine B7 (s2 _ _ hd) (sh _ s2) K1 l1 in1 λD1 H2 s3 K2=>B7 (s3 _ _ (s2 _ _ hd)) (sh _ (s2.trans s3)) ⟨s3 _ _ K1.1,λq hq=>s3 _ _ (K1.2 q hq)⟩ l1 in1 λD2 H3 s4 K3=>?_;refine⟨_,rfl,_,rfl,_,aD.of (s4 _ _ K2.1),_,aD.of K3.1,?_,λl2 hl2=>?_⟩
    ·rw[sizeLine_eq,az,az];have a1:=wc (λq:Addr×aH=>bA ps (Str.ofString "code") q.2) (bs'.map λb=>(b,dF H1 b));have a2:=wc (λq:Addr×aH=>bA ps (Str.ofString "data") q.2) (bs'.map λb=>(b,dF H1 b));omega
    ·refine k l2 _ _ ((s2.trans s3).trans (s4.trans (aU hl2))) (eP ((s2.trans s3).trans s4) hl2) ⟨by rw[aE,<-aY],λq hq=>aU hl2 _ _ ?_⟩ ⟨bs'.map (dF H1),pk,pw,?_⟩
     ·rcases bF.mp hq with z|z
      ·exact s4 _ _ (K2.2 q z)
      ·exact K3.2 q z
     ·rw[aY,List.filter_map,List.filter_map,List.filter_map,List.filter_map,ck,ck];rfl
theorem yO{e st:Int}(h:1<=st):e<=bP e st/\bP e st<e+st/\bP e st%st=0:=by
 unfold bP;have h1:=Int.emod_def (e+st - 1) st;have h2:=Int.emod_nonneg (e+st - 1) (show st≠0 by omega);have h3:=Int.emod_lt_of_pos (e+st - 1) (show 0<st by omega);have h4:(e+st - 1)/st*st=st*((e+st - 1)/st):=Int.mul_comm _ _;refine⟨by omega,by omega,Int.mul_emod_left _ _⟩
theorem fh:∀(e:Int) (ss:List aL) (s:aL),bI e (ss++[s])=bI e ss++[(bP (((bI e ss).getLast?.map (·.2)).getD e) s.step,bP (((bI e ss).getLast?.map (·.2)).getD e) s.step+(s.words.length:Int))]
 |e,[],s=>rfl
 |e,y::ss,s=>by
  have ih:=fh (bP e y.step+(y.words.length:Int)) ss s;show(_::bI _ (ss++[s]))=_;rw[ih];have g:((bI e (y::ss)).getLast?.map (·.2)).getD e=((bI (bP e y.step+(y.words.length:Int)) ss).getLast?.map (·.2)).getD (bP e y.step+(y.words.length:Int)):=by
   show(((bP e y.step,bP e y.step+(y.words.length:Int))::bI (bP e y.step+(y.words.length:Int)) ss).getLast?.map (·.2)).getD e=_;rw[List.getLast?_cons];cases hg:(bI (bP e y.step+(y.words.length:Int)) ss).getLast?<;>rfl
  rw[g];rfl
theorem PY(T:Txt K mg A):bg P w K mg base dm 2 A.OF A.p8 ["pieces", "keys"] Lg:=by
 refine T.xX.ok gy (λvs H Q E h=>?_) (λcdv Ar outer s H vs Q E hr h=>?_)
 ·obtain⟨L,a,ps,qs,rfl,_⟩:=h;rfl
 ·obtain⟨L,a,ps,qs,rfl,hP,hn,hS,hK,hl,hin,k⟩:=h;refine⟨_,(aQ (pS 2 gy.nd (pC (J0 T) hr T.CU T.zG T.AB (aq (pv 0) aa))) (aQ (pS 3 gy.nd (a9 aa)) (aQ (pS 4 gy.nd ag) (aQ (pF (eU (K:=K) rfl (pC (PR T) hr T.Jy T.EY T.Gk (aq (pv 2) (aq (pv 1) aa)))) (pn 5 gy.nd) (aQ (pS 6 gy.nd (bT (dR (K:=K) rfl) (tx K (bU (a7 hr) (pv 2) (tx K (pv 5)) (λ_ _=>rfl))) (tx K (pv 5)) (λ_ _=>rfl))) (aQ (pS 7 gy.nd (pC (Nr T) hr T.JN T.CZ T.DQ (aq (pv 4) (aq (tx K (pv 6)) aa)))) (aQ (pS 4 gy.nd (aF dw (pv 7) (eh (j8 (K:=K) rfl) (by rfl) T.dJ dj (aq (tx K (pv 6)) aa)))) (bf (dY (cJ (pv 3) (aq (aX (aq (pv 5) (aq (pv 7) (aq (pv 4) aa)))) aa)))))))) (bf (aJ (pv 3))))))),?_⟩;walk_at "rd";refine⟨ps,hP,hn,λd H1 s1 hd _=>⟨fe _,λp hp=>?_⟩⟩;have s2:=s1.trans (aU (o:=HO.lst []) hp);have sh:∀H',ay H H'->jV H' ps:=λH' s=>⟨λp hp=>(hS.at_ p hp).mono s,hS.nd,hS.st⟩;refine⟨ps,aU hp _ _ hd,sh _ s2,qs,⟨s2 _ _ hK.1,λq hq=>s2 _ _ (hK.2 q hq)⟩,hl,hin,λl ls H2 s3 hlf hL hO=>?_⟩;have hln:ls.length<64:=by
   obtain⟨ss,pm,_,e⟩:=hO;have:=congrArg List.length e;rw[az,cW]at this;have f:∀xs:List aH,(xs.filter (bA ps (Str.ofString "code"))).length+(xs.filter (bA ps (Str.ofString "data"))).length<=xs.length:=λxs=>by
    induction xs with
    |nil=>exact bC _
    |cons x xs ih=>
     have ne:¬(bA ps (Str.ofString "code") x=true/\bA ps (Str.ofString "data") x=true):=λ⟨h1,h2⟩=>by
      unfold bA at h1 h2;rw[of_decide_eq_true h1]at h2;exact absurd (Option.some.inj (of_decide_eq_true h2)) (by decide +kernel)
     rw[EC,EC];by_cases a1:bA ps (Str.ofString "code") x=true<;>by_cases a2:bA ps (Str.ofString "data") x=true
     ·exact absurd ⟨a1,a2⟩ ne
     ·rw[if_pos a1,if_neg a2,je,je];omega
     ·rw[if_neg a1,if_pos a2,je,je];omega
     ·rw[if_neg a1,if_neg a2,je];omega
   have:=f ss;have:=pm.length_eq;rw[az]at this;omega
  have inl:∀q∈ls,(gr ps q.2).isSome=true:=λq hq=>by
   obtain⟨ss,pm,_,e⟩:=hO;have:q.2∈ls.map (·.2):=aM.mpr ⟨q,hq,rfl⟩;rw[e]at this;have:q.2∈ss:=by
    rcases bF.mp this with z|z
    ·exact(uI.mp z).1
    ·exact(uI.mp z).1
   obtain⟨q',h1,h2⟩:=aM.mp (pm.mem_iff.mp this);rw[<-h2];exact hin q' h1
  refine dv.of (xs:=ls.map λq=>V.ref q.1) (λi σ H'=>∃(rs:List f7) (ss:List aL) (en:Int) (b5 b6 b7:Option V),σ=[some (.ref L),some (.ref a),some (.ref d),some (.ref p),some (.int en),b5,b6,b7]/\(∀x o,x≠p->H2 x=some o->H' x=some o)/\H' p=some (.lst (rs.map λr=>V.ref r.t))/\(∀r∈rs,H' r.t=some (.tup [.ref r.b,.int r.p,.int r.e]))/\(∀r∈rs,H' r.b=some (.tup [.str r.k.1,.int r.k.2]))/\
   rs.map (·.k)=(ls.take i).map (·.2)/\rs.map (λr=>gr ps r.k)=ss.map some/\rs.map (λr=>(r.p,r.e))=bI 0 ss/\en=((bI 0 ss).getLast?.map (·.2)).getD 0/\0<=en/\en<=(i:Int)*70000) ?_ ?_ ?_ ?_
  ·exact⟨[],[],0,_,_,_,rfl,λx o _ e=>e,s3 _ _ aE,(λr h=>by cases h),(λr h=>by cases h),rfl,rfl,rfl,rfl,Int.le_refl _,by omega⟩
  ·rintro i σ H' hi ⟨rs,ss,en,b5,b6,b7,rfl,fr,_⟩;exact aD.of (fr _ _ (λz=>by rw[z,aE]at hlf;cases hlf) hL.1)
  ·rintro i v σ H' hv ⟨rs,ss,en,b5,b6,b7,rfl,fr,hp',hr1,hr2,e1,e2,e3,e4,e5,e6⟩;have hi:i<ls.length:=by have:=(ig.mp hv).1;rwa [az]at this
   walk_at "6";obtain⟨q,hq,rfl⟩:=d_.mp hv;have hm:=c_ hq;have h2p:H2 p=some (.lst []):=s3 _ _ aE;have old:ay H H':=λx o e=>fr x o (bH (s1 _ _ e) hp) ((s2.trans s3) _ _ e);have hd':=fr d _ (bH hd hp) (s3 _ _ (aU hp _ _ hd));have qa:=fr q.1 _ (bD (hL.2 q hm) h2p (by intro z;cases z)) (hL.2 q hm);obtain⟨pc,st,es,hpc,hst,g1,g2,g3,g4,sa⟩:=En hd' (sh _ old) (inl q hm);obtain⟨c1,c2,_,c4⟩:=hS.st pc hpc st hst;have dg:bx H' d (V.str q.2.1) (some pc.v):=by
    have:=bx.k (k:=(.inr q.2.1:Key)) hd';rw[g1]at this;exact this
   have ml:=yO (e:=en) c1;walk_at "rd";refine⟨_,aR.of qa,_,rfl,_,dg,_,rfl,_,aR.of g2,_,rfl,_,aR.of qa,_,rfl,_,rfl,_,_,rfl,aD.of g3,_,g4,_,rfl,?_⟩;have rl:rs.length=i:=by have:=congrArg List.length e1;rw[az,az,jr]at this;omega
   refine⟨_,aR.of sa.top,_,rfl,_,rfl,e5,by omega,c1,c2,_,rfl,_,aR.of sa.top,_,rfl,st.words.length,.inl ⟨_,aD.of sa.wd,by rw[az]⟩,.inl ⟨rfl,_,aD.of hp'⟩,by walk_at "s", λt ht=>?_⟩;have ntp:t≠p:=λz=>by rw[z,hp']at ht;cases ht
   have up:∀{x:Addr}{o:HO},x≠p->H' x=some o->upd (upd H' t (HO.tup [V.ref q.fst,V.int (bP en st.step),V.int (bP en st.step+(st.words.length:Int))])) p (HO.lst (rs.map (λr=>V.ref r.t)++[V.ref t])) x=some o:=λh1 h2=>by
    rw[ae h1];exact aU ht _ _ h2
   have np:∀{x:Addr}{xs:List V},H' x=some (.tup xs)->x≠p:=λh=>bD h hp' (by intro z;cases z);refine⟨_,aU ht _ _ hp',by rw[sizeLine_eq,az];omega,λx o h1 h2=>up h1 (fr x o h1 h2),rs++[⟨t,q.1,q.2,bP en st.step,bP en st.step+(st.words.length:Int)⟩],by rw[aE,aY];rfl,λr hr=>?_,λr hr=>?_,?_,ss++[st],?_,?_,?_,by omega,by omega⟩
   ·rcases bF.mp hr with z|z
    ·exact up (np (hr1 r z)) (hr1 r z)
    ·rw[bX.mp z];show upd _ p _ t=_;rw[ae ntp,aE]
   ·rcases bF.mp hr with z|z
    ·exact up (np (hr2 r z)) (hr2 r z)
    ·rw[bX.mp z];exact up (np qa) qa
   ·rw[aY,e1,fX,hq,aY];rfl
   ·rw[aY,aY,e2];exact congrArg (λz=>ss.map some++[z]) es
   ·rw[aY,e3,fh,<-e4];rfl
   ·rw[fh,<-e4,List.getLast?_concat];rfl
  ·rintro σ H' ⟨rs,ss,en,b5,b6,b7,rfl,fr,hp',hr1,hr2,e1,e2,e3,e4,e5,e6⟩;walk_at "rd";rw[az,iF]at e1;exact k p rs H' (λx o e=>fr x o (bH (s1 _ _ e) hp) ((s2.trans s3) _ _ e)) (eP s1 hp) ⟨hp',hr1,hr2,by rw[e1];exact hO,ss,e2,e3⟩
noncomputable def f7.core(r:f7):Addr×aH×Int×Int:=(r.b,r.k,r.p,r.e)
theorem lg{α:Type}{f:f7->α}{g:Addr×aH×Int×Int->α}(e:∀r,f r=g r.core){xs ys:List f7}(h:xs.map f7.core=ys.map f7.core):xs.map f=ys.map f:=by
 have e1:f=g ∘ f7.core:=funext e;rw[e1,<-ck,<-ck,h]
theorem t_.len(h:t_ H b l ps ks rs):rs.length<=ks.length:=by
 obtain⟨ss,pm,_,e⟩:=h.ord;have:=congrArg List.length e;rw[az,cW]at this;have f:∀xs:List aH,(xs.filter (bA ps (Str.ofString "code"))).length+(xs.filter (bA ps (Str.ofString "data"))).length<=xs.length:=λxs=>by
  induction xs with
  |nil=>exact bC _
  |cons x xs ih=>
   have ne:¬(bA ps (Str.ofString "code") x=true/\bA ps (Str.ofString "data") x=true):=λ⟨h1,h2⟩=>by
    unfold bA at h1 h2;rw[of_decide_eq_true h1]at h2;exact absurd (Option.some.inj (of_decide_eq_true h2)) (by decide +kernel)
   rw[EC,EC];by_cases a1:bA ps (Str.ofString "code") x=true<;>by_cases a2:bA ps (Str.ofString "data") x=true
   ·exact absurd ⟨a1,a2⟩ ne
   ·rw[if_pos a1,if_neg a2,je,je];omega
   ·rw[if_neg a1,if_pos a2,je,je];omega
   ·rw[if_neg a1,if_neg a2,je];omega
 have:=f ss;have:=pm.length_eq;omega
theorem Mu(T:Txt K mg A):bg P w K mg base dm 3 A.laid A.kJ ["pieces", "keys"] Jo:=by
 refine T.qW.ok Jp (λvs H Q E h=>?_) (λcdv Ar outer s H vs Q E hr h=>?_)
 ·obtain⟨ps,ks,⟨L,a,qs,rfl,_⟩,_⟩:=h;rfl
 ·obtain⟨ps,ks,⟨L,a,qs,rfl,rfl,hP,hn,hS,hK,hl,hin⟩,k⟩:=h;refine⟨_,(bf (aJ (cx (gu ["key", "place", "end"]) rfl (eU (K:=K) rfl (pC (PY T) hr T.JA T.C4 T.Ff (aq (pv 0) (aq (pv 1) aa)))) (λ_ _ _=>⟨(bN (K:=K) (n:=3) rfl rfl (cT (pn 0 (by walk_at "n")) (cT (pn 1 (by walk_at "n")) (cT (pn 2 (by walk_at "n")) bL)))),bY,(aX (aq (pv 0) (aq (pv 1) aa)))⟩)))),?_⟩;walk_at "rd";refine⟨ps,hP,hn,hS,qs,hK,hl,hin,λl rs H1 s1 _ LA=>?_⟩;have rl:=LA.len;rw[az]at rl;refine cD.of (xs:=rs.map λr=>V.ref r.t) (by rw[sizeLine_eq,az];omega) (aD.of LA.top) (λD i ys H'=>ay H1 H'/\H' D=some (.lst ys)/\∃us:List f7,ys=us.map (λr=>V.ref r.t)/\us.map f7.core=(rs.take i).map f7.core/\∀r∈us,H' r.t=some (.tup (r.vs false)))
   (λD hD=>⟨aU hD,aE,[],rfl,rfl,λr h=>by cases h⟩) ?_ ?_ ?_
  ·rintro D i ys H' hD hi ⟨s2,hDD,us,rfl,e,_⟩;have hl:=congrArg List.length e;rw[az,az,jr]at hl;exact⟨aD.of (s2 _ _ LA.top),hDD,by rw[az];omega⟩
  ·rintro D i x ys H' hD hx ⟨s2,hDD,us,rfl,e,ht⟩;walk_at "0";obtain⟨r,hr,rfl⟩:=d_.mp hx;have ra:H' r.t=some (.tup [.ref r.b,.int r.p,.int r.e]):=s2 _ _ (LA.row r (c_ hr));walk_at "rd";refine⟨_,aR.of ra,rfl,_,_,rfl,_,_,rfl,_,_,rfl,rfl,.no (.no (.no .nil)),by walk_at "s", λp hp=>?_⟩;have hpD:D≠p:=bH hDD hp;refine⟨by rw[ae hpD];exact hDD,eR hD (s2.trans (aU hp)),aE,us++[⟨p,r.b,r.k,r.p,r.e⟩],by simp,?_,λu h=>?_⟩
   ·rw[fX,hr,aY,aY,e];rfl
   ·rcases bF.mp h with z|z
    ·have:=ht u z;rw[ae (bD this hDD (by intro z;cases z)),ae (bH this hp)];exact this
    ·rw[bX.mp z,ae (Ne.symm hpD),aE];rfl
  ·rintro D ys H' hD ⟨s2,hDD,us,rfl,e,ht⟩;walk_at "1";refine k D us H' (s1.trans s2) (eP s1 hD) ⟨hDD,ht,λr hr=>?_,?_,?_⟩
   ·have:r.core∈rs.map f7.core:=by rw[<-e];exact aM.mpr ⟨r,hr,rfl⟩
    obtain⟨r',h1,h2⟩:=aM.mp this;have a1:r'.b=r.b:=congrArg (·.1) h2;have a2:r'.k=r.k:=congrArg (·.2.1) h2;rw[<-a1,<-a2];exact s2 _ _ (LA.key r' h1)
   ·rw[lg (f:=f7.k) (g:=λc=>c.2.1) (λr=>rfl) e];exact LA.ord
   ·obtain⟨ss,h1,h2⟩:=LA.lay;refine⟨ss,?_,?_⟩
    ·rw[lg (f:=λr=>gr ps r.k) (g:=λc=>gr ps c.2.1) (λr=>rfl) e];exact h1
    ·rw[lg (f:=λr=>(r.p,r.e)) (g:=λc=>c.2.2) (λr=>rfl) e];exact h2
theorem PF(T:Txt K mg A):bg P w K mg base dm 1 A.Nu A.rq ["number"] MA:=by
 refine T.ye.ok LZ (λvs H Q E h=>?_) (λcdv Ar outer s H vs Q E hr h=>?_)
 ·obtain⟨i,rfl,_⟩:=h;rfl
 ·obtain⟨i,rfl,k⟩:=h;refine⟨_,(bf (aJ (aF bB (pv 0) (IH rfl T.z_ QX)))),?_⟩;walk_at "rd";exact⟨by decide,k⟩
theorem A5{ms:List ao}{ns:List aj}{pn z:Str}(e:ms.map (λm=>(m.name,m.a,m.b,m.c))=ns.map (λn=>(n.name,pn,n.st,n.off))):(aB ms z).map (λm=>(m.a,m.b,m.c))=(ns.find? λn=>decide (n.name=z)).map λn=>(pn,n.st,n.off):=by
 have h1:(aB ms z).map (λm=>(m.a,m.b,m.c))=((ms.map (λm=>(m.name,m.a,m.b,m.c))).find? λt=>decide (t.1=z)).map (·.2):=by
  unfold aB;rw[Hs,Jr];rfl
 have h2:((ns.find? λn=>decide (n.name=z)).map λn=>(pn,n.st,n.off))=((ns.map (λn=>(n.name,pn,n.st,n.off))).find? λt=>decide (t.1=z)).map (·.2):=by
  rw[Hs,Jr];rfl
 rw[h1,h2,e]
theorem Mb(e:mo.map (λm=>(m.name,m.a,m.b,m.c))=(p.aK.filter λn=>decide (n.sort=Str.ofString "own")).map (λn=>(n.name,p.name,n.st,n.off))):
  bJ p mn f=((aB mo f.name).or (aB mn f.name)).map λm=>(m.a,m.b,m.c):=by
 have h:=A5 (z:=f.name) e;rw[List.find?_filter]at h;have h':(p.aK.find? λa=>decide (decide (a.sort=Str.ofString "own")=true/\decide (a.name=f.name)=true))=p.aK.find? λn=>decide (n.name=f.name)&&decide (n.sort=cS):=by
  congr 1;funext n;unfold cS;by_cases a:n.sort=Str.ofString "own" <;> by_cases b:n.name=f.name<;>simp[a,b]
 unfold bJ;rw[h']at h;cases q:p.aK.find? λn=>decide (n.name=f.name)&&decide (n.sort=cS) with
 |none=>
  rw[q]at h;have:aB mo f.name=none:=by simpa using h
  rw[this];rfl
 |some n=>
  rw[q]at h;cases q2:aB mo f.name with
  |none=>rw[q2]at h;cases h
  |some m=>rw[q2]at h;simpa using h.symm
theorem O3(T:Txt K mg A):bg P w K mg base dm 3 A.NM A.se ["piece_name", "own", "names", "fill"] AJ:=by
 refine T.yl.ok k6 (λvs H Q E h=>?_) (λcdv Ar outer s H vs Q E hr h=>?_)
 ·obtain⟨pn,dO,dN,f,mo,mn,rfl,_⟩:=h;rfl
 ·obtain⟨pn,dO,dN,f,mo,mn,rfl,hf,hO,hN,k1,k2⟩:=h;refine⟨_,(aQ (pS 4 k6.nd (tx K (pv 3))) (aQ (pS 5 k6.nd (tx K (pv 3))) (aQ (pS 6 k6.nd (tx K (pv 3))) (aQ (pS 7 k6.nd (F_ (a7 hr) (pv 1) (pv 4) (vR (a7 hr) (pv 2) (pv 4) ⟨rfl,rfl,rfl,rfl⟩) ⟨rfl,rfl,rfl,rfl⟩)) (aQ (bq (fF pV (pv 7) fW (aS _)) (bf (aJ (aX (aq (tx K (pv 7)) (aq (tx K (pv 7)) (aq (aF dw (tx K (pv 7)) (pv 5)) aa)))))) cI) (aQ (bq (gD (pv 6)) (bf (aJ (pC (PF T) hr T.JM T.Fx T.DV (aq (pv 5) aa)))) cI) (bf eC))))))),?_⟩;walk_at "rd";have gO:bx H dO (V.str f.name) ((aB mo f.name).map λm=>V.ref m.t):=by rw[<-lO];exact bx.k (k:=Sum.inr f.name) hO.top
  have gN:bx H dN (V.str f.name) ((aB mn f.name).map λm=>V.ref m.t):=by rw[<-lO];exact bx.k (k:=Sum.inr f.name) hN.top
  refine⟨_,aR.of hf,_,rfl,_,aR.of hf,_,rfl,_,aR.of hf,_,rfl,.inl ⟨_,.inl hO.top⟩,.inl ⟨_,.inl hN.top⟩,_,gN,_,gO,?_⟩;cases q1:aB mo f.name with
  |some m=>
   rw[q1]at k1 k2;have hm:=hO.at_ m (qw q1);simp only[Option.map_some,Option.getD_some];rw[if_pos (by simp)];exact⟨m.t,rfl,_,aR.of hm,_,rfl,m.t,rfl,_,aR.of hm,_,rfl,m.t,rfl,_,aR.of hm,_,rfl,m.c,rfl,f.add,rfl,by walk_at "s", λq hq=>k1 m rfl q hq⟩
  |none=>
   rw[q1]at k1 k2;cases q2:aB mn f.name with
   |some m=>
    rw[q2]at k1 k2;have hm:=hN.at_ m (qw q2);simp only[Option.map_some,Option.getD_some,Option.map_none,Option.getD_none];rw[if_pos (by simp)];exact⟨m.t,rfl,_,aR.of hm,_,rfl,m.t,rfl,_,aR.of hm,_,rfl,m.t,rfl,_,aR.of hm,_,rfl,m.c,rfl,f.add,rfl,by walk_at "s", λq hq=>k1 m rfl q hq⟩
   |none=>
    rw[q2]at k1 k2;simp only[Option.map_none,Option.getD_none];rw[if_neg (by simp)];obtain⟨hs,k⟩:=k2 rfl;exact⟨f.soft,rfl,dM (λ_=>⟨f.add,rfl,k⟩) (λz=>absurd hs z)⟩
theorem LY(T:Txt K mg A):bg P w K mg base dm 4 A.mE A.ku ["piece", "names", "fills"] C_:=by
 refine T.oJ.ok zJ (λvs H Q E h=>?_) (λcdv Ar outer s H vs Q E hr h=>?_)
 ·obtain⟨p,dN,l,fs,mn,rfl,_⟩:=h;rfl
 ·obtain⟨p,dN,l,fs,mn,rfl,hp,hf,hd,hN,hl,hn,hfs,k⟩:=h;refine⟨_,(aQ (pS 3 zJ.nd (pC (zt T) hr T.vh T.nY T.m6 (aq (pv 0) (aq a5 aa)))) (bf (aJ (cx (l8 (own:=["fill"]) (fr:=["own", "names", "piece"]) (fm:=[3,1,0]) rfl (by decide +kernel) (by decide +kernel) (by decide +kernel) (.cons rfl (by walk_at "o") rfl (.cons rfl (by walk_at "o") rfl (.cons rfl (by walk_at "o") rfl .nil)))) rfl (eU (K:=K) rfl (pv 2)) (λ_ _ _=>⟨(pn 0 (by walk_at "n")),bY,(pC (O3 T) hr T.KD T.D4 T.Ep (aq (tx K (pv 3)) (aq (pv 1) (aq (pv 2) (aq (pv 0) aa)))))⟩))))),?_⟩;walk_at "rd";refine⟨p,rfl,hp,hf,hd,λd mo H1 s1 tab e nd=>?_⟩;have er:∀f,bJ p mn f=((aB mo f.name).or (aB mn f.name)).map λm=>(m.a,m.b,m.c):=λf=>Mb (mn:=mn) (f:=f) e;refine cD.of (xs:=fs.map ax.v) (by rw[az,sizeLine_eq];omega) (aD.of (s1 _ _ hl)) (λD i ys H2=>ay H1 H2/\H2 D=some (.lst ys)/\ys.length=i/\∀(j:Nat) f v,fs[j]?=some f->ys[j]?=some v->IA H2 p mn f v)
   (λD hD=>⟨aU hD,aE,rfl,λj f v _ h=>by cases h⟩) ?_ ?_ ?_
  ·rintro D i ys H2 hD hi ⟨s2,hDD,hl2,_⟩;exact⟨aD.of (s2 _ _ (s1 _ _ hl)),hDD,by omega⟩
  ·rintro D i x ys H2 hD hx ⟨s2,hDD,hl2,ha⟩;walk_at "0";obtain⟨f,hfi,rfl⟩:=d_.mp hx;obtain⟨fa,fr⟩:=hfs f (c_ hfi);have s12:=s1.trans s2;have step:∀(v:V) (H3:Hp),(∀b o,b≠D->H2 b=some o->H3 b=some o)->IA H3 p mn f v->∀(j:Nat) f' v',fs[j]?=some f'->(ys++[v])[j]?=some v'->IA H3 p mn f' v':=λv H3 kp av j f' v' h1 h2=>by
    by_cases hj:j<ys.length
    ·rw[JB hj]at h2;rcases ha j f' v' h1 h2 with ⟨a,b,c,q,r1,r2,r3⟩|z
     ·exact .inl ⟨a,b,c,q,r1,r2,kp q _ (bD r3 hDD (by intro z;cases z)) r3⟩
     ·exact .inr z
    ·have hj2:j=ys.length:=by
      have:=(ig.mp h2).1;rw[cW]at this;simp at this;omega
     subst hj2;rw[H_ (bC _),Nat.sub_self]at h2;cases h2;rw[hl2,hfi]at h1;cases h1;exact av
   walk_at "rd";refine⟨.no (.yes (.yes (.yes .nil))),_,aR.of (s12 _ _ hp.top),_,rfl,p.name,rfl,f,rfl,s12 _ _ fa,mo,tab.mono s2,mn,(hN.mono s1).mono s2,λm hm q hq=>?_,λhm=>?_⟩
   ·have hqD:D≠q:=bH hDD hq;refine⟨by rw[ae hqD];exact hDD,eR hD (s2.trans (aU hq)),aE,by rw[cW,hl2];rfl,step _ _ (λb o nb e=>?_) (.inl ⟨m.a,m.b,m.c,q,by rw[er,hm];rfl,rfl,by rw[ae (Ne.symm hqD),aE]⟩)⟩;rw[ae nb,ae (bH e hq)];exact e
   ·have rn:bJ p mn f=none:=by rw[er,hm];rfl
    exact⟨fr rn,hDD,eR hD s2,aE,by rw[cW,hl2];rfl,step _ _ (λb o nb e=>by rw[ae nb];exact e) (.inr ⟨rn,rfl⟩)⟩
  ·rintro D ys H2 hD ⟨s2,hDD,hl2,ha⟩;rw[az]at hl2;exact k D ys H2 (s1.trans s2) hDD hl2 ha (eP s1 hD)
theorem PX(T:Txt K mg A):bg P w K mg base dm 5 A.NJ A.uB ["piece", "number", "names"] Jk:=by
 refine T.AF.ok wW (λvs H Q E h=>?_) (λcdv Ar outer s H vs Q E hr h=>?_)
 ·obtain⟨p,n,dN,mn,st,rfl,_⟩:=h;rfl
 ·obtain⟨p,n,dN,mn,st,rfl,hp,hf,hd,hN,h0,hst,hn,hr1,k⟩:=h;refine⟨_,(aQ (pS 3 wW.nd (tx K (bT (dR (K:=K) rfl) (tx K (pv 0)) (pv 1) (λ_ _=>rfl)))) (aQ (pS 4 wW.nd (pC (LY T) hr T.Gi T.wA T.xh (aq (pv 0) (aq (pv 2) (aq (pv 3) aa))))) (bf (aJ (cx (gu ["fill", "place"]) rfl (Lc rfl T.yQ (aq (pv 3) (aq (pv 4) aa))) (λ_ _ _=>⟨(bN (K:=K) (n:=2) rfl rfl (cT (pn 0 (by walk_at "n")) (cT (pn 1 (by walk_at "n")) bL))),(gQ (ir (gD (eh (gS (K:=K) rfl) (by rfl) T.bZ dG (aq (pv 1) (aq (kj rfl T.kY qA IS) aa)))))),(aX (aq (aX (aq (tx K (pv 1)) (aq (tx K (pv 1)) aa))) (aq (tx K (pv 0)) aa)))⟩)))))),?_⟩;have en:n=((n.toNat:Nat):Int):=by omega
  have hs:=hp.ss st (c_ hst);have ei:iI (p.aI.map aL.v) n=some st.v:=by rw[en];exact cw (by rw[gh,hst];rfl)
  walk_at "rd";refine⟨_,aR.of hp.top,_,rfl,_,rfl,_,aD.of hp.sl,_,ei,_,rfl,_,aR.of hs.top,_,rfl,?_⟩;refine⟨p,rfl,st.lf,rfl,hp,hf,hd,st.fills,mn,hN,hs.fl,hn,λf hm=>⟨hs.fs f hm,hr1 f hm⟩,λl' ys H1 s1 hl' hlen hav nl=>?_⟩;refine Af.of (xs:=st.fills.map ax.v) (ys:=ys) (by rw[az,sizeLine_eq];omega) (by rw[az];exact hlen) (aD.of (s1 _ _ hs.fl)) (aD.of hl') (λD i zs H2=>ay H1 H2/\H2 D=some (.lst zs)/\∃ws:List IC,zs=ws.map (λw=>V.ref w.t)/\(∀w∈ws,w.At H2)/\ws.map (λw=>(w.a,w.b,w.at_))=keysOf p mn (st.fills.take i))
   (λD hD=>⟨aU hD,aE,[],rfl,λw h=>(nomatch h),rfl⟩) ?_ ?_ ?_
  ·rintro D i zs H2 hD hi ⟨s2,hDD,ws,rfl,hw,e⟩;refine⟨aD.of (s2 _ _ (s1 _ _ hs.fl)),aD.of (s2 _ _ hl'),hDD,?_⟩;have h1:=congrArg List.length e;have h2:(keysOf p mn (st.fills.take i)).length<=(st.fills.take i).length:=List.length_filterMap_le _ _;rw[az]at h1;rw[az];rw[jr]at h2;omega
  ·rintro D i x y zs H2 q hD hx hy ⟨s2,hDD,ws,rfl,hw,e⟩ hq;walk_at "0";obtain⟨f,hfi,rfl⟩:=d_.mp hx;have fa:=(hs.fs f (c_ hfi)).mono (s1.trans s2);have av:=hav i f y hfi hy;have ek:keysOf p mn (st.fills.take (i+1))=keysOf p mn (st.fills.take i)++keysOf p mn [f]:=by unfold keysOf;rw[List.take_succ,hfi,List.filterMap_append];rfl
   walk_at "rd";have sq:=aU (o:=HO.tup [f.v,y]) hq;have hDq:=sq _ _ hDD;refine⟨_,aR.of aE,rfl,_,_,rfl,_,_,rfl,rfl,.no (.no .nil),?_⟩;rcases av with ⟨a,b,c,r,r1,rfl,r3⟩|⟨r1,rfl⟩
   ·have hr2:=sq _ _ (s2 _ _ r3);have fq:=sq _ _ fa;generalize upd H2 q (HO.tup [f.v,V.ref r])=H3 at *;refine⟨_,.tup hr2,false,rfl,?_⟩;rw[if_pos (by simp)];refine⟨r,rfl,_,aR.of hr2,_,rfl,r,rfl,_,aR.of hr2,_,rfl,by walk_at "s", λt ht=>?_⟩;have s3:=aU (o:=HO.tup [V.str a,V.int b]) ht;have ht3:upd H3 t (HO.tup [V.str a,V.int b]) t=some (HO.tup [V.str a,V.int b]):=aE;generalize upd H3 t (HO.tup [V.str a,V.int b])=H4 at *;refine⟨f.a,rfl,_,aR.of (s3 _ _ fq),_,rfl,by walk_at "s", λt2 ht2=>?_⟩;have s4:=aU (o:=HO.tup [V.ref t,V.int f.at_]) ht2;have ht4:upd H4 t2 (HO.tup [V.ref t,V.int f.at_]) t2=some (HO.tup [V.ref t,V.int f.at_]):=aE;generalize upd H4 t2 (HO.tup [V.ref t,V.int f.at_])=H5 at *;have s25:=sq.trans (s3.trans s4);have hD5:=s25 _ _ hDD;have up:∀{b:Addr}{xs:List V}{zs:List V},H5 b=some (.tup xs)->upd H5 D (.lst zs) b=some (.tup xs):=λ{b xs zs} h=>by rw[ae (bD h hD5 (by intro z;cases z))];exact h
    refine⟨hD5,eR hD (s2.trans s25),aE,ws++[⟨t2,t,a,b,f.at_⟩],by simp,λw h=>?_,?_⟩
    ·rcases bF.mp h with z|z
     ·exact⟨up (s25 _ _ (hw w z).1),up (s25 _ _ (hw w z).2)⟩
     ·rw[bX.mp z];exact⟨up ht4,up (s4 _ _ ht3)⟩
    ·rw[aY,e,ek];congr 1;simp[keysOf,r1]
   ·refine⟨_,.int _,true,rfl,?_⟩;rw[if_neg (by simp)];refine⟨s2.trans sq,hDq,ws,rfl,λw h=>⟨sq _ _ (hw w h).1,sq _ _ (hw w h).2⟩,?_⟩;rw[ek,e];simp[keysOf,r1]
  ·rintro D zs H2 hD ⟨s2,hDD,ws,rfl,hw,e⟩;walk_at "1";exact k D ws H2 (s1.trans s2) hDD hw e (eP s1 hD)
theorem iO{α:Type} [DecidableEq α]:∀{l m:List α},l.Nodup->(∀x∈l,x∈m)->l.length<=m.length
 |[],_,_,_=>fe _
 |x::l,m,nd,h=>by
  obtain⟨n1,n2⟩:=j7.mp nd;have hx:=h x (by simp);have ih:=iO (m:=m.erase x) n2 λy hy=>(List.mem_erase_of_ne (λe:y=x=>n1 (by rw[<-e];exact hy))).mpr (h y (by simp[hy]));have e:=List.length_erase_of_mem hx;have:=List.length_pos_of_mem hx;rw[je];omega
theorem gX(h:k∈aC ps):∃p∈ps,p.name=k.1/\∃i:Nat,k.2=i/\i<p.aI.length:=by
 obtain⟨p,hp,h⟩:=hW.mp h;obtain⟨i,hi,rfl⟩:=aM.mp h;exact⟨p,hp,rfl,i,rfl,yJ.mp hi⟩
noncomputable def kk(k:K2):List Key:=[.inr k.1,.inl k.2]
theorem Md(h:kk a=kk b):a=b:=by
 unfold kk at h;injection h with h1 h2;injection h2 with h2 _;exact Prod.ext (Sum.inr.inj h1) (Sum.inl.inj h2)
def Seen(H:Hp)(sd:Addr)(ws:List Wy):Prop:=∃af,H sd=some (.dT af)/\af.map (·.1)=ws.map λw=>kk w.key
theorem vq:∀{af:List (List Key×V)}{ws:List Wy}(k:K2),af.map (·.1)=ws.map (λw=>kk w.key)->(a8 af (kk k)).isSome=r_ ws k
 |[],[],_,_=>rfl
 |[],_::_,_,h=>by simp at h
 |_::_,[],_,h=>by simp at h
 |x::af,w::ws,k,h=>by
  rw[fH,fH]at h;injection h with h1 h2;have ih:=vq k h2;unfold a8 r_ at *;by_cases e:w.key=k
  ·rw[List.find?_cons_of_pos (by rw[h1,e];simp)];simp[e]
  ·rw[List.find?_cons_of_neg (by rw[h1];intro z;exact e (Md (of_decide_eq_true z)))];rw[ih];simp[e]
theorem HN{af:List (List Key×V)}{k:List Key}{v:V}(h:a8 af k=none):putK af k v=af++[(k,v)]:=by
 unfold putK;rw[if_neg];intro z;obtain⟨x,hx,e⟩:=lP.mp z;unfold a8 at h;have:=Option.map_eq_none_iff.mp h;exact(v7.mp this x hx) e
def Kp(l d:Addr)(H H':Hp):Prop:=∀b o,b≠l->b≠d->H b=some o->H' b=some o
theorem Kp.tup{l d:Addr}{H H':Hp}(h:Kp l d H H'){ys:List V}{af:List (List Key×V)}(hl:H l=some (.lst ys))(hd:H d=some (.dT af)){b:Addr}{xs:List V}(e:H b=some (.tup xs)):H' b=some (.tup xs):=
 h b _ (bD e hl (by intro z;cases z)) (bD e hd (by intro z;cases z)) e
theorem C7.At.by{H H':Hp}{r:C7}(h:r.At H)(e:∀b xs,H b=some (HO.tup xs)->H' b=some (HO.tup xs)):r.At H':=
 ⟨e _ _ h.k,λn=>e _ _ (h.n n),λy a q=>⟨e _ _ (h.s y a q).1,e _ _ (h.s y a q).2⟩⟩
structure zS(ps:List ah)(ws:List Wy):Prop where
 nd:(ws.map Wy.key).Nodup
 Lp:∀w∈ws,w.key∈aC ps
theorem zS.len(h:zS ps ws):ws.length<=(aC ps).length:=by
 have:=iO h.nd (m:=aC ps) λx hx=>by
  obtain⟨w,hw,rfl⟩:=aM.mp hx;exact h.Lp w hw
 rwa [az]at this
theorem kW:r_ ws k=true↔k∈ws.map Wy.key:=by
 unfold r_;rw[lP,aM];constructor
 ·rintro⟨w,h1,h2⟩;exact⟨w,h1,of_decide_eq_true h2⟩
 ·rintro⟨w,h1,h2⟩;exact⟨w,h1,decide_eq_true h2⟩
theorem zS.add(h:zS ps ws)(ht:t.1∈aC ps):zS ps (dt b ws t):=by
 unfold dt;split
 ·exact h
 ·next z=>
  have z':t.1∉ws.map Wy.key:=λq=>z (kW.mpr q);refine⟨?_,λw hw=>?_⟩
  ·rw[aY,f_];exact⟨h.nd,by simp,λa ha c hc e=>by simp at hc;rw[e,hc]at ha;exact z' ha⟩
  ·rcases bF.mp hw with q|q
   ·exact h.Lp w q
   ·rw[bX.mp q];exact ht
theorem CQ(b:K2)(ws:List Wy)(t:K2×Int):ws.length<=(dt b ws t).length:=by
 unfold dt;split
 ·exact bC _
 ·rw[cW];omega
theorem nX(b:K2):∀(l:List (K2×Int)) (ws:List Wy),ws.length<=(l.foldl (dt b) ws).length
 |[],_=>bC _
 |t::l,ws=>f9 (CQ b ws t) (nX b l _)
theorem m8(ps:List ah)(mn:List ao)(ws:List Wy)(k:K2):ws.length<=(eW ps mn ws k).length:=nX _ _ _
structure RI(H1:Hp)(lw sd:Addr)(ps:List ah)(ws:List Wy)(Hc:Hp)(rows:List C7):Prop where
 kp:Kp lw sd H1 Hc
 top:Hc lw=some (.lst (rows.map λr=>V.ref r.t))
 at_:∀r∈rows,r.At Hc
 seen:Seen Hc sd ws
 we:rows.map C7.w=ws
 ok:zS ps ws
theorem kI{ps:List ah}{mn:List ao}{p:ah}{st:aL}{a:Str}{b:Int}(nd:(ps.map ah.name).Nodup)(hp:p∈ps)(ha:p.name=a)(hs:p.aI[b.toNat]?=some st):cU ps mn (a,b)=(keysOf p mn st.fills).map λt=>((t.1,t.2.1),t.2.2):=by
 unfold cU;rw[<-ha,gJ nd hp];simp only[hs]
theorem Ov(T:Txt K mg A):bg P w K mg base dm 6 A.O_ A.rB ["pieces", "names", "root"] Ld:=by
 refine T.x6.ok e_ (λvs H Q E h=>?_) (λcdv Ar outer s H vs Q E hr h=>?_)
 ·obtain⟨L,dN,R,ps,mn,r,rfl,_⟩:=h;rfl
 ·obtain⟨L,dN,R,ps,mn,r,rfl,hR,hrm,pre,k⟩:=h;refine⟨_,(aQ (pS 3 e_.nd (pC (J0 T) hr T.CU T.zG T.AB (aq (pv 0) aa))) (aQ (pS 4 e_.nd (aX (aq (tx K (pv 2)) (aq (tx K (pv 2)) aa)))) (aQ (pS 5 e_.nd (a9 (aq (aX (aq (pv 4) (aq fW (aq fW aa)))) aa))) (aQ (pS 6 e_.nd (Cj (a7 hr) (pv 4) ib)) (aQ (pS 7 e_.nd ag) (aQ (jc PassesOwn.never (fF jS (pv 7) (eh (j8 (K:=K) rfl) (by rfl) T.dJ dj (aq (pv 5) aa)) (aS _)) (aQ (pS 8 e_.nd (tx K (bT (dR (K:=K) rfl) (pv 5) (pv 7) (λ_ _=>rfl)))) (aQ (pF (eU (K:=K) rfl (pC (PX T) hr T.Kb T.B8 T.B5 (aq (bU (a7 hr) (pv 3) (tx K (pv 8)) (λ_ _=>rfl)) (aq (tx K (pv 8)) (aq (pv 1) aa))))) (bN (K:=K) (n:=2) rfl rfl (cT (pn 9 e_.nd) (cT (pn 10 e_.nd) bL))) (bf (bq (e8 (cZ (a7 hr) (pv 9) (pv 6))) (aQ (cR (a7 hr) (pv 6) (pv 9) ib rfl) (bf (dY (cJ (pv 5) (aq (aX (aq (pv 9) (aq (pv 8) (aq (pv 10) aa)))) aa))))) cI))) (bf (EN (i:=7) e_.nd rfl (by walk_at "o") ag Fd))))) (bf (aJ (pv 5))))))))),?_⟩;walk_at "rd";refine⟨ps,pre.Nh,pre.cy,λd Hb sb hd hdn=>⟨_,aR.of (sb _ _ hR),_,rfl,_,aR.of (sb _ _ hR),_,rfl,by walk_at "s", λp0 n0=>⟨by rw[sizeLine_eq];decide,λp1 n1=>⟨by rw[sizeLine_eq];decide,λlw n2 sd n3=>⟨aE,kk r,?_,?_⟩⟩⟩⟩⟩
  ·rw[ae (bH (by rw[ae (bH (by rw[ae (bH aE n1)];exact aE) n2),ae (bH aE n1)];exact aE) n3),ae (bH (by rw[ae (bH aE n1)];exact aE) n2),ae (bH aE n1)];exact aE
  ·have s1:=aU (o:=HO.tup [V.str r.1,V.int r.2]) n0;have e1:upd Hb p0 (HO.tup [V.str r.1,V.int r.2]) p0=some (HO.tup (kT r)):=aE;generalize upd Hb p0 (HO.tup [V.str r.1,V.int r.2])=Ha at *;have s2:=aU (o:=HO.tup [V.ref p0,V.bj,V.bj]) n1;have e2:upd Ha p1 (HO.tup [V.ref p0,V.bj,V.bj]) p1=some (HO.tup [V.ref p0,V.bj,V.bj]):=aE;generalize upd Ha p1 (HO.tup [V.ref p0,V.bj,V.bj])=Hd at *;have lwn:=eP (s1.trans s2) n2;have s3:=aU (o:=HO.lst [V.ref p1]) n2;have e3:upd Hd lw (HO.lst [V.ref p1]) lw=some (HO.lst [V.ref p1]):=aE;generalize upd Hd lw (HO.lst [V.ref p1])=He at *;have sdn:=eP ((s1.trans s2).trans s3) n3;rw[zD];have s4:=aU (o:=HO.dT [(kk r,V.bl true)]) n3;have e4:upd He sd (HO.dT [(kk r,V.bl true)]) sd=some (HO.dT [(kk r,V.bl true)]):=aE;generalize upd He sd (HO.dT [(kk r,V.bl true)])=Hf at *;have base:∀{Hc:Hp},Kp lw sd Hb Hc->ay Hb Hc:=λkp b o e=>kp b o (bH e lwn) (bH e sdn) e;refine⟨λm σ Hc=>∃(dn:Nat) (rows:List C7) (b8 b9 b10:Option V) (ws:List Wy),σ=[some (V.ref L),some (V.ref dN),some (V.ref R),some (V.ref d),some (V.ref p0),some (V.ref lw),some (V.ref sd),some (V.int dn),b8,b9,b10]/\RI Hb lw sd ps ws Hc rows/\m+dn=(aC ps).length+1/\dn<=ws.length/\reachF ps mn m dn ws=bV ps mn r,⟨(aC ps).length+1,0,[⟨p1,p0,p0,⟨r,none⟩⟩],_,_,_,[⟨r,none⟩],rfl,?_,rfl,fe _,rfl⟩,?_⟩
   ·refine⟨λb o _ _ e=>s4 _ _ (s3 _ _ (s2 _ _ (s1 _ _ e))),s4 _ _ e3,λx hx=>?_,⟨_,e4,rfl⟩,rfl,⟨by simp,λw hw=>?_⟩⟩
    ·rw[bX.mp hx];exact⟨s4 _ _ (s3 _ _ (s2 _ _ e1)),λ_=>s4 _ _ (s3 _ _ e2),λy a q=>by cases q⟩
    ·rw[bX.mp hw];exact hrm
   ·rintro m σ Hc ⟨dn,rows,b8,b9,b10,ws,rfl,ri,hm,hdn2,hreach⟩;have lw_len:rows.length=ws.length:=by rw[<-ri.we,az]
    have wl:=ri.ok.len;walk_at "rd";refine⟨rows.length,.inl ⟨_,aD.of ri.top,by rw[az]⟩,dM (λhlt=>?_) (λhge=>?_)⟩
    ·have hlt:dn<rows.length:=by have:=of_decide_eq_true hlt;omega
     obtain⟨m',rfl⟩:∃m',m=m'+1:=⟨m - 1,by omega⟩
     have hrow:rows[dn]?=some rows[dn]:=jo hlt;have hmem:rows[dn]∈rows:=uJ hlt;generalize rows[dn]=row at hrow hmem;have ra:=ri.at_ row hmem;have hw:ws[dn]?=some row.w:=by rw[<-ri.we,gh,hrow];rfl
     have hk:row.w.key∈aC ps:=ri.ok.Lp _ (c_ hw);obtain⟨p,hp,hpn,j,hj,hjl⟩:=gX hk;have sc:=base ri.kp;have pa:=(pre.Nh.at_ p hp).mono (sb.trans sc);have hst:p.aI[j]?=some p.aI[j]:=jo hjl;have hsm:p.aI[j]∈p.aI:=uJ hjl;generalize p.aI[j]=st at hst hsm;obtain⟨fl1,fl2⟩:=pre.QK p hp st hsm;have hst':p.aI[(row.w.key.2).toNat]?=some st:=by rw[hj];exact hst
     have ea:=kI (mn:=mn) pre.nd hp hpn hst';obtain⟨ys,hys⟩:∃ys,Hc row.t=some (.tup (V.ref row.k::ys)):=by
      cases q:row.w.QN with
      |none=>exact⟨_,ra.n q⟩
      |some z=>exact⟨_,(ra.s z.1 z.2 q).1⟩
     refine⟨λσ' H'=>∃(dn:Nat) (rows:List C7) (b8 b9 b10:Option V),σ'=[some (V.ref L),some (V.ref dN),some (V.ref R),some (V.ref d),some (V.ref p0),some (V.ref lw),some (V.ref sd),some (V.int dn),b8,b9,b10]/\∃ws,RI Hb lw sd ps ws H' rows/\m'+dn=(aC ps).length+1/\dn<=ws.length/\reachF ps mn m' dn ws=bV ps mn r,λσ' H' z=>⟨m',K8 _,z⟩,?_⟩;refine⟨_,aD.of ri.top,_,cw (by rw[gh,hrow];rfl),_,rfl,_,aR.of hys,_,(show iI (V.ref row.k::ys) ((0:Nat):Int)=_ from cw rfl),_,rfl,_,aR.of ra.k,_,rfl,p.v,?_,_,rfl,_,aR.of ra.k,_,rfl,p,rfl,_,rfl,pa,(pre.aK p hp).1,(pre.aK p hp).2,mn,(pre.tab.mono sb).mono sc,by omega,st,hst',fl1,λf hf=>(fl2 f hf).1,λl' vs H1 s1 hl' hvs ev nl=>?_⟩
     ·have:=bx.k (k:=Sum.inr p.name) (sc _ _ hd);rw[oh pre.nd hp,hpn]at this;exact this
     ·have eaims:cU ps mn row.w.key=vs.map λv=>((v.a,v.b),v.at_):=by
       have e:row.w.key=(row.w.key.1,row.w.key.2):=rfl;rw[e,ea,<-ev,ck];rfl
      have valid:∀v∈vs,(v.a,v.b)∈aC ps:=λv hv=>by
       have:(v.a,v.b,v.at_)∈keysOf p mn st.fills:=by rw[<-ev];exact aM.mpr ⟨v,hv,rfl⟩
       obtain⟨f,hf,e⟩:=Ky.mp this;cases q:bJ p mn f with
       |none=>rw[q]at e;cases e
       |some z=>
        rw[q]at e;have e1:=Option.some.inj e;have e2:(z.1,z.2.1)=(v.a,v.b):=by rw[<-(Prod.mk.inj e1).1,<-(Prod.mk.inj (Prod.mk.inj e1).2).1]
        rw[<-e2];exact(fl2 f hf).2 z q
      have top1:=s1 _ _ ri.top;obtain⟨kvs0,sd0,ek0⟩:=ri.seen;have sd1:=s1 _ _ sd0;refine dv.of (xs:=vs.map λv=>V.ref v.t) (λi σ H'=>∃(rows':List C7) (b9 b10:Option V),σ=[some (V.ref L),some (V.ref dN),some (V.ref R),some (V.ref d),some (V.ref p0),some (V.ref lw),some (V.ref sd),some (V.int dn),some (V.ref row.k),b9,b10]/\RI H1 lw sd ps ((vs.take i).foldl (λacc v=>dt row.w.key acc ((v.a,v.b),v.at_)) ws) H' rows')
       ⟨rows,_,_,rfl,⟨λ_ _ _ _ e=>e,top1,λx hx=>(ri.at_ x hx).by λb xs e=>s1 _ _ e,⟨_,sd1,ek0⟩,ri.we,ri.ok⟩⟩ (λi σ H' _ ⟨rows',_,_,_,r2⟩=>aD.of (r2.kp _ _ (λe=>by have z:=ri.top;rw[<-e,nl]at z;cases z) (λe=>by rw[e]at nl;rw[nl]at sd0;cases sd0) hl')) ?_ ?_
      ·rintro i x σ H' hx ⟨rows',b9',b10',rfl,r2⟩;walk_at "0";obtain⟨v,hv,rfl⟩:=d_.mp hx;have va:=hvs v (c_ hv);have tk:(vs.take (i+1))=vs.take i++[v]:=by rw[fX,hv];rfl
       have vt:=r2.kp.tup top1 sd1 va.1;have vk:=r2.kp.tup top1 sd1 va.2;rw[tk,MP];generalize (vs.take i).foldl (λacc v=>dt row.w.key acc ((v.a,v.b),v.at_)) ws=acc at *;obtain⟨af,hsd,ek⟩:=r2.seen;have hh:=vq (v.a,v.b) ek;have rk:=r2.kp.tup top1 sd1 (s1 _ _ ra.k);have hsl:sd≠lw:=bD hsd r2.top (by intro z;cases z);have hal:=r2.ok.len;have hkl:af.length=acc.length:=by have:=congrArg List.length ek;rwa [az,az]at this
       walk_at "rd";refine⟨_,aR.of vt,rfl,_,_,rfl,_,_,rfl,rfl,_,bx.t (k:=kk (v.a,v.b)) hsd vk,dM (λhno=>?_) (λhyes=>?_)⟩
       ·have hn:a8 af (kk (v.a,v.b))=none:=by
         cases q:a8 af (kk (v.a,v.b)) with
         |none=>rfl
         |some z=>rw[q]at hno;cases hno
        have ha:r_ acc (v.a,v.b)=false:=by rw[<-hh,hn];rfl
        have hadd:dt row.w.key acc ((v.a,v.b),v.at_)=acc++[⟨(v.a,v.b),some (row.w.key,v.at_)⟩]:=by unfold dt;rw[if_neg (by rw[ha];decide)]
        have okn:=r2.ok.add (b:=row.w.key) (t:=((v.a,v.b),v.at_)) (valid v (c_ hv));rw[hadd]at okn;refine⟨_,eM.t (k:=kk (v.a,v.b)) hsd vk (by have:=pre.all;rw[hkl,sizeLine_eq];omega),.inl ⟨rfl,_,aD.of (by rw[ae (Ne.symm hsl)];exact r2.top)⟩,by walk_at "s", λq hq=>?_⟩;rw[HN hn]at hq ⊢;obtain⟨qs,hq'⟩:q≠sd/\H' q=none:=by
         have n:q≠sd:=λe=>by rw[e,aE]at hq;cases hq
         exact⟨n,by rw[ae n]at hq;exact hq⟩
        have hql:lw≠q:=bH r2.top hq';have tup:∀b xs,H' b=some (HO.tup xs)->upd (upd (upd H' sd (HO.dT (af++[(kk (v.a,v.b),V.bl true)]))) q (HO.tup [V.ref v.k,V.ref row.k,V.int v.at_])) lw (HO.lst (rows'.map (λr=>V.ref r.t)++[V.ref q])) b=some (HO.tup xs):=λb xs e=>by
         rw[ae (bD e r2.top (by intro z;cases z)),ae (bH e hq'),ae (bD e hsd (by intro z;cases z))];exact e
        refine⟨rows'.map λr=>V.ref r.t,by rw[ae hql,ae (Ne.symm hsl)];exact r2.top,?_,rows'++[⟨q,v.k,row.k,⟨(v.a,v.b),some (row.w.key,v.at_)⟩⟩],?_⟩
        ·have:=pre.all;have:=congrArg List.length r2.we;rw[az]at this;rw[az,sizeLine_eq];omega
        ·rw[MC,List.foldl_nil,hadd];refine⟨λb o nl' nd' e=>?_,by rw[aE,aY];rfl,λx hx=>?_,⟨af++[(kk (v.a,v.b),V.bl true)],by rw[ae hsl,ae (Ne.symm qs),aE],by rw[aY,aY,ek];rfl⟩,by rw[aY,r2.we];rfl,okn⟩
         ·have e':=r2.kp b o nl' nd' e;rw[ae nl',ae (bH e' hq'),ae nd'];exact e'
         ·rcases bF.mp hx with z|z
          ·exact(r2.at_ x z).by tup
          ·rw[bX.mp z];refine⟨tup _ _ vk,λz=>(nomatch z),λy a z=>?_⟩;cases z;exact⟨by rw[ae (Ne.symm hql),aE],tup _ _ rk⟩
       ·have ha:r_ acc (v.a,v.b)=true:=by
         rw[<-hh];cases q:(a8 af (kk (v.a,v.b))).isSome with
         |true=>rfl
         |false=>rw[q]at hyes;exact absurd rfl hyes
        have hadd:dt row.w.key acc ((v.a,v.b),v.at_)=acc:=by unfold dt;rw[if_pos ha]
        rw[MC,List.foldl_nil,hadd];exact⟨rows',r2⟩
      ·rintro σ H' ⟨rows',b9',b10',rfl,r2⟩;rw[az,iF]at r2;have et:vs.foldl (λacc v=>dt row.w.key acc ((v.a,v.b),v.at_)) ws=eW ps mn ws row.w.key:=by unfold eW;rw[eaims,List.foldl_map]
       rw[et]at r2;walk_at "rd";refine⟨dn+1,rfl,rows',_,⟨λb o nl' nd' e=>r2.kp b o nl' nd' (s1 _ _ (ri.kp b o nl' nd' e)),r2.top,r2.at_,r2.seen,r2.we,r2.ok⟩,by omega,?_,?_⟩
       ·have:=m8 ps mn ws row.w.key;omega
       ·rw[<-hreach];show _=(match ws[dn]? with | none=>ws | some w=>reachF ps mn m' (dn+1) (eW ps mn ws w.key));rw[hw]
    ·have hge:¬dn<rows.length:=λz=>hge (decide_eq_true (by omega));have e:ws[dn]?=none:=List.getElem?_eq_none (by omega);have e2:reachF ps mn m dn ws=ws:=by
      cases m with
      |zero=>rfl
      |succ m=>show(match ws[dn]? with | none=>ws | some w=>_)=ws;rw[e]
     exact k lw rows Hc (sb.trans (base ri.kp)) ri.top ri.at_ (by rw[ri.we,<-hreach,e2]) (eP sb lwn)
noncomputable def kD(k:K2):D:=.tup [.str k.1,.int k.2]
noncomputable def uL(H:Hp)(a:Addr):D:=match H a with
 |some (.tup [.str s,.int i])=>.tup [.str s,.int i]
 |_=>.bj
theorem uy(h:H a=some (.tup (kT k))):uL H a=kD k:=by
 unfold uL;rw[h];rfl
theorem DL(a b:K2):deq (kD a) (kD b)=decide (a=b):=by
 obtain⟨a1,a2⟩:=a;obtain⟨b1,b2⟩:=b;by_cases h1:a1=b1<;>by_cases h2:a2=b2<;>simp[kD,deq,deqL,h1,h2]
theorem EZ(h:H a=some (.tup (kT k))):Rep K H (kD k) (.ref a):=by
 simp only[kD,Rep];exact⟨_,_,rfl,aR.of h,by simp[kT,RepL,Rep]⟩
theorem K7(k:K2):dep (kD k)<=1:=by simp[kD,dep,depL]
theorem A4.mono(h:A4 H l ks)(s:ay H H'):A4 H' l ks:=⟨s _ _ h.top,λk hk=>s _ _ (h.at_ k hk)⟩
theorem A4.any(h:A4 H l ks)(y:K2):((ks.map (·.1)).any λa=>deq (uL H a) (kD y))=decide (y∈ks.map (·.2)):=by
 rw[GF];by_cases hy:y∈ks.map (·.2)
 ·rw[decide_eq_true hy];obtain⟨k,hk,e⟩:=aM.mp hy;refine lP.mpr ⟨k,hk,?_⟩;show deq (uL H k.1) (kD y)=true;rw[uy (h.at_ k hk),DL,decide_eq_true e]
 ·rw[decide_eq_false hy];refine Bool.eq_false_iff.mpr λz=>?_;obtain⟨k,hk,e⟩:=lP.mp z;have e:deq (uL H k.1) (kD y)=true:=e;rw[uy (h.at_ k hk),DL]at e;exact hy (aM.mpr ⟨k,hk,of_decide_eq_true e⟩)
theorem A4.rep(h:A4 H l ks):∀a∈ks.map (·.1),Rep K H (uL H a) (V.ref a)/\dep (uL H a)<=20:=λa ha=>by
 obtain⟨k,hk,rfl⟩:=aM.mp ha;rw[uy (h.at_ k hk)];exact⟨EZ (h.at_ k hk),f9 (K7 _) (by decide)⟩
structure v3(R:List (Str×aj))(du wk:List ao):Prop where
 nd:(du.map ao.name).Nodup
 nw:(wk.map ao.name).Nodup
 ds:∀z m,aB du z=some m->∃r∈R,r.2.name=z/\r.2.sort=cg/\ao.vl m=Mq r
 dn:∀z,aB du z=none->∀r∈R,r.2.name=z->r.2.sort≠cg
 ws:∀z m,aB wk z=some m->∃r∈R,r.2.name=z/\r.2.sort=cO/\ao.vl m=Mq r/\∀r'∈R,r'.2.name=z->r'.2.sort=cO->SR r.1 r'.1
 wn:∀z,aB wk z=none->∀r∈R,r.2.name=z->r.2.sort≠cO
theorem dD:cg≠cO:=by decide +kernel
noncomputable def mi(t:Addr)(r:Str×aj):ao:=⟨r.2.name,t,r.1,r.2.st,r.2.off⟩
theorem v3.tell(h:v3 R du wk)(e:r.2.sort=cg):v3 (R++[r]) (d7 du (mi t r)) wk:=by
 walk_at "10";refine⟨sQ h.nd,h.nw,λz m hm=>?_,λz hz x hx hn=>?_,λz m hm=>?_,λz hz x hx hn=>?_⟩
 ·rw[fu]at hm;by_cases q:(mi t r).name=z
  ·rw[if_pos q]at hm;cases hm;exact⟨r,by simp,q,e,rfl⟩
  ·rw[if_neg q]at hm;obtain⟨x,hx,y⟩:=h.ds z m hm;exact⟨x,inL x hx,y⟩
 ·rw[fu]at hz;by_cases q:(mi t r).name=z
  ·rw[if_pos q]at hz;cases hz
  ·rw[if_neg q]at hz;rcases bF.mp hx with y|y
   ·exact h.dn z hz x y hn
   ·rw[bX.mp y]at hn;exact absurd hn q
 ·obtain⟨x,hx,y1,y2,y3,y4⟩:=h.ws z m hm;refine⟨x,inL x hx,y1,y2,y3,λr' hr' n' s'=>?_⟩;rcases bF.mp hr' with y|y
  ·exact y4 r' y n' s'
  ·rw[bX.mp y]at s';exact absurd (e.symm.trans s') dD
 ·rcases bF.mp hx with y|y
  ·exact h.wn z hz x y hn
  ·rw[bX.mp y,e];exact dD
theorem v3.Pu(h:v3 R du wk)(e:r.2.sort=cO)(hw:∀m,aB wk r.2.name=some m->r.1.cps.toList<m.a.cps.toList):v3 (R++[r]) du (d7 wk (mi t r)):=by
 walk_at "10";refine⟨h.nd,sQ h.nw,λz m hm=>?_,λz hz x hx hn=>?_,λz m hm=>?_,λz hz x hx hn=>?_⟩
 ·obtain⟨x,hx,y⟩:=h.ds z m hm;exact⟨x,inL x hx,y⟩
 ·rcases bF.mp hx with y|y
  ·exact h.dn z hz x y hn
  ·rw[bX.mp y,e];exact dD.symm
 ·rw[fu]at hm;by_cases q:(mi t r).name=z
  ·rw[if_pos q]at hm;cases hm;refine⟨r,by simp,q,e,rfl,λr' hr' n' s'=>?_⟩;rcases bF.mp hr' with y|y
   ·cases hl:aB wk z with
    |none=>exact absurd s' (h.wn z hl r' y n')
    |some m0=>
     obtain⟨x,hx,y1,y2,y3,y4⟩:=h.ws z m0 hl;have lt:=hw m0 (by rw[show r.2.name=z from q];exact hl);have ea:m0.a=x.1:=congrArg (·.1) y3;rw[ea]at lt;exact λlt2=>y4 r' y n' s' (List.lt_trans lt2 lt)
   ·rw[bX.mp y];exact List.lt_irrefl _
  ·rw[if_neg q]at hm;obtain⟨x,hx,y1,y2,y3,y4⟩:=h.ws z m hm;refine⟨x,inL x hx,y1,y2,y3,λr' hr' n' s'=>?_⟩;rcases bF.mp hr' with y|y
   ·exact y4 r' y n' s'
   ·rw[bX.mp y]at n';exact absurd n' q
 ·rw[fu]at hz;by_cases q:(mi t r).name=z
  ·rw[if_pos q]at hz;cases hz
  ·rw[if_neg q]at hz;rcases bF.mp hx with y|y
   ·exact h.wn z hz x y hn
   ·rw[bX.mp y]at hn;exact absurd hn q
theorem v3.OT(h:v3 R du wk)(e:r.2.sort=cO)(hw:aB wk r.2.name=some m0)(lt:¬r.1.cps.toList<m0.a.cps.toList):v3 (R++[r]) du wk:=by
 walk_at "10";refine⟨h.nd,h.nw,λz m hm=>?_,λz hz x hx hn=>?_,λz m hm=>?_,λz hz x hx hn=>?_⟩
 ·obtain⟨x,hx,y⟩:=h.ds z m hm;exact⟨x,inL x hx,y⟩
 ·rcases bF.mp hx with y|y
  ·exact h.dn z hz x y hn
  ·rw[bX.mp y,e];exact dD.symm
 ·obtain⟨x,hx,y1,y2,y3,y4⟩:=h.ws z m hm;refine⟨x,inL x hx,y1,y2,y3,λr' hr' n' s'=>?_⟩;rcases bF.mp hr' with y|y
  ·exact y4 r' y n' s'
  ·have er:=bX.mp y;rw[er]at n' ⊢;rw[n',hm]at hw;cases hw;have ea:m0.a=x.1:=congrArg (·.1) y3;rw[ea]at lt;exact lt
 ·rcases bF.mp hx with y|y
  ·exact h.wn z hz x y hn
  ·rw[bX.mp y]at hn;rw[hn,hz]at hw;cases hw
theorem v3.other(h:v3 R du wk)(e1:r.2.sort≠cg)(e2:r.2.sort≠cO):v3 (R++[r]) du wk:=by
 walk_at "10";refine⟨h.nd,h.nw,λz m hm=>?_,λz hz x hx hn=>?_,λz m hm=>?_,λz hz x hx hn=>?_⟩
 ·obtain⟨x,hx,y⟩:=h.ds z m hm;exact⟨x,inL x hx,y⟩
 ·rcases bF.mp hx with y|y
  ·exact h.dn z hz x y hn
  ·rw[bX.mp y];exact e1
 ·obtain⟨x,hx,y1,y2,y3,y4⟩:=h.ws z m hm;refine⟨x,inL x hx,y1,y2,y3,λr' hr' n' s'=>?_⟩;rcases bF.mp hr' with y|y
  ·exact y4 r' y n' s'
  ·rw[bX.mp y]at s';exact absurd s' e2
 ·rcases bF.mp hx with y|y
  ·exact h.wn z hz x y hn
  ·rw[bX.mp y];exact e2
theorem v3.done(h:v3 R du wk)(nd:(ms.map ao.name).Nodup)(e:∀z,aB ms z=(aB du z).or (aB wk z)):eQ R ms:=by
 refine⟨nd,λz m hm=>?_,λz hz r hr hn=>?_⟩
 ·rw[e z]at hm;cases hd:aB du z with
  |some m'=>rw[hd]at hm;cases hm;exact .inl (h.ds z m hd)
  |none=>
   rw[hd]at hm;exact .inr ⟨h.dn z hd,h.ws z m hm⟩
 ·rw[e z]at hz;obtain⟨h1,h2⟩:=Qz.mp hz;exact⟨h.dn z h1 r hr hn,h.wn z h2 r hr hn⟩
theorem Ah(hN:HB ps){r r':Str×aj}(hr:r∈bQ ps)(hr':r'∈bQ ps)(e1:r.1=r'.1)(e2:r.2.name=r'.2.name):r=r':=by
 obtain⟨p,hp,q1,q2⟩:=bu.mp hr;obtain⟨p',hp',q3,q4⟩:=bu.mp hr';have pe:p=p':=by
  obtain⟨i,hi,rfl⟩:=wm hp;obtain⟨j,hj,rfl⟩:=wm hp';have pw:=BZ.mp hN.nd;have en:ps[i].name=ps[j].name:=by rw[q1,q3,e1]
  rcases MY i j with z|z|z
  ·exact absurd (by rw[nO,nO];exact en) (pw i j (by simpa using hi) (by simpa using hj) z)
  ·subst z;rfl
  ·exact absurd (by rw[nO,nO];exact en.symm) (pw j i (by simpa using hj) (by simpa using hi) z)
 subst pe;have nn:=(hN.aK p hp).2;obtain⟨i,hi,h1⟩:=wm q2;obtain⟨j,hj,h2⟩:=wm q4;have pw:=BZ.mp nn;have:r.2=r'.2:=by
  rcases MY i j with z|z|z
  ·exact absurd (by rw[nO,nO,h1,h2];exact e2) (pw i j (by simpa using hi) (by simpa using hj) z)
  ·subst z;exact h1.symm.trans h2
  ·exact absurd (by rw[nO,nO,h1,h2];exact e2.symm) (pw j i (by simpa using hj) (by simpa using hi) z)
 exact Prod.ext e1 this
theorem EB(hN:HB ps){r r':Str×aj}(hr:r∈bQ ps)(hr':r'∈bQ ps)(s1:r.2.sort=cg)(s2:r'.2.sort=cg)(e2:r.2.name=r'.2.name):r=r':=by
 obtain⟨p,hp,q1,q2⟩:=bu.mp hr;obtain⟨p',hp',q3,q4⟩:=bu.mp hr';obtain⟨i,hi,rfl⟩:=wm hp;obtain⟨j,hj,rfl⟩:=wm hp';have pw:=BZ.mp hN.tw;rcases MY i j with z|z|z
 ·exact absurd e2 (pw i j hi hj z r.2 q2 r'.2 q4 s1 s2)
 ·subst z;exact Ah hN hr hr' (by rw[<-q1,<-q3]) e2
 ·exact absurd e2.symm (pw j i hj hi z r'.2 q4 r.2 q2 s2 s1)
theorem eQ.one(hN:HB ps)(h:eQ (bQ ps) ms)(h':eQ (bQ ps) ns){z:Str}{m n:ao}(hm:aB ms z=some m)(hn:aB ns z=some n):ao.vl m=ao.vl n:=by
 rcases h.MM z m hm with ⟨r,hr,a1,a2,a3⟩|⟨no,r,hr,a1,a2,a3,a4⟩<;>rcases h'.MM z n hn with ⟨r',hr',b1,b2,b3⟩|⟨no',r',hr',b1,b2,b3,b4⟩
 ·rw[a3,b3,EB hN hr hr' a2 b2 (a1.trans b1.symm)]
 ·exact absurd a2 (no' r hr a1)
 ·exact absurd b2 (no r' hr' b1)
 ·have e:r.1=r'.1:=yE (List.le_antisymm (List.not_lt.mp (a4 r' hr' b1 b2)) (List.not_lt.mp (b4 r hr a1 a2)));rw[a3,b3,Ah hN hr hr' e (a1.trans b1.symm)]
theorem gF:z∈ms.map ao.name↔aB ms z≠none:=by
 constructor
 ·intro h e;obtain⟨m,hm,q⟩:=aM.mp h;exact v7.mp e m hm (decide_eq_true q)
 ·intro h;cases e:aB ms z with
  |none=>exact absurd e h
  |some m=>exact aM.mpr ⟨m,qw e,of_decide_eq_true (GD (p:=λm:ao=>decide (m.name=z)) e)⟩
theorem eQ.mem(h:eQ R ms){z:Str}:z∈ms.map ao.name↔∃r∈R,r.2.name=z/\(r.2.sort=cg\/r.2.sort=cO):=by
 rw[gF];constructor
 ·intro q;cases e:aB ms z with
  |none=>exact absurd e q
  |some m=>
   rcases h.MM z m e with ⟨r,hr,a1,a2,_⟩|⟨_,r,hr,a1,a2,_⟩
   ·exact⟨r,hr,a1,.inl a2⟩
   ·exact⟨r,hr,a1,.inr a2⟩
 ·rintro⟨r,hr,a1,a2⟩ e;have:=h.bj z e r hr a1;exact a2.elim this.1 this.2
theorem Bj(nd:(ms.map ao.name).Nodup)(h:m∈ms):aB ms m.name=some m:=by
 unfold aB
 induction ms with
 |nil=>cases h
 |cons n r ih=>
  rw[fH]at nd;obtain⟨n1,n2⟩:=j7.mp nd;rw[BY];rcases iG.mp h with e|e
  ·rw[e,decide_eq_true rfl]
  ·rw[decide_eq_false (λq=>n1 (aM.mpr ⟨m,e,q.symm⟩))];exact ih n2 e
theorem Ax(s:ay H0 H)(f:H0 d=none)(nde:d≠e)(td:Tab H d du)(te:Tab H e wk)(ht:H t=none)(len:du.length<=1000):
  ∃H',eM (upd H t (.tup [.str r.1,.int r.2.st,.int r.2.off])) d (V.str r.2.name) (V.ref t) H'/\ay H0 H'/\Tab H' d (d7 du (mi t r))/\Tab H' e wk:=by
 have sn:=aU (o:=HO.tup [.str r.1,.int r.2.st,.int r.2.off]) ht;refine⟨_,eM.k (k:=.inr r.2.name) (sn _ _ td.top) (by rw[az,sizeLine_eq];omega),eR f (s.trans sn),(td.mono sn).put (m:=mi t r) (show upd H t _ t=_ from aE),?_⟩;have te':=te.mono sn;exact⟨by rw[ae (Ne.symm nde)];exact te'.top,λm hm=>by
  unfold ao.At;rw[ae (bD (te'.at_ m hm) (sn _ _ td.top) (by intro z;cases z))];exact te'.at_ m hm⟩
theorem rJ(e:ar q=ar p){n:aj}(hn:n∈q.aK):∃m∈p.aK,m.name=n.name/\m.sort=n.sort/\m.st=n.st/\m.off=n.off:=by
 have h:aj.e n∈p.aK.map aj.e:=by
  have:=congrArg (·.2.1) e;rw[show p.aK.map aj.e=q.aK.map aj.e from this.symm];exact aM.mpr ⟨n,hn,rfl⟩
 obtain⟨m,hm,z⟩:=aM.mp h;unfold aj.e at z;injection z with z1 z2 z3 z4 z5;exact⟨m,hm,z2,z3,z4,z5⟩
theorem GW(e:ar q=ar p):q.aI.map aL.e=p.aI.map aL.e:=congrArg (·.2.2) e
theorem FH(e:ar q=ar p):q.aI.length=p.aI.length:=by
 have:=congrArg List.length (GW e)
 rwa [az,az]at this
theorem PB(e:ar q=ar p){s:aL}(hs:s∈q.aI):∃r∈p.aI,r.kind=s.kind/\r.step=s.step/\r.words=s.words:=by
 have h:aL.e s∈p.aI.map aL.e:=by rw[<-GW e];exact aM.mpr ⟨s,hs,rfl⟩
 obtain⟨r,hr,z⟩:=aM.mp h;unfold aL.e at z;exact⟨r,hr,congrArg (·.1) z,congrArg (·.2.1) z,congrArg (·.2.2.1) z⟩
theorem i9(e:ar q=ar p):q.name=p.name:=congrArg (·.1) e
theorem MT(nd:(ps.map ah.name).Nodup):(aC ps).Nodup:=by
 unfold aC
 induction ps with
 |nil=>exact List.nodup_nil
 |cons p ps ih=>
  rw[fH]at nd;obtain⟨n1,n2⟩:=j7.mp nd;rw[List.flatMap_cons];refine f_.mpr ⟨?_,ih n2,λa ha b hb e=>?_⟩
  ·refine List.Pairwise.map _ (λi j h z=>h ?_) (List.nodup_range (n:=p.aI.length));have:=congrArg (·.2) z;exact Int.ofNat.inj this
  ·subst e;obtain⟨i,_,rfl⟩:=aM.mp ha;obtain⟨q,hq,y⟩:=hW.mp hb;obtain⟨j,_,z⟩:=aM.mp y;exact n1 (aM.mpr ⟨q,hq,congrArg (·.1) z⟩)
theorem zW.co(h:zW ps)(e:∀q∈qs,∃p∈ps,ar q=ar p)(nd:(qs.map ah.name).Nodup):zW qs:=by
 refine⟨λq hq n hn=>?_,λq hq s hs=>?_,λq hq r hr ne x hx y hy s1 s2=>?_,?_⟩
 ·obtain⟨p,hp,c⟩:=e q hq;obtain⟨m,hm,_,m2,m3,_⟩:=rJ c hn;have:=h.aK p hp m hm;rw[m2,m3,<-FH c]at this;exact this
 ·obtain⟨p,hp,c⟩:=e q hq;obtain⟨r,hr,r1,r2,_⟩:=PB c hs;have:=h.aI p hp r hr;rw[r1,r2]at this;exact this
 ·obtain⟨p,hp,c⟩:=e q hq;obtain⟨p',hp',c'⟩:=e r hr;obtain⟨m,hm,m1,m2,_⟩:=rJ c hx;obtain⟨m',hm',m1',m2',_⟩:=rJ c' hy;rw[<-m1,<-m1'];exact h.tw p hp p' hp' (by rw[<-i9 c,<-i9 c'];exact ne) m hm m' hm' (m2.trans s1) (m2'.trans s2)
 ·refine f9 (iO (MT nd) λk hk=>?_) h.all;obtain⟨q,hq,n1,i,n2,n3⟩:=gX hk;obtain⟨p,hp,c⟩:=e q hq;have:k=(p.name,(i:Int)):=Prod.ext (by rw[<-n1];exact i9 c) n2;rw[this];exact hW.mpr ⟨p,hp,aM.mpr ⟨i,yJ.mpr (by rw[<-FH c];exact n3),rfl⟩⟩
theorem OA{ps:List ah}{R:ah->ah->Prop}(nd:(ps.map ah.name).Nodup)(h:∀p∈ps,∀q∈ps,p.name≠q.name->R p q):ps.Pairwise R:=
 List.Pairwise.imp_of_mem (λ{a b} ha hb n=>h a ha b hb n) (NL.mp nd)
theorem zW.SY(h:zW ps)(nd:(ps.map ah.name).Nodup)(bn:∀p∈ps,n_ p)(cy:ps.length<=14):HB ps:=
 ⟨cy,nd,λp hp=>⟨(bn p hp).nm,(bn p hp).nd⟩,OA nd h.tw⟩
theorem uX(h:eO G S T z):∃c∈G++T,cA z c=true:=by
 rcases h with h|⟨p,hp,e⟩
 ·obtain⟨c,e⟩:=QC.mp h;exact⟨c,gC _ (qw e),GD (p:=cA z) e⟩
 ·exact⟨p,gR _ hp,GD (p:=cA z) e⟩
theorem n8(h:zW qs)(hn:eQ (bQ qs) ms)(hq:q∈qs)(ht:cA z (ar q)=true):∃m,aB ms z=some m:=by
 cases e:aB ms z with
 |some m=>exact⟨m,rfl⟩
 |none=>
  obtain⟨n,hm,y⟩:=lP.mp ht;obtain⟨n',hn',rfl⟩:=aM.mp hm;rw[lN]at y;obtain⟨y1,y2⟩:=y;have y1:n'.name=z:=of_decide_eq_true y1;have y2:n'.sort≠cS:=by intro c;rw[show(aj.e n').sort=n'.sort from rfl,c]at y2;simp at y2
  have no:=hn.bj z e (q.name,n') (bu.mpr ⟨q,hq,rfl,hn'⟩) y1;rcases (h.aK q hq n' hn').2.2 with c|c|c
  ·exact absurd c no.1
  ·exact absurd c no.2
  ·exact absurd c y2
structure Ek(qs:List ah)(e:Str):Prop where
 jn:zW qs
 nd:(qs.map ah.name).Nodup
 bn:∀q∈qs,n_ q
 cy:qs.length<=14
 ent:∃q∈qs,cA e (ar q)=true
 Tv:∀q∈qs,∀z,bW z (ar q)=true->∃r∈qs,cA z (ar r)=true
theorem xu(hB:BG G S e)(hJ:zW (G++S))(tc:jW (G.map ar) (S.map ar) e T rs)(cl:fc (G.map ar) (S.map ar) e T)(pm:(qs.map ar).Perm (G.map ar++T)):Ek qs e:=by
 have fr:∀q∈qs,∃p∈G++S,ar q=ar p:=λq hq=>by
  have:=pm.mem_iff.mp (aM.mpr ⟨q,hq,rfl⟩);rcases bF.mp this with z|z
  ·obtain⟨p,hp,y⟩:=aM.mp z;exact⟨p,gC _ hp,y.symm⟩
  ·obtain⟨p,hp,y⟩:=aM.mp (tc.sub _ z);exact⟨p,gR _ hp,y.symm⟩
 have bk:∀c∈G.map ar++T,∃q∈qs,ar q=c:=λc hc=>aM.mp (pm.mem_iff.mpr hc);have e1:qs.map ah.name=(qs.map ar).map (·.1):=by rw[ck];rfl
 have e2:(G.map ar++T).map (·.1)=G.map ah.name++T.map (·.1):=by rw[aY,ck];rfl
 have nb:=hB.nd;rw[aY]at nb;have nd:(qs.map ah.name).Nodup:=by
  rw[e1,(pm.map _).nodup_iff,e2];refine f_.mpr ⟨(f_.mp nb).1,tc.nd,λa ha b hb z=>?_⟩;obtain⟨c,hc,rfl⟩:=aM.mp hb;obtain⟨p,hp,rfl⟩:=aM.mp (tc.sub c hc);exact(f_.mp nb).2.2 a ha p.name (aM.mpr ⟨p,hp,rfl⟩) z
 refine⟨hJ.co fr nd,nd,λq hq=>?_,?_,?_,λq hq z hz=>?_⟩
 ·obtain⟨p,hp,c⟩:=fr q hq;exact vA (hB.uW p hp) c
 ·have l1:qs.length<=((G++S).map ah.name).length:=by
   rw[<-az (f:=ah.name)];refine iO nd λx hx=>?_;obtain⟨q,hq,rfl⟩:=aM.mp hx;obtain⟨p,hp,c⟩:=fr q hq;exact aM.mpr ⟨p,hp,(i9 c).symm⟩
  rw[az]at l1;exact f9 l1 hB.cy
 ·obtain⟨c,hc,t⟩:=uX cl.1;obtain⟨q,hq,rfl⟩:=bk c hc;exact⟨q,hq,t⟩
 ·obtain⟨c,hc,t⟩:=uX (cl.2 (ar q) (pm.mem_iff.mp (aM.mpr ⟨q,hq,rfl⟩)) z hz);obtain⟨r,hr,rfl⟩:=bk c hc;exact⟨r,hr,t⟩
theorem Fi:(p.aK.find? λn=>decide (n.name=z)&&decide (n.sort=cS))=none↔cB p z=false:=by
 unfold cB;rw[v7,List.any_eq_false]
theorem Ek.res(h:Ek qs e)(hn:eQ (bQ qs) ms){q:ah}(hq:q∈qs){st:aL}(hs:st∈q.aI){f:ax}(hf:f∈st.fills):(bJ q ms f=none->f.soft=true)/\∀r,bJ q ms f=some r->(r.1,r.2.1)∈aC qs:=by
 have key:∀q∈qs,∀n∈q.aK,(q.name,n.st)∈aC qs:=λq hq n hn=>by
  have:=h.jn.aK q hq n hn;exact hW.mpr ⟨q,hq,aM.mpr ⟨n.st.toNat,yJ.mpr (by omega),by rw[Int.toNat_of_nonneg this.1]⟩⟩
 unfold bJ;cases ho:q.aK.find? λn=>decide (n.name=f.name)&&decide (n.sort=cS) with
 |some n=>
  refine⟨λz=>(nomatch z),λr z=>?_⟩;cases z;exact key q hq n (qw ho)
 |none=>
  refine⟨λz=>?_,λr z=>?_⟩
  ·cases hso:f.soft with
   |true=>rfl
   |false=>
    have w:bW f.name (ar q)=true:=fC.mp ⟨f,hW.mpr ⟨st,hs,hf⟩,by rw[hso,Fi.mp ho];rfl,rfl⟩;obtain⟨r,hr,t⟩:=h.Tv q hq _ w;obtain⟨m,hm⟩:=n8 h.jn hn hr t;simp only[hm]at z;cases z
  ·cases hl:aB ms f.name with
   |none=>simp only[hl]at z;cases z
   |some m=>
    simp only[hl]at z;cases z;rcases hn.MM f.name m hl with ⟨r,hr,_,_,y⟩|⟨_,r,hr,_,_,y,_⟩
    all_goals
     obtain⟨p,hp,n1,n2⟩:=bu.mp hr;have:=key p hp r.2 n2;rw[n1]at this;have y1:m.a=r.1:=congrArg (·.1) y;have y2:m.b=r.2.st:=congrArg (·.2.1) y;show(m.a,m.b)∈_;rw[y1,y2];exact this
theorem Ek.wL(h:Ek qs e)(hn:eQ (bQ qs) ms):∃m,aB ms e=some m/\(m.a,m.b)∈aC qs:=by
 obtain⟨q,hq,t⟩:=h.ent;obtain⟨m,hm⟩:=n8 h.jn hn hq t;refine⟨m,hm,?_⟩;rcases hn.MM e m hm with ⟨r,hr,_,_,y⟩|⟨_,r,hr,_,_,y,_⟩
 all_goals
  obtain⟨p,hp,n1,n2⟩:=bu.mp hr;have z:=h.jn.aK p hp r.2 n2;have y1:m.a=r.1:=congrArg (·.1) y;have y2:m.b=r.2.st:=congrArg (·.2.1) y;rw[y1,y2,<-n1];exact hW.mpr ⟨p,hp,aM.mpr ⟨r.2.st.toNat,yJ.mpr (by omega),by rw[Int.toNat_of_nonneg z.1]⟩⟩
theorem Ek.mE(h:Ek qs e)(hn:eQ (bQ qs) ms):∀k∈aC qs,∀t∈cU qs ms k,t.1∈aC qs:=λk hk t ht=>by
 obtain⟨q,hq,n1,i,n2,n3⟩:=gX hk;have hs:q.aI[k.2.toNat]?=some (q.aI[i]):=by rw[n2,Jz];exact jo n3
 rw[show k=(k.1,k.2) from rfl,kI h.nd hq n1 hs]at ht;obtain⟨x,hx,rfl⟩:=aM.mp ht;obtain⟨f,hf,y⟩:=Ky.mp hx;obtain⟨r,hr,rfl⟩:=d_.mp y;exact(h.res hn hq (uJ n3) hf).2 r hr
theorem uM:∀(l:List (K2×Int)) (ws:List Wy),(∀t∈l,t.1∈aC ps)->zS ps ws->zS ps (l.foldl (dt k) ws)
 |[],_,_,h=>h
 |t::l,ws,hl,h=>uM l _ (λx hx=>hl x (by simp[hx])) (h.add (hl t (by simp)))
theorem nB(hv:∀k∈aC ps,∀t∈cU ps mn k,t.1∈aC ps):∀(n d:Nat) (ws:List Wy),zS ps ws->zS ps (reachF ps mn n d ws)
 |0,_,_,h=>h
 |n+1,d,ws,h=>by
  unfold reachF;cases e:ws[d]? with
  |none=>exact h
  |some w=>exact nB hv n (d+1) _ (uM _ _ (hv _ (h.Lp w (c_ e))) h)
theorem fN(hv:∀k∈aC ps,∀t∈cU ps mn k,t.1∈aC ps)(hr:r∈aC ps):zS ps (bV ps mn r):=
 nB hv _ _ _ ⟨by simp,λw hw=>by rw[List.mem_singleton.mp hw];exact hr⟩
theorem Bz.mono(h:Bz H L dN ps mn)(s:ay H H'):Bz H' L dN ps mn:=⟨h.Nh.mono s,h.tab.mono s,h.nd,h.cy,h.all,h.aK,h.QK⟩
theorem tq(h:aB ms z=some m):m∈ms:=qw h
theorem LV(T:Txt K mg A):bg P w K mg base dm 7 A.kept A.kE ["pieces", "names", "entry"] HK:=by
 refine T.qO.ok z6 (λvs H Q E h=>?_) (λcdv Ar outer s H vs Q E hr h=>?_)
 ·obtain⟨L,dN,e,ps,mn,m,rfl,_⟩:=h;rfl
 ·obtain⟨L,dN,e,ps,mn,m,rfl,pre,hm,hin,k⟩:=h;refine⟨_,(aQ (pS 3 z6.nd (bU (a7 hr) (pv 1) (pv 2) (λ_ _=>rfl))) (bf (aJ (cx (gu ["key", "by", "at"]) rfl (eU (K:=K) rfl (pC (Ov T) hr T.JZ T.E6 T.DO (aq (pv 0) (aq (pv 1) (aq (aX (aq (tx K (pv 3)) (aq (tx K (pv 3)) aa))) aa))))) (λ_ _ _=>⟨(bN (K:=K) (n:=3) rfl rfl (cT (pn 0 (by walk_at "n")) (cT (pn 1 (by walk_at "n")) (cT (pn 2 (by walk_at "n")) bL)))),bY,(pv 0)⟩))))),?_⟩;walk_at "rd";have ma:=pre.tab.at_ m (tq hm);have dg:bx H dN (V.str e) (some (V.ref m.t)):=by
   have:=bx.k (k:=.inr e) pre.tab.top;rw[lO,hm]at this;exact this
  refine⟨_,dg,_,rfl,_,aR.of ma,_,rfl,_,rfl,_,aR.of ma,_,rfl,by walk_at "s", λp hp=>⟨ps,mn,(m.a,m.b),aE,hin,pre.mono (aU hp),λl rows H1 s1 hl ht er fl=>?_⟩⟩;have s01:ay H H1:=(aU hp).trans s1;have rl:rows.length<=1000:=by
   have e1:=congrArg List.length er;rw[az]at e1;have hv:∀k∈aC ps,∀t∈cU ps mn k,t.1∈aC ps:=λk hk t htt=>by
    obtain⟨q,hq,n1,i,n2,n3⟩:=gX hk;have hs:q.aI[k.2.toNat]?=some (q.aI[i]):=by rw[n2,Jz];exact jo n3
    rw[show k=(k.1,k.2) from rfl,kI pre.nd hq n1 hs]at htt;obtain⟨x,hx,rfl⟩:=aM.mp htt;obtain⟨f,hf,y⟩:=Ky.mp hx;obtain⟨r,hr,rfl⟩:=d_.mp y;exact((pre.QK q hq _ (uJ n3)).2 f hf).2 r hr
   have:=(fN hv hin).len;have:=pre.all;omega
  refine cD.of (xs:=rows.map λr=>V.ref r.t) (by rw[az,sizeLine_eq];omega) (aD.of hl) (λD i ys H2=>ay H1 H2/\H2 D=some (.lst ys)/\ys=(rows.take i).map λr=>V.ref r.k)
   (λD hD=>⟨aU hD,aE,rfl⟩) ?_ ?_ ?_
  ·rintro D i ys H2 hD hi ⟨s2,hDD,rfl⟩;exact⟨aD.of (s2 _ _ hl),hDD,by rw[az,jr];omega⟩
  ·rintro D i x ys H2 hD hx ⟨s2,hDD,rfl⟩;walk_at "0";obtain⟨r,hr,rfl⟩:=d_.mp hx;have ra:=ht r (c_ hr);have tk:rows.take (i+1)=rows.take i++[r]:=by rw[fX,hr];rfl
   have tp:∃u v,H2 r.t=some (.tup [.ref r.k,u,v]):=by
    cases hb:r.w.QN with
    |none=>exact⟨_,_,s2 _ _ (ra.n hb)⟩
    |some y=>exact⟨_,_,s2 _ _ (ra.s y.1 y.2 hb).1⟩
   obtain⟨u,v,tp⟩:=tp;walk_at "rd";exact⟨_,aR.of tp,rfl,_,_,rfl,_,_,rfl,_,_,rfl,rfl,.no (.no (.no .nil)),hDD,eR hD s2,aE,by rw[tk,aY];rfl⟩
  ·rintro D ys H2 hD ⟨s2,hDD,rfl⟩;rw[az,iF]at hDD;refine k D (rows.map λr=>(r.k,r.w.key)) H2 (s01.trans s2) (eP s01 hD) ⟨by rw[ck];exact hDD,λq hq=>?_⟩ ?_
   ·obtain⟨r,hr,rfl⟩:=aM.mp hq;exact s2 _ _ (ht r hr).k
   ·rw[ck,<-er,ck];rfl
theorem m_:∀(l pre:List (List Key×V)),((pre++l).map (·.1)).Nodup->gA pre l=pre++l
 |[],pre,_=>by unfold gA;simp
 |x::l,pre,h=>by
  show gA (putK pre x.1 x.2) l=_;have e:putK pre x.1 x.2=pre++[x]:=by
   unfold putK;rw[if_neg];intro z;obtain⟨y,hy,e⟩:=lP.mp z;rw[aY,fH]at h;exact(f_.mp h).2.2 y.1 (aM.mpr ⟨y,hy,rfl⟩) x.1 (by simp) (of_decide_eq_true e)
  rw[e,m_ l (pre++[x]) (by rw[tI];exact h),tI];rfl
theorem E7(h:jT ps ks ls)(nd:ks.Nodup):ls.Nodup:=by
 obtain⟨ss,pm,_,rfl⟩:=h;have ns:ss.Nodup:=pm.nodup_iff.mpr nd;refine f_.mpr ⟨ns.filter _,ns.filter _,λa ha b hb e=>?_⟩;subst e;have h1:=of_decide_eq_true (uI.mp ha).2;have h2:=of_decide_eq_true (uI.mp hb).2;rw[h1]at h2;exact absurd (Option.some.inj h2) (by decide +kernel)
theorem vX{a b:aH}(h:([.inr a.1,.inl a.2]:List Key)=[.inr b.1,.inl b.2]):a=b:=by
 injection h with h1 h2;injection h2 with h2 _;exact Prod.ext (Sum.inr.inj h1) (Sum.inl.inj h2)
theorem gZ:∀(e:Int) (ss:List aL),(bI e ss).length=ss.length
 |_,[]=>rfl
 |e,s::r=>by unfold bI;rw[List.length_cons,gZ,List.length_cons]
theorem j5(h:rs.length=ls.length):(cu ls rs).map (·.1)=ls.map λk=>[.inr k.1,.inl k.2]:=by
 unfold cu;rw[ck];have:((·.1) ∘ λx:aH×Int×Int=>(([.inr x.1.1,.inl x.1.2],.int x.2.1):List Key×V))=(λk:aH=>([.inr k.1,.inl k.2]:List Key)) ∘ Prod.fst:=rfl;rw[this,<-ck,List.map_fst_zip (by omega)]
theorem m5(h:rs.length=ls.length)(nd:ls.Nodup):((cu ls rs).map (·.1)).Nodup:=by
 rw[j5 h];exact List.Pairwise.map _ (λa b n z=>n (vX z)) nd
theorem yA(nd:(ps.map ah.name).Nodup)(h:k∈aC ps):(gr ps k).isSome=true:=by
 obtain⟨p,hp,n1,i,n2,n3⟩:=gX h;unfold gr;rw[<-n1,gJ nd hp];show(if 0<=k.2 then p.aI[k.2.toNat]? else none).isSome=true;rw[if_pos (by omega),n2,Jz,jo n3];rfl
theorem Ek.Nx(h:Ek qs e)(ha:∀q∈qs,q.At H):jV H qs:=
 ⟨ha,h.nd,λp hp s hs=>by
  have h1:=h.jn.aI p hp s hs;have h2:=((h.bn p hp).ss s hs).1;exact⟨h1.1,h1.2.1,h1.2.2,by omega⟩⟩
theorem fA.lt(s:fA H H'):dC H H':=λb o ho e=>s b o (by rcases ho with ⟨_,rfl⟩|⟨_,rfl⟩<;>exact λ_ z=>by cases z) e
theorem fA.of(s:ay H H'):fA H H':=λb o _ e=>s b o e
theorem fA.trans(s:fA H H')(t:fA H' H''):fA H H'':=λb o n e=>t b o n (s b o n e)
theorem NX(hT:H T=some (.iH qs))(s:eT T H H'):fA H H':=λb o ho e=>s.get hT e ho
theorem xo(h:c7 T p q H)(n:T≠T')(h':c7 T' p' q' H)(s:eT T' H H'):c7 T p q H':=by
 obtain⟨ps,h1,h2,h3⟩:=h;obtain⟨ps',h1',_⟩:=h';exact⟨ps,s _ _ n h1,h2,h3.imp id λ⟨c,h4,h5⟩=>⟨c,h4,s.get h1' h5 (λ_ z=>by cases z)⟩⟩
theorem KY(h:c7 T p q H)(s:eT T H H')(hb:H' b=none)(t:c7 T p q H'):H b=none:=by
 obtain⟨_,h1,_⟩:=t;exact s.free (λz=>by rw[z,h1]at hb;cases hb) hb
theorem J_(T:Txt K mg A):bg P w K mg base dm 8 A.N0 A.sY ["given", "shelves", "entry"] (Dn A):=by
 refine T.zN.ok GQ (λvs H Q E h=>?_) (λcdv Ar outer s H vs Q E hr h=>?_)
 ·obtain⟨g,s',e,G,xs,rfl,_⟩:=h;rfl
 ·obtain⟨g,s',e,G,xs,rfl,hP,hJ,hT,hN,ne,k⟩:=h;refine⟨_,(aQ (pS 3 GQ.nd (pC (Ik T) hr T.zL T.kA T.uC (aq (pv 0) (aq (pv 1) (aq (pv 2) aa))))) (bf (aJ (cq (wQ rfl hr.units) (by rfl) T.jx oM (aq (pC (Mu T) hr T.FK T.xf T.wJ (aq (pv 3) (aq (pC (LV T) hr T.C0 T.wN T.xw (aq (pv 3) (aq (pC (Qv T) hr T.KG T.zp T.G0 (aq (pv 3) aa)) (aq (pv 2) aa)))) aa))) aa))))),?_⟩;walk_at "rd";refine⟨G,xs,hP,hT,λl Tc rs qs H1 x1 t1 pc fr tc cl pm pw=>?_⟩;have c:=xu hP.2.2 hJ tc cl pm;refine⟨qs,⟨pc.top,pc.at_⟩,c.jn.SY c.nd c.bn c.cy,?_,λd ms H2 x2 t2 tab nm hd=>?_⟩
  ·exact xo hN ne hT x1
  have tn1:=xo hN ne hT x1;have tt2:=xo t1 (Ne.symm ne) tn1 x2;have q1:fA H H1:=by obtain⟨_,e,_⟩:=id hT;exact NX e x1
  have q2:fA H1 H2:=by obtain⟨_,e,_⟩:=id tn1;exact NX e x2
  obtain⟨m,hm,hin⟩:=c.wL nm;have pre:Bz H2 l d qs ms:=⟨⟨xI q2.lt pc.top,λq hq=>AE q2.lt (pc.at_ q hq),pc.nd⟩,tab,c.nd,by have:=c.cy;omega,by have:=c.jn.all;omega,λp hp=>⟨(c.bn p hp).nm,(c.bn p hp).nd⟩,λp hp st hs=>⟨((c.bn p hp).ss st hs).2,λf hf=>c.res nm hp hs hf⟩⟩
  refine⟨qs,ms,pre,m,hm,hin,λl2 ks H3 s3 f3 hk ek=>?_⟩;have wok:=fN (c.mE nm) hin;have kn:(ks.map (·.2)).Nodup:=by rw[ek];exact wok.nd
  have kl:ks.length<64:=by
   have h1:=wok.len;have h2:=c.jn.all;have h3:=congrArg List.length ek;rw[az,az]at h3;omega
  have p3:=pre.Nh.mono s3;have cy:=c.cy;refine⟨qs,ks.map (·.2),⟨l,l2,ks,rfl,rfl,p3,by omega,c.Nx p3.at_,hk,kl,λq hq=>yA c.nd ?_⟩,λl3 rows H4 s4 f4 la=>?_⟩
  ·have:q.2∈ks.map (·.2):=aM.mpr ⟨q,hq,rfl⟩;rw[ek]at this;obtain⟨y,hy,e⟩:=aM.mp this;rw[<-e];exact wok.Lp y hy
  obtain⟨ss,e1,e2⟩:=la.lay;have fB:(bI 0 ss).length=(rows.map (·.k)).length:=by rw[<-e2,az,az]
  have rl:=la.len;rw[az]at rl;refine⟨rows.map λr=>(r.t,r.b,[.inr r.k.1,.inl r.k.2],.int r.p),?_,?_,by rw[az];omega,λd2 f5=>?_⟩
  ·rw[ck];exact aD.of la.top
  ·intro t ht;obtain⟨r,hr,rfl⟩:=aM.mp ht;exact⟨la.row r hr,la.key r hr⟩
  have ep:(rows.map λr=>(r.t,r.b,([.inr r.k.1,.inl r.k.2]:List Key),V.int r.p)).map (λx=>x.2.2)=cu (rows.map (·.k)) (bI 0 ss):=by
   unfold cu;rw[<-e2,ck,List.zip_map',ck];rfl
  rw[ep,m_ _ [] (by rw[List.nil_append];exact m5 fB (E7 la.ord kn)),List.nil_append];have s5:=aU (o:=HO.dT (cu (rows.map (·.k)) (bI 0 ss))) f5;have s25:ay H2 _:=(s3.trans s4).trans s5;refine k d2 Tc rs qs ms m (rows.map (·.k)) ss _ _ ((q1.trans q2).trans (fA.of s25)) (tt2.more s25) (t2.more s25) ?_ aE tc cl pm ⟨nm,hm,?_,?_,rfl⟩
  ·exact KY hT x1 (KY tn1 x2 (eP (s3.trans s4) f5) t2) t1
  ·rw[<-ek];exact la.ord
  ·rw[ck];exact e1
theorem ny:(bo (G++S) z=none->¬BP (G.map ar) (S.map ar) z)/\∀p,bo (G++S) z=some p->(cH (G.map ar) z=some (ar p)/\p∈G)\/(cH (G.map ar) z=none/\cH (S.map ar) z=some (ar p)/\p∈S):=by
 have e:bo (G++S) z=(bo G z).or (bo S z):=IY;refine⟨λh=>?_,λp h=>?_⟩
 ·rw[e,Qz]at h;rintro (m|m)
  ·rw[dy,h.1]at m;cases m
  ·rw[dy,h.2]at m;cases m
 ·rw[dy,dy];cases q:bo G z with
  |some r=>
   rw[e,q]at h;have:r=p:=Option.some.inj h;subst this;exact .inl ⟨rfl,qw q⟩
  |none=>
   rw[e,q]at h;have h:bo S z=some p:=h;exact .inr ⟨rfl,by rw[h];rfl,qw h⟩
structure Ki(G S:List ah)(e:Str)(lf:List Str)(Tp:List ah)(rs:List (Str×Str×Str)):Prop where
 tc:jW (G.map ar) (S.map ar) e (Tp.map ar) rs
 sub:∀p∈Tp,p∈S
 nd:((G++Tp).map ah.name).Nodup
 lw:∀z∈lf,z=e\/∃q∈G++Tp,bW z (ar q)=true
 de:e∈lf\/eO (G.map ar) (S.map ar) (Tp.map ar) e
 dn:∀q∈G++Tp,∀z,bW z (ar q)=true->z∈lf\/eO (G.map ar) (S.map ar) (Tp.map ar) z
 ln:lf.length<=1+61*(G++Tp).length
theorem GH(h:eO G S T z):eO G S (T++[c]) z:=h.imp id λ⟨p,hp,e⟩=>⟨p,gC _ hp,e⟩
theorem Ki.Rp(h:Ki G S e (lf++[x]) Tp rs)(hc:eO (G.map ar) (S.map ar) (Tp.map ar) x):Ki G S e lf Tp rs:=by
 have lo:∀{z},z∈lf++[x]\/eO (G.map ar) (S.map ar) (Tp.map ar) z->z∈lf\/eO (G.map ar) (S.map ar) (Tp.map ar) z:=λ{z} q=>by
  rcases q with q|q
  ·rcases bF.mp q with q|q
   ·exact .inl q
   ·rw[bX.mp q];exact .inr hc
  ·exact .inr q
 exact⟨h.tc,h.sub,h.nd,λz hz=>h.lw z (gC _ hz),lo h.de,λq hq z hz=>lo (h.dn q hq z hz),by have:=h.ln;rw[cW]at this;omega⟩
theorem Ki.QW(h:Ki G S e (lf++[x]) Tp rs)(hg:cH (G.map ar) x=none)(hf:cH (S.map ar) x=some (ar p))(hp:p∈S)(n:p.name∉(G++Tp).map ah.name)(pb:n_ p)(et:ws=cn p (aG p.aI)):∃rs',Ki G S e (lf++ws) (Tp++[p]) rs':=by
 have ea:G++(Tp++[p])=(G++Tp)++[p]:=(tI ..).symm;have em:(Tp++[p]).map ar=Tp.map ar++[ar p]:=aY;have inn:∀{q},q∈G++Tp->q∈G++(Tp++[p]):=λ{q} hq=>by rw[ea];exact gC _ hq
 obtain⟨b,hb⟩:∃b,b=Str.ofString "" /\ x=e\/∃q∈G.map ar++Tp.map ar,q.1=b/\bW x q=true:=by
  rcases h.lw x (by simp) with q|⟨q,hq,w⟩
  ·exact⟨_,.inl ⟨rfl,q⟩⟩
  ·exact⟨q.name,.inr ⟨ar q,by rw[<-aY];exact aM.mpr ⟨q,hq,rfl⟩,rfl,w⟩⟩
 have lo:∀{z},z∈lf++[x]\/eO (G.map ar) (S.map ar) (Tp.map ar) z->z∈lf++ws\/eO (G.map ar) (S.map ar) ((Tp++[p]).map ar) z:=λ{z} q=>by
  rw[em];rcases q with q|q
  ·rcases bF.mp q with q|q
   ·exact .inl (gC _ q)
   ·rw[bX.mp q];exact .inr (.inr ⟨ar p,by simp,hf⟩)
  ·exact .inr (GH q)
 refine⟨rs++[(p.name,x,b)],?_,λq hq=>?_,?_,λz hz=>?_,lo h.de,λq hq z hz=>?_,?_⟩
 ·rw[em];refine h.tc.snoc (p:=ar p) hg hf (λq=>n ?_) hb;rw[aY];rw[ck]at q;exact gR _ q
 ·rcases bF.mp hq with y|y
  ·exact h.sub q y
  ·rw[bX.mp y];exact hp
 ·rw[ea,aY];exact f_.mpr ⟨h.nd,by simp,λa ha b hb z=>n (by rw[z,List.mem_singleton.mp hb]at ha;exact ha)⟩
 ·rcases bF.mp hz with y|y
  ·exact(h.lw z (gC _ y)).imp id λ⟨q,hq,w⟩=>⟨q,inn hq,w⟩
  ·rw[et]at y;exact .inr ⟨p,by simp,gT.mp y⟩
 ·rw[ea]at hq;rcases bF.mp hq with y|y
  ·exact lo (h.dn q y z hz)
  ·rw[bX.mp y]at hz;exact .inl (gR _ (by rw[et];exact gT.mpr hz))
 ·have h1:=h.ln;have h2:=fD pb;rw[ea,cW,cW (as:=G++Tp),et];rw[cW]at h1;simp only[List.length_singleton]at h1 ⊢;omega
theorem wu(h:p.name∉ps.map ah.name):putK (dX ps) (.inr p.name) p.v=dX (ps++[p]):=by
 unfold putK dX;rw[if_neg,aY];rfl;intro z;obtain⟨y,hy,e⟩:=lP.mp z;obtain⟨q,hq,rfl⟩:=aM.mp hy;exact h (aM.mpr ⟨q,hq,Sum.inr.inj (of_decide_eq_true e)⟩)
theorem gY:a8 (dX ps) (.inr z)=(fU ps z).map ah.v:=by
 unfold a8 dX fU;rw[Hs,Jr];have e:((λkv:Key×V=>decide (kv.1=(.inr z:Key))) ∘ λp:ah=>((.inr p.name:Key),p.v))=λq:ah=>decide (q.name=z):=by
  funext q;simp
 rw[e];rfl
theorem nM:fU ps z=none↔z∉ps.map ah.name:=by
 unfold fU;rw[v7];constructor
 ·intro h y;obtain⟨p,hp,e⟩:=aM.mp y;exact h p hp (decide_eq_true e)
 ·intro h p hp e;exact h (aM.mpr ⟨p,hp,of_decide_eq_true e⟩)
structure vZ(H H':Hp)(d l:Addr)(ps:List ah)(lf:List Str):Prop where
 sm:ay H H'
 hd:H d=none
 hl:H l=none
 dd:H' d=some (.dK (dX ps))
 ll:H' l=some (.lst (lf.map V.str))
theorem vZ.same(h:vZ H H' d l ps lf)(s:ay H' H''):vZ H H'' d l ps lf:=⟨h.sm.trans s,h.hd,h.hl,s _ _ h.dd,s _ _ h.ll⟩
theorem vZ.put(h:vZ H H' d l ps lf)(n:p.name∉ps.map ah.name):vZ H (upd H' d (.dK (putK (dX ps) (.inr p.name) p.v))) d l (ps++[p]) lf:=
 ⟨eR h.hd h.sm,h.hd,h.hl,by rw[aE,wu n],by rw[ae (bD h.ll h.dd (by intro z;cases z))];exact h.ll⟩
theorem vZ.cat(h:vZ H H' d l ps lf)(hq:H' q=none):vZ H (upd H' q (.lst (lf.map V.str++ws.map V.str))) d q ps (lf++ws):=
 ⟨h.sm.trans (aU hq),h.hd,eP h.sm hq,by rw[ae (bH h.dd hq)];exact h.dd,by rw[aE,aY]⟩
theorem vZ.pop(h:vZ H H' d l ps (lf++[x])):vZ H (upd H' l (.lst ((lf++[x]).map V.str).dropLast)) d l ps lf:=
 ⟨eR h.hl h.sm,h.hd,h.hl,by rw[ae (bD h.dd h.ll (by intro z;cases z))];exact h.dd,by rw[aE,aY];simp⟩
theorem k9:∀{l:List Nat},(∀x∈l,x<=61)->l.sum<=61*l.length
 |[],_=>bC _
 |x::l,h=>by
  have h1:=h x (by simp);have h2:=k9 (l:=l) λy hy=>h y (by simp[hy]);rw[List.sum_cons,je];omega
theorem BO{H:Hp}{l:Addr}{ss:List Str}(h:H l=some (.lst (ss.map V.str))):Rep K H (.lst (ss.map D.str)) (.ref l):=by
 simp only[Rep];exact⟨_,_,rfl,aD.of h,RepL.map λx _=>by simp[Rep]⟩
theorem II(h:H L=some (.lst [])):Rep K H (.lst []) (.ref L):=by
 simp only[Rep];exact⟨_,_,rfl,aD.of h,by simp[RepL]⟩
theorem Ji{α:Type}{f:α->D}:∀l:List α,deqL (l.map f) []=l.isEmpty
 |[]=>by simp[deqL]
 |x::l=>by simp[deqL]
theorem Qd(T:Txt K mg A):bg P w K mg base dm 3 A.NN A.qR ["_law_some", "_law_entry"] IV:=by
 refine T.yT.ok iq (λvs H Q E h=>?_) (λcdv Ar outer s H vs Q E hr h=>?_)
 ·obtain⟨S,a0,e,G,xs,rfl,_⟩:=h;rfl
 ·obtain⟨S,a0,e,G,xs,rfl,hS,bd,k⟩:=h;refine⟨_,(aQ (pS 2 iq.nd cF) (aQ (pS 3 iq.nd (a9 (aq (pv 1) aa))) (aQ (pF (eU (K:=K) rfl (bT (dR (K:=K) rfl) (pv 0) ag (λ_ _=>rfl))) (pn 4 iq.nd) (aQ (cR (a7 hr) (pv 2) (tx K (pv 4)) (pv 4) rfl) (bf (pS 3 iq.nd (aF (i8 (K:=K) rfl) (pv 3) (pC (JG T) hr T.De T.AI T.zi (aq (pv 4) aa))))))) (aQ (jc PassesOwn.never (fF (yy hr.units (K:=K) rfl) (pv 3) (a9 aa) (aS _)) (aQ (pS 4 iq.nd (pC (Qs T) hr T.Ju T.Ga T.CT (aq (pv 0) (aq (LK PySem.F.plainAttrs_list PySem.F.slot_list_pop PySem.F.type_list_pop LN (pv 3)) aa)))) (bf (bq (e8 (cZ (a7 hr) (tx K (pv 4)) (pv 2))) (aQ (cR (a7 hr) (pv 2) (tx K (pv 4)) (pv 4) rfl) (bf (pS 3 iq.nd (aF (i8 (K:=K) rfl) (pv 3) (pC (JG T) hr T.De T.AI T.zi (aq (pv 4) aa)))))) cI)))) (bf (aJ (pv 2))))))),?_⟩;walk_at "rd";refine λd h1=>⟨by rw[sizeLine_eq];decide,λl0 h2=>?_⟩;have s1:=aU (o:=HO.dK []) h1;have s2:=aU (o:=HO.lst [V.str e]) h2;have gi:vZ H (upd (upd H d (HO.dK [])) l0 (HO.lst [V.str e])) d l0 [] [e]:=⟨s1.trans s2,h1,eP s1 h2,s2 _ _ aE,aE⟩
  generalize upd (upd H d (HO.dK [])) l0 (HO.lst [V.str e])=H0 at *;have KC:iI (((a0,G)::xs).map λy=>V.ref y.1) 0=some (V.ref a0):=(show iI (V.ref a0::xs.map λy=>V.ref y.1) ((0:Nat):Int)=_ from cw rfl)
  have cy:=bd.cy;rw[cW]at cy;have pG:=hS.at_ (a0,G) lE;have bG:∀p∈G,n_ p:=λp hp=>bd.uW p (gC _ hp);have nb:=bd.nd;rw[aY]at nb;have nG:=(f_.mp nb).1;refine⟨_,aD.of (gi.sm _ _ hS.top),_,KC,?_⟩;refine dv.of (xs:=G.map ah.v) (λi σ H'=>∃(l:Addr) (b4:Option V),σ=[some (.ref S),some (.str e),some (.ref d),some (.ref l),b4]/\vZ H H' d l (G.take i) (e::(G.take i).flatMap λp=>cn p (aG p.aI)))
   ⟨l0,_,rfl,gi⟩ ?_ ?_ ?_
  ·rintro i σ H' hi ⟨l,b4,rfl,gi⟩;exact aD.of (gi.sm _ _ pG.top)
  ·rintro i v σ H' hv ⟨l,b4,rfl,gi⟩;walk_at "6";walk_at "7";have hm:=c_ hp;have il:=(ig.mp hp).1;have pa0:=pG.at_ p hm;have tk:G.take (i+1)=G.take i++[p]:=by rw[fX,hp];rfl
   have np:p.name∉(G.take i).map ah.name:=by
    have:(G.take (i+1)).map ah.name=(G.take i).map ah.name++[p.name]:=by rw[tk,aY];rfl
    have nd:((G.take (i+1)).map ah.name).Nodup:=by rw[List.map_take];exact nG.sublist (Kf _ _)
    rw[this]at nd;exact λz=>(f_.mp nd).2.2 _ z _ (by simp) rfl
   have ll:∀n,((G.take n).flatMap λp=>cn p (aG p.aI)).length<=61*14:=λn=>by
    rw[List.length_flatMap];refine f9 (k9 λx hx=>?_) ?_
    ·obtain⟨q,hq,rfl⟩:=aM.mp hx;exact fD (bG q (List.mem_of_mem_take hq))
    ·rw[az,jr];omega
   have ll1:=ll i;have wn:=fD (bG p hm);walk_at "rd";refine⟨_,aR.of (gi.sm _ _ pa0.top),_,rfl,_,eM.k (k:=.inr p.name) gi.dd (by unfold dX;rw[List.length_map,List.length_take,sizeLine_eq];omega),p,rfl,pa0.mono (gi.put np).sm,bG p hm,λw H2 s5 hw0 hw=>?_⟩;have g2:=(gi.put np).same s5;refine⟨_,aD.of g2.ll,_,aD.of hw,by rw[az,az,sizeLine_eq,je];omega,λq hq=>?_⟩;have:=g2.cat (ws:=cn p (aG p.aI)) hq;rw[tk,A3];simpa using this
  ·rintro σ H' ⟨l,b4,rfl,gi⟩;rw[az,iF]at gi;have wlen:(G.flatMap λp=>cn p (aG p.aI)).length<=61*G.length:=by
    rw[List.length_flatMap];refine f9 (k9 λx hx=>?_) ?_
    ·obtain⟨q,hq,rfl⟩:=aM.mp hx;exact fD (bG q hq)
    ·rw[az];omega
   have j0:Ki G (flat xs) e (e::G.flatMap λp=>cn p (aG p.aI)) [] []:=by
    refine⟨⟨List.nodup_nil,(λp hp=>by cases hp),rfl,(λi p r hp=>by cases hp)⟩,(λp hp=>by cases hp),by rw[uG];exact nG,λz hz=>?_,.inl lE,λq hq z hz=>.inl (ka _ (hW.mpr ⟨q,by rwa [uG]at hq,gT.mpr hz⟩)),?_⟩
    ·rcases iG.mp hz with q|q
     ·exact .inl q
     ·obtain⟨p,hp,y⟩:=hW.mp q;exact .inr ⟨p,by rw[uG];exact hp,gT.mp y⟩
    ·rw[uG,je];omega
   have g0:vZ H H' d l (G++[]) (e::G.flatMap λp=>cn p (aG p.aI)):=by rw[uG];exact gi
   walk_at "rd";refine⟨λm σ Hc=>∃(l:Addr) (lf:List Str) (Tp:List ah) (rs:List (Str×Str×Str)) (b4:Option V),σ=[some (.ref S),some (.str e),some (.ref d),some (.ref l),b4]/\vZ H Hc d l (G++Tp) lf/\Ki G (flat xs) e lf Tp rs/\m=62*(17 - Tp.length)+lf.length,
    ⟨_,l,_,[],[],_,rfl,g0,j0,rfl⟩,?_⟩
   rintro m σ Hc ⟨l,lf,Tp,rs,b4,rfl,gi,gj,em⟩;have tl:Tp.length<=14:=by
    have:=yn bd gj.tc
    rwa [az]at this
   have ln:=gj.ln;rw[cW]at ln;walk_at "rd";refine⟨fe _,λq hq=>?_⟩;have sq:=aU (o:=HO.lst []) hq;have g1:=gi.same sq;have q1:upd Hc q (HO.lst []) q=some (HO.lst []):=aE;generalize upd Hc q (HO.lst [])=H1 at *;refine⟨_,_,.inl ⟨BO g1.ll,II q1⟩,f9 (dH (n:=1) λs _=>by simp[dep]) (by decide),_,rfl,?_⟩;rw[Ji];rcases List.eq_nil_or_concat lf with rfl|⟨lf',x,ex⟩
   ·rw[if_neg (by decide)];refine k d Tp rs H1 g1.sm g1.hd g1.dd gj.sub gj.tc ⟨gj.de.elim (λz=>by cases z) id,λq hq z hz=>?_⟩;rw[<-aY]at hq;obtain⟨p,hp,rfl⟩:=aM.mp hq;exact(gj.dn p hp z hz).elim (λz=>by cases z) id
   ·rw[List.concat_eq_append]at ex;subst ex;rw[if_pos (by simp)];have gl:((lf'++[x]).map V.str)[((lf'++[x]).map V.str).length - 1]?=some (V.str x):=by
     rw[aY,cW,List.map_singleton,JK,Nat.add_sub_cancel,H_ (bC _),Nat.sub_self];rfl
    have g2:=g1.pop;rw[cW]at ln em;simp only[List.length_singleton]at ln em;have mx:BP (G.map ar) ((flat xs).map ar) x:=by
     rcases gj.lw x (by simp) with rfl|⟨q,hq,w⟩
     ·exact bd.ent
     ·exact bd.met q ((bF.mp hq).elim (gC _) λy=>gR _ (gj.sub q y)) x w
    refine⟨_,λσ' H' h=>h,.inl ⟨rfl,_,aD.of g1.ll⟩,_,g1.ll,_,gl,?_⟩;refine⟨x,rfl,(a0,G)::xs,kU hS g2.sm,(λp hp=>bd.uW p hp),λH3 s3=>?_⟩;have g3:=g2.same s3;cases q:bo (flat ((a0,G)::xs)) x with
    |none=>exact absurd mx (ny.1 q)
    |some p=>
     have pin:p∈G++flat xs:=qw q;have pb:=bd.uW p pin;have pa:=EW hS p pin;have ft:=ny.2 p q;refine⟨p.t,rfl,_,aR.of (g3.sm _ _ pa.top),_,rfl,_,bx.k (k:=Sum.inr p.name) g3.dd,?_⟩;rw[gY];by_cases hin:p.name∈(G++Tp).map ah.name
     ·rw[if_neg (by
       cases y:fU (G++Tp) p.name with
       |none=>exact absurd hin (nM.mp y)
       |some r=>simp)]
      refine⟨_,?_,l,lf',Tp,rs,_,rfl,g3,gj.Rp ?_,rfl⟩
      ·omega
      ·rcases ft with ⟨h1,_⟩|⟨h1,h2,hpS⟩
       ·exact .inl (by rw[h1];rfl)
       ·obtain⟨r,hr,er⟩:=aM.mp hin;have hrS:r∈G++flat xs:=(bF.mp hr).elim (gC _) λy=>gR _ (gj.sub r y);have e:=vv bd.nd hrS pin er;subst e;rcases bF.mp hr with y|y
        ·exact absurd (GD q) (v7.mp h1 (ar r) (aM.mpr ⟨r,y,rfl⟩))
        ·exact .inr ⟨ar r,aM.mpr ⟨r,y,rfl⟩,h2⟩
     ·rw[if_pos (by rw[nM.mpr hin];rfl)];have wn:=fD pb;have tl2:=cy;refine⟨p.t,rfl,_,aR.of (g3.sm _ _ pa.top),_,rfl,_,eM.k (k:=.inr p.name) g3.dd (by unfold dX;rw[List.length_map,List.length_append,sizeLine_eq];omega),p,rfl,pa.mono (g3.put hin).sm,pb,λw H4 s5 hw0 hw=>?_⟩;have g4:=(g3.put hin).same s5;refine⟨_,aD.of g4.ll,_,aD.of hw,by rw[az,az,sizeLine_eq];omega,λq' hq'=>?_⟩;rcases ft with ⟨h1,hpG⟩|⟨h1,h2,hpS⟩
      ·exact absurd (aM.mpr ⟨p,gC _ hpG,rfl⟩) hin
      ·obtain⟨rs',gj'⟩:=gj.QW h1 h2 hpS hin pb rfl;have g5:=g4.cat (ws:=cn p (aG p.aI)) hq';rw[tI]at g5;refine⟨_,?_,q',_,Tp++[p],rs',_,rfl,g5,gj',rfl⟩;have tl3:=yn bd gj'.tc;rw[az,cW]at tl3;rw[cW,cW (as:=lf'),JK];simp only[List.length_singleton]at tl3;omega
theorem i_{α β:Type}{f:α->β}:∀{ss:List β}{ps:List α},ss.Perm (ps.map f)->∃so:List α,so.Perm ps/\so.map f=ss
 |[],ps,h=>by
  have:=h.length_eq;rw[az]at this;exact⟨[],by rw[List.length_eq_zero_iff.mp this.symm],rfl⟩
 |z::r,ps,h=>by
  obtain⟨p,hp,e⟩:=aM.mp (h.mem_iff.mp lE);obtain⟨a,b,rfl⟩:=List.append_of_mem hp;have h2:(z::r).Perm (z::(a++b).map f):=by
   refine h.trans ?_;rw[aY,fH,e,aY];exact List.perm_middle
  obtain⟨so,q1,q2⟩:=i_ (List.Perm.cons_inv h2);exact⟨p::so,(q1.cons p).trans List.perm_middle.symm,by rw[fH,q2,e]⟩
theorem eQ.iff(h:eQ R ms)(e:∀r,r∈R↔r∈R'):eQ R' ms:=by
 refine⟨h.nd,λz m hm=>?_,λz hz r hr=>h.bj z hz r ((e r).mpr hr)⟩;rcases h.MM z m hm with ⟨r,hr,q⟩|⟨no,r,hr,q1,q2,q3,q4⟩
 ·exact .inl ⟨r,(e r).mp hr,q⟩
 ·exact .inr ⟨λr hr=>no r ((e r).mpr hr),r,(e r).mp hr,q1,q2,q3,λr' hr'=>q4 r' ((e r').mpr hr')⟩
theorem N7(T:Txt K mg A):bg P w K mg base dm 1 A.NK A.sV ["_law_there"] BR:=by
 refine T.xZ.ok fK (λvs H Q E h=>?_) (λcdv Ar outer s H vs Q E hr h=>?_)
 ·obtain⟨d0,ps,rfl,_⟩:=h;rfl
 ·obtain⟨d0,ps,rfl,hD,hJ,k⟩:=h;refine⟨_,(aQ (pS 1 fK.nd cF) (aQ (pS 2 fK.nd cF) (aQ (pF (eU (K:=K) rfl (eh (iM rfl) (by rfl) T.cQ ff (aq (pv 0) aa))) (pn 3 fK.nd) (bf (pF (eU (K:=K) rfl (tx K (bU (a7 hr) (pv 0) (pv 3) (λ_ _=>rfl)))) (bN (K:=K) (n:=4) rfl rfl (cT (pn 4 fK.nd) (cT (pn 5 fK.nd) (cT (pn 6 fK.nd) (cT (pn 7 fK.nd) bL))))) (aQ (bq (fF dZ (pv 5) a5 (aS _)) (bf (cR (a7 hr) (pv 1) (pv 4) (aX (aq (pv 3) (aq (pv 6) (aq (pv 7) aa)))) rfl)) cI) (bf (bq (PW.pt (gE (fF dZ (pv 5) a5 (aS _)) (fR (e8 (cZ (a7 hr) (pv 4) (pv 2)))))) (bf (cR (a7 hr) (pv 2) (pv 4) (aX (aq (pv 3) (aq (pv 6) (aq (pv 7) aa)))) rfl)) cI)))))) (aQ (pF (oO (pv 2)) (pn 4 fK.nd) (bf (bq (e8 (cZ (a7 hr) (pv 4) (pv 1))) (bf (cR (a7 hr) (pv 1) (pv 4) (bU (a7 hr) (pv 2) (pv 4) (λ_ _=>rfl)) rfl)) cI))) (bf (aJ (pv 1))))))),?_⟩;walk_at "rd";intro d hd e he;obtain⟨ned,he'⟩:=cG he;have s0:ay H (upd (upd H d (.dK [])) e (.dK [])):=(aU hd).trans (aU he);have fewP:=hD.cy;refine⟨_,s0 _ _ hD.top,ps.map ah.name,by unfold dX;rw[List.map_map,List.map_map];rfl,by rw[List.length_map];omega,λl ss hl pm0 pw=>?_⟩;obtain⟨so,pm,rfl⟩:=i_ pm0
  have sl:ay H (upd (upd (upd H d (.dK [])) e (.dK [])) l (.lst ((so.map ah.name).map V.str))):=s0.trans (aU hl);have cy:so.length<=14:=by rw[pm.length_eq];exact hD.cy
  have l0:upd (upd (upd H d (.dK [])) e (.dK [])) l (.lst ((so.map ah.name).map V.str)) l=some (.lst ((so.map ah.name).map V.str)):=aE;have d0':upd (upd (upd H d (.dK [])) e (.dK [])) l (.lst ((so.map ah.name).map V.str)) d=some (.dK []):=aU hl _ _ (aU he _ _ aE);have e0':upd (upd (upd H d (.dK [])) e (.dK [])) l (.lst ((so.map ah.name).map V.str)) e=some (.dK []):=aU hl _ _ aE;have nl:H l=none:=eP s0 hl;have nel:e≠l:=bD e0' l0 (by intro z;cases z);have ndl:d≠l:=bD d0' l0 (by intro z;cases z);generalize upd (upd (upd H d (.dK [])) e (.dK [])) l (.lst ((so.map ah.name).map V.str))=H0 at *;refine dv.of (xs:=(so.map ah.name).map V.str) (λi σ H'=>∃(du wk:List ao) (b3 b4 b5 b6 b7:Option V),σ=[some (.ref d0),some (.ref d),some (.ref e),b3,b4,b5,b6,b7]/\ay H H'/\H' l=some (.lst ((so.map ah.name).map V.str))/\Tab H' d du/\Tab H' e wk/\du.length<=61*i/\wk.length<=61*i/\v3 (bQ (so.take i)) du wk)
   ⟨[],[],_,_,_,_,_,rfl,sl,l0,⟨d0',λm hm=>by cases hm⟩,⟨e0',λm hm=>by cases hm⟩,by simp,by simp,⟨by simp,by simp,(λz m hm=>by cases hm),(λz _ r hr=>by simp[bQ]at hr),(λz m hm=>by cases hm),(λz _ r hr=>by simp[bQ]at hr)⟩⟩ ?_ ?_ ?_
  ·rintro i σ H' hi ⟨du,wk,b3,b4,b5,b6,b7,rfl,s1,ll,_⟩;exact aD.of ll
  ·rintro i v σ H' hv ⟨du,wk,b3,b4,b5,b6,b7,rfl,s1,ll,td,te,ld,lw,I⟩;rw[gh,gh]at hv;obtain⟨z,hz,rfl⟩:=d_.mp hv;obtain⟨p,hp,rfl⟩:=d_.mp hz;have hmo:=c_ hp;have hm:=pm.mem_iff.mp hmo;have il:=(ig.mp hp).1;have pa:=(hD.at_ p hm).mono s1;have pn:=(hD.uW p hm).nm;have tk:bQ (so.take (i+1))=bQ (so.take i)++p.aK.map λn=>(p.name,n):=by
    unfold bQ;rw[fX,hp,A3];simp
   have ahead:∀q∈so.take i,¬p.name.cps.toList<q.name.cps.toList:=λq hq=>by
    obtain⟨a,ha,rfl⟩:=wm hq;have hai:a<i:=by rw[jr]at ha;omega
    have:=BZ.mp pw a i (by rw[az];omega) (by rw[az];exact il) hai;rw[nO,nO,(ig.mp hp).2]at this;rw[List.getElem_take];exact List.not_lt.mpr this
   walk_at "rd";have dg:bx H' d0 (V.str p.name) (some p.v):=by
    have:=bx.k (k:=.inr p.name) (s1 _ _ hD.top);rw[gY,gJ hD.nd hm]at this;exact this
   refine⟨_,dg,_,rfl,_,aR.of pa.top,_,rfl,?_⟩;refine dv.of (xs:=p.aK.map aj.v) (λj σ H2=>∃(du wk:List ao) (b4 b5 b6 b7:Option V),σ=[some (.ref d0),some (.ref d),some (.ref e),some (.str p.name),b4,b5,b6,b7]/\ay H H2/\H2 l=some (.lst ((so.map ah.name).map V.str))/\Tab H2 d du/\Tab H2 e wk/\du.length<=61*i+j/\wk.length<=61*i+j/\v3 (bQ (so.take i)++(p.aK.take j).map λn=>(p.name,n)) du wk)
    ⟨du,wk,_,_,_,_,rfl,s1,ll,td,te,ld,lw,by simpa using I⟩ ?_ ?_ ?_
   ·rintro j σ H2 hj ⟨du,wk,b4,b5,b6,b7,rfl,s2,_⟩;exact aD.of (s2 _ _ (hD.at_ p hm).nl)
   ·rintro j v σ H2 hv ⟨du,wk,b4,b5,b6,b7,rfl,s2,ll,td,te,ld,lw,I⟩;walk_at "6";obtain⟨n,hn,rfl⟩:=d_.mp hv;have jl:=(ig.mp hn).1;have na:=s2 _ _ ((hD.at_ p hm).ns n (c_ hn));have tj:bQ (so.take i)++((p.aK.take (j+1)).map λn=>(p.name,n))=(bQ (so.take i)++(p.aK.take j).map λn=>(p.name,n))++[(p.name,n)]:=by rw[fX,hn,aY,tI];rfl
    rw[tj];have nde:d≠e:=Ne.symm ned;have keepL:∀{H3:Hp}{x t y:Addr}{v:V}{o:HO},H2 t=none->eM (upd H2 t o) x (V.str n.name) v H3->x=d\/x=e->H3 l=some (.lst ((so.map ah.name).map V.str)):=λ{H3 x t y v o} ht hp hx=>by
     have h0:=aU (o:=o) ht _ _ ll;rcases hp with ⟨af,kk,h1,_,_,rfl⟩|⟨_,_,_,_,z,_⟩
     ·rw[ae (bD h0 h1 (by intro z;cases z))];exact h0
     ·cases z
    walk_at "rd";refine⟨_,aR.of na,rfl,_,_,rfl,_,_,rfl,_,_,rfl,_,_,rfl,rfl,rfl,?_⟩;by_cases st:n.sort=cg
    ·rw[decide_eq_true (show V.str n.sort=V.str (Str.ofString "tell") from congrArg V.str st),if_pos rfl];refine⟨by rw[sizeLine_eq];decide,λt ht=>?_⟩;obtain⟨H3,q1,q2,q3,q4⟩:=Ax (r:=(p.name,n)) s2 hd nde td te ht (by omega);refine⟨H3,q1,rfl,?_⟩;rw[decide_eq_false (show ¬V.str n.sort=V.str (Str.ofString "weak") from λq=>dD (st.symm.trans (V.str.inj q))),if_neg (by decide)];exact⟨q2,keepL (y:=d) ht q1 (.inl rfl),_,q3,wk,q4,by have:=iL (ms:=du) (m:=mi t (p.name,n));omega,by omega,I.tell st⟩
    ·rw[decide_eq_false (show ¬V.str n.sort=V.str (Str.ofString "tell") from λq=>st (V.str.inj q)),if_neg (by decide)];refine⟨rfl,?_⟩;by_cases sw:n.sort=cO
     ·rw[decide_eq_true (show V.str n.sort=V.str (Str.ofString "weak") from congrArg V.str sw),if_pos rfl];cases hl:aB wk n.name with
      |none=>
       refine⟨none,.inl ⟨_,.inr n.name,.inl te.top,rfl,by rw[lO,hl];rfl⟩,?_⟩;rw[if_pos (by simp)];refine⟨by rw[sizeLine_eq];decide,λt ht=>?_⟩;obtain⟨H3,q1,q2,q3,q4⟩:=Ax (r:=(p.name,n)) s2 he' ned te td ht (by omega);exact⟨H3,q1,q2,keepL (y:=d) ht q1 (.inr rfl),du,q4,_,q3,by omega,by have:=iL (ms:=wk) (m:=mi t (p.name,n));omega,I.Pu sw λm hm=>by rw[show((p.name,n):Str×aj).2.name=n.name from rfl,hl]at hm;cases hm⟩
      |some m0=>
       have vm:a8 (wk.map ao.kv) (.inr n.name)=some (.ref m0.t):=by rw[lO,hl];rfl
       refine⟨some (.ref m0.t),.inl ⟨_,.inr n.name,.inl te.top,rfl,vm.symm⟩,?_⟩;rw[if_neg (by simp)];refine⟨s2,ll,du,td,wk,te,by omega,by omega,I.OT sw hl ?_⟩;obtain⟨r,hr,_,_,y,_⟩:=I.ws _ _ hl;rw[show m0.a=r.1 from congrArg (·.1) y];rcases bF.mp hr with z|z
       ·obtain⟨q,hq,q1,_⟩:=bu.mp z;rw[<-q1];exact ahead q hq
       ·obtain⟨_,_,rfl⟩:=aM.mp z;exact List.lt_irrefl _
     ·rw[decide_eq_false (show ¬V.str n.sort=V.str (Str.ofString "weak") from λq=>sw (V.str.inj q)),if_neg (by decide)];exact⟨s2,ll,du,td,wk,te,by omega,by omega,I.other st sw⟩
   ·rintro σ H2 ⟨du,wk,b4,b5,b6,b7,rfl,s2,ll,td,te,ld,lw,I⟩;rw[az,iF]at I;rw[az]at ld lw;exact⟨du,wk,_,_,_,_,_,rfl,s2,ll,td,te,by omega,by omega,by rw[tk];exact I⟩
  ·rintro σ H' ⟨du,wk,b3,b4,b5,b6,b7,rfl,s1,ll,td,te,ld,lw,I⟩;rw[az,az,iF]at I;rw[az,az]at ld lw;walk_at "rd";refine Cr.of te.top (λo j σ H2=>∃(du':List ao) (b4:Option V),σ=[some (.ref d0),some (.ref d),some (.ref e),b3,b4,b5,b6,b7]/\ay H H2/\H2 e=some (.d9 o (.dK (wk.map ao.kv)))/\(∀m∈wk,ao.At H2 m)/\Tab H2 d du'/\du'.length<=61*14+j/\(du'.map ao.name).Nodup/\∀z,aB du' z=(aB du z).or (aB (wk.take j) z)) ?_ ?_ ?_ ?_
   ·intro o;have nf:∀x u,x≠e->H' x=some u->upd H' e (.d9 o (.dK (wk.map ao.kv))) x=some u:=λx u ne q=>by rw[ae ne];exact q
    refine⟨du,_,rfl,λx u q=>nf x u (bH q he') (s1 _ _ q),aE,λm hm=>nf _ _ (bD (te.at_ m hm) te.top (by intro z;cases z)) (te.at_ m hm),⟨nf _ _ (Ne.symm ned) td.top,λm hm=>nf _ _ (bD (td.at_ m hm) te.top (by intro z;cases z)) (td.at_ m hm)⟩,by omega,I.nd,λz=>by simp[aB]⟩
   ·rintro o j σ H2 hj ⟨du',b4,rfl,s2,hz,_⟩;exact hz
   ·rintro o j pr σ H2 hv ⟨du',b4,rfl,s2,hz,aw,td',ld',nd',look⟩;walk_at "6";obtain⟨m,hj,rfl⟩:=d_.mp hv;have jl:=(ig.mp hj).1;have mm:=c_ hj;walk_at "rd";have tk:∀z,aB (wk.take (j+1)) z=(aB (wk.take j) z).or (if m.name=z then some m else none):=λz=>by
     unfold aB;rw[fX,hj,IY];congr 1;show [m].find? _=_;rw[BY];by_cases q:m.name=z
     ·rw[if_pos q,decide_eq_true q]
     ·rw[if_neg q,decide_eq_false q];rfl
    have ntk:aB (wk.take j) m.name=none:=by
     cases q:aB (wk.take j) m.name with
     |none=>rfl
     |some m'=>
      have nd':((wk.take (j+1)).map ao.name).Nodup:=List.Nodup.sublist (List.Sublist.map _ (Kf _ _)) I.nw;rw[fX,hj,aY]at nd';exact absurd (of_decide_eq_true (GD (p:=λn:ao=>decide (n.name=m.name)) q)) ((f_.mp nd').2.2 _ (aM.mpr ⟨m',qw q,rfl⟩) _ (by simp))
    cases hl:aB du' m.name with
    |none=>
     refine⟨none,.inl ⟨_,.inr m.name,.inl td'.top,rfl,by rw[lO,hl];rfl⟩,?_⟩;rw[if_pos (by simp)];have vm:a8 (wk.map ao.kv) (.inr m.name)=some (.ref m.t):=by rw[lO,Bj I.nw mm];rfl
     have nde:d≠e:=Ne.symm ned;have nf:∀x u,x≠d->H2 x=some u->upd H2 d (.dK (putK (du'.map ao.kv) (.inr m.name) (.ref m.t))) x=some u:=λx u ne q=>by rw[ae ne];exact q
     refine⟨_,.inl ⟨_,.inr m.name,.inr ⟨o,hz⟩,rfl,vm.symm⟩,_,eM.k (k:=.inr m.name) td'.top (by rw[az,sizeLine_eq];omega),eR hd s2,nf _ _ ned hz,λx hx=>nf _ _ (bD (aw x hx) td'.top (by intro z;cases z)) (aw x hx),d7 du' m,td'.put (aw m mm),by have:=iL (ms:=du') (m:=m);omega,sQ nd',λz=>?_⟩;rw[fu,tk z];by_cases q:m.name=z
     ·rw[if_pos q,if_pos q,<-q];rw[look m.name,Qz]at hl;rw[hl.1,hl.2];rfl
     ·rw[if_neg q,if_neg q,look z,Option.or_none]
    |some m'=>
     refine⟨some (.ref m'.t),.inl ⟨_,.inr m.name,.inl td'.top,rfl,by rw[lO,hl];rfl⟩,?_⟩;rw[if_neg (by simp)];refine⟨s2,hz,aw,du',td',by omega,nd',λz=>?_⟩;rw[look z,tk z];by_cases q:m.name=z
     ·rw[if_pos q,<-q];rw[look m.name,ntk,Option.or_none]at hl;rw[hl,ntk];rfl
     ·rw[if_neg q,Option.or_none]
   ·rintro o σ H2 ⟨du',b4,rfl,s2,hz,aw,td',ld',nd',look⟩;walk_at "rd";refine k d du' H2 s2 hd td' ((I.done nd' λz=>?_).iff λr=>?_)
    rotate_left
    ·rw[bu,bu];constructor<;>rintro⟨p,hp,q⟩
     ·exact⟨p,pm.mem_iff.mp hp,q⟩
     ·exact⟨p,pm.mem_iff.mpr hp,q⟩
    rw[look z,az,iF]
noncomputable def uK(p:ah)(mn:List ao)(f:ax)(i:Nat):Option (Str×Int×Int):=bJ { p with aK:=p.aK.take i } mn f
theorem BS(e:(p.aK.find? λn=>decide (n.name=f.name)&&decide (n.sort=cS))=q.aK.find? λn=>decide (n.name=f.name)&&decide (n.sort=cS))(en:p.name=q.name):bJ p mn f=bJ q mn f:=by unfold bJ;rw[e,en]
theorem IX(e:(p.aK.find? λn=>decide (n.name=f.name)&&decide (n.sort=cS))=some n):bJ p mn f=some (p.name,n.st,n.off):=by unfold bJ;rw[e]
def SI(H:Hp)(x:Option (Str×Int×Int))(v:V):Prop:=(∃a b c q,x=some (a,b,c)/\v=.ref q/\H q=some (.tup [.str a,.int b,.int c]))\/(x=none/\v=.bj)
theorem Pt(T:Txt K mg A):bg P w K mg base dm 1 A.Qq A.oE ["_law_piece", "_law_due", "_law_fill"] G5:=by
 refine T.zw.ok iE (λvs H Q E h=>?_) (λcdv Ar outer s H vs Q E hr h=>?_)
 ·obtain⟨p,dN,f,mn,rfl,_⟩:=h;rfl
 ·obtain⟨p,dN,f,mn,rfl,pa,pb,fa,tb,k1,k2⟩:=h;refine⟨_,(aQ (pS 3 iE.nd (vR (a7 hr) (pv 1) (tx K (pv 2)) ⟨rfl,rfl,rfl,rfl⟩)) (aQ (pF (eU (K:=K) rfl (tx K (pv 0))) (bN (K:=K) (n:=4) rfl rfl (cT (pn 4 iE.nd) (cT (pn 5 iE.nd) (cT (pn 6 iE.nd) (cT (pn 7 iE.nd) bL))))) (bf (bq (PW.pt (gE (fF dZ (pv 4) (tx K (pv 2)) (aS _)) (fR (fF dZ (pv 5) a5 (aS _))))) (bf (pS 3 iE.nd (aX (aq (tx K (pv 0)) (aq (pv 6) (aq (pv 7) aa)))))) cI))) (aQ (bq (fF Mp (pv 3) fW (aS _)) (bf (aJ fW)) cI) (bf (aJ (aX (aq (tx K (pv 3)) (aq (tx K (pv 3)) (aq (aF dw (tx K (pv 3)) (tx K (pv 2))) aa))))))))),?_⟩;walk_at "rd";have g0:=bx.k (k:=.inr f.name) tb.top;refine⟨.inl ⟨_,.inl tb.top⟩,_,aR.of fa,_,rfl,_,g0,_,aR.of pa.top,_,rfl,?_⟩;have v0:SI H (uK p mn f 0) ((a8 (mn.map ao.kv) (.inr f.name)).getD .bj):=by
   rw[lO];cases q:aB mn f.name with
   |none=>exact .inr ⟨by unfold uK bJ;simp[q],rfl⟩
   |some m=>exact .inl ⟨m.a,m.b,m.c,m.t,by unfold uK bJ;simp[q],rfl,tb.at_ m (tq q)⟩
  refine dv.of (xs:=p.aK.map aj.v) (λi σ H'=>∃(v:V) (b4 b5 b6 b7:Option V),σ=[some p.v,some (.ref dN),some f.v,some v,b4,b5,b6,b7]/\ay H H'/\SI H' (uK p mn f i) v)
   ⟨_,_,_,_,_,rfl,λ_ _ e=>e,v0⟩ ?_ ?_ ?_
  ·rintro i σ H' hi ⟨v,b4,b5,b6,b7,rfl,s1,_⟩;exact aD.of (s1 _ _ pa.nl)
  ·rintro i u σ H' hv ⟨v,b4,b5,b6,b7,rfl,s1,sv⟩;walk_at "6";obtain⟨n,hn,rfl⟩:=d_.mp hv;have na:=s1 _ _ (pa.ns n (c_ hn));have tk:p.aK.take (i+1)=p.aK.take i++[n]:=by rw[fX,hn];rfl
   walk_at "rd";refine⟨_,aR.of na,rfl,_,_,rfl,_,_,rfl,_,_,rfl,_,_,rfl,rfl,_,aR.of (s1 _ _ fa),_,rfl,rfl,?_⟩;have skip:(decide (n.name=f.name)&&decide (n.sort=cS))=false->uK p mn f (i+1)=uK p mn f i:=λh=>by
    refine BS ?_ rfl;show(p.aK.take (i+1)).find? _=(p.aK.take i).find? _;rw[tk,IY,BY,h];simp
   by_cases en:n.name=f.name
   ·rw[if_pos (decide_eq_true (congrArg V.str en))];refine⟨rfl,?_⟩;by_cases es:n.sort=cS
    ·rw[if_pos (decide_eq_true (show V.str n.sort=V.str (Str.ofString "own") from congrArg V.str es))];refine⟨_,aR.of (s1 _ _ pa.top),_,rfl,by walk_at "s", λq hq=>⟨s1.trans (aU hq),.inl ⟨p.name,n.st,n.off,q,?_,rfl,aE⟩⟩⟩;have nf:(p.aK.take i).find? (λn=>decide (n.name=f.name)&&decide (n.sort=cS))=none:=by
      refine v7.mpr λm hm hh=>?_;rw[lN]at hh;have nd:((p.aK.take (i+1)).map aj.name).Nodup:=by rw[List.map_take];exact pb.nd.sublist (Kf _ _)
      rw[tk,aY]at nd;exact(f_.mp nd).2.2 _ (aM.mpr ⟨m,hm,rfl⟩) n.name (by simp) ((of_decide_eq_true hh.1).trans en.symm)
     refine IX (p:={ p with aK:=p.aK.take (i+1) }) ?_;show(p.aK.take (i+1)).find? _=_;rw[tk,IY,nf,BY,decide_eq_true en,decide_eq_true es];rfl
    ·rw[if_neg (λz=>es (V.str.inj (of_decide_eq_true (p:=V.str n.sort=V.str (Str.ofString "own")) z)))];exact⟨s1,by rw[skip (by rw[decide_eq_false es,Bool.and_false])];exact sv⟩
   ·rw[if_neg (λz=>en (V.str.inj (of_decide_eq_true z)))];exact⟨s1,by rw[skip (by rw[decide_eq_false en,Bool.false_and])];exact sv⟩
  ·rintro σ H' ⟨v,b4,b5,b6,b7,rfl,s1,sv⟩;rw[az]at sv;have er:uK p mn f p.aK.length=bJ p mn f:=by unfold uK;rw[List.take_length]
   rw[er]at sv;walk_at "rd";rcases sv with ⟨a,b,c,q,e1,rfl,e3⟩|⟨e1,rfl⟩
   ·rw[if_neg (by simp)];exact⟨_,rfl,_,aR.of e3,_,rfl,_,rfl,_,aR.of e3,_,rfl,_,rfl,_,aR.of e3,_,rfl,_,aR.of (s1 _ _ fa),_,rfl,_,rfl,_,rfl,by walk_at "s", λt ht=>k1 a b c e1 t _ (s1.trans (aU ht)) aE⟩
   ·rw[if_pos (by simp)];exact k2 e1 H' s1
theorem NI(T:Txt K mg A):bg P w K mg base dm 2 A.Qu A.rD ["_law_there", "_law_due", "_law_root"] DK:=by
 refine T.zq.ok iw (λvs H Q E h=>?_) (λcdv Ar outer s H vs Q E hr h=>?_)
 ·obtain⟨d,dS,R,ps,mn,r,rfl,_⟩:=h;rfl
 ·obtain⟨d,dS,R,ps,mn,r,rfl,hD,hT,hR,hrm,all,hvA,k⟩:=h;refine⟨_,(aQ (pS 3 iw.nd (a9 (aq (pv 2) aa))) (aQ (pS 4 iw.nd ag) (aQ (jc PassesOwn.never (fF jS (pv 4) (eh (j8 (K:=K) rfl) (by rfl) T.dJ dj (aq (pv 3) aa)) (aS _)) (aQ (pS 5 iw.nd (bU (a7 hr) (pv 0) (tx K (bT (dR (K:=K) rfl) (pv 3) (pv 4) (λ_ _=>rfl))) (λ_ _=>rfl))) (aQ (pF (eU (K:=K) rfl (tx K (bT (dR (K:=K) rfl) (tx K (pv 5)) (tx K (bT (dR (K:=K) rfl) (pv 3) (pv 4) (λ_ _=>rfl))) (λ_ _=>rfl)))) (pn 6 iw.nd) (aQ (pS 7 iw.nd (pC (Pt T) hr T.K0 T.Gj T.GB (aq (pv 5) (aq (pv 1) (aq (pv 6) aa))))) (bf (bq (PW.pt (gE (fF pV (pv 7) fW (aS _)) (fR (fF (k8 hr.units (K:=K) rfl) (c9 (i5 (K:=K) rfl) (pv 7) eV (dI ag)) (pv 3) (by with_unfolding_all rfl))))) (bf (dY (cJ (pv 3) (aq (c9 (i5 (K:=K) rfl) (pv 7) eV (dI ag)) aa)))) cI)))) (bf (pS 4 iw.nd (aF dw (pv 4) ag)))))) (bf (aJ (pv 3)))))),?_⟩;walk_at "rd";refine⟨by rw[sizeLine_eq];decide,λl hl=>?_⟩;have nd:=hD.nd;have s1:ay H H:=λ_ _ e=>e;have s2:=aU (o:=HO.lst [V.ref R]) hl;have e2:upd H l (HO.lst [V.ref R]) l=some (HO.lst [V.ref R]):=aE;have fl:H l=none:=eP s1 hl;generalize upd H l (HO.lst [V.ref R])=H2 at s2 e2 ⊢
  refine⟨λm σ Hc=>∃(dn:Nat) (ks:List (Addr×K2)) (ws:List Wy) (b5 b6 b7:Option V),σ=[some (.ref d),some (.ref dS),some (.ref R),some (.ref l),some (.int dn),b5,b6,b7]/\(∀b o,b≠l->H b=some o->Hc b=some o)/\A4 Hc l ks/\ks.map (·.2)=ws.map Wy.key/\zS ps ws/\m+dn=(aC ps).length+1/\dn<=ws.length/\reachF ps mn m dn ws=bV ps mn r,
   ⟨(aC ps).length+1,0,[(R,r)],[⟨r,none⟩],_,_,_,rfl,λb o _ e=>s2 _ _ e,⟨e2,λk hk=>by rw[bX.mp hk];exact s2 _ _ (s1 _ _ hR)⟩,rfl,⟨by simp,λw hw=>by rw[List.mem_singleton.mp hw];exact hrm⟩,rfl,Nat.zero_le _,rfl⟩,?_⟩
  rintro m σ Hc ⟨dn,ks,ws,b5,b6,b7,rfl,fr,ky,ek,ok,hm,hdn,hreach⟩;have kl:ks.length=ws.length:=by have:=congrArg List.length ek;rwa [az,az]at this
  have wl:=ok.len;walk_at "rd";refine⟨ks.length,.inl ⟨_,aD.of ky.top,by rw[az]⟩,dM (λhlt=>?_) (λhge=>?_)⟩
  ·have hlt:dn<ks.length:=by have:=of_decide_eq_true hlt;omega
   obtain⟨m',rfl⟩:∃m',m=m'+1:=⟨m - 1,by omega⟩
   have hrow:ks[dn]?=some ks[dn]:=jo hlt;have hmem:ks[dn]∈ks:=uJ hlt;generalize ks[dn]=row at hrow hmem;obtain⟨wy,hwy,ekey⟩:∃wy,ws[dn]?=some wy/\wy.key=row.2:=by
    have e1:(ks.map (·.2))[dn]?=some row.2:=by rw[gh,hrow];rfl
    rw[ek,gh]at e1;obtain⟨wy,h1,h2⟩:=d_.mp e1;exact⟨wy,h1,h2⟩
   have hk:row.2∈aC ps:=by rw[<-ekey];exact ok.Lp _ (c_ hwy)
   obtain⟨p,hp,hpn,j,hj,hjl⟩:=gX hk;have off:∀{b:Addr}{o:HO},H b=some o->Hc b=some o:=λ{b o} e=>fr b o (bH e fl) (s1 _ _ e);have sc:ay H Hc:=λb o e=>off e;have pa:=(hD.at_ p hp).mono sc;have hst:p.aI[j]?=some p.aI[j]:=jo hjl;have hsm:p.aI[j]∈p.aI:=uJ hjl;generalize p.aI[j]=st at hst hsm;have sa:=pa.ss st hsm;have ra:=ky.at_ row hmem;have ea:=kI (mn:=mn) (a:=row.2.1) (b:=row.2.2) nd hp hpn (by rw[hj];exact hst);refine⟨λσ' H'=>∃(ks':List (Addr×K2)) (b5 b6 b7:Option V),σ'=[some (.ref d),some (.ref dS),some (.ref R),some (.ref l),some (.int ((dn:Int)+1)),b5,b6,b7]/\(∀b o,b≠l->H b=some o->H' b=some o)/\A4 H' l ks'/\ks'.map (·.2)=(eW ps mn ws row.2).map Wy.key/\zS ps (eW ps mn ws row.2),?_,?_⟩
   ·rintro σ' H' ⟨ks',b5,b6,b7,rfl,fr',ky',ek',ok'⟩;refine⟨m',by omega,dn+1,ks',eW ps mn ws row.2,b5,b6,b7,rfl,fr',ky',ek',ok',by omega,?_,?_⟩
    ·have:=m8 ps mn ws row.2;omega
    ·rw[<-hreach];show _=(match ws[dn]? with | none=>ws | some w=>reachF ps mn m' (dn+1) (eW ps mn ws w.key));rw[hwy,<-ekey]
   refine⟨_,aD.of ky.top,_,cw (by rw[gh,hrow];rfl),_,rfl,_,aR.of ra,_,rfl,p.v,?_,_,rfl,_,aR.of pa.top,_,rfl,_,aD.of ky.top,_,cw (by rw[gh,hrow];rfl),_,rfl,_,aR.of ra,_,rfl,_,rfl,_,_,rfl,aD.of pa.sl,st.v,?_,_,rfl,_,aR.of sa.top,_,rfl,?_⟩
   ·have:=bx.k (k:=Sum.inr p.name) (sc _ _ hD.top);rw[gY,gJ nd hp,hpn]at this;exact this
   ·rw[hj];exact cw (by rw[gh,hst];rfl)
   have wI:∀i f,st.fills[i]?=some f->((keysOf p mn (st.fills.take (i+1))).map λt=>((t.1,t.2.1),t.2.2)).foldl (dt row.2) ws=match bJ p mn f with | none=>((keysOf p mn (st.fills.take i)).map λt=>((t.1,t.2.1),t.2.2)).foldl (dt row.2) ws | some z=>dt row.2 (((keysOf p mn (st.fills.take i)).map λt=>((t.1,t.2.1),t.2.2)).foldl (dt row.2) ws) ((z.1,z.2.1),f.at_):=λi f hf=>by
    have e:keysOf p mn (st.fills.take (i+1))=keysOf p mn (st.fills.take i)++keysOf p mn [f]:=by unfold keysOf;rw[List.take_add_one,hf,List.filterMap_append];rfl
    rw[e,aY,MP];cases q:bJ p mn f with
    |none=>unfold keysOf;rw[List.filterMap_cons_none (by rw[q];rfl)];rfl
    |some z=>unfold keysOf;rw[List.filterMap_cons_some (by rw[q];rfl)];rfl
   have QK:=((hD.uW p hp).ss st hsm).2;refine dv.of (xs:=st.fills.map ax.v) (λi σ H'=>∃(ks':List (Addr×K2)) (b6 b7:Option V),σ=[some (.ref d),some (.ref dS),some (.ref R),some (.ref l),some (.int dn),some p.v,b6,b7]/\(∀b o,b≠l->H b=some o->H' b=some o)/\A4 H' l ks'/\ks'.map (·.2)=(((keysOf p mn (st.fills.take i)).map λt=>((t.1,t.2.1),t.2.2)).foldl (dt row.2) ws).map Wy.key/\zS ps (((keysOf p mn (st.fills.take i)).map λt=>((t.1,t.2.1),t.2.2)).foldl (dt row.2) ws))
    ⟨ks,_,_,rfl,fr,ky,ek,ok⟩ ?_ ?_ ?_
   ·rintro i σ H' hi ⟨ks',b6,b7,rfl,fr',_⟩;have hlf:=(hD.at_ p hp).ss st hsm;exact aD.of (fr' _ _ (bH hlf.fl fl) (s1 _ _ hlf.fl))
   ·rintro i v σ H' hv ⟨ks',b6,b7,rfl,fr',ky',ek',ok'⟩;walk_at "6";obtain⟨f,hf,rfl⟩:=d_.mp hv;have hfm:=c_ hf;have sc':ay H H':=λb o e=>fr' b o (bH e fl) (s1 _ _ e);have w1:=wI i f hf;have kl':ks'.length<=62:=by
     have e1:=congrArg List.length ek';rw[az,az]at e1;have:=ok'.len;omega
    generalize ((keysOf p mn (st.fills.take i)).map λt=>((t.1,t.2.1),t.2.2)).foldl (dt row.2) ws=wa at w1 ek' ok';walk_at "rd";have fa:f.At H':=((hD.at_ p hp).ss st hsm).fs f hfm |>.mono sc'
    refine⟨p,rfl,f,rfl,(hD.at_ p hp).mono sc',hD.uW p hp,fa,mn,hT.mono sc',λa b c0 er q H3 s3 hq=>?_,λer H3 s3=>?_⟩
    ·rw[er]at w1;have ky3:=ky'.mono s3;have fr3:∀b o,b≠l->H b=some o->H3 b=some o:=λb o nb e=>s3 _ _ (fr' b o nb e);have c2:gp [V.str a,V.int b,V.int (c0+f.add)] none (some 2)=[V.str a,V.int b]:=rfl;rw[if_pos (by simp)];refine⟨_,aR.of hq,(by intro z;have:=z.2;revert this;show ¬HT.sIx 3 3 (some 2)=3;decide),λt2 ht2=>?_⟩;rw[c2];have sn:=aU (o:=HO.tup [V.str a,V.int b]) ht2;have hq2:upd H3 t2 (HO.tup [V.str a,V.int b]) t2=some (.tup (kT (a,b))):=aE;have hq4:=sn _ _ hq;have ky4:=ky3.mono sn;have fr4:∀b' o,b'≠l->H b'=some o->upd H3 t2 (HO.tup [V.str a,V.int b]) b'=some o:=λb o nb e=>sn _ _ (fr3 b o nb e);generalize upd H3 t2 (HO.tup [V.str a,V.int b])=H4 at *;have ek1:ks'.map (λk=>V.ref k.1)=(ks'.map (·.1)).map V.ref:=by rw[ck];rfl
     refine⟨ks'.map (·.1),aD.of (by rw[<-ek1];exact ky4.top),uL H4,ky4.rep,kD (a,b),EZ hq2,?_⟩;rw[ky4.any];have hh:r_ wa (a,b)=decide ((a,b)∈ks'.map (·.2)):=by
      rw[ek'];by_cases z:(a,b)∈wa.map Wy.key
      ·rw[decide_eq_true z];exact kW.mpr z
      ·rw[decide_eq_false z];cases y:r_ wa (a,b) with
       |false=>rfl
       |true=>exact absurd (kW.mp y) z
     have hin:(a,b)∈aC ps:=by
      refine hvA row.2 hk ((a,b),f.at_) ?_;rw[show row.2=(row.2.1,row.2.2) from rfl,ea];exact aM.mpr ⟨(a,b,f.at_),Ky.mpr ⟨f,hfm,by rw[er];rfl⟩,rfl⟩
     by_cases z:(a,b)∈ks'.map (·.2)
     ·rw[decide_eq_true z]at hh ⊢;rw[if_neg (by simp)];have hadd:dt row.2 wa ((a,b),f.at_)=wa:=by unfold dt;rw[if_pos hh]
      have w1:_=dt row.2 wa ((a,b),f.at_):=w1;rw[w1,hadd];exact⟨fr4,ks',ky4,ek',ok'⟩
     ·rw[decide_eq_false z]at hh ⊢;rw[if_pos (by simp)];have hadd:dt row.2 wa ((a,b),f.at_)=wa++[⟨(a,b),some (row.2,f.at_)⟩]:=by unfold dt;rw[if_neg (by rw[hh];decide)]
      have okn:=ok'.add (b:=row.2) (t:=((a,b),f.at_)) hin;have w1:_=dt row.2 wa ((a,b),f.at_):=w1;rw[w1];refine⟨.inl ⟨rfl,_,aD.of ky4.top⟩,_,aR.of hq4,(by intro z;have:=z.2;revert this;show ¬HT.sIx 3 3 (some 2)=3;decide),λt3 ht3=>?_⟩;rw[c2];have sm:=aU (o:=HO.tup [V.str a,V.int b]) ht3;have hq5:upd H4 t3 (HO.tup [V.str a,V.int b]) t3=some (.tup (kT (a,b))):=aE;have ky5:=ky4.mono sm;have fr5:∀b' o,b'≠l->H b'=some o->upd H4 t3 (HO.tup [V.str a,V.int b]) b'=some o:=λb o nb e=>sm _ _ (fr4 b o nb e);generalize upd H4 t3 (HO.tup [V.str a,V.int b])=H5 at *;refine⟨_,ky5.top,by rw[az,sizeLine_eq];omega,λb' o nb e=>by rw[ae nb];exact fr5 b' o nb e,ks'++[(t3,(a,b))],⟨by rw[aE,aY];rfl,λx hx=>?_⟩,?_,okn⟩
      ·have hx':H5 x.1=some (.tup (kT x.2)):=by
        rcases bF.mp hx with y|y
        ·exact ky5.at_ x y
        ·rw[bX.mp y];exact hq5
       rw[ae (bD hx' ky5.top (by intro z;cases z))];exact hx'
      ·rw[hadd,aY,aY,ek'];rfl
    ·rw[er]at w1;rw[if_neg (by simp),w1];exact⟨λb o nb e=>s3 _ _ (fr' b o nb e),ks',ky'.mono s3,ek',ok'⟩
   ·rintro σ H' ⟨ks',b6,b7,rfl,fr',ky',ek',ok'⟩;rw[az,iF]at ek' ok';have et:((keysOf p mn st.fills).map λt=>((t.1,t.2.1),t.2.2)).foldl (dt row.2) ws=eW ps mn ws row.2:=by
     unfold eW;have e:row.2=(row.2.1,row.2.2):=rfl;rw[e,ea]
    rw[et]at ek' ok';walk_at "rd";exact⟨fr',ks',ky',ek',ok'⟩
  ·have hge:¬dn<ks.length:=λz=>hge (decide_eq_true (by omega));have e:ws[dn]?=none:=List.getElem?_eq_none (by omega);have e2:reachF ps mn m dn ws=ws:=by
    cases m with
    |zero=>rfl
    |succ m=>show(match ws[dn]? with | none=>ws | some w=>_)=ws;rw[e]
   exact k l ks Hc (λb o e=>fr b o (bH e fl) (s1 _ _ e)) fl ky (by rw[ek,<-hreach,e2])
theorem Il(h1:jT ps ks a)(h2:jT ps ks b):a=b:=by
 obtain⟨s1,p1,w1,rfl⟩:=h1;obtain⟨s2,p2,w2,rfl⟩:=h2;rw[(p1.trans p2.symm).eq_of_pairwise (λ_ _ _ _ x y=>vP x y) w1 w2]
theorem qu{e st:Int}(h:1<=st):e+(0 - e)%st=bP e st:=by
 obtain⟨h1,h2,h3⟩:=yO (e:=e) h;have h4:=Int.emod_nonneg (0 - e) (show st≠0 by omega);have h5:=Int.emod_lt_of_pos (0 - e) (show 0<st by omega);have h6:=Int.emod_def (0 - e) st;have h7:=Int.emod_def (bP e st) st;have h8:st*((0 - e)/st+bP e st/st)=st*((0 - e)/st)+st*(bP e st/st):=Int.mul_add _ _ _;generalize (0 - e)/st+bP e st/st=z at *;have h9:st*z<st*1:=by omega
 have h10:st*(-1)<st*z:=by omega
 have h11:=Int.lt_of_mul_lt_mul_left h9 (by omega);have h12:=Int.lt_of_mul_lt_mul_left h10 (by omega);have:z=0:=by omega
 rw[this]at h8;omega
noncomputable def me(ss:List aL):Int:=((bI 0 ss).getLast?.map (·.2)).getD 0
theorem A0(ss:List aL)(s:aL):me (ss++[s])=bP (me ss) s.step+(s.words.length:Int):=by
 unfold me;rw[fh,List.getLast?_append];rfl
theorem wK(h:ls.length=ss.length):cu (ls++[k]) (bI 0 (ss++[s]))=cu ls (bI 0 ss)++[([.inr k.1,.inl k.2],.int (bP (me ss) s.step))]:=by
 unfold cu;rw[fh,List.zip_append (by rw[gZ];exact h),aY];rfl
theorem nu{af:List (List Key×V)}{k:List Key}{v:V}(h:k∉af.map (·.1)):putK af k v=af++[(k,v)]:=by
 unfold putK;rw[if_neg];intro z;obtain⟨y,hy,e⟩:=lP.mp z;exact h (aM.mpr ⟨y,hy,of_decide_eq_true e⟩)
theorem val_last{af:List (List Key×V)}{k:List Key}{v:V}(h:k∉af.map (·.1)):a8 (af++[(k,v)]) k=some v:=by
 unfold a8;rw[IY,v7.mpr (λy hy e=>h (aM.mpr ⟨y,hy,of_decide_eq_true e⟩))];simp
theorem HX{af:List (List Key×V)}{k:List Key}{v:V}(h:k∉af.map (·.1)):a8 (putK af k v) k=some v:=by rw[nu h,val_last h]
structure QO(H H':Hp)(ps:List ah)(dd:Addr)(ls:List aH)(ss:List aL):Prop where
 sm:ay H H'
 aI:ls.map (gr ps)=ss.map some
 top:H' dd=some (.dT (cu ls (bI 0 ss)))
theorem QO.len(h:QO H H' ps dd ls ss):ls.length=ss.length:=by
 have:=congrArg List.length h.aI
 rwa [az,az]at this
theorem Qm(T:Txt K mg A):bg P w K mg base dm 1 A.NP A.oB ["_law_there", "_law_keys"] F1:=by
 refine T.zI.ok e7 (λvs H Q E h=>?_) (λcdv Ar outer s H vs Q E hr h=>?_)
 ·obtain⟨d,l,ps,ks,rfl,_⟩:=h;rfl
 ·obtain⟨d,l,ps,ks,rfl,hD,hJ,hK,cy,nd,hs,k⟩:=h;refine⟨_,(aQ (pS 2 e7.nd C5) (aQ (pS 3 e7.nd ag) (aQ (pF (eU (K:=K) rfl (a9 (aq a5 (aq a5 aa)))) (pn 4 e7.nd) (bf (pF (eU (K:=K) rfl (eh (j4 (K:=K) rfl) (by rfl) T.cQ ff (aq (pv 1) aa))) (pn 5 e7.nd) (aQ (MN (bT (dR (K:=K) rfl) (tx K (bU (a7 hr) (pv 0) (tx K (pv 5)) (λ_ _=>rfl))) (tx K (pv 5)) (λ_ _=>rfl)) (bN (K:=K) (n:=4) rfl rfl (cT (pn 6 e7.nd) (cT (pn 7 e7.nd) (cT (pn 8 e7.nd) (cT (pn 9 e7.nd) bL)))))) (bf (bq (fF dZ (pv 6) (pv 4) (aS _)) (aQ (cR (a7 hr) (pv 2) (pv 5) (aF dw (pv 3) (aF bB (aF jv ag (pv 3)) (pv 7))) rfl) (bf (pS 3 e7.nd (aF dw (bU (a7 hr) (pv 2) (pv 5) (λ_ _=>rfl)) (eh (j8 (K:=K) rfl) (by rfl) T.dJ dj (aq (pv 8) aa)))))) cI)))))) (bf (aJ (aX (aq (pv 2) (aq (pv 3) aa)))))))),?_⟩;walk_at "rd";refine λdd hdd=>⟨by rw[sizeLine_eq];decide,λlc hlc=>?_⟩;have s1:=aU (o:=HO.dT []) hdd;have s2:=aU (o:=HO.lst [V.str (Str.ofString "code"),V.str (Str.ofString "data")]) hlc;have t0:=s2 _ _ (show upd H dd (HO.dT []) dd=_ from aE);have c0:upd (upd H dd (HO.dT [])) lc (HO.lst [V.str (Str.ofString "code"),V.str (Str.ofString "data")]) lc=_:=aE;have s12:=s1.trans s2;have flc:H lc=none:=eP s1 hlc
  generalize upd (upd H dd (HO.dT [])) lc (HO.lst [V.str (Str.ofString "code"),V.str (Str.ofString "data")])=H0 at *;refine dv.of (xs:=[V.str (Str.ofString "code"),V.str (Str.ofString "data")]) (λi σ H'=>∃(ls:List aH) (ss:List aL) (b4 b5 b6 b7 b8 b9:Option V),σ=[some (.ref d),some (.ref l),some (.ref dd),some (.int (me ss)),b4,b5,b6,b7,b8,b9]/\QO H H' ps dd ls ss/\H' lc=some (HO.lst [V.str (Str.ofString "code"),V.str (Str.ofString "data")])/\(i=0/\ls=[]\/∃sk:List aH,sk.Perm (ks.map (·.2))/\sk.Pairwise jE/\(i=1/\ls=sk.filter (bA ps (Str.ofString "code"))\/i=2/\ls=sk.filter (bA ps (Str.ofString "code"))++sk.filter (bA ps (Str.ofString "data")))))
   ⟨[],[],_,_,_,_,_,_,rfl,⟨s12,rfl,t0⟩,c0,.inl ⟨rfl,rfl⟩⟩ ?_ ?_ ?_
  ·rintro i σ H' hi ⟨ls,ss,b4,b5,b6,b7,b8,b9,rfl,ly,lcc,_⟩;exact aD.of lcc
  ·rintro i v σ H' hv ⟨ls,ss,b4,b5,b6,b7,b8,b9,rfl,ly,lcc,ph⟩;have kdx:∃kd,v=V.str kd/\(i=0/\kd=Str.ofString "code" \/ i=1/\kd=Str.ofString "data"):=by
    match i,hv with
    |0,hv=>exact⟨_,(Option.some.inj hv).symm,.inl ⟨rfl,rfl⟩⟩
    |1,hv=>exact⟨_,(Option.some.inj hv).symm,.inr ⟨rfl,rfl⟩⟩
    |n+2,hv=>simp at hv
   obtain⟨kd,rfl,kdi⟩:=kdx;have k1:A4 H' l ks:=hK.mono ly.sm;have dx:∀b∈ks.map (·.1),H' b=some (.tup [.str (dF H' b).1,.int (dF H' b).2]):=λb hb=>by
    obtain⟨q,hq,rfl⟩:=aM.mp hb;rw[vo (k:=q.2) (k1.at_ q hq)];exact k1.at_ q hq
   walk_at "rd";refine⟨ks.map (·.1),by rw[ck];exact aD.of k1.top,dF H',dx,by rw[az];omega,λly0 bs hl0 pm pw=>?_⟩;have pk:(bs.map (dF H')).Perm (ks.map (·.2)):=by
    have:=pm.map (dF H');rw[ck]at this;have e3:ks.map (dF H' ∘ λr=>r.1)=ks.map (·.2):=xq λr hr=>vo (k1.at_ r hr);rw[e3]at this;exact this
   have lsl:ls.length<=200:=by
    rcases ph with ⟨_,rfl⟩|⟨sk,q1,_,⟨_,rfl⟩|⟨_,rfl⟩⟩
    ·exact fe _
    all_goals
     have h2:=q1.length_eq;rw[az]at h2;have h1:=wc (bA ps (Str.ofString "code")) sk;have h3:=wc (bA ps (Str.ofString "data")) sk
     try rw[cW]
     omega
   have kn:(bs.map (dF H')).Nodup:=pk.nodup_iff.mpr nd;have sn:=aU (o:=HO.lst (bs.map V.ref)) hl0;have fl0:H ly0=none:=eP ly.sm hl0;have ha0:∀b∈bs,H' b=some (.tup [.str (dF H' b).1,.int (dF H' b).2]):=λb hb=>dx b (pm.mem_iff.mp hb);have l0:upd H' ly0 (HO.lst (bs.map V.ref)) ly0=some (HO.lst (bs.map V.ref)):=aE;have ndl:dd≠ly0:=bH ly.top hl0;have fin:∀b∈bs,(gr ps (dF H' b)).isSome=true:=λb hb=>by
    obtain⟨q,hq,e⟩:=aM.mp (pk.mem_iff.mp (aM.mpr ⟨b,hb,rfl⟩));rw[<-e];exact hs q hq
   have oth:∀b∈bs,bA ps kd (dF H' b)=true->dF H' b∉ls:=λb hb hk hin=>by
    rcases ph with ⟨_,rfl⟩|⟨sk,_,_,⟨i1,rfl⟩|⟨i2,_⟩⟩
    ·cases hin
    ·rcases kdi with ⟨i0,_⟩|⟨_,rfl⟩
     ·omega
     ·have h1:=of_decide_eq_true (uI.mp hin).2;have h2:=of_decide_eq_true hk;rw[h1]at h2;exact absurd (Option.some.inj h2) (by decide +kernel)
    ·omega
   refine dv.of (xs:=bs.map V.ref) (λj σ H2=>∃(ss2:List aL) (b5 b6 b7 b8 b9:Option V),σ=[some (.ref d),some (.ref l),some (.ref dd),some (.int (me ss2)),some (.str kd),b5,b6,b7,b8,b9]/\QO H H2 ps dd (ls++((bs.take j).map (dF H')).filter (bA ps kd)) ss2/\H2 lc=some (HO.lst [V.str (Str.ofString "code"),V.str (Str.ofString "data")])/\H2 ly0=some (HO.lst (bs.map V.ref))/\∀b∈bs,H2 b=some (.tup [.str (dF H' b).1,.int (dF H' b).2]))
    ⟨ss,_,_,_,_,_,rfl,⟨ly.sm.trans sn,by simpa using ly.aI,by rw[ae ndl];simpa using ly.top⟩,sn _ _ lcc,l0,λb hb=>sn _ _ (ha0 b hb)⟩ ?_ ?_ ?_
   ·rintro j σ H2 hj ⟨ss2,b5,b6,b7,b8,b9,rfl,ly2,lc2,l2,ha⟩;exact aD.of l2
   ·rintro j v σ H2 hv ⟨ss2,b5,b6,b7,b8,b9,rfl,ly2,lc2,l2,ha⟩;walk_at "6";obtain⟨b,hb,rfl⟩:=d_.mp hv;have hbm:=c_ hb;have ba:=ha b hbm;have tk:(bs.take (j+1)).map (dF H')=(bs.take j).map (dF H')++[dF H' b]:=by rw[fX,hb,aY];rfl
    obtain⟨p,st,hp,hpn,h0,hst,hsf⟩:=vV (fin b hbm);have pa:=(hD.at_ p hp).mono ly2.sm;have sa:=pa.ss st (c_ hst);have dg:bx H2 d (V.str (dF H' b).1) (some p.v):=by
     have:=bx.k (k:=.inr (dF H' b).1) (ly2.sm _ _ hD.top);rw[gY,<-hpn,gJ hD.nd hp]at this;rw[<-hpn];exact this
    have ix:iI (p.aI.map aL.v) (dF H' b).2=some st.v:=by
     have:(dF H' b).2=(((dF H' b).2.toNat:Nat):Int):=(Int.toNat_of_nonneg h0).symm;rw[this];exact cw (by rw[gh,hst];rfl)
    have stp:=hJ.aI p hp st (c_ hst);walk_at "rd";refine⟨_,aR.of ba,_,rfl,_,dg,_,rfl,_,aR.of pa.top,_,rfl,_,aR.of ba,_,rfl,_,rfl,_,_,rfl,aD.of pa.sl,_,ix,_,rfl,_,aR.of sa.top,rfl,_,_,rfl,_,_,rfl,_,_,rfl,_,_,rfl,rfl,rfl,?_⟩;have g9:=ly2.len;have L1len:(ls++((bs.take j).map (dF H')).filter (bA ps kd)).length<=1000000:=by
     have h1:=wc (bA ps kd) ((bs.take j).map (dF H'));have h2:=pm.length_eq;rw[az]at h2;rw[az,jr]at h1;rw[cW];omega
    by_cases ek:st.kind=kd
    ·rw[if_pos (decide_eq_true (congrArg V.str ek))];have hkd:bA ps kd (dF H' b)=true:=decide_eq_true (by rw[hsf];exact congrArg some ek);have fl:((bs.take (j+1)).map (dF H')).filter (bA ps kd)=((bs.take j).map (dF H')).filter (bA ps kd)++[dF H' b]:=by rw[tk,HA,EC,if_pos hkd];rfl
     have nin:dF H' b∉ls++((bs.take j).map (dF H')).filter (bA ps kd):=λz=>by
      rcases bF.mp z with z|z
      ·exact oth b hbm hkd z
      ·have z:=(uI.mp z).1;have n2:((bs.take (j+1)).map (dF H')).Nodup:=by rw[List.map_take];exact kn.sublist (Kf _ _)
       rw[tk]at n2;exact(f_.mp n2).2.2 _ z _ (by simp) rfl
     rw[fl,<-tI];generalize ls++((bs.take j).map (dF H')).filter (bA ps kd)=L1 at *;have nk:([.inr (dF H' b).1,.inl (dF H' b).2]:List Key)∉(cu L1 (bI 0 ss2)).map (·.1):=λz=>by
      rw[j5 (by rw[gZ];exact g9.symm)]at z;obtain⟨y,hy,e⟩:=aM.mp z;rw[vX e]at hy;exact nin hy
     have plen:(cu L1 (bI 0 ss2)).length<sizeLine:=by
      have h1:(cu L1 (bI 0 ss2)).length<=L1.length:=by unfold cu;rw[List.length_map,List.length_zip];omega
      have h2:L1.length<=1000000:=L1len;rw[sizeLine_eq];omega
     have ne:∀{x:Addr}{o:HO},H2 x=some o->(∀kv,o≠.dT kv)->upd H2 dd (.dT (putK (cu L1 (bI 0 ss2)) [.inr (dF H' b).1,.inl (dF H' b).2] (.int (me ss2+(0 - me ss2)%st.step)))) x=some o:=λ{x o} e n=>by rw[ae (bD e ly2.top (n _))];exact e
     refine⟨_,rfl,by omega,_,eM.t (k:=[.inr (dF H' b).1,.inl (dF H' b).2]) ly2.top ba plen,V.int (bP (me ss2) st.step),?_,st.words.length,.inl ⟨_,aD.of (ne sa.wd (λ_ z=>by cases z)),by rw[az]⟩,_,rfl,ss2++[st],(A0 ss2 st).symm,⟨eR hdd ly2.sm,?_,?_⟩,ne lc2 (λ_ z=>by cases z),ne l2 (λ_ z=>by cases z),λx hx=>ne (ha x hx) (λ_ z=>by cases z)⟩
     ·have:=bx.t (k:=[.inr (dF H' b).1,.inl (dF H' b).2]) (show upd H2 dd _ dd=_ from aE) (ne ba (λ_ z=>by cases z));rw[HX nk,qu stp.1]at this;rw[qu stp.1];exact this
     ·rw[aY,aY,ly2.aI];show _++[gr ps (dF H' b)]=_;rw[hsf];rfl
     ·rw[aE,nu nk,wK g9,qu stp.1]
    ·rw[if_neg (λz=>ek (V.str.inj (of_decide_eq_true z)))];have hkd:¬bA ps kd (dF H' b)=true:=λz=>by
      have:=of_decide_eq_true z;rw[hsf]at this;exact ek (Option.some.inj this)
     have fl:((bs.take (j+1)).map (dF H')).filter (bA ps kd)=((bs.take j).map (dF H')).filter (bA ps kd):=by rw[tk,HA,EC,if_neg hkd];simp
     exact⟨ss2,rfl,by rw[fl];exact ly2,lc2,l2,ha⟩
   ·rintro σ H2 ⟨ss2,b5,b6,b7,b8,b9,rfl,ly2,lc2,l2,ha⟩;rw[az,iF]at ly2;refine⟨_,ss2,_,_,_,_,_,_,rfl,ly2,lc2,bs.map (dF H'),pk,pw,?_⟩;rcases ph with ⟨i0,rfl⟩|⟨sk,q1,q2,⟨i1,rfl⟩|⟨i2,_⟩⟩
    ·rcases kdi with ⟨_,rfl⟩|⟨i1,_⟩
     ·exact .inl ⟨by omega,rfl⟩
     ·omega
    ·rcases kdi with ⟨i0,_⟩|⟨_,rfl⟩
     ·omega
     ·refine .inr ⟨by omega,?_⟩;rw[(q1.trans pk.symm).eq_of_pairwise (λ_ _ _ _ x y=>vP x y) q2 pw]
    ·rcases kdi with ⟨i0,_⟩|⟨i0,_⟩<;>omega
  ·rintro σ H' ⟨ls,ss,b4,b5,b6,b7,b8,b9,rfl,ly,lcc,ph⟩;walk_at "rd";refine⟨by rw[sizeLine_eq];decide,λq hq=>?_⟩;rcases ph with ⟨i0,_⟩|⟨sk,q1,q2,⟨i1,_⟩|⟨_,rfl⟩⟩
   ·cases i0
   ·cases i1
   ·exact k q dd (me ss) _ ss _ (ly.sm.trans (aU hq)) hdd aE ⟨sk,q1,q2,rfl⟩ ly.aI (by rw[ae (bH ly.top hq)];exact ly.top)
theorem Qn(T:Txt K mg A):bg P w K mg base dm 1 A.NR A.o9 ["_law_found"] BV:=by
 refine T.zo.ok Mh (λvs H Q E h=>?_) (λcdv Ar outer s H vs Q E hr h=>?_)
 ·obtain⟨c,rfl,_⟩:=h;rfl
 ·obtain⟨c,rfl,k⟩:=h;refine⟨_,(bf (aJ (wR (eh (gS (K:=K) rfl) (by rfl) T.bZ dG (aq (pv 0) (aq (kj rfl T.kY qA IS) aa))) (xV (Ml (eh (gS (K:=K) rfl) (by rfl) T.bZ dG (aq (pv 0) (aq (kj rfl T.qg Jf IS) aa)))))))),?_⟩;walk_at "rd";exact⟨_,.int c,true,rfl,RL ⟨_,.int c,false,rfl,k⟩⟩
theorem vY{af:List (List Key×V)}{i:Nat}{p:List Key×V}(nd:(af.map (·.1)).Nodup)(h:af[i]?=some p):a8 af p.1=some p.2:=by
 unfold a8
 induction af generalizing i with
 |nil=>simp at h
 |cons x r ih=>
  rw[fH]at nd;obtain⟨n1,n2⟩:=j7.mp nd;cases i with
  |zero=>simp at h;subst h;simp
  |succ j=>
   have h:r[j]?=some p:=by simpa using h
   have:x.1≠p.1:=λe=>n1 (e▸aM.mpr ⟨p,c_ h,rfl⟩);rw[BY,decide_eq_false this];exact ih n2 h
theorem KZ(T:Txt K mg A):bg P w K mg base dm 2 A.Pe A.qx ["_law_found", "_law_due"] AR:=by
 refine T.zx.ok FP (λvs H Q E h=>?_) (λcdv Ar outer s H vs Q E hr h=>?_)
 ·obtain⟨a,b,af,rfl,_⟩:=h;rfl
 ·obtain⟨a,b,af,rfl,ha,hb,hab,nd,hi,cy,k⟩:=h;refine⟨_,(aQ (bq (PW.pt (mS (ir (gD (eh (gS (K:=K) rfl) (by rfl) T.bZ dG (aq (pv 0) (aq (kj rfl T.jx oM IS) aa))))) (lR (fF yd (eh og (by rfl) T.dJ dj (aq (pv 0) aa)) (eh og (by rfl) T.dJ dj (aq (pv 1) aa)) (aS _))))) (bf (aJ ib)) cI) (aQ (pF (DY (pv 1)) (pn 2 FP.nd) (bf (bq (PW.pt (mS (e8 (cZ (a7 hr) (pv 2) (pv 0))) (mS (ir (gD (pC (Qn T) hr T.Ks T.CO T.Ed (aq (bU (a7 hr) (pv 0) (pv 2) (λ_ _=>rfl)) aa)))) (lR (fF yd (bU (a7 hr) (pv 0) (pv 2) (λ_ _=>rfl)) (bU (a7 hr) (pv 1) (pv 2) (λ_ _=>rfl)) (aS _)))))) (bf (aJ ib)) cI))) (bf (aJ ib)))),?_⟩;walk_at "rd";refine⟨_,.dT ha,true,rfl,?_⟩;rw[if_neg (by decide)];refine⟨_,.inl ha,_,hb,?_⟩;rw[if_neg (by simp)];refine z9.of hb (λo i σ H2=>∃b2:Option V,σ=[some (.ref a),some (.ref b),b2]/\(∀x u,x≠b->H x=some u->H2 x=some u)/\H2 b=some (.d9 o (.dT af))) ?_ ?_ ?_ ?_ ?_
  ·intro o H2 e1 e2;exact⟨_,rfl,λx u n e=>by rw[e2 x n];exact e,e1⟩
  ·rintro o i σ H2 hi2 ⟨b2,rfl,_,hz⟩;exact hz
  ·rintro o i σ H' H2 e1 e2 ⟨b2,rfl,kp,_⟩ x xs hx;have n:x≠b:=λz=>by rw[z,e1]at hx;cases hx
   exact kp x _ n (by rw[<-e2 x n];exact hx)
  ·rintro o i p kb σ H2 hp hk ⟨b2,rfl,kp,hz⟩;obtain⟨n,hn⟩:=hi p (c_ hp);have va:=bx.t (k:=p.1) (kp _ _ hab ha) hk;rw[vY nd hp,hn]at va;have vb:bx H2 b (.ref kb) (a8 af p.1):=.inr ⟨af,p.1,kb,.inr ⟨o,hz⟩,rfl,hk,rfl⟩;rw[vY nd hp,hn]at vb;walk_at "rd";refine⟨_,va,?_⟩;rw[if_neg (by simp)];refine⟨_,va,n,rfl,_,va,_,vb,rfl,?_⟩;rw[if_neg (by simp)];exact⟨kp,hz⟩
  ·rintro o σ H2 ⟨b2,rfl,kp,hz⟩;exact k H2 kp (.inr ⟨o,hz⟩)
theorem eQ.co(h:eQ R' ms)(e1:∀r∈R',∃x∈R,x.1=r.1/\x.2.name=r.2.name/\x.2.sort=r.2.sort/\x.2.st=r.2.st/\x.2.off=r.2.off)(e2:∀r∈R,∃x∈R',x.1=r.1/\x.2.name=r.2.name/\x.2.sort=r.2.sort/\x.2.st=r.2.st/\x.2.off=r.2.off):eQ R ms:=by
 refine⟨h.nd,λz m hm=>?_,λz hz r hr hn=>?_⟩
 ·rcases h.MM z m hm with ⟨r,hr,a1,a2,a3⟩|⟨no,r,hr,a1,a2,a3,a4⟩
  ·obtain⟨x,hx,x1,x2,x3,x4,x5⟩:=e1 r hr;exact .inl ⟨x,hx,x2.trans a1,x3.trans a2,by rw[a3];unfold Mq;rw[x1,x4,x5]⟩
  ·obtain⟨x,hx,x1,x2,x3,x4,x5⟩:=e1 r hr;refine .inr ⟨λy hy n1 n2=>?_,x,hx,x2.trans a1,x3.trans a2,by rw[a3];unfold Mq;rw[x1,x4,x5],λy hy n1 n2=>?_⟩
   ·obtain⟨y',hy',_,y2,y3,_⟩:=e2 y hy;exact no y' hy' (y2.trans n1) (y3.trans n2)
   ·obtain⟨y',hy',y1,y2,y3,_⟩:=e2 y hy;rw[x1,<-y1];exact a4 y' hy' (y2.trans n1) (y3.trans n2)
 ·obtain⟨x,hx,_,x2,x3,_⟩:=e2 r hr;have:=h.bj z hz x hx (x2.trans hn);rw[x3]at this;exact this
theorem Ai(h:∀q∈qs,∃p∈ps,ar q=ar p):∀r∈bQ qs,∃x∈bQ ps,x.1=r.1/\x.2.name=r.2.name/\x.2.sort=r.2.sort/\x.2.st=r.2.st/\x.2.off=r.2.off:=λr hr=>by
 obtain⟨q,hq,q1,q2⟩:=bu.mp hr;obtain⟨p,hp,e⟩:=h q hq;obtain⟨m,hm,m1,m2,m3,m4⟩:=rJ e q2;exact⟨(p.name,m),bu.mpr ⟨p,hp,rfl,hm⟩,by rw[<-q1];exact(i9 e).symm,m1,m2,m3,m4⟩
theorem yY{ps qs:List ah}(pm:(qs.map ar).Perm (ps.map ar)):∀q∈qs,∃p∈ps,ar q=ar p:=λq hq=>by
 obtain⟨p,hp,e⟩:=aM.mp (pm.mem_iff.mp (aM.mpr ⟨q,hq,rfl⟩));exact⟨p,hp,e.symm⟩
theorem C8(hN:HB ps)(pm:(qs.map ar).Perm (ps.map ar))(h:eQ (bQ ps) ms)(h':eQ (bQ qs) ms')(z:Str):(aB ms' z).map ao.vl=(aB ms z).map ao.vl:=by
 have g:=h'.co (Ai (yY pm)) (Ai (yY pm.symm));cases a:aB ms z with
 |none=>
  cases b:aB ms' z with
  |none=>rfl
  |some n=>
   have:=g.mem.mp (gF.mpr (by rw[b];simp));exact absurd a (gF.mp (h.mem.mpr this))
 |some m=>
  cases b:aB ms' z with
  |none=>
   have:=h.mem.mp (gF.mpr (by rw[a];simp));exact absurd b (gF.mp (g.mem.mpr this))
  |some n=>
   show some _=some _;rw[h.one hN g a b]
noncomputable def HJ(c:Co)(lk:Str->Option (Str×Int×Int))(f:ax):Option (Str×Int×Int):=
 match c.2.1.find? λn=>decide (n.name=f.name)&&decide (n.sort=cS) with
 |some n=>some (c.1,n.st,n.off)
 |none=>lk f.name
theorem FC(p:ah)(ms:List ao)(f:ax):bJ p ms f=HJ (ar p) (λz=>(aB ms z).map ao.vl) (ax.e f):=by
 unfold bJ HJ;have e:((ar p).2.1.find? λn=>decide (n.name=(ax.e f).name)&&decide (n.sort=cS))=(p.aK.find? λn=>decide (n.name=f.name)&&decide (n.sort=cS)).map aj.e:=by
  show(p.aK.map aj.e).find? _=_;rw[Hs];rfl
 rw[e];cases p.aK.find? λn=>decide (n.name=f.name)&&decide (n.sort=cS)<;>rfl
noncomputable def Km(c:Option Co)(lk:Str->Option (Str×Int×Int))(n:Int):List (K2×Int):=
 match c with
 |none=>[]
 |some c=>match c.2.2[n.toNat]? with
  |none=>[]
  |some s=>(s.2.2.2.filterMap λf=>(HJ c lk f).map λr=>(r.1,r.2.1,f.at_)).map λt=>((t.1,t.2.1),t.2.2)
theorem nN(ps:List ah)(ms:List ao)(k:K2):cU ps ms k=Km ((fU ps k.1).map ar) (λz=>(aB ms z).map ao.vl) k.2:=by
 unfold cU Km;cases fU ps k.1 with
 |none=>rfl
 |some p=>
  have e:(ar p).2.2[k.2.toNat]?=(p.aI[k.2.toNat]?).map aL.e:=by
   show(p.aI.map aL.e)[k.2.toNat]?=_;rw[gh]
  simp only[Option.map_some,e];cases p.aI[k.2.toNat]? with
  |none=>rfl
  |some st=>
   simp only[Option.map_some];congr 1;unfold keysOf;show _=(st.fills.map ax.e).filterMap _;rw[List.filterMap_map];congr 1;funext f;show(bJ p ms f).map _=(HJ (ar p) _ (ax.e f)).map _;rw[FC];rfl
theorem Jh:∀{a b:List Co}{z:Str},a.Perm b->(a.map (·.1)).Nodup->(a.find? λc=>decide (c.1=z))=b.find? λc=>decide (c.1=z):=λ{a b z} pm nd=>by
 have nb:(b.map (·.1)).Nodup:=(pm.map _).nodup_iff.mp nd;cases h:a.find? λc=>decide (c.1=z) with
 |none=>
  refine(v7.mpr λx hx=>?_).symm;exact v7.mp h x (pm.mem_iff.mpr hx)
 |some c=>
  have hc:=pm.mem_iff.mp (qw h);have ez:=of_decide_eq_true (GD (p:=λc:Co=>decide (c.1=z)) h);cases g:b.find? λc=>decide (c.1=z) with
  |none=>exact absurd (decide_eq_true ez) (v7.mp g c hc)
  |some c'=>
   have hc':=qw g;have ez':=of_decide_eq_true (GD (p:=λc:Co=>decide (c.1=z)) g);obtain⟨i,hi,rfl⟩:=wm hc;obtain⟨j,hj,rfl⟩:=wm hc';have pw:=BZ.mp nb;have en:(b[i]).1=(b[j]).1:=ez.trans ez'.symm;rcases MY i j with y|y|y
   ·exact absurd (by rw[nO,nO];exact en) (pw i j (by simpa using hi) (by simpa using hj) y)
   ·subst y;rfl
   ·exact absurd (by rw[nO,nO];exact en.symm) (pw j i (by simpa using hj) (by simpa using hi) y)
theorem nc(ps:List ah)(z:Str):(fU ps z).map ar=(ps.map ar).find? λc=>decide (c.1=z):=by
 unfold fU;rw[Hs];rfl
theorem u_(nd:(ps.map ah.name).Nodup)(pm:(qs.map ar).Perm (ps.map ar))(z:Str):(fU qs z).map ar=(fU ps z).map ar:=by
 rw[nc,nc];refine(Jh pm.symm ?_).symm;rw[ck];exact nd
theorem I_(pm:(qs.map ar).Perm (ps.map ar)):(aC qs).length=(aC ps).length:=by
 have e:∀l:List ah,(aC l).length=((l.map ar).map λc=>c.2.2.length).sum:=λl=>by
  unfold aC;rw[List.length_flatMap,ck];congr 1;refine xq λp _=>?_;show _=(p.aI.map aL.e).length;simp
 rw[e,e];exact(pm.map _).sum_nat
theorem Bq(ha:cU qs ms'=cU ps ms)(hl:(aC qs).length=(aC ps).length):bV qs ms' r=bV ps ms r:=by
 have et:eW qs ms'=eW ps ms:=by unfold eW;rw[ha]
 have:∀n d ws,reachF qs ms' n d ws=reachF ps ms n d ws:=by
  intro n
  induction n with
  |zero=>intro d ws;rfl
  |succ n ih=>
   intro d ws;unfold reachF;cases ws[d]? with
   |none=>rfl
   |some w=>show reachF qs ms' n _ _=reachF ps ms n _ _;rw[ih,et]
 unfold bV;rw[this,hl]
theorem CW(nd:(ps.map ah.name).Nodup)(pm:(qs.map ar).Perm (ps.map ar))(k:aH):(gr qs k).map aL.e=(gr ps k).map aL.e:=by
 have e:∀l:List ah,(gr l k).map aL.e=((fU l k.1).map ar).bind λc=>if 0<=k.2 then c.2.2[k.2.toNat]? else none:=λl=>by
  unfold gr;cases fU l k.1 with
  |none=>rfl
  |some p=>
   show(if 0<=k.2 then p.aI[k.2.toNat]? else none).map aL.e=if 0<=k.2 then (p.aI.map aL.e)[k.2.toNat]? else none;split
   ·rw[gh]
   ·rfl
 rw[e,e,u_ nd pm]
theorem vC:∀{ss rr:List aL}(e:Int),rr.map aL.e=ss.map aL.e->bI e rr=bI e ss
 |[],[],_,_=>rfl
 |[],_::_,_,h=>by simp at h
 |_::_,[],_,h=>by simp at h
 |s::ss,r::rr,e,h=>by
  rw[fH,fH]at h;injection h with h1 h2;have a1:r.step=s.step:=congrArg (·.2.1) h1;have a2:r.words=s.words:=congrArg (·.2.2.1) h1;unfold bI;rw[a1,a2,vC _ h2]
theorem pQ.one{ps qs:List ah}{e:Str}{ms ms':List ao}{m m':ao}{ls ls':List aH}{ss ss':List aL}{af kvs':List (List Key×V)}(c:Ek ps e)(pm:(qs.map ar).Perm (ps.map ar))(h:pQ ps e ms m ls ss af)(h':pQ qs e ms' m' ls' ss' kvs'):kvs'=af:=by
 have lk:=C8 (c.jn.SY c.nd c.bn c.cy) pm h.nm h'.nm;have em:(m'.a,m'.b)=(m.a,m.b):=by
  have:=lk e;rw[h.ent,h'.ent]at this;have:=Option.some.inj this;exact Prod.ext (congrArg (·.1) this) (congrArg (·.2.1) this)
 have ea:cU qs ms'=cU ps ms:=by
  funext k;rw[nN,nN,u_ c.nd pm,funext lk]
 have er:=Bq (r:=(m.a,m.b)) ea (I_ pm);have ek:∀kd,bA qs kd=bA ps kd:=λkd=>by
  funext k;unfold bA;have:=congrArg (Option.map (·.1)) (CW c.nd pm k);rw[Jr,Jr]at this;have this:(gr qs k).map aL.kind=(gr ps k).map aL.kind:=this;rw[this]
 have o':=h'.ord;rw[em,er]at o';have o2:jT ps ((bV ps ms (m.a,m.b)).map Wy.key) ls':=by
  obtain⟨sk,q1,q2,q3⟩:=o';exact⟨sk,q1,q2,by rw[q3,ek,ek]⟩
 have el:=Il o2 h.ord;subst el;have es:ss'.map aL.e=ss.map aL.e:=by
  have h1:(ls'.map λk=>(gr qs k).map aL.e)=ls'.map λk=>(gr ps k).map aL.e:=xq λk _=>CW c.nd pm k;have h2:(ls'.map λk=>(gr qs k).map aL.e)=(ss'.map aL.e).map some:=by
   have:=congrArg (List.map (Option.map aL.e)) h'.aI;rw[ck,ck]at this;rw[ck];exact this
  have h3:(ls'.map λk=>(gr ps k).map aL.e)=(ss.map aL.e).map some:=by
   have:=congrArg (List.map (Option.map aL.e)) h.aI;rw[ck,ck]at this;rw[ck];exact this
  rw[h2,h3]at h1;exact List.map_inj_right (λ_ _=>Option.some.inj) |>.mp h1
 rw[h'.af,h.af,vC 0 es]
theorem kK(h:v5 H S xs):Rep K H (.lst ((xs.map λx=>x.2.map ar).map λcs=>D.lst (cs.map Kq))) (.ref S):=by
 simp only[Rep];refine⟨_,_,rfl,aD.of h.top,?_⟩;rw[ck];refine RepL.map λx hx=>?_;simp only[Rep,Function.comp];refine⟨_,_,rfl,aD.of (h.at_ x hx).top,?_⟩;rw[ck];refine RepL.map λp hp=>?_;show Rep K H (Kq (ar p)) p.v;rw[<-OG];exact((h.at_ x hx).at_ p hp).rep
theorem Aq(xs:List (Addr×List ah)):depL ((xs.map λx=>x.2.map ar).map λcs=>D.lst (cs.map Kq))<=20:=by
 rw[ck];refine f9 (dH (n:=6) λx _=>?_) (by decide);show dep (D.lst ((x.2.map ar).map Kq))<=6;rw[ck];have h:depL (x.2.map (Kq ∘ ar))<=5:=dH λp _=>by show dep (Kq (ar p))<=5;rw[<-OG];exact Cm p
 simp only[dep];omega
theorem zg(h:jW G S e T rs)(c:fc G S e T'):∀p∈T,p∈T':=by
 have hl:rs.length=T.length:=by have:=congrArg List.length h.len;rwa [az,az]at this
 have key:∀n i:Nat,i<n->∀p,T[i]?=some p->p∈T':=by
  intro n
  induction n with
  |zero=>intro i hi;omega
  |succ n ih=>
   intro i hi p hp;have hi2:=(ig.mp hp).1;have hr:rs[i]?=some (rs[i]'(by omega)):=jo (by omega);generalize rs[i]'(by omega)=r at hr;obtain⟨j1,j2,j3⟩:=h.Pp i p r hp hr;have cv:eO G S T' r.2.1:=by
    rcases j3 with ⟨_,b2⟩|⟨q,hq,_,b2⟩
    ·rw[b2];exact c.1
    ·refine c.2 q ?_ _ b2;rcases bF.mp hq with y|y
     ·exact gC _ y
     ·obtain⟨j,hj⟩:=List.getElem?_of_mem y;have hj2:=(ig.mp hj).1;rw[jr]at hj2;rw[List.getElem?_take_of_lt (by omega)]at hj;exact gR _ (ih j (by omega) q hj)
   rcases cv with a|⟨u,hu,a⟩
   ·rw[j1]at a;cases a
   ·rw[j2]at a;rw[Option.some.inj a];exact hu
 intro p hp;obtain⟨i,hi⟩:=List.getElem?_of_mem hp;exact key (i+1) i (K8 _) p hi
theorem mX(h:AZ c t p){z:Str}(hz:Bv c z):cA z (ar p)=true:=by
 refine lX.mp ?_;obtain⟨k,k0,k1,rfl⟩:=hz;have m:nameOf c k∈p.aK.map aj.name:=by
  rw[h.aK];exact aM.mpr ⟨k.toNat,yJ.mpr (by omega),by rw[Int.toNat_of_nonneg k0]⟩
 obtain⟨n,hn,e⟩:=aM.mp m;unfold fY;refine aM.mpr ⟨n,uI.mpr ⟨hn,?_⟩,e⟩;rw[h.weak n hn];decide +kernel
theorem OO(h:AZ c t p):n_ p:=by
 obtain⟨s,hs,hw,hf⟩:=h.aI;have hl:p.aK.length=12:=by have:=congrArg List.length h.aK;rwa [az,az,Nc]at this
 refine⟨by omega,by rw[hs];simp,λs' hs'=>?_,?_,?_⟩
 ·rw[hs]at hs';rw[bX.mp hs',hw,hf];exact⟨by decide,by decide⟩
 ·unfold aG;rw[hs];simp[hf]
 ·rw[h.aK];have:=u9 (t:=c) 12 (bC _);exact(f_.mp this).1
theorem Bc(h:AZ c t p){z:Str}:bW z (ar p)=false:=by
 obtain⟨s,hs,_,hf⟩:=h.aI;cases q:bW z (ar p) with
 |false=>rfl
 |true=>
  obtain⟨f,hf',_⟩:=fC.mpr q;unfold aG at hf';rw[hs]at hf';simp[hf]at hf'
theorem JJ(c k:Int):nameOf c k≠Str.ofString "" := λe=>by
 have h:=congrArg Str.length e;have h2:(nameOf c k).length=(fb c k).toNat:=fE c k _;rw[h2]at h;have h3:(Str.ofString "").length=0:=by decide +kernel
 rw[h3]at h;unfold fb at h;split at h<;>omega
theorem vj(d:Drawn c t n ps)(h:p∈ps){z:Str}(hz:bW z (ar p)=true):Bv c z:=by
 obtain⟨f,hf,_,e⟩:=fC.mpr hz;obtain⟨s,hs,hf⟩:=hW.mp hf;rw[<-e];exact(((d.ok p h).aI s hs).fills f hf).name
theorem Du{G S:List ah}{r:ah}{z:Str}(h:r∈G++S)(ht:cA z (ar r)=true):BP (G.map ar) (S.map ar) z:=by
 have f:∀l:List ah,r∈l->(cH (l.map ar) z).isSome=true:=λl hl=>by
  rw[dy,M8];unfold bo;rw[List.find?_isSome];exact⟨r,hl,ht⟩
 exact(bF.mp h).imp (f G) (f S)
theorem BN(d:Drawn c t n ps)(hn:n<=61)(hr:AZ c t r)(pm:(G++S).Perm (ps++[r]))(he:Bv c e):BG G S e/\∀p∈G++S,p.name≠Str.ofString "" := by
 have inn:∀p∈G++S,p∈ps\/p=r:=λp hp=>(bF.mp (pm.mem_iff.mp hp)).imp id bX.mp;have rin:r∈G++S:=pm.mem_iff.mpr (by simp);have cy:=d.cy;refine⟨⟨by rw[pm.length_eq,cW,JK];omega,λp hp=>?_,?_,Du rin (mX hr he),λp hp z hz=>?_⟩,λp hp=>?_⟩
 ·rcases inn p hp with h|h
  ·exact d.uW hn h
  ·rw[h];exact OO hr
 ·refine(pm.map ah.name).nodup_iff.mpr ?_;rw[aY,d.names];show(_++[r.name]).Nodup;rw[hr.name];exact u9 _ cy
 ·rcases inn p hp with h|h
  ·exact Du rin (mX hr (vj d h hz))
  ·rw[h,Bc hr]at hz;cases hz
 ·rcases inn p hp with h|h
  ·have m:p.name∈(List.range ps.length).map λi:Nat=>nameOf t i:=by rw[<-d.names];exact aM.mpr ⟨p,h,rfl⟩
   obtain⟨i,_,e⟩:=aM.mp m;rw[<-e];exact JJ t i
  ·rw[h,hr.name];exact JJ t 14
theorem Cu(h:BG G S e)(e1:G'.map ar=G.map ar)(e2:S'.map ar=S.map ar):BG G' S' e:=by
 have e3:(G'++S').map ar=(G++S).map ar:=by rw[aY,aY,e1,e2]
 have back:∀q∈G'++S',∃p∈G++S,ar p=ar q:=λq hq=>by
  have m:ar q∈(G'++S').map ar:=aM.mpr ⟨q,hq,rfl⟩;rw[e3]at m;exact aM.mp m
 refine⟨?_,λq hq=>?_,?_,by rw[e1,e2];exact h.ent,λq hq z hz=>?_⟩
 ·have:=congrArg List.length e3;walk_at "4";rw[this];exact h.cy
 ·obtain⟨p,hp,ep⟩:=back q hq;exact vA (h.uW p hp) ep.symm
 ·have n:∀l:List ah,l.map ah.name=(l.map ar).map (·.1):=λl=>by rw[ck];rfl
  rw[n,e3,<-n];exact h.nd
 ·obtain⟨p,hp,ep⟩:=back q hq;rw[e1,e2];exact h.met p hp z (by rw[ep];exact hz)
theorem Jw.mono(h:Jw H d ps)(s:ay H H'):Jw H' d ps:=⟨s _ _ h.top,λp hp=>(h.at_ p hp).mono s,h.nd,h.uW,h.cy⟩
theorem LS.same{H H':Hp}{S D a0 b0:Addr}{e:Str}{G G':List ah}{xs ys:List (Addr×List ah)}(h:LS A H S D a0 b0 e G G' xs ys)(s:dC H H')(t1:c7 A.aN Kn Kc H')(t2:c7 A.br xB wV H'):LS A H' S D a0 b0 e G G' xs ys:=
 ⟨D3 s h.u7,D3 s h.hand,h.cp,h.bs,h.bh,h.js,h.jh,t1,t2,h.ne⟩
theorem zB{α:Type}:∀{a b:List α},a.Nodup->b.Nodup->(∀x,x∈a↔x∈b)->a.Perm b
 |[],b,_,_,h=>by
  cases b with
  |nil=>exact .refl _
  |cons y r=>exact absurd ((h y).mpr (by simp)) (by simp)
 |x::a,b,na,nb,h=>by
  obtain⟨u,v,rfl⟩:=List.append_of_mem ((h x).mp (by simp));obtain⟨n1,n2⟩:=j7.mp na;have nb2:(x::(u++v)).Nodup:=(List.perm_middle.nodup_iff).mp nb;obtain⟨m1,m2⟩:=j7.mp nb2;refine((zB n2 m2 λy=>?_).cons x).trans List.perm_middle.symm;have:=h y;constructor
  ·intro hy;have ne:y≠x:=λe=>n1 (e▸hy);have:=this.mp (ka _ hy);rcases bF.mp this with z|z
   ·exact gC _ z
   ·exact gR _ ((iG.mp z).resolve_left ne)
  ·intro hy;have ne:y≠x:=λe=>m1 (e▸hy);have:=this.mpr ((bF.mp hy).elim (gC _) λz=>gR _ (ka _ z));exact(iG.mp this).resolve_left ne
theorem IP(h:jW G S e T rs)(c:fc G S e T)(h':jW G S e T' rs')(c':fc G S e T'):T.Perm T':=
 zB ((NL.mp h.nd).imp λn e=>n (congrArg _ e)) ((NL.mp h'.nd).imp λn e=>n (congrArg _ e)) λp=>⟨zg h c' p,zg h' c p⟩
theorem Az(ps:List ah):∀sk:List aH,(sk.filter (bA ps (Str.ofString "code"))).length+(sk.filter (bA ps (Str.ofString "data"))).length<=sk.length
 |[]=>by simp
 |x::r=>by
  have ih:=Az ps r;rw[EC,EC,je];by_cases y1:bA ps (Str.ofString "code") x=true
  ·have y2:¬bA ps (Str.ofString "data") x=true:=λy2=>by
    have h1:=of_decide_eq_true y1;have h2:=of_decide_eq_true y2;rw[h1]at h2;exact absurd (Option.some.inj h2) (by decide +kernel)
   rw[if_pos y1,if_neg y2,je];omega
  ·rw[if_neg y1];split
   ·rw[je];omega
   ·omega
theorem jC(h:c7 T p q H)(hd:Rd H dd (.dT af))(s:∀x o,x≠dd->H x=some o->H' x=some o):c7 T p q H':=by
 have ne:∀{b:Addr}{o:HO},H b=some o->(∀k,o≠.dT k)->(∀u k,o≠.d9 u k)->b≠dd:=λ{b o} e n1 n2 z=>by
  rcases hd with y|⟨u,y⟩
  ·rw[z,y]at e;exact n1 _ (Option.some.inj e).symm
  ·rw[z,y]at e;exact n2 _ _ (Option.some.inj e).symm
 obtain⟨ps,h1,h2,h3⟩:=h;exact⟨ps,s _ _ (ne h1 (λk z=>by cases z) (λu k z=>by cases z)) h1,h2,h3.imp id λ⟨c,h4,h5⟩=>⟨c,h4,s _ _ (ne h5 (λk z=>by cases z) (λu k z=>by cases z)) h5⟩⟩
theorem xr(hd:Rd H dd (.dT af))(s:∀x o,x≠dd->H x=some o->H' x=some o):dC H H':=λb o ho e=>by
 refine s b o (λz=>?_) e;rcases hd with y|⟨u,y⟩<;>(rw[z,y]at e;rcases ho with ⟨_,rfl⟩|⟨_,rfl⟩<;>cases e)
theorem Ll(c:Ek ps e)(h:pQ ps e ms m ls ss af)(hin:(m.a,m.b)∈aC ps):(af.map (·.1)).Nodup/\(∀x∈af,∃i:Int,x.2=.int i)/\af.length<=100:=by
 have wok:=fN (c.mE h.nm) hin;have ll:ls.length=ss.length:=by have:=congrArg List.length h.aI;rwa [az,az]at this
 refine⟨?_,λx hx=>?_,?_⟩
 ·rw[h.af];exact m5 (by rw[gZ];exact ll.symm) (E7 h.ord wok.nd)
 ·rw[h.af]at hx;obtain⟨y,_,rfl⟩:=aM.mp hx;exact⟨_,rfl⟩
 ·have h1:af.length<=ls.length:=by rw[h.af];unfold cu;rw[List.length_map,List.length_zip];omega
  have h2:ls.length<=(bV ps ms (m.a,m.b)).length:=by
   obtain⟨sk,q1,_,rfl⟩:=h.ord;have h4:=q1.length_eq;rw[az]at h4;have h5:=Az ps sk;rw[cW];omega
  have:=wok.len;have:=c.jn.all;omega
theorem LS.one{H:Hp}{S D a0 b0:Addr}{e:Str}{G G' Tp:List ah}{xs ys:List (Addr×List ah)}{rs rs':List (Str×Str×Str)}{ms ms':List ao}{m m':ao}{l0 l':List aH}{ss ss':List aL}{af kvs':List (List Key×V)}{T:List Co}{qs:List ah}(ls:LS A H S D a0 b0 e G G' xs ys)(tc:jW (G.map ar) ((flat xs).map ar) e (Tp.map ar) rs)(cl:fc (G.map ar) ((flat xs).map ar) e (Tp.map ar))(mr:pQ (G++Tp) e ms m l0 ss af)
  (tc':jW (G'.map ar) ((flat ys).map ar) e T rs') (cl':fc (G'.map ar) ((flat ys).map ar) e T) (pm:(qs.map ar).Perm (G'.map ar++T)) (mr':pQ qs e ms' m' l' ss' kvs'):kvs'=af/\(af.map (·.1)).Nodup/\(∀x∈af,∃i:Int,x.2=.int i)/\af.length<=100:=by
 have ecp:=ls.cp;rw[fH,fH]at ecp;have eG:G'.map ar=G.map ar:=(List.cons.inj ecp).1;have eS:=jJ (List.cons.inj ecp).2;rw[eG,eS]at tc' cl';rw[eG]at pm;have nm1:(G.map ar++Tp.map ar)=(G++Tp).map ar:=aY.symm;have c:=xu (qs:=G++Tp) ls.bs ls.js tc cl (by rw[nm1]);have pm2:(qs.map ar).Perm ((G++Tp).map ar):=by rw[<-nm1];exact pm.trans ((IP tc' cl' tc cl).append_left _)
 refine⟨mr.one c pm2 mr',Ll c mr ?_⟩;obtain⟨m2,h1,h2⟩:=c.wL mr.nm;rw[mr.ent]at h1;cases h1;exact h2
theorem kz:∀{ps:List ah},(aC ps).length=(ps.map λp=>p.aI.length).sum
 |[]=>rfl
 |p::ps=>by
  have ih:=kz (ps:=ps);unfold aC at ih ⊢;rw[List.flatMap_cons,cW,ih];simp
theorem vJ:∀{ps:List ah},(ps.map λp=>p.aI.length).sum<=(ps.map ah.size).sum
 |[]=>bC _
 |p::ps=>by
  have ih:=vJ (ps:=ps);simp only[List.map_cons,List.sum_cons];have:p.aI.length<=p.size:=by unfold ah.size;omega
  omega
theorem D8(pm:ps.Perm qs):(aC ps).length=(aC qs).length:=by
 rw[kz,kz];exact(pm.map _).sum_nat
theorem A8(d:Drawn c t n ps)(hn:n<=61)(hr:AZ c t r)(pm:qs.Perm (ps++[r])):zW qs:=by
 have inn:∀p∈qs,p∈ps\/p=r:=λp hp=>(bF.mp (pm.mem_iff.mp hp)).imp id bX.mp;refine⟨λp hp m hm=>?_,λp hp s hs=>?_,λp hp q hq ne x hx y hy s1 s2=>?_,?_⟩
 ·rcases inn p hp with h|h
  ·obtain⟨_,h1,k,s,h2,h3,_⟩:=(d.ok p h).aK m hm;have:=(ig.mp h2).1;exact⟨by omega,by omega,h1⟩
  ·rw[h]at hm ⊢;obtain⟨s,e,_⟩:=hr.aI;rw[hr.Uc m hm,e];exact⟨by decide,by simp,.inr (.inl (hr.weak m hm))⟩
 ·rcases inn p hp with h|h
  ·have:=(d.ok p h).aI s hs;have st:=this.step;exact⟨by omega,by omega,this.kind⟩
  ·rw[h]at hs;have:=hr.kd s hs;rw[this.1,this.2];exact⟨by decide,by decide,.inr rfl⟩
 ·rcases inn p hp with h|h
  ·rcases inn q hq with h'|h'
   ·obtain⟨i,hi,rfl⟩:=wm h;obtain⟨j,hj,rfl⟩:=wm h';have pw:=BZ.mp d.tw;rcases MY i j with z|z|z
    ·exact pw i j hi hj z x hx y hy s1 s2
    ·subst z;exact absurd rfl ne
    ·exact Ne.symm (pw j i hj hi z y hy x hx s2 s1)
   ·rw[h']at hy;exact absurd ((hr.weak y hy).symm.trans s2).symm dD
  ·rw[h]at hx;exact absurd ((hr.weak x hx).symm.trans s1).symm dD
 ·rw[D8 pm,kz,aY,Lu];have h1:=vJ (ps:=ps);have h2:=d.size;obtain⟨s,e,_⟩:=hr.aI;simp[e];omega
theorem NY(ns:List Int)(h:ns.length<=63):∃ms:List Int,gp (ns.map V.int) (some 4) (some 203)=ms.map V.int/\ms.length<=61:=by
 refine⟨(ns.drop (HT.sIx (ns.map V.int).length 0 (some 4))).take (HT.sIx (ns.map V.int).length (ns.map V.int).length (some 203) - HT.sIx (ns.map V.int).length 0 (some 4)),?_,?_⟩
 ·unfold gp;rw[List.map_take,List.map_drop]
 ·have e:HT.sIx (ns.map V.int).length 0 (some 4)=min 4 ns.length:=by
   rw[show(some (4:Int))=some ((4:Nat):Int) from rfl,HT.sIx_nat,az]
  rw[jr,List.length_drop,e];omega
theorem Qp(T:Txt K mg A):bg P w K mg base dm 11 A.Nq A.pU ["_law_script"] (uu K A.br A.aN):=by
 refine T.Av.ok dU (λvs H Q E h=>?_) (λcdv Ar outer s H vs Q E hr h=>?_)
 ·obtain⟨a,ns,rfl,_⟩:=h;rfl
 ·obtain⟨sc,ns,rfl,hS,hl,hTn,hT,hne,k⟩:=h
  refine⟨_,(aQ (pS 1 dU.nd (pC (zY T) hr T.vd T.nA T.mV (aq (pv 0) (aq ag aa)))) (aQ (pS 2 dU.nd (pC (zY T) hr T.vd T.nA T.mV (aq (pv 0) (aq ag aa)))) (aQ (pS 3 dU.nd (eh GL (by rfl) T.yI Lq (aq (pC (zY T) hr T.vd T.nA T.mV (aq (pv 0) (aq ag aa))) aa))) (aQ (pS 4 dU.nd (pC (Oi T) hr T.Kt T.FA T.Df (aq (pC (PZ T) hr T.Kh T.Ei T.GR (aq (c9 (iS (K:=K) rfl) (pv 0) (dI ag) (dI ag)) (aq (pv 1) (aq (pv 2) (aq ib aa))))) (aq (pv 3) aa)))) (aQ (dY (cJ (bT (dR (K:=K) rfl) (pv 4) ag (λ_ _=>rfl)) (aq (pC (Ql T) hr T.Kg T.GC T.C6 (aq (pv 1) (aq (pv 2) (aq (a9 aa) aa)))) aa))) (aQ (pS 5 dU.nd (pC (nj T) hr T.lq T.jO T.jY (aq (pv 1) (aq (aF bB (pC (zY T) hr T.vd T.nA T.mV (aq (pv 0) (aq ag aa))) ag) aa)))) (aQ (fV (i:=6) dU.nd rfl (by walk_at "o") (gu ["_law_shelf"]) rfl (eU (K:=K) rfl (pv 4)) (λ_ _ _=>⟨(pn 0 (by walk_at "n")),bY,(cx (gu ["_law_piece"]) rfl (eU (K:=K) rfl (pv 0)) (λ_ _ _=>⟨(pn 0 (by walk_at "n")),bY,(pC (Oq T) hr T.Jx T.G9 T.Dv (aq (pv 0) aa))⟩))⟩)) (eB (u:=lB A) (aQ (pS 7 dU.nd (pC (Qd T) hr T.KL T.EF T.Gh (aq (pv 4) (aq (pv 5) aa)))) (aQ (pS 8 dU.nd (pC (N7 T) hr T.JD T.B6 T.DB (aq (pv 7) aa))) (aQ (pS 9 dU.nd (tx K (pC (Qm T) hr T.KW T.FF T.Dl (aq (pv 7) (aq (pC (NI T) hr T.KQ T.F8 T.Cg (aq (pv 7) (aq (pv 8) (aq (c9 (i5 (K:=K) rfl) (bU (a7 hr) (pv 8) (pv 5) (λ_ _=>rfl)) eV (dI ag)) aa)))) aa))))) (eB (u:=lC K A) (aQ (pS 10 dU.nd (pC (J_ T) hr T.Gp T.Ak T.yf (aq (bT (dR (K:=K) rfl) (pv 6) ag (λ_ _=>rfl)) (aq (c9 (iS (K:=K) rfl) (pv 6) (dI ag) eV) (aq (pv 5) aa))))) (aQ (bq (PW.pt (mS (ir (gD (pC (KZ T) hr T.CP T.yp T.zT (aq (pv 10) (aq (pv 9) aa))))) (lR (fF (yy hr.units (K:=K) rfl) (pv 6) (pv 4) (aS _))))) (bf (aJ ib)) cI) (aQ (cR (a7 hr) (pv 10) (aX (aq a5 (aq ag aa))) ag rfl) (eB (u:=lD K A) (aQ (pS 11 dU.nd (pC (J_ T) hr T.Gp T.Ak T.yf (aq (bT (dR (K:=K) rfl) (pv 6) ag (λ_ _=>rfl)) (aq (c9 (iS (K:=K) rfl) (pv 6) (dI ag) eV) (aq (pv 5) aa))))) (bf (aJ (wR (pC (KZ T) hr T.CP T.yp T.zT (aq (pv 11) (aq (pv 9) aa))) (xV (jg (o6 hr.units (K:=K) rfl) (pv 6) (pv 4) (aS _))))))) ?ld)))) ?lc)))) ?lb)))))))),?main⟩
  case main=>
   walk_at "rd";obtain⟨ms,em,lm⟩:=NY ns hl;refine⟨ns,hS,hl,by decide,λc=>⟨ns,hS,hl,by decide,λt=>⟨ns,hS,hl,by decide,λi2=>⟨_,hS,λp hp=>?_⟩⟩⟩⟩;rw[em];have s1:=aU (o:=HO.lst (ms.map V.int)) hp;refine⟨ms,aD.of aE,lm,λL ps H1 s2 hP fr1 dr=>⟨ps,⟨hP.top,hP.at_⟩,dr.cy,λS x4 H2 s3 hv fr2 nd2 BH pm=>?_⟩⟩;have sH2:=(s1.trans s2).trans s3;obtain⟨⟨a0,p0⟩,⟨a1,p1⟩,⟨a2,p2⟩,⟨a3,p3⟩,rfl⟩:=CY BH;have l3:=hv.at_ (a3,p3) (by simp);refine⟨_,aD.of hv.top,V.ref a3,(show iI [V.ref a0,V.ref a1,V.ref a2,V.ref a3] ((3:Nat):Int)=_ from cw rfl),.inl ⟨rfl,_,aD.of l3.top⟩,fe _,λq hq=>⟨aE,λr H3 s4 ra rp rf=>?_⟩⟩;have sq:=aU (o:=HO.lst []) hq;have s5:=sq.trans s4;have cy:=dr.cy;have p3l:p3.length<=12:=by
    have:=pm.length_eq;unfold flat at this;simp at this;omega
   refine⟨a3,rfl,_,s5 _ _ l3.top,by show(p3.map ah.v).length<sizeLine;rw[az,sizeLine_eq];omega,?_⟩;have bt:fZ H3 (upd H3 a3 (HO.lst (p3.map ah.v++[r.v]))) a3:=fZ.upd (s5 _ _ l3.top);have atP:∀p∈ps,p.At (upd H3 a3 (HO.lst (p3.map ah.v++[r.v]))):=λp hp=>(((hP.at_ p hp).mono s3).mono s5).but bt λy=>by
    obtain⟨zs,hz⟩:=(hP.at_ p hp).list y;rw[fr2 a3 (by simp)]at hz;cases hz
   have atR:r.At (upd H3 a3 (HO.lst (p3.map ah.v++[r.v]))):=ra.but bt λy=>by
    have:=rf a3 y;rw[sq _ _ l3.top]at this;cases this
   have inp:∀x∈[(a0,p0),(a1,p1),(a2,p2),(a3,p3)],∀p∈x.2,p∈ps:=λx hx p hp=>pm.mem_iff.mp (hW.mpr ⟨x,hx,hp⟩);have nS:S≠a3/\a0≠a3/\a1≠a3/\a2≠a3:=by
    simp at nd2;exact⟨nd2.1.2.2.2,nd2.2.1.2.2,nd2.2.2.1.2,nd2.2.2.2⟩
   have hv4:v5 (upd H3 a3 (HO.lst (p3.map ah.v++[r.v]))) S ((a0,p0)::[(a1,p1),(a2,p2),(a3,p3++[r])]):=by
    refine⟨by rw[ae nS.1];exact s5 _ _ hv.top,λx hx=>?_⟩;have old:∀y∈[(a0,p0),(a1,p1),(a2,p2),(a3,p3)],y.1≠a3->PL (upd H3 a3 (HO.lst (p3.map ah.v++[r.v]))) y.1 y.2:=λy hy n=>⟨by rw[ae n];exact s5 _ _ (hv.at_ y hy).top,λp hp=>atP p (inp y hy p hp)⟩;simp only[List.mem_cons,List.not_mem_nil,or_false]at hx;rcases hx with rfl|rfl|rfl|rfl
    ·exact old _ (by simp) nS.2.1
    ·exact old _ (by simp) nS.2.2.1
    ·exact old _ (by simp) nS.2.2.2
    ·refine⟨by rw[aE,aY];rfl,λp hp=>?_⟩;rcases bF.mp hp with y|y
     ·exact atP p (inp (a3,p3) (by simp) p y)
     ·rw[bX.mp y];exact atR
   have pm4:(p0++flat [(a1,p1),(a2,p2),(a3,p3++[r])]).Perm (ps++[r]):=by
    refine List.Perm.trans ?_ (pm.append_right [r]);unfold flat;simp
   have a3n:H a3=none:=eP (s1.trans s2) (fr2 a3 (by simp));have sH3:=sH2.trans s5;have sH4:ay H (upd H3 a3 (HO.lst (p3.map ah.v++[r.v]))):=eR a3n sH3;refine⟨ns,sH4.seq hS,hl,by decide,λi3=>⟨by decide,?_⟩⟩;obtain⟨bs,nn⟩:=BN dr lm rp pm4 (e:=nameOf c (i3%12)) ⟨i3%12,by omega,by omega,rfl⟩;have tb:c7 A.aN Kn Kc H:=⟨#[],hT,trivial,.inl rfl⟩
   have tb4:c7 A.aN Kn Kc (upd H3 a3 (HO.lst (p3.map ah.v++[r.v]))):=tb.more sH4;have tn4:c7 A.br xB wV (upd H3 a3 (HO.lst (p3.map ah.v++[r.v]))):=c7.more ⟨#[],hTn,trivial,.inl rfl⟩ sH4;have jb:=A8 dr lm rp pm4;generalize upd H3 a3 (HO.lst (p3.map ah.v++[r.v]))=H4 at *;refine wz hv4 (by simp) (λx hx=>⟨?_,λp hp=>bs.uW p ?_⟩) λD ys H5 s6 hy _ ec=>?_
   ·have h1:x.2.length<=(flat ((a0,p0)::[(a1,p1),(a2,p2),(a3,p3++[r])])).length:=by
     obtain⟨u,v,e⟩:=List.append_of_mem hx;rw[e];unfold flat;simp;omega
    have h2:=bs.cy;have h3:flat ((a0,p0)::[(a1,p1),(a2,p2),(a3,p3++[r])])=p0++flat [(a1,p1),(a2,p2),(a3,p3++[r])]:=rfl;rw[h3]at h1;omega
   ·have h3:flat ((a0,p0)::[(a1,p1),(a2,p2),(a3,p3++[r])])=p0++flat [(a1,p1),(a2,p2),(a3,p3++[r])]:=rfl;rw[<-h3];exact hW.mpr ⟨x,hx,hp⟩
   ·cases ys with
    |nil=>cases ec
    |cons y0 yr=>
     obtain⟨b0,g0⟩:=y0;rw[fH,fH]at ec;injection ec with ec1 ec2;have ec1:g0.map ar=p0.map ar:=ec1;have bh:=Cu bs ec1 (jJ ec2);refine⟨_,_,_,_,S,D,a0,b0,_,p0,g0,_,yr,rfl,⟨kU hv4 s6,hy,by rw[fH,fH,ec2];exact congrArg (·::_) ec1,bs,bh,jb,jb.co (λq hq=>?_) bh.nd,tb4.more s6,tn4.more s6,hne⟩,k⟩;have em:(g0++flat yr).map ar=(p0++flat [(a1,p1),(a2,p2),(a3,p3++[r])]).map ar:=by rw[aY,aY,ec1,jJ ec2]
     obtain⟨p',hp',e'⟩:=aM.mp (show ar q∈_ from em▸aM.mpr ⟨q,hq,rfl⟩);exact⟨p',hp',e'.symm⟩
  case lb=>
   rintro E σ H ⟨b0,b1,b2,b3,S,Dh,a0,c0,e,G,G',xs,ys,rfl,ls,k⟩;walk_at "rd";refine⟨a0,G,xs,ls.u7,ls.bs,λd Tp rs H1 s1 hd ed sub tc cl=>?_⟩;have nm1:(G.map ar++Tp.map ar)=(G++Tp).map ar:=aY.symm;have c:=xu (qs:=G++Tp) ls.bs ls.js tc cl (by rw[nm1]);have sb:∀p∈G++Tp,p∈G++flat xs:=λp hp=>(bF.mp hp).elim (gC _) λy=>gR _ (sub p y);have th:Jw H1 d (G++Tp):=⟨ed,λp hp=>(EW ls.u7 p (sb p hp)).mono s1,c.nd,c.bn,c.cy⟩
   refine⟨G++Tp,th,c.jn,λdN ms H2 s2 hN tab nm=>?_⟩;obtain⟨m,hm,hin⟩:=c.wL nm;have dg:bx H2 dN (V.str e) (some (V.ref m.t)):=by
    have:=bx.k (k:=.inr e) tab.top;rw[lO,hm]at this;exact this
   have ma:=tab.at_ m (tq hm);refine⟨_,dg,_,rfl,_,aR.of ma,(by intro z;have:=z.2;revert this;show ¬HT.sIx 3 3 (some 2)=3;decide),λt2 ht2=>?_⟩;rw[show gp [V.str m.a,V.int m.b,V.int m.c] none (some 2)=kT (m.a,m.b) from rfl];have s3:=aU (o:=HO.tup (kT (m.a,m.b))) ht2;have th3:Jw (upd H2 t2 (HO.tup (kT (m.a,m.b)))) d (G++Tp):=th.mono (s2.trans s3);refine⟨G++Tp,th3,ms,tab.mono s3,(m.a,m.b),aE,hin,c.jn.all,c.mE nm,λl ks H3 s4 hl ky ek=>?_⟩;have wok:=fN (c.mE nm) hin;refine⟨G++Tp,th3.mono s4,c.jn,ks,ky,?_,by rw[ek];exact wok.nd,λx hx=>yA c.nd ?_,λq dd n ls1 ss H4 s5 hdd hq ord aI ed=>⟨_,aR.of hq,V.ref dd,rfl,?_⟩⟩
   ·have h1:=wok.len;have h2:=c.jn.all;have h3:=congrArg List.length ek;rw[az,az]at h3;omega
   ·have:x.2∈ks.map (·.2):=aM.mpr ⟨x,hx,rfl⟩;rw[ek]at this;obtain⟨y,hy,e'⟩:=aM.mp this;rw[<-e'];exact wok.Lp y hy
   have sA:ay H H4:=(((s1.trans s2).trans s3).trans s4).trans s5;exact⟨_,_,_,_,_,_,S,Dh,a0,c0,dd,e,G,G',Tp,xs,ys,rs,ms,m,ls1,ss,_,rfl,ls.same (ko sA) (ls.tt.more sA) (ls.tn.more sA),tc,cl,⟨nm,hm,by rw[<-ek];exact ord,aI,rfl⟩,.inl ed,k⟩
  case lc=>
   rintro E σ H ⟨b0,b1,b2,b3,b7,b8,S,Dh,a0,c0,dd,e,G,G',Tp,xs,ys,rs,ms,m,ls0,ss,af,rfl,ls,tc,cl,mr,hdd,k⟩;walk_at "rd";walk_at "11";refine⟨_,aD.of ls.hand.top,V.ref c0,KC,_,aD.of ls.hand.top,λp hp=>?_⟩;rw[Qf];have ed:(((c0,G')::ys).map λy=>V.ref y.1).drop 1=ys.map λy=>V.ref y.1:=rfl;rw[ed];have s0:=aU (o:=HO.lst (ys.map λy=>V.ref y.1)) hp;refine⟨c0,rfl,G',ys,⟨gK (ls.hand.at_ (c0,G') lE) s0,⟨aE,λy hy=>gK (ls.hand.at_ y (ka _ hy)) s0⟩,ls.bh⟩,ls.jh,ls.tt.more s0,ls.tn.more s0,ls.ne,λd Tc rs' qs ms' m' ls' ss' kvs' H1 n1 t1 t2 hd ed' tc' cl' pm mr'=>?_⟩;obtain⟨ek,q1,q2,q3⟩:=ls.one tc cl mr tc' cl' pm mr';subst ek;have rd1:Rd H1 dd (.dT kvs'):=by
    rcases hdd with h|⟨o,h⟩
    ·exact .inl (n1 _ _ (λ_ z=>by cases z) (s0 _ _ h))
    ·exact .inr ⟨o,n1 _ _ (λ_ z=>by cases z) (s0 _ _ h)⟩
   have ls1:=ls.same (lt_trans (ko s0) n1.lt) t1 t2;have dn:H d=none:=eP s0 hd;have ndd:d≠dd:=λz=>by
    rcases hdd with h|⟨o,h⟩<;>(rw[<-z,dn]at h;cases h)
   refine⟨kvs',ed',rd1,ndd,q1,q2,q3,λH2 kp rd2=>?_⟩;have ls2:=ls1.same (xr rd1 kp) (jC ls1.tt rd1 kp) (jC ls1.tn rd1 kp);refine⟨_,_,.inl ⟨kK ls2.hand,kK ls2.u7⟩,Aq _,?_⟩;refine⟨_,rfl,?_⟩;rw[ls.cp,fj,if_neg (by decide)];refine⟨by rw[sizeLine_eq];decide,λt ht=>?_⟩;have s3:=aU (o:=HO.tup [V.str (Str.ofString "more"),V.int 0]) ht;have d2:=s3 _ _ (kp _ _ ndd ed');have bt:∀x o,x≠d->upd H2 t (HO.tup [V.str (Str.ofString "more"),V.int 0]) x=some o->upd (upd H2 t (HO.tup [V.str (Str.ofString "more"),V.int 0])) d (.dT (putK kvs' [.inr (Str.ofString "more"),.inl 0] (.int 1))) x=some o:=λx o n e=>by rw[ae n];exact e
   refine⟨_,eM.t (k:=[.inr (Str.ofString "more"),.inl 0]) d2 aE (by rw[sizeLine_eq];omega),b0,b1,b2,b3,b7,b8,_,S,Dh,a0,c0,dd,e,G,G',Tp,xs,ys,rs,ms,m,ls0,ss,kvs',rfl,(ls2.same (ko s3) (ls2.tt.more s3) (ls2.tn.more s3)).same (xr (.inl d2) bt) (jC (ls2.tt.more s3) (.inl d2) bt) (jC (ls2.tn.more s3) (.inl d2) bt),tc,cl,mr,?_,k⟩;rcases rd2 with h|⟨o,h⟩
   ·exact .inl (bt _ _ (Ne.symm ndd) (s3 _ _ h))
   ·exact .inr ⟨o,bt _ _ (Ne.symm ndd) (s3 _ _ h)⟩
  case ld=>
   rintro E σ H ⟨b0,b1,b2,b3,b7,b8,b10,S,Dh,a0,c0,dd,e,G,G',Tp,xs,ys,rs,ms,m,ls0,ss,af,rfl,ls,tc,cl,mr,hdd,k⟩;walk_at "rd";walk_at "11";refine⟨_,aD.of ls.hand.top,V.ref c0,KC,_,aD.of ls.hand.top,λp hp=>?_⟩;rw[Qf];have ed:(((c0,G')::ys).map λy=>V.ref y.1).drop 1=ys.map λy=>V.ref y.1:=rfl;rw[ed];have s0:=aU (o:=HO.lst (ys.map λy=>V.ref y.1)) hp;refine⟨c0,rfl,G',ys,⟨gK (ls.hand.at_ (c0,G') lE) s0,⟨aE,λy hy=>gK (ls.hand.at_ y (ka _ hy)) s0⟩,ls.bh⟩,ls.jh,ls.tt.more s0,ls.tn.more s0,ls.ne,λd Tc rs' qs ms' m' ls' ss' kvs' H1 n1 t1 t2 hd ed' tc' cl' pm mr'=>?_⟩;obtain⟨ek,q1,q2,q3⟩:=ls.one tc cl mr tc' cl' pm mr';subst ek;have rd1:Rd H1 dd (.dT kvs'):=by
    rcases hdd with h|⟨o,h⟩
    ·exact .inl (n1 _ _ (λ_ z=>by cases z) (s0 _ _ h))
    ·exact .inr ⟨o,n1 _ _ (λ_ z=>by cases z) (s0 _ _ h)⟩
   have ls1:=ls.same (lt_trans (ko s0) n1.lt) t1 t2;have dn:H d=none:=eP s0 hd;have ndd:d≠dd:=λz=>by
    rcases hdd with h|⟨o,h⟩<;>(rw[<-z,dn]at h;cases h)
   refine⟨kvs',ed',rd1,ndd,q1,q2,q3,λH2 kp rd2=>?_⟩;have ls2:=ls1.same (xr rd1 kp) (jC ls1.tt rd1 kp) (jC ls1.tn rd1 kp);refine⟨_,_,.inl ⟨kK ls2.hand,kK ls2.u7⟩,Aq _,?_⟩;rw[ls.cp,fj];exact k H2
end
@[elab_as_elim] theorem fB{α:Type}{p:List α->Prop}(us:List α)(h:us.length=1)(f:∀a,p [a]):p us:=by
 match us,h with | [a],_=>exact f a
@[elab_as_elim] theorem g9{α:Type}{p:List α->Prop}(us:List α)(h:us.length=2)(f:∀a b,p [a,b]):p us:=by
 match us,h with | [a,b],_=>exact f a b
@[elab_as_elim] theorem mF{α:Type}{p:List α->Prop}(us:List α)(h:us.length=3)(f:∀a b c,p [a,b,c]):p us:=by
 match us,h with | [a,b,c],_=>exact f a b c
@[elab_as_elim] theorem BH{α:Type}{p:List α->Prop}(us:List α)(h:us.length=4)(f:∀a b c d,p [a,b,c,d]):p us:=by
 match us,h with | [a,b,c,d],_=>exact f a b c d
def FO(K:Wf)(f:Addr)(st:Stmt)(x q:Str):Prop:=∃(oc:Value) (od an:Option Addr) (sl:Array (Option Value)) (kV dc pm cd ct:Value),K.lookup f=some ⟨oc,od,.func (fnOf x q (fT st) (d6 st) (ai st) .none kV dc pm an cd ct),sl⟩/\codeIn K cd q=true/\keepIn K (.ref f)=true
def Uj(K:Wf)(bm:Addr):Prop:=∃sl,bm≠builtinsNs/\bm≠mainGlobals/\K.lookup bm=some ⟨.type "module", some builtinsNs,.plain,sl⟩
theorem bc{K:Wf}{f:Addr}{st:Stmt}{x q:Str}(h:FO K f st x q):∃fd,dQ K x q st f fd/\keepIn K (.ref f)=true:=by
 obtain⟨_,_,_,_,_,_,_,_,_,l,e,k⟩:=h;exact⟨_,qC l e k,k⟩
theorem all_mk{l:PySem.W.OpenLaw}{w:World}{K:Wf}{h:Heap}{mg:So}{fa f_qxy f_qqk f_qwv f_qzq f_laid f_qqx f_qxz f_qwq f_tells f_wants f_qxw f_qwx f_aims f_qxk f_qzw f_taken f_qqz f_qqq f_qqy f_qyx f_qqw f_qqj f_qxx f_qww f_qxv f_kept f_qwy f_qwz f_qqv f_qwj f_qzj f_qyw f_qwk f_qyk f_qxq f_qzz f_qzk f_qyz f_qzy f_qyv f_qyj f_qyy f_qzx f_qzv f_law C_qxj bm br aN:Addr}{vQ:Tok}(X:K.In h)(G:h.Ns mainGlobals mg)(hfa:mg "law" = some (.ref fa))
  (ac_qxj:nsIn K mainGlobals "Taking" = some (some (.ref C_qxj)))
  (a_qxy:nsIn K mainGlobals "wrapped" = some (some (.ref f_qxy)))
  (l_qxy:FO K f_qxy Dk "wrapped" "wrapped")
  (a_qqk:nsIn K mainGlobals "pieces_by_name" = some (some (.ref f_qqk)))
  (l_qqk:FO K f_qqk Dp "pieces_by_name" "pieces_by_name")
  (a_qwv:nsIn K mainGlobals "copied_piece" = some (some (.ref f_qwv)))
  (l_qwv:FO K f_qwv Dw "copied_piece" "copied_piece")
  (a_qzq:nsIn K mainGlobals "copied_fills" = some (some (.ref f_qzq)))
  (l_qzq:FO K f_qzq DI "copied_fills" "copied_fills")
  (a_laid:nsIn K mainGlobals "laid" = some (some (.ref f_laid)))
  (l_laid:FO K f_laid xW "laid" "laid")
  (a_qqx:nsIn K mainGlobals "laid_with_ends" = some (some (.ref f_qqx)))
  (l_qqx:FO K f_qqx CD "laid_with_ends" "laid_with_ends")
  (a_qxz:nsIn K mainGlobals "in_order" = some (some (.ref f_qxz)))
  (l_qxz:FO K f_qxz GA "in_order" "in_order")
  (a_qwq:nsIn K mainGlobals "multiple_from" = some (some (.ref f_qwq)))
  (l_qwq:FO K f_qwq Dy "multiple_from" "multiple_from")
  (a_tells:nsIn K mainGlobals "tells" = some (some (.ref f_tells)))
  (l_tells:FO K f_tells pE "tells" "tells")
  (a_wants:nsIn K mainGlobals "wants" = some (some (.ref f_wants)))
  (l_wants:FO K f_wants pI "wants" "wants")
  (a_qxw:nsIn K mainGlobals "names_of" = some (some (.ref f_qxw)))
  (l_qxw:RA K f_qxw br y9 "names_of" "names_of")
  (a_qwx:nsIn K mainGlobals "refuse_twice" = some (some (.ref f_qwx)))
  (l_qwx:FO K f_qwx Gw "refuse_twice" "refuse_twice")
  (a_aims:nsIn K mainGlobals "aims" = some (some (.ref f_aims)))
  (l_aims:FO K f_aims xO "aims" "aims")
  (a_qxk:nsIn K mainGlobals "aim_by" = some (some (.ref f_qxk)))
  (l_qxk:FO K f_qxk DG "aim_by" "aim_by")
  (a_qzw:nsIn K mainGlobals "places_told" = some (some (.ref f_qzw)))
  (l_qzw:FO K f_qzw Er "places_told" "places_told")
  (a_taken:nsIn K mainGlobals "taken" = some (some (.ref f_taken)))
  (l_taken:RA K f_taken aN kH "taken" "taken")
  (a_qqz:findIn K (.ref C_qxj) "__init__" = some (some (.ref f_qqz)))
  (i_qqz:isFn K (.ref f_qqz)=true)
  (l_qqz:FO K f_qqz B9 "__init__" "Taking.__init__")
  (a_qqq:findIn K (.ref C_qxj) "take_for_pieces" = some (some (.ref f_qqq)))
  (i_qqq:isFn K (.ref f_qqq)=true)
  (l_qqq:FO K f_qqq Fv "take_for_pieces" "Taking.take_for_pieces")
  (a_qqy:findIn K (.ref C_qxj) "take_for" = some (some (.ref f_qqy)))
  (i_qqy:isFn K (.ref f_qqy)=true)
  (l_qqy:FO K f_qqy Gv "take_for" "Taking.take_for")
  (a_qyx:nsIn K mainGlobals "pieces_on" = some (some (.ref f_qyx)))
  (l_qyx:FO K f_qyx C1 "pieces_on" "pieces_on")
  (a_qqw:nsIn K mainGlobals "refuse_same_name" = some (some (.ref f_qqw)))
  (l_qqw:FO K f_qqw DU "refuse_same_name" "refuse_same_name")
  (a_qqj:nsIn K mainGlobals "first_tellers" = some (some (.ref f_qqj)))
  (l_qqj:FO K f_qqj DE "first_tellers" "first_tellers")
  (a_qxx:nsIn K mainGlobals "reached" = some (some (.ref f_qxx)))
  (l_qxx:FO K f_qxx Hq "reached" "reached")
  (a_qww:nsIn K mainGlobals "keys_aimed_at" = some (some (.ref f_qww)))
  (l_qww:FO K f_qww FZ "keys_aimed_at" "keys_aimed_at")
  (a_qxv:nsIn K mainGlobals "map_of" = some (some (.ref f_qxv)))
  (l_qxv:FO K f_qxv F2 "map_of" "map_of")
  (a_kept:nsIn K mainGlobals "kept" = some (some (.ref f_kept)))
  (l_kept:FO K f_kept wB "kept" "kept")
  (a_qwy:nsIn K mainGlobals "_law_cell_at" = some (some (.ref f_qwy)))
  (l_qwy:FO K f_qwy E4 "_law_cell_at" "_law_cell_at")
  (a_qwz:nsIn K mainGlobals "_law_name_by" = some (some (.ref f_qwz)))
  (l_qwz:FO K f_qwz CI "_law_name_by" "_law_name_by")
  (a_qqv:nsIn K mainGlobals "_law_word_row" = some (some (.ref f_qqv)))
  (l_qqv:FO K f_qqv ED "_law_word_row" "_law_word_row")
  (a_qwj:nsIn K mainGlobals "_law_told_by" = some (some (.ref f_qwj)))
  (l_qwj:FO K f_qwj Cq "_law_told_by" "_law_told_by")
  (a_qzj:nsIn K mainGlobals "_law_drawn" = some (some (.ref f_qzj)))
  (l_qzj:FO K f_qzj GI "_law_drawn" "_law_drawn")
  (a_qyw:nsIn K mainGlobals "_law_copy" = some (some (.ref f_qyw)))
  (l_qyw:FO K f_qyw F5 "_law_copy" "_law_copy")
  (a_qwk:nsIn K mainGlobals "_law_shelved" = some (some (.ref f_qwk)))
  (l_qwk:FO K f_qwk CG "_law_shelved" "_law_shelved")
  (a_qyk:nsIn K mainGlobals "_law_rest" = some (some (.ref f_qyk)))
  (l_qyk:FO K f_qyk Gq "_law_rest" "_law_rest")
  (a_qxq:nsIn K mainGlobals "_law_told" = some (some (.ref f_qxq)))
  (l_qxq:FO K f_qxq Ho "_law_told" "_law_told")
  (a_qzz:nsIn K mainGlobals "_law_wanted" = some (some (.ref f_qzz)))
  (l_qzz:FO K f_qzz DX "_law_wanted" "_law_wanted")
  (a_qzk:nsIn K mainGlobals "_law_first" = some (some (.ref f_qzk)))
  (l_qzk:FO K f_qzk F0 "_law_first" "_law_first")
  (a_qyz:nsIn K mainGlobals "_law_gone" = some (some (.ref f_qyz)))
  (l_qyz:FO K f_qyz Em "_law_gone" "_law_gone")
  (a_qzy:nsIn K mainGlobals "_law_stands" = some (some (.ref f_qzy)))
  (l_qzy:FO K f_qzy CL "_law_stands" "_law_stands")
  (a_qyv:nsIn K mainGlobals "_law_spot" = some (some (.ref f_qyv)))
  (l_qyv:FO K f_qyv FQ "_law_spot" "_law_spot")
  (a_qyj:nsIn K mainGlobals "_law_kept" = some (some (.ref f_qyj)))
  (l_qyj:FO K f_qyj DP "_law_kept" "_law_kept")
  (a_qyy:nsIn K mainGlobals "_law_laid" = some (some (.ref f_qyy)))
  (l_qyy:FO K f_qyy Fw "_law_laid" "_law_laid")
  (a_qzx:nsIn K mainGlobals "_law_whole" = some (some (.ref f_qzx)))
  (l_qzx:FO K f_qzx CB "_law_whole" "_law_whole")
  (a_qzv:nsIn K mainGlobals "_law_alike" = some (some (.ref f_qzv)))
  (l_qzv:FO K f_qzv G6 "_law_alike" "_law_alike")
  (a_law:nsIn K mainGlobals "law" = some (some (.ref f_law)))
  (l_law:FO K f_law E9 "law" "law")
  (pg_qxj:plainGet K C_qxj Str.empty=true)
  (hd_qxj:hasDictIn K C_qxj=true)
  (po_qxj:plainOver K C_qxj=true)
  (sa_qxj:findIn K (.ref C_qxj) "__setattr__" = some (some (.builtin "object.__setattr__")))
  (mm_qxj:makesIn K C_qxj=true)
  (kc_qxj:keepIn K (.ref C_qxj)=true)
  (J8:specialIn K (.builtin "object.__class__") "__get__" = some (some (.builtin "getset_descriptor.__get__")))
  (J3:takesIn K (.builtin "object.__class__")=some true)
  (bR:findIn K (.ref C_qxj) "pieces" = some none)
  (dq:findIn K (.ref C_qxj) "reasons" = some none)
  (bM:findIn K (.ref C_qxj) "told_by_given" = some none)
  (bO:findIn K (.ref C_qxj) "on_shelves" = some none)
  (bw:findIn K (.ref C_qxj) "from_shelves" = some none)
  (c8:findIn K (.ref C_qxj) "unmet" = some none)
  (z_:nsIn K mainGlobals "WORD_COUNT" = some (some (.int 4294967296 vQ)))
  (yI:nsIn K mainGlobals "abs" = some none)
  (qg:nsIn K mainGlobals "bool" = some none)
  (jx:nsIn K mainGlobals "dict" = some none)
  (kY:nsIn K mainGlobals "int" = some none)
  (bZ:nsIn K mainGlobals "isinstance" = some none)
  (dJ:nsIn K mainGlobals "len" = some none)
  (gH:nsIn K mainGlobals "list" = some none)
  (iR:nsIn K mainGlobals "range" = some none)
  (fO:nsIn K mainGlobals "reversed" = some none)
  (yR:nsIn K mainGlobals "set" = some none)
  (cQ:nsIn K mainGlobals "sorted" = some none)
  (yQ:nsIn K mainGlobals "zip" = some none)
  (a_bm:nsIn K mainGlobals "__builtins__" = some (some (.ref bm)))
  (l_bm:Uj K bm):
  ∃fd:FuncData,(∀(s:Shared) (v:Value),BindsTo s fd ⟨[v],[]⟩ [("_law_script", v)])/\∀base:Heap,K.In base->base.Ns mainGlobals mg->bg l.prog w K mg base dm 11 fa fd ["_law_script"] (uu K br aN):=by
 have e:=hfa.symm.trans (mg_of X G a_law);cases e;obtain⟨_,ye,Fx⟩:=bc l_qxy;have DV:=ye.binds (ps:=["number"]) λ_ _ _ _ _ _ us hl=>fB us hl λ_=>rfl;obtain⟨_,yk,zG⟩:=bc l_qqk;have AB:=yk.binds (ps:=["pieces"]) λ_ _ _ _ _ _ us hl=>fB us hl λ_=>rfl;obtain⟨_,yx,Ee⟩:=bc l_qwv;have B_:=yx.binds (ps:=["piece"]) λ_ _ _ _ _ _ us hl=>fB us hl λ_=>rfl;obtain⟨_,yi,DH⟩:=bc l_qzq;have EX:=yi.binds (ps:=["fills"]) λ_ _ _ _ _ _ us hl=>fB us hl λ_=>rfl;obtain⟨_,qW,xf⟩:=bc l_laid;have wJ:=qW.binds (ps:=["pieces", "keys"]) λ_ _ _ _ _ _ us hl=>g9 us hl λ_ _=>rfl;obtain⟨_,xX,C4⟩:=bc l_qqx;have Ff:=xX.binds (ps:=["pieces", "keys"]) λ_ _ _ _ _ _ us hl=>g9 us hl λ_ _=>rfl;obtain⟨_,yb,EY⟩:=bc l_qxz;have Gk:=yb.binds (ps:=["by_name", "keys"]) λ_ _ _ _ _ _ us hl=>g9 us hl λ_ _=>rfl;obtain⟨_,zH,CZ⟩:=bc l_qwq;have DQ:=zH.binds (ps:=["number", "step"]) λ_ _ _ _ _ _ us hl=>g9 us hl λ_ _=>rfl;obtain⟨_,kG,pX⟩:=bc l_tells;have qj:=kG.binds (ps:=["piece"]) λ_ _ _ _ _ _ us hl=>fB us hl λ_=>rfl;obtain⟨_,kL,tS⟩:=bc l_wants;have rP:=kL.binds (ps:=["piece"]) λ_ _ _ _ _ _ us hl=>fB us hl λ_=>rfl;obtain⟨_,_,_,_,_,_,_,_,_,l_qxw,e_qxw,zp,h_qxw⟩:=l_qxw;have yo:=qC l_qxw e_qxw zp
 have G0:=yo.binds (ps:=["pieces"]) λ_ _ _ _ _ _ us hl=>fB us hl λ_=>rfl;obtain⟨_,yH,DF⟩:=bc l_qwx;have C2:=yH.binds (ps:=["ordered"]) λ_ _ _ _ _ _ us hl=>fB us hl λ_=>rfl;obtain⟨_,oJ,wA⟩:=bc l_aims;have xh:=oJ.binds (ps:=["piece", "names", "fills"]) λ_ _ _ _ _ _ us hl=>mF us hl λ_ _ _=>rfl;obtain⟨_,yl,D4⟩:=bc l_qxk;have Ep:=yl.binds (ps:=["piece_name", "own", "names", "fill"]) λ_ _ _ _ _ _ us hl=>BH us hl λ_ _ _ _=>rfl;obtain⟨_,zu,nY⟩:=bc l_qzw;have m6:=zu.binds (ps:=["piece", "told_by"]) λ_ _ _ _ _ _ us hl=>g9 us hl λ_ _=>rfl;obtain⟨_,_,_,_,_,_,_,_,_,l_taken,e_taken,kA,h_taken⟩:=l_taken;have ki:=qC l_taken e_taken kA;have uC:=ki.binds (ps:=["given", "shelves", "entry"]) λ_ _ _ _ _ _ us hl=>mF us hl λ_ _ _=>rfl;obtain⟨_,zm,Kk⟩:=bc l_qqz;have Ca:=zm.binds (ps:=["self", "given", "shelves", "entry"]) λ_ _ _ _ _ _ us hl=>BH us hl λ_ _ _ _=>rfl;obtain⟨_,zj,DZ⟩:=bc l_qqq;have DR:=zj.binds (ps:=["self"]) λ_ _ _ _ _ _ us hl=>fB us hl λ_=>rfl;obtain⟨_,z7,Dq⟩:=bc l_qqy;have zA:=z7.binds (ps:=["self", "name", "by"]) λ_ _ _ _ _ _ us hl=>mF us hl λ_ _ _=>rfl;obtain⟨_,zQ,CH⟩:=bc l_qyx;have CM:=zQ.binds (ps:=["shelves"]) λ_ _ _ _ _ _ us hl=>fB us hl λ_=>rfl;obtain⟨_,Ao,GZ⟩:=bc l_qqw
 have Dd:=Ao.binds (ps:=["pieces"]) λ_ _ _ _ _ _ us hl=>fB us hl λ_=>rfl;obtain⟨_,zh,yu⟩:=bc l_qqj;have Aw:=zh.binds (ps:=["pieces"]) λ_ _ _ _ _ _ us hl=>fB us hl λ_=>rfl;obtain⟨_,x6,E6⟩:=bc l_qxx;have DO:=x6.binds (ps:=["pieces", "names", "root"]) λ_ _ _ _ _ _ us hl=>mF us hl λ_ _ _=>rfl;obtain⟨_,AF,B8⟩:=bc l_qww;have B5:=AF.binds (ps:=["piece", "number", "names"]) λ_ _ _ _ _ _ us hl=>mF us hl λ_ _ _=>rfl;obtain⟨_,zN,Ak⟩:=bc l_qxv;have yf:=zN.binds (ps:=["given", "shelves", "entry"]) λ_ _ _ _ _ _ us hl=>mF us hl λ_ _ _=>rfl;obtain⟨_,qO,wN⟩:=bc l_kept;have xw:=qO.binds (ps:=["pieces", "names", "entry"]) λ_ _ _ _ _ _ us hl=>mF us hl λ_ _ _=>rfl;obtain⟨_,zd,nA⟩:=bc l_qwy;have mV:=zd.binds (ps:=["_law_script", "_law_k"]) λ_ _ _ _ _ _ us hl=>g9 us hl λ_ _=>rfl;obtain⟨_,y6,jO⟩:=bc l_qwz;have jY:=y6.binds (ps:=["_law_cell", "_law_k"]) λ_ _ _ _ _ _ us hl=>g9 us hl λ_ _=>rfl;obtain⟨_,Al,F9⟩:=bc l_qqv;have ER:=Al.binds (ps:=["_law_cell", "_law_names_by"]) λ_ _ _ _ _ _ us hl=>g9 us hl λ_ _=>rfl;obtain⟨_,zM,Gy⟩:=bc l_qwj;have G2:=zM.binds (ps:=["_law_pieces", "_law_cell", "_law_names_by", "_law_strict"]) λ_ _ _ _ _ _ us hl=>BH us hl λ_ _ _ _=>rfl;obtain⟨_,yP,Ei⟩:=bc l_qzj
 have GR:=yP.binds (ps:=["_law_cells", "_law_names_by", "_law_titles_by", "_law_strict"]) λ_ _ _ _ _ _ us hl=>BH us hl λ_ _ _ _=>rfl;obtain⟨_,AH,G9⟩:=bc l_qyw;have Dv:=AH.binds (ps:=["_law_piece"]) λ_ _ _ _ _ _ us hl=>fB us hl λ_=>rfl;obtain⟨_,yc,FA⟩:=bc l_qwk;have Df:=yc.binds (ps:=["_law_pieces", "_law_cell"]) λ_ _ _ _ _ _ us hl=>g9 us hl λ_ _=>rfl;obtain⟨_,zk,GC⟩:=bc l_qyk;have C6:=zk.binds (ps:=["_law_names_by", "_law_titles_by", "_law_there"]) λ_ _ _ _ _ _ us hl=>mF us hl λ_ _ _=>rfl;obtain⟨_,ym,ES⟩:=bc l_qxq;have Fy:=ym.binds (ps:=["_law_piece"]) λ_ _ _ _ _ _ us hl=>fB us hl λ_=>rfl;obtain⟨_,yX,AI⟩:=bc l_qzz;have zi:=yX.binds (ps:=["_law_piece"]) λ_ _ _ _ _ _ us hl=>fB us hl λ_=>rfl;obtain⟨_,yL,Ga⟩:=bc l_qzk;have CT:=yL.binds (ps:=["_law_some", "_law_name"]) λ_ _ _ _ _ _ us hl=>g9 us hl λ_ _=>rfl;obtain⟨_,yT,EF⟩:=bc l_qyz;have Gh:=yT.binds (ps:=["_law_some", "_law_entry"]) λ_ _ _ _ _ _ us hl=>g9 us hl λ_ _=>rfl;obtain⟨_,xZ,B6⟩:=bc l_qzy;have DB:=xZ.binds (ps:=["_law_there"]) λ_ _ _ _ _ _ us hl=>fB us hl λ_=>rfl;obtain⟨_,zw,Gj⟩:=bc l_qyv;have GB:=zw.binds (ps:=["_law_piece", "_law_due", "_law_fill"]) λ_ _ _ _ _ _ us hl=>mF us hl λ_ _ _=>rfl;obtain⟨_,zq,F8⟩:=bc l_qyj
 have Cg:=zq.binds (ps:=["_law_there", "_law_due", "_law_root"]) λ_ _ _ _ _ _ us hl=>mF us hl λ_ _ _=>rfl;obtain⟨_,zI,FF⟩:=bc l_qyy;have Dl:=zI.binds (ps:=["_law_there", "_law_keys"]) λ_ _ _ _ _ _ us hl=>g9 us hl λ_ _=>rfl;obtain⟨_,zo,CO⟩:=bc l_qzx;have Ed:=zo.binds (ps:=["_law_found"]) λ_ _ _ _ _ _ us hl=>fB us hl λ_=>rfl;obtain⟨_,zx,yp⟩:=bc l_qzv;have zT:=zx.binds (ps:=["_law_found", "_law_due"]) λ_ _ _ _ _ _ us hl=>g9 us hl λ_ _=>rfl;obtain⟨_,_,_,_,_,_,_,_,_,l_law,e_law,Gn⟩:=l_law;have Av:=qC l_law e_law Gn;have Kd:=Av.binds (ps:=["_law_script"]) λ_ _ _ _ _ _ us hl=>fB us hl λ_=>rfl;obtain⟨_,n1_bm,n2_bm,l_bm⟩:=l_bm
 have T:Txt K mg { Nu:=f_qxy,rq:=_,O7:=f_qqk,tR:=_,NT:=f_qwv,qL:=_,OL:=f_qzq,tT:=_,laid:=f_laid,kJ:=_,OF:=f_qqx,p8:=_,Oy:=f_qxz,qN:=_,Py:=f_qwq,qq:=_,tells:=f_tells,iZ:=_,wants:=f_wants,iU:=_,OI:=f_qxw,lQ:=_,Np:=f_qwx,oN:=_,mE:=f_aims,ku:=_,NM:=f_qxk,se:=_,OV:=f_qzw,pY:=_,taken:=f_taken,gb:=_,OM:=f_qqz,s_:=_,Pm:=f_qqq,t7:=_,NV:=f_qqy,p6:=_,O2:=f_qyx,sN:=_,Oj:=f_qqw,pz:=_,Pk:=f_qqj,sI:=_,O_:=f_qxx,rB:=_,NJ:=f_qww,uB:=_,N0:=f_qxv,sY:=_,kept:=f_kept,kE:=_,Od:=f_qwy,uF:=_,Of:=f_qwz,qJ:=_,NA:=f_qqv,qt:=_,Oh:=f_qwj,qB:=_,NB:=f_qzj,qK:=_,N8:=f_qyw,o7:=_,OK:=f_qwk,qd:=_,Og:=f_qyk,qh:=_,P5:=f_qxq,pM:=_,OD:=f_qzz,tG:=_,Ob:=f_qzk,oZ:=_,NN:=f_qyz,qR:=_,NK:=f_qzy,sV:=_,Qq:=f_qyv,oE:=_,Qu:=f_qyj,rD:=_,NP:=f_qyy,oB:=_,NR:=f_qzx,o9:=_,Pe:=f_qzv,qx:=_,Nq:=fa,pU:=_,vQ:=vQ,aO:=C_qxj,br:=br,aN:=aN }:={
  JM:=mg_of X G a_qxy
  Fx,
  DV,
  ye,
  CU:=mg_of X G a_qqk
  zG,
  AB,
  yk,
  KA:=mg_of X G a_qwv
  Ee,
  B_,
  yx,
  Kx:=mg_of X G a_qzq
  DH,
  EX,
  yi,
  FK:=mg_of X G a_laid
  xf,
  wJ,
  qW,
  JA:=mg_of X G a_qqx
  C4,
  Ff,
  xX,
  Jy:=mg_of X G a_qxz
  EY,
  Gk,
  yb,
  JN:=mg_of X G a_qwq
  CZ,
  DQ,
  zH,
  yw:=mg_of X G a_tells
  pX,
  qj,
  kG,
  yK:=mg_of X G a_wants
  tS,
  rP,
  kL,
  Dc:=⟨_,rfl,h_qxw⟩
  KG:=mg_of X G a_qxw
  zp,
  G0,
  yo,
  JR:=mg_of X G a_qwx
  DF,
  C2,
  yH,
  Gi:=mg_of X G a_aims
  wA,
  xh,
  oJ,
  KD:=mg_of X G a_qxk
  D4,
  Ep,
  yl,
  vh:=mg_of X G a_qzw
  nY,
  m6,
  zu,
  vp:=⟨_,rfl,h_taken⟩
  zL:=mg_of X G a_taken
  kA,
  uC,
  ki,
  Kk,
  Ca,
  zm,
  DZ,
  DR,
  zj,
  Dq,
  zA,
  z7,
  JF:=mg_of X G a_qyx
  CH,
  CM,
  zQ,
  JX:=mg_of X G a_qqw
  GZ,
  Dd,
  Ao,
  E8:=mg_of X G a_qqj
  yu,
  Aw,
  zh,
  JZ:=mg_of X G a_qxx
  E6,
  DO,
  x6,
  Kb:=mg_of X G a_qww
  B8,
  B5,
  AF,
  Gp:=mg_of X G a_qxv
  Ak,
  yf,
  zN,
  C0:=mg_of X G a_kept
  wN,
  xw,
  qO,
  vd:=mg_of X G a_qwy
  nA,
  mV,
  zd,
  lq:=mg_of X G a_qwz
  jO,
  jY,
  y6,
  JY:=mg_of X G a_qqv
  F9,
  ER,
  Al,
  KR:=mg_of X G a_qwj
  Gy,
  G2,
  zM,
  Kh:=mg_of X G a_qzj
  Ei,
  GR,
  yP,
  Jx:=mg_of X G a_qyw
  G9,
  Dv,
  AH,
  Kt:=mg_of X G a_qwk
  FA,
  Df,
  yc,
  Kg:=mg_of X G a_qyk
  GC,
  C6,
  zk,
  JS:=mg_of X G a_qxq
  ES,
  Fy,
  ym,
  De:=mg_of X G a_qzz
  AI,
  zi,
  yX,
  Ju:=mg_of X G a_qzk
  Ga,
  CT,
  yL,
  KL:=mg_of X G a_qyz
  EF,
  Gh,
  yT,
  JD:=mg_of X G a_qzy
  B6,
  DB,
  xZ,
  K0:=mg_of X G a_qyv
  Gj,
  GB,
  zw,
  KQ:=mg_of X G a_qyj
  F8,
  Cg,
  zq,
  KW:=mg_of X G a_qyy
  FF,
  Dl,
  zI,
  Ks:=mg_of X G a_qzx
  CO,
  Ed,
  zo,
  CP:=mg_of X G a_qzv
  yp,
  zT,
  zx,
  Qj:=mg_of X G a_law
  Gn,
  Kd,
  Av,
  z_:=mg_of X G z_
  bm:=⟨bm,_,mg_of X G a_bm,n1_bm,n2_bm,l_bm⟩
  yI:=mg_none_of X G yI
  qg:=mg_none_of X G qg
  jx:=mg_none_of X G jx
  kY:=mg_none_of X G kY
  bZ:=mg_none_of X G bZ
  dJ:=mg_none_of X G dJ
  gH:=mg_none_of X G gH
  iR:=mg_none_of X G iR
  fO:=mg_none_of X G fO
  yR:=mg_none_of X G yR
  cQ:=mg_none_of X G cQ
  yQ:=mg_none_of X G yQ
  EU:=mg_of X G ac_qxj
  bS:=⟨pg_qxj,hd_qxj,po_qxj,sa_qxj⟩
  J8,
  J3,
  F4:=⟨mm_qxj,a_qqz,i_qqz,kc_qxj⟩
  xM:=⟨a_qqy,i_qqy,Dq⟩
  E1:=⟨a_qqq,i_qqq,DZ⟩
  bR,
  dq,
  bM,
  bO,
  bw,
  c8:=c8 }
 exact⟨_,λs v=>.of_eq rfl,λbase _ _=>Qp T⟩
theorem walk{l:PySem.W.OpenLaw}{q:Program}{loose:List Str}{XP:(Str->Option Value)->Heap->Prop}{YP:World->Heap->Prop}{d:DefRec}{K:Params->Wf}{br aN:Addr}(hn:l.most=some 63)(hdf:d.params.defaults=[])(hne:br≠aN)
  (hY:∀(w:World) (h:Heap),YP w h->(K w.params).In h)
  (hT:∀(w:World) (h:Heap) (lo:List Str) (mean:ExcName->Option Value) (mg mb:So),(K w.params).In h->Top q lo mean mg mb h->∀T∈[br,aN],D9 (K w.params) h T)
  (F:∀(w:World) (mg:So) (fa:Addr) (h:Heap),(K w.params).In h->h.Ns mainGlobals mg->mg d.name=some (.ref fa)->
   ∃fd:FuncData,(∀(s:Shared) (u:Value),BindsTo s fd ⟨[u],[]⟩ [("_law_script", u)])/\∀base:Heap,(K w.params).In base->base.Ns mainGlobals mg->bg l.prog w (K w.params) mg base dm 11 fa fd ["_law_script"] (uu (K w.params) br aN)):
  PySem.W.WalkO q loose XP YP l.row.toRowW d [] (λf vs=>PySem.call f vs):=
 L2.B4 (n:=63) (k:=11) (x := "_law_script") (CX:=λ_=>dm) (sp:=λw=>uu (K w.params) br aN) hn (by decide) hdf ⟨rfl,by decide,by decide⟩ hY hT F (λ_ _ a ns hl hE hS=>⟨a,ns,rfl,hS,hl,hE _ (by simp),hE _ (by simp),hne,λ_=>rfl⟩) λ_ _ _ _ _ z=>z
end My
namespace Hd
open PySem PySem.W PySem.Calls PyProof.Rows
variable(P:Params)
noncomputable abbrev pw:Program:=PySem.Challenge.pw_joinload_k35_places_told
noncomputable def T(i:Nat):Stmt:=My.top i
noncomputable def C(i j:Nat):Stmt:=L2.inClass (My.top i) j
noncomputable abbrev k(P:Params)(x:Str)(t:Tok)(v:Value):DictEntry:=⟨PyData.keyHash P x,.str x t,v⟩
noncomputable abbrev fn(s:Stmt)(x q:Str)(dV kV doc pm:Value)(an:Option Addr)(cd ct:Value):FuncData:=fnOf x q (L2.fT s) (L2.d6 s) (L2.ai s) dV kV doc pm an cd ct
noncomputable abbrev e1:Obj:=⟨.type "tuple", none,.seq #[] 0,#[]⟩
noncomputable abbrev e2:Obj:=⟨.none,none,.fields #[],#[]⟩
noncomputable abbrev bp:Obj:=⟨.type "builtin_function_or_method", none,.fields #[.builtin "type.__prepare__", .type "type"],#[]⟩
noncomputable abbrev tu(x:Array Value):Obj:=⟨.type "tuple", none,.seq x 0,#[]⟩
noncomputable abbrev nf(x:Array Value):Obj:=⟨.none,none,.fields x,#[]⟩
noncomputable abbrev bs(a:Addr):Obj:=⟨.type "builtin_function_or_method", none,.fields #[.builtin "object.__init_subclass__", .ref a],#[]⟩
noncomputable abbrev su(a:Addr):Obj:=⟨.type "super", none,.fields #[.ref a,.ref a,.ref a],#[]⟩
noncomputable abbrev co(x q:Str)(t:Nat)(l a b:Int)(r:Addr)(o:Bool)(r2:Addr)(v:Value)(u:Nat):Obj:=⟨.type "code", none,.fields #[.str x t,.str q (t+1),.str "/claim/cut.py" (t+2),.int l 0,.int a 0,.int 0 0,.int 0 0,.int b 0,.ref r,.bool o,.int 181 0,.ref r2,.none,.none,.none,v,.int (Int.ofNat u) 0,.int l 0,.str "/claim/cut.py" (u+1)],#[]⟩
noncomputable abbrev cf(x q:Str)(t:Nat)(l a:Int)(r u:Nat):Obj:=⟨.type "code", none,.fields #[.str x t,.str q (t+1),.str "/claim/cut.py" (t+2),.int l 0,.int a 0,.int 0 0,.int 0 0,.int 3 0,.ref r,.bool true,.int 181 0,.ref (r+1),.none,.ref (r+2),.ref (r+3),.ref (r+4),.int (Int.ofNat u) 0,.int l 0,.str "/claim/cut.py" (u+1)],#[]⟩
noncomputable abbrev cc(x:Str)(b:Value)(s:Addr)(m:List Value)(d:Addr)(l:List Value)(o:Option Value)(t u:Nat)(n:String):Obj:=⟨.type "type", none,.cls ⟨x,[b],.ref s::m,d,x,true,[],l,false,none,false⟩,#[o,none,some (.str x t),some (.str x u),some (.builtin n),some (.bool true)]⟩
noncomputable def nl:List Nat->List Value
 |a::b::c::r=>.int (Int.ofNat a) 0::.int (Int.ofNat b) 0::.ref c::nl r
 |_=>[]
noncomputable abbrev fm(a b:Addr)(v:Value):Obj:=⟨.type "frame", none,.plain,#[some (.ref a),some (.ref 3),some (.ref b),none,some v,none,some (.ref 0)]⟩
noncomputable abbrev fo(s:Stmt)(x q m:Str)(t:Nat)(c:Addr):Obj:=⟨.type "function", none,.func (fn s x q .none .none .none (.str m t) none (.ref c) .none),#[]⟩
noncomputable abbrev ft(s:Stmt)(x q:Str):Obj:=⟨.none,none,.func { fn s x q .none .none .none .none none .none .none with globals:=0,closure:=[],builtins:=0 },#[]⟩
noncomputable abbrev di(l:List DictEntry)(n:Nat):Obj:=⟨.type "dict", none,.dict l.toArray n,#[]⟩
noncomputable def sv:List DictEntry->Nat->Value->List DictEntry
 |[],_,_=>[]
 |e::r,0,v=>⟨e.hash,e.key,v⟩::r
 |e::r,n+1,v=>e::sv r n v
noncomputable def od:List (Nat×Obj)->List (Nat×Obj)
 |[]=>[]
 | (i,o)::r=>match Nat.beq (i % 2) 1 with
  |true=>(i / 2,o)::od r
  |false=>od r
noncomputable def ev:List (Nat×Obj)->List (Nat×Obj)
 |[]=>[]
 | (i,o)::r=>match Nat.beq i 0 with
  |true=>ev r
  |false=>match Nat.beq (i % 2) 1 with
   |true=>ev r
   |false=>(i / 2 - 1,o)::ev r
noncomputable def KC(v:Obj):List (Nat×Obj)->Obj
 |[]=>v
 | (i,o)::r=>match Nat.beq i 0 with
  |true=>o
  |false=>KC v r
noncomputable def mg:Nat->BT->List (Nat×Obj)->BT
 |0,t,_=>t
 |f+1,t,d=>match d with
  |[]=>t
  |x::r=>match t with
   |.nil=>.node (KC default (x::r)) (mg f .nil (od (x::r))) (mg f .nil (ev (x::r)))
   |.node v a b=>.node (KC v (x::r)) (mg f a (od (x::r))) (mg f b (ev (x::r)))
noncomputable def bd:List Stmt:=behindTheImports pw
noncomputable def en:Env:={ scope:=pw.main.scope,locals:=mainNs,globals:=mainNs,cells:=[],code:=(.ref 13),frame:=some 14 }
noncomputable abbrev cE:Code:=.body bd en
noncomputable abbrev B:List Frame:=[topFrame ⟨0,0,0,0⟩]
noncomputable def li:Life:={ registered:=[],finalised:=[],alive:=[],known:=0,ids:=[],orphanDicts:=[],counting:=false,cnt:=⟨[]⟩,zero:=[],soft:=0,below:=false,collecting:=false,loading:=false,debug:=0,thresholds:=[2000,10,10],woke:=false,asked:=0,gcEnabled:=true,old:=[],middle:=[],young:=0,intoMiddle:=false }
noncomputable abbrev an:Option Value:=(some (.ref 6))
noncomputable abbrev sT(t:BT)(n k:Nat)(os:OsState):SharedT:=⟨t,n,li,⟨[]⟩,boot_drawn,k,os⟩
noncomputable abbrev sR(w:World)(n:Nat)(S S':World->OsState->SharedT)(l:List Stmt)(p p':Pos):Prop:=(λos=>segRunT treeTable pw w 11 an 1 n (S w os) (piecesOf l en cE p B))=λos=>some (.next,S' w os,cE,p')
noncomputable def Gs:Obj:=co "<module>" "<module>" 182 1 0 0 11 false 12 .none 185
noncomputable def Dx:Obj:=fm 13 3 (.str "__main__" 164)
noncomputable def Ha(P:Params):Heap:=⟨⟨boot_o_0 P::boot_o_1 P::boot_o_2 P::boot_o_3 P::boot_o_4 P::boot_o_5 P::boot_o_6 P::boot_o_7 P::boot_o_8 P::boot_o_9 P::boot_o_10 P::e1::e2::Gs::Dx::[]⟩,li⟩
noncomputable def S0(w:World)(os:OsState):Shared:=⟨boot_heap w.params,⟨[]⟩,boot_drawn,boot_toks,os⟩
noncomputable def Sa(w:World)(os:OsState):Shared:=⟨Ha w.params,⟨[]⟩,boot_drawn,187,os⟩
def Pre(w:World):Prop:=(λos=>topGo treeTable pw w 11 an 12 (S0 w os) (topStub pw))=λos=>some (Sa w os,⟨denote treeTable cE,cE,⟨0,0,0,0⟩,B⟩)
noncomputable def D0(P:Params):List (Nat×Obj):=(0,boot_o_0 P)::(1,boot_o_1 P)::(2,boot_o_2 P)::(3,boot_o_3 P)::(4,boot_o_4 P)::(5,boot_o_5 P)::(6,boot_o_6 P)::(7,boot_o_7 P)::(8,boot_o_8 P)::(9,boot_o_9 P)::(10,boot_o_10 P)::(11,e1)::(12,e2)::(13,Gs)::(14,Dx)::[]
noncomputable def T0(P:Params):BT:=mg 14 .nil (D0 P)
noncomputable def RG(w:World):OsState->SharedT:=sT (T0 w.params) 15 187
def S9(w:World):Prop:=(λos=>segRun treeTable pw w 11 an 1 1 (Sa w os) (blockOf bd en cE ⟨0,0,0,0⟩ B))=λos=>some (.next,(RG w os).abs,cE,⟨0,0,0,0⟩)
noncomputable def Oz(P:Params):List DictEntry:=[k P "__name__" 165 (.str "joinload.errors" 187),k P "__doc__" 166 .none,k P "__package__" 167 .none,k P "__loader__" 168 (.builtin "__main__.__loader__#opaque"),k P "__spec__" 169 .none,k P "__annotations__" 170 (.ref 6),k P "__builtins__" 171 (.ref 4),k P "__file__" 173 (.str "/claim/cut.py" 172),k P "__cached__" 174 .none,k P "JoinError" 206 (.ref 24),k P "Twice" 235 (.ref 44),k P "SameName" 260 (.ref 63)]
noncomputable def Rx:Obj:=⟨(.type "dict"),none,.dict (Oz P).toArray 12,#[]⟩
noncomputable def N5:Obj:=nf (nl [2,0,20,4,0,33,11,0,52]).toArray
noncomputable def Ka:=di [k P "__module__" 196 (.str "joinload.errors" 187),k P "__qualname__" 198 (.str "JoinError" 197),k P "__firstlineno__" 200 (.int 2 199),k P "__static_attributes__" 201 (.ref 22)] 4
noncomputable def K6:Obj:=co "JoinError" "JoinError" 191 2 0 0 18 false 19 .none 194
noncomputable def JO:Obj:=fm 20 17 (.str "joinload.errors" 187)
noncomputable def yj:=di [k P "__module__" 196 (.str "joinload.errors" 187),k P "__firstlineno__" 200 (.int 2 199),k P "__static_attributes__" 201 (.ref 22),k P "__weakref__" 203 (.ref 25),k P "__doc__" 204 .none] 3
noncomputable def Pl:Obj:=cc "JoinError" (.type "ValueError") 24 [.type "ValueError",.type "Exception",.type "BaseException",.type "object"] 23 [.ref 44,.ref 63] (some (.ref 15)) 189 197 "ValueError.__new__"
noncomputable def yC:Obj:=⟨(.type "getset_descriptor"),none,(.fields #[.str "__weakref__" 202,.ref 24,.builtin "ExceptionGroup.__weakref__",.none]),#[]⟩
noncomputable def KI:=di [k P "__module__" 214 (.str "joinload.errors" 187),k P "__qualname__" 216 (.str "Twice" 215),k P "__firstlineno__" 218 (.int 4 217),k P "__init__" 228 (.ref 41),k P "__static_attributes__" 232 (.ref 42)] 5
noncomputable def JE:Obj:=nf (nl [6,4,40]).toArray
noncomputable def Ke:Obj:=co "Twice" "Twice" 209 4 0 0 31 false 32 .none 212
noncomputable def Jv:Obj:=fm 33 30 (.str "joinload.errors" 187)
noncomputable def yW:Obj:=tu #[.str "self" 222,.str "name" 223,.str "one" 224,.str "other" 225]
noncomputable def JW:Obj:=ft (C 2 0) "__init__" "Twice.__init__"
noncomputable def zl:Obj:=cf "__init__" "Twice.__init__" 219 6 4 35 226
noncomputable def yF:Obj:=fo (C 2 0) "__init__" "Twice.__init__" "joinload.errors" 187 40
noncomputable def zO:Obj:=tu #[.str "name" 229,.str "one" 230,.str "other" 231]
noncomputable def zV:=di [k P "__module__" 214 (.str "joinload.errors" 187),k P "__firstlineno__" 218 (.int 4 217),k P "__init__" 228 (.ref 41),k P "__static_attributes__" 232 (.ref 42),k P "__doc__" 233 .none] 2
noncomputable def x9:Obj:=cc "Twice" (.ref 24) 44 [.ref 24,.type "ValueError",.type "Exception",.type "BaseException",.type "object"] 43 [] (some (.ref 28)) 207 215 "ValueError.__new__"
noncomputable def JC:=di [k P "__module__" 243 (.str "joinload.errors" 187),k P "__qualname__" 245 (.str "SameName" 244),k P "__firstlineno__" 247 (.int 11 246),k P "__init__" 255 (.ref 60),k P "__static_attributes__" 257 (.ref 61)] 5
noncomputable def Kj:Obj:=nf (nl [13,4,59]).toArray
noncomputable def J4:Obj:=co "SameName" "SameName" 238 11 0 0 50 false 51 .none 241
noncomputable def Ku:Obj:=fm 52 49 (.str "joinload.errors" 187)
noncomputable def za:Obj:=tu #[.str "self" 251,.str "name" 252]
noncomputable def Kz:Obj:=ft (C 3 0) "__init__" "SameName.__init__"
noncomputable def yG:Obj:=cf "__init__" "SameName.__init__" 248 13 2 54 253
noncomputable def Au:Obj:=fo (C 3 0) "__init__" "SameName.__init__" "joinload.errors" 187 59
noncomputable def Ab:Obj:=tu #[.str "name" 256]
noncomputable def Aa:=di [k P "__module__" 243 (.str "joinload.errors" 187),k P "__firstlineno__" 247 (.int 11 246),k P "__init__" 255 (.ref 60),k P "__static_attributes__" 257 (.ref 61),k P "__doc__" 258 .none] 2
noncomputable def yU:Obj:=cc "SameName" (.ref 24) 63 [.ref 24,.type "ValueError",.type "Exception",.type "BaseException",.type "object"] 62 [] (some (.ref 47)) 236 244 "ValueError.__new__"
noncomputable def Ru(P:Params)(r:List (Nat×Obj)):List (Nat×Obj):=(3,Rx P)::(12,N5)::(15,tu #[.type "ValueError"])::(16,bp)::(17,Ka P)::(18,e1)::(19,e2)::(20,K6)::(21,JO)::(22,e1)::(23,yj P)::(24,Pl)::(25,yC)::(26,su 24)::(27,bs 24)::(28,tu #[.ref 24])::(29,bp)::(30,KI P)::(31,e1)::(32,JE)::(33,Ke)::(34,Jv)::(35,e1)::(36,e2)::r
noncomputable def Sh(P:Params)(r:List (Nat×Obj)):List (Nat×Obj):=(37,yW)::(38,e1)::(39,JW)::(40,zl)::(41,yF)::(42,zO)::(43,zV P)::(44,x9)::(45,su 44)::(46,bs 44)::(47,tu #[.ref 24])::(48,bp)::(49,JC P)::(50,e1)::(51,Kj)::(52,J4)::(53,Ku)::(54,e1)::(55,e2)::(56,za)::(57,e1)::(58,Kz)::(59,yG)::(60,Au)::r
noncomputable def Su(P:Params)(r:List (Nat×Obj)):List (Nat×Obj):=(61,Ab)::(62,Aa P)::(63,yU)::(64,su 63)::(65,bs 63)::r
noncomputable def T1(P:Params):BT:=mg 14 (T0 P) (Ru P (Sh P (Su P ([]))))
noncomputable def Te(w:World):OsState->SharedT:=sT (T1 w.params) 66 261
noncomputable def L0:List Stmt:=My.top 0::My.top 1::My.top 2::My.top 3::[]
def P0(w:World):Prop:=sR w 690 RG Te L0 ⟨0,0,0,0⟩ ⟨11,0,15,24⟩
noncomputable def Px(P:Params):List DictEntry:=sv (Oz P) 0 (.str "joinload.shelves" 431)++[k P "Unmet" 287 (.ref 82),k P "WORD_COUNT" 291 (.int 4294967296 290),k P "wrapped" 298 (.ref 91),k P "pieces_by_name" 306 (.ref 96),k P "copied_piece" 312 (.ref 101),k P "copied_fills" 318 (.ref 106),k P "laid" 326 (.ref 111),k P "laid_with_ends" 340 (.ref 118),k P "in_order" 346 (.ref 123),k P "multiple_from" 354 (.ref 130),k P "tells" 362 (.ref 135),k P "wants" 380 (.ref 142),k P "names_of" 391 (.ref 149),k P "refuse_twice" 397 (.ref 154),k P "aims" 403 (.ref 159),k P "aim_by" 417 (.ref 166),k P "places_told" 430 (.ref 173),k P "taken" 438 (.ref 178)]
noncomputable def Rc:Obj:=⟨(.type "dict"),none,.dict (Px P).toArray 30,#[]⟩
noncomputable def Qa:Obj:=nf (nl [2,0,20,4,0,33,11,0,52,16,0,71,24,0,90,27,0,95,29,0,100,33,0,105,36,0,110,38,0,117,48,0,122,53,0,129,56,0,134,58,0,141,66,0,148,74,0,153,83,0,158,86,0,165,96,0,172,103,0,177]).toArray
noncomputable def y8:Obj:=cc "JoinError" (.type "ValueError") 24 [.type "ValueError",.type "Exception",.type "BaseException",.type "object"] 23 [.ref 44,.ref 63,.ref 82] (some (.ref 15)) 189 197 "ValueError.__new__"
noncomputable def J5:=di [k P "__module__" 268 (.str "joinload.errors" 187),k P "__qualname__" 270 (.str "Unmet" 269),k P "__firstlineno__" 272 (.int 16 271),k P "__init__" 281 (.ref 79),k P "__static_attributes__" 284 (.ref 80)] 5
noncomputable def KS:Obj:=nf (nl [18,4,78]).toArray
noncomputable def KH:Obj:=co "Unmet" "Unmet" 263 16 0 0 69 false 70 .none 266
noncomputable def KO:Obj:=fm 71 68 (.str "joinload.errors" 187)
noncomputable def Aj:Obj:=tu #[.str "self" 276,.str "name" 277,.str "piece" 278]
noncomputable def JV:Obj:=ft (C 4 0) "__init__" "Unmet.__init__"
noncomputable def zc:Obj:=cf "__init__" "Unmet.__init__" 273 18 3 73 279
noncomputable def zP:Obj:=fo (C 4 0) "__init__" "Unmet.__init__" "joinload.errors" 187 78
noncomputable def zR:Obj:=tu #[.str "name" 282,.str "piece" 283]
noncomputable def yg:=di [k P "__module__" 268 (.str "joinload.errors" 187),k P "__firstlineno__" 272 (.int 16 271),k P "__init__" 281 (.ref 79),k P "__static_attributes__" 284 (.ref 80),k P "__doc__" 285 .none] 2
noncomputable def Am:Obj:=cc "Unmet" (.ref 24) 82 [.ref 24,.type "ValueError",.type "Exception",.type "BaseException",.type "object"] 81 [] (some (.ref 66)) 261 269 "ValueError.__new__"
noncomputable def Ac:Obj:=tu #[.str "number" 295]
noncomputable def JL:Obj:=ft (T 7) "wrapped" "wrapped"
noncomputable def yz:Obj:=cf "wrapped" "wrapped" 292 24 1 85 296
noncomputable def yM:Obj:=fo (T 7) "wrapped" "wrapped" "joinload.bits" 288 90
noncomputable def K4:Obj:=ft (T 9) "pieces_by_name" "pieces_by_name"
noncomputable def yV:Obj:=co "pieces_by_name" "pieces_by_name" 301 27 1 3 92 true 93 (.ref 94) 304
noncomputable def yN:Obj:=fo (T 9) "pieces_by_name" "pieces_by_name" "joinload.pieces" 299 95
noncomputable def JP:Obj:=ft (T 10) "copied_piece" "copied_piece"
noncomputable def rT:Obj:=co "copied_piece" "copied_piece" 307 29 1 3 97 true 98 (.ref 99) 310
noncomputable def qX:Obj:=fo (T 10) "copied_piece" "copied_piece" "joinload.pieces" 299 100
noncomputable def DJ:Obj:=ft (T 11) "copied_fills" "copied_fills"
noncomputable def si:Obj:=co "copied_fills" "copied_fills" 313 33 1 3 102 true 103 (.ref 104) 316
noncomputable def oQ:Obj:=fo (T 11) "copied_fills" "copied_fills" "joinload.pieces" 299 105
noncomputable def Ef:Obj:=ft (T 13) "laid" "laid"
noncomputable def uw:Obj:=co "laid" "laid" 321 36 2 3 107 true 108 (.ref 109) 324
noncomputable def qp:Obj:=fo (T 13) "laid" "laid" "joinload.laying" 319 110
noncomputable def sM:Obj:=tu #[.str "pieces" 330,.str "keys" 331,.str "by_name" 332,.str "rows" 333,.str "end" 334,.str "key" 335,.str "stretch" 336,.str "place" 337]
noncomputable def DA:Obj:=ft (T 14) "laid_with_ends" "laid_with_ends"
noncomputable def qb:Obj:=cf "laid_with_ends" "laid_with_ends" 327 38 2 112 338
noncomputable def sL:Obj:=fo (T 14) "laid_with_ends" "laid_with_ends" "joinload.laying" 319 117
noncomputable def CK:Obj:=ft (T 15) "in_order" "in_order"
noncomputable def rG:Obj:=co "in_order" "in_order" 341 48 2 3 119 true 120 (.ref 121) 344
noncomputable def tP:Obj:=fo (T 15) "in_order" "in_order" "joinload.laying" 319 122
noncomputable def rW:Obj:=tu #[.str "number" 350,.str "step" 351]
noncomputable def Cy:Obj:=ft (T 16) "multiple_from" "multiple_from"
noncomputable def ql:Obj:=cf "multiple_from" "multiple_from" 347 53 2 124 352
noncomputable def q_:Obj:=fo (T 16) "multiple_from" "multiple_from" "joinload.laying" 319 129
noncomputable def Ck:Obj:=ft (T 18) "tells" "tells"
noncomputable def oV:Obj:=co "tells" "tells" 357 56 1 3 131 true 132 (.ref 133) 360
noncomputable def t8:Obj:=fo (T 18) "tells" "tells" "joinload.names" 355 134
noncomputable def ui:Obj:=tu #[.str "piece" 366,.str "own" 367,.str "wanted" 368,.str "kind" 369,.str "step" 370,.str "words" 371,.str "fills" 372,.str "at" 373,.str "rule" 374,.str "name" 375,.str "add" 376,.str "soft" 377]
noncomputable def Cp:Obj:=ft (T 19) "wants" "wants"
noncomputable def tX:Obj:=cf "wants" "wants" 363 58 1 136 378
noncomputable def uo:Obj:=fo (T 19) "wants" "wants" "joinload.names" 355 141
noncomputable def rh:Obj:=tu #[.str "pieces" 384,.str "ordered" 385,.str "names" 386,.str "sort" 387,.str "piece" 388]
noncomputable def FX:Obj:=ft (T 20) "names_of" "names_of"
noncomputable def ur:Obj:=cf "names_of" "names_of" 381 66 1 143 389
noncomputable def sS:Obj:=fo (T 20) "names_of" "names_of" "joinload.names" 355 148
noncomputable def Fl:Obj:=ft (T 21) "refuse_twice" "refuse_twice"
noncomputable def pH:Obj:=co "refuse_twice" "refuse_twice" 392 74 1 3 150 true 151 (.ref 152) 395
noncomputable def ug:Obj:=fo (T 21) "refuse_twice" "refuse_twice" "joinload.names" 355 153
noncomputable def Gm:Obj:=ft (T 22) "aims" "aims"
noncomputable def qY:Obj:=co "aims" "aims" 398 83 3 3 155 true 156 (.ref 157) 401
noncomputable def oA:Obj:=fo (T 22) "aims" "aims" "joinload.names" 355 158
noncomputable def sC:Obj:=tu #[.str "piece_name" 407,.str "own" 408,.str "names" 409,.str "fill" 410,.str "name" 411,.str "add" 412,.str "soft" 413,.str "place" 414]
noncomputable def Ge:Obj:=ft (T 23) "aim_by" "aim_by"
noncomputable def tY:Obj:=cf "aim_by" "aim_by" 404 86 4 160 415
noncomputable def ue:Obj:=fo (T 23) "aim_by" "aim_by" "joinload.names" 355 165
noncomputable def ud:Obj:=tu #[.str "piece" 421,.str "told_by" 422,.str "places" 423,.str "name" 424,.str "sort" 425,.str "stretch" 426,.str "offset" 427]
noncomputable def DS:Obj:=ft (T 24) "places_told" "places_told"
noncomputable def rA:Obj:=cf "places_told" "places_told" 418 96 2 167 428
noncomputable def uf:Obj:=fo (T 24) "places_told" "places_told" "joinload.names" 355 172
noncomputable def Hk:Obj:=ft (T 26) "taken" "taken"
noncomputable def oW:Obj:=co "taken" "taken" 433 103 3 3 174 true 175 (.ref 176) 436
noncomputable def ro:Obj:=fo (T 26) "taken" "taken" "joinload.shelves" 431 177
noncomputable def Rn(P:Params)(r:List (Nat×Obj)):List (Nat×Obj):=(3,Rc P)::(12,Qa)::(24,y8)::(66,tu #[.ref 24])::(67,bp)::(68,J5 P)::(69,e1)::(70,KS)::(71,KH)::(72,KO)::(73,e1)::(74,e2)::(75,Aj)::(76,e1)::(77,JV)::(78,zc)::(79,zP)::(80,zR)::(81,yg P)::(82,Am)::(83,su 82)::(84,bs 82)::(85,e1)::(86,e2)::r
noncomputable def Rm(P:Params)(r:List (Nat×Obj)):List (Nat×Obj):=(87,Ac)::(88,e1)::(89,JL)::(90,yz)::(91,yM)::(92,e1)::(93,e2)::(94,K4)::(95,yV)::(96,yN)::(97,e1)::(98,e2)::(99,JP)::(100,rT)::(101,qX)::(102,e1)::(103,e2)::(104,DJ)::(105,si)::(106,oQ)::(107,e1)::(108,e2)::(109,Ef)::(110,uw)::r
noncomputable def Q3(P:Params)(r:List (Nat×Obj)):List (Nat×Obj):=(111,qp)::(112,e1)::(113,e2)::(114,sM)::(115,e1)::(116,DA)::(117,qb)::(118,sL)::(119,e1)::(120,e2)::(121,CK)::(122,rG)::(123,tP)::(124,e1)::(125,e2)::(126,rW)::(127,e1)::(128,Cy)::(129,ql)::(130,q_)::(131,e1)::(132,e2)::(133,Ck)::(134,oV)::r
noncomputable def RR(P:Params)(r:List (Nat×Obj)):List (Nat×Obj):=(135,t8)::(136,e1)::(137,e2)::(138,ui)::(139,e1)::(140,Cp)::(141,tX)::(142,uo)::(143,e1)::(144,e2)::(145,rh)::(146,e1)::(147,FX)::(148,ur)::(149,sS)::(150,e1)::(151,e2)::(152,Fl)::(153,pH)::(154,ug)::(155,e1)::(156,e2)::(157,Gm)::(158,qY)::r
noncomputable def Rf(P:Params)(r:List (Nat×Obj)):List (Nat×Obj):=(159,oA)::(160,e1)::(161,e2)::(162,sC)::(163,e1)::(164,Ge)::(165,tY)::(166,ue)::(167,e1)::(168,e2)::(169,ud)::(170,e1)::(171,DS)::(172,rA)::(173,uf)::(174,e1)::(175,e2)::(176,Hk)::(177,oW)::(178,ro)::r
noncomputable def T2(P:Params):BT:=mg 14 (T1 P) (Rn P (Rm P (Q3 P (RR P (Rf P ([]))))))
noncomputable def SG(w:World):OsState->SharedT:=sT (T2 w.params) 179 439
noncomputable def L1:List Stmt:=My.top 4::My.top 5::My.top 6::My.top 7::My.top 8::My.top 9::My.top 10::My.top 11::My.top 12::My.top 13::My.top 14::My.top 15::My.top 16::My.top 17::My.top 18::My.top 19::My.top 20::My.top 21::My.top 22::My.top 23::My.top 24::My.top 25::My.top 26::[]
def P1(w:World):Prop:=sR w 775 Te SG L1 ⟨11,0,15,24⟩ ⟨103,0,106,53⟩
noncomputable def P_(P:Params):List DictEntry:=sv (Px P) 0 (.str "law_joinload_k35_places_told" 569)++[k P "Taking" 496 (.ref 209),k P "pieces_on" 505 (.ref 220),k P "refuse_same_name" 515 (.ref 227),k P "first_tellers" 525 (.ref 234),k P "reached" 544 (.ref 241),k P "keys_aimed_at" 550 (.ref 246),k P "map_of" 562 (.ref 253),k P "kept" 568 (.ref 258),k P "_law_cell_at" 578 (.ref 265),k P "_law_name_by" 593 (.ref 272),k P "_law_word_row" 606 (.ref 279),k P "_law_told_by" 612 (.ref 284),k P "_law_drawn" 628 (.ref 291),k P "_law_copy" 634 (.ref 296),k P "_law_shelved" 645 (.ref 303),k P "_law_rest" 657 (.ref 310),k P "_law_told" 663 (.ref 315),k P "_law_wanted" 669 (.ref 320),k P "_law_first" 679 (.ref 327)]
noncomputable def Rj:Obj:=⟨(.type "dict"),none,.dict (P_ P).toArray 49,#[]⟩
noncomputable def Om:Obj:=nf (nl [2,0,20,4,0,33,11,0,52,16,0,71,24,0,90,27,0,95,29,0,100,33,0,105,36,0,110,38,0,117,48,0,122,53,0,129,56,0,134,58,0,141,66,0,148,74,0,153,83,0,158,86,0,165,96,0,172,103,0,177,107,0,184,143,0,219,148,0,226,157,0,233,164,0,240,178,0,245,183,0,252,186,0,257,190,0,264,194,0,271,207,0,278,218,0,283,228,0,290,246,0,295,249,0,302,256,0,309,263,0,314,265,0,319,272,0,326]).toArray
noncomputable def Dr:=di [k P "__module__" 446 (.str "joinload.shelves" 431),k P "__qualname__" 448 (.str "Taking" 447),k P "__firstlineno__" 450 (.int 107 449),k P "__init__" 462 (.ref 192),k P "take_for_pieces" 472 (.ref 199),k P "take_for" 482 (.ref 206),k P "__static_attributes__" 489 (.ref 207)] 7
noncomputable def EI:Obj:=nf (nl [109,4,191,124,4,198,132,4,205]).toArray
noncomputable def Fj:Obj:=co "Taking" "Taking" 441 107 0 0 182 false 183 .none 444
noncomputable def GV:Obj:=fm 184 181 (.str "joinload.shelves" 431)
noncomputable def sJ:Obj:=tu #[.str "self" 454,.str "given" 455,.str "shelves" 456,.str "entry" 457,.str "on_shelves" 458,.str "least" 459]
noncomputable def Fs:Obj:=ft (C 27 0) "__init__" "Taking.__init__"
noncomputable def oX:Obj:=cf "__init__" "Taking.__init__" 451 109 4 186 460
noncomputable def pA:Obj:=fo (C 27 0) "__init__" "Taking.__init__" "joinload.shelves" 431 191
noncomputable def tV:Obj:=tu #[.str "self" 466,.str "done" 467,.str "piece" 468,.str "name" 469]
noncomputable def Ce:Obj:=ft (C 27 1) "take_for_pieces" "Taking.take_for_pieces"
noncomputable def oR:Obj:=cf "take_for_pieces" "Taking.take_for_pieces" 463 124 1 193 470
noncomputable def sX:Obj:=fo (C 27 1) "take_for_pieces" "Taking.take_for_pieces" "joinload.shelves" 431 198
noncomputable def pJ:Obj:=tu #[.str "self" 476,.str "name" 477,.str "by" 478,.str "piece" 479]
noncomputable def G8:Obj:=ft (C 27 2) "take_for" "Taking.take_for"
noncomputable def rQ:Obj:=cf "take_for" "Taking.take_for" 473 132 3 200 480
noncomputable def sG:Obj:=fo (C 27 2) "take_for" "Taking.take_for" "joinload.shelves" 431 205
noncomputable def tO:Obj:=tu #[.str "from_shelves" 483,.str "on_shelves" 484,.str "pieces" 485,.str "reasons" 486,.str "told_by_given" 487,.str "unmet" 488]
noncomputable def Mi(P:Params):List DictEntry:=[k P "__module__" 446 (.str "joinload.shelves" 431),k P "__firstlineno__" 450 (.int 107 449),k P "__init__" 462 (.ref 192),k P "take_for_pieces" 472 (.ref 199),k P "take_for" 482 (.ref 206),k P "__static_attributes__" 489 (.ref 207),k P "__dict__" 491 (.ref 210),k P "__weakref__" 493 (.ref 211),k P "__doc__" 494 .none]
noncomputable def pN:Obj:=⟨(.type "dict"),none,.dict (Mi P).toArray 4,#[]⟩
noncomputable def rO:Obj:=cc "Taking" (.type "object") 209 [.type "object"] 208 [] none 439 447 "object.__new__"
noncomputable def rZ:Obj:=⟨(.type "getset_descriptor"),none,(.fields #[.str "__dict__" 490,.ref 209,.builtin "function.__dict__",.builtin "function.__dict__#set"]),#[]⟩
noncomputable def tM:Obj:=⟨(.type "getset_descriptor"),none,(.fields #[.str "__weakref__" 492,.ref 209,.builtin "ExceptionGroup.__weakref__",.none]),#[]⟩
noncomputable def pq:Obj:=tu #[.str "shelves" 500,.str "pieces" 501,.str "shelf" 502]
noncomputable def Ct:Obj:=ft (T 28) "pieces_on" "pieces_on"
noncomputable def pO:Obj:=cf "pieces_on" "pieces_on" 497 143 1 214 503
noncomputable def sF:Obj:=fo (T 28) "pieces_on" "pieces_on" "joinload.shelves" 431 219
noncomputable def tH:Obj:=tu #[.str "pieces" 509,.str "seen" 510,.str "again" 511,.str "piece" 512]
noncomputable def ET:Obj:=ft (T 29) "refuse_same_name" "refuse_same_name"
noncomputable def um:Obj:=cf "refuse_same_name" "refuse_same_name" 506 148 1 221 513
noncomputable def tD:Obj:=fo (T 29) "refuse_same_name" "refuse_same_name" "joinload.shelves" 431 226
noncomputable def sW:Obj:=tu #[.str "pieces" 519,.str "first" 520,.str "piece" 521,.str "name" 522]
noncomputable def Dj:Obj:=ft (T 30) "first_tellers" "first_tellers"
noncomputable def qQ:Obj:=cf "first_tellers" "first_tellers" 516 157 1 228 523
noncomputable def pB:Obj:=fo (T 30) "first_tellers" "first_tellers" "joinload.shelves" 431 233
noncomputable def rg:Obj:=tu #[.str "pieces" 531,.str "names" 532,.str "root" 533,.str "by_name" 534,.str "first" 535,.str "ways" 536,.str "seen" 537,.str "done" 538,.str "by" 539,.str "key" 540,.str "at" 541]
noncomputable def Cb:Obj:=ft (T 32) "reached" "reached"
noncomputable def uz:Obj:=cf "reached" "reached" 528 164 3 235 542
noncomputable def p9:Obj:=fo (T 32) "reached" "reached" "joinload.ways" 526 240
noncomputable def DW:Obj:=ft (T 33) "keys_aimed_at" "keys_aimed_at"
noncomputable def ub:Obj:=co "keys_aimed_at" "keys_aimed_at" 545 178 3 3 242 true 243 (.ref 244) 548
noncomputable def rE:Obj:=fo (T 33) "keys_aimed_at" "keys_aimed_at" "joinload.ways" 526 245
noncomputable def rL:Obj:=tu #[.str "given" 556,.str "shelves" 557,.str "entry" 558,.str "pieces" 559]
noncomputable def GO:Obj:=ft (T 35) "map_of" "map_of"
noncomputable def pL:Obj:=cf "map_of" "map_of" 553 183 3 247 560
noncomputable def r8:Obj:=fo (T 35) "map_of" "map_of" "joinload.joining" 551 252
noncomputable def Eu:Obj:=ft (T 36) "kept" "kept"
noncomputable def qV:Obj:=co "kept" "kept" 563 186 3 3 254 true 255 (.ref 256) 566
noncomputable def p7:Obj:=fo (T 36) "kept" "kept" "joinload.joining" 551 257
noncomputable def pd:Obj:=tu #[.str "_law_script" 574,.str "_law_k" 575]
noncomputable def Gz:Obj:=ft (T 38) "_law_cell_at" "_law_cell_at"
noncomputable def oH:Obj:=cf "_law_cell_at" "_law_cell_at" 571 190 2 259 576
noncomputable def uj:Obj:=fo (T 38) "_law_cell_at" "_law_cell_at" "law_joinload_k35_places_told" 569 264
noncomputable def uq:Obj:=tu #[.str "_law_cell" 582,.str "_law_k" 583,.str "_law_signs" 584,.str "_law_size" 585,.str "_law_at" 586,.str "_law_name" 587,.str "_law_j" 588,.str "_law_many" 589,.str "_law_place" 590]
noncomputable def G4:Obj:=ft (T 39) "_law_name_by" "_law_name_by"
noncomputable def sE:Obj:=cf "_law_name_by" "_law_name_by" 579 194 2 266 591
noncomputable def rj:Obj:=fo (T 39) "_law_name_by" "_law_name_by" "law_joinload_k35_places_told" 569 271
noncomputable def qP:Obj:=tu #[.str "_law_cell" 597,.str "_law_names_by" 598,.str "_law_what" 599,.str "_law_rest_here" 600,.str "_law_soft" 601,.str "_law_add" 602,.str "_law_rule" 603]
noncomputable def C9:Obj:=ft (T 40) "_law_word_row" "_law_word_row"
noncomputable def rN:Obj:=cf "_law_word_row" "_law_word_row" 594 207 2 273 604
noncomputable def pD:Obj:=fo (T 40) "_law_word_row" "_law_word_row" "law_joinload_k35_places_told" 569 278
noncomputable def EO:Obj:=ft (T 41) "_law_told_by" "_law_told_by"
noncomputable def uc:Obj:=co "_law_told_by" "_law_told_by" 607 218 4 3 280 true 281 (.ref 282) 610
noncomputable def pT:Obj:=fo (T 41) "_law_told_by" "_law_told_by" "law_joinload_k35_places_told" 569 283
noncomputable def qc:Obj:=tu #[.str "_law_cells" 616,.str "_law_names_by" 617,.str "_law_titles_by" 618,.str "_law_strict" 619,.str "_law_pieces" 620,.str "_law_cell" 621,.str "_law_what" 622,.str "_law_step" 623,.str "_law_stretch" 624,.str "_law_more" 625]
noncomputable def CC:Obj:=ft (T 42) "_law_drawn" "_law_drawn"
noncomputable def t6:Obj:=cf "_law_drawn" "_law_drawn" 613 228 4 285 626
noncomputable def qZ:Obj:=fo (T 42) "_law_drawn" "_law_drawn" "law_joinload_k35_places_told" 569 290
noncomputable def Hn:Obj:=ft (T 43) "_law_copy" "_law_copy"
noncomputable def tN:Obj:=co "_law_copy" "_law_copy" 629 246 1 3 292 true 293 (.ref 294) 632
noncomputable def uh:Obj:=fo (T 43) "_law_copy" "_law_copy" "law_joinload_k35_places_told" 569 295
noncomputable def tL:Obj:=tu #[.str "_law_pieces" 638,.str "_law_cell" 639,.str "_law_some" 640,.str "_law_mix" 641,.str "_law_piece" 642]
noncomputable def EE:Obj:=ft (T 44) "_law_shelved" "_law_shelved"
noncomputable def sy:Obj:=cf "_law_shelved" "_law_shelved" 635 249 2 297 643
noncomputable def tF:Obj:=fo (T 44) "_law_shelved" "_law_shelved" "law_joinload_k35_places_told" 569 302
noncomputable def o8:Obj:=tu #[.str "_law_names_by" 649,.str "_law_titles_by" 650,.str "_law_there" 651,.str "_law_told_here" 652,.str "_law_k" 653,.str "_law_name" 654]
noncomputable def EJ:Obj:=ft (T 45) "_law_rest" "_law_rest"
noncomputable def pZ:Obj:=cf "_law_rest" "_law_rest" 646 256 3 304 655
noncomputable def qU:Obj:=fo (T 45) "_law_rest" "_law_rest" "law_joinload_k35_places_told" 569 309
noncomputable def Et:Obj:=ft (T 46) "_law_told" "_law_told"
noncomputable def qi:Obj:=co "_law_told" "_law_told" 658 263 1 3 311 true 312 (.ref 313) 661
noncomputable def oF:Obj:=fo (T 46) "_law_told" "_law_told" "law_joinload_k35_places_told" 569 314
noncomputable def Ci:Obj:=ft (T 47) "_law_wanted" "_law_wanted"
noncomputable def pR:Obj:=co "_law_wanted" "_law_wanted" 664 265 1 3 316 true 317 (.ref 318) 667
noncomputable def tJ:Obj:=fo (T 47) "_law_wanted" "_law_wanted" "law_joinload_k35_places_told" 569 319
noncomputable def uA:Obj:=tu #[.str "_law_some" 673,.str "_law_name" 674,.str "_law_shelf" 675,.str "_law_piece" 676]
noncomputable def Fe:Obj:=ft (T 48) "_law_first" "_law_first"
noncomputable def r6:Obj:=cf "_law_first" "_law_first" 670 272 2 321 677
noncomputable def qE:Obj:=fo (T 48) "_law_first" "_law_first" "law_joinload_k35_places_told" 569 326
noncomputable def R7(P:Params)(r:List (Nat×Obj)):List (Nat×Obj):=(3,Rj P)::(12,Om)::(179,e1)::(180,bp)::(181,Dr P)::(182,e1)::(183,EI)::(184,Fj)::(185,GV)::(186,e1)::(187,e2)::(188,sJ)::(189,e1)::(190,Fs)::(191,oX)::(192,pA)::(193,e1)::(194,e2)::(195,tV)::(196,e1)::(197,Ce)::(198,oR)::(199,sX)::(200,e1)::r
noncomputable def Sm(P:Params)(r:List (Nat×Obj)):List (Nat×Obj):=(201,e2)::(202,pJ)::(203,e1)::(204,G8)::(205,rQ)::(206,sG)::(207,tO)::(208,pN P)::(209,rO)::(210,rZ)::(211,tM)::(212,su 209)::(213,bs 209)::(214,e1)::(215,e2)::(216,pq)::(217,e1)::(218,Ct)::(219,pO)::(220,sF)::(221,e1)::(222,e2)::(223,tH)::(224,e1)::r
noncomputable def Rg(P:Params)(r:List (Nat×Obj)):List (Nat×Obj):=(225,ET)::(226,um)::(227,tD)::(228,e1)::(229,e2)::(230,sW)::(231,e1)::(232,Dj)::(233,qQ)::(234,pB)::(235,e1)::(236,e2)::(237,rg)::(238,e1)::(239,Cb)::(240,uz)::(241,p9)::(242,e1)::(243,e2)::(244,DW)::(245,ub)::(246,rE)::(247,e1)::(248,e2)::r
noncomputable def RH(P:Params)(r:List (Nat×Obj)):List (Nat×Obj):=(249,rL)::(250,e1)::(251,GO)::(252,pL)::(253,r8)::(254,e1)::(255,e2)::(256,Eu)::(257,qV)::(258,p7)::(259,e1)::(260,e2)::(261,pd)::(262,e1)::(263,Gz)::(264,oH)::(265,uj)::(266,e1)::(267,e2)::(268,uq)::(269,e1)::(270,G4)::(271,sE)::(272,rj)::r
noncomputable def Rh(P:Params)(r:List (Nat×Obj)):List (Nat×Obj):=(273,e1)::(274,e2)::(275,qP)::(276,e1)::(277,C9)::(278,rN)::(279,pD)::(280,e1)::(281,e2)::(282,EO)::(283,uc)::(284,pT)::(285,e1)::(286,e2)::(287,qc)::(288,e1)::(289,CC)::(290,t6)::(291,qZ)::(292,e1)::(293,e2)::(294,Hn)::(295,tN)::(296,uh)::r
noncomputable def Rz(P:Params)(r:List (Nat×Obj)):List (Nat×Obj):=(297,e1)::(298,e2)::(299,tL)::(300,e1)::(301,EE)::(302,sy)::(303,tF)::(304,e1)::(305,e2)::(306,o8)::(307,e1)::(308,EJ)::(309,pZ)::(310,qU)::(311,e1)::(312,e2)::(313,Et)::(314,qi)::(315,oF)::(316,e1)::(317,e2)::(318,Ci)::(319,pR)::(320,tJ)::r
noncomputable def RM(P:Params)(r:List (Nat×Obj)):List (Nat×Obj):=(321,e1)::(322,e2)::(323,uA)::(324,e1)::(325,Fe)::(326,r6)::(327,qE)::r
noncomputable def T3(P:Params):BT:=mg 14 (T2 P) (R7 P (Sm P (Rg P (RH P (Rh P (Rz P (RM P ([]))))))))
noncomputable def S8(w:World):OsState->SharedT:=sT (T3 w.params) 328 680
noncomputable def L2:List Stmt:=My.top 27::My.top 28::My.top 29::My.top 30::My.top 31::My.top 32::My.top 33::My.top 34::My.top 35::My.top 36::My.top 37::My.top 38::My.top 39::My.top 40::My.top 41::My.top 42::My.top 43::My.top 44::My.top 45::My.top 46::My.top 47::My.top 48::[]
def P2(w:World):Prop:=sR w 888 SG S8 L2 ⟨103,0,106,53⟩ ⟨272,0,277,15⟩
noncomputable def RJ(P:Params):List DictEntry:=P_ P++[k P "_law_gone" 690 (.ref 334),k P "_law_stands" 704 (.ref 341),k P "_law_spot" 718 (.ref 348),k P "_law_kept" 732 (.ref 355),k P "_law_laid" 748 (.ref 362),k P "_law_whole" 755 (.ref 369),k P "_law_alike" 764 (.ref 376),k P "law" 770 (.ref 381)]
noncomputable def HG:Obj:=⟨(.type "dict"),none,.dict (RJ P).toArray 57,#[]⟩
noncomputable def Kv:Obj:=nf (nl [2,0,20,4,0,33,11,0,52,16,0,71,24,0,90,27,0,95,29,0,100,33,0,105,36,0,110,38,0,117,48,0,122,53,0,129,56,0,134,58,0,141,66,0,148,74,0,153,83,0,158,86,0,165,96,0,172,103,0,177,107,0,184,143,0,219,148,0,226,157,0,233,164,0,240,178,0,245,183,0,252,186,0,257,190,0,264,194,0,271,207,0,278,218,0,283,228,0,290,246,0,295,249,0,302,256,0,309,263,0,314,265,0,319,272,0,326,278,0,333,290,0,340,303,0,347,311,0,354,322,0,361,332,0,368,334,0,375,341,0,380]).toArray
noncomputable def t9:Obj:=tu #[.str "_law_some" 683,.str "_law_entry" 684,.str "_law_there" 685,.str "_law_left" 686,.str "_law_piece" 687]
noncomputable def Eh:Obj:=ft (T 49) "_law_gone" "_law_gone"
noncomputable def sU:Obj:=cf "_law_gone" "_law_gone" 680 278 2 328 688
noncomputable def rY:Obj:=fo (T 49) "_law_gone" "_law_gone" "law_joinload_k35_places_told" 569 333
noncomputable def qm:Obj:=tu #[.str "_law_there" 694,.str "_law_due" 695,.str "_law_weak" 696,.str "_law_title" 697,.str "_law_name" 698,.str "_law_sort" 699,.str "_law_stretch" 700,.str "_law_offset" 701]
noncomputable def Dm:Obj:=ft (T 50) "_law_stands" "_law_stands"
noncomputable def qv:Obj:=cf "_law_stands" "_law_stands" 691 290 1 335 702
noncomputable def tU:Obj:=fo (T 50) "_law_stands" "_law_stands" "law_joinload_k35_places_told" 569 340
noncomputable def pW:Obj:=tu #[.str "_law_piece" 708,.str "_law_due" 709,.str "_law_fill" 710,.str "_law_spot_here" 711,.str "_law_name" 712,.str "_law_sort" 713,.str "_law_stretch" 714,.str "_law_offset" 715]
noncomputable def Fm:Obj:=ft (T 51) "_law_spot" "_law_spot"
noncomputable def tf:Obj:=cf "_law_spot" "_law_spot" 705 303 3 342 716
noncomputable def tQ:Obj:=fo (T 51) "_law_spot" "_law_spot" "law_joinload_k35_places_told" 569 347
noncomputable def sZ:Obj:=tu #[.str "_law_there" 722,.str "_law_due" 723,.str "_law_root" 724,.str "_law_keys" 725,.str "_law_k" 726,.str "_law_piece" 727,.str "_law_fill" 728,.str "_law_spot_here" 729]
noncomputable def D5:Obj:=ft (T 52) "_law_kept" "_law_kept"
noncomputable def qk:Obj:=cf "_law_kept" "_law_kept" 719 311 3 349 730
noncomputable def rM:Obj:=fo (T 52) "_law_kept" "_law_kept" "law_joinload_k35_places_told" 569 354
noncomputable def qH:Obj:=tu #[.str "_law_there" 736,.str "_law_keys" 737,.str "_law_places" 738,.str "_law_end" 739,.str "_law_sort" 740,.str "_law_key" 741,.str "_law_kind" 742,.str "_law_step" 743,.str "_law_words" 744,.str "_law_fills" 745]
noncomputable def FL:Obj:=ft (T 53) "_law_laid" "_law_laid"
noncomputable def oS:Obj:=cf "_law_laid" "_law_laid" 733 322 2 356 746
noncomputable def pP:Obj:=fo (T 53) "_law_laid" "_law_laid" "law_joinload_k35_places_told" 569 361
noncomputable def sO:Obj:=tu #[.str "_law_found" 752]
noncomputable def Cw:Obj:=ft (T 54) "_law_whole" "_law_whole"
noncomputable def tE:Obj:=cf "_law_whole" "_law_whole" 749 332 1 363 753
noncomputable def oK:Obj:=fo (T 54) "_law_whole" "_law_whole" "law_joinload_k35_places_told" 569 368
noncomputable def tK:Obj:=tu #[.str "_law_found" 759,.str "_law_due" 760,.str "_law_key" 761]
noncomputable def Cz:Obj:=ft (T 55) "_law_alike" "_law_alike"
noncomputable def sD:Obj:=cf "_law_alike" "_law_alike" 756 334 2 370 762
noncomputable def qT:Obj:=fo (T 55) "_law_alike" "_law_alike" "law_joinload_k35_places_told" 569 375
noncomputable def FY:Obj:=ft (T 56) "law" "law"
noncomputable def qM:Obj:=co "law" "law" 765 341 1 3 377 true 378 (.ref 379) 768
noncomputable def uE:Obj:=fo (T 56) "law" "law" "law_joinload_k35_places_told" 569 380
noncomputable def RB(P:Params)(r:List (Nat×Obj)):List (Nat×Obj):=(3,HG P)::(12,Kv)::(328,e1)::(329,e2)::(330,t9)::(331,e1)::(332,Eh)::(333,sU)::(334,rY)::(335,e1)::(336,e2)::(337,qm)::(338,e1)::(339,Dm)::(340,qv)::(341,tU)::(342,e1)::(343,e2)::(344,pW)::(345,e1)::(346,Fm)::(347,tf)::(348,tQ)::(349,e1)::r
noncomputable def Sk(P:Params)(r:List (Nat×Obj)):List (Nat×Obj):=(350,e2)::(351,sZ)::(352,e1)::(353,D5)::(354,qk)::(355,rM)::(356,e1)::(357,e2)::(358,qH)::(359,e1)::(360,FL)::(361,oS)::(362,pP)::(363,e1)::(364,e2)::(365,sO)::(366,e1)::(367,Cw)::(368,tE)::(369,oK)::(370,e1)::(371,e2)::(372,tK)::(373,e1)::r
noncomputable def Sn(P:Params)(r:List (Nat×Obj)):List (Nat×Obj):=(374,Cz)::(375,sD)::(376,qT)::(377,e1)::(378,e2)::(379,FY)::(380,qM)::(381,uE)::r
noncomputable def T4(P:Params):BT:=mg 14 (T3 P) (RB P (Sk P (Sn P ([]))))
noncomputable def SM(w:World):OsState->SharedT:=sT (T4 w.params) 382 771
noncomputable def L3:List Stmt:=My.top 49::My.top 50::My.top 51::My.top 52::My.top 53::My.top 54::My.top 55::My.top 56::[]
def P3(w:World):Prop:=sR w 266 S8 SM L3 ⟨272,0,277,15⟩ ⟨341,0,357,75⟩
noncomputable def TU(P:Params)(r:List Obj):List Obj:=boot_o_0 P::boot_o_1 P::boot_o_2 P::HG P::boot_o_4 P::boot_o_5 P::boot_o_6 P::boot_o_7 P::boot_o_8 P::boot_o_9 P::boot_o_10 P::e1::Kv::Gs::Dx::tu #[.type "ValueError"]::bp::Ka P::e1::e2::K6::JO::e1::yj P::r
noncomputable def Tu(P:Params)(r:List Obj):List Obj:=y8::yC::su 24::bs 24::tu #[.ref 24]::bp::KI P::e1::JE::Ke::Jv::e1::e2::yW::e1::JW::zl::yF::zO::zV P::x9::su 44::bs 44::tu #[.ref 24]::r
noncomputable def Ui(P:Params)(r:List Obj):List Obj:=bp::JC P::e1::Kj::J4::Ku::e1::e2::za::e1::Kz::yG::Au::Ab::Aa P::yU::su 63::bs 63::tu #[.ref 24]::bp::J5 P::e1::KS::KH::r
noncomputable def Ut(P:Params)(r:List Obj):List Obj:=KO::e1::e2::Aj::e1::JV::zc::zP::zR::yg P::Am::su 82::bs 82::e1::e2::Ac::e1::JL::yz::yM::e1::e2::K4::yV::r
noncomputable def TR(P:Params)(r:List Obj):List Obj:=yN::e1::e2::JP::rT::qX::e1::e2::DJ::si::oQ::e1::e2::Ef::uw::qp::e1::e2::sM::e1::DA::qb::sL::e1::r
noncomputable def Uq(P:Params)(r:List Obj):List Obj:=e2::CK::rG::tP::e1::e2::rW::e1::Cy::ql::q_::e1::e2::Ck::oV::t8::e1::e2::ui::e1::Cp::tX::uo::e1::r
noncomputable def Ud(P:Params)(r:List Obj):List Obj:=e2::rh::e1::FX::ur::sS::e1::e2::Fl::pH::ug::e1::e2::Gm::qY::oA::e1::e2::sC::e1::Ge::tY::ue::e1::r
noncomputable def Ul(P:Params)(r:List Obj):List Obj:=e2::ud::e1::DS::rA::uf::e1::e2::Hk::oW::ro::e1::bp::Dr P::e1::EI::Fj::GV::e1::e2::sJ::e1::Fs::oX::r
noncomputable def TM(P:Params)(r:List Obj):List Obj:=pA::e1::e2::tV::e1::Ce::oR::sX::e1::e2::pJ::e1::G8::rQ::sG::tO::pN P::rO::rZ::tM::su 209::bs 209::e1::e2::r
noncomputable def Tg(P:Params)(r:List Obj):List Obj:=pq::e1::Ct::pO::sF::e1::e2::tH::e1::ET::um::tD::e1::e2::sW::e1::Dj::qQ::pB::e1::e2::rg::e1::Cb::r
noncomputable def Sr(P:Params)(r:List Obj):List Obj:=uz::p9::e1::e2::DW::ub::rE::e1::e2::rL::e1::GO::pL::r8::e1::e2::Eu::qV::p7::e1::e2::pd::e1::Gz::r
noncomputable def Ri(P:Params)(r:List Obj):List Obj:=oH::uj::e1::e2::uq::e1::G4::sE::rj::e1::e2::qP::e1::C9::rN::pD::e1::e2::EO::uc::pT::e1::e2::qc::r
noncomputable def RZ(P:Params)(r:List Obj):List Obj:=e1::CC::t6::qZ::e1::e2::Hn::tN::uh::e1::e2::tL::e1::EE::sy::tF::e1::e2::o8::e1::EJ::pZ::qU::e1::r
noncomputable def QR(P:Params)(r:List Obj):List Obj:=e2::Et::qi::oF::e1::e2::Ci::pR::tJ::e1::e2::uA::e1::Fe::r6::qE::e1::e2::t9::e1::Eh::sU::rY::e1::r
noncomputable def Q5(P:Params)(r:List Obj):List Obj:=e2::qm::e1::Dm::qv::tU::e1::e2::pW::e1::Fm::tf::tQ::e1::e2::sZ::e1::D5::qk::rM::e1::e2::qH::e1::r
noncomputable def RY(P:Params)(r:List Obj):List Obj:=FL::oS::pP::e1::e2::sO::e1::Cw::tE::oK::e1::e2::tK::e1::Cz::sD::qT::e1::e2::FY::qM::uE::r
noncomputable def Hf(P:Params):Heap:=⟨⟨TU P (Tu P (Ui P (Ut P (TR P (Uq P (Ud P (Ul P (TM P (Tg P (Sr P (Ri P (RZ P (QR P (Q5 P (RY P ([]))))))))))))))))⟩,li⟩
noncomputable def Sf(w:World)(os:OsState):Shared:=⟨Hf w.params,⟨[]⟩,boot_drawn,771,os⟩
def Fin(w:World):Prop:=(λos=>topRun treeTable pw w 11 an 2 (SM w os).abs ⟨doneF .next,cE,⟨341,0,357,75⟩,B⟩)=λos=>some (Sf w os)
noncomputable def q:Program:={ pw with main:={ pw.main with body:=My.top 1::My.top 2::My.top 3::My.top 4::My.top 6::My.top 7::My.top 9::My.top 10::My.top 11::My.top 13::My.top 14::My.top 15::My.top 16::My.top 18::My.top 19::My.top 20::My.top 21::My.top 22::My.top 23::My.top 24::My.top 26::My.top 27::My.top 28::My.top 29::My.top 30::My.top 32::My.top 33::My.top 35::My.top 36::My.top 38::My.top 39::My.top 40::My.top 41::My.top 42::My.top 43::My.top 44::My.top 45::My.top 46::My.top 47::My.top 48::My.top 49::My.top 50::My.top 51::My.top 52::My.top 53::My.top 54::My.top 55::My.top 56::[] } }
noncomputable def K(P:Params):Frag:=(nat_lit 2,boot_o_2 P)::(nat_lit 3,HG P)::(nat_lit 4,boot_o_4 P)::(nat_lit 15,tu #[.type "ValueError"])::(nat_lit 22,e1)::(nat_lit 23,yj P)::(nat_lit 24,y8)::(nat_lit 25,yC)::(nat_lit 28,tu #[.ref 24])::(nat_lit 35,e1)::(nat_lit 37,yW)::(nat_lit 38,e1)::(nat_lit 40,zl)::(nat_lit 41,yF)::(nat_lit 42,zO)::(nat_lit 43,zV P)::(nat_lit 44,x9)::(nat_lit 47,tu #[.ref 24])::(nat_lit 54,e1)::(nat_lit 56,za)::(nat_lit 57,e1)::(nat_lit 59,yG)::(nat_lit 60,Au)::(nat_lit 61,Ab)::(nat_lit 62,Aa P)::(nat_lit 63,yU)::(nat_lit 66,tu #[.ref 24])::(nat_lit 73,e1)::(nat_lit 75,Aj)::(nat_lit 76,e1)::(nat_lit 78,zc)::(nat_lit 79,zP)::(nat_lit 80,zR)::(nat_lit 81,yg P)::(nat_lit 82,Am)::(nat_lit 85,e1)::(nat_lit 87,Ac)::(nat_lit 88,e1)::(nat_lit 90,yz)::(nat_lit 91,yM)::(nat_lit 92,e1)::(nat_lit 95,yV)::(nat_lit 96,yN)::(nat_lit 97,e1)::(nat_lit 100,rT)::(nat_lit 101,qX)::(nat_lit 102,e1)::(nat_lit 105,si)::(nat_lit 106,oQ)::(nat_lit 107,e1)::(nat_lit 110,uw)::(nat_lit 111,qp)::(nat_lit 112,e1)::(nat_lit 114,sM)::(nat_lit 115,e1)::(nat_lit 117,qb)::(nat_lit 118,sL)::(nat_lit 119,e1)::(nat_lit 122,rG)::(nat_lit 123,tP)::(nat_lit 124,e1)::(nat_lit 126,rW)::(nat_lit 127,e1)::(nat_lit 129,ql)::(nat_lit 130,q_)::(nat_lit 131,e1)::(nat_lit 134,oV)::(nat_lit 135,t8)::(nat_lit 136,e1)::(nat_lit 138,ui)::(nat_lit 139,e1)::(nat_lit 141,tX)::(nat_lit 142,uo)::(nat_lit 143,e1)::(nat_lit 145,rh)::(nat_lit 146,e1)::(nat_lit 148,ur)::(nat_lit 149,sS)::(nat_lit 150,e1)::(nat_lit 153,pH)::(nat_lit 154,ug)::(nat_lit 155,e1)::(nat_lit 158,qY)::(nat_lit 159,oA)::(nat_lit 160,e1)::(nat_lit 162,sC)::(nat_lit 163,e1)::(nat_lit 165,tY)::(nat_lit 166,ue)::(nat_lit 167,e1)::(nat_lit 169,ud)::(nat_lit 170,e1)::(nat_lit 172,rA)::(nat_lit 173,uf)::(nat_lit 174,e1)::(nat_lit 177,oW)::(nat_lit 178,ro)::(nat_lit 186,e1)::(nat_lit 188,sJ)::(nat_lit 189,e1)::(nat_lit 191,oX)::(nat_lit 192,pA)::(nat_lit 193,e1)::(nat_lit 195,tV)::(nat_lit 196,e1)::(nat_lit 198,oR)::(nat_lit 199,sX)::(nat_lit 200,e1)::(nat_lit 202,pJ)::(nat_lit 203,e1)::(nat_lit 205,rQ)::(nat_lit 206,sG)::(nat_lit 207,tO)::(nat_lit 208,pN P)::(nat_lit 209,rO)::(nat_lit 210,rZ)::(nat_lit 211,tM)::(nat_lit 214,e1)::(nat_lit 216,pq)::(nat_lit 217,e1)::(nat_lit 219,pO)::(nat_lit 220,sF)::(nat_lit 221,e1)::(nat_lit 223,tH)::(nat_lit 224,e1)::(nat_lit 226,um)::(nat_lit 227,tD)::(nat_lit 228,e1)::(nat_lit 230,sW)::(nat_lit 231,e1)::(nat_lit 233,qQ)::(nat_lit 234,pB)::(nat_lit 235,e1)::(nat_lit 237,rg)::(nat_lit 238,e1)::(nat_lit 240,uz)::(nat_lit 241,p9)::(nat_lit 242,e1)::(nat_lit 245,ub)::(nat_lit 246,rE)::(nat_lit 247,e1)::(nat_lit 249,rL)::(nat_lit 250,e1)::(nat_lit 252,pL)::(nat_lit 253,r8)::(nat_lit 254,e1)::(nat_lit 257,qV)::(nat_lit 258,p7)::(nat_lit 259,e1)::(nat_lit 261,pd)::(nat_lit 262,e1)::(nat_lit 264,oH)::(nat_lit 265,uj)::(nat_lit 266,e1)::(nat_lit 268,uq)::(nat_lit 269,e1)::(nat_lit 271,sE)::(nat_lit 272,rj)::(nat_lit 273,e1)::(nat_lit 275,qP)::(nat_lit 276,e1)::(nat_lit 278,rN)::(nat_lit 279,pD)::(nat_lit 280,e1)::(nat_lit 283,uc)::(nat_lit 284,pT)::(nat_lit 285,e1)::(nat_lit 287,qc)::(nat_lit 288,e1)::(nat_lit 290,t6)::(nat_lit 291,qZ)::(nat_lit 292,e1)::(nat_lit 295,tN)::(nat_lit 296,uh)::(nat_lit 297,e1)::(nat_lit 299,tL)::(nat_lit 300,e1)::(nat_lit 302,sy)::(nat_lit 303,tF)::(nat_lit 304,e1)::(nat_lit 306,o8)::(nat_lit 307,e1)::(nat_lit 309,pZ)::(nat_lit 310,qU)::(nat_lit 311,e1)::(nat_lit 314,qi)::(nat_lit 315,oF)::(nat_lit 316,e1)::(nat_lit 319,pR)::(nat_lit 320,tJ)::(nat_lit 321,e1)::(nat_lit 323,uA)::(nat_lit 324,e1)::(nat_lit 326,r6)::(nat_lit 327,qE)::(nat_lit 328,e1)::(nat_lit 330,t9)::(nat_lit 331,e1)::(nat_lit 333,sU)::(nat_lit 334,rY)::(nat_lit 335,e1)::(nat_lit 337,qm)::(nat_lit 338,e1)::(nat_lit 340,qv)::(nat_lit 341,tU)::(nat_lit 342,e1)::(nat_lit 344,pW)::(nat_lit 345,e1)::(nat_lit 347,tf)::(nat_lit 348,tQ)::(nat_lit 349,e1)::(nat_lit 351,sZ)::(nat_lit 352,e1)::(nat_lit 354,qk)::(nat_lit 355,rM)::(nat_lit 356,e1)::(nat_lit 358,qH)::(nat_lit 359,e1)::(nat_lit 361,oS)::(nat_lit 362,pP)::(nat_lit 363,e1)::(nat_lit 365,sO)::(nat_lit 366,e1)::(nat_lit 368,tE)::(nat_lit 369,oK)::(nat_lit 370,e1)::(nat_lit 372,tK)::(nat_lit 373,e1)::(nat_lit 375,sD)::(nat_lit 376,qT)::(nat_lit 377,e1)::(nat_lit 380,qM)::(nat_lit 381,uE)::[]
noncomputable def Us(P:Params)(r:List (Nat×Obj)):List (Nat×Obj):=(2,boot_o_2 P)::(3,HG P)::(4,boot_o_4 P)::(15,tu #[.type "ValueError"])::(22,e1)::(23,yj P)::(24,y8)::(25,yC)::(28,tu #[.ref 24])::(35,e1)::(37,yW)::(38,e1)::(40,zl)::(41,yF)::(42,zO)::(43,zV P)::(44,x9)::(47,tu #[.ref 24])::(54,e1)::(56,za)::(57,e1)::(59,yG)::(60,Au)::(61,Ab)::r
noncomputable def TN(P:Params)(r:List (Nat×Obj)):List (Nat×Obj):=(62,Aa P)::(63,yU)::(66,tu #[.ref 24])::(73,e1)::(75,Aj)::(76,e1)::(78,zc)::(79,zP)::(80,zR)::(81,yg P)::(82,Am)::(85,e1)::(87,Ac)::(88,e1)::(90,yz)::(91,yM)::(92,e1)::(95,yV)::(96,yN)::(97,e1)::(100,rT)::(101,qX)::(102,e1)::(105,si)::r
noncomputable def T8(P:Params)(r:List (Nat×Obj)):List (Nat×Obj):=(106,oQ)::(107,e1)::(110,uw)::(111,qp)::(112,e1)::(114,sM)::(115,e1)::(117,qb)::(118,sL)::(119,e1)::(122,rG)::(123,tP)::(124,e1)::(126,rW)::(127,e1)::(129,ql)::(130,q_)::(131,e1)::(134,oV)::(135,t8)::(136,e1)::(138,ui)::(139,e1)::(141,tX)::r
noncomputable def TL(P:Params)(r:List (Nat×Obj)):List (Nat×Obj):=(142,uo)::(143,e1)::(145,rh)::(146,e1)::(148,ur)::(149,sS)::(150,e1)::(153,pH)::(154,ug)::(155,e1)::(158,qY)::(159,oA)::(160,e1)::(162,sC)::(163,e1)::(165,tY)::(166,ue)::(167,e1)::(169,ud)::(170,e1)::(172,rA)::(173,uf)::(174,e1)::(177,oW)::r
noncomputable def T5(P:Params)(r:List (Nat×Obj)):List (Nat×Obj):=(178,ro)::(186,e1)::(188,sJ)::(189,e1)::(191,oX)::(192,pA)::(193,e1)::(195,tV)::(196,e1)::(198,oR)::(199,sX)::(200,e1)::(202,pJ)::(203,e1)::(205,rQ)::(206,sG)::(207,tO)::(208,pN P)::(209,rO)::(210,rZ)::(211,tM)::(214,e1)::(216,pq)::(217,e1)::r
noncomputable def Tr(P:Params)(r:List (Nat×Obj)):List (Nat×Obj):=(219,pO)::(220,sF)::(221,e1)::(223,tH)::(224,e1)::(226,um)::(227,tD)::(228,e1)::(230,sW)::(231,e1)::(233,qQ)::(234,pB)::(235,e1)::(237,rg)::(238,e1)::(240,uz)::(241,p9)::(242,e1)::(245,ub)::(246,rE)::(247,e1)::(249,rL)::(250,e1)::(252,pL)::r
noncomputable def Uh(P:Params)(r:List (Nat×Obj)):List (Nat×Obj):=(253,r8)::(254,e1)::(257,qV)::(258,p7)::(259,e1)::(261,pd)::(262,e1)::(264,oH)::(265,uj)::(266,e1)::(268,uq)::(269,e1)::(271,sE)::(272,rj)::(273,e1)::(275,qP)::(276,e1)::(278,rN)::(279,pD)::(280,e1)::(283,uc)::(284,pT)::(285,e1)::(287,qc)::r
noncomputable def T_(P:Params)(r:List (Nat×Obj)):List (Nat×Obj):=(288,e1)::(290,t6)::(291,qZ)::(292,e1)::(295,tN)::(296,uh)::(297,e1)::(299,tL)::(300,e1)::(302,sy)::(303,tF)::(304,e1)::(306,o8)::(307,e1)::(309,pZ)::(310,qU)::(311,e1)::(314,qi)::(315,oF)::(316,e1)::(319,pR)::(320,tJ)::(321,e1)::(323,uA)::r
noncomputable def TF(P:Params)(r:List (Nat×Obj)):List (Nat×Obj):=(324,e1)::(326,r6)::(327,qE)::(328,e1)::(330,t9)::(331,e1)::(333,sU)::(334,rY)::(335,e1)::(337,qm)::(338,e1)::(340,qv)::(341,tU)::(342,e1)::(344,pW)::(345,e1)::(347,tf)::(348,tQ)::(349,e1)::(351,sZ)::(352,e1)::(354,qk)::(355,rM)::(356,e1)::r
noncomputable def TB(P:Params)(r:List (Nat×Obj)):List (Nat×Obj):=(358,qH)::(359,e1)::(361,oS)::(362,pP)::(363,e1)::(365,sO)::(366,e1)::(368,tE)::(369,oK)::(370,e1)::(372,tK)::(373,e1)::(375,sD)::(376,qT)::(377,e1)::(380,qM)::(381,uE)::r
noncomputable def K2(P:Params):Frag:=Us P (TN P (T8 P (TL P (T5 P (Tr P (Uh P (T_ P (TF P (TB P ([]))))))))))
noncomputable def as:List Addr:=nat_lit 2::nat_lit 3::nat_lit 4::nat_lit 15::nat_lit 22::nat_lit 23::nat_lit 24::nat_lit 25::nat_lit 28::nat_lit 35::nat_lit 37::nat_lit 38::nat_lit 40::nat_lit 41::nat_lit 42::nat_lit 43::nat_lit 44::nat_lit 47::nat_lit 54::nat_lit 56::nat_lit 57::nat_lit 59::nat_lit 60::nat_lit 61::nat_lit 62::nat_lit 63::nat_lit 66::nat_lit 73::nat_lit 75::nat_lit 76::nat_lit 78::nat_lit 79::nat_lit 80::nat_lit 81::nat_lit 82::nat_lit 85::nat_lit 87::nat_lit 88::nat_lit 90::nat_lit 91::nat_lit 92::nat_lit 95::nat_lit 96::nat_lit 97::nat_lit 100::nat_lit 101::nat_lit 102::nat_lit 105::nat_lit 106::nat_lit 107::nat_lit 110::nat_lit 111::nat_lit 112::nat_lit 114::nat_lit 115::nat_lit 117::nat_lit 118::nat_lit 119::nat_lit 122::nat_lit 123::nat_lit 124::nat_lit 126::nat_lit 127::nat_lit 129::nat_lit 130::nat_lit 131::nat_lit 134::nat_lit 135::nat_lit 136::nat_lit 138::nat_lit 139::nat_lit 141::nat_lit 142::nat_lit 143::nat_lit 145::nat_lit 146::nat_lit 148::nat_lit 149::nat_lit 150::nat_lit 153::nat_lit 154::nat_lit 155::nat_lit 158::nat_lit 159::nat_lit 160::nat_lit 162::nat_lit 163::nat_lit 165::nat_lit 166::nat_lit 167::nat_lit 169::nat_lit 170::nat_lit 172::nat_lit 173::nat_lit 174::nat_lit 177::nat_lit 178::nat_lit 186::nat_lit 188::nat_lit 189::nat_lit 191::nat_lit 192::nat_lit 193::nat_lit 195::nat_lit 196::nat_lit 198::nat_lit 199::nat_lit 200::nat_lit 202::nat_lit 203::nat_lit 205::nat_lit 206::nat_lit 207::nat_lit 208::nat_lit 209::nat_lit 210::nat_lit 211::nat_lit 214::nat_lit 216::nat_lit 217::nat_lit 219::nat_lit 220::nat_lit 221::nat_lit 223::nat_lit 224::nat_lit 226::nat_lit 227::nat_lit 228::nat_lit 230::nat_lit 231::nat_lit 233::nat_lit 234::nat_lit 235::nat_lit 237::nat_lit 238::nat_lit 240::nat_lit 241::nat_lit 242::nat_lit 245::nat_lit 246::nat_lit 247::nat_lit 249::nat_lit 250::nat_lit 252::nat_lit 253::nat_lit 254::nat_lit 257::nat_lit 258::nat_lit 259::nat_lit 261::nat_lit 262::nat_lit 264::nat_lit 265::nat_lit 266::nat_lit 268::nat_lit 269::nat_lit 271::nat_lit 272::nat_lit 273::nat_lit 275::nat_lit 276::nat_lit 278::nat_lit 279::nat_lit 280::nat_lit 283::nat_lit 284::nat_lit 285::nat_lit 287::nat_lit 288::nat_lit 290::nat_lit 291::nat_lit 292::nat_lit 295::nat_lit 296::nat_lit 297::nat_lit 299::nat_lit 300::nat_lit 302::nat_lit 303::nat_lit 304::nat_lit 306::nat_lit 307::nat_lit 309::nat_lit 310::nat_lit 311::nat_lit 314::nat_lit 315::nat_lit 316::nat_lit 319::nat_lit 320::nat_lit 321::nat_lit 323::nat_lit 324::nat_lit 326::nat_lit 327::nat_lit 328::nat_lit 330::nat_lit 331::nat_lit 333::nat_lit 334::nat_lit 335::nat_lit 337::nat_lit 338::nat_lit 340::nat_lit 341::nat_lit 342::nat_lit 344::nat_lit 345::nat_lit 347::nat_lit 348::nat_lit 349::nat_lit 351::nat_lit 352::nat_lit 354::nat_lit 355::nat_lit 356::nat_lit 358::nat_lit 359::nat_lit 361::nat_lit 362::nat_lit 363::nat_lit 365::nat_lit 366::nat_lit 368::nat_lit 369::nat_lit 370::nat_lit 372::nat_lit 373::nat_lit 375::nat_lit 376::nat_lit 377::nat_lit 380::nat_lit 381::[]
noncomputable def H:Hook:=kHook K as (λ_=>by kernel_rfl)
noncomputable abbrev R:WRecords:=RowW.records (OpenRow.toRowW (OpenLaw.row PySem.Challenge.rw_joinload_k35_places_told))
noncomputable abbrev Xt(s:Shared):Bool:=xlAt q [] s&&recOk R s
def OC(w:World):Prop:=((boot_heap w.params).isNs mainGlobals&&(⟨[]⟩:Array GenState).size == 0,(boot_heap w.params).objs.size,(boot_heap w.params).nsMap mainGlobals "__annotations__")=(true,11,an)
def LA(w:World):Prop:=(λos=>staticsOk (importedModules pw.main.body) (boot_heap w.params) (Hf w.params)&&namesBound pw (Hf w.params)&&gensDone (Sf w os)&&laidKept (boot_heap w.params) (Hf w.params))=λ_=>true
def SW(w:World):Prop:=(λos=>seen ((recsOf q).map (·.name)) (ownsOf q) [] { Sf w os with gens:=#[] })=λ_=>expectedOf q
def SA(w:World):Prop:=(λos=>(Sf w os).heap.bltView)=λ_=>bltViewBooted
def SF(w:World):Prop:=(λos=>(Sf w os).heap.keysOk (looseW q []) ((recsOf q).map (·.name)) ((litsOf q).map (·.1)) ((clssOf q (looseW q [])).map (·.name))&&(Sf w os).heap.accountedOkI (importedModules pw.main.body)&&(Sf w os).heap.isNs mainGlobals&&(Sf w os).heap.isNs builtinsNs&&tablesOk q (Sf w os).heap&&Xt (Sf w os)&&(if true then (Sf w os).gens.size == 0 else !leftWithCleanup (Sf w os).gens))=λ_=>true
def SE(w:World):Prop:=(λos=>tabsOk q (Sf w os))=λ_=>true
def Tb(w:World):Prop:=(λos=>pinSeenD q (drecsOf q) (Sf w os))=λ_=>pinGoodD (drecsOf q)
def Sx(w:World):Prop:=(λos=>plainSeenE q (looseW q []) (Sf w os))=λ_=>plainGoodE q (looseW q [])
def Td(w:World):Prop:=(λos=>plainSeenD q [] (Sf w os))=λ_=>plainGoodD q []
def SU(w:World):Prop:=(λos=>wideSeen q (Sf w os))=λ_=>wideGood q
def SH(w:World):Prop:=(λos=>clsSeenW q [] (Sf w os))=λ_=>clsGoodW q []
def Yk(w:World):Prop:=(λos=>as.map (Sf w os).heap.get?)=λ_=>(K2 w.params).map λp=>some p.2
theorem QZ:K=K2:=by kernel_rfl
end Hd
namespace Hd
open PySem PySem.W PySem.Calls PyProof.Rows
theorem OW(w:World):Pre w:=by
 delta Pre
 kernel_rfl
theorem Oc(w:World):S9 w:=by
 delta S9
 kernel_rfl
theorem Si(w:World):P0 w:=by
 delta P0
 kernel_rfl
theorem RW(w:World):P1 w:=by
 delta P1
 kernel_rfl
theorem RE(w:World):P2 w:=by
 delta P2
 kernel_rfl
theorem Ry(w:World):P3 w:=by
 delta P3
 kernel_rfl
theorem OB(w:World):Fin w:=by
 delta Fin
 kernel_rfl
theorem Mt(w:World):OC w:=by
 delta OC
 kernel_rfl
theorem RU(w:World):LA w:=by
 delta LA
 kernel_rfl
theorem OH(w:World):SW w:=by
 delta SW
 kernel_rfl
theorem O9(w:World):SA w:=by
 delta SA
 kernel_rfl
theorem N1(w:World):SF w:=by
 delta SF
 kernel_rfl
theorem O6(w:World):SE w:=by
 delta SE
 kernel_rfl
theorem Qk(w:World):Tb w:=by
 delta Tb
 kernel_rfl
theorem Qw(w:World):Sx w:=by
 delta Sx
 kernel_rfl
theorem P6(w:World):Td w:=by
 delta Td
 kernel_rfl
theorem PM(w:World):SU w:=by
 delta SU
 kernel_rfl
theorem OZ(w:World):SH w:=by
 delta SH
 kernel_rfl
theorem QS(w:World):Yk w:=by
 delta Yk
 kernel_rfl
noncomputable def R3:List Stmt:=L3++[]
noncomputable def R2:List Stmt:=L2++R3
noncomputable def R1:List Stmt:=L1++R2
noncomputable def R0:List Stmt:=L0++R1
theorem Qi:bd=R0:=by kernel_rfl
theorem Lv(w:World)(os:OsState):topRun treeTable pw w 11 an (690+(775+(888+(266+2)))) (RG w os).abs (restOf R0 en cE ⟨0,0,0,0⟩ B)=some (Sf w os):=
 (piece_app (l:=L0) (segRun_of (congrFun (Si w) os)) (piece_app (l:=L1) (segRun_of (congrFun (RW w) os)) (piece_app (l:=L2) (segRun_of (congrFun (RE w) os)) (piece_app (l:=L3) (segRun_of (congrFun (Ry w) os)) (congrFun (OB w) os)))))
theorem Ou(w:World)(os:OsState):topRun treeTable pw w 11 an (12+(1+(690+(775+(888+(266+2)))))) (S0 w os) (topStub pw)=some (Sf w os):=
 go_top (congrFun (OW w) os) (piece_block (congrFun (Oc w) os) (by
  rw[show restOf bd en cE ⟨0,0,0,0⟩ B=restOf R0 en cE ⟨0,0,0,0⟩ B from congrArg (λl=>restOf l en cE ⟨0,0,0,0⟩ B) Qi]
  exact Lv w os))
theorem Rt(w:World)(os:OsState):Hook.obs H (Sf w os)=Hook.val H w:=by
 show as.map (Sf w os).heap.get?=(K w.params).map λp=>some p.2
 rw[QZ];exact congrFun (QS w) os
theorem Mr:LeftO pw q [] Xt (Hook.obs H) (Hook.val H) 5356:=
 LeftO.of_pieces (H₀:=boot_heap) (H₁:=Hf) (m₀:=11) (ann:=an) (boot_open rfl rfl (λ_=>rfl)) Mt Ou (by decide +kernel) λw=>funext λos=>
  looks_pair (congrFun (RU w) os) (looks_pair
   (show openSeen q [] (importedModules pw.main.body) Xt true (Sf w os)=openGood q [] from
    looks_pair (congrFun (OH w) os) (looks_pair (congrFun (O9 w) os) (looks_pair (congrFun (N1 w) os) (looks_pair (congrFun (O6 w) os) (looks_pair (congrFun (Qk w) os) (looks_pair (congrFun (Qw w) os) (looks_pair (congrFun (P6 w) os) (looks_pair (congrFun (PM w) os) (congrFun (OZ w) os)))))))))
   (Rt w os))
end Hd
open PySem PySem.W PyProof.Rows
set_option maxRecDepth 100000 in
set_option maxHeartbeats 0 in
theorem PySem.Challenge.cw_joinload_k35_places_told_holds : PySem.Challenge.rw_joinload_k35_places_told.Holds := by
 w_on;refine holds_law (by kernel_rfl) λsaid=>?_
 refine holds_open (q:=Hd.q) (loose:=[]) (Xt:=Hd.Xt) (XP:=XL Hd.q []) (Yf:=Hook.obs Hd.H) (Ya:=Hook.val Hd.H) (YP:=InK Hd.K) Hd.Mr (Hook.of Hd.H) (Hook.keeps Hd.H) (λs e=>xl_of s (Bool.and_eq_true_iff.mp e).1) XL.keeps (by rfl) (by rfl) (by rfl) (λs e=>recFacts_of (Bool.and_eq_true_iff.mp e).2) (by rfl) (by first|assumption|decide +kernel) (by decide +kernel) ⟨rfl,rfl,rfl,rfl,rfl,by decide +kernel⟩ ?hw ?hc
 (case hw=>w_witness2)
 k_fill
 refine My.walk (l:=PySem.Challenge.rw_joinload_k35_places_told) (K:=Hd.K) (br:=144) (aN:=175) rfl rfl (by decide) (λw h Y=>Y) ?hT ?F
 case hT=>
  intro w h lo mean mg mb KX TP T hT
  simp only[List.mem_cons,List.not_mem_nil,or_false]at hT
  rcases hT with rfl|rfl
  ·refine' L2.Fc (x := "names_of") (y := "names_of") (st:=My.y9) (T:=144) KX TP (by kernel_rfl) _ _ _
   all_goals first|exact⟨_,_,_,_,_,_,_,_,_,by k_is,by k_is,by k_is,by kernel_rfl⟩|k_is|kernel_rfl|skip
  ·refine' L2.Fc (x := "taken") (y := "taken") (st:=My.kH) (T:=175) KX TP (by kernel_rfl) _ _ _
   all_goals first|exact⟨_,_,_,_,_,_,_,_,_,by k_is,by k_is,by k_is,by kernel_rfl⟩|k_is|kernel_rfl|skip
 case F=>
  intro w mg fa h KX G hmg
  refine' My.all_mk (br:=144) (aN:=175) KX G hmg _ _ _ _ _ _ _ _ _ _ _ _ _ _ _ _ _ _ _ _ _ _ _ _ _ _ _ _ _ _ _ _ _ _ _ _ _ _ _ _ _ _ _ _ _ _ _ _ _ _ _ _ _ _ _ _ _ _ _ _ _ _ _ _ _ _ _ _ _ _ _ _ _ _ _ _ _ _ _ _ _ _ _ _ _ _ _ _ _ _ _ _ _ _ _ _ _ _ _ _ _ _ _ _ _ _ _ _ _ _ _ _ _ _ _ _ _ _ _ _ _ _ _
  all_goals first|exact⟨_,_,_,_,_,_,_,_,_,by k_is,by k_is,by k_is⟩|exact⟨_,_,_,_,_,_,_,_,_,by k_is,by k_is,by k_is,by kernel_rfl⟩|exact⟨_,by decide,by decide,by k_is⟩|k_is|skip
#print axioms PySem.Challenge.cw_joinload_k35_places_told_holds
